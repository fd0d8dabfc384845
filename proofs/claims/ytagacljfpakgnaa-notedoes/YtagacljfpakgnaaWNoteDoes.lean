/-
  NoteDoes: the walk.
-/
import Derived.Test.YtagacljfpakgnaaNoteD2
namespace Go.Proofs.Ytagacljfpakgnaa
open Go.RowKit Go.Sort Go.Maps
attribute [local go_sem] Oper.semAt_some

theorem stL_len (l : List Ev) (i : Int) : (stL l i).length = l.length := by
  unfold stL
  split
  · split
    · rw [List.length_set]
    · rfl
  · rfl
theorem cnL_len (l : List Ev) (i c a t : Int) : (cnL l i c a t).length = l.length := by
  unfold cnL
  split
  · split
    · split
      · rw [List.length_set]
      · rfl
    · rfl
  · rfl
theorem enL_len' (l : List Ev) (i c a t : Int) : (enL l i c a t).length = l.length := by
  unfold enL
  split
  · split
    · rw [List.length_set]
    · rfl
  · rfl
def PP (l : List Ev) : Prop := ∀ x ∈ l, 0 ≤ x.p
theorem pp_set {l : List Ev} {j : Nat} {y : Ev} (h : PP l) (hy : 0 ≤ y.p) : PP (l.set j y) := fun x hx => by
  rcases List.mem_or_eq_of_mem_set hx with q | q
  · exact h x q
  · subst q; exact hy
theorem pp_bg {l : List Ev} (h : PP l) (i k n t : Int) : PP (bgL l i k n t) := by
  unfold bgL
  split
  · intro x hx
    rcases List.mem_append.1 hx with q | q
    · exact h x q
    · simp at q; subst q; exact Int.le_refl 0
  · exact h
theorem pp_st {l : List Ev} (h : PP l) (i : Int) : PP (stL l i) := by
  unfold stL
  cases hf : findI l i with
  | none => exact h
  | some j =>
    obtain ⟨x, hx, _⟩ := findI_some hf
    simp only [hx]
    exact pp_set h (h x (List.mem_of_getElem? hx))
theorem pp_en {l : List Ev} (h : PP l) (i c a t : Int) : PP (enL l i c a t) := by
  unfold enL
  cases hf : findI l i with
  | none => exact h
  | some j =>
    obtain ⟨x, hx, _⟩ := findI_some hf
    simp only [hx]
    exact pp_set h (h x (List.mem_of_getElem? hx))
theorem pp_cn {l : List Ev} (h : PP l) (i c a t : Int) (ht : 0 ≤ t) : PP (cnL l i c a t) := by
  unfold cnL
  cases hf : findI l i with
  | none => exact h
  | some j =>
    obtain ⟨x, hx, _⟩ := findI_some hf
    simp only [hx]
    split
    · exact pp_set h ht
    · exact h
/-- A Book turns; a row that is no part of it stands. -/
theorem Tn.row {bb : Nat} {v : Value} {o : Option Nat} {l' m : List Ev} {w w' : World} {u : Value} (h : Tn bb v o w l' w') (hu : EvRow w u m) (ha : ∀ b, u.ownBlock = some b → b ∉ bb :: foot v o) : ∃ v' o', Bn w' bb v' o' l' ∧ EvRow w' u m ∧ (∀ b, u.ownBlock = some b → b ∉ bb :: foot v' o') ∧ Only (bb :: foot v o) w w' ∧ ∀ b ∈ foot v' o', b ∈ foot v o ∨ w.heap.size ≤ b := by
  obtain ⟨v', o', h1, h2, h3⟩ := h
  refine ⟨v', o', h1, ORow.stay hu h2 ha, fun b e hm => ?_, h2, h3⟩
  rcases List.mem_cons.1 hm with q | q
  · exact ha b e (by rw [q]; simp)
  · rcases h3 b q with r | r
    · exact ha b e (List.mem_cons_of_mem _ r)
    · have := hu.lt' e; omega
set_option maxRecDepth 20000 in
set_option maxHeartbeats 8000000 in
theorem ndoes_walk (a1 : Option Addr) (n1 c1 : Nat) (Z0 Z1 Z2 Z3 Z4 Z5 Z6 : Nat → Int) (w : World) (hs : Hid (RowNt w a1 n1 Z0 Z1 Z2 Z3 Z4 Z5 Z6)) :
    Calls Try.prog 3 #[.slice a1 n1 c1] w fun e w' => e = .returned (.bool true) ∧ Below w.heap.size w w' := by
  go_enter Try.func3, Try.ntmps3
  go_wp2_with fail
  refine (speaks18_any w).mono ?_
  rintro e w1 ⟨rfl, hb⟩
  have E1 := Lib.hid hb
  clear hb
  by_cases hfew : 200 < (n1 : Int)
  · have h5 : decide (200 < (n1 : Int)) = true := by simpa using hfew
    go_wp2_with fail
    go_ret
    exact ⟨rfl, E1.out⟩
  have h5 : decide (200 < (n1 : Int)) = false := by simpa using hfew
  have hb := box1 w1 (.cells #[.slice none 0 0, .map none] 27)
  have S0 := Lib.hid (bn_new w1)
  have E2 := Lib.hid (E1.out.trans (hb.mono E1.out.size))
  have LN : Hid (w.heap.size ≤ w1.heap.size) := Lib.hid E1.out.size
  have F0 : Hid (∀ b ∈ w1.heap.size :: foot (.slice none 0 0) none, w1.heap.size ≤ b) := Lib.hid (fun b hb => by simp [foot, Value.ownBlock] at hb; omega)
  have Q0 : Hid (w1.heap.size ≤ (w1.alloc (.cells #[.slice none 0 0, .map none] 27)).heap.size) := Lib.hid hb.size
  clear hb E1
  go_upto_region 6 with fail
  generalize w1.alloc (.cells #[.slice none 0 0, .map none] 27) = w2 at *
  go_wp2_with fail
  go_loopw [4, 19] (fun u4 u19 wr => ∃ (j : Nat) (v : Value) (o : Option Nat) (l : List Ev), j ≤ n1 ∧ u19 = .int .i64 (j : Nat) ∧ l.length ≤ j ∧ Hid (Bn wr w1.heap.size v o l) ∧ Hid (∀ b ∈ w1.heap.size :: foot v o, w1.heap.size ≤ b) ∧ Hid (EvRow wr u4 l) ∧ Hid (∀ b, u4.ownBlock = some b → b ∉ w1.heap.size :: foot v o) ∧ Hid (PP l) ∧ Hid (w1.heap.size ≤ wr.heap.size) ∧ Hid (Below w.heap.size w wr)) (fun _ u19 _ => n1 - (intOf u19).toNat)
  case atStart => exact ⟨0, _, _, [], by omega, rfl, by simp, S0, F0, ORow.nil _, Lib.hid (fun b e => by cases e), Lib.hid (fun x h => by cases h), Q0, E2⟩
  case round =>
    obtain ⟨j, v, o, l, hj, rfl, hl, SS, FF, RR, AP, PQ, NN, EE⟩ := hrel
    by_cases hlt : j < n1
    · have l3 : (j : Int) < (n1 : Int) := by omega
      have R2 := Lib.hid (ORow.next RR.out (box1 wr (.cells #[.int .i64 (Z0 j), .int .i64 (Z1 j), .int .i64 (Z2 j), .int .i64 (Z3 j), .int .i64 (Z4 j), .int .i64 (Z5 j), .int .i64 (Z6 j)] 34)))
      have Zr := Lib.hid (hs.out.next EE.out)
      obtain ⟨ab, off, rfl, hab, q0, q1, q2, q3, q4, q5, q6⟩ := Zr.out.at hlt
      obtain ⟨_, w1', _, _, _, _, _⟩ := Zr.out.1.2 j hlt
      clear Zr
      generalize Z0 j = k0 at *
      generalize Z1 j = k1 at *
      generalize Z2 j = k2 at *
      generalize Z3 j = k3 at *
      generalize Z4 j = k4 at *
      generalize Z5 j = k5 at *
      generalize Z6 j = k6 at *
      have hb := box1 wr (.cells #[.int .i64 k0, .int .i64 k1, .int .i64 k2, .int .i64 k3, .int .i64 k4, .int .i64 k5, .int .i64 k6] 34)
      have S2 := Lib.hid (SS.out.next hb)
      have E2' := Lib.hid (EE.out.trans (hb.mono EE.out.size))
      have N2 : Hid (w1.heap.size ≤ (wr.alloc (.cells #[.int .i64 k0, .int .i64 k1, .int .i64 k2, .int .i64 k3, .int .i64 k4, .int .i64 k5, .int .i64 k6] 34)).heap.size) := Lib.hid (Nat.le_trans NN.out hb.size)
      clear hb
      have AX : Hid ((wr.alloc (.cells #[.int .i64 k0, .int .i64 k1, .int .i64 k2, .int .i64 k3, .int .i64 k4, .int .i64 k5, .int .i64 k6] 34)).heap[wr.heap.size]? = some (.cells #[.int .i64 k0, .int .i64 k1, .int .i64 k2, .int .i64 k3, .int .i64 k4, .int .i64 k5, .int .i64 k6] 34 (0, 0))) := heap_new wr _
      have AN : Hid (∀ b ∈ w1.heap.size :: foot v o, b < wr.heap.size) := Lib.hid SS.out.lt
      by_cases hg : k2 < 1
      · have g1 : decide (k2 < 1) = true := by simpa using hg
        go_wp2_with fail
        go_roundw
        case rel => exact ⟨j + 1, v, o, l, by omega, by push_cast; rfl, by omega, S2, FF, R2, AP, PQ, N2, E2'⟩
        case measure => simp [intOf]; omega
      · have g1 : decide (k2 < 1) = false := by simpa using hg
        by_cases h0 : k0 = 0
        · have gk0 : (k0 == 0) = true := by simpa using h0
          have HK := Lib.hid h0
          clear h0
          obtain ⟨B, hB⟩ : ∃ B, (findI l k1).isNone = B := ⟨_, rfl⟩
          have RC := rbegin_any u4 l k1 k3 k4 k2 (wr.alloc (.cells #[.int .i64 k0, .int .i64 k1, .int .i64 k2, .int .i64 k3, .int .i64 k4, .int .i64 k5, .int .i64 k6] 34)) R2 (by omega)
          rw [hB] at RC
          have RC := Lib.hid RC
          have HB := Lib.hid hB
          clear hB
          go_wp2_with fail
          refine RC.out.mono ?_
          rintro e w5 ⟨u5, rfl, t1, t2, t3⟩
          have R5 := Lib.hid t1
          have S5 := Lib.hid (S2.out.next t2)
          have E5 := Lib.hid (E2'.out.trans (t2.mono E2'.out.size))
          have N5 := Lib.hid (Nat.le_trans N2.out t2.size)
          have AX5 := Lib.hid ((t2.block _ (heap_lt AX.out)).trans AX.out)
          have AP5 : Hid (∀ b, u5.ownBlock = some b → b ∉ w1.heap.size :: foot v o) := Lib.hid (fun b e hm => by
            rcases t3 with q | q
            · rw [q] at e; exact AP.out b e hm
            · have := q b e; have := S2.out.lt b hm; omega)
          clear t1 t2 t3 RC S2 R2 AX E2' N2
          have b1' : w5.cell? ⟨wr.heap.size, 1, none⟩ = some (.int .i64 k1) := by rw [cell_of AX5.out]; rfl
          have b2' : w5.cell? ⟨wr.heap.size, 2, none⟩ = some (.int .i64 k2) := by rw [cell_of AX5.out]; rfl
          have b3' : w5.cell? ⟨wr.heap.size, 3, none⟩ = some (.int .i64 k3) := by rw [cell_of AX5.out]; rfl
          have b4' : w5.cell? ⟨wr.heap.size, 4, none⟩ = some (.int .i64 k4) := by rw [cell_of AX5.out]; rfl
          have CA := nbegin_any w1.heap.size v o l k1 k3 k4 k2 w5 S5 w1' (by omega)
          rw [HB.out] at CA
          have CA := Lib.hid CA
          go_wp2_with fail
          refine CA.out.mono ?_
          rintro e w6 ⟨rfl, tn⟩
          obtain ⟨v6, o6, t1, t2, t3, t4, t5⟩ := tn.row R5.out AP5.out
          have S6 := Lib.hid t1
          have R6 := Lib.hid t2
          have AP6 := Lib.hid t3
          have F6 : Hid (∀ b ∈ w1.heap.size :: foot v6 o6, w1.heap.size ≤ b) := Lib.hid (fun b hb => by
            rcases List.mem_cons.1 hb with q | q
            · omega
            · rcases t5 b q with r | r
              · exact FF.out b (List.mem_cons_of_mem _ r)
              · have := N5.out; omega)
          have AX6 := Lib.hid (t4.at AX5.out (fun hm => Nat.lt_irrefl _ (AN.out _ hm)))
          have E6 := Lib.hid (E5.out.trans (t4.below (fun b hb => Nat.le_trans LN.out (FF.out b hb)) E5.out.size))
          have N6 := Lib.hid (Nat.le_trans N5.out t4.size)
          clear tn t1 t2 t3 t4 t5 CA S5 R5 AP5 AX5 E5 N5 b1' b2' b3' b4'
          have hl6 : (bgL l k1 k3 k4 k2).length ≤ j + 1 := by unfold bgL; split <;> first | (simp; omega) | omega
          have PP6 : Hid (PP (bgL l k1 k3 k4 k2)) := Lib.hid (pp_bg PQ.out _ _ _ _)
          generalize bgL l k1 k3 k4 k2 = m at *
          have b1' : w6.cell? ⟨wr.heap.size, 1, none⟩ = some (.int .i64 k1) := by rw [cell_of AX6.out]; rfl
          have OP := Lib.hid (nopen_any w1.heap.size v6 o6 m k1 w6 S6 w1')
          go_wp2_with fail
          refine OP.out.mono ?_
          rintro e w7 ⟨rfl, hb⟩
          have S7 := S6.out.next hb
          have R7 := ORow.next R6.out hb
          have AX7 := (hb.block _ (heap_lt AX6.out)).trans AX6.out
          have E7 := E6.out.trans (hb.mono E6.out.size)
          have N7 := Nat.le_trans N6.out hb.size
          clear hb OP b1' S6 R6 AX6 E6 N6
          obtain ⟨z, hz⟩ : ∃ z, z = openE m k1 := ⟨_, rfl⟩
          rw [← hz]
          have HZ := Lib.hid hz
          clear hz
          have hb := box1 w7 (.cells #[.int .i64 z.w, .int .i64 z.k, .int .i64 z.n, .int .i64 z.c, .int .i64 z.a, .int .i64 z.s, .int .i64 z.b, .int .i64 z.p, .int .i64 z.e] 43)
          have ZB : Hid ((w7.alloc (.cells #[.int .i64 z.w, .int .i64 z.k, .int .i64 z.n, .int .i64 z.c, .int .i64 z.a, .int .i64 z.s, .int .i64 z.b, .int .i64 z.p, .int .i64 z.e] 43)).heap[w7.heap.size]? = some (.cells #[.int .i64 z.w, .int .i64 z.k, .int .i64 z.n, .int .i64 z.c, .int .i64 z.a, .int .i64 z.s, .int .i64 z.b, .int .i64 z.p, .int .i64 z.e] 43 (0, 0))) := heap_new w7 _
          have S8 := Lib.hid (S7.next hb)
          have R8 := Lib.hid (ORow.next R7 hb)
          have AX8 := Lib.hid ((hb.block _ (heap_lt AX7)).trans AX7)
          have E8 := Lib.hid (E7.trans (hb.mono E7.size))
          have N8 : Hid (w1.heap.size ≤ _) := Lib.hid (Nat.le_trans N7 hb.size)
          clear hb S7 R7 AX7 E7 N7
          go_upto_region 26 with fail
          generalize w7.alloc (.cells #[.int .i64 z.w, .int .i64 z.k, .int .i64 z.n, .int .i64 z.c, .int .i64 z.a, .int .i64 z.s, .int .i64 z.b, .int .i64 z.p, .int .i64 z.e] 43) = w8 at *
          generalize w7.heap.size = MB at *
          have b1' : w8.cell? ⟨wr.heap.size, 1, none⟩ = some (.int .i64 k1) := by rw [cell_of AX8.out]; rfl
          have FI := Lib.hid (rfind_any _ m k1 w8 R8 (by omega))
          go_wp2_with fail
          refine FI.out.mono ?_
          rintro e w9 ⟨rfl, rfl⟩
          clear FI b1' AX8
          have z0 : w8.cell? ⟨MB, 0, none⟩ = some (.int .i64 z.w) := by rw [cell_of ZB.out]; rfl
          have z1 : w8.cell? ⟨MB, 1, none⟩ = some (.int .i64 z.k) := by rw [cell_of ZB.out]; rfl
          have z2 : w8.cell? ⟨MB, 2, none⟩ = some (.int .i64 z.n) := by rw [cell_of ZB.out]; rfl
          have z3 : w8.cell? ⟨MB, 3, none⟩ = some (.int .i64 z.c) := by rw [cell_of ZB.out]; rfl
          have z4 : w8.cell? ⟨MB, 4, none⟩ = some (.int .i64 z.a) := by rw [cell_of ZB.out]; rfl
          have z5 : w8.cell? ⟨MB, 5, none⟩ = some (.int .i64 z.s) := by rw [cell_of ZB.out]; rfl
          have z6 : w8.cell? ⟨MB, 6, none⟩ = some (.int .i64 z.b) := by rw [cell_of ZB.out]; rfl
          have z7 : w8.cell? ⟨MB, 7, none⟩ = some (.int .i64 z.p) := by rw [cell_of ZB.out]; rfl
          have z8 : w8.cell? ⟨MB, 8, none⟩ = some (.int .i64 z.e) := by rw [cell_of ZB.out]; rfl
          cases hf : findI m k1 with
          | none =>
            have HE : z = ⟨0, 0, 0, 0, 0, 0, 0, 0, 0⟩ := by have := HZ.out; unfold openE at this; rw [hf] at this; exact this
            clear hf HZ
            subst HE
            dsimp only at z0 z1 z2 z3 z4 z5 z6 z7 z8
            simp only [rfI, Option.isSome_none]
            have j0 := cell_regrown z0
            have j1 := cell_regrown z1
            have j2 := cell_regrown z2
            have j3 := cell_regrown z3
            have j4 := cell_regrown z4
            have j5 := cell_regrown z5
            have j6 := cell_regrown z6
            have j7 := cell_regrown z7
            have j8 := cell_regrown z8
            cases B
            · go_upto_region 27 with fail
              refine wp_region_quiet_below (by kernel_rfl) (by kernel_rfl) ?_
              repeat (go_big_quiet_step (fail))
              refine wpQuiet_nil ?_
              intro _ hw'
              obtain ⟨⟨dq, osq⟩, hw''⟩ := hw'
              subst hw''
              have bg := below_regrown w8 dq osq
              have S9 := Lib.hid (S8.out.next bg)
              have R9 := Lib.hid (ORow.next R8.out bg)
              have E9 := Lib.hid (E8.out.trans (bg.mono E8.out.size))
              have N9 := Lib.hid (Nat.le_trans N8.out bg.size)
              clear bg j0 z0 j1 z1 j2 z2 j3 z3 j4 z4 j5 z5 j6 z6 j7 z7 j8 z8 S8 R8 E8 N8
              generalize Sort.grow (redrawn w8 dq) osq = wq at *
              go_wp2_with fail
              go_roundw
              case rel => exact ⟨j + 1, v6, o6, m, by omega, by push_cast; rfl, hl6, S9, F6, R9, AP6, PP6, N9, E9⟩
              case measure => simp [intOf]; omega
            · go_upto_region 27 with fail
              refine wp_region_quiet_below (by kernel_rfl) (by kernel_rfl) ?_
              repeat (go_big_quiet_step (fail))
              refine wpQuiet_nil ?_
              intro _ hw'
              obtain ⟨⟨dq, osq⟩, hw''⟩ := hw'
              subst hw''
              have bg := below_regrown w8 dq osq
              have S9 := Lib.hid (S8.out.next bg)
              have R9 := Lib.hid (ORow.next R8.out bg)
              have E9 := Lib.hid (E8.out.trans (bg.mono E8.out.size))
              have N9 := Lib.hid (Nat.le_trans N8.out bg.size)
              clear bg j0 z0 j1 z1 j2 z2 j3 z3 j4 z4 j5 z5 j6 z6 j7 z7 j8 z8 S8 R8 E8 N8
              generalize Sort.grow (redrawn w8 dq) osq = wq at *
              go_wp2_with fail
              go_roundw
              case rel => exact ⟨j + 1, v6, o6, m, by omega, by push_cast; rfl, hl6, S9, F6, R9, AP6, PP6, N9, E9⟩
              case measure => simp [intOf]; omega
          | some jj =>
            obtain ⟨x, hx, -, -, hjj, -⟩ := findI_some hf
            have HE : z = x := by have := HZ.out; unfold openE at this; rw [hf] at this; rw [this]; show m.getD jj evZ = x; rw [List.getD_eq_getElem?_getD, hx]; rfl
            clear hf
            subst HE
            obtain ⟨lb, cp, hv2, y0, y1, y2, y3, y4, y5, y6, y7, y8, _⟩ := EvRow.cells R8.out hx
            clear hx
            simp only [rfI, Option.isSome_some]
            have l6 : (jj : Int) < (m.length : Int) := by omega
            have g6 : decide (0 ≤ (jj : Int)) = true := by simp
            subst hv2
            have j0 := cell_regrown z0
            have j1 := cell_regrown z1
            have j2 := cell_regrown z2
            have j3 := cell_regrown z3
            have j4 := cell_regrown z4
            have j5 := cell_regrown z5
            have j6 := cell_regrown z6
            have j7 := cell_regrown z7
            have j8 := cell_regrown z8
            have i0 := cell_regrown y0
            have i1 := cell_regrown y1
            have i2 := cell_regrown y2
            have i3 := cell_regrown y3
            have i4 := cell_regrown y4
            have i5 := cell_regrown y5
            have i6 := cell_regrown y6
            have i7 := cell_regrown y7
            have i8 := cell_regrown y8
            cases B
            · go_upto_region 27 with fail
              refine wp_region_quiet_below (by kernel_rfl) (by kernel_rfl) ?_
              repeat (go_big_quiet_step (fail))
              refine wpQuiet_nil ?_
              intro _ hw'
              obtain ⟨⟨dq, osq⟩, hw''⟩ := hw'
              subst hw''
              have bg := below_regrown w8 dq osq
              have S9 := Lib.hid (S8.out.next bg)
              have R9 := Lib.hid (ORow.next R8.out bg)
              have E9 := Lib.hid (E8.out.trans (bg.mono E8.out.size))
              have N9 := Lib.hid (Nat.le_trans N8.out bg.size)
              clear bg j0 z0 i0 y0 j1 z1 i1 y1 j2 z2 i2 y2 j3 z3 i3 y3 j4 z4 i4 y4 j5 z5 i5 y5 j6 z6 i6 y6 j7 z7 i7 y7 j8 z8 i8 y8 S8 R8 E8 N8
              generalize Sort.grow (redrawn w8 dq) osq = wq at *
              go_wp2_with fail
              go_roundw
              case rel => exact ⟨j + 1, v6, o6, m, by omega, by push_cast; rfl, hl6, S9, F6, R9, AP6, PP6, N9, E9⟩
              case measure => simp [intOf]; omega
            · go_upto_region 27 with fail
              refine wp_region_quiet_below (by kernel_rfl) (by kernel_rfl) ?_
              repeat (go_big_quiet_step (fail))
              refine wpQuiet_nil ?_
              intro _ hw'
              obtain ⟨⟨dq, osq⟩, hw''⟩ := hw'
              subst hw''
              have bg := below_regrown w8 dq osq
              have S9 := Lib.hid (S8.out.next bg)
              have R9 := Lib.hid (ORow.next R8.out bg)
              have E9 := Lib.hid (E8.out.trans (bg.mono E8.out.size))
              have N9 := Lib.hid (Nat.le_trans N8.out bg.size)
              clear bg j0 z0 i0 y0 j1 z1 i1 y1 j2 z2 i2 y2 j3 z3 i3 y3 j4 z4 i4 y4 j5 z5 i5 y5 j6 z6 i6 y6 j7 z7 i7 y7 j8 z8 i8 y8 S8 R8 E8 N8
              generalize Sort.grow (redrawn w8 dq) osq = wq at *
              go_wp2_with fail
              go_roundw
              case rel => exact ⟨j + 1, v6, o6, m, by omega, by push_cast; rfl, hl6, S9, F6, R9, AP6, PP6, N9, E9⟩
              case measure => simp [intOf]; omega
        · have gk0 : (k0 == 0) = false := by simpa using h0
          by_cases h1 : k0 = 1
          · have gk1 : (k0 == 1) = true := by simpa using h1
            have HK := Lib.hid h1
            clear h1
            obtain ⟨B, hB⟩ : ∃ B, (findI l k1).isSome = B := ⟨_, rfl⟩
            have RC := rstep_any u4 l k1 (wr.alloc (.cells #[.int .i64 k0, .int .i64 k1, .int .i64 k2, .int .i64 k3, .int .i64 k4, .int .i64 k5, .int .i64 k6] 34)) R2 (by omega)
            rw [hB] at RC
            have RC := Lib.hid RC
            have HB := Lib.hid hB
            clear hB
            go_wp2_with fail
            refine RC.out.mono ?_
            rintro e w5 ⟨u5, rfl, t1, t2, t3⟩
            have R5 := Lib.hid t1
            have S5 := Lib.hid (S2.out.next t2)
            have E5 := Lib.hid (E2'.out.trans (t2.mono E2'.out.size))
            have N5 := Lib.hid (Nat.le_trans N2.out t2.size)
            have AX5 := Lib.hid ((t2.block _ (heap_lt AX.out)).trans AX.out)
            have AP5 : Hid (∀ b, u5.ownBlock = some b → b ∉ w1.heap.size :: foot v o) := Lib.hid (fun b e hm => by
              rcases t3 with q | q
              · rw [q] at e; exact AP.out b e hm
              · have := q b e; have := S2.out.lt b hm; omega)
            clear t1 t2 t3 RC S2 R2 AX E2' N2
            have b1' : w5.cell? ⟨wr.heap.size, 1, none⟩ = some (.int .i64 k1) := by rw [cell_of AX5.out]; rfl
            have CA := nstep_any w1.heap.size v o l k1 w5 S5 w1'
            rw [HB.out] at CA
            have CA := Lib.hid CA
            go_wp2_with fail
            refine CA.out.mono ?_
            rintro e w6 ⟨rfl, tn⟩
            obtain ⟨v6, o6, t1, t2, t3, t4, t5⟩ := tn.row R5.out AP5.out
            have S6 := Lib.hid t1
            have R6 := Lib.hid t2
            have AP6 := Lib.hid t3
            have F6 : Hid (∀ b ∈ w1.heap.size :: foot v6 o6, w1.heap.size ≤ b) := Lib.hid (fun b hb => by
              rcases List.mem_cons.1 hb with q | q
              · omega
              · rcases t5 b q with r | r
                · exact FF.out b (List.mem_cons_of_mem _ r)
                · have := N5.out; omega)
            have AX6 := Lib.hid (t4.at AX5.out (fun hm => Nat.lt_irrefl _ (AN.out _ hm)))
            have E6 := Lib.hid (E5.out.trans (t4.below (fun b hb => Nat.le_trans LN.out (FF.out b hb)) E5.out.size))
            have N6 := Lib.hid (Nat.le_trans N5.out t4.size)
            clear tn t1 t2 t3 t4 t5 CA S5 R5 AP5 AX5 E5 N5 b1'
            have hl6 : (stL l k1).length ≤ j + 1 := by rw [stL_len]; omega
            have PP6 : Hid (PP (stL l k1)) := Lib.hid (pp_st PQ.out _)
            generalize stL l k1 = m at *
            have b1' : w6.cell? ⟨wr.heap.size, 1, none⟩ = some (.int .i64 k1) := by rw [cell_of AX6.out]; rfl
            have OP := Lib.hid (nopen_any w1.heap.size v6 o6 m k1 w6 S6 w1')
            go_wp2_with fail
            refine OP.out.mono ?_
            rintro e w7 ⟨rfl, hb⟩
            have S7 := S6.out.next hb
            have R7 := ORow.next R6.out hb
            have AX7 := (hb.block _ (heap_lt AX6.out)).trans AX6.out
            have E7 := E6.out.trans (hb.mono E6.out.size)
            have N7 := Nat.le_trans N6.out hb.size
            clear hb OP b1' S6 R6 AX6 E6 N6
            obtain ⟨z, hz⟩ : ∃ z, z = openE m k1 := ⟨_, rfl⟩
            rw [← hz]
            have HZ := Lib.hid hz
            clear hz
            have hb := box1 w7 (.cells #[.int .i64 z.w, .int .i64 z.k, .int .i64 z.n, .int .i64 z.c, .int .i64 z.a, .int .i64 z.s, .int .i64 z.b, .int .i64 z.p, .int .i64 z.e] 43)
            have ZB : Hid ((w7.alloc (.cells #[.int .i64 z.w, .int .i64 z.k, .int .i64 z.n, .int .i64 z.c, .int .i64 z.a, .int .i64 z.s, .int .i64 z.b, .int .i64 z.p, .int .i64 z.e] 43)).heap[w7.heap.size]? = some (.cells #[.int .i64 z.w, .int .i64 z.k, .int .i64 z.n, .int .i64 z.c, .int .i64 z.a, .int .i64 z.s, .int .i64 z.b, .int .i64 z.p, .int .i64 z.e] 43 (0, 0))) := heap_new w7 _
            have S8 := Lib.hid (S7.next hb)
            have R8 := Lib.hid (ORow.next R7 hb)
            have AX8 := Lib.hid ((hb.block _ (heap_lt AX7)).trans AX7)
            have E8 := Lib.hid (E7.trans (hb.mono E7.size))
            have N8 : Hid (w1.heap.size ≤ _) := Lib.hid (Nat.le_trans N7 hb.size)
            clear hb S7 R7 AX7 E7 N7
            go_upto_region 26 with fail
            generalize w7.alloc (.cells #[.int .i64 z.w, .int .i64 z.k, .int .i64 z.n, .int .i64 z.c, .int .i64 z.a, .int .i64 z.s, .int .i64 z.b, .int .i64 z.p, .int .i64 z.e] 43) = w8 at *
            generalize w7.heap.size = MB at *
            have b1' : w8.cell? ⟨wr.heap.size, 1, none⟩ = some (.int .i64 k1) := by rw [cell_of AX8.out]; rfl
            have FI := Lib.hid (rfind_any _ m k1 w8 R8 (by omega))
            go_wp2_with fail
            refine FI.out.mono ?_
            rintro e w9 ⟨rfl, rfl⟩
            clear FI b1' AX8
            have z0 : w8.cell? ⟨MB, 0, none⟩ = some (.int .i64 z.w) := by rw [cell_of ZB.out]; rfl
            have z1 : w8.cell? ⟨MB, 1, none⟩ = some (.int .i64 z.k) := by rw [cell_of ZB.out]; rfl
            have z2 : w8.cell? ⟨MB, 2, none⟩ = some (.int .i64 z.n) := by rw [cell_of ZB.out]; rfl
            have z3 : w8.cell? ⟨MB, 3, none⟩ = some (.int .i64 z.c) := by rw [cell_of ZB.out]; rfl
            have z4 : w8.cell? ⟨MB, 4, none⟩ = some (.int .i64 z.a) := by rw [cell_of ZB.out]; rfl
            have z5 : w8.cell? ⟨MB, 5, none⟩ = some (.int .i64 z.s) := by rw [cell_of ZB.out]; rfl
            have z6 : w8.cell? ⟨MB, 6, none⟩ = some (.int .i64 z.b) := by rw [cell_of ZB.out]; rfl
            have z7 : w8.cell? ⟨MB, 7, none⟩ = some (.int .i64 z.p) := by rw [cell_of ZB.out]; rfl
            have z8 : w8.cell? ⟨MB, 8, none⟩ = some (.int .i64 z.e) := by rw [cell_of ZB.out]; rfl
            cases hf : findI m k1 with
            | none =>
              have HE : z = ⟨0, 0, 0, 0, 0, 0, 0, 0, 0⟩ := by have := HZ.out; unfold openE at this; rw [hf] at this; exact this
              clear hf HZ
              subst HE
              dsimp only at z0 z1 z2 z3 z4 z5 z6 z7 z8
              simp only [rfI, Option.isSome_none]
              have j0 := cell_regrown z0
              have j1 := cell_regrown z1
              have j2 := cell_regrown z2
              have j3 := cell_regrown z3
              have j4 := cell_regrown z4
              have j5 := cell_regrown z5
              have j6 := cell_regrown z6
              have j7 := cell_regrown z7
              have j8 := cell_regrown z8
              cases B
              · go_upto_region 27 with fail
                refine wp_region_quiet_below (by kernel_rfl) (by kernel_rfl) ?_
                repeat (go_big_quiet_step (fail))
                refine wpQuiet_nil ?_
                intro _ hw'
                obtain ⟨⟨dq, osq⟩, hw''⟩ := hw'
                subst hw''
                have bg := below_regrown w8 dq osq
                have S9 := Lib.hid (S8.out.next bg)
                have R9 := Lib.hid (ORow.next R8.out bg)
                have E9 := Lib.hid (E8.out.trans (bg.mono E8.out.size))
                have N9 := Lib.hid (Nat.le_trans N8.out bg.size)
                clear bg j0 z0 j1 z1 j2 z2 j3 z3 j4 z4 j5 z5 j6 z6 j7 z7 j8 z8 S8 R8 E8 N8
                generalize Sort.grow (redrawn w8 dq) osq = wq at *
                go_wp2_with fail
                go_roundw
                case rel => exact ⟨j + 1, v6, o6, m, by omega, by push_cast; rfl, hl6, S9, F6, R9, AP6, PP6, N9, E9⟩
                case measure => simp [intOf]; omega
              · go_upto_region 27 with fail
                refine wp_region_quiet_below (by kernel_rfl) (by kernel_rfl) ?_
                repeat (go_big_quiet_step (fail))
                refine wpQuiet_nil ?_
                intro _ hw'
                obtain ⟨⟨dq, osq⟩, hw''⟩ := hw'
                subst hw''
                have bg := below_regrown w8 dq osq
                have S9 := Lib.hid (S8.out.next bg)
                have R9 := Lib.hid (ORow.next R8.out bg)
                have E9 := Lib.hid (E8.out.trans (bg.mono E8.out.size))
                have N9 := Lib.hid (Nat.le_trans N8.out bg.size)
                clear bg j0 z0 j1 z1 j2 z2 j3 z3 j4 z4 j5 z5 j6 z6 j7 z7 j8 z8 S8 R8 E8 N8
                generalize Sort.grow (redrawn w8 dq) osq = wq at *
                go_wp2_with fail
                go_roundw
                case rel => exact ⟨j + 1, v6, o6, m, by omega, by push_cast; rfl, hl6, S9, F6, R9, AP6, PP6, N9, E9⟩
                case measure => simp [intOf]; omega
            | some jj =>
              obtain ⟨x, hx, -, -, hjj, -⟩ := findI_some hf
              have HE : z = x := by have := HZ.out; unfold openE at this; rw [hf] at this; rw [this]; show m.getD jj evZ = x; rw [List.getD_eq_getElem?_getD, hx]; rfl
              clear hf
              subst HE
              obtain ⟨lb, cp, hv2, y0, y1, y2, y3, y4, y5, y6, y7, y8, _⟩ := EvRow.cells R8.out hx
              clear hx
              simp only [rfI, Option.isSome_some]
              have l6 : (jj : Int) < (m.length : Int) := by omega
              have g6 : decide (0 ≤ (jj : Int)) = true := by simp
              subst hv2
              have j0 := cell_regrown z0
              have j1 := cell_regrown z1
              have j2 := cell_regrown z2
              have j3 := cell_regrown z3
              have j4 := cell_regrown z4
              have j5 := cell_regrown z5
              have j6 := cell_regrown z6
              have j7 := cell_regrown z7
              have j8 := cell_regrown z8
              have i0 := cell_regrown y0
              have i1 := cell_regrown y1
              have i2 := cell_regrown y2
              have i3 := cell_regrown y3
              have i4 := cell_regrown y4
              have i5 := cell_regrown y5
              have i6 := cell_regrown y6
              have i7 := cell_regrown y7
              have i8 := cell_regrown y8
              cases B
              · go_upto_region 27 with fail
                refine wp_region_quiet_below (by kernel_rfl) (by kernel_rfl) ?_
                repeat (go_big_quiet_step (fail))
                refine wpQuiet_nil ?_
                intro _ hw'
                obtain ⟨⟨dq, osq⟩, hw''⟩ := hw'
                subst hw''
                have bg := below_regrown w8 dq osq
                have S9 := Lib.hid (S8.out.next bg)
                have R9 := Lib.hid (ORow.next R8.out bg)
                have E9 := Lib.hid (E8.out.trans (bg.mono E8.out.size))
                have N9 := Lib.hid (Nat.le_trans N8.out bg.size)
                clear bg j0 z0 i0 y0 j1 z1 i1 y1 j2 z2 i2 y2 j3 z3 i3 y3 j4 z4 i4 y4 j5 z5 i5 y5 j6 z6 i6 y6 j7 z7 i7 y7 j8 z8 i8 y8 S8 R8 E8 N8
                generalize Sort.grow (redrawn w8 dq) osq = wq at *
                go_wp2_with fail
                go_roundw
                case rel => exact ⟨j + 1, v6, o6, m, by omega, by push_cast; rfl, hl6, S9, F6, R9, AP6, PP6, N9, E9⟩
                case measure => simp [intOf]; omega
              · go_upto_region 27 with fail
                refine wp_region_quiet_below (by kernel_rfl) (by kernel_rfl) ?_
                repeat (go_big_quiet_step (fail))
                refine wpQuiet_nil ?_
                intro _ hw'
                obtain ⟨⟨dq, osq⟩, hw''⟩ := hw'
                subst hw''
                have bg := below_regrown w8 dq osq
                have S9 := Lib.hid (S8.out.next bg)
                have R9 := Lib.hid (ORow.next R8.out bg)
                have E9 := Lib.hid (E8.out.trans (bg.mono E8.out.size))
                have N9 := Lib.hid (Nat.le_trans N8.out bg.size)
                clear bg j0 z0 i0 y0 j1 z1 i1 y1 j2 z2 i2 y2 j3 z3 i3 y3 j4 z4 i4 y4 j5 z5 i5 y5 j6 z6 i6 y6 j7 z7 i7 y7 j8 z8 i8 y8 S8 R8 E8 N8
                generalize Sort.grow (redrawn w8 dq) osq = wq at *
                go_wp2_with fail
                go_roundw
                case rel => exact ⟨j + 1, v6, o6, m, by omega, by push_cast; rfl, hl6, S9, F6, R9, AP6, PP6, N9, E9⟩
                case measure => simp [intOf]; omega
          · have gk1 : (k0 == 1) = false := by simpa using h1
            by_cases h2 : k0 = 2
            · have gk2 : (k0 == 2) = true := by simpa using h2
              have HK := Lib.hid h2
              clear h2
              obtain ⟨B, hB⟩ : ∃ B, cnB l k1 = B := ⟨_, rfl⟩
              have RC := rcount_any u4 l k1 k5 k6 k2 (wr.alloc (.cells #[.int .i64 k0, .int .i64 k1, .int .i64 k2, .int .i64 k3, .int .i64 k4, .int .i64 k5, .int .i64 k6] 34)) R2 (by omega) PQ.out
              rw [hB] at RC
              have RC := Lib.hid RC
              have HB := Lib.hid hB
              clear hB
              go_wp2_with fail
              refine RC.out.mono ?_
              rintro e w5 ⟨u5, rfl, t1, t2, t3⟩
              have R5 := Lib.hid t1
              have S5 := Lib.hid (S2.out.next t2)
              have E5 := Lib.hid (E2'.out.trans (t2.mono E2'.out.size))
              have N5 := Lib.hid (Nat.le_trans N2.out t2.size)
              have AX5 := Lib.hid ((t2.block _ (heap_lt AX.out)).trans AX.out)
              have AP5 : Hid (∀ b, u5.ownBlock = some b → b ∉ w1.heap.size :: foot v o) := Lib.hid (fun b e hm => by
                rcases t3 with q | q
                · rw [q] at e; exact AP.out b e hm
                · have := q b e; have := S2.out.lt b hm; omega)
              clear t1 t2 t3 RC S2 R2 AX E2' N2
              have b1' : w5.cell? ⟨wr.heap.size, 1, none⟩ = some (.int .i64 k1) := by rw [cell_of AX5.out]; rfl
              have b2' : w5.cell? ⟨wr.heap.size, 2, none⟩ = some (.int .i64 k2) := by rw [cell_of AX5.out]; rfl
              have b5' : w5.cell? ⟨wr.heap.size, 5, none⟩ = some (.int .i64 k5) := by rw [cell_of AX5.out]; rfl
              have b6' : w5.cell? ⟨wr.heap.size, 6, none⟩ = some (.int .i64 k6) := by rw [cell_of AX5.out]; rfl
              have CA := ncount_any w1.heap.size v o l k1 k5 k6 k2 w5 S5 w1'
              rw [HB.out] at CA
              have CA := Lib.hid CA
              go_wp2_with fail
              refine CA.out.mono ?_
              rintro e w6 ⟨rfl, tn⟩
              obtain ⟨v6, o6, t1, t2, t3, t4, t5⟩ := tn.row R5.out AP5.out
              have S6 := Lib.hid t1
              have R6 := Lib.hid t2
              have AP6 := Lib.hid t3
              have F6 : Hid (∀ b ∈ w1.heap.size :: foot v6 o6, w1.heap.size ≤ b) := Lib.hid (fun b hb => by
                rcases List.mem_cons.1 hb with q | q
                · omega
                · rcases t5 b q with r | r
                  · exact FF.out b (List.mem_cons_of_mem _ r)
                  · have := N5.out; omega)
              have AX6 := Lib.hid (t4.at AX5.out (fun hm => Nat.lt_irrefl _ (AN.out _ hm)))
              have E6 := Lib.hid (E5.out.trans (t4.below (fun b hb => Nat.le_trans LN.out (FF.out b hb)) E5.out.size))
              have N6 := Lib.hid (Nat.le_trans N5.out t4.size)
              clear tn t1 t2 t3 t4 t5 CA S5 R5 AP5 AX5 E5 N5 b1' b2' b5' b6'
              have hl6 : (cnL l k1 k5 k6 k2).length ≤ j + 1 := by rw [cnL_len]; omega
              have PP6 : Hid (PP (cnL l k1 k5 k6 k2)) := Lib.hid (pp_cn PQ.out _ _ _ _ (by omega))
              generalize cnL l k1 k5 k6 k2 = m at *
              have b1' : w6.cell? ⟨wr.heap.size, 1, none⟩ = some (.int .i64 k1) := by rw [cell_of AX6.out]; rfl
              have OP := Lib.hid (nopen_any w1.heap.size v6 o6 m k1 w6 S6 w1')
              go_wp2_with fail
              refine OP.out.mono ?_
              rintro e w7 ⟨rfl, hb⟩
              have S7 := S6.out.next hb
              have R7 := ORow.next R6.out hb
              have AX7 := (hb.block _ (heap_lt AX6.out)).trans AX6.out
              have E7 := E6.out.trans (hb.mono E6.out.size)
              have N7 := Nat.le_trans N6.out hb.size
              clear hb OP b1' S6 R6 AX6 E6 N6
              obtain ⟨z, hz⟩ : ∃ z, z = openE m k1 := ⟨_, rfl⟩
              rw [← hz]
              have HZ := Lib.hid hz
              clear hz
              have hb := box1 w7 (.cells #[.int .i64 z.w, .int .i64 z.k, .int .i64 z.n, .int .i64 z.c, .int .i64 z.a, .int .i64 z.s, .int .i64 z.b, .int .i64 z.p, .int .i64 z.e] 43)
              have ZB : Hid ((w7.alloc (.cells #[.int .i64 z.w, .int .i64 z.k, .int .i64 z.n, .int .i64 z.c, .int .i64 z.a, .int .i64 z.s, .int .i64 z.b, .int .i64 z.p, .int .i64 z.e] 43)).heap[w7.heap.size]? = some (.cells #[.int .i64 z.w, .int .i64 z.k, .int .i64 z.n, .int .i64 z.c, .int .i64 z.a, .int .i64 z.s, .int .i64 z.b, .int .i64 z.p, .int .i64 z.e] 43 (0, 0))) := heap_new w7 _
              have S8 := Lib.hid (S7.next hb)
              have R8 := Lib.hid (ORow.next R7 hb)
              have AX8 := Lib.hid ((hb.block _ (heap_lt AX7)).trans AX7)
              have E8 := Lib.hid (E7.trans (hb.mono E7.size))
              have N8 : Hid (w1.heap.size ≤ _) := Lib.hid (Nat.le_trans N7 hb.size)
              clear hb S7 R7 AX7 E7 N7
              go_upto_region 26 with fail
              generalize w7.alloc (.cells #[.int .i64 z.w, .int .i64 z.k, .int .i64 z.n, .int .i64 z.c, .int .i64 z.a, .int .i64 z.s, .int .i64 z.b, .int .i64 z.p, .int .i64 z.e] 43) = w8 at *
              generalize w7.heap.size = MB at *
              have b1' : w8.cell? ⟨wr.heap.size, 1, none⟩ = some (.int .i64 k1) := by rw [cell_of AX8.out]; rfl
              have FI := Lib.hid (rfind_any _ m k1 w8 R8 (by omega))
              go_wp2_with fail
              refine FI.out.mono ?_
              rintro e w9 ⟨rfl, rfl⟩
              clear FI b1' AX8
              have z0 : w8.cell? ⟨MB, 0, none⟩ = some (.int .i64 z.w) := by rw [cell_of ZB.out]; rfl
              have z1 : w8.cell? ⟨MB, 1, none⟩ = some (.int .i64 z.k) := by rw [cell_of ZB.out]; rfl
              have z2 : w8.cell? ⟨MB, 2, none⟩ = some (.int .i64 z.n) := by rw [cell_of ZB.out]; rfl
              have z3 : w8.cell? ⟨MB, 3, none⟩ = some (.int .i64 z.c) := by rw [cell_of ZB.out]; rfl
              have z4 : w8.cell? ⟨MB, 4, none⟩ = some (.int .i64 z.a) := by rw [cell_of ZB.out]; rfl
              have z5 : w8.cell? ⟨MB, 5, none⟩ = some (.int .i64 z.s) := by rw [cell_of ZB.out]; rfl
              have z6 : w8.cell? ⟨MB, 6, none⟩ = some (.int .i64 z.b) := by rw [cell_of ZB.out]; rfl
              have z7 : w8.cell? ⟨MB, 7, none⟩ = some (.int .i64 z.p) := by rw [cell_of ZB.out]; rfl
              have z8 : w8.cell? ⟨MB, 8, none⟩ = some (.int .i64 z.e) := by rw [cell_of ZB.out]; rfl
              cases hf : findI m k1 with
              | none =>
                have HE : z = ⟨0, 0, 0, 0, 0, 0, 0, 0, 0⟩ := by have := HZ.out; unfold openE at this; rw [hf] at this; exact this
                clear hf HZ
                subst HE
                dsimp only at z0 z1 z2 z3 z4 z5 z6 z7 z8
                simp only [rfI, Option.isSome_none]
                have j0 := cell_regrown z0
                have j1 := cell_regrown z1
                have j2 := cell_regrown z2
                have j3 := cell_regrown z3
                have j4 := cell_regrown z4
                have j5 := cell_regrown z5
                have j6 := cell_regrown z6
                have j7 := cell_regrown z7
                have j8 := cell_regrown z8
                cases B
                · go_upto_region 27 with fail
                  refine wp_region_quiet_below (by kernel_rfl) (by kernel_rfl) ?_
                  repeat (go_big_quiet_step (fail))
                  refine wpQuiet_nil ?_
                  intro _ hw'
                  obtain ⟨⟨dq, osq⟩, hw''⟩ := hw'
                  subst hw''
                  have bg := below_regrown w8 dq osq
                  have S9 := Lib.hid (S8.out.next bg)
                  have R9 := Lib.hid (ORow.next R8.out bg)
                  have E9 := Lib.hid (E8.out.trans (bg.mono E8.out.size))
                  have N9 := Lib.hid (Nat.le_trans N8.out bg.size)
                  clear bg j0 z0 j1 z1 j2 z2 j3 z3 j4 z4 j5 z5 j6 z6 j7 z7 j8 z8 S8 R8 E8 N8
                  generalize Sort.grow (redrawn w8 dq) osq = wq at *
                  go_wp2_with fail
                  go_roundw
                  case rel => exact ⟨j + 1, v6, o6, m, by omega, by push_cast; rfl, hl6, S9, F6, R9, AP6, PP6, N9, E9⟩
                  case measure => simp [intOf]; omega
                · go_upto_region 27 with fail
                  refine wp_region_quiet_below (by kernel_rfl) (by kernel_rfl) ?_
                  repeat (go_big_quiet_step (fail))
                  refine wpQuiet_nil ?_
                  intro _ hw'
                  obtain ⟨⟨dq, osq⟩, hw''⟩ := hw'
                  subst hw''
                  have bg := below_regrown w8 dq osq
                  have S9 := Lib.hid (S8.out.next bg)
                  have R9 := Lib.hid (ORow.next R8.out bg)
                  have E9 := Lib.hid (E8.out.trans (bg.mono E8.out.size))
                  have N9 := Lib.hid (Nat.le_trans N8.out bg.size)
                  clear bg j0 z0 j1 z1 j2 z2 j3 z3 j4 z4 j5 z5 j6 z6 j7 z7 j8 z8 S8 R8 E8 N8
                  generalize Sort.grow (redrawn w8 dq) osq = wq at *
                  go_wp2_with fail
                  go_roundw
                  case rel => exact ⟨j + 1, v6, o6, m, by omega, by push_cast; rfl, hl6, S9, F6, R9, AP6, PP6, N9, E9⟩
                  case measure => simp [intOf]; omega
              | some jj =>
                obtain ⟨x, hx, -, -, hjj, -⟩ := findI_some hf
                have HE : z = x := by have := HZ.out; unfold openE at this; rw [hf] at this; rw [this]; show m.getD jj evZ = x; rw [List.getD_eq_getElem?_getD, hx]; rfl
                clear hf
                subst HE
                obtain ⟨lb, cp, hv2, y0, y1, y2, y3, y4, y5, y6, y7, y8, _⟩ := EvRow.cells R8.out hx
                clear hx
                simp only [rfI, Option.isSome_some]
                have l6 : (jj : Int) < (m.length : Int) := by omega
                have g6 : decide (0 ≤ (jj : Int)) = true := by simp
                subst hv2
                have j0 := cell_regrown z0
                have j1 := cell_regrown z1
                have j2 := cell_regrown z2
                have j3 := cell_regrown z3
                have j4 := cell_regrown z4
                have j5 := cell_regrown z5
                have j6 := cell_regrown z6
                have j7 := cell_regrown z7
                have j8 := cell_regrown z8
                have i0 := cell_regrown y0
                have i1 := cell_regrown y1
                have i2 := cell_regrown y2
                have i3 := cell_regrown y3
                have i4 := cell_regrown y4
                have i5 := cell_regrown y5
                have i6 := cell_regrown y6
                have i7 := cell_regrown y7
                have i8 := cell_regrown y8
                cases B
                · go_upto_region 27 with fail
                  refine wp_region_quiet_below (by kernel_rfl) (by kernel_rfl) ?_
                  repeat (go_big_quiet_step (fail))
                  refine wpQuiet_nil ?_
                  intro _ hw'
                  obtain ⟨⟨dq, osq⟩, hw''⟩ := hw'
                  subst hw''
                  have bg := below_regrown w8 dq osq
                  have S9 := Lib.hid (S8.out.next bg)
                  have R9 := Lib.hid (ORow.next R8.out bg)
                  have E9 := Lib.hid (E8.out.trans (bg.mono E8.out.size))
                  have N9 := Lib.hid (Nat.le_trans N8.out bg.size)
                  clear bg j0 z0 i0 y0 j1 z1 i1 y1 j2 z2 i2 y2 j3 z3 i3 y3 j4 z4 i4 y4 j5 z5 i5 y5 j6 z6 i6 y6 j7 z7 i7 y7 j8 z8 i8 y8 S8 R8 E8 N8
                  generalize Sort.grow (redrawn w8 dq) osq = wq at *
                  go_wp2_with fail
                  go_roundw
                  case rel => exact ⟨j + 1, v6, o6, m, by omega, by push_cast; rfl, hl6, S9, F6, R9, AP6, PP6, N9, E9⟩
                  case measure => simp [intOf]; omega
                · go_upto_region 27 with fail
                  refine wp_region_quiet_below (by kernel_rfl) (by kernel_rfl) ?_
                  repeat (go_big_quiet_step (fail))
                  refine wpQuiet_nil ?_
                  intro _ hw'
                  obtain ⟨⟨dq, osq⟩, hw''⟩ := hw'
                  subst hw''
                  have bg := below_regrown w8 dq osq
                  have S9 := Lib.hid (S8.out.next bg)
                  have R9 := Lib.hid (ORow.next R8.out bg)
                  have E9 := Lib.hid (E8.out.trans (bg.mono E8.out.size))
                  have N9 := Lib.hid (Nat.le_trans N8.out bg.size)
                  clear bg j0 z0 i0 y0 j1 z1 i1 y1 j2 z2 i2 y2 j3 z3 i3 y3 j4 z4 i4 y4 j5 z5 i5 y5 j6 z6 i6 y6 j7 z7 i7 y7 j8 z8 i8 y8 S8 R8 E8 N8
                  generalize Sort.grow (redrawn w8 dq) osq = wq at *
                  go_wp2_with fail
                  go_roundw
                  case rel => exact ⟨j + 1, v6, o6, m, by omega, by push_cast; rfl, hl6, S9, F6, R9, AP6, PP6, N9, E9⟩
                  case measure => simp [intOf]; omega
            · have gk2 : (k0 == 2) = false := by simpa using h2
              by_cases h3 : k0 = 3
              · have gk3 : (k0 == 3) = true := by simpa using h3
                have HK := Lib.hid h3
                clear h3
                obtain ⟨B, hB⟩ : ∃ B, (findI l k1).isSome = B := ⟨_, rfl⟩
                have RC := rend_any u4 l k1 k5 k6 k2 (wr.alloc (.cells #[.int .i64 k0, .int .i64 k1, .int .i64 k2, .int .i64 k3, .int .i64 k4, .int .i64 k5, .int .i64 k6] 34)) R2 (by omega)
                rw [hB] at RC
                have RC := Lib.hid RC
                have HB := Lib.hid hB
                clear hB
                go_wp2_with fail
                refine RC.out.mono ?_
                rintro e w5 ⟨u5, rfl, t1, t2, t3⟩
                have R5 := Lib.hid t1
                have S5 := Lib.hid (S2.out.next t2)
                have E5 := Lib.hid (E2'.out.trans (t2.mono E2'.out.size))
                have N5 := Lib.hid (Nat.le_trans N2.out t2.size)
                have AX5 := Lib.hid ((t2.block _ (heap_lt AX.out)).trans AX.out)
                have AP5 : Hid (∀ b, u5.ownBlock = some b → b ∉ w1.heap.size :: foot v o) := Lib.hid (fun b e hm => by
                  rcases t3 with q | q
                  · rw [q] at e; exact AP.out b e hm
                  · have := q b e; have := S2.out.lt b hm; omega)
                clear t1 t2 t3 RC S2 R2 AX E2' N2
                have b1' : w5.cell? ⟨wr.heap.size, 1, none⟩ = some (.int .i64 k1) := by rw [cell_of AX5.out]; rfl
                have b2' : w5.cell? ⟨wr.heap.size, 2, none⟩ = some (.int .i64 k2) := by rw [cell_of AX5.out]; rfl
                have b5' : w5.cell? ⟨wr.heap.size, 5, none⟩ = some (.int .i64 k5) := by rw [cell_of AX5.out]; rfl
                have b6' : w5.cell? ⟨wr.heap.size, 6, none⟩ = some (.int .i64 k6) := by rw [cell_of AX5.out]; rfl
                have CA := nend_any w1.heap.size v o l k1 k5 k6 k2 w5 S5 w1' (by omega)
                rw [HB.out] at CA
                have CA := Lib.hid CA
                go_wp2_with fail
                refine CA.out.mono ?_
                rintro e w6 ⟨rfl, tn⟩
                obtain ⟨v6, o6, t1, t2, t3, t4, t5⟩ := tn.row R5.out AP5.out
                have S6 := Lib.hid t1
                have R6 := Lib.hid t2
                have AP6 := Lib.hid t3
                have F6 : Hid (∀ b ∈ w1.heap.size :: foot v6 o6, w1.heap.size ≤ b) := Lib.hid (fun b hb => by
                  rcases List.mem_cons.1 hb with q | q
                  · omega
                  · rcases t5 b q with r | r
                    · exact FF.out b (List.mem_cons_of_mem _ r)
                    · have := N5.out; omega)
                have AX6 := Lib.hid (t4.at AX5.out (fun hm => Nat.lt_irrefl _ (AN.out _ hm)))
                have E6 := Lib.hid (E5.out.trans (t4.below (fun b hb => Nat.le_trans LN.out (FF.out b hb)) E5.out.size))
                have N6 := Lib.hid (Nat.le_trans N5.out t4.size)
                clear tn t1 t2 t3 t4 t5 CA S5 R5 AP5 AX5 E5 N5 b1' b2' b5' b6'
                have hl6 : (enL l k1 k5 k6 k2).length ≤ j + 1 := by rw [enL_len']; omega
                have PP6 : Hid (PP (enL l k1 k5 k6 k2)) := Lib.hid (pp_en PQ.out _ _ _ _)
                generalize enL l k1 k5 k6 k2 = m at *
                have b1' : w6.cell? ⟨wr.heap.size, 1, none⟩ = some (.int .i64 k1) := by rw [cell_of AX6.out]; rfl
                have OP := Lib.hid (nopen_any w1.heap.size v6 o6 m k1 w6 S6 w1')
                go_wp2_with fail
                refine OP.out.mono ?_
                rintro e w7 ⟨rfl, hb⟩
                have S7 := S6.out.next hb
                have R7 := ORow.next R6.out hb
                have AX7 := (hb.block _ (heap_lt AX6.out)).trans AX6.out
                have E7 := E6.out.trans (hb.mono E6.out.size)
                have N7 := Nat.le_trans N6.out hb.size
                clear hb OP b1' S6 R6 AX6 E6 N6
                obtain ⟨z, hz⟩ : ∃ z, z = openE m k1 := ⟨_, rfl⟩
                rw [← hz]
                have HZ := Lib.hid hz
                clear hz
                have hb := box1 w7 (.cells #[.int .i64 z.w, .int .i64 z.k, .int .i64 z.n, .int .i64 z.c, .int .i64 z.a, .int .i64 z.s, .int .i64 z.b, .int .i64 z.p, .int .i64 z.e] 43)
                have ZB : Hid ((w7.alloc (.cells #[.int .i64 z.w, .int .i64 z.k, .int .i64 z.n, .int .i64 z.c, .int .i64 z.a, .int .i64 z.s, .int .i64 z.b, .int .i64 z.p, .int .i64 z.e] 43)).heap[w7.heap.size]? = some (.cells #[.int .i64 z.w, .int .i64 z.k, .int .i64 z.n, .int .i64 z.c, .int .i64 z.a, .int .i64 z.s, .int .i64 z.b, .int .i64 z.p, .int .i64 z.e] 43 (0, 0))) := heap_new w7 _
                have S8 := Lib.hid (S7.next hb)
                have R8 := Lib.hid (ORow.next R7 hb)
                have AX8 := Lib.hid ((hb.block _ (heap_lt AX7)).trans AX7)
                have E8 := Lib.hid (E7.trans (hb.mono E7.size))
                have N8 : Hid (w1.heap.size ≤ _) := Lib.hid (Nat.le_trans N7 hb.size)
                clear hb S7 R7 AX7 E7 N7
                go_upto_region 26 with fail
                generalize w7.alloc (.cells #[.int .i64 z.w, .int .i64 z.k, .int .i64 z.n, .int .i64 z.c, .int .i64 z.a, .int .i64 z.s, .int .i64 z.b, .int .i64 z.p, .int .i64 z.e] 43) = w8 at *
                generalize w7.heap.size = MB at *
                have b1' : w8.cell? ⟨wr.heap.size, 1, none⟩ = some (.int .i64 k1) := by rw [cell_of AX8.out]; rfl
                have FI := Lib.hid (rfind_any _ m k1 w8 R8 (by omega))
                go_wp2_with fail
                refine FI.out.mono ?_
                rintro e w9 ⟨rfl, rfl⟩
                clear FI b1' AX8
                have z0 : w8.cell? ⟨MB, 0, none⟩ = some (.int .i64 z.w) := by rw [cell_of ZB.out]; rfl
                have z1 : w8.cell? ⟨MB, 1, none⟩ = some (.int .i64 z.k) := by rw [cell_of ZB.out]; rfl
                have z2 : w8.cell? ⟨MB, 2, none⟩ = some (.int .i64 z.n) := by rw [cell_of ZB.out]; rfl
                have z3 : w8.cell? ⟨MB, 3, none⟩ = some (.int .i64 z.c) := by rw [cell_of ZB.out]; rfl
                have z4 : w8.cell? ⟨MB, 4, none⟩ = some (.int .i64 z.a) := by rw [cell_of ZB.out]; rfl
                have z5 : w8.cell? ⟨MB, 5, none⟩ = some (.int .i64 z.s) := by rw [cell_of ZB.out]; rfl
                have z6 : w8.cell? ⟨MB, 6, none⟩ = some (.int .i64 z.b) := by rw [cell_of ZB.out]; rfl
                have z7 : w8.cell? ⟨MB, 7, none⟩ = some (.int .i64 z.p) := by rw [cell_of ZB.out]; rfl
                have z8 : w8.cell? ⟨MB, 8, none⟩ = some (.int .i64 z.e) := by rw [cell_of ZB.out]; rfl
                cases hf : findI m k1 with
                | none =>
                  have HE : z = ⟨0, 0, 0, 0, 0, 0, 0, 0, 0⟩ := by have := HZ.out; unfold openE at this; rw [hf] at this; exact this
                  clear hf HZ
                  subst HE
                  dsimp only at z0 z1 z2 z3 z4 z5 z6 z7 z8
                  simp only [rfI, Option.isSome_none]
                  have j0 := cell_regrown z0
                  have j1 := cell_regrown z1
                  have j2 := cell_regrown z2
                  have j3 := cell_regrown z3
                  have j4 := cell_regrown z4
                  have j5 := cell_regrown z5
                  have j6 := cell_regrown z6
                  have j7 := cell_regrown z7
                  have j8 := cell_regrown z8
                  cases B
                  · go_upto_region 27 with fail
                    refine wp_region_quiet_below (by kernel_rfl) (by kernel_rfl) ?_
                    repeat (go_big_quiet_step (fail))
                    refine wpQuiet_nil ?_
                    intro _ hw'
                    obtain ⟨⟨dq, osq⟩, hw''⟩ := hw'
                    subst hw''
                    have bg := below_regrown w8 dq osq
                    have S9 := Lib.hid (S8.out.next bg)
                    have R9 := Lib.hid (ORow.next R8.out bg)
                    have E9 := Lib.hid (E8.out.trans (bg.mono E8.out.size))
                    have N9 := Lib.hid (Nat.le_trans N8.out bg.size)
                    clear bg j0 z0 j1 z1 j2 z2 j3 z3 j4 z4 j5 z5 j6 z6 j7 z7 j8 z8 S8 R8 E8 N8
                    generalize Sort.grow (redrawn w8 dq) osq = wq at *
                    go_wp2_with fail
                    go_roundw
                    case rel => exact ⟨j + 1, v6, o6, m, by omega, by push_cast; rfl, hl6, S9, F6, R9, AP6, PP6, N9, E9⟩
                    case measure => simp [intOf]; omega
                  · go_upto_region 27 with fail
                    refine wp_region_quiet_below (by kernel_rfl) (by kernel_rfl) ?_
                    repeat (go_big_quiet_step (fail))
                    refine wpQuiet_nil ?_
                    intro _ hw'
                    obtain ⟨⟨dq, osq⟩, hw''⟩ := hw'
                    subst hw''
                    have bg := below_regrown w8 dq osq
                    have S9 := Lib.hid (S8.out.next bg)
                    have R9 := Lib.hid (ORow.next R8.out bg)
                    have E9 := Lib.hid (E8.out.trans (bg.mono E8.out.size))
                    have N9 := Lib.hid (Nat.le_trans N8.out bg.size)
                    clear bg j0 z0 j1 z1 j2 z2 j3 z3 j4 z4 j5 z5 j6 z6 j7 z7 j8 z8 S8 R8 E8 N8
                    generalize Sort.grow (redrawn w8 dq) osq = wq at *
                    go_wp2_with fail
                    go_roundw
                    case rel => exact ⟨j + 1, v6, o6, m, by omega, by push_cast; rfl, hl6, S9, F6, R9, AP6, PP6, N9, E9⟩
                    case measure => simp [intOf]; omega
                | some jj =>
                  obtain ⟨x, hx, -, -, hjj, -⟩ := findI_some hf
                  have HE : z = x := by have := HZ.out; unfold openE at this; rw [hf] at this; rw [this]; show m.getD jj evZ = x; rw [List.getD_eq_getElem?_getD, hx]; rfl
                  clear hf
                  subst HE
                  obtain ⟨lb, cp, hv2, y0, y1, y2, y3, y4, y5, y6, y7, y8, _⟩ := EvRow.cells R8.out hx
                  clear hx
                  simp only [rfI, Option.isSome_some]
                  have l6 : (jj : Int) < (m.length : Int) := by omega
                  have g6 : decide (0 ≤ (jj : Int)) = true := by simp
                  subst hv2
                  have j0 := cell_regrown z0
                  have j1 := cell_regrown z1
                  have j2 := cell_regrown z2
                  have j3 := cell_regrown z3
                  have j4 := cell_regrown z4
                  have j5 := cell_regrown z5
                  have j6 := cell_regrown z6
                  have j7 := cell_regrown z7
                  have j8 := cell_regrown z8
                  have i0 := cell_regrown y0
                  have i1 := cell_regrown y1
                  have i2 := cell_regrown y2
                  have i3 := cell_regrown y3
                  have i4 := cell_regrown y4
                  have i5 := cell_regrown y5
                  have i6 := cell_regrown y6
                  have i7 := cell_regrown y7
                  have i8 := cell_regrown y8
                  cases B
                  · go_upto_region 27 with fail
                    refine wp_region_quiet_below (by kernel_rfl) (by kernel_rfl) ?_
                    repeat (go_big_quiet_step (fail))
                    refine wpQuiet_nil ?_
                    intro _ hw'
                    obtain ⟨⟨dq, osq⟩, hw''⟩ := hw'
                    subst hw''
                    have bg := below_regrown w8 dq osq
                    have S9 := Lib.hid (S8.out.next bg)
                    have R9 := Lib.hid (ORow.next R8.out bg)
                    have E9 := Lib.hid (E8.out.trans (bg.mono E8.out.size))
                    have N9 := Lib.hid (Nat.le_trans N8.out bg.size)
                    clear bg j0 z0 i0 y0 j1 z1 i1 y1 j2 z2 i2 y2 j3 z3 i3 y3 j4 z4 i4 y4 j5 z5 i5 y5 j6 z6 i6 y6 j7 z7 i7 y7 j8 z8 i8 y8 S8 R8 E8 N8
                    generalize Sort.grow (redrawn w8 dq) osq = wq at *
                    go_wp2_with fail
                    go_roundw
                    case rel => exact ⟨j + 1, v6, o6, m, by omega, by push_cast; rfl, hl6, S9, F6, R9, AP6, PP6, N9, E9⟩
                    case measure => simp [intOf]; omega
                  · go_upto_region 27 with fail
                    refine wp_region_quiet_below (by kernel_rfl) (by kernel_rfl) ?_
                    repeat (go_big_quiet_step (fail))
                    refine wpQuiet_nil ?_
                    intro _ hw'
                    obtain ⟨⟨dq, osq⟩, hw''⟩ := hw'
                    subst hw''
                    have bg := below_regrown w8 dq osq
                    have S9 := Lib.hid (S8.out.next bg)
                    have R9 := Lib.hid (ORow.next R8.out bg)
                    have E9 := Lib.hid (E8.out.trans (bg.mono E8.out.size))
                    have N9 := Lib.hid (Nat.le_trans N8.out bg.size)
                    clear bg j0 z0 i0 y0 j1 z1 i1 y1 j2 z2 i2 y2 j3 z3 i3 y3 j4 z4 i4 y4 j5 z5 i5 y5 j6 z6 i6 y6 j7 z7 i7 y7 j8 z8 i8 y8 S8 R8 E8 N8
                    generalize Sort.grow (redrawn w8 dq) osq = wq at *
                    go_wp2_with fail
                    go_roundw
                    case rel => exact ⟨j + 1, v6, o6, m, by omega, by push_cast; rfl, hl6, S9, F6, R9, AP6, PP6, N9, E9⟩
                    case measure => simp [intOf]; omega
              · have gk3 : (k0 == 3) = false := by simpa using h3
                have S6 := S2
                have R6 := R2
                have AX6 := AX
                have E6 := E2'
                have N6 := N2
                have AP6 := AP
                have F6 := FF
                clear S2 R2 AX E2' N2
                have hl6 : (l).length ≤ j + 1 := by omega
                have PP6 : Hid (PP (l)) := PQ
                generalize l = m at *
                have b1' : (wr.alloc (.cells #[.int .i64 k0, .int .i64 k1, .int .i64 k2, .int .i64 k3, .int .i64 k4, .int .i64 k5, .int .i64 k6] 34)).cell? ⟨wr.heap.size, 1, none⟩ = some (.int .i64 k1) := by rw [cell_of AX6.out]; rfl
                have OP := Lib.hid (nopen_any w1.heap.size v o m k1 (wr.alloc (.cells #[.int .i64 k0, .int .i64 k1, .int .i64 k2, .int .i64 k3, .int .i64 k4, .int .i64 k5, .int .i64 k6] 34)) S6 w1')
                go_wp2_with fail
                refine OP.out.mono ?_
                rintro e w7 ⟨rfl, hb⟩
                have S7 := S6.out.next hb
                have R7 := ORow.next R6.out hb
                have AX7 := (hb.block _ (heap_lt AX6.out)).trans AX6.out
                have E7 := E6.out.trans (hb.mono E6.out.size)
                have N7 := Nat.le_trans N6.out hb.size
                clear hb OP b1' S6 R6 AX6 E6 N6
                obtain ⟨z, hz⟩ : ∃ z, z = openE m k1 := ⟨_, rfl⟩
                rw [← hz]
                have HZ := Lib.hid hz
                clear hz
                have hb := box1 w7 (.cells #[.int .i64 z.w, .int .i64 z.k, .int .i64 z.n, .int .i64 z.c, .int .i64 z.a, .int .i64 z.s, .int .i64 z.b, .int .i64 z.p, .int .i64 z.e] 43)
                have ZB : Hid ((w7.alloc (.cells #[.int .i64 z.w, .int .i64 z.k, .int .i64 z.n, .int .i64 z.c, .int .i64 z.a, .int .i64 z.s, .int .i64 z.b, .int .i64 z.p, .int .i64 z.e] 43)).heap[w7.heap.size]? = some (.cells #[.int .i64 z.w, .int .i64 z.k, .int .i64 z.n, .int .i64 z.c, .int .i64 z.a, .int .i64 z.s, .int .i64 z.b, .int .i64 z.p, .int .i64 z.e] 43 (0, 0))) := heap_new w7 _
                have S8 := Lib.hid (S7.next hb)
                have R8 := Lib.hid (ORow.next R7 hb)
                have AX8 := Lib.hid ((hb.block _ (heap_lt AX7)).trans AX7)
                have E8 := Lib.hid (E7.trans (hb.mono E7.size))
                have N8 : Hid (w1.heap.size ≤ _) := Lib.hid (Nat.le_trans N7 hb.size)
                clear hb S7 R7 AX7 E7 N7
                go_upto_region 26 with fail
                generalize w7.alloc (.cells #[.int .i64 z.w, .int .i64 z.k, .int .i64 z.n, .int .i64 z.c, .int .i64 z.a, .int .i64 z.s, .int .i64 z.b, .int .i64 z.p, .int .i64 z.e] 43) = w8 at *
                generalize w7.heap.size = MB at *
                have b1' : w8.cell? ⟨wr.heap.size, 1, none⟩ = some (.int .i64 k1) := by rw [cell_of AX8.out]; rfl
                have FI := Lib.hid (rfind_any _ m k1 w8 R8 (by omega))
                go_wp2_with fail
                refine FI.out.mono ?_
                rintro e w9 ⟨rfl, rfl⟩
                clear FI b1' AX8
                have z0 : w8.cell? ⟨MB, 0, none⟩ = some (.int .i64 z.w) := by rw [cell_of ZB.out]; rfl
                have z1 : w8.cell? ⟨MB, 1, none⟩ = some (.int .i64 z.k) := by rw [cell_of ZB.out]; rfl
                have z2 : w8.cell? ⟨MB, 2, none⟩ = some (.int .i64 z.n) := by rw [cell_of ZB.out]; rfl
                have z3 : w8.cell? ⟨MB, 3, none⟩ = some (.int .i64 z.c) := by rw [cell_of ZB.out]; rfl
                have z4 : w8.cell? ⟨MB, 4, none⟩ = some (.int .i64 z.a) := by rw [cell_of ZB.out]; rfl
                have z5 : w8.cell? ⟨MB, 5, none⟩ = some (.int .i64 z.s) := by rw [cell_of ZB.out]; rfl
                have z6 : w8.cell? ⟨MB, 6, none⟩ = some (.int .i64 z.b) := by rw [cell_of ZB.out]; rfl
                have z7 : w8.cell? ⟨MB, 7, none⟩ = some (.int .i64 z.p) := by rw [cell_of ZB.out]; rfl
                have z8 : w8.cell? ⟨MB, 8, none⟩ = some (.int .i64 z.e) := by rw [cell_of ZB.out]; rfl
                cases hf : findI m k1 with
                | none =>
                  have HE : z = ⟨0, 0, 0, 0, 0, 0, 0, 0, 0⟩ := by have := HZ.out; unfold openE at this; rw [hf] at this; exact this
                  clear hf HZ
                  subst HE
                  dsimp only at z0 z1 z2 z3 z4 z5 z6 z7 z8
                  simp only [rfI, Option.isSome_none]
                  have j0 := cell_regrown z0
                  have j1 := cell_regrown z1
                  have j2 := cell_regrown z2
                  have j3 := cell_regrown z3
                  have j4 := cell_regrown z4
                  have j5 := cell_regrown z5
                  have j6 := cell_regrown z6
                  have j7 := cell_regrown z7
                  have j8 := cell_regrown z8
                  go_upto_region 27 with fail
                  refine wp_region_quiet_below (by kernel_rfl) (by kernel_rfl) ?_
                  repeat (go_big_quiet_step (fail))
                  refine wpQuiet_nil ?_
                  intro _ hw'
                  obtain ⟨⟨dq, osq⟩, hw''⟩ := hw'
                  subst hw''
                  have bg := below_regrown w8 dq osq
                  have S9 := Lib.hid (S8.out.next bg)
                  have R9 := Lib.hid (ORow.next R8.out bg)
                  have E9 := Lib.hid (E8.out.trans (bg.mono E8.out.size))
                  have N9 := Lib.hid (Nat.le_trans N8.out bg.size)
                  clear bg j0 z0 j1 z1 j2 z2 j3 z3 j4 z4 j5 z5 j6 z6 j7 z7 j8 z8 S8 R8 E8 N8
                  generalize Sort.grow (redrawn w8 dq) osq = wq at *
                  go_wp2_with fail
                  go_roundw
                  case rel => exact ⟨j + 1, v, o, m, by omega, by push_cast; rfl, hl6, S9, F6, R9, AP6, PP6, N9, E9⟩
                  case measure => simp [intOf]; omega
                | some jj =>
                  obtain ⟨x, hx, -, -, hjj, -⟩ := findI_some hf
                  have HE : z = x := by have := HZ.out; unfold openE at this; rw [hf] at this; rw [this]; show m.getD jj evZ = x; rw [List.getD_eq_getElem?_getD, hx]; rfl
                  clear hf
                  subst HE
                  obtain ⟨lb, cp, hv2, y0, y1, y2, y3, y4, y5, y6, y7, y8, _⟩ := EvRow.cells R8.out hx
                  clear hx
                  simp only [rfI, Option.isSome_some]
                  have l6 : (jj : Int) < (m.length : Int) := by omega
                  have g6 : decide (0 ≤ (jj : Int)) = true := by simp
                  subst hv2
                  have j0 := cell_regrown z0
                  have j1 := cell_regrown z1
                  have j2 := cell_regrown z2
                  have j3 := cell_regrown z3
                  have j4 := cell_regrown z4
                  have j5 := cell_regrown z5
                  have j6 := cell_regrown z6
                  have j7 := cell_regrown z7
                  have j8 := cell_regrown z8
                  have i0 := cell_regrown y0
                  have i1 := cell_regrown y1
                  have i2 := cell_regrown y2
                  have i3 := cell_regrown y3
                  have i4 := cell_regrown y4
                  have i5 := cell_regrown y5
                  have i6 := cell_regrown y6
                  have i7 := cell_regrown y7
                  have i8 := cell_regrown y8
                  go_upto_region 27 with fail
                  refine wp_region_quiet_below (by kernel_rfl) (by kernel_rfl) ?_
                  repeat (go_big_quiet_step (fail))
                  refine wpQuiet_nil ?_
                  intro _ hw'
                  obtain ⟨⟨dq, osq⟩, hw''⟩ := hw'
                  subst hw''
                  have bg := below_regrown w8 dq osq
                  have S9 := Lib.hid (S8.out.next bg)
                  have R9 := Lib.hid (ORow.next R8.out bg)
                  have E9 := Lib.hid (E8.out.trans (bg.mono E8.out.size))
                  have N9 := Lib.hid (Nat.le_trans N8.out bg.size)
                  clear bg j0 z0 i0 y0 j1 z1 i1 y1 j2 z2 i2 y2 j3 z3 i3 y3 j4 z4 i4 y4 j5 z5 i5 y5 j6 z6 i6 y6 j7 z7 i7 y7 j8 z8 i8 y8 S8 R8 E8 N8
                  generalize Sort.grow (redrawn w8 dq) osq = wq at *
                  go_wp2_with fail
                  go_roundw
                  case rel => exact ⟨j + 1, v, o, m, by omega, by push_cast; rfl, hl6, S9, F6, R9, AP6, PP6, N9, E9⟩
                  case measure => simp [intOf]; omega
    · obtain rfl : j = n1 := by omega
      have EV := Lib.hid (nevents_any w1.heap.size v o l wr SS (by omega))
      go_wp2_with fail
      refine EV.out.mono ?_
      rintro e w6 ⟨u, rfl, t1, t2, _⟩
      have R6 := Lib.hid t1
      have Q6 := Lib.hid (ORow.next RR.out t2)
      have E6 := Lib.hid (EE.out.trans (t2.mono EE.out.size))
      clear t1 t2 EV
      have SA := Lib.hid (same18_any _ _ l w6 R6 Q6 (by omega))
      go_wp2_with fail
      refine SA.out.mono ?_
      rintro e w7 ⟨rfl, hb⟩
      have E7 := Lib.hid (E6.out.trans (hb.mono E6.out.size))
      clear hb SA
      go_wp2_with fail
      go_ret
      exact ⟨rfl, E7.out⟩
end Go.Proofs.Ytagacljfpakgnaa
