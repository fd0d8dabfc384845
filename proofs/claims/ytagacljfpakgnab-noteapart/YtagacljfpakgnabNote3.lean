/-
  What is written down of a worker's event that didn't end; what is open; all events.
-/
import Derived.Test.YtagacljfpakgnabNote2
namespace Go.Proofs.Ytagacljfpakgnab
open Go.RowKit Go.Sort Go.Maps
attribute [local go_sem] Oper.semAt_some

section
variable {w w' : World} {bb : Nat} {v : Value} {o : Option Nat} {l : List Ev}
/-- A cell of an event turns. -/
theorem Bn.turn {vb cap j : Nat} {x y : Ev} {c : Nat} {u : Value} (h : Bn w bb (.slice (some ⟨vb, 0, none⟩) l.length cap) o l) (hx : l[j]? = some x) (hc : c < 9) (hy : evE y = (evE x).set c u) (h1 : y.w = x.w) (h2 : y.e = 0 ↔ x.e = 0) : Bn (w.setCell ⟨vb, j * 9 + c, none⟩ u) bb (.slice (some ⟨vb, 0, none⟩) l.length cap) o (l.set j y) ∧ Only [vb] w (w.setCell ⟨vb, j * 9 + c, none⟩ u) := by
  have op : Only [vb] w (w.setCell ⟨vb, j * 9 + c, none⟩ u) := Only.of_set (by simp) _
  obtain ⟨a1, a2⟩ := h.apart
  have ne := a1 vb rfl
  refine ⟨⟨op.at h.box (by simp; exact fun e => ne.1 e.symm), ORow.set evEnc h.row hx hc hy, ?_⟩, op⟩
  rw [List.length_set]
  have := h.mp.keep (w' := w.setCell ⟨vb, j * 9 + c, none⟩ u) (fun b e => op.block b (h.mp.lt e) (by simp; intro e2; rw [e2] at e; exact ne.2 e))
  have e : findI (l.set j y) = findI l := funext fun i => findI_keep hx h1 h2 i
  rw [e]
  exact this
end
section
variable (bb : Nat) (v : Value) (o : Option Nat) (l : List Ev)
/-- How a Book is left, if at all. -/
def Tn (w : World) (l' : List Ev) (w' : World) : Prop := ∃ v' o', Bn w' bb v' o' l' ∧ Only (bb :: foot v o) w w' ∧ ∀ b ∈ foot v' o', b ∈ foot v o ∨ w.heap.size ≤ b
set_option maxRecDepth 20000 in
set_option maxHeartbeats 2000000 in
theorem nstep_none (i : Int) (w : World) (h : Hid (Bn w bb v o l)) (hi : (Lit.int .i64 i).wf = true) (hf : findI l i = none) :
    Calls Try.prog 11 #[.pointer (some ⟨bb, 0, none⟩), .int .i64 i] w fun e w' => e = .returned (.bool false) ∧ w = w' := by
  have DO := Lib.hid (doing_none bb v o l i w h hi hf)
  go_enter Try.func11, Try.ntmps11
  go_wp2_with fail
  refine DO.out.mono ?_
  rintro e w' ⟨rfl, rfl⟩
  go_wp2_with fail
  go_ret
  exact ⟨rfl, rfl⟩
set_option maxRecDepth 20000 in
set_option maxHeartbeats 2000000 in
theorem nstep_some (i : Int) (j : Nat) (x : Ev) (w : World) (h : Hid (Bn w bb v o l)) (hi : (Lit.int .i64 i).wf = true) (hf : findI l i = some j) (hx : l[j]? = some x) :
    Calls Try.prog 11 #[.pointer (some ⟨bb, 0, none⟩), .int .i64 i] w fun e w' => e = .returned (.bool true) ∧ Tn bb v o w (l.set j { x with s := wrap64 (x.s + 1) }) w' := by
  obtain ⟨vb, cap, rfl, DO'⟩ := doing_some bb v o l i j w h hi hf
  have DO := Lib.hid DO'
  obtain ⟨vb', cap', hv, hcell, hfr⟩ := ORow.at evEnc h.out.row hx
  simp only [Value.slice.injEq, Option.some.injEq, Addr.mk.injEq, and_true, true_and] at hv
  obtain ⟨rfl, rfl⟩ := hv
  have y5 : w.cell? ⟨vb, j * 9 + 5, none⟩ = some (.int .i64 x.s) := hcell 5 _ rfl
  have ff := hfr (j * 9 + 5)
  have TN := Bn.turn (c := 5) (y := { x with s := wrap64 (x.s + 1) }) (u := .int .i64 (wrap64 (x.s + 1))) h.out hx (by omega) rfl rfl Iff.rfl
  have T1 := Lib.hid TN.1
  have T2 := Lib.hid TN.2
  clear hcell hfr DO' TN hx
  go_enter Try.func11, Try.ntmps11
  go_wp2_with fail
  refine DO.out.mono ?_
  rintro e w' ⟨rfl, rfl⟩
  go_wp2_with fail
  go_ret
  exact ⟨rfl, _, _, T1.out, T2.out.mono (fun b hb => .inl (by simp at hb; subst hb; simp [foot, Value.ownBlock])), fun b hb => .inl hb⟩
set_option maxRecDepth 20000 in
set_option maxHeartbeats 2000000 in
theorem nend_none (i c a t : Int) (w : World) (h : Hid (Bn w bb v o l)) (hi : (Lit.int .i64 i).wf = true) (hf : findI l i = none) :
    Calls Try.prog 10 #[.pointer (some ⟨bb, 0, none⟩), .int .i64 i, .agg #[.int .i64 c, .int .i64 a], .int .i64 t] w fun e w' => e = .returned (.bool false) ∧ Below w.heap.size w w' := by
  have hb := box1 w (.cells #[.int .i64 c, .int .i64 a] 32)
  have DO := Lib.hid (doing_none bb v o l i _ (Lib.hid (h.out.next hb)) hi hf)
  have B0 := Lib.hid hb
  clear hb
  go_enter Try.func10, Try.ntmps10
  go_wp2_with fail
  refine DO.out.mono ?_
  rintro e w' ⟨rfl, rfl⟩
  go_wp2_with fail
  go_ret
  exact ⟨rfl, B0.out⟩
set_option maxRecDepth 20000 in
set_option maxHeartbeats 2000000 in
theorem nend_some (i c a t : Int) (j : Nat) (x : Ev) (w : World) (h : Hid (Bn w bb v o l)) (hi : (Lit.int .i64 i).wf = true) (hf : findI l i = some j) (hx : l[j]? = some x) (ht : t ≠ 0) :
    Calls Try.prog 10 #[.pointer (some ⟨bb, 0, none⟩), .int .i64 i, .agg #[.int .i64 c, .int .i64 a], .int .i64 t] w fun e w' => e = .returned (.bool true) ∧ Tn bb v o w (l.set j { x with c := c, a := a, e := t }) w' := by
  have hb := box1 w (.cells #[.int .i64 c, .int .i64 a] 32)
  have BX : Hid ((w.alloc (.cells #[.int .i64 c, .int .i64 a] 32)).heap[w.heap.size]? = some (.cells #[.int .i64 c, .int .i64 a] 32 (0, 0))) := heap_new w _
  have H0 := Lib.hid (h.out.next hb)
  have B0 := Lib.hid hb
  have LT := Lib.hid h.out.lt
  clear hb
  obtain ⟨_, _, hxw, _, hj, _⟩ := findI_some hf
  obtain ⟨x', hx', hw', he', _, _⟩ := findI_some hf
  obtain rfl : x' = x := by rw [hx] at hx'; exact (Option.some.inj hx').symm
  clear hx' hxw
  go_enter Try.func10, Try.ntmps10
  go_wp2_with fail
  generalize w.alloc (.cells #[.int .i64 c, .int .i64 a] 32) = w0 at *
  obtain ⟨vb, cap, rfl, DO'⟩ := doing_some bb v o l i j w0 H0 hi hf
  refine DO'.mono ?_
  rintro e w1 ⟨rfl, rfl⟩
  obtain ⟨vb', cap', hv, hcell, hfr⟩ := ORow.at evEnc H0.out.row hx
  simp only [Value.slice.injEq, Option.some.injEq, Addr.mk.injEq, and_true, true_and] at hv
  obtain ⟨rfl, rfl⟩ := hv
  have y3 : w0.cell? ⟨vb, j * 9 + 3, none⟩ = some (.int .i64 x'.c) := hcell 3 _ rfl
  have y4 : w0.cell? ⟨vb, j * 9 + 4, none⟩ = some (.int .i64 x'.a) := hcell 4 _ rfl
  have y8 : w0.cell? ⟨vb, j * 9 + 8, none⟩ = some (.int .i64 x'.e) := hcell 8 _ rfl
  have f3 := hfr (j * 9 + 3)
  have f4 := hfr (j * 9 + 4)
  have f8 := hfr (j * 9 + 8)
  have b0 : w0.cell? ⟨w.heap.size, 0, none⟩ = some (.int .i64 c) := by rw [cell_of BX.out]; rfl
  have b1 : w0.cell? ⟨w.heap.size, 1, none⟩ = some (.int .i64 a) := by rw [cell_of BX.out]; rfl
  -- the events, cell by cell
  have R1 : EvRow (w0.setCell ⟨vb, j * 9 + 3, none⟩ (.int .i64 c)) (.slice (some ⟨vb, 0, none⟩) l.length cap) (l.set j { x' with c := c }) := ORow.set evEnc H0.out.row hx (by omega) rfl
  have g1 : (l.set j { x' with c := c })[j]? = some { x' with c := c } := by rw [List.getElem?_set, if_pos rfl, if_pos hj]
  have R2 : EvRow ((w0.setCell ⟨vb, j * 9 + 3, none⟩ (.int .i64 c)).setCell ⟨vb, j * 9 + 4, none⟩ (.int .i64 a)) (.slice (some ⟨vb, 0, none⟩) l.length cap) ((l.set j { x' with c := c }).set j { x' with c := c, a := a }) := ORow.set evEnc R1 g1 (by omega) rfl
  have g2 : ((l.set j { x' with c := c }).set j { x' with c := c, a := a })[j]? = some { x' with c := c, a := a } := by rw [List.getElem?_set, if_pos rfl, if_pos (by rw [List.length_set]; exact hj)]
  have R3 : EvRow (((w0.setCell ⟨vb, j * 9 + 3, none⟩ (.int .i64 c)).setCell ⟨vb, j * 9 + 4, none⟩ (.int .i64 a)).setCell ⟨vb, j * 9 + 8, none⟩ (.int .i64 t)) (.slice (some ⟨vb, 0, none⟩) l.length cap) (((l.set j { x' with c := c }).set j { x' with c := c, a := a }).set j { x' with c := c, a := a, e := t }) := ORow.set evEnc R2 g2 (by omega) rfl
  rw [List.set_set, List.set_set] at R3
  have RR := Lib.hid R3
  have O3 : Hid (Only [vb] w0 (((w0.setCell ⟨vb, j * 9 + 3, none⟩ (.int .i64 c)).setCell ⟨vb, j * 9 + 4, none⟩ (.int .i64 a)).setCell ⟨vb, j * 9 + 8, none⟩ (.int .i64 t))) := ((Only.of_set (by simp) _).trans (Only.of_set (by simp) _)).trans (Only.of_set (by simp) _)
  obtain ⟨a1, a2⟩ := H0.out.apart
  have ne := a1 vb rfl
  have bx := H0.out.box
  have hm := H0.out.mp
  cases o with
  | none => have := hm i; rw [hf] at this; cases this
  | some m =>
    have nm : m ≠ vb := fun e => ne.2 (by rw [e])
    have nb : m ≠ bb := fun e => a2 (by rw [e])
    have BK := Lib.hid (O3.out.at bx (by simp; exact fun e => ne.1 e.symm))
    have M3 := Lib.hid (MpI.keep hm (O3.out.block m (MpI.lt hm) (by simpa using nm)))
    have NE := Lib.hid ne
    have NB := Lib.hid (And.intro nm nb)
    clear hcell hfr R1 R2 R3 g1 g2 hm bx DO' H0 ne nm nb a1 a2
    go_upto_region 5 with fail
    clear y3 y4 y8 f3 f4 f8 b0 b1
    generalize ((w0.setCell ⟨vb, j * 9 + 3, none⟩ (.int .i64 c)).setCell ⟨vb, j * 9 + 4, none⟩ (.int .i64 a)).setCell ⟨vb, j * 9 + 8, none⟩ (.int .i64 t) = w3 at *
    have c1 : w3.cell? ⟨bb, 1, none⟩ = some (.map (some m)) := by rw [cell_of BK.out]; rfl
    obtain ⟨w4, hrun, m1, m2⟩ := M3.out.del i hi 0
    have O4 : Hid (Only [m] w3 w4) := Only.of_grown m2 (fun b hb => by simp at hb ⊢; exact hb.symm)
    have M4 := Lib.hid m1
    clear m1 m2
    go_wp2_with fail
    go_ret
    refine ⟨rfl, .slice (some ⟨vb, 0, none⟩) l.length cap, some m, ⟨O4.out.at BK.out (by simp; exact fun e => NB.out.2 e.symm), ?_, ?_⟩, ?_, fun b hb => .inl hb⟩
    · have := ORow.stay RR.out O4.out (fun b hb => by simp [Value.ownBlock] at hb ⊢; subst hb; exact fun e => NB.out.1 e.symm)
      exact this
    · rw [List.length_set]
      exact M4.out.congr (fun t' => (findI_end hf (by exact hw') ht t').symm)
    · refine ((Only.of_below B0.out).trans' O3.out (fun b hb => .inl ?_)).trans' O4.out (fun b hb => .inl ?_)
      · simp at hb; subst hb; simp [foot, Value.ownBlock]
      · simp at hb; subst hb; simp [foot]
set_option maxRecDepth 20000 in
set_option maxHeartbeats 2000000 in
theorem eclone_any (l : List Ev) (w : World) (v : Value) (h : Hid (EvRow w v l)) (few : l.length ≤ 1048576) :
    Calls Try.prog 14 #[v] w fun e w' => ∃ v', e = .returned v' ∧ EvRow w' v' l ∧ Below w.heap.size w w' ∧ ∀ b, v'.ownBlock = some b → w.heap.size ≤ b := by
  have q22 : ∀ (w : World) (a : Option Addr) (n c n' c' : Nat), (binOp .eql 24 (.slice a n c) (.slice none n' c')).run Try.prog w = .ok (.bool a.isNone) w := fun w a n c n' c' => Lib.run_eql_slice_nil w _ _ a n c n' c' Try.underlying24
  rcases ORow.cases h.out with ⟨rfl, rfl⟩ | ⟨b, cap, cur, rfl, _⟩
  · go_enter Try.func14, Try.ntmps14
    go_wp2_with fail
    go_ret
    exact ⟨_, rfl, h.out, Below.refl _ _, fun b hb => by cases hb⟩
  · have EM := EvRow.empty w
    have hb1 := box1 w (.cells #[] 38)
    have RW := ORow.next h.out hb1
    obtain ⟨v', wa, hrun, r1, r2, r3⟩ := EvRow.cat EM RW few 24
    have R1 := Lib.hid r1
    have B1 : Hid (Below w.heap.size w wa) := by
      have hg := Only.of_grown (l := [w.heap.size]) r2 (fun k hk => by cases hk; simp)
      exact hb1.trans (hg.below (by simp) hb1.size)
    have O1 : Hid (∀ b, v'.ownBlock = some b → w.heap.size ≤ b) := Lib.hid (fun b hb => by
      rcases r3 with e | e
      · rw [e] at hb; simp [Value.ownBlock] at hb; omega
      · rw [e] at hb; simp at hb; omega)
    clear r1 r2 r3 EM RW hb1
    go_enter Try.func14, Try.ntmps14
    have HR := Lib.hid hrun
    clear hrun
    go_wp2_with (at_builtin; refine wpList_append_by rfl _ _ 24 24 rfl (.slice (some ⟨w.heap.size, 0, none⟩) 0 0) (.slice (some ⟨b, 0, none⟩) l.length cap) (by rfl) (by rfl) HR.out ?_)
    go_ret
    exact ⟨_, rfl, R1.out, B1.out, O1.out⟩
set_option maxRecDepth 20000 in
set_option maxHeartbeats 2000000 in
theorem nevents_any (w : World) (h : Hid (Bn w bb v o l)) (few : l.length ≤ 1048576) :
    Calls Try.prog 8 #[.pointer (some ⟨bb, 0, none⟩)] w fun e w' => ∃ v', e = .returned v' ∧ EvRow w' v' l ∧ Below w.heap.size w w' ∧ ∀ b, v'.ownBlock = some b → w.heap.size ≤ b := by
  obtain ⟨c0, c1⟩ := h.out.cells
  obtain ⟨va, vc, hv⟩ := ORow.form h.out.row
  have CL := Lib.hid (eclone_any l w v (Lib.hid h.out.row) few)
  rw [hv] at c0 CL
  clear c1
  go_enter Try.func8, Try.ntmps8
  go_wp2_with fail
  refine CL.out.mono ?_
  rintro e w' ⟨v', rfl, r1, r2, r3⟩
  have R1 := Lib.hid r1
  have R2 := Lib.hid r2
  have R3 := Lib.hid r3
  clear r1 r2 r3
  go_wp2_with fail
  go_ret
  exact ⟨_, rfl, R1.out, R2.out, R3.out⟩
end
end Go.Proofs.Ytagacljfpakgnab
