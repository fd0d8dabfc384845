/-
  It counts; what each call makes of the events.
-/
import Derived.Test.YtagacljfpakgnabNote4
namespace Go.Proofs.Ytagacljfpakgnab
open Go.RowKit Go.Sort Go.Maps
attribute [local go_sem] Oper.semAt_some

section
variable (bb : Nat) (v : Value) (o : Option Nat) (l : List Ev)
set_option maxRecDepth 20000 in
set_option maxHeartbeats 2000000 in
theorem ncount_none (i c a t : Int) (w : World) (h : Hid (Bn w bb v o l)) (hi : (Lit.int .i64 i).wf = true) (hf : findI l i = none) :
    Calls Try.prog 12 #[.pointer (some ⟨bb, 0, none⟩), .int .i64 i, .agg #[.int .i64 c, .int .i64 a], .int .i64 t] w fun e w' => e = .returned (.bool false) ∧ Below w.heap.size w w' := by
  have hb := box1 w (.cells #[.int .i64 c, .int .i64 a] 32)
  have DO := Lib.hid (doing_none bb v o l i _ (Lib.hid (h.out.next hb)) hi hf)
  have B0 := Lib.hid hb
  clear hb
  go_enter Try.func12, Try.ntmps12
  go_wp2_with fail
  refine DO.out.mono ?_
  rintro e w' ⟨rfl, rfl⟩
  go_wp2_with fail
  go_ret
  exact ⟨rfl, B0.out⟩
set_option maxRecDepth 20000 in
set_option maxHeartbeats 2000000 in
theorem ncount_no (i c a t : Int) (j : Nat) (x : Ev) (w : World) (h : Hid (Bn w bb v o l)) (hi : (Lit.int .i64 i).wf = true) (hf : findI l i = some j) (hx : l[j]? = some x) (hp : x.p ≠ 0) :
    Calls Try.prog 12 #[.pointer (some ⟨bb, 0, none⟩), .int .i64 i, .agg #[.int .i64 c, .int .i64 a], .int .i64 t] w fun e w' => e = .returned (.bool false) ∧ Below w.heap.size w w' := by
  have hb := box1 w (.cells #[.int .i64 c, .int .i64 a] 32)
  have H0 := Lib.hid (h.out.next hb)
  have B0 := Lib.hid hb
  clear hb
  go_enter Try.func12, Try.ntmps12
  go_wp2_with fail
  generalize w.alloc (.cells #[.int .i64 c, .int .i64 a] 32) = w0 at *
  obtain ⟨vb, cap, rfl, DO'⟩ := doing_some bb v o l i j w0 H0 hi hf
  refine DO'.mono ?_
  rintro e w1 ⟨rfl, rfl⟩
  obtain ⟨vb', cap', hv, hcell, hfr⟩ := ORow.at evEnc H0.out.row hx
  simp only [Value.slice.injEq, Option.some.injEq, Addr.mk.injEq, and_true, true_and] at hv
  obtain ⟨rfl, rfl⟩ := hv
  have y8 : w0.cell? ⟨vb, j * 9 + 7, none⟩ = some (.int .i64 x.p) := hcell 7 _ rfl
  have gp : (x.p != 0) = true := by simpa using hp
  clear hcell hfr DO' hx
  go_wp2_with fail
  go_ret
  exact ⟨rfl, B0.out⟩
set_option maxRecDepth 20000 in
set_option maxHeartbeats 2000000 in
theorem ncount_some (i c a t : Int) (j : Nat) (x : Ev) (w : World) (h : Hid (Bn w bb v o l)) (hi : (Lit.int .i64 i).wf = true) (hf : findI l i = some j) (hx : l[j]? = some x) (hp : x.p = 0) :
    Calls Try.prog 12 #[.pointer (some ⟨bb, 0, none⟩), .int .i64 i, .agg #[.int .i64 c, .int .i64 a], .int .i64 t] w fun e w' => e = .returned (.bool true) ∧ Tn bb v o w (l.set j { x with c := c, a := a, p := t }) w' := by
  have hb := box1 w (.cells #[.int .i64 c, .int .i64 a] 32)
  have BX : Hid ((w.alloc (.cells #[.int .i64 c, .int .i64 a] 32)).heap[w.heap.size]? = some (.cells #[.int .i64 c, .int .i64 a] 32 (0, 0))) := heap_new w _
  have H0 := Lib.hid (h.out.next hb)
  have B0 := Lib.hid hb
  have LT := Lib.hid h.out.lt
  clear hb
  obtain ⟨_, _, hxw, _, hj, _⟩ := findI_some hf
  obtain ⟨x', hx', hw', he', _, _⟩ := findI_some hf
  obtain rfl : x' = x := by rw [hx] at hx'; exact (Option.some.inj hx').symm
  clear hx' hxw
  go_enter Try.func12, Try.ntmps12
  go_wp2_with fail
  generalize w.alloc (.cells #[.int .i64 c, .int .i64 a] 32) = w0 at *
  obtain ⟨vb, cap, rfl, DO'⟩ := doing_some bb v o l i j w0 H0 hi hf
  refine DO'.mono ?_
  rintro e w1 ⟨rfl, rfl⟩
  obtain ⟨vb', cap', hv, hcell, hfr⟩ := ORow.at evEnc H0.out.row hx
  simp only [Value.slice.injEq, Option.some.injEq, Addr.mk.injEq, and_true, true_and] at hv
  obtain ⟨rfl, rfl⟩ := hv
  have y3 : w0.cell? ⟨vb, j * 9 + 3, none⟩ = some (.int .i64 x'.c) := hcell 3 _ rfl
  have y4 : w0.cell? ⟨vb, j * 9 + 4, none⟩ = some (.int .i64 x'.a) := hcell 4 _ rfl
  have y8 : w0.cell? ⟨vb, j * 9 + 7, none⟩ = some (.int .i64 x'.p) := hcell 7 _ rfl
  have f3 := hfr (j * 9 + 3)
  have f4 := hfr (j * 9 + 4)
  have f8 := hfr (j * 9 + 7)
  have b0 : w0.cell? ⟨w.heap.size, 0, none⟩ = some (.int .i64 c) := by rw [cell_of BX.out]; rfl
  have b1 : w0.cell? ⟨w.heap.size, 1, none⟩ = some (.int .i64 a) := by rw [cell_of BX.out]; rfl
  -- the events, cell by cell
  have R1 : EvRow (w0.setCell ⟨vb, j * 9 + 3, none⟩ (.int .i64 c)) (.slice (some ⟨vb, 0, none⟩) l.length cap) (l.set j { x' with c := c }) := ORow.set evEnc H0.out.row hx (by omega) rfl
  have g1 : (l.set j { x' with c := c })[j]? = some { x' with c := c } := by rw [List.getElem?_set, if_pos rfl, if_pos hj]
  have R2 : EvRow ((w0.setCell ⟨vb, j * 9 + 3, none⟩ (.int .i64 c)).setCell ⟨vb, j * 9 + 4, none⟩ (.int .i64 a)) (.slice (some ⟨vb, 0, none⟩) l.length cap) ((l.set j { x' with c := c }).set j { x' with c := c, a := a }) := ORow.set evEnc R1 g1 (by omega) rfl
  have g2 : ((l.set j { x' with c := c }).set j { x' with c := c, a := a })[j]? = some { x' with c := c, a := a } := by rw [List.getElem?_set, if_pos rfl, if_pos (by rw [List.length_set]; exact hj)]
  have R3 : EvRow (((w0.setCell ⟨vb, j * 9 + 3, none⟩ (.int .i64 c)).setCell ⟨vb, j * 9 + 4, none⟩ (.int .i64 a)).setCell ⟨vb, j * 9 + 7, none⟩ (.int .i64 t)) (.slice (some ⟨vb, 0, none⟩) l.length cap) (((l.set j { x' with c := c }).set j { x' with c := c, a := a }).set j { x' with c := c, a := a, p := t }) := ORow.set evEnc R2 g2 (by omega) rfl
  rw [List.set_set, List.set_set] at R3
  have RR := Lib.hid R3
  have O3 : Hid (Only [vb] w0 (((w0.setCell ⟨vb, j * 9 + 3, none⟩ (.int .i64 c)).setCell ⟨vb, j * 9 + 4, none⟩ (.int .i64 a)).setCell ⟨vb, j * 9 + 7, none⟩ (.int .i64 t))) := ((Only.of_set (by simp) _).trans (Only.of_set (by simp) _)).trans (Only.of_set (by simp) _)
  obtain ⟨a1, a2⟩ := H0.out.apart
  have ne := a1 vb rfl
  have bx := H0.out.box
  have g8 : findI (l.set j { x' with c := c, a := a, p := t }) = findI l := funext fun i => findI_keep (y := { x' with c := c, a := a, p := t }) hx rfl Iff.rfl i
  have BK := Lib.hid (O3.out.at bx (by simp; exact fun e => ne.1 e.symm))
  have M3 := Lib.hid (H0.out.mp.keep (fun b e => O3.out.block b (H0.out.mp.lt e) (by simp; intro e2; rw [e2] at e; exact ne.2 e)))
  rw [hp] at y8
  clear hcell hfr R1 R2 R3 g1 g2 bx DO' H0 ne a1 a2
  go_wp2_with fail
  go_ret
  refine ⟨rfl, .slice (some ⟨vb, 0, none⟩) l.length cap, o, ⟨BK.out, RR.out, ?_⟩, ?_, fun b hb => .inl hb⟩
  · rw [List.length_set, g8]
    exact M3.out
  · refine (Only.of_below B0.out).trans' O3.out (fun b hb => .inl ?_)
    simp at hb; subst hb; simp [foot, Value.ownBlock]
theorem tn_below {bb : Nat} {v : Value} {o : Option Nat} {l : List Ev} {w w' : World} (h : Bn w bb v o l) (x : Below w.heap.size w w') : Tn bb v o w l w' := ⟨v, o, h.next x, Only.of_below x, fun _ hb => .inl hb⟩
/-- What a call makes of the events. -/
def bgL (l : List Ev) (i k n t : Int) : List Ev := if (findI l i).isNone = true then l ++ [evNew i k n t] else l
def enL (l : List Ev) (i c a t : Int) : List Ev := match findI l i with
  | some j => match l[j]? with
    | some x => l.set j { x with c := c, a := a, e := t }
    | none => l
  | none => l
def stL (l : List Ev) (i : Int) : List Ev := match findI l i with
  | some j => match l[j]? with
    | some x => l.set j { x with s := wrap64 (x.s + 1) }
    | none => l
  | none => l
def cnL (l : List Ev) (i c a t : Int) : List Ev := match findI l i with
  | some j => match l[j]? with
    | some x => if x.p = 0 then l.set j { x with c := c, a := a, p := t } else l
    | none => l
  | none => l
def cnB (l : List Ev) (i : Int) : Bool := match findI l i with
  | some j => match l[j]? with
    | some x => decide (x.p = 0)
    | none => false
  | none => false
theorem nbegin_any (i k n t : Int) (w : World) (h : Hid (Bn w bb v o l)) (hi : (Lit.int .i64 i).wf = true) (few : l.length ≤ 100000) :
    Calls Try.prog 7 #[.pointer (some ⟨bb, 0, none⟩), .int .i64 i, .agg #[.int .i64 k, .int .i64 n], .int .i64 t] w fun e w' => e = .returned (.bool (findI l i).isNone) ∧ Tn bb v o w (bgL l i k n t) w' := by
  unfold bgL
  cases hf : findI l i with
  | some j => exact (nbegin_no bb v o l i k n t j w h hi hf).mono (by rintro e w' ⟨rfl, hb⟩; exact ⟨rfl, tn_below h.out hb⟩)
  | none =>
    cases o with
    | none => exact nbegin_nil bb v l i k n t w h hi hf few
    | some m => exact nbegin_some bb v l m i k n t w h hi hf few
theorem nend_any (i c a t : Int) (w : World) (h : Hid (Bn w bb v o l)) (hi : (Lit.int .i64 i).wf = true) (ht : t ≠ 0) :
    Calls Try.prog 10 #[.pointer (some ⟨bb, 0, none⟩), .int .i64 i, .agg #[.int .i64 c, .int .i64 a], .int .i64 t] w fun e w' => e = .returned (.bool (findI l i).isSome) ∧ Tn bb v o w (enL l i c a t) w' := by
  unfold enL
  cases hf : findI l i with
  | none => exact (nend_none bb v o l i c a t w h hi hf).mono (by rintro e w' ⟨rfl, hb⟩; exact ⟨rfl, tn_below h.out hb⟩)
  | some j =>
    obtain ⟨x, hx, _⟩ := findI_some hf
    simp only [hx]
    exact nend_some bb v o l i c a t j x w h hi hf hx ht
theorem nstep_any (i : Int) (w : World) (h : Hid (Bn w bb v o l)) (hi : (Lit.int .i64 i).wf = true) :
    Calls Try.prog 11 #[.pointer (some ⟨bb, 0, none⟩), .int .i64 i] w fun e w' => e = .returned (.bool (findI l i).isSome) ∧ Tn bb v o w (stL l i) w' := by
  unfold stL
  cases hf : findI l i with
  | none => exact (nstep_none bb v o l i w h hi hf).mono (by rintro e w' ⟨rfl, rfl⟩; exact ⟨rfl, tn_below h.out (Below.refl _ _)⟩)
  | some j =>
    obtain ⟨x, hx, _⟩ := findI_some hf
    simp only [hx]
    exact nstep_some bb v o l i j x w h hi hf hx
theorem ncount_any (i c a t : Int) (w : World) (h : Hid (Bn w bb v o l)) (hi : (Lit.int .i64 i).wf = true) :
    Calls Try.prog 12 #[.pointer (some ⟨bb, 0, none⟩), .int .i64 i, .agg #[.int .i64 c, .int .i64 a], .int .i64 t] w fun e w' => e = .returned (.bool (cnB l i)) ∧ Tn bb v o w (cnL l i c a t) w' := by
  unfold cnL cnB
  cases hf : findI l i with
  | none => exact (ncount_none bb v o l i c a t w h hi hf).mono (by rintro e w' ⟨rfl, hb⟩; exact ⟨rfl, tn_below h.out hb⟩)
  | some j =>
    obtain ⟨x, hx, _⟩ := findI_some hf
    simp only [hx]
    by_cases hp : x.p = 0
    · rw [if_pos hp, decide_eq_true hp]
      exact ncount_some bb v o l i c a t j x w h hi hf hx hp
    · rw [if_neg hp, decide_eq_false hp]
      exact (ncount_no bb v o l i c a t j x w h hi hf hx hp).mono (by rintro e w' ⟨rfl, hb⟩; exact ⟨rfl, tn_below h.out hb⟩)
end
end Go.Proofs.Ytagacljfpakgnab
