/-
  Package heart: where blocks of a class come from; Refill.
-/
import Derived.Test.YtkogeeaoppkhkaaDoorHeart2
import Derived.Test.YtkogeeaoppkhkaaDoorArenaM
namespace Go.Proofs.YtkogeeaoppkhkaaDoor
open Go.RowKit Go.Sort Go.Shelf

def HBox (w : World) (N : Nat) (W S B T : Int) (cl : Value) : Prop := w.heap[N]? = some (.cells #[.int .i64 W, .int .i64 S, .int .i64 B, .int .i64 T, cl] 29 (0, 0))
section
variable {w w' : World} {N : Nat} {W S B T : Int} {cl : Value}
theorem HBox.c0 (h : HBox w N W S B T cl) : w.cell? ⟨N, 0, none⟩ = some (.int .i64 W) := by rw [cell_of h]; rfl
theorem HBox.c1 (h : HBox w N W S B T cl) : w.cell? ⟨N, 1, none⟩ = some (.int .i64 S) := by rw [cell_of h]; rfl
theorem HBox.c2 (h : HBox w N W S B T cl) : w.cell? ⟨N, 2, none⟩ = some (.int .i64 B) := by rw [cell_of h]; rfl
theorem HBox.c3 (h : HBox w N W S B T cl) : w.cell? ⟨N, 3, none⟩ = some (.int .i64 T) := by rw [cell_of h]; rfl
theorem HBox.c4 (h : HBox w N W S B T cl) : w.cell? ⟨N, 4, none⟩ = some cl := by rw [cell_of h]; rfl
theorem HBox.next (h : HBox w N W S B T cl) (hb : Below w.heap.size w w') : HBox w' N W S B T cl := (hb.block N (heap_lt h)).trans h
end
def srcV : Option (Nat × Nat) → Value
  | some (i, m) => .tuple #[.int .i64 (i : Nat), .int .u64 (m : Nat), .bool true]
  | none => .tuple #[.int .i64 0, .int .u64 0, .bool false]
theorem src_of {cap : Nat} {l : List Sb} {c i : Nat} (h : firstTo (isOf c) l l.length = some i) : srcP cap l c = some (i, (l.getD i Sb.none).m) := by simp [srcP, h]
theorem src_free {cap : Nat} {l : List Sb} {c i : Nat} (h : firstTo (isOf c) l l.length = none) (h2 : firstTo isFree l l.length = some i) : srcP cap l c = some (i, Ma.lowN cap) := by simp [srcP, h, h2]
theorem src_none {cap : Nat} {l : List Sb} {c : Nat} (h : firstTo (isOf c) l l.length = none) (h2 : firstTo isFree l l.length = none) : srcP cap l c = none := by simp [srcP, h, h2]
theorem isOf_m {c : Nat} {s : Sb} (h : isOf c s = true) : supM s = s.m := by
  unfold isOf at h; unfold supM; simp at h; simp [h.1]

theorem firstB {x : Nat} (w : World) (hx : x < 18446744073709551616) (h : TabAt w) : Calls Tryd.prog 69 #[.int .u64 x] w fun e w' => e = .returned (.int .i64 (Lib.ctz 64 x : Nat)) ∧ Below w.heap.size w w' :=
  (first_any x w hx (Lib.hid h)).mono fun _ _ h => ⟨h.1, h.2 ▸ Below.refl _ _⟩
theorem FldAt.grown {w : World} (h : FldAt w) (d : Nat) (os : Array Obj) : FldAt (grow (redrawn w d) os) := h.next (below_regrown w d os)
set_option maxRecDepth 20000 in
set_option maxHeartbeats 4000000 in
theorem source_any (W S B T : Int) (ad : Option Addr) (len cap : Nat) (f : Nat → Int) (C b n c : Nat) (l : List Sb) (r : List Nat) (w : World) (hW : Hid (HW w b l r)) (hn : n = 2 * l.length) (hF : Hid (FldAt w)) (hr : Hid (RowI w ad len f)) (ok : Hid (ClsOk len f)) :
    Calls Tryd.prog 78 #[.agg #[.int .i64 W, .int .i64 S, .int .i64 B, .int .i64 T, .slice ad len cap], .slice (some ⟨b, 0, none⟩) n c, .int .i64 (C : Nat)] w fun e w' => e = .returned (srcV (srcP (capI len f (C : Nat)).toNat l C)) ∧ Below w.heap.size w w' := by
  subst hn
  have hf := hW.out.few
  obtain ⟨q1, q2, q3, q4⟩ := two_fresh w (.cells #[.int .i64 W, .int .i64 S, .int .i64 B, .int .i64 T, .slice ad len cap] 29) (.cells #[.int .i64 (C : Nat)] 3)
  have N0 : Hid (HBox _ w.heap.size W S B T (.slice ad len cap)) := q1
  have N1 := Lib.hid (cell_of (j := 0) q2)
  have B0 := Lib.hid q3
  have SZ := Lib.hid q4
  have H1 := Lib.hid (hW.out.next q3)
  have F1 := Lib.hid (hF.out.next q3)
  have R1 := Lib.hid (hr.out.next q3)
  have T1 := Lib.hid (thoseOf_any C (w.heap.size + 1) b (2 * l.length) c l r _ N1.out H1 rfl F1)
  clear q1 q2 q3 q4
  have hX := thoseTo_lt (isOf C) l l.length hf
  have hY := thoseTo_lt isFree l l.length hf
  have EX : Hid (∀ i, firstTo (isOf C) l l.length = some i → thoseTo (isOf C) l l.length ≠ 0 ∧ Lib.ctz 64 (thoseTo (isOf C) l l.length) = i) := fun i h => those_first hf h
  have EX0 : Hid (firstTo (isOf C) l l.length = none → thoseTo (isOf C) l l.length = 0) := fun h => those_zero hf h
  generalize hXX : thoseTo (isOf C) l l.length = X at *
  generalize hVV : srcV (srcP (capI len f (C : Nat)).toNat l C) = V at *
  have HV := Lib.hid hVV
  clear hVV
  go_enter Tryd.func78, Tryd.ntmps78
  go_wp2_with fail
  generalize (w.alloc (.cells #[.int .i64 W, .int .i64 S, .int .i64 B, .int .i64 T, .slice ad len cap] 29)).alloc (.cells #[.int .i64 (C : Nat)] 3) = w1 at *
  refine T1.out.mono ?_
  rintro e w2 ⟨rfl, hb⟩
  have B2 := Lib.hid (B0.out.trans (hb.mono B0.out.size))
  have H2 := Lib.hid (H1.out.next hb)
  have F2 := Lib.hid (F1.out.next hb)
  have R2 := Lib.hid (R1.out.next hb)
  have N2 := Lib.hid (N0.out.next hb)
  have M2 := Lib.hid ((hb.cell (World.block_lt_of_cell? _ _ N1.out)).trans N1.out)
  clear hb T1 N0 N1 H1 F1 R1 B0
  cases hfi : firstTo (isOf C) l l.length with
  | some i =>
    obtain ⟨e0, e1⟩ := EX.out i hfi
    obtain ⟨fi1, fi2, _⟩ := firstTo_some hfi
    have EV : Hid (V = srcV (some (i, (l.getD i Sb.none).m))) := by show _ = _; rw [← HV.out, src_of hfi]
    have hs := Lib.hid (at_of fi1)
    have EM := Lib.hid (isOf_m fi2)
    clear EX EX0 fi2
    generalize l.getD i Sb.none = s at *
    have x0 : ((X : Int) == 0) = false := by simp; omega
    have FI := Lib.hid fun w h => first_any X w hX h
    rw [e1] at FI
    have AT := Lib.hid fun w h1 h2 => at_in b (2 * l.length) c i s l r w h1 rfl hs h2
    go_wp2_with (go_at_call 69; refine (FI.out _ (Lib.hid F2.out.tab)).mono ?_; rintro e w' ⟨rfl, rfl⟩)
    refine (AT.out _ H2 F2).mono ?_
    rintro e w3 ⟨rfl, hb⟩
    have B3 := Lib.hid (B2.out.trans (hb.mono B2.out.size))
    have F3 := Lib.hid (F2.out.next hb)
    have Z := supV_eq s
    clear hb
    go_wp2_with fail
    have B4 := Lib.hid (B3.out.alloc B3.out.size (.cells #[.bool (supF s), .int .i64 (supC s), .int .i64 (supR s), .int .u64 (supM s : Nat)] 88))
    have N4 : Hid (SupBox _ w3.heap.size (supF s) (supC s) (supR s) (supM s : Nat)) := heap_new w3 (.cells #[.bool (supF s), .int .i64 (supC s), .int .i64 (supR s), .int .u64 (supM s : Nat)] 88)
    have F4 := Lib.hid (F3.out.next (box1 w3 (.cells #[.bool (supF s), .int .i64 (supC s), .int .i64 (supR s), .int .u64 (supM s : Nat)] 88)))
    generalize w3.alloc (.cells #[.bool (supF s), .int .i64 (supC s), .int .i64 (supR s), .int .u64 (supM s : Nat)] 88) = w4 at *
    generalize w3.heap.size = N3 at *
    have c3 := N4.out.c3
    clear N4 F3 B3
    have k3 := cell_regrown c3
    have a1 := fun d os => Calls.regrown_of (firstB (grow (redrawn w4 d) os) hX (F4.out.grown d os).tab)
    rw [e1] at a1
    refine wp_region_quiet_below (by kernel_rfl) (by kernel_rfl) ?_
    repeat (go_big_quiet_step (with_reducible exact a1 _ _))
    refine wpQuiet_nil ?_
    intro _ hw'
    obtain ⟨⟨dq, osq⟩, hw''⟩ := hw'
    subst hw''
    have B5 := Lib.hid (B4.out.trans ((below_regrown w4 dq osq).mono B4.out.size))
    generalize Sort.grow (redrawn w4 dq) osq = w5 at *
    clear k3 a1 c3 B4 F4
    go_wp2_with fail
    go_ret3
    refine ⟨?_, B5.out⟩
    rw [EV.out]
    show Ending.returned (Value.tuple _) = _
    rw [EM.out]
    rfl
  | none =>
    obtain rfl : X = 0 := EX0.out hfi
    clear EX EX0
    have AF := Lib.hid (allFree_any b (2 * l.length) c l r w2 H2 rfl F2)
    have EY : Hid (∀ i, firstTo isFree l l.length = some i → thoseTo isFree l l.length ≠ 0 ∧ Lib.ctz 64 (thoseTo isFree l l.length) = i) := fun i h => those_first hf h
    have EY0 : Hid (firstTo isFree l l.length = none → thoseTo isFree l l.length = 0) := fun h => those_zero hf h
    generalize hYY : thoseTo isFree l l.length = Y at *
    go_wp2_with fail
    refine AF.out.mono ?_
    rintro e w3 ⟨rfl, hb⟩
    have B3 := Lib.hid (B2.out.trans (hb.mono B2.out.size))
    have F3 := Lib.hid (F2.out.next hb)
    have R3 := Lib.hid (R2.out.next hb)
    have N3 := Lib.hid (N2.out.next hb)
    have M3 := Lib.hid ((hb.cell (World.block_lt_of_cell? _ _ M2.out)).trans M2.out)
    clear hb AF F2 R2 N2 M2 B2 H2
    cases hfy : firstTo isFree l l.length with
    | some i =>
      obtain ⟨e0, e1⟩ := EY.out i hfy
      have EV : Hid (V = srcV (some (i, Ma.lowN (capI len f (C : Nat)).toNat))) := by show _ = _; rw [← HV.out, src_free hfi hfy]
      have y0 : ((Y : Int) == 0) = false := by simp; omega
      go_wp2_with fail
      have c0 := N3.out.c0
      have c1 := N3.out.c1
      have c2 := N3.out.c2
      have c3 := N3.out.c3
      have c4 := N3.out.c4
      have c5 : w3.cell? ⟨w.heap.size + 1, 0, none⟩ = some (.int .i64 (C : Nat)) := M3.out
      have k0 := cell_regrown c0
      have k1 := cell_regrown c1
      have k2 := cell_regrown c2
      have k3 := cell_regrown c3
      have k4 := cell_regrown c4
      have k5 := cell_regrown c5
      have a1 := fun d os => Calls.regrown_of (firstB (grow (redrawn w3 d) os) hY (F3.out.grown d os).tab)
      rw [e1] at a1
      have a2 := fun d os => Calls.regrown_of (all5_any W S B T ad len cap f (C : Nat) (grow (redrawn w3 d) os) (Lib.hid (R3.out.next (below_regrown w3 d os))) ok)
      generalize Ma.lowN (capI len f (C : Nat)).toNat = Z at *
      refine wp_region_quiet_below (by kernel_rfl) (by kernel_rfl) ?_
      repeat (go_big_quiet_step (first | with_reducible exact a1 _ _ | with_reducible exact a2 _ _))
      refine wpQuiet_nil ?_
      intro _ hw'
      obtain ⟨⟨dq, osq⟩, hw''⟩ := hw'
      subst hw''
      have B5 := Lib.hid (B3.out.trans ((below_regrown w3 dq osq).mono B3.out.size))
      generalize Sort.grow (redrawn w3 dq) osq = w5 at *
      clear k0 k1 k2 k3 k4 k5 a1 a2
      go_wp2_with fail
      go_ret3
      refine ⟨?_, B5.out⟩
      rw [EV.out]
      rfl
    | none =>
      obtain rfl : Y = 0 := EY0.out hfy
      have EV : Hid (V = srcV none) := by show _ = _; rw [← HV.out, src_none hfi hfy]
      go_wp2_with fail
      go_ret3
      refine ⟨?_, B3.out⟩
      rw [EV.out]
      rfl
end Go.Proofs.YtkogeeaoppkhkaaDoor
