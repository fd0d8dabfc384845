/-
  Rows of what is out of each superblock, and of how long its run is; what 'whole' asks of them.
-/
import Derived.Test.YtkogeeaoppkhkaaDoorHeartJ
import Derived.Test.YtkogeeaoppkhkaaDoorHeartKP
import Derived.Lib.QuietBelow
namespace Go.Proofs.YtkogeeaoppkhkaaDoor
open Go.RowKit Go.Sort Go.Shelf

def RO (w : World) (b S : Nat) (O : Nat → Nat) : Prop := w.heap[b]? = some (.cells (wordsOf ((List.range S).map O)) 35 (0, 0))
def RR (w : World) (b S : Nat) (R : Nat → Nat) : Prop := w.heap[b]? = some (.cells (numsOf (fun j => (R j : Int)) S).toArray 3 (0, 0))
section
variable {w w' : World} {b S i : Nat} {O R : Nat → Nat}
theorem RO.next (h : RO w b S O) (x : Below w.heap.size w w') : RO w' b S O := (x.block b (heap_lt h)).trans h
theorem RR.next (h : RR w b S R) (x : Below w.heap.size w w') : RR w' b S R := (x.block b (heap_lt h)).trans h
theorem RO.at (h : RO w b S O) (hi : i < S) : w.cell? ⟨b, i, none⟩ = some (.int .u64 (O i : Nat)) := by
  rw [cell_of h]; exact wordsOf_at (by simp [hi])
theorem RR.at (h : RR w b S R) (hi : i < S) : w.cell? ⟨b, i, none⟩ = some (.int .i64 (R i : Nat)) := by
  rw [cell_of h]
  have := nums_get (f := fun j => (R j : Int)) hi
  simpa using this
theorem RO.set (h : RO w b S O) (v : Nat) : RO (w.setCell ⟨b, i, none⟩ (.int .u64 (v : Nat))) b S (fun j => if j = i then v else O j) := by
  unfold RO
  rw [set_of h, wordsOf_put]
  congr 3
  apply List.ext_getElem?
  intro j
  rw [List.getElem?_set]
  by_cases e : i = j
  · subst e
    by_cases hi : i < S
    · simp [hi]
    · simp [hi]
  · have e' : ¬ j = i := fun h => e h.symm
    by_cases hj : j < S
    · simp [e, e', hj]
    · simp [e, hj]
theorem RR.set (h : RR w b S R) (v : Nat) : RR (w.setCell ⟨b, i, none⟩ (.int .i64 (v : Nat))) b S (fun j => if j = i then v else R j) := by
  unfold RR
  rw [set_of h]
  congr 2
  apply Array.ext'
  rw [Array.toList_setIfInBounds, nums_set]
  congr 1
  funext j
  show _ = ((if j = i then v else R j : Nat) : Int)
  split <;> rfl
theorem RO.new (h : w.ownsRow 0 35 1 (.slice (some ⟨b, 0, none⟩) S S) S (madeCells #[Value.int .u64 0] S).toList) : RO w b S (fun _ => 0) := by
  have := owned_all h
  rw [made_words'] at this
  unfold RO
  rw [this]
  congr 3
  apply List.ext_getElem?
  intro j
  by_cases hj : j < S <;> simp [hj]
theorem RR.new (h : w.ownsRow 0 3 1 (.slice (some ⟨b, 0, none⟩) S S) S (madeCells #[Value.int .i64 0] S).toList) : RR w b S (fun _ => 0) := by
  have := owned_all h
  unfold RR
  rw [this]
  congr 2
  apply Array.ext'
  apply List.ext_getElem?
  intro j
  by_cases hj : j < S
  · simp [madeCells, numsOf, hj]
    exact Nat.mod_one j ▸ rfl
  · simp [madeCells, numsOf, hj]
end
/-- What stands while all is looked at. -/
structure Wh (w0 w : World) (N b ob rb : Nat) (W T : Int) (S B len : Nat) (ad : Option Addr) (cap : Nat) (f : Nat → Int) (l : List Sb) (O R : Nat → Nat) : Prop where
  cf : Cfg5 w N W (S : Nat) (B : Nat) T (.slice ad len cap)
  hw : HW w b l []
  o : RO w ob S O
  r : RR w rb S R
  fl : FldAt w
  ri : RowI w ad len f
  be : Below w0.heap.size w0 w
theorem Wh.next {w0 w w' : World} {N b ob rb : Nat} {W T : Int} {S B len : Nat} {ad : Option Addr} {cap : Nat} {f : Nat → Int} {l : List Sb} {O R : Nat → Nat} (h : Wh w0 w N b ob rb W T S B len ad cap f l O R) (x : Below w.heap.size w w') : Wh w0 w' N b ob rb W T S B len ad cap f l O R :=
  ⟨cfg_next h.cf x, h.hw.next x, h.o.next x, h.r.next x, h.fl.next x, h.ri.next x, h.be.trans (x.mono h.be.size)⟩
set_option maxRecDepth 20000 in
set_option maxHeartbeats 8000000 in
theorem whole_any (W T : Int) (S B : Nat) (ad : Option Addr) (len cap : Nat) (f : Nat → Int) (l : List Sb) (b ob rb : Nat) (O R : Nat → Nat) (w : World) (hW : Hid (HW w b l [])) (hO : Hid (RO w ob S O)) (hR : Hid (RR w rb S R)) (hF : Hid (FldAt w)) (hr : Hid (RowI w ad len f)) (ok : Hid (ClsOk len f)) (hS : Hid (S = l.length)) (G : Hid (GoodK (capN len f) l O R)) :
    Calls Tryd.prog 27 #[.agg #[.int .i64 W, .int .i64 (S : Nat), .int .i64 (B : Nat), .int .i64 T, .slice ad len cap], .slice (some ⟨b, 0, none⟩) (2 * S) (2 * S), .slice (some ⟨ob, 0, none⟩) S S, .slice (some ⟨rb, 0, none⟩) S S] w fun e w' => e = .returned (.bool true) ∧ Below w.heap.size w w' := by
  have Y0 : Hid (Wh w (w.alloc (.cells #[.int .i64 W, .int .i64 (S : Nat), .int .i64 (B : Nat), .int .i64 T, .slice ad len cap] 24)) w.heap.size b ob rb W T S B len ad cap f l O R) := by
    have hb := box1 w (.cells #[.int .i64 W, .int .i64 (S : Nat), .int .i64 (B : Nat), .int .i64 T, .slice ad len cap] 24)
    exact ⟨cfg_new w W _ _ T _, hW.out.next hb, hO.out.next hb, hR.out.next hb, hF.out.next hb, hr.out.next hb, hb⟩
  have few := hW.out.few
  go_enter Tryd.func27, Tryd.ntmps27
  go_wp2_with fail
  generalize w.alloc (.cells #[.int .i64 W, .int .i64 (S : Nat), .int .i64 (B : Nat), .int .i64 T, .slice ad len cap] 24) = w0 at *
  generalize w.heap.size = N at *
  obtain ⟨c0, c1, c2, c3, c4⟩ := cfg_cells Y0.out.cf
  go_wp2_with fail
  clear c0 c1 c2 c3 c4
  go_loopw [15] (fun u15 wr => ∃ i : Nat, i ≤ S ∧ u15 = .int .i64 (i : Nat) ∧ Hid (Wh w wr N b ob rb W T S B len ad cap f l O R)) (fun u15 _ => S - (intOf u15).toNat)
  case atStart => exact ⟨0, by omega, rfl, Y0⟩
  case round =>
    obtain ⟨i, hi, rfl, Y1⟩ := hrel
    by_cases hlt : i < S
    · have l3 : (i : Int) < (S : Int) := by omega
      have hi' : i < S := hlt
      have hil : i < l.length := by have := hS.out; omega
      have wi : IntKind.i64.wrap ((i : Int) + 1) = (i : Int) + 1 := by rw [IntKind.wrap_i64]; omega
      have AT := Lib.hid (at_in b (2 * S) (2 * S) i _ l [] wr (Lib.hid Y1.out.hw) (by rw [hS.out]) (Lib.hid (at_of hil)) (Lib.hid Y1.out.fl))
      have ON := G.out.one i hil
      have OK1 := G.out.ok.at (at_of hil)
      change OneK _ (l.getD i Sb.none) _ _ at ON
      generalize l.getD i Sb.none = s at *
      obtain ⟨k, n, m⟩ := s
      generalize hO2 : O i = o at *
      generalize hR2 : R i = r at *
      have vo := Lib.hid hO2
      have vr := Lib.hid hR2
      simp only [OneK] at ON
      have hm64 : m < 18446744073709551616 := OK1.2.2
      clear OK1
      rcases ON with ⟨rfl, rfl, rfl⟩ | ⟨rfl, ho0, ho64, hmo', hor', rfl⟩ | ⟨rfl, rfl, rfl, hn1⟩ | ⟨rfl, rfl, rfl⟩
      · clear hO2 hR2
        have Z : supV ⟨0, n, m⟩ = .agg #[.bool true, .int .i64 (-1), .int .i64 0, .int .u64 0] := rfl
        go_wp2_with fail
        refine AT.out.mono ?_
        rintro e w2 ⟨rfl, hb⟩
        have Y2 := Lib.hid (Y1.out.next hb)
        have X3 : Hid (SupBox (w2.alloc (.cells #[.bool true, .int .i64 (-1), .int .i64 0, .int .u64 0] 88)) w2.heap.size true (-1) 0 0) := heap_new w2 _
        have Y3 := Lib.hid (Y2.out.next (box1 w2 (.cells #[.bool true, .int .i64 (-1), .int .i64 0, .int .u64 0] 88)))
        clear hb Y2 AT Y1
        go_upto_region 5 with fail
        generalize w2.alloc (.cells #[.bool true, .int .i64 (-1), .int .i64 0, .int .u64 0] 88) = w3 at *
        generalize w2.heap.size = NX at *
        have j0 := cell_regrown X3.out.c0
        have j1 := cell_regrown X3.out.c1
        have j2 := cell_regrown X3.out.c2
        have j3 := cell_regrown (Y3.out.o.at hi')
        have j4 := cell_regrown (Y3.out.r.at hi')
        rw [vo.out] at j3
        rw [vr.out] at j4
        refine wp_region_quiet_below (by kernel_rfl) (by kernel_rfl) ?_
        repeat (go_big_quiet_step (fail))
        refine wpQuiet_nil ?_
        intro _ hw'
        obtain ⟨⟨dq, osq⟩, hw''⟩ := hw'
        subst hw''
        have bg := below_regrown w3 dq osq
        have Y4 := Lib.hid (Y3.out.next bg)
        have X4 := Lib.hid (X3.out.next bg)
        clear bg X3 Y3 j0 j1 j2 j3 j4
        generalize Sort.grow (redrawn w3 dq) osq = w4 at *
        have i1 := X4.out.c1
        have i3 := Y4.out.o.at hi'
        rw [vo.out] at i3
        go_wp2_with fail
        go_roundw
        case rel => exact ⟨i + 1, by omega, by push_cast; rfl, Y4⟩
        case measure => simp [intOf]; omega
      · clear hO2 hR2
        have hmo := Lib.hid hmo'
        have hor := Lib.hid hor'
        clear hmo' hor'
        have Z : supV ⟨1, n, m⟩ = .agg #[.bool false, .int .i64 (n : Int), .int .i64 0, .int .u64 (m : Int)] := rfl
        go_wp2_with fail
        refine AT.out.mono ?_
        rintro e w2 ⟨rfl, hb⟩
        have Y2 := Lib.hid (Y1.out.next hb)
        have X3 : Hid (SupBox (w2.alloc (.cells #[.bool false, .int .i64 (n : Int), .int .i64 0, .int .u64 (m : Int)] 88)) w2.heap.size false (n : Int) 0 (m : Int)) := heap_new w2 _
        have Y3 := Lib.hid (Y2.out.next (box1 w2 (.cells #[.bool false, .int .i64 (n : Int), .int .i64 0, .int .u64 (m : Int)] 88)))
        clear hb Y2 AT Y1
        go_upto_region 5 with fail
        generalize w2.alloc (.cells #[.bool false, .int .i64 (n : Int), .int .i64 0, .int .u64 (m : Int)] 88) = w3 at *
        generalize w2.heap.size = NX at *
        have j0 := cell_regrown X3.out.c0
        have j1 := cell_regrown X3.out.c1
        have j2 := cell_regrown X3.out.c2
        have j3 := cell_regrown (Y3.out.o.at hi')
        have j4 := cell_regrown (Y3.out.r.at hi')
        rw [vo.out] at j3
        rw [vr.out] at j4
        refine wp_region_quiet_below (by kernel_rfl) (by kernel_rfl) ?_
        repeat (go_big_quiet_step (fail))
        refine wpQuiet_nil ?_
        intro _ hw'
        obtain ⟨⟨dq, osq⟩, hw''⟩ := hw'
        subst hw''
        have bg := below_regrown w3 dq osq
        have Y4 := Lib.hid (Y3.out.next bg)
        have X4 := Lib.hid (X3.out.next bg)
        clear bg X3 Y3 j0 j1 j2 j3 j4
        generalize Sort.grow (redrawn w3 dq) osq = w4 at *
        have i1 := X4.out.c1
        have i3 := Y4.out.o.at hi'
        rw [vo.out] at i3
        have gn : ¬ ((n : Nat) : Int) < 0 := by omega
        obtain ⟨c0, c1, c2, c3, c4⟩ := cfg_cells Y4.out.cf
        have hcle := capN_le ok.out n
        have CI := capN_int ok.out n
        have CC : Hid (∀ y, RowI y ad len f → Calls Tryd.prog 28 #[.agg #[.int .i64 W, .int .i64 (S : Nat), .int .i64 (B : Nat), .int .i64 T, .slice ad len cap], .int .i64 (n : Nat)] y fun e y' => e = .returned (.int .i64 ((capN len f n : Nat) : Int)) ∧ Below y.heap.size y y') := fun y h => by
          have := rcap_any W (S : Nat) (B : Nat) T ad len cap f (n : Nat) y (Lib.hid h) ok
          rw [CI] at this
          exact this
        clear CI
        generalize capN len f n = K at *
        go_wp2_with fail
        refine (CC.out _ Y4.out.ri).mono ?_
        rintro e w5 ⟨rfl, hb⟩
        have Y5 := Lib.hid (Y4.out.next hb)
        have X5 := Lib.hid (X4.out.next hb)
        clear hb Y4 X4 i1 i3 c0 c1 c2 c3 c4 CC
        go_wp2_with fail
        refine (rlowH K hcle _).mono ?_
        rintro e w6 ⟨rfl, hb⟩
        have Y6 := Lib.hid (Y5.out.next hb)
        have X6 := Lib.hid (X5.out.next hb)
        clear hb Y5 X5
        go_upto_region 11 with fail
        have hL64 : Ma.lowN K < 18446744073709551616 := Ma.lowN_lt hcle
        have a1 : bits BinOp.and IntKind.u64 (m : Int) (o : Int) = 0 := by rw [and_nat m o hm64 ho64, hmo.out]; rfl
        have a2 : bits BinOp.or IntKind.u64 (m : Int) (o : Int) = ((Ma.lowN K : Nat) : Int) := by rw [or_nat m o hm64 ho64, hor.out]
        generalize Ma.lowN K = L at *
        have g0 : ¬ (o : Int) = 0 := by omega
        have j0 := cell_regrown X6.out.c3
        have j3 := cell_regrown (Y6.out.o.at hi')
        rw [vo.out] at j3
        refine wp_region_quiet_below (by kernel_rfl) (by kernel_rfl) ?_
        repeat (go_big_quiet_step (fail))
        refine wpQuiet_nil ?_
        intro _ hw'
        obtain ⟨⟨dq, osq⟩, hw''⟩ := hw'
        subst hw''
        have Y4 := Lib.hid (Y6.out.next (below_regrown w6 dq osq))
        clear X6 Y6 j0 j3 a1 a2
        generalize Sort.grow (redrawn w6 dq) osq = w7 at *
        go_wp2_with fail
        go_roundw
        case rel => exact ⟨i + 1, by omega, by push_cast; rfl, Y4⟩
        case measure => simp [intOf]; omega
      · clear hO2 hR2
        have Z : supV ⟨2, r, m⟩ = .agg #[.bool false, .int .i64 (-1), .int .i64 (r : Int), .int .u64 0] := rfl
        go_wp2_with fail
        refine AT.out.mono ?_
        rintro e w2 ⟨rfl, hb⟩
        have Y2 := Lib.hid (Y1.out.next hb)
        have X3 : Hid (SupBox (w2.alloc (.cells #[.bool false, .int .i64 (-1), .int .i64 (r : Int), .int .u64 0] 88)) w2.heap.size false (-1) (r : Int) 0) := heap_new w2 _
        have Y3 := Lib.hid (Y2.out.next (box1 w2 (.cells #[.bool false, .int .i64 (-1), .int .i64 (r : Int), .int .u64 0] 88)))
        clear hb Y2 AT Y1
        go_upto_region 5 with fail
        generalize w2.alloc (.cells #[.bool false, .int .i64 (-1), .int .i64 (r : Int), .int .u64 0] 88) = w3 at *
        generalize w2.heap.size = NX at *
        have j0 := cell_regrown X3.out.c0
        have j1 := cell_regrown X3.out.c1
        have j2 := cell_regrown X3.out.c2
        have j3 := cell_regrown (Y3.out.o.at hi')
        have j4 := cell_regrown (Y3.out.r.at hi')
        rw [vo.out] at j3
        rw [vr.out] at j4
        refine wp_region_quiet_below (by kernel_rfl) (by kernel_rfl) ?_
        repeat (go_big_quiet_step (fail))
        refine wpQuiet_nil ?_
        intro _ hw'
        obtain ⟨⟨dq, osq⟩, hw''⟩ := hw'
        subst hw''
        have bg := below_regrown w3 dq osq
        have Y4 := Lib.hid (Y3.out.next bg)
        have X4 := Lib.hid (X3.out.next bg)
        clear bg X3 Y3 j0 j1 j2 j3 j4
        generalize Sort.grow (redrawn w3 dq) osq = w4 at *
        have i1 := X4.out.c1
        have i3 := Y4.out.o.at hi'
        rw [vo.out] at i3
        go_wp2_with fail
        go_roundw
        case rel => exact ⟨i + 1, by omega, by push_cast; rfl, Y4⟩
        case measure => simp [intOf]; omega
      · clear hO2 hR2
        have Z : supV ⟨3, n, m⟩ = .agg #[.bool false, .int .i64 (-1), .int .i64 (-1), .int .u64 0] := rfl
        go_wp2_with fail
        refine AT.out.mono ?_
        rintro e w2 ⟨rfl, hb⟩
        have Y2 := Lib.hid (Y1.out.next hb)
        have X3 : Hid (SupBox (w2.alloc (.cells #[.bool false, .int .i64 (-1), .int .i64 (-1), .int .u64 0] 88)) w2.heap.size false (-1) (-1) 0) := heap_new w2 _
        have Y3 := Lib.hid (Y2.out.next (box1 w2 (.cells #[.bool false, .int .i64 (-1), .int .i64 (-1), .int .u64 0] 88)))
        clear hb Y2 AT Y1
        go_upto_region 5 with fail
        generalize w2.alloc (.cells #[.bool false, .int .i64 (-1), .int .i64 (-1), .int .u64 0] 88) = w3 at *
        generalize w2.heap.size = NX at *
        have j0 := cell_regrown X3.out.c0
        have j1 := cell_regrown X3.out.c1
        have j2 := cell_regrown X3.out.c2
        have j3 := cell_regrown (Y3.out.o.at hi')
        have j4 := cell_regrown (Y3.out.r.at hi')
        rw [vo.out] at j3
        rw [vr.out] at j4
        refine wp_region_quiet_below (by kernel_rfl) (by kernel_rfl) ?_
        repeat (go_big_quiet_step (fail))
        refine wpQuiet_nil ?_
        intro _ hw'
        obtain ⟨⟨dq, osq⟩, hw''⟩ := hw'
        subst hw''
        have bg := below_regrown w3 dq osq
        have Y4 := Lib.hid (Y3.out.next bg)
        have X4 := Lib.hid (X3.out.next bg)
        clear bg X3 Y3 j0 j1 j2 j3 j4
        generalize Sort.grow (redrawn w3 dq) osq = w4 at *
        have i1 := X4.out.c1
        have i3 := Y4.out.o.at hi'
        rw [vo.out] at i3
        go_wp2_with fail
        go_roundw
        case rel => exact ⟨i + 1, by omega, by push_cast; rfl, Y4⟩
        case measure => simp [intOf]; omega
    · obtain rfl : i = S := by omega
      go_wp2_with fail
      go_ret
      exact ⟨rfl, Y1.out.be⟩
end Go.Proofs.YtkogeeaoppkhkaaDoor
