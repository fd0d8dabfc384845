/-
  The walk of LiveDoes: whatever is marked, taken and looked at: each answer, each access, and all that is live, is what was marked last there, and not taken.
-/
import Derived.Test.YtchkgmknhndccaaDoorLiveD
import Derived.Test.YtchkgmknhndccaaDoorRowAc
import Derived.Carry
namespace Go.Proofs.YtchkgmknhndccaaDoor
open Go.RowKit Go.Sort

/-- What is done, in its box. -/
def Fo4 (w : World) (M : Nat) (k a x y : Int) : Prop := w.heap[M]? = some (.cells #[.int .i64 k, .int .i64 a, .int .i64 x, .int .i64 y] 37 (0, 0))
theorem Fo4.next {w w' : World} {M : Nat} {k a x y : Int} (h : Fo4 w M k a x y) (hb : Below w.heap.size w w') : Fo4 w' M k a x y := (hb.block M (heap_lt h)).trans h
theorem Fo4.cells {w : World} {M : Nat} {k a x y : Int} (h : Fo4 w M k a x y) : w.cell? ⟨M, 0, none⟩ = some (.int .i64 k) ∧ w.cell? ⟨M, 1, none⟩ = some (.int .i64 a) ∧ w.cell? ⟨M, 2, none⟩ = some (.int .i64 x) ∧ w.cell? ⟨M, 3, none⟩ = some (.int .i64 y) :=
  ⟨by rw [cell_of h]; rfl, by rw [cell_of h]; rfl, by rw [cell_of h]; rfl, by rw [cell_of h]; rfl⟩
set_option maxRecDepth 20000 in
set_option maxHeartbeats 4000000 in
theorem does13_no (W S B T : Int) (ad : Option Addr) (len cap : Nat) (f : Nat → Int) (a : Option Addr) (m c : Nat) (w : World) (hr : Hid (RowI w ad len f)) (hl : len < 9223372036854775808) (hF : Hid (FldL w)) (hm : Hid (mayB W S B T len f = false)) :
    Calls Tryd.prog 3 #[.agg #[.int .i64 W, .int .i64 S, .int .i64 B, .int .i64 T, .slice ad len cap], .slice a m c] w fun e w' => e = .returned (.bool true) ∧ Below w.heap.size w w' := by
  have K0 : Hid (Ar w (w.alloc (.cells #[.int .i64 W, .int .i64 S, .int .i64 B, .int .i64 T, .slice ad len cap] 24)) w.heap.size W S B T ad len cap f) := Ar.start hr.out
  have F0 : Hid (FldL (w.alloc (.cells #[.int .i64 W, .int .i64 S, .int .i64 B, .int .i64 T, .slice ad len cap] 24))) := hF.out.next (below_alloc w _)
  go_enter Tryd.func3, Tryd.ntmps3
  go_wp2_with fail
  generalize w.alloc (.cells #[.int .i64 W, .int .i64 S, .int .i64 B, .int .i64 T, .slice ad len cap] 24) = w0 at *
  generalize hN : w.heap.size = N at *
  refine (speaks13 _ F0).mono ?_
  rintro e w1 ⟨rfl, hb⟩
  have K1 := Lib.hid (K0.out.next hb)
  clear hb K0 F0
  obtain ⟨q0, q1, q2, q3, q4⟩ := cfg_cells K1.out.c
  go_wp2_with fail
  refine (rmay_any W S B T ad len cap f _ K1.out.r hl).mono ?_
  rintro e w2 ⟨he, hb⟩
  obtain rfl : e = .returned (.bool false) := by rw [he, hm.out]
  have K2 := Lib.hid (K1.out.next hb)
  clear hb K1 he q0 q1 q2 q3 q4
  go_wp2_with fail
  go_ret
  exact ⟨rfl, by rw [hN]; exact K2.out.b⟩
set_option maxRecDepth 20000 in
set_option maxHeartbeats 4000000 in
theorem does13_many (W S B T : Int) (ad : Option Addr) (len cap : Nat) (f : Nat → Int) (a : Option Addr) (m c : Nat) (w : World) (hr : Hid (RowI w ad len f)) (hl : len < 9223372036854775808) (hF : Hid (FldL w)) (hm : Hid (mayB W S B T len f = true)) (hmm : 200 < m) :
    Calls Tryd.prog 3 #[.agg #[.int .i64 W, .int .i64 S, .int .i64 B, .int .i64 T, .slice ad len cap], .slice a m c] w fun e w' => e = .returned (.bool true) ∧ Below w.heap.size w w' := by
  have K0 : Hid (Ar w (w.alloc (.cells #[.int .i64 W, .int .i64 S, .int .i64 B, .int .i64 T, .slice ad len cap] 24)) w.heap.size W S B T ad len cap f) := Ar.start hr.out
  have F0 : Hid (FldL (w.alloc (.cells #[.int .i64 W, .int .i64 S, .int .i64 B, .int .i64 T, .slice ad len cap] 24))) := hF.out.next (below_alloc w _)
  go_enter Tryd.func3, Tryd.ntmps3
  go_wp2_with fail
  generalize w.alloc (.cells #[.int .i64 W, .int .i64 S, .int .i64 B, .int .i64 T, .slice ad len cap] 24) = w0 at *
  generalize hN : w.heap.size = N at *
  refine (speaks13 _ F0).mono ?_
  rintro e w1 ⟨rfl, hb⟩
  have K1 := Lib.hid (K0.out.next hb)
  clear hb K0 F0
  obtain ⟨q0, q1, q2, q3, q4⟩ := cfg_cells K1.out.c
  go_wp2_with fail
  refine (rmay_any W S B T ad len cap f _ K1.out.r hl).mono ?_
  rintro e w2 ⟨he, hb⟩
  obtain rfl : e = .returned (.bool true) := by rw [he, hm.out]
  have K2 := Lib.hid (K1.out.next hb)
  clear hb K1 he q0 q1 q2 q3 q4
  have gm : decide ((200 : Int) < (m : Int)) = true := by simp; omega
  go_wp2_with fail
  go_ret
  exact ⟨rfl, by rw [hN]; exact K2.out.b⟩
set_option maxRecDepth 20000 in
set_option maxHeartbeats 16000000 in
theorem does13_yes (W S B T : Int) (ad : Option Addr) (len cap : Nat) (f : Nat → Int) (a : Option Addr) (m c : Nat) (K A X Y : Nat → Int) (w : World) (hr : Hid (RowI w ad len f)) (hl : len < 9223372036854775808) (hF : Hid (FldL w)) (hx : Hid (RowAct w a m K A X Y ∧ ∀ j, j < m → (Lit.int .i64 (A j)).wf = true)) (hm : Hid (mayB W S B T len f = true)) (hmm : m ≤ 200) :
    Calls Tryd.prog 3 #[.agg #[.int .i64 W, .int .i64 S, .int .i64 B, .int .i64 T, .slice ad len cap], .slice a m c] w fun e w' => e = .returned (.bool true) ∧ Below w.heap.size w w' := by
  have K0 : Hid (Ar w (w.alloc (.cells #[.int .i64 W, .int .i64 S, .int .i64 B, .int .i64 T, .slice ad len cap] 24)) w.heap.size W S B T ad len cap f) := Ar.start hr.out
  have F0 : Hid (FldL (w.alloc (.cells #[.int .i64 W, .int .i64 S, .int .i64 B, .int .i64 T, .slice ad len cap] 24))) := hF.out.next (below_alloc w _)
  go_enter Tryd.func3, Tryd.ntmps3
  go_wp2_with fail
  generalize w.alloc (.cells #[.int .i64 W, .int .i64 S, .int .i64 B, .int .i64 T, .slice ad len cap] 24) = w0 at *
  generalize hN : w.heap.size = N at *
  refine (speaks13 _ F0).mono ?_
  rintro e w1 ⟨rfl, hb⟩
  have K1 := Lib.hid (K0.out.next hb)
  clear hb K0 F0
  obtain ⟨q0, q1, q2, q3, q4⟩ := cfg_cells K1.out.c
  go_wp2_with fail
  refine (rmay_any W S B T ad len cap f _ K1.out.r hl).mono ?_
  rintro e w2 ⟨he, hb⟩
  obtain rfl : e = .returned (.bool true) := by rw [he, hm.out]
  have K2 := Lib.hid (K1.out.next hb)
  clear hb K1 he q0 q1 q2 q3 q4
  have gm : decide ((200 : Int) < (m : Int)) = false := by simp; omega
  obtain ⟨⟨w1, w2⟩, ⟨s1, s2⟩, ⟨b1, b2⟩, ⟨t1, t2⟩, ⟨l1, l2⟩, hcls⟩ := may_nums hm.out
  have OK := Lib.hid (cls_ok hcls)
  clear hcls w1 w2 b1 b2 t1 t2
  obtain ⟨n, hn⟩ : ∃ n : Nat, (n : Int) = S * 64 := ⟨(S * 64).toNat, by omega⟩
  have n1 : 64 ≤ n := by omega
  have n2 : n ≤ 4096 := by omega
  have LSZ : Hid (∀ w, Calls Tryd.prog 13 #[.agg #[.int .i64 W, .int .i64 S, .int .i64 B, .int .i64 T, .slice ad len cap]] w fun e w' => e = .returned (.int .i64 (n : Nat)) ∧ Below w.heap.size w w') := fun w => by
    have := lsize_any W S B T (.slice ad len cap) w (by omega) (by omega)
    rw [← hn] at this
    exact this
  have HN := Lib.hid hn
  clear hn
  obtain ⟨q0, q1, q2, q3, q4⟩ := cfg_cells K2.out.c
  go_wp2_with fail
  refine (LSZ.out _).mono ?_
  rintro e w3 ⟨rfl, hb⟩
  have K3 := Lib.hid (K2.out.next hb)
  have lt3 := K3.out.lt
  clear hb K2 q0 q1 q2 q3 q4
  obtain ⟨q0, q1, q2, q3, q4⟩ := cfg_cells K3.out.c
  go_wp2_with fail
  refine (new_nat (n + 3) ((n : Int) + 3) _ (.inr (.inl ⟨by omega, by omega⟩))).mono ?_
  rintro e w4 ⟨g, h, rfl, m5, z1, z2, hb⟩
  have K4 := Lib.hid (K3.out.next hb)
  have M4 := Lib.hid m5
  have Q1 := Lib.hid (Nat.lt_of_lt_of_le lt3 z1)
  have Q2 := Lib.hid (Nat.lt_of_lt_of_le lt3 z2)
  clear hb K3 m5 z1 z2 q0 q1 q2 q3 q4 lt3
  obtain ⟨q0, q1, q2, q3, q4⟩ := cfg_cells K4.out.c
  go_wp2_with fail
  refine (lnew_any g 3 W S B T ad len cap f _ (Lib.hid K4.out.r) (by omega) hm).mono ?_
  rintro e w5 ⟨t, cb, rfl, t5, q3', q4', hb⟩
  have D5 : Hid (Sd w w5 N W S B T ad len cap f n t g h cb (MSt.fresh (n + 3)) (fun _ => none) 0) := by
    have z1 := Q1.out
    have z2 := Q2.out
    have z3 := M4.out.lt
    have z4 := K4.out.lt
    have K5 := K4.out.next hb
    have zH := HN.out
    exact ⟨⟨K5.c, hr.out, by first | exact K5.b | (rw [hN]; exact K5.b), t5, M4.out.next hb, hF.out, ⟨by omega, by omega, by omega, by omega, by omega⟩, ⟨by omega, by omega, by omega, by omega, by omega, by omega⟩⟩, Tw.fresh (by omega), ⟨zH, by omega, by omega, by omega⟩, OK.out, by omega⟩
  clear t5 q3' q4' hb K4 M4 Q1 Q2 q0 q1 q2 q3 q4
  have hba := below_alloc w5 (.map #[] 0)
  have D6 := Lib.hid (D5.out.next hba)
  have P6 : Hid (Mp (w5.alloc (.map #[] 0)) w5.heap.size 0 S len n f (fun _ => none)) := by
    have e0 : (allL S len f (fun _ => none) n).length = 0 := by rw [allL_none (fun _ _ => rfl)]; rfl
    have e1 : qA S (fun _ => none) = fun _ => none := by funext a; unfold qA; split <;> rfl
    refine ⟨?_⟩
    rw [e0, e1]
    exact MpT.made w5
  have BM : Hid (w.heap.size ≤ w5.heap.size ∧ w5.heap.size ≠ N ∧ w5.heap.size ≠ t ∧ w5.heap.size ≠ g ∧ w5.heap.size ≠ h ∧ w5.heap.size ≠ cb) := ⟨D5.out.a.be.size, by have := D5.out.a.lts; omega, by have := D5.out.a.lts; omega, by have := D5.out.a.lts; omega, by have := D5.out.a.lts; omega, by have := D5.out.a.lts; omega⟩
  clear hba D5
  have hmk := @run_makeMap Tryd.prog
  go_wp2_with fail
  clear hmk
  generalize w5.alloc (.map #[] 0) = w6 at *
  generalize w5.heap.size = bm at *
  go_loopw [41] (fun u41 wr => ∃ (k : Nat) (L : Nat → Option (Int × Int)) (s : MSt) (oo kk : Nat), k ≤ m ∧ u41 = .int .i64 (k : Nat) ∧ Hid (Sd w wr N W S B T ad len cap f n t g h cb s L oo) ∧ Hid (Mp wr bm kk S len n f L) ∧ Hid (oo ≤ k ∧ kk ≤ k)) (fun u41 _ => m - (intOf u41).toNat)
  case atStart => exact ⟨0, _, _, _, _, by omega, rfl, D6, P6, Lib.hid (by omega)⟩
  case round =>
    obtain ⟨k, L, s, oo, kk, hk, rfl, X0, P0, HO⟩ := hrel
    by_cases hlt : k < m
    · have l3 : (k : Int) < (m : Int) := by omega
      have hop := HO.out
      have hwf := Lib.hid (hx.out.2 k hlt)
      obtain ⟨ab, aoff, rfl, hc0, hc1, hc2, hc3⟩ := (hx.out.1.next X0.out.a.be).at hlt
      generalize K k = ka at *
      generalize A k = aa at *
      generalize X k = x at *
      generalize Y k = y at *
      have hba := below_alloc wr (.cells #[.int .i64 ka, .int .i64 aa, .int .i64 x, .int .i64 y] 37)
      have Y1 : Hid (Fo4 (wr.alloc (.cells #[.int .i64 ka, .int .i64 aa, .int .i64 x, .int .i64 y] 37)) wr.heap.size ka aa x y) := heap_new wr (.cells #[.int .i64 ka, .int .i64 aa, .int .i64 x, .int .i64 y] 37)
      have X1 := Lib.hid (X0.out.next hba)
      have P1 := Lib.hid (P0.out.next hba)
      have NY : Hid (w.heap.size ≤ wr.heap.size ∧ wr.heap.size ≠ g ∧ wr.heap.size ≠ h ∧ wr.heap.size ≠ bm) := ⟨X0.out.a.be.size, by have := X0.out.a.lts; omega, by have := X0.out.a.lts; omega, by have := P0.out.m.lt; omega⟩
      clear hba X0 P0
      go_upto_region 10 with fail
      clear hc0 hc1 hc2 hc3
      generalize wr.alloc (.cells #[.int .i64 ka, .int .i64 aa, .int .i64 x, .int .i64 y] 37) = w7 at *
      generalize wr.heap.size = MY at *
      obtain ⟨y0, y1, y2, y3⟩ := Y1.out.cells
      obtain ⟨q0, q1, q2, q3, q4⟩ := cfg_cells X1.out.a.c
      have hs : IntKind.i64.wrap (1024 * S) = 1024 * S := by rw [IntKind.wrap_i64]; omega
      have hs2 : IntKind.i64.wrap (65536 + 1024 * S) = 65536 + 1024 * S := by rw [IntKind.wrap_i64]; omega
      by_cases hg : isGr S aa
      · have hg1 := hg.1
        have hg2 := hg.2.1
        have hg3 := hg.2.2
        have GN : Hid (grN S aa = 1) := if_pos hg
        have DG : Hid (decide (isGr S aa) = true) := decide_eq_true hg
        have HG := Lib.hid hg
        clear hg
        have e0 : decide (65536 ≤ aa) = true := by simpa using hg1
        have e1 : decide (aa < 65536 + 1024 * S) = true := by simpa using hg2
        have e2 : (aa % 16 == 0) = true := by simpa using hg3
        go_cut [10] (fun u10 wx => wx = w7 ∧ u10 = .bool true)
        case first =>
          go_wp2_with fail
          go_meet
          case rel => exact ⟨rfl, rfl⟩
        case rest =>
          obtain ⟨rfl, rfl⟩ := hcut
          clear e0 e1 e2 hg1 hg2 hg3
          have hoo : oo < 1000000 := by omega
          have TK : Hid (∀ y s', Sd w y N W S B T ad len cap f n t g h cb s' L oo → Calls Tryd.prog 18 #[.pointer (some ⟨t, 0, none⟩), .int .i64 aa] y fun e w' => e = .returned (.tuple #[.agg #[.int .i64 (oxT (qA S L aa)), .int .i64 (oyT (qA S L aa))], .bool (obT (qA S L aa))]) ∧ Only [g, h] y w' ∧ ∃ s', Sd w w' N W S B T ad len cap f n t g h cb s' (updA S L aa none) (oo + 1)) := fun y s' z => by
            have := z.take hoo aa
            rw [GN.out] at this
            exact this
          have LK : Hid (∀ y s', Sd w y N W S B T ad len cap f n t g h cb s' L oo → Calls Tryd.prog 19 #[.pointer (some ⟨t, 0, none⟩), .int .i64 aa] y fun e w' => e = .returned (.tuple #[.agg #[.int .i64 (oxT (qA S L aa)), .int .i64 (oyT (qA S L aa))], .bool (obT (qA S L aa))]) ∧ Only [g, h] y w' ∧ ∃ s', Sd w w' N W S B T ad len cap f n t g h cb s' L (oo + 1)) := fun y s' z => by
            have := z.look hoo aa
            rw [GN.out] at this
            exact this
          have lk0 : Hid (∀ y, Mp y bm kk S len n f L → (Instr.lookup 33 (.map (some bm)) (.int .i64 aa) true).run Tryd.prog y = .ok (.tuple #[.agg #[.int .i64 (oxT (qA S L aa)), .int .i64 (oyT (qA S L aa))], .bool (obT (qA S L aa))]) y) := fun y z => z.m.look aa hwf.out
          generalize oxT (qA S L aa) = qx at *
          generalize oyT (qA S L aa) = qy at *
          generalize obT (qA S L aa) = qb at *
          go_wp2_with fail
          refine X1.out.count.mono ?_
          rintro e w7' ⟨rfl, rfl⟩
          have lk := lk0.out _ P1.out
          have hba := below_alloc wc (.cells #[.int .i64 qx, .int .i64 qy] 35)
          have W2 := Lib.hid (Two5.new wc 35 qx qy)
          have X2 := Lib.hid (X1.out.next hba)
          have P2 := Lib.hid (P1.out.next hba)
          have Y2 := Lib.hid (Y1.out.next hba)
          have NW : Hid (w.heap.size ≤ wc.heap.size ∧ wc.heap.size ≠ g ∧ wc.heap.size ≠ h ∧ wc.heap.size ≠ bm) := ⟨X1.out.a.be.size, by have := X1.out.a.lts; omega, by have := X1.out.a.lts; omega, by have := P1.out.m.lt; omega⟩
          clear hba X1 P1 q0 q1 q2 q3 q4
          go_upto_region 13 with fail
          clear lk lk0 y0 y1 y2 y3 Y1
          generalize wc.alloc (.cells #[.int .i64 qx, .int .i64 qy] 35) = w8 at *
          generalize wc.heap.size = MW at *
          have hba := below_alloc w8 (.cells #[.int .i64 0, .int .i64 0] 35)
          have V3 := Lib.hid (Two5.new w8 35 0 0)
          have X3 := Lib.hid (X2.out.next hba)
          have P3 := Lib.hid (P2.out.next hba)
          have Y3 := Lib.hid (Y2.out.next hba)
          have W3 := Lib.hid (W2.out.next hba)
          have NV : Hid (w.heap.size ≤ w8.heap.size ∧ (w8.heap.size ≠ g ∧ w8.heap.size ≠ h ∧ w8.heap.size ≠ bm ∧ w8.heap.size ≠ N ∧ w8.heap.size ≠ t ∧ w8.heap.size ≠ cb) ∧ w8.heap.size ≠ MW ∧ w8.heap.size ≠ MY) := ⟨X2.out.a.be.size, ⟨by have := X2.out.a.lts; omega, by have := X2.out.a.lts; omega, by have := P2.out.m.lt; omega, by have := X2.out.a.lts; omega, by have := X2.out.a.lts; omega, by have := X2.out.a.lts; omega⟩, by have := W2.out.lt; omega, by have := heap_lt Y2.out; omega⟩
          clear hba X2 P2 W2 Y2
          go_upto_region 14 with fail
          generalize w8.alloc (.cells #[.int .i64 0, .int .i64 0] 35) = w9 at *
          generalize w8.heap.size = MX at *
          obtain ⟨y0, y1, y2, y3⟩ := Y3.out.cells
          by_cases hk0 : ka = 0
          · subst hk0
            have SZ := Lib.hid fun w (hr : RowI w ad len f) => size13_any W S B T ad len cap f x y w (Lib.hid hr) (by omega)
            obtain ⟨q0, q1, q2, q3, q4⟩ := cfg_cells X3.out.a.c
            by_cases hmt : MayT S len x y
            · have ZN : Hid ((szT S len f x y == 0) = false) := by
                show _ = _
                rw [beq_eq_false_iff_ne]
                exact fun e => (szT_zero OK.out).1 e hmt
              have zn := ZN.out
              generalize szT S len f x y = V at *
              have MK : Hid (∀ y' s', Sd w y' N W S B T ad len cap f n t g h cb s' L oo → Calls Tryd.prog 17 #[.pointer (some ⟨t, 0, none⟩), .int .i64 aa, .agg #[.int .i64 x, .int .i64 y]] y' fun e w' => e = .returned (.bool true) ∧ Only [g, h] y' w' ∧ ∃ s', Sd w w' N W S B T ad len cap f n t g h cb s' (updA S L aa (some (x, y))) (oo + 1)) := fun y' s' z => by
                have := z.mark hoo aa x y hmt
                rw [GN.out, DG.out] at this
                exact this
              go_wp2_with fail
              refine (SZ.out _ X3.out.a.r).mono ?_
              rintro e w10 ⟨rfl, hb⟩
              have X4 := Lib.hid (X3.out.next hb)
              have P4 := Lib.hid (P3.out.next hb)
              have Y4 := Lib.hid (Y3.out.next hb)
              have W4 := Lib.hid (W3.out.next hb)
              have V4 := Lib.hid (V3.out.next hb)
              clear hb X3 P3 Y3 W3 V3 y0 y1 y2 y3 q0 q1 q2 q3 q4
              obtain ⟨y0, y1, y2, y3⟩ := Y4.out.cells
              go_wp2_with fail
              refine (MK.out _ _ X4.out).mono ?_
              rintro e w11 ⟨rfl, o1, s5, x5⟩
              have X5 := Lib.hid x5
              have nb := BM.out
              have nw := NW.out
              have ny := NY.out
              have nv := NV.out
              have P5 := Lib.hid (P4.out.stay o1 (by simp; exact ⟨nb.2.2.2.1, nb.2.2.2.2.1⟩))
              have W5 : Hid (Two5 w11 MW 35 qx qy) := o1.at W4.out (by simp; exact ⟨nw.2.1, nw.2.2.1⟩)
              have Y5 : Hid (Fo4 w11 MY 0 aa x y) := o1.at Y4.out (by simp; exact ⟨ny.2.1, ny.2.2.1⟩)
              have V5 : Hid (Two5 w11 MX 35 0 0) := o1.at V4.out (by simp; exact ⟨nv.2.1.1, nv.2.1.2.1⟩)
              clear nb nw ny nv
              clear o1 x5 X4 P4 W4 Y4 V4 y0 y1 y2 y3 TK LK MK
              obtain ⟨y0, y1, y2, y3⟩ := Y5.out.cells
              obtain ⟨w0', w1'⟩ := W5.out.cells
              obtain ⟨w12, hrun, p6, o6⟩ := P5.out.put aa x y hwf.out (by omega) HG.out HN.out
              have P6 := Lib.hid p6
              have nb := BM.out
              have nw := NW.out
              have ny := NY.out
              have nv := NV.out
              have X6 : Hid (Sd w w12 N W S B T ad len cap f n t g h cb s5 (updA S L aa (some (x, y))) (oo + 1)) := X5.out.other o6 (by intro q hq; simp at hq; subst hq; exact ⟨nb.1, nb.2.1, nb.2.2.1, nb.2.2.2.1, nb.2.2.2.2.1, nb.2.2.2.2.2⟩)
              have W6 : Hid (Two5 w12 MW 35 qx qy) := o6.at W5.out (by simp; exact nw.2.2.2)
              have Y6 : Hid (Fo4 w12 MY 0 aa x y) := o6.at Y5.out (by simp; exact ny.2.2.2)
              have V6 : Hid (Two5 w12 MX 35 0 0) := o6.at V5.out (by simp; exact nv.2.1.2.2.1)
              clear nb nw ny nv
              have hrun' := hrun
              go_upto_region 21 with fail
              clear hrun hrun' p6 o6 y0 y1 y2 y3 w0' w1' X5 P5 W5 Y5 V5
              obtain ⟨a0, a1⟩ := W6.out.cells
              have OX : Hid (Only [MX] w12 ((w12.setCell ⟨MX, 0, none⟩ (.int .i64 qx)).setCell ⟨MX, 1, none⟩ (.int .i64 qy))) := (Only.of_set (l := [MX]) (g := MX) (j := 0) (by simp) _).trans (Only.of_set (g := MX) (j := 1) (by simp) _)
              have nv := NV.out
              have V7 := Lib.hid (V6.out.set qx qy)
              have X7 : Hid (Sd w ((w12.setCell ⟨MX, 0, none⟩ (.int .i64 qx)).setCell ⟨MX, 1, none⟩ (.int .i64 qy)) N W S B T ad len cap f n t g h cb s5 (updA S L aa (some (x, y))) (oo + 1)) := X6.out.other OX.out (by intro q hq; simp at hq; subst hq; exact ⟨nv.1, nv.2.1.2.2.2.1, nv.2.1.2.2.2.2.1, nv.2.1.1, nv.2.1.2.1, nv.2.1.2.2.2.2.2⟩)
              have P7 := Lib.hid (P6.out.stay OX.out (by simp; exact nv.2.1.2.2.1.symm))
              have W7 : Hid (Two5 ((w12.setCell ⟨MX, 0, none⟩ (.int .i64 qx)).setCell ⟨MX, 1, none⟩ (.int .i64 qy)) MW 35 qx qy) := OX.out.at W6.out (by simp; exact nv.2.2.1.symm)
              have Y7 : Hid (Fo4 ((w12.setCell ⟨MX, 0, none⟩ (.int .i64 qx)).setCell ⟨MX, 1, none⟩ (.int .i64 qy)) MY 0 aa x y) := OX.out.at Y6.out (by simp; exact nv.2.2.2.symm)
              obtain ⟨v0, v1⟩ := V6.out.cells
              have z0 := V6.out.fz 0
              have z1 := V6.out.fz 1
              clear nv
              obtain ⟨y0, y1, y2, y3⟩ := Y6.out.cells
              go_upto_region 27 with fail
              generalize (w12.setCell ⟨MX, 0, none⟩ (.int .i64 qx)).setCell ⟨MX, 1, none⟩ (.int .i64 qy) = w13 at *
              clear a0 a1 v0 v1 z0 z1 y0 y1 y2 y3 X6 P6 W6 Y6 V6 OX
              obtain ⟨a0, a1⟩ := W7.out.cells
              obtain ⟨b0, b1⟩ := V7.out.cells
              go_wp2_with fail
              refine X7.out.count.mono ?_
              rintro e wu ⟨rfl, rfl⟩
              go_wp2_with fail
              refine X7.out.count.mono ?_
              rintro e wu ⟨rfl, rfl⟩
              go_wp2_with fail
              go_roundw
              case rel => exact ⟨k + 1, _, _, _, kk + 1, by omega, by push_cast; rfl, X7, P7, Lib.hid (by omega)⟩
              case measure => first | (simp [intOf]; done) | (simp [intOf]; omega)
            · have ZN : Hid (szT S len f x y = 0) := (szT_zero OK.out).2 hmt
              rw [ZN.out] at SZ
              go_wp2_with fail
              refine (SZ.out _ X3.out.a.r).mono ?_
              rintro e w10 ⟨rfl, hb⟩
              have X4 := Lib.hid (X3.out.next hb)
              have P4 := Lib.hid (P3.out.next hb)
              clear hb
              go_wp2_with fail
              go_roundw
              case rel => exact ⟨k + 1, _, _, _, kk, by omega, by push_cast; rfl, X4, P4, Lib.hid (by omega)⟩
              case measure => first | (simp [intOf]; done) | (simp [intOf]; omega)
          · have ek0 : (ka == 0) = false := by simpa using hk0
            by_cases hk1 : ka = 1
            · subst hk1
              go_wp2_with fail
              refine (TK.out _ _ X3.out).mono ?_
              rintro e w11 ⟨rfl, o1, s5, x5⟩
              have X5 := Lib.hid x5
              have nb := BM.out
              have nw := NW.out
              have ny := NY.out
              have nv := NV.out
              have P5 := Lib.hid (P3.out.stay o1 (by simp; exact ⟨nb.2.2.2.1, nb.2.2.2.2.1⟩))
              have W5 : Hid (Two5 w11 MW 35 qx qy) := o1.at W3.out (by simp; exact ⟨nw.2.1, nw.2.2.1⟩)
              have Y5 : Hid (Fo4 w11 MY 1 aa x y) := o1.at Y3.out (by simp; exact ⟨ny.2.1, ny.2.2.1⟩)
              have V5 : Hid (Two5 w11 MX 35 0 0) := o1.at V3.out (by simp; exact ⟨nv.2.1.1, nv.2.1.2.1⟩)
              clear nb nw ny nv
              clear o1 x5 X3 P3 W3 Y3 V3 y0 y1 y2 y3 TK LK
              obtain ⟨y0, y1, y2, y3⟩ := Y5.out.cells
              have OX : Hid (Only [MX] w11 ((w11.setCell ⟨MX, 0, none⟩ (.int .i64 qx)).setCell ⟨MX, 1, none⟩ (.int .i64 qy))) := (Only.of_set (l := [MX]) (g := MX) (j := 0) (by simp) _).trans (Only.of_set (g := MX) (j := 1) (by simp) _)
              have nv := NV.out
              have V7 := Lib.hid (V5.out.set qx qy)
              have X7 : Hid (Sd w ((w11.setCell ⟨MX, 0, none⟩ (.int .i64 qx)).setCell ⟨MX, 1, none⟩ (.int .i64 qy)) N W S B T ad len cap f n t g h cb s5 (updA S L aa none) (oo + 1)) := X5.out.other OX.out (by intro q hq; simp at hq; subst hq; exact ⟨nv.1, nv.2.1.2.2.2.1, nv.2.1.2.2.2.2.1, nv.2.1.1, nv.2.1.2.1, nv.2.1.2.2.2.2.2⟩)
              have P7 := Lib.hid (P5.out.stay OX.out (by simp; exact nv.2.1.2.2.1.symm))
              have W7 : Hid (Two5 ((w11.setCell ⟨MX, 0, none⟩ (.int .i64 qx)).setCell ⟨MX, 1, none⟩ (.int .i64 qy)) MW 35 qx qy) := OX.out.at W5.out (by simp; exact nv.2.2.1.symm)
              have Y7 : Hid (Fo4 ((w11.setCell ⟨MX, 0, none⟩ (.int .i64 qx)).setCell ⟨MX, 1, none⟩ (.int .i64 qy)) MY 1 aa x y) := OX.out.at Y5.out (by simp; exact nv.2.2.2.symm)
              obtain ⟨v0, v1⟩ := V5.out.cells
              have z0 := V5.out.fz 0
              have z1 := V5.out.fz 1
              clear nv
              go_upto_region 24 with fail
              generalize (w11.setCell ⟨MX, 0, none⟩ (.int .i64 qx)).setCell ⟨MX, 1, none⟩ (.int .i64 qy) = w13 at *
              clear v0 v1 z0 z1 y0 y1 y2 y3 X5 P5 W5 Y5 V5 OX
              obtain ⟨y0, y1, y2, y3⟩ := Y7.out.cells
              obtain ⟨w14, hrun, p8, o8⟩ := P7.out.del aa hwf.out HN.out 0
              have P8 := Lib.hid p8
              have nb := BM.out
              have nw := NW.out
              have ny := NY.out
              have nv := NV.out
              have X8 : Hid (Sd w w14 N W S B T ad len cap f n t g h cb s5 (updA S L aa none) (oo + 1)) := X7.out.other o8 (by intro q hq; simp at hq; subst hq; exact ⟨nb.1, nb.2.1, nb.2.2.1, nb.2.2.2.1, nb.2.2.2.2.1, nb.2.2.2.2.2⟩)
              have W8 : Hid (Two5 w14 MW 35 qx qy) := o8.at W7.out (by simp; exact nw.2.2.2)
              have Y8 : Hid (Fo4 w14 MY 1 aa x y) := o8.at Y7.out (by simp; exact ny.2.2.2)
              have V8 : Hid (Two5 w14 MX 35 qx qy) := o8.at V7.out (by simp; exact nv.2.1.2.2.1)
              clear nb nw ny nv
              go_upto_region 27 with fail
              clear hrun p8 o8 X7 P7 W7 Y7 V7 y0 y1 y2 y3
              obtain ⟨a0, a1⟩ := W8.out.cells
              obtain ⟨b0, b1⟩ := V8.out.cells
              go_wp2_with fail
              refine X8.out.count.mono ?_
              rintro e wu ⟨rfl, rfl⟩
              go_wp2_with fail
              refine X8.out.count.mono ?_
              rintro e wu ⟨rfl, rfl⟩
              go_wp2_with fail
              go_roundw
              case rel => exact ⟨k + 1, _, _, _, kk, by omega, by push_cast; rfl, X8, P8, Lib.hid (by omega)⟩
              case measure => first | (simp [intOf]; done) | (simp [intOf]; omega)
            · have ek1 : (ka == 1) = false := by simpa using hk1
              by_cases hk2 : ka = 2
              · subst hk2
                go_wp2_with fail
                refine (LK.out _ _ X3.out).mono ?_
                rintro e w11 ⟨rfl, o1, s5, x5⟩
                have X5 := Lib.hid x5
                have nb := BM.out
                have nw := NW.out
                have ny := NY.out
                have nv := NV.out
                have P5 := Lib.hid (P3.out.stay o1 (by simp; exact ⟨nb.2.2.2.1, nb.2.2.2.2.1⟩))
                have W5 : Hid (Two5 w11 MW 35 qx qy) := o1.at W3.out (by simp; exact ⟨nw.2.1, nw.2.2.1⟩)
                have Y5 : Hid (Fo4 w11 MY 2 aa x y) := o1.at Y3.out (by simp; exact ⟨ny.2.1, ny.2.2.1⟩)
                have V5 : Hid (Two5 w11 MX 35 0 0) := o1.at V3.out (by simp; exact ⟨nv.2.1.1, nv.2.1.2.1⟩)
                clear nb nw ny nv
                clear o1 x5 X3 P3 W3 Y3 V3 y0 y1 y2 y3 TK LK
                obtain ⟨y0, y1, y2, y3⟩ := Y5.out.cells
                have OX : Hid (Only [MX] w11 ((w11.setCell ⟨MX, 0, none⟩ (.int .i64 qx)).setCell ⟨MX, 1, none⟩ (.int .i64 qy))) := (Only.of_set (l := [MX]) (g := MX) (j := 0) (by simp) _).trans (Only.of_set (g := MX) (j := 1) (by simp) _)
                have nv := NV.out
                have V7 := Lib.hid (V5.out.set qx qy)
                have X7 : Hid (Sd w ((w11.setCell ⟨MX, 0, none⟩ (.int .i64 qx)).setCell ⟨MX, 1, none⟩ (.int .i64 qy)) N W S B T ad len cap f n t g h cb s5 L (oo + 1)) := X5.out.other OX.out (by intro q hq; simp at hq; subst hq; exact ⟨nv.1, nv.2.1.2.2.2.1, nv.2.1.2.2.2.2.1, nv.2.1.1, nv.2.1.2.1, nv.2.1.2.2.2.2.2⟩)
                have P7 := Lib.hid (P5.out.stay OX.out (by simp; exact nv.2.1.2.2.1.symm))
                have W7 : Hid (Two5 ((w11.setCell ⟨MX, 0, none⟩ (.int .i64 qx)).setCell ⟨MX, 1, none⟩ (.int .i64 qy)) MW 35 qx qy) := OX.out.at W5.out (by simp; exact nv.2.2.1.symm)
                have Y7 : Hid (Fo4 ((w11.setCell ⟨MX, 0, none⟩ (.int .i64 qx)).setCell ⟨MX, 1, none⟩ (.int .i64 qy)) MY 2 aa x y) := OX.out.at Y5.out (by simp; exact nv.2.2.2.symm)
                obtain ⟨v0, v1⟩ := V5.out.cells
                have z0 := V5.out.fz 0
                have z1 := V5.out.fz 1
                clear nv
                go_upto_region 27 with fail
                generalize (w11.setCell ⟨MX, 0, none⟩ (.int .i64 qx)).setCell ⟨MX, 1, none⟩ (.int .i64 qy) = w13 at *
                clear v0 v1 z0 z1 y0 y1 y2 y3 X5 P5 W5 Y5 V5 OX
                obtain ⟨a0, a1⟩ := W7.out.cells
                obtain ⟨b0, b1⟩ := V7.out.cells
                go_wp2_with fail
                refine X7.out.count.mono ?_
                rintro e wu ⟨rfl, rfl⟩
                go_wp2_with fail
                refine X7.out.count.mono ?_
                rintro e wu ⟨rfl, rfl⟩
                go_wp2_with fail
                go_roundw
                case rel => exact ⟨k + 1, _, _, _, kk, by omega, by push_cast; rfl, X7, P7, Lib.hid (by omega)⟩
                case measure => first | (simp [intOf]; done) | (simp [intOf]; omega)
              · have ek2 : (ka == 2) = false := by simpa using hk2
                go_wp2_with fail
                go_roundw
                case rel => exact ⟨k + 1, _, _, _, kk, by omega, by push_cast; rfl, X3, P3, Lib.hid (by omega)⟩
                case measure => first | (simp [intOf]; done) | (simp [intOf]; omega)
      · have GN : Hid (grN S aa = 0) := if_neg hg
        have DG : Hid (decide (isGr S aa) = false) := decide_eq_false hg
        have HG := Lib.hid hg
        go_cut [10] (fun u10 wx => wx = w7 ∧ u10 = .bool false)
        case first =>
          by_cases g0 : 65536 ≤ aa
          · have e0 : decide (65536 ≤ aa) = true := by simpa using g0
            by_cases g1 : aa < 65536 + 1024 * S
            · have e1 : decide (aa < 65536 + 1024 * S) = true := by simpa using g1
              have e2 : (aa % 16 == 0) = false := by
                simp
                intro e
                exact hg ⟨g0, g1, e⟩
              clear hg
              go_wp2_with fail
              go_meet
              case rel => exact ⟨rfl, rfl⟩
            · have e1 : decide (aa < 65536 + 1024 * S) = false := by simpa using g1
              clear hg
              go_wp2_with fail
              go_meet
              case rel => exact ⟨rfl, rfl⟩
          · have e0 : decide (65536 ≤ aa) = false := by simpa using g0
            clear hg
            go_wp2_with fail
            go_meet
            case rel => exact ⟨rfl, rfl⟩
        case rest =>
          obtain ⟨rfl, rfl⟩ := hcut
          clear hg
          have hoo : oo < 1000000 := by omega
          have TK : Hid (∀ y s', Sd w y N W S B T ad len cap f n t g h cb s' L oo → Calls Tryd.prog 18 #[.pointer (some ⟨t, 0, none⟩), .int .i64 aa] y fun e w' => e = .returned (.tuple #[.agg #[.int .i64 (oxT (qA S L aa)), .int .i64 (oyT (qA S L aa))], .bool (obT (qA S L aa))]) ∧ Only [g, h] y w' ∧ ∃ s', Sd w w' N W S B T ad len cap f n t g h cb s' (updA S L aa none) (oo)) := fun y s' z => by
            have := z.take hoo aa
            rw [GN.out] at this
            exact this
          have LK : Hid (∀ y s', Sd w y N W S B T ad len cap f n t g h cb s' L oo → Calls Tryd.prog 19 #[.pointer (some ⟨t, 0, none⟩), .int .i64 aa] y fun e w' => e = .returned (.tuple #[.agg #[.int .i64 (oxT (qA S L aa)), .int .i64 (oyT (qA S L aa))], .bool (obT (qA S L aa))]) ∧ Only [g, h] y w' ∧ ∃ s', Sd w w' N W S B T ad len cap f n t g h cb s' L (oo)) := fun y s' z => by
            have := z.look hoo aa
            rw [GN.out] at this
            exact this
          have lk0 : Hid (∀ y, Mp y bm kk S len n f L → (Instr.lookup 33 (.map (some bm)) (.int .i64 aa) true).run Tryd.prog y = .ok (.tuple #[.agg #[.int .i64 (oxT (qA S L aa)), .int .i64 (oyT (qA S L aa))], .bool (obT (qA S L aa))]) y) := fun y z => z.m.look aa hwf.out
          generalize oxT (qA S L aa) = qx at *
          generalize oyT (qA S L aa) = qy at *
          generalize obT (qA S L aa) = qb at *
          go_wp2_with fail
          refine X1.out.count.mono ?_
          rintro e w7' ⟨rfl, rfl⟩
          have lk := lk0.out _ P1.out
          have hba := below_alloc wc (.cells #[.int .i64 qx, .int .i64 qy] 35)
          have W2 := Lib.hid (Two5.new wc 35 qx qy)
          have X2 := Lib.hid (X1.out.next hba)
          have P2 := Lib.hid (P1.out.next hba)
          have Y2 := Lib.hid (Y1.out.next hba)
          have NW : Hid (w.heap.size ≤ wc.heap.size ∧ wc.heap.size ≠ g ∧ wc.heap.size ≠ h ∧ wc.heap.size ≠ bm) := ⟨X1.out.a.be.size, by have := X1.out.a.lts; omega, by have := X1.out.a.lts; omega, by have := P1.out.m.lt; omega⟩
          clear hba X1 P1 q0 q1 q2 q3 q4
          go_upto_region 13 with fail
          clear lk lk0 y0 y1 y2 y3 Y1
          generalize wc.alloc (.cells #[.int .i64 qx, .int .i64 qy] 35) = w8 at *
          generalize wc.heap.size = MW at *
          have hba := below_alloc w8 (.cells #[.int .i64 0, .int .i64 0] 35)
          have V3 := Lib.hid (Two5.new w8 35 0 0)
          have X3 := Lib.hid (X2.out.next hba)
          have P3 := Lib.hid (P2.out.next hba)
          have Y3 := Lib.hid (Y2.out.next hba)
          have W3 := Lib.hid (W2.out.next hba)
          have NV : Hid (w.heap.size ≤ w8.heap.size ∧ (w8.heap.size ≠ g ∧ w8.heap.size ≠ h ∧ w8.heap.size ≠ bm ∧ w8.heap.size ≠ N ∧ w8.heap.size ≠ t ∧ w8.heap.size ≠ cb) ∧ w8.heap.size ≠ MW ∧ w8.heap.size ≠ MY) := ⟨X2.out.a.be.size, ⟨by have := X2.out.a.lts; omega, by have := X2.out.a.lts; omega, by have := P2.out.m.lt; omega, by have := X2.out.a.lts; omega, by have := X2.out.a.lts; omega, by have := X2.out.a.lts; omega⟩, by have := W2.out.lt; omega, by have := heap_lt Y2.out; omega⟩
          clear hba X2 P2 W2 Y2
          go_upto_region 14 with fail
          generalize w8.alloc (.cells #[.int .i64 0, .int .i64 0] 35) = w9 at *
          generalize w8.heap.size = MX at *
          obtain ⟨y0, y1, y2, y3⟩ := Y3.out.cells
          by_cases hk0 : ka = 0
          · subst hk0
            have SZ := Lib.hid fun w (hr : RowI w ad len f) => size13_any W S B T ad len cap f x y w (Lib.hid hr) (by omega)
            obtain ⟨q0, q1, q2, q3, q4⟩ := cfg_cells X3.out.a.c
            by_cases hmt : MayT S len x y
            · have ZN : Hid ((szT S len f x y == 0) = false) := by
                show _ = _
                rw [beq_eq_false_iff_ne]
                exact fun e => (szT_zero OK.out).1 e hmt
              have zn := ZN.out
              generalize szT S len f x y = V at *
              have MK : Hid (∀ y' s', Sd w y' N W S B T ad len cap f n t g h cb s' L oo → Calls Tryd.prog 17 #[.pointer (some ⟨t, 0, none⟩), .int .i64 aa, .agg #[.int .i64 x, .int .i64 y]] y' fun e w' => e = .returned (.bool false) ∧ Only [g, h] y' w' ∧ ∃ s', Sd w w' N W S B T ad len cap f n t g h cb s' (updA S L aa (some (x, y))) (oo)) := fun y' s' z => by
                have := z.mark hoo aa x y hmt
                rw [GN.out, DG.out] at this
                exact this
              go_wp2_with fail
              refine (SZ.out _ X3.out.a.r).mono ?_
              rintro e w10 ⟨rfl, hb⟩
              have X4 := Lib.hid (X3.out.next hb)
              have P4 := Lib.hid (P3.out.next hb)
              have Y4 := Lib.hid (Y3.out.next hb)
              have W4 := Lib.hid (W3.out.next hb)
              have V4 := Lib.hid (V3.out.next hb)
              clear hb X3 P3 Y3 W3 V3 y0 y1 y2 y3 q0 q1 q2 q3 q4
              obtain ⟨y0, y1, y2, y3⟩ := Y4.out.cells
              go_wp2_with fail
              refine (MK.out _ _ X4.out).mono ?_
              rintro e w11 ⟨rfl, o1, s5, x5⟩
              have X5 := Lib.hid x5
              have nb := BM.out
              have nw := NW.out
              have ny := NY.out
              have nv := NV.out
              have P5 := Lib.hid (P4.out.stay o1 (by simp; exact ⟨nb.2.2.2.1, nb.2.2.2.2.1⟩))
              have W5 : Hid (Two5 w11 MW 35 qx qy) := o1.at W4.out (by simp; exact ⟨nw.2.1, nw.2.2.1⟩)
              have Y5 : Hid (Fo4 w11 MY 0 aa x y) := o1.at Y4.out (by simp; exact ⟨ny.2.1, ny.2.2.1⟩)
              have V5 : Hid (Two5 w11 MX 35 0 0) := o1.at V4.out (by simp; exact ⟨nv.2.1.1, nv.2.1.2.1⟩)
              clear nb nw ny nv
              clear o1 x5 X4 P4 W4 Y4 V4 y0 y1 y2 y3 TK LK MK
              obtain ⟨y0, y1, y2, y3⟩ := Y5.out.cells
              obtain ⟨w0', w1'⟩ := W5.out.cells
              go_upto_region 21 with fail
              clear w0' w1'
              obtain ⟨a0, a1⟩ := W5.out.cells
              have OX : Hid (Only [MX] w11 ((w11.setCell ⟨MX, 0, none⟩ (.int .i64 qx)).setCell ⟨MX, 1, none⟩ (.int .i64 qy))) := (Only.of_set (l := [MX]) (g := MX) (j := 0) (by simp) _).trans (Only.of_set (g := MX) (j := 1) (by simp) _)
              have nv := NV.out
              have V7 := Lib.hid (V5.out.set qx qy)
              have X7 : Hid (Sd w ((w11.setCell ⟨MX, 0, none⟩ (.int .i64 qx)).setCell ⟨MX, 1, none⟩ (.int .i64 qy)) N W S B T ad len cap f n t g h cb s5 (updA S L aa (some (x, y))) oo) := X5.out.other OX.out (by intro q hq; simp at hq; subst hq; exact ⟨nv.1, nv.2.1.2.2.2.1, nv.2.1.2.2.2.2.1, nv.2.1.1, nv.2.1.2.1, nv.2.1.2.2.2.2.2⟩)
              have P7 := Lib.hid (P5.out.stay OX.out (by simp; exact nv.2.1.2.2.1.symm))
              have W7 : Hid (Two5 ((w11.setCell ⟨MX, 0, none⟩ (.int .i64 qx)).setCell ⟨MX, 1, none⟩ (.int .i64 qy)) MW 35 qx qy) := OX.out.at W5.out (by simp; exact nv.2.2.1.symm)
              have Y7 : Hid (Fo4 ((w11.setCell ⟨MX, 0, none⟩ (.int .i64 qx)).setCell ⟨MX, 1, none⟩ (.int .i64 qy)) MY 0 aa x y) := OX.out.at Y5.out (by simp; exact nv.2.2.2.symm)
              obtain ⟨v0, v1⟩ := V5.out.cells
              have z0 := V5.out.fz 0
              have z1 := V5.out.fz 1
              clear nv
              go_upto_region 27 with fail
              generalize (w11.setCell ⟨MX, 0, none⟩ (.int .i64 qx)).setCell ⟨MX, 1, none⟩ (.int .i64 qy) = w13 at *
              clear a0 a1 v0 v1 z0 z1 y0 y1 y2 y3 X5 W5 Y5 V5 OX
              have P8 : Hid (Mp w13 bm kk S len n f (updA S L aa (some (x, y)))) := by
                have := P7
                rw [← show (updA S L aa (some (x, y))) = L from updA_no HG.out] at this
                first | exact this | (rw [show (updA S L aa (some (x, y))) = L from updA_no HG.out]; exact P7)
              obtain ⟨a0, a1⟩ := W7.out.cells
              obtain ⟨b0, b1⟩ := V7.out.cells
              go_wp2_with fail
              refine X7.out.count.mono ?_
              rintro e wu ⟨rfl, rfl⟩
              go_wp2_with fail
              refine X7.out.count.mono ?_
              rintro e wu ⟨rfl, rfl⟩
              go_wp2_with fail
              go_roundw
              case rel => exact ⟨k + 1, _, _, _, kk, by omega, by push_cast; rfl, X7, P8, Lib.hid (by omega)⟩
              case measure => first | (simp [intOf]; done) | (simp [intOf]; omega)
            · have ZN : Hid (szT S len f x y = 0) := (szT_zero OK.out).2 hmt
              rw [ZN.out] at SZ
              go_wp2_with fail
              refine (SZ.out _ X3.out.a.r).mono ?_
              rintro e w10 ⟨rfl, hb⟩
              have X4 := Lib.hid (X3.out.next hb)
              have P4 := Lib.hid (P3.out.next hb)
              clear hb
              go_wp2_with fail
              go_roundw
              case rel => exact ⟨k + 1, _, _, _, kk, by omega, by push_cast; rfl, X4, P4, Lib.hid (by omega)⟩
              case measure => first | (simp [intOf]; done) | (simp [intOf]; omega)
          · have ek0 : (ka == 0) = false := by simpa using hk0
            by_cases hk1 : ka = 1
            · subst hk1
              go_wp2_with fail
              refine (TK.out _ _ X3.out).mono ?_
              rintro e w11 ⟨rfl, o1, s5, x5⟩
              have X5 := Lib.hid x5
              have nb := BM.out
              have nw := NW.out
              have ny := NY.out
              have nv := NV.out
              have P5 := Lib.hid (P3.out.stay o1 (by simp; exact ⟨nb.2.2.2.1, nb.2.2.2.2.1⟩))
              have W5 : Hid (Two5 w11 MW 35 qx qy) := o1.at W3.out (by simp; exact ⟨nw.2.1, nw.2.2.1⟩)
              have Y5 : Hid (Fo4 w11 MY 1 aa x y) := o1.at Y3.out (by simp; exact ⟨ny.2.1, ny.2.2.1⟩)
              have V5 : Hid (Two5 w11 MX 35 0 0) := o1.at V3.out (by simp; exact ⟨nv.2.1.1, nv.2.1.2.1⟩)
              clear nb nw ny nv
              clear o1 x5 X3 P3 W3 Y3 V3 y0 y1 y2 y3 TK LK
              obtain ⟨y0, y1, y2, y3⟩ := Y5.out.cells
              have OX : Hid (Only [MX] w11 ((w11.setCell ⟨MX, 0, none⟩ (.int .i64 qx)).setCell ⟨MX, 1, none⟩ (.int .i64 qy))) := (Only.of_set (l := [MX]) (g := MX) (j := 0) (by simp) _).trans (Only.of_set (g := MX) (j := 1) (by simp) _)
              have nv := NV.out
              have V7 := Lib.hid (V5.out.set qx qy)
              have X7 : Hid (Sd w ((w11.setCell ⟨MX, 0, none⟩ (.int .i64 qx)).setCell ⟨MX, 1, none⟩ (.int .i64 qy)) N W S B T ad len cap f n t g h cb s5 (updA S L aa none) (oo)) := X5.out.other OX.out (by intro q hq; simp at hq; subst hq; exact ⟨nv.1, nv.2.1.2.2.2.1, nv.2.1.2.2.2.2.1, nv.2.1.1, nv.2.1.2.1, nv.2.1.2.2.2.2.2⟩)
              have P7 := Lib.hid (P5.out.stay OX.out (by simp; exact nv.2.1.2.2.1.symm))
              have W7 : Hid (Two5 ((w11.setCell ⟨MX, 0, none⟩ (.int .i64 qx)).setCell ⟨MX, 1, none⟩ (.int .i64 qy)) MW 35 qx qy) := OX.out.at W5.out (by simp; exact nv.2.2.1.symm)
              have Y7 : Hid (Fo4 ((w11.setCell ⟨MX, 0, none⟩ (.int .i64 qx)).setCell ⟨MX, 1, none⟩ (.int .i64 qy)) MY 1 aa x y) := OX.out.at Y5.out (by simp; exact nv.2.2.2.symm)
              obtain ⟨v0, v1⟩ := V5.out.cells
              have z0 := V5.out.fz 0
              have z1 := V5.out.fz 1
              clear nv
              go_upto_region 24 with fail
              generalize (w11.setCell ⟨MX, 0, none⟩ (.int .i64 qx)).setCell ⟨MX, 1, none⟩ (.int .i64 qy) = w13 at *
              clear v0 v1 z0 z1 y0 y1 y2 y3 X5 P5 W5 Y5 V5 OX
              obtain ⟨y0, y1, y2, y3⟩ := Y7.out.cells
              obtain ⟨w14, hrun, p8, o8⟩ := P7.out.del aa hwf.out HN.out 0
              have P8 := Lib.hid p8
              have nb := BM.out
              have nw := NW.out
              have ny := NY.out
              have nv := NV.out
              have X8 : Hid (Sd w w14 N W S B T ad len cap f n t g h cb s5 (updA S L aa none) (oo)) := X7.out.other o8 (by intro q hq; simp at hq; subst hq; exact ⟨nb.1, nb.2.1, nb.2.2.1, nb.2.2.2.1, nb.2.2.2.2.1, nb.2.2.2.2.2⟩)
              have W8 : Hid (Two5 w14 MW 35 qx qy) := o8.at W7.out (by simp; exact nw.2.2.2)
              have Y8 : Hid (Fo4 w14 MY 1 aa x y) := o8.at Y7.out (by simp; exact ny.2.2.2)
              have V8 : Hid (Two5 w14 MX 35 qx qy) := o8.at V7.out (by simp; exact nv.2.1.2.2.1)
              clear nb nw ny nv
              go_upto_region 27 with fail
              clear hrun p8 o8 X7 P7 W7 Y7 V7 y0 y1 y2 y3
              obtain ⟨a0, a1⟩ := W8.out.cells
              obtain ⟨b0, b1⟩ := V8.out.cells
              go_wp2_with fail
              refine X8.out.count.mono ?_
              rintro e wu ⟨rfl, rfl⟩
              go_wp2_with fail
              refine X8.out.count.mono ?_
              rintro e wu ⟨rfl, rfl⟩
              go_wp2_with fail
              go_roundw
              case rel => exact ⟨k + 1, _, _, _, kk, by omega, by push_cast; rfl, X8, P8, Lib.hid (by omega)⟩
              case measure => first | (simp [intOf]; done) | (simp [intOf]; omega)
            · have ek1 : (ka == 1) = false := by simpa using hk1
              by_cases hk2 : ka = 2
              · subst hk2
                go_wp2_with fail
                refine (LK.out _ _ X3.out).mono ?_
                rintro e w11 ⟨rfl, o1, s5, x5⟩
                have X5 := Lib.hid x5
                have nb := BM.out
                have nw := NW.out
                have ny := NY.out
                have nv := NV.out
                have P5 := Lib.hid (P3.out.stay o1 (by simp; exact ⟨nb.2.2.2.1, nb.2.2.2.2.1⟩))
                have W5 : Hid (Two5 w11 MW 35 qx qy) := o1.at W3.out (by simp; exact ⟨nw.2.1, nw.2.2.1⟩)
                have Y5 : Hid (Fo4 w11 MY 2 aa x y) := o1.at Y3.out (by simp; exact ⟨ny.2.1, ny.2.2.1⟩)
                have V5 : Hid (Two5 w11 MX 35 0 0) := o1.at V3.out (by simp; exact ⟨nv.2.1.1, nv.2.1.2.1⟩)
                clear nb nw ny nv
                clear o1 x5 X3 P3 W3 Y3 V3 y0 y1 y2 y3 TK LK
                obtain ⟨y0, y1, y2, y3⟩ := Y5.out.cells
                have OX : Hid (Only [MX] w11 ((w11.setCell ⟨MX, 0, none⟩ (.int .i64 qx)).setCell ⟨MX, 1, none⟩ (.int .i64 qy))) := (Only.of_set (l := [MX]) (g := MX) (j := 0) (by simp) _).trans (Only.of_set (g := MX) (j := 1) (by simp) _)
                have nv := NV.out
                have V7 := Lib.hid (V5.out.set qx qy)
                have X7 : Hid (Sd w ((w11.setCell ⟨MX, 0, none⟩ (.int .i64 qx)).setCell ⟨MX, 1, none⟩ (.int .i64 qy)) N W S B T ad len cap f n t g h cb s5 L (oo)) := X5.out.other OX.out (by intro q hq; simp at hq; subst hq; exact ⟨nv.1, nv.2.1.2.2.2.1, nv.2.1.2.2.2.2.1, nv.2.1.1, nv.2.1.2.1, nv.2.1.2.2.2.2.2⟩)
                have P7 := Lib.hid (P5.out.stay OX.out (by simp; exact nv.2.1.2.2.1.symm))
                have W7 : Hid (Two5 ((w11.setCell ⟨MX, 0, none⟩ (.int .i64 qx)).setCell ⟨MX, 1, none⟩ (.int .i64 qy)) MW 35 qx qy) := OX.out.at W5.out (by simp; exact nv.2.2.1.symm)
                have Y7 : Hid (Fo4 ((w11.setCell ⟨MX, 0, none⟩ (.int .i64 qx)).setCell ⟨MX, 1, none⟩ (.int .i64 qy)) MY 2 aa x y) := OX.out.at Y5.out (by simp; exact nv.2.2.2.symm)
                obtain ⟨v0, v1⟩ := V5.out.cells
                have z0 := V5.out.fz 0
                have z1 := V5.out.fz 1
                clear nv
                go_upto_region 27 with fail
                generalize (w11.setCell ⟨MX, 0, none⟩ (.int .i64 qx)).setCell ⟨MX, 1, none⟩ (.int .i64 qy) = w13 at *
                clear v0 v1 z0 z1 y0 y1 y2 y3 X5 P5 W5 Y5 V5 OX
                obtain ⟨a0, a1⟩ := W7.out.cells
                obtain ⟨b0, b1⟩ := V7.out.cells
                go_wp2_with fail
                refine X7.out.count.mono ?_
                rintro e wu ⟨rfl, rfl⟩
                go_wp2_with fail
                refine X7.out.count.mono ?_
                rintro e wu ⟨rfl, rfl⟩
                go_wp2_with fail
                go_roundw
                case rel => exact ⟨k + 1, _, _, _, kk, by omega, by push_cast; rfl, X7, P7, Lib.hid (by omega)⟩
                case measure => first | (simp [intOf]; done) | (simp [intOf]; omega)
              · have ek2 : (ka == 2) = false := by simpa using hk2
                go_wp2_with fail
                go_roundw
                case rel => exact ⟨k + 1, _, _, _, kk, by omega, by push_cast; rfl, X3, P3, Lib.hid (by omega)⟩
                case measure => first | (simp [intOf]; done) | (simp [intOf]; omega)
    · obtain rfl : k = m := by omega
      go_wp2_with fail
      refine X0.out.all.mono ?_
      rintro e wq ⟨v1, rfl, r1, _, hb⟩
      have R1 := Lib.hid r1
      have X1 := Lib.hid (X0.out.next hb)
      have P1' := Lib.hid (P0.out.next hb)
      clear r1 hb X0 P0
      have few : (allL S len f L n).length ≤ n := allL_len _ _ _ _ _
      obtain ⟨pa, pc, hv1⟩ := ORow.form R1.out
      subst hv1
      have GET := Lib.hid fun i (p : Int × Int) (h : (allL S len f L n)[i]? = some p) => allL_get h
      have RIS := Lib.hid fun i (p q : Int × Int) (h : (allL S len f L n)[i]? = some p) (h2 : (allL S len f L n)[i + 1]? = some q) => allL_rises h h2
      have LN := Lib.hid fun y (z : Mp y bm kk S len n f L) (ty : TypeId) => z.m.len ty
      generalize allL S len f L n = AL at *
      go_wp2_with fail
      go_loopw [152] (fun u wz => ∃ i : Nat, i ≤ AL.length ∧ u = .int .i64 (i : Nat) ∧ Hid (Below wq.heap.size wq wz)) (fun u _ => AL.length - (intOf u).toNat)
      case atStart => exact ⟨0, Nat.zero_le _, rfl, Below.refl _ _⟩
      case round =>
        obtain ⟨i, hi, rfl, Bz⟩ := hrel
        by_cases hil : i < AL.length
        · have l3' : (i : Int) < (AL.length : Int) := by omega
          obtain ⟨p1, p2⟩ : ∃ p : Int × Int, AL[i]? = some p := ⟨_, List.getElem?_eq_getElem hil⟩
          obtain ⟨b1, k1, e1, hc1, _⟩ := ORow.at ivEnc (R1.out.next Bz.out) p2
          cases e1
          have x0 := hc1 0 _ rfl
          have x1 := hc1 1 _ rfl
          rw [Nat.add_zero] at x0
          clear hc1
          obtain ⟨j, x, y, hj, hL, hp⟩ := GET.out i p1 p2
          have hq : Hid (qA S L p1.1 = some (x, y)) := by
            show _ = _
            have h1 := HN.out
            unfold qA
            rw [if_pos (by rw [hp]; exact ⟨by first | (simp; done) | (simp; omega), by first | (simp; done) | (simp; omega), by first | (simp; done) | (simp; omega)⟩)]
            rw [show ((p1.1 - 65536) / 16).toNat = j from by rw [hp]; simp; omega]
            exact hL
          have hwf : Hid ((Lit.int .i64 p1.1).wf = true) := WalkArith.wf_i64 (by rw [hp]; simp; omega)
          have hsz : Hid (szT S len f x y = p1.2) := by show _ = _; rw [hp]
          have lk0 : Hid (∀ z, Mp z bm kk S len n f L → (Instr.lookup 33 (.map (some bm)) (.int .i64 p1.1) true).run Tryd.prog z = .ok (.tuple #[.agg #[.int .i64 x, .int .i64 y], .bool true]) z) := fun z hz => by
            have := hz.m.look p1.1 hwf.out
            rw [hq.out] at this
            exact this
          have SZ : Hid (∀ w, RowI w ad len f → Calls Tryd.prog 16 #[.agg #[.int .i64 W, .int .i64 S, .int .i64 B, .int .i64 T, .slice ad len cap], .agg #[.int .i64 x, .int .i64 y]] w fun e w' => e = .returned (.int .i64 p1.2) ∧ Below w.heap.size w w') := fun w hr => by
            have := size13_any W S B T ad len cap f x y w (Lib.hid hr) (by omega)
            rw [hsz.out] at this
            exact this
          have LOW : Hid (∀ i', i = i' + 1 → ∃ q : Int × Int, AL[i']? = some q ∧ q.1 < p1.1) := fun i' e => by
            subst e
            obtain ⟨q, hq'⟩ : ∃ q : Int × Int, AL[i']? = some q := ⟨_, List.getElem?_eq_getElem (by omega)⟩
            exact ⟨q, hq', RIS.out i' q p1 hq' p2⟩
          clear hj hL hp hq hwf hsz p2
          generalize p1.1 = P1 at *
          generalize p1.2 = P2 at *
          have X2 := Lib.hid (X1.out.next Bz.out)
          have M2 := Lib.hid (P1'.out.next Bz.out)
          have hba := below_alloc wr (.cells #[.int .i64 P1, .int .i64 P2] 46)
          have I3 := Lib.hid (Two5.new wr 46 P1 P2)
          have X3 := Lib.hid (X2.out.next hba)
          have M3 := Lib.hid (M2.out.next hba)
          have B3 := Lib.hid (Bz.out.trans (hba.mono Bz.out.size))
          clear hba X2 M2
          go_upto_region 34 with fail
          clear x0 x1
          generalize wr.alloc (.cells #[.int .i64 P1, .int .i64 P2] 46) = w20 at *
          generalize wr.heap.size = MI at *
          have lk := lk0.out _ M3.out
          obtain ⟨i0, i1⟩ := I3.out.cells
          have hba := below_alloc w20 (.cells #[.int .i64 x, .int .i64 y] 35)
          have T4 := Lib.hid (Two5.new w20 35 x y)
          have I4 := Lib.hid (I3.out.next hba)
          have X4 := Lib.hid (X3.out.next hba)
          have B4 := Lib.hid (B3.out.trans (hba.mono B3.out.size))
          clear hba
          go_upto_region 35 with fail
          clear lk i0 i1 I3 X3 M3 B3
          generalize w20.alloc (.cells #[.int .i64 x, .int .i64 y] 35) = w21 at *
          generalize w20.heap.size = MT at *
          obtain ⟨i0, i1⟩ := I4.out.cells
          obtain ⟨t0, t1⟩ := T4.out.cells
          obtain ⟨q0, q1, q2, q3, q4⟩ := cfg_cells X4.out.a.c
          have ki0 := cell_regrown i0
          have ki1 := cell_regrown i1
          have kt0 := cell_regrown t0
          have kt1 := cell_regrown t1
          have kq0 := cell_regrown q0
          have kq1 := cell_regrown q1
          have kq2 := cell_regrown q2
          have kq3 := cell_regrown q3
          have kq4 := cell_regrown q4
          clear i0 i1 t0 t1 q0 q1 q2 q3 q4
          have a0 := fun d os => Calls.regrown_of (SZ.out (grow (redrawn w21 d) os) ((X4.out.next (below_regrown w21 d os)).a.r))
          by_cases hi0 : i = 0
          · subst hi0
            refine wp_region_quiet_below (by kernel_rfl) (by kernel_rfl) ?_
            repeat (go_big_quiet_step (first | with_reducible exact a0 _ _))
            refine wpQuiet_nil ?_
            intro _ hw'
            obtain ⟨⟨dq, osq⟩, hw''⟩ := hw'
            subst hw''
            have Bn := Lib.hid (B4.out.trans ((below_regrown _ dq osq).mono B4.out.size))
            go_wp2_with fail
            go_roundw
            case rel => exact ⟨0 + 1, by omega, by push_cast; rfl, Bn⟩
            case measure => first | (simp [intOf]; done) | (simp [intOf]; omega)
          · obtain ⟨i', rfl⟩ : ∃ i', i = i' + 1 := ⟨i - 1, by omega⟩
            obtain ⟨q, hq1, hq2⟩ := LOW.out i' rfl
            obtain ⟨b2, k2, e2, hc2, _⟩ := ORow.at ivEnc (R1.out.next B4.out) hq1
            cases e2
            have x0 := hc2 0 _ rfl
            rw [Nat.add_zero] at x0
            clear hc2 hq1
            generalize q.1 = Q1 at *
            have kx0 := cell_regrown x0
            have d1 : decide (P1 ≤ Q1) = false := by simp; omega
            have d2 : decide ((0 : Int) < ((i' + 1 : Nat) : Int)) = true := by first | (simp; done) | (simp; omega)
            have d3 : (((i' + 1 : Nat) : Int) - 1) = (i' : Int) := by omega
            have d4 : IntKind.i64.wrap (((i' + 1 : Nat) : Int) - 1) = (i' : Int) := by rw [IntKind.wrap_i64]; omega
            have d5 : (i' : Int) < (AL.length : Int) := by omega
            clear x0
            refine wp_region_quiet_below (by kernel_rfl) (by kernel_rfl) ?_
            repeat (go_big_quiet_step (first | with_reducible exact a0 _ _))
            refine wpQuiet_nil ?_
            intro _ hw'
            obtain ⟨⟨dq, osq⟩, hw''⟩ := hw'
            subst hw''
            have Bn := Lib.hid (B4.out.trans ((below_regrown _ dq osq).mono B4.out.size))
            go_wp2_with fail
            go_roundw
            case rel => exact ⟨i' + 1 + 1, by omega, by push_cast; rfl, Bn⟩
            case measure => first | (simp [intOf]; done) | (simp [intOf]; omega)
        · obtain rfl : i = AL.length := by omega
          have X2 := Lib.hid (X1.out.next Bz.out)
          have M2 := Lib.hid (P1'.out.next Bz.out)
          have ln := LN.out _ M2.out 3
          go_wp2_with fail
          refine X2.out.fault.mono ?_
          rintro e wu ⟨rfl, rfl⟩
          go_wp2_with fail
          go_ret
          exact ⟨rfl, by first | exact X2.out.a.be | (rw [hN]; exact X2.out.a.be)⟩
theorem does13_walk (W S B T : Int) (ad : Option Addr) (len cap : Nat) (f : Nat → Int) (a : Option Addr) (m c : Nat) (K A X Y : Nat → Int) (w : World) (hr : RowI w ad len f) (hl : len < 9223372036854775808) (hF : FldL w) (hx : RowAct w a m K A X Y ∧ ∀ j, j < m → (Lit.int .i64 (A j)).wf = true) :
    Calls Tryd.prog 3 #[.agg #[.int .i64 W, .int .i64 S, .int .i64 B, .int .i64 T, .slice ad len cap], .slice a m c] w fun e w' => e = .returned (.bool true) ∧ Below w.heap.size w w' := by
  rcases h : mayB W S B T len f with _ | _
  · exact does13_no W S B T ad len cap f a m c w (Lib.hid hr) hl (Lib.hid hF) (Lib.hid h)
  · by_cases hmm : 200 < m
    · exact does13_many W S B T ad len cap f a m c w (Lib.hid hr) hl (Lib.hid hF) (Lib.hid h) hmm
    · exact does13_yes W S B T ad len cap f a m c K A X Y w (Lib.hid hr) hl (Lib.hid hF) (Lib.hid hx) (Lib.hid h) (by omega)
end Go.Proofs.YtchkgmknhndccaaDoor
