/-
  A system, its table of what is live, and the memory; the example of layer 13's statements; what the document says of sizes.
-/
import Derived.Test.YtchkgmknhndccaaDoorLive3
namespace Go.Proofs.YtchkgmknhndccaaDoor
open Go.RowKit Go.Sort

/-- A system in its box, its table, and the memory. -/
structure Ls (w0 w : World) (N : Nat) (W S B T : Int) (ad : Option Addr) (len cap : Nat) (f : Nat → Int) (t g h cb base : Nat) (s : MSt) : Prop where
  c : Cfg5 w N W S B T (.slice ad len cap)
  r0 : RowI w0 ad len f
  be : Below w0.heap.size w0 w
  tb : Tb w t g cb base W S B T len f
  m : MemAt w g h s
  f0 : FldL w0
  lo : w0.heap.size ≤ N ∧ w0.heap.size ≤ t ∧ w0.heap.size ≤ cb ∧ w0.heap.size ≤ g ∧ w0.heap.size ≤ h
  ne : t ≠ g ∧ t ≠ h ∧ cb ≠ g ∧ cb ≠ h ∧ N ≠ g ∧ N ≠ h
section
variable {w0 w w' : World} {N : Nat} {W S B T : Int} {ad : Option Addr} {len cap : Nat} {f : Nat → Int} {t g h cb base : Nat} {s s' : MSt}
theorem Ls.next (x : Ls w0 w N W S B T ad len cap f t g h cb base s) (hb : Below w.heap.size w w') : Ls w0 w' N W S B T ad len cap f t g h cb base s :=
  ⟨cfg_next x.c hb, x.r0, x.be.trans (hb.mono x.be.size), x.tb.next hb, x.m.next hb, x.f0, x.lo, x.ne⟩
theorem Ls.turn (x : Ls w0 w N W S B T ad len cap f t g h cb base s) (o : Only [g, h] w w') (m : MemAt w' g h s') : Ls w0 w' N W S B T ad len cap f t g h cb base s' := by
  obtain ⟨l1, l2, l3, l4, l5⟩ := x.lo
  obtain ⟨n1, n2, n3, n4, n5, n6⟩ := x.ne
  exact ⟨o.at x.c (by simp; omega), x.r0, x.be.trans (o.below (by simp; omega) x.be.size), x.tb.stay o (by simp; omega) (by simp; omega), m, x.f0, x.lo, x.ne⟩
theorem Ls.other (x : Ls w0 w N W S B T ad len cap f t g h cb base s) {q : List Nat} (o : Only q w w') (hq : ∀ k ∈ q, w0.heap.size ≤ k ∧ k ≠ N ∧ k ≠ t ∧ k ≠ g ∧ k ≠ h ∧ k ≠ cb) : Ls w0 w' N W S B T ad len cap f t g h cb base s :=
  have hn : ∀ b, (b = N ∨ b = t ∨ b = g ∨ b = h ∨ b = cb) → b ∉ q := fun b hb hm => by
    obtain ⟨_, a1, a2, a3, a4, a5⟩ := hq b hm
    rcases hb with e | e | e | e | e <;> contradiction
  ⟨o.at x.c (hn _ (.inl rfl)), x.r0, x.be.trans (o.below (fun k hk => (hq k hk).1) x.be.size), x.tb.stay o (hn _ (.inr (.inl rfl))) (hn _ (.inr (.inr (.inr (.inr rfl))))), x.m.stay o (hn _ (.inr (.inr (.inl rfl)))) (hn _ (.inr (.inr (.inr (.inl rfl))))), x.f0, x.lo, x.ne⟩
theorem Ls.fl (x : Ls w0 w N W S B T ad len cap f t g h cb base s) : FldL w := x.f0.next x.be
theorem Ls.r (x : Ls w0 w N W S B T ad len cap f t g h cb base s) : RowI w ad len f := x.r0.next x.be
theorem Ls.lts (x : Ls w0 w N W S B T ad len cap f t g h cb base s) : N < w.heap.size ∧ t < w.heap.size ∧ g < w.heap.size ∧ h < w.heap.size ∧ cb < w.heap.size := ⟨cfg_lt x.c, heap_lt x.tb.box, x.m.lt.1, x.m.lt.2, heap_lt x.tb.row⟩
theorem Ls.mark (x : Ls w0 w N W S B T ad len cap f t g h cb base s) (s0 : 0 ≤ S) (s1 : S ≤ 1000) (hl : len ≤ 1000) (ok : ClsOk len f) (ho : s.ops < 4611686018427387904) (hf : s.faults < 4611686018427387904) (hb0 : base ≤ 16777216) {a : Int} {j : Nat} (hj : (j : Int) < 64 * S) (ha : a = 65536 + 16 * (j : Int)) {p q : Int} (hmt : MayT S len p q) :
    Calls Tryd.prog 17 #[.pointer (some ⟨t, 0, none⟩), .int .i64 a, .agg #[.int .i64 p, .int .i64 q]] w fun e w' => e = .returned (.bool true) ∧ Ls w0 w' N W S B T ad len cap f t g h cb base ((s.begun 2 ((base + j : Nat) : Int)).put ((base + j : Nat) : Int) (wordT p q)) ∧ Only [g, h] w w' :=
  (mark_yes t g cb base h W S B T len f s a p q j w (Lib.hid x.tb) (Lib.hid x.fl) (Lib.hid x.m) x.ne.1 x.ne.2.1 x.ne.2.2.1 x.ne.2.2.2.1 s0 s1 hl (Lib.hid ok) ho hf hb0 hj (Lib.hid ha) hmt).mono fun _ _ q => ⟨q.1, x.turn q.2.2 q.2.1, q.2.2⟩
theorem Ls.take (x : Ls w0 w N W S B T ad len cap f t g h cb base s) (s0 : 0 ≤ S) (s1 : S ≤ 1000) (hl : len ≤ 1000) (ok : ClsOk len f) (ho : s.ops < 4611686018427387904) (hf : s.faults < 4611686018427387904) (hb0 : base ≤ 16777216) {a : Int} {j : Nat} (hj : (j : Int) < 64 * S) (ha : a = 65536 + 16 * (j : Int)) {q : Option (Int × Int)} (hrd : s.rd ((base + j : Nat) : Int) = encT q) (hq : MayO S len q) :
    Calls Tryd.prog 18 #[.pointer (some ⟨t, 0, none⟩), .int .i64 a] w fun e w' => e = .returned (.tuple #[.agg #[.int .i64 (oxT q), .int .i64 (oyT q)], .bool (obT q)]) ∧ Ls w0 w' N W S B T ad len cap f t g h cb base ((s.begun 3 ((base + j : Nat) : Int)).put ((base + j : Nat) : Int) 0) ∧ Only [g, h] w w' :=
  (take_yes t g cb base h W S B T len f s a q j w (Lib.hid x.tb) (Lib.hid x.fl) (Lib.hid x.m) x.ne.1 x.ne.2.1 x.ne.2.2.1 x.ne.2.2.2.1 (Lib.hid ⟨w0, x.f0, x.lo.2.2.2.1, x.lo.2.2.2.2⟩) s0 s1 hl (Lib.hid ok) ho hf hb0 hj (Lib.hid ha) hrd hq).mono fun _ _ q => ⟨q.1, x.turn q.2.2 q.2.1, q.2.2⟩
theorem Ls.look (x : Ls w0 w N W S B T ad len cap f t g h cb base s) (s0 : 0 ≤ S) (s1 : S ≤ 1000) (hl : len ≤ 1000) (ok : ClsOk len f) (ho : s.ops < 4611686018427387904) (hf : s.faults < 4611686018427387904) (hb0 : base ≤ 16777216) {a : Int} {j : Nat} (hj : (j : Int) < 64 * S) (ha : a = 65536 + 16 * (j : Int)) {q : Option (Int × Int)} (hrd : s.rd ((base + j : Nat) : Int) = encT q) (hq : MayO S len q) :
    Calls Tryd.prog 19 #[.pointer (some ⟨t, 0, none⟩), .int .i64 a] w fun e w' => e = .returned (.tuple #[.agg #[.int .i64 (oxT q), .int .i64 (oyT q)], .bool (obT q)]) ∧ Ls w0 w' N W S B T ad len cap f t g h cb base (s.begun 1 ((base + j : Nat) : Int)) ∧ Only [g, h] w w' :=
  (look_yes t g cb base h W S B T len f s a q j w (Lib.hid x.tb) (Lib.hid x.fl) (Lib.hid x.m) x.ne.1 x.ne.2.1 x.ne.2.2.1 x.ne.2.2.2.1 (Lib.hid ⟨w0, x.f0, x.lo.2.2.2.1, x.lo.2.2.2.2⟩) s0 s1 hl (Lib.hid ok) ho hf hb0 hj (Lib.hid ha) hrd hq).mono fun _ _ q => ⟨q.1, x.turn q.2.2 q.2.1, q.2.2⟩
end
theorem size13_any (W S B T : Int) (ad : Option Addr) (len cap : Nat) (f : Nat → Int) (x y : Int) (w : World) (hr : Hid (RowI w ad len f)) (s1 : S ≤ 1000) :
    Calls Tryd.prog 16 #[.agg #[.int .i64 W, .int .i64 S, .int .i64 B, .int .i64 T, .slice ad len cap], .agg #[.int .i64 x, .int .i64 y]] w fun e w' => e = .returned (.int .i64 (szT S len f x y)) ∧ Below w.heap.size w w' := by
  have hb1 := below_alloc w (.cells #[.int .i64 W, .int .i64 S, .int .i64 B, .int .i64 T, .slice ad len cap] 24)
  have hb2 := below_alloc (w.alloc (.cells #[.int .i64 W, .int .i64 S, .int .i64 B, .int .i64 T, .slice ad len cap] 24)) (.cells #[.int .i64 x, .int .i64 y] 35)
  have HB := Lib.hid (below_after hb1 hb2)
  have HR := Lib.hid (hr.out.next (below_after hb1 hb2))
  clear hb1 hb2
  by_cases hx : 0 ≤ x
  · have d1 : decide (0 ≤ x) = true := by simpa using hx
    have e1 : (x == -1) = false := by simp; omega
    by_cases h2 : x < len
    · have d2 : decide (x < (len : Int)) = true := by simpa using h2
      by_cases hy : y = 0
      · subst hy
        obtain ⟨n, rfl⟩ := Int.eq_ofNat_of_zero_le hx
        have hn : n < len := by omega
        have HV := Lib.hid (szT_of (S := S) (f := f) hn)
        obtain ⟨b, off, rfl, hc⟩ := HR.out.at hn
        generalize f n = z at *
        clear d1 e1
        go_enter Tryd.func16, Tryd.ntmps16
        go_wp2_with fail
        go_ret
        exact ⟨by rw [HV.out]; first | done | rfl | exact cret_int (by omega), HB.out⟩
      · have d3 : (y == 0) = false := by simpa using hy
        have HV := Lib.hid (szT_no (S := S) (len := len) (f := f) (x := x) (y := y) (by omega) (by omega))
        go_enter Tryd.func16, Tryd.ntmps16
        go_wp2_with fail
        go_ret
        exact ⟨by rw [HV.out]; first | done | rfl | exact cret_int (by omega), HB.out⟩
    · have d2 : decide (x < (len : Int)) = false := by simpa using h2
      have HV := Lib.hid (szT_no (S := S) (len := len) (f := f) (x := x) (y := y) (by omega) (by omega))
      go_enter Tryd.func16, Tryd.ntmps16
      go_wp2_with fail
      go_ret
      exact ⟨by rw [HV.out]; first | done | rfl | exact cret_int (by omega), HB.out⟩
  · have d1 : decide (0 ≤ x) = false := by simpa using hx
    by_cases h1 : x = -1
    · subst h1
      clear d1
      by_cases h2 : 1 ≤ y
      · have d2 : decide (1 ≤ y) = true := by simpa using h2
        by_cases h3 : y ≤ S
        · have d3 : decide (y ≤ S) = true := by simpa using h3
          have HV := Lib.hid (szT_run (len := len) (f := f) h2 h3)
          go_enter Tryd.func16, Tryd.ntmps16
          go_wp2_with fail
          go_ret
          exact ⟨by rw [HV.out]; exact cret_int (by omega), HB.out⟩
        · have d3 : decide (y ≤ S) = false := by simpa using h3
          have HV := Lib.hid (szT_no (S := S) (len := len) (f := f) (x := -1) (y := y) (by omega) (by omega))
          go_enter Tryd.func16, Tryd.ntmps16
          go_wp2_with fail
          go_ret
          exact ⟨by rw [HV.out]; first | done | rfl | exact cret_int (by omega), HB.out⟩
      · have d2 : decide (1 ≤ y) = false := by simpa using h2
        have HV := Lib.hid (szT_no (S := S) (len := len) (f := f) (x := -1) (y := y) (by omega) (by omega))
        go_enter Tryd.func16, Tryd.ntmps16
        go_wp2_with fail
        go_ret
        exact ⟨by rw [HV.out]; first | done | rfl | exact cret_int (by omega), HB.out⟩
    · have e1 : (x == -1) = false := by simpa using h1
      have HV := Lib.hid (szT_no (S := S) (len := len) (f := f) (x := x) (y := y) (by omega) (by omega))
      go_enter Tryd.func16, Tryd.ntmps16
      go_wp2_with fail
      go_ret
      exact ⟨by rw [HV.out]; first | done | rfl | exact cret_int (by omega), HB.out⟩

def f1 (_ : Nat) : Int := 16
theorem ok1 : ClsOk 1 f1 := cls_ok (by decide)
theorem may1 : mayB 1 1 1 0 1 f1 = true := by decide
def sa : MSt := ((MSt.fresh 70).begun 2 7).put 7 1
def sb : MSt := sa.begun 1 7
def sc : MSt := (sb.begun 3 7).put 7 0
def sd : MSt := (sc.begun 3 7).put 7 0
theorem row_1 {w : World} {b : Nat} (h : w.heap[b]? = some (.cells #[.int .i64 16] 3 (0, 0))) : RowI w (some ⟨b, 0, none⟩) 1 f1 := row_block h rfl
theorem may00 {S : Int} {len : Nat} (h : 1 ≤ len) : MayT S len 0 0 := .inr ⟨rfl, by decide, by omega⟩
theorem mayO00 {S : Int} {len : Nat} (h : 1 ≤ len) : MayO S len (some (0, 0)) := fun _ _ e => by cases e; exact may00 h
theorem mayOn {S : Int} {len : Nat} : MayO S len none := fun _ _ e => by cases e
set_option maxRecDepth 20000 in
set_option maxHeartbeats 4000000 in
theorem speaks13 (w : World) (hF : Hid (FldL w)) : Calls Tryd.prog 10 #[] w fun e w' => e = .returned (.bool true) ∧ Below w.heap.size w w' := by
  have b1 := Lib.hid (below_alloc w (.cells #[.int .i64 16] 3))
  have k2 : Ar (w.alloc (.cells #[.int .i64 16] 3)) ((w.alloc (.cells #[.int .i64 16] 3)).alloc (.cells #[.int .i64 1, .int .i64 1, .int .i64 1, .int .i64 0, .slice (some ⟨w.heap.size, 0, none⟩) 1 1] 24)) (w.alloc (.cells #[.int .i64 16] 3)).heap.size 1 1 1 0 (some ⟨w.heap.size, 0, none⟩) 1 1 f1 := Ar.start (row_1 (heap_at w (.cells #[.int .i64 16] 3)))
  have F1 : Hid (FldL (w.alloc (.cells #[.int .i64 16] 3))) := hF.out.next (below_alloc w (.cells #[.int .i64 16] 3))
  have R1 : Hid (RowI (w.alloc (.cells #[.int .i64 16] 3)) (some ⟨w.heap.size, 0, none⟩) 1 f1) := row_1 (heap_at w (.cells #[.int .i64 16] 3))
  have hN1 : (w.alloc (.cells #[.int .i64 16] 3)).heap.size = w.heap.size + 1 := by simp
  rw [hN1] at k2
  have K0 := Lib.hid k2
  clear k2
  go_enter Tryd.func10, Tryd.ntmps10
  go_wp2_with fail
  generalize (w.alloc (.cells #[.int .i64 16] 3)).alloc (.cells #[.int .i64 1, .int .i64 1, .int .i64 1, .int .i64 0, .slice (some ⟨w.heap.size, 0, none⟩) 1 1] 24) = w0 at *
  generalize (w.alloc (.cells #[.int .i64 16] 3)) = wx at *
  generalize hb : w.heap.size = b at *
  have LB : Hid (b ≤ b + 1) := Nat.le_succ b
  generalize b + 1 = N at *
  refine (new_nat 70 70 _ (.inr (.inl ⟨rfl, by decide⟩))).mono ?_
  rintro e w1 ⟨g, h, rfl, m1, q1, q2, hb1⟩
  have M1 := Lib.hid m1
  have K1 := Lib.hid (K0.out.next hb1)
  have Q1 := Lib.hid (Nat.lt_of_lt_of_le K0.out.lt q1)
  have Q2 := Lib.hid (Nat.lt_of_lt_of_le K0.out.lt q2)
  clear m1 q1 q2 hb1 K0
  obtain ⟨c0, c1, c2, c3, c4⟩ := cfg_cells K1.out.c
  go_wp2_with fail
  refine (lsize_any 1 1 1 0 _ _ (by decide) (by decide)).mono ?_
  rintro e w2 ⟨rfl, hb1⟩
  have M2 := Lib.hid (M1.out.next hb1)
  have K2 := Lib.hid (K1.out.next hb1)
  clear hb1 K1 M1 c0 c1 c2 c3 c4
  obtain ⟨c0, c1, c2, c3, c4⟩ := cfg_cells K2.out.c
  go_wp2_with fail
  refine (lnew_any g 6 1 1 1 0 (some ⟨b, 0, none⟩) 1 1 f1 _ (Lib.hid K2.out.r) (by decide) (Lib.hid may1)).mono ?_
  rintro e w3 ⟨t, cb, rfl, t3, q1, q2, hb1⟩
  have L3 : Hid (Ls wx w3 N 1 1 1 0 (some ⟨b, 0, none⟩) 1 1 f1 t g h cb 6 (MSt.fresh 70)) := by
    have z1 := Q1.out
    have z2 := Q2.out
    have z3 := M2.out.lt
    have z4 := K2.out.lt
    have K3 := K2.out.next hb1
    exact ⟨K3.c, R1.out, by rw [hN1]; exact K3.b, t3, M2.out.next hb1, F1.out, ⟨by omega, by omega, by omega, by omega, by omega⟩, ⟨by omega, by omega, by omega, by omega, by omega, by omega⟩⟩
  clear t3 q1 q2 hb1 K2 M2 c0 c1 c2 c3 c4 Q1 Q2
  go_wp2_with fail
  refine (lof_any 0 _).mono ?_
  rintro e w4 ⟨rfl, hb1⟩
  have L4 := Lib.hid (L3.out.next hb1)
  clear hb1 L3
  go_wp2_with fail
  refine (L4.out.mark (by decide) (by decide) (by decide) ok1 (by decide) (by decide) (by decide) (a := 65552) (j := 1) (by decide) (by decide) (p := 0) (q := 0) (may00 (by decide))).mono ?_
  rintro e w5 ⟨rfl, l5, _⟩
  have L5 : Hid (Ls wx w5 N 1 1 1 0 (some ⟨b, 0, none⟩) 1 1 f1 t g h cb 6 sa) := l5
  clear l5 L4
  go_wp2_with fail
  refine (L5.out.look (by decide) (by decide) (by decide) ok1 (by decide) (by decide) (by decide) (a := 65552) (j := 1) (by decide) (by decide) (q := some (0, 0)) (by decide) (mayO00 (by decide))).mono ?_
  rintro e w6 ⟨rfl, l6, _⟩
  have L6 : Hid (Ls wx w6 N 1 1 1 0 (some ⟨b, 0, none⟩) 1 1 f1 t g h cb 6 sb) := l6
  clear l6 L5
  rw [show oxT (some ((0 : Int), (0 : Int))) = 0 from rfl, show oyT (some ((0 : Int), (0 : Int))) = 0 from rfl, show obT (some ((0 : Int), (0 : Int))) = true from rfl]
  have neX : Hid (w6.heap.size ≠ g ∧ w6.heap.size ≠ h) := ⟨by have := L6.out.lts; omega, by have := L6.out.lts; omega⟩
  have hba := below_alloc w6 (.cells #[.int .i64 0, .int .i64 0] 35)
  have X7 := Lib.hid (Two5.new w6 35 0 0)
  have L7 := Lib.hid (L6.out.next hba)
  clear hba
  go_wp2_with fail
  generalize w6.alloc (.cells #[.int .i64 0, .int .i64 0] 35) = w7 at *
  generalize w6.heap.size = MX at *
  clear L6 
  refine (L7.out.take (by decide) (by decide) (by decide) ok1 (by decide) (by decide) (by decide) (a := 65552) (j := 1) (by decide) (by decide) (q := some (0, 0)) (by decide) (mayO00 (by decide))).mono ?_
  rintro e w8 ⟨rfl, l1, o1⟩
  have L8 : Hid (Ls wx w8 N 1 1 1 0 (some ⟨b, 0, none⟩) 1 1 f1 t g h cb 6 sc) := l1
  have NX : MX ≠ g ∧ MX ≠ h := neX.out
  have X8 : Hid (Two5 w8 MX 35 0 0) := o1.at X7.out (by simp; omega)
  clear l1 o1 L7 X7 NX
  rw [show oxT (some ((0 : Int), (0 : Int))) = 0 from rfl, show oyT (some ((0 : Int), (0 : Int))) = 0 from rfl, show obT (some ((0 : Int), (0 : Int))) = true from rfl]
  have neY : Hid (w8.heap.size ≠ g ∧ w8.heap.size ≠ h) := ⟨by have := L8.out.lts; omega, by have := L8.out.lts; omega⟩
  have hba := below_alloc w8 (.cells #[.int .i64 0, .int .i64 0] 35)
  have Y9 := Lib.hid (Two5.new w8 35 0 0)
  have L9 := Lib.hid (L8.out.next hba)
  have X9 := Lib.hid (X8.out.next hba)
  clear hba
  go_wp2_with fail
  generalize w8.alloc (.cells #[.int .i64 0, .int .i64 0] 35) = w9 at *
  generalize w8.heap.size = MY at *
  clear L8 X8
  refine (L9.out.take (by decide) (by decide) (by decide) ok1 (by decide) (by decide) (by decide) (a := 65552) (j := 1) (by decide) (by decide) (q := none) (by decide) mayOn).mono ?_
  rintro e w10 ⟨rfl, l1, o1⟩
  have L10 : Hid (Ls wx w10 N 1 1 1 0 (some ⟨b, 0, none⟩) 1 1 f1 t g h cb 6 sd) := l1
  have NX : MX ≠ g ∧ MX ≠ h := neX.out
  have X10 : Hid (Two5 w10 MX 35 0 0) := o1.at X9.out (by simp; omega)
  have NY : MY ≠ g ∧ MY ≠ h := neY.out
  have Y10 : Hid (Two5 w10 MY 35 0 0) := o1.at Y9.out (by simp; omega)
  clear l1 o1 L9 X9 NX Y9 NY
  rw [show oxT none = 0 from rfl, show oyT none = 0 from rfl, show obT none = false from rfl]
  have hba := below_alloc w10 (.cells #[.int .i64 0, .int .i64 0] 35)
  have Z11 := Lib.hid (Two5.new w10 35 0 0)
  have L11 := Lib.hid (L10.out.next hba)
  have X11 := Lib.hid (X10.out.next hba)
  have Y11 := Lib.hid (Y10.out.next hba)
  clear hba
  go_wp2_with fail
  generalize w10.alloc (.cells #[.int .i64 0, .int .i64 0] 35) = w11 at *
  generalize w10.heap.size = MZ at *
  clear L10 X10 Y10
  have TS1 : Hid (∀ w, RowI w (some ⟨b, 0, none⟩) 1 f1 → Calls Tryd.prog 22 #[.agg #[.int .i64 0, .int .i64 0], .agg #[.int .i64 1, .int .i64 1, .int .i64 1, .int .i64 0, .slice (some ⟨b, 0, none⟩) 1 1]] w fun e w' => e = .returned (.int .i64 16) ∧ Below w.heap.size w w') := fun w hr => tsize_any 1 1 1 0 _ 1 1 f1 0 0 w (Lib.hid hr) (by decide)
  have TS2 : Hid (∀ w, RowI w (some ⟨b, 0, none⟩) 1 f1 → Calls Tryd.prog 22 #[.agg #[.int .i64 (-1), .int .i64 1], .agg #[.int .i64 1, .int .i64 1, .int .i64 1, .int .i64 0, .slice (some ⟨b, 0, none⟩) 1 1]] w fun e w' => e = .returned (.int .i64 1024) ∧ Below w.heap.size w w') := fun w hr => tsize_any 1 1 1 0 _ 1 1 f1 (-1) 1 w (Lib.hid hr) (by decide)
  obtain ⟨c0, c1, c2, c3, c4⟩ := cfg_cells L11.out.c
  obtain ⟨x0, x1⟩ := X11.out.cells
  obtain ⟨y0, y1⟩ := Y11.out.cells
  have kc0 := cell_regrown c0
  have kc1 := cell_regrown c1
  have kc2 := cell_regrown c2
  have kc3 := cell_regrown c3
  have kc4 := cell_regrown c4
  have kx0 := cell_regrown x0
  have kx1 := cell_regrown x1
  have ky0 := cell_regrown y0
  have ky1 := cell_regrown y1
  clear c0 c1 c2 c3 c4 x0 x1 y0 y1
  have a0 := fun d os => Calls.regrown_of (lof_any 0 (grow (redrawn w11 d) os))
  have a1 := fun d os => Calls.regrown_of (lrun_any 1 (grow (redrawn w11 d) os))
  have a2 := fun d os => Calls.regrown_of (TS1.out (grow (redrawn w11 d) os) ((L11.out.next (below_regrown w11 d os)).r))
  have a3 := fun d os => Calls.regrown_of (TS2.out (grow (redrawn w11 d) os) ((L11.out.next (below_regrown w11 d os)).r))
  refine wp_region_quiet_below (by kernel_rfl) (by kernel_rfl) ?_
  repeat (go_big_quiet_step (first | with_reducible exact a0 _ _ | with_reducible exact a1 _ _ | with_reducible exact a2 _ _ | with_reducible exact a3 _ _))
  refine wpQuiet_nil ?_
  intro _ hw'
  obtain ⟨⟨dq, osq⟩, hw''⟩ := hw'
  subst hw''
  have L12 := Lib.hid (L11.out.next (below_regrown w11 dq osq))
  generalize Sort.grow (redrawn w11 dq) osq = w12 at *
  go_wp2_with fail
  go_ret
  exact ⟨rfl, by rw [hb]; exact b1.out.trans (L12.out.be.mono (by rw [hN1]; exact LB.out))⟩
set_option maxHeartbeats 4000000 in
theorem sizes13_no (W S B T : Int) (ad : Option Addr) (len cap : Nat) (f : Nat → Int) (x y n : Int) (w : World) (hr : Hid (RowI w ad len f)) (hl : len < 9223372036854775808) (hF : Hid (FldL w)) (hm : Hid (mayB W S B T len f = false)) :
    Calls Tryd.prog 4 #[.agg #[.int .i64 W, .int .i64 S, .int .i64 B, .int .i64 T, .slice ad len cap], .agg #[.int .i64 x, .int .i64 y], .int .i64 n] w fun e w' => e = .returned (.bool true) ∧ Below w.heap.size w w' := by
  have hq := below_alloc (w.alloc (.cells #[.int .i64 W, .int .i64 S, .int .i64 B, .int .i64 T, .slice ad len cap] 24)) (.cells #[.int .i64 x, .int .i64 y] 35)
  have K0 : Hid (Ar w ((w.alloc (.cells #[.int .i64 W, .int .i64 S, .int .i64 B, .int .i64 T, .slice ad len cap] 24)).alloc (.cells #[.int .i64 x, .int .i64 y] 35)) w.heap.size W S B T ad len cap f) := (Ar.start hr.out).next hq
  have Q0' := Two5.new (w.alloc (.cells #[.int .i64 W, .int .i64 S, .int .i64 B, .int .i64 T, .slice ad len cap] 24)) 35 x y
  rw [show (w.alloc (.cells #[.int .i64 W, .int .i64 S, .int .i64 B, .int .i64 T, .slice ad len cap] 24)).heap.size = w.heap.size + 1 from by simp] at Q0'
  have Q0 := Lib.hid Q0'
  have F0 : Hid (FldL ((w.alloc (.cells #[.int .i64 W, .int .i64 S, .int .i64 B, .int .i64 T, .slice ad len cap] 24)).alloc (.cells #[.int .i64 x, .int .i64 y] 35))) := (hF.out.next (below_alloc w _)).next hq
  clear hq Q0'
  go_enter Tryd.func4, Tryd.ntmps4
  go_wp2_with fail
  generalize (w.alloc (.cells #[.int .i64 W, .int .i64 S, .int .i64 B, .int .i64 T, .slice ad len cap] 24)).alloc (.cells #[.int .i64 x, .int .i64 y] 35) = w0 at *
  generalize hN : w.heap.size = N at *
  refine (speaks13 _ F0).mono ?_
  rintro e w1 ⟨rfl, hb⟩
  have K1 := Lib.hid (K0.out.next hb)
  have Q1 := Lib.hid (Q0.out.next hb)
  clear hb K0 Q0 F0
  obtain ⟨c0, c1, c2, c3, c4⟩ := cfg_cells K1.out.c
  go_wp2_with fail
  refine (rmay_any W S B T ad len cap f _ K1.out.r hl).mono ?_
  rintro e w2 ⟨he, hb⟩
  obtain rfl : e = .returned (.bool false) := by rw [he, hm.out]
  have K2 := Lib.hid (K1.out.next hb)
  have Q2 := Lib.hid (Q1.out.next hb)
  clear hb K1 Q1 he c0 c1 c2 c3 c4
  go_wp2_with fail
  go_ret
  exact ⟨rfl, by first | exact K2.out.b | (rw [hN]; exact K2.out.b)⟩
set_option maxRecDepth 20000 in
set_option maxHeartbeats 4000000 in
theorem sizes13_yes (W S B T : Int) (ad : Option Addr) (len cap : Nat) (f : Nat → Int) (x y n : Int) (w : World) (hr : Hid (RowI w ad len f)) (hl : len < 9223372036854775808) (hF : Hid (FldL w)) (hm : Hid (mayB W S B T len f = true)) :
    Calls Tryd.prog 4 #[.agg #[.int .i64 W, .int .i64 S, .int .i64 B, .int .i64 T, .slice ad len cap], .agg #[.int .i64 x, .int .i64 y], .int .i64 n] w fun e w' => e = .returned (.bool true) ∧ Below w.heap.size w w' := by
  have hq := below_alloc (w.alloc (.cells #[.int .i64 W, .int .i64 S, .int .i64 B, .int .i64 T, .slice ad len cap] 24)) (.cells #[.int .i64 x, .int .i64 y] 35)
  have K0 : Hid (Ar w ((w.alloc (.cells #[.int .i64 W, .int .i64 S, .int .i64 B, .int .i64 T, .slice ad len cap] 24)).alloc (.cells #[.int .i64 x, .int .i64 y] 35)) w.heap.size W S B T ad len cap f) := (Ar.start hr.out).next hq
  have Q0' := Two5.new (w.alloc (.cells #[.int .i64 W, .int .i64 S, .int .i64 B, .int .i64 T, .slice ad len cap] 24)) 35 x y
  rw [show (w.alloc (.cells #[.int .i64 W, .int .i64 S, .int .i64 B, .int .i64 T, .slice ad len cap] 24)).heap.size = w.heap.size + 1 from by simp] at Q0'
  have Q0 := Lib.hid Q0'
  have F0 : Hid (FldL ((w.alloc (.cells #[.int .i64 W, .int .i64 S, .int .i64 B, .int .i64 T, .slice ad len cap] 24)).alloc (.cells #[.int .i64 x, .int .i64 y] 35))) := (hF.out.next (below_alloc w _)).next hq
  clear hq Q0'
  go_enter Tryd.func4, Tryd.ntmps4
  go_wp2_with fail
  generalize (w.alloc (.cells #[.int .i64 W, .int .i64 S, .int .i64 B, .int .i64 T, .slice ad len cap] 24)).alloc (.cells #[.int .i64 x, .int .i64 y] 35) = w0 at *
  generalize hN : w.heap.size = N at *
  refine (speaks13 _ F0).mono ?_
  rintro e w1 ⟨rfl, hb⟩
  have K1 := Lib.hid (K0.out.next hb)
  have Q1 := Lib.hid (Q0.out.next hb)
  clear hb K0 Q0 F0
  obtain ⟨c0, c1, c2, c3, c4⟩ := cfg_cells K1.out.c
  go_wp2_with fail
  refine (rmay_any W S B T ad len cap f _ K1.out.r hl).mono ?_
  rintro e w2 ⟨he, hb⟩
  obtain rfl : e = .returned (.bool true) := by rw [he, hm.out]
  have K2 := Lib.hid (K1.out.next hb)
  have Q2 := Lib.hid (Q1.out.next hb)
  clear hb K1 Q1 he c0 c1 c2 c3 c4
  obtain ⟨⟨w1, w2⟩, ⟨s1, s2⟩, ⟨b1, b2⟩, ⟨t1, t2⟩, ⟨l1, l2⟩, hcls⟩ := may_nums hm.out
  clear hcls w1 w2 b1 b2 t1 t2
  obtain ⟨c0, c1, c2, c3, c4⟩ := cfg_cells K2.out.c
  obtain ⟨q0, q1⟩ := Q2.out.cells
  go_wp2_with fail
  have kc0 := cell_regrown c0
  have kc1 := cell_regrown c1
  have kc2 := cell_regrown c2
  have kc3 := cell_regrown c3
  have kc4 := cell_regrown c4
  have kq0 := cell_regrown q0
  have kq1 := cell_regrown q1
  clear c0 c1 c2 c3 c4 q0 q1
  have hs : IntKind.i64.wrap (64 * S) = S * 64 := by rw [IntKind.wrap_i64]; omega
  have A0 := Lib.hid fun w (hr : RowI w ad len f) => tsize_any W S B T ad len cap f x y w (Lib.hid hr) (by omega)
  have A1 := Lib.hid fun w (hr : RowI w ad len f) => size13_any W S B T ad len cap f x y w (Lib.hid hr) (by omega)
  have A2 := Lib.hid fun w (hr : RowI w ad len f) => tsize_any W S B T ad len cap f n 0 w (Lib.hid hr) (by omega)
  have A3 := Lib.hid fun w (hr : RowI w ad len f) => size13_any W S B T ad len cap f n 0 w (Lib.hid hr) (by omega)
  have A4 := Lib.hid fun w (hr : RowI w ad len f) => tsize_any W S B T ad len cap f (-1) n w (Lib.hid hr) (by omega)
  have A5 := Lib.hid fun w (hr : RowI w ad len f) => size13_any W S B T ad len cap f (-1) n w (Lib.hid hr) (by omega)
  generalize szT S len f x y = v1 at *
  generalize szT S len f n 0 = v2 at *
  generalize szT S len f (-1) n = v3 at *
  have a0 := fun d os => Calls.regrown_of (A0.out (grow (redrawn w2 d) os) (K2.out.grown d os).r)
  have a1 := fun d os => Calls.regrown_of (A1.out (grow (redrawn w2 d) os) (K2.out.grown d os).r)
  have a2 := fun d os => Calls.regrown_of (A2.out (grow (redrawn w2 d) os) (K2.out.grown d os).r)
  have a3 := fun d os => Calls.regrown_of (A3.out (grow (redrawn w2 d) os) (K2.out.grown d os).r)
  have a4 := fun d os => Calls.regrown_of (A4.out (grow (redrawn w2 d) os) (K2.out.grown d os).r)
  have a5 := fun d os => Calls.regrown_of (A5.out (grow (redrawn w2 d) os) (K2.out.grown d os).r)
  have a6 := fun d os => Calls.regrown_of (lof_any n (grow (redrawn w2 d) os))
  have a7 := fun d os => Calls.regrown_of (lrun_any n (grow (redrawn w2 d) os))
  have a8 := fun d os => Calls.regrown_of (lsize_any W S B T (.slice ad len cap) (grow (redrawn w2 d) os) (by omega) (by omega))
  refine wp_region_quiet_below (by kernel_rfl) (by kernel_rfl) ?_
  repeat (go_big_quiet_step (first | with_reducible exact a0 _ _ | with_reducible exact a1 _ _ | with_reducible exact a2 _ _ | with_reducible exact a3 _ _ | with_reducible exact a4 _ _ | with_reducible exact a5 _ _ | with_reducible exact a6 _ _ | with_reducible exact a7 _ _ | with_reducible exact a8 _ _))
  refine wpQuiet_nil ?_
  intro _ hw'
  obtain ⟨⟨dq, osq⟩, hw''⟩ := hw'
  subst hw''
  have K3 := Lib.hid (K2.out.grown dq osq)
  generalize Sort.grow (redrawn w2 dq) osq = w3 at *
  go_wp2_with fail
  go_ret
  exact ⟨rfl, by first | exact K3.out.b | (rw [hN]; exact K3.out.b)⟩
theorem sizes13_walk (W S B T : Int) (ad : Option Addr) (len cap : Nat) (f : Nat → Int) (x y n : Int) (w : World) (hr : RowI w ad len f) (hl : len < 9223372036854775808) (hF : FldL w) :
    Calls Tryd.prog 4 #[.agg #[.int .i64 W, .int .i64 S, .int .i64 B, .int .i64 T, .slice ad len cap], .agg #[.int .i64 x, .int .i64 y], .int .i64 n] w fun e w' => e = .returned (.bool true) ∧ Below w.heap.size w w' := by
  rcases h : mayB W S B T len f with _ | _
  · exact sizes13_no W S B T ad len cap f x y n w (Lib.hid hr) hl (Lib.hid hF) (Lib.hid h)
  · exact sizes13_yes W S B T ad len cap f x y n w (Lib.hid hr) hl (Lib.hid hF) (Lib.hid h)
end Go.Proofs.YtchkgmknhndccaaDoor
