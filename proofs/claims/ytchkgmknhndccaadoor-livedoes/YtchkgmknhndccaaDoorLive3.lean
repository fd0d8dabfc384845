/-
  Package live: a table: New, Size, Mark, Take, Look.
-/
import Derived.Test.YtchkgmknhndccaaDoorLive2
namespace Go.Proofs.YtchkgmknhndccaaDoor
open Go.RowKit Go.Sort

theorem ldrew {w w' : World} (h : Below w.drew.heap.size w.drew w') : Below w.heap.size w w' := ((Below.refl w.heap.size w).drew).trans h
/-- What stands at a grain: the word, and what is read of it. -/
def encT : Option (Int × Int) → Nat
  | none => 0
  | some (x, y) => wordT x y
def oxT : Option (Int × Int) → Int
  | none => 0
  | some (x, _) => x
def oyT : Option (Int × Int) → Int
  | none => 0
  | some (_, y) => y
def obT : Option (Int × Int) → Bool
  | none => false
  | some _ => true
def MayO (S : Int) (len : Nat) (o : Option (Int × Int)) : Prop := ∀ x y, o = some (x, y) → MayT S len x y
theorem wordT_lt {S : Int} {len : Nat} {x y : Int} (h : MayT S len x y) (s1 : S ≤ 1000) (hl : len ≤ 1000) : wordT x y < 1000000 := by
  rcases h with ⟨rfl, h1, h2⟩ | ⟨rfl, h1, h2⟩
  · obtain ⟨n, rfl⟩ := Int.eq_ofNat_of_zero_le (show 0 ≤ y by omega)
    rw [wordT_run]; omega
  · obtain ⟨n, rfl⟩ := Int.eq_ofNat_of_zero_le h1
    rw [wordT_of]; omega
theorem encT_lt {S : Int} {len : Nat} {o : Option (Int × Int)} (h : MayO S len o) (s1 : S ≤ 1000) (hl : len ≤ 1000) : encT o < 1000000 := by
  cases o with
  | none => simp [encT]
  | some q => exact wordT_lt (h q.1 q.2 rfl) s1 hl
theorem read_any (t g cb base : Nat) (W S B T : Int) (len : Nat) (f : Nat → Int) (o : Option (Int × Int)) (w : World) (hT : Hid (Tb w t g cb base W S B T len f)) (hF : Hid (FldL w)) (ho : MayO S len o) (s1 : S ≤ 1000) (hl : len ≤ 1000) (ok : Hid (ClsOk len f)) :
    Calls Tryd.prog 37 #[.pointer (some ⟨t, 0, none⟩), .int .u64 ((encT o : Nat) : Int)] w fun e w' => e = .returned (.tuple #[.agg #[.int .i64 (oxT o), .int .i64 (oyT o)], .bool (obT o)]) ∧ Below w.heap.size w w' := by
  cases o with
  | none => exact read_none t g cb base W S B T len f w hT hF
  | some q =>
    obtain ⟨x, y⟩ := q
    rcases ho x y rfl with ⟨rfl, h1, h2⟩ | ⟨rfl, h1, h2⟩
    · obtain ⟨n, rfl⟩ := Int.eq_ofNat_of_zero_le (show 0 ≤ y by omega)
      exact read_run t g cb base W S B T len f n w hT hF (by omega) h2 s1 ok (wordT (-1) (n : Int)) (Lib.hid (wordT_run n).symm)
    · obtain ⟨n, rfl⟩ := Int.eq_ofNat_of_zero_le h1
      exact read_of t g cb base W S B T len f n w hT hF (by omega) hl s1 ok (wordT (n : Int) 0) (Lib.hid (wordT_of n).symm)

theorem lsize_any (W S B T : Int) (cl : Value) (w : World) (s0 : 0 ≤ S) (s1 : S ≤ 1000) :
    Calls Tryd.prog 13 #[.agg #[.int .i64 W, .int .i64 S, .int .i64 B, .int .i64 T, cl]] w fun e w' => e = .returned (.int .i64 (S * 64)) ∧ Below w.heap.size w w' := by
  have HB := Lib.hid (below_alloc w (.cells #[.int .i64 W, .int .i64 S, .int .i64 B, .int .i64 T, cl] 24))
  have hs : IntKind.i64.wrap (S * 64) = S * 64 := by rw [IntKind.wrap_i64]; omega
  go_enter Tryd.func13, Tryd.ntmps13
  go_wp2_with fail
  go_ret
  exact ⟨rfl, HB.out⟩
set_option maxHeartbeats 2000000 in
theorem lnew_any (g base : Nat) (W S B T : Int) (ad : Option Addr) (len cap : Nat) (f : Nat → Int) (w : World) (hr : Hid (RowI w ad len f)) (hl : len ≤ 1000) (hm : Hid (mayB W S B T len f = true)) :
    Calls Tryd.prog 14 #[.pointer (some ⟨g, 0, none⟩), .int .i64 (base : Nat), .agg #[.int .i64 W, .int .i64 S, .int .i64 B, .int .i64 T, .slice ad len cap]] w fun e w' => ∃ t cb, e = .returned (.pointer (some ⟨t, 0, none⟩)) ∧ Tb w' t g cb base W S B T len f ∧ w.heap.size ≤ t ∧ w.heap.size ≤ cb ∧ Below w.heap.size w w' := by
  have hb := below_alloc w (.cells #[.int .i64 W, .int .i64 S, .int .i64 B, .int .i64 T, .slice ad len cap] 24)
  have K0 : Hid (Ar w (w.alloc (.cells #[.int .i64 W, .int .i64 S, .int .i64 B, .int .i64 T, .slice ad len cap] 24)) w.heap.size W S B T ad len cap f) := Ar.start hr.out
  clear hb
  go_enter Tryd.func14, Tryd.ntmps14
  go_wp2_with fail
  generalize w.alloc (.cells #[.int .i64 W, .int .i64 S, .int .i64 B, .int .i64 T, .slice ad len cap] 24) = w0 at *
  generalize hN : w.heap.size = N at *
  refine (check_any W S B T ad len cap f _ (Lib.hid K0.out.r) (by omega)).mono ?_
  rintro e w1 ⟨rfl, hb⟩
  have K1 := Lib.hid (K0.out.next hb)
  have E0 : Hid (errI (mayB W S B T len f) = 0) := by show _ = _; rw [hm.out]; rfl
  rw [E0.out]
  clear hb K0
  obtain ⟨c0, c1, c2, c3, c4⟩ := cfg_cells K1.out.c
  go_wp2_with fail
  refine (copy_any W S B T ad len cap f _ (Lib.hid K1.out.r) hl).mono ?_
  rintro e w2 ⟨cb, rfl, q1, q2, hb⟩
  have Q1 := Lib.hid q1
  have Q2 := Lib.hid q2
  have K2 := Lib.hid (K1.out.next hb)
  have lt := K1.out.lt
  clear hb c0 c1 c2 c3 c4 q1 q2
  go_wp2_with fail
  have lt2 := K2.out.lt
  have q3 := Q2.out
  have q4 := heap_lt Q1.out
  go_ret
  refine ⟨_, cb, rfl, ⟨heap_new w2 _, (Below.heap_alloc _ _ _ q4).trans Q1.out⟩, ?_, ?_, ?_⟩
  · first | omega | (rw [hN]; omega)
  · first | omega | (rw [hN]; omega)
  · first | exact K2.out.b.alloc (Nat.le_of_lt lt2) _ | (rw [hN]; exact K2.out.b.alloc (Nat.le_of_lt lt2) _)
set_option maxRecDepth 20000 in
set_option maxHeartbeats 4000000 in
theorem mark_yes (t g cb base h : Nat) (W S B T : Int) (len : Nat) (f : Nat → Int) (s : MSt) (a x y : Int) (j : Nat) (w : World) (hT : Hid (Tb w t g cb base W S B T len f)) (hF : Hid (FldL w)) (hm : Hid (MemAt w g h s)) (n1 : t ≠ g) (n2 : t ≠ h) (n3 : cb ≠ g) (n4 : cb ≠ h) (s0 : 0 ≤ S) (s1 : S ≤ 1000) (hl : len ≤ 1000) (ok : Hid (ClsOk len f)) (ho : s.ops < 4611686018427387904) (hf : s.faults < 4611686018427387904) (hb0 : base ≤ 16777216) (hj : (j : Int) < 64 * S) (ha : Hid (a = 65536 + 16 * (j : Int))) (hmt : MayT S len x y) :
    Calls Tryd.prog 17 #[.pointer (some ⟨t, 0, none⟩), .int .i64 a, .agg #[.int .i64 x, .int .i64 y]] w fun e w' => e = .returned (.bool true) ∧ MemAt w' g h ((s.begun 2 ((base + j : Nat) : Int)).put ((base + j : Nat) : Int) (wordT x y)) ∧ Only [g, h] w w' := by
  obtain ⟨P, hP⟩ : ∃ P, base + j = P := ⟨_, rfl⟩
  obtain ⟨X, hX⟩ : ∃ X, wordT x y = X := ⟨_, rfl⟩
  have PL := Lib.hid fun w hT => lplace_yes t g cb base W S B T len f a j w hT s0 s1 hj ha hb0
  have ST := Lib.hid fun w (m : MemAt w g h s) => store_any g h s ((P : Nat) : Int) X w m ho hf
  have WD := Lib.hid fun w hF => lword_any S len x y w hmt s1 hl hF
  have SZ := Lib.hid fun w (hr : RowI w (some ⟨cb, 0, none⟩) len f) => tsize_any W S B T _ len len f x y w (Lib.hid hr) s1
  have ZN : Hid ((szT S len f x y == 0) = false) := by
    show _ = _
    rw [beq_eq_false_iff_ne]
    exact fun e => (szT_zero ok.out).1 e hmt
  rw [hP] at PL
  rw [hX] at WD
  rw [hP, hX]
  have V0 := ZN.out
  generalize szT S len f x y = V at *
  clear hP hX ZN hmt
  have hb := below_alloc w (.cells #[.int .i64 x, .int .i64 y] 35)
  have B0 := Lib.hid hb
  have T0 := Lib.hid (hT.out.next hb)
  have F0 := Lib.hid (hF.out.next hb)
  have M0 := Lib.hid (hm.out.next hb)
  have D0 := Lib.hid (Two5.new w 35 x y)
  have l0 : w.heap.size < (w.alloc (.cells #[.int .i64 x, .int .i64 y] 35)).heap.size := by simp
  have g1 := hm.out.lt.1
  have g2 := hm.out.lt.2
  clear hb
  go_enter Tryd.func17, Tryd.ntmps17
  go_wp2_with fail
  generalize w.alloc (.cells #[.int .i64 x, .int .i64 y] 35) = w0 at *
  generalize hN : w.heap.size = N at *
  refine (PL.out _ T0).mono ?_
  rintro e w1 ⟨rfl, hb⟩
  have B1 : Hid (Below N w w1) := B0.out.trans (hb.mono (Nat.le_of_lt l0))
  have l1 := Nat.lt_of_lt_of_le l0 hb.size
  have T1 := Lib.hid (T0.out.next hb)
  have F1 := Lib.hid (F0.out.next hb)
  have M1 := Lib.hid (M0.out.next hb)
  have D1 := Lib.hid (D0.out.next hb)
  clear hb B0 T0 F0 M0 D0 l0
  obtain ⟨c0, c1, c2, c3, c4, c5, c6⟩ := T1.out.cells
  obtain ⟨d0, d1⟩ := D1.out.cells
  go_wp2_with fail
  have kc0 := cell_regrown c0
  have kc1 := cell_regrown c1
  have kc2 := cell_regrown c2
  have kc3 := cell_regrown c3
  have kc4 := cell_regrown c4
  have kc5 := cell_regrown c5
  have kc6 := cell_regrown c6
  have kd0 := cell_regrown d0
  have kd1 := cell_regrown d1
  clear c0 c1 c2 c3 c4 c5 c6 d0 d1
  have a0 := fun d os => Calls.regrown_of (SZ.out (grow (redrawn w1 d) os) ((T1.out.next (below_regrown w1 d os)).r))
  refine wp_region_quiet_below (by kernel_rfl) (by kernel_rfl) ?_
  repeat (go_big_quiet_step (first | with_reducible exact a0 _ _))
  refine wpQuiet_nil ?_
  intro _ hw'
  obtain ⟨⟨dq, osq⟩, hw''⟩ := hw'
  subst hw''
  have hb := below_regrown w1 dq osq
  have B2 : Hid (Below N w (grow (redrawn w1 dq) osq)) := B1.out.trans (hb.mono (Nat.le_of_lt l1))
  have l2 := Nat.lt_of_lt_of_le l1 hb.size
  have T2 := Lib.hid (T1.out.next hb)
  have F2 := Lib.hid (F1.out.next hb)
  have M2 := Lib.hid (M1.out.next hb)
  have D2 := Lib.hid (D1.out.next hb)
  generalize Sort.grow (redrawn w1 dq) osq = w2 at *
  clear hb kc0 kc1 kc2 kc3 kc4 kc5 kc6 kd0 kd1 a0 B1 T1 F1 M1 D1 l1
  obtain ⟨c0, c1, c2, c3, c4, c5, c6⟩ := T2.out.cells
  obtain ⟨d0, d1⟩ := D2.out.cells
  go_wp2_with fail
  go_region_held3 (fun w' => w'.cell? ⟨t, 0, none⟩ = some (.pointer (some ⟨g, 0, none⟩)) ∧ w'.cell? ⟨N, 0, none⟩ = some (.int .i64 x) ∧ w'.cell? ⟨N, 1, none⟩ = some (.int .i64 y)) (first | (go_keep; done) | with_reducible exact SA.out | with_reducible exact SB.out) ((first | (go_at_call 36; refine (WD.out _ (Lib.hid (F2.out.next ((Below.refl _ _).drew)))).mono ?_; rintro e w3 ⟨rfl, hb3⟩; have B3 : Hid (Below N w w3) := B2.out.trans ((ldrew hb3).mono (Nat.le_of_lt l2)); have T3 := Lib.hid (T2.out.next (ldrew hb3)); have M3 := Lib.hid (M2.out.next (ldrew hb3)); have D3 := Lib.hid (D2.out.next (ldrew hb3)); have SA : Hid (w3.cell? ⟨t, 0, none⟩ = some (.pointer (some ⟨g, 0, none⟩)) ∧ w3.cell? ⟨N, 0, none⟩ = some (.int .i64 x) ∧ w3.cell? ⟨N, 1, none⟩ = some (.int .i64 y)) := ⟨T3.out.cells.1, D3.out.cells.1, D3.out.cells.2⟩) | (go_at_call 35; refine (ST.out _ M3.out).mono ?_; rintro e w4 ⟨rfl, m4, e4⟩; have M4 := Lib.hid m4; have O4 : Hid (Only [g, h] w3 w4) := Only.of_else e4 (by simp) (by simp); have SB : Hid (w4.cell? ⟨t, 0, none⟩ = some (.pointer (some ⟨g, 0, none⟩)) ∧ w4.cell? ⟨N, 0, none⟩ = some (.int .i64 x) ∧ w4.cell? ⟨N, 1, none⟩ = some (.int .i64 y)) := ⟨(T3.out.stay O4.out (by simp; omega) (by simp; omega)).cells.1, (show Two5 w4 N _ _ _ from O4.out.at D3.out (by simp; omega)).cells.1, (show Two5 w4 N _ _ _ from O4.out.at D3.out (by simp; omega)).cells.2⟩; clear m4 e4)))
  have B3' : Hid (Below w.heap.size w w3) := by show Below w.heap.size w w3; rw [hN]; exact B3.out
  go_wp2_with fail
  go_ret
  exact ⟨rfl, M4.out, (Only.of_below B3'.out).trans O4.out⟩
set_option maxHeartbeats 2000000 in
theorem mark_no (t g cb base : Nat) (W S B T : Int) (len : Nat) (f : Nat → Int) (a x y : Int) (w : World) (hT : Hid (Tb w t g cb base W S B T len f)) (s0 : 0 ≤ S) (s1 : S ≤ 1000) (ha : Hid (a < 65536 ∨ 65536 + 1024 * S ≤ a ∨ a % 16 ≠ 0)) :
    Calls Tryd.prog 17 #[.pointer (some ⟨t, 0, none⟩), .int .i64 a, .agg #[.int .i64 x, .int .i64 y]] w fun e w' => e = .returned (.bool false) ∧ Below w.heap.size w w' := by
  have hb := below_alloc w (.cells #[.int .i64 x, .int .i64 y] 35)
  have B0 := Lib.hid hb
  have T0 := Lib.hid (hT.out.next hb)
  have l0 : w.heap.size < (w.alloc (.cells #[.int .i64 x, .int .i64 y] 35)).heap.size := by simp
  clear hb
  go_enter Tryd.func17, Tryd.ntmps17
  go_wp2_with fail
  generalize w.alloc (.cells #[.int .i64 x, .int .i64 y] 35) = w0 at *
  generalize hN : w.heap.size = N at *
  refine (lplace_no t g cb base W S B T len f a _ T0 s0 s1 ha).mono ?_
  rintro e w1 ⟨rfl, hb⟩
  have B1 : Hid (Below N w w1) := B0.out.trans (hb.mono (Nat.le_of_lt l0))
  have l1 := Nat.lt_of_lt_of_le l0 hb.size
  clear hb T0 B0
  go_wp2_with fail
  refine wp_region_quiet_below (by kernel_rfl) (by kernel_rfl) ?_
  repeat (go_big_quiet_step (fail))
  refine wpQuiet_nil ?_
  intro _ hw'
  obtain ⟨⟨dq, osq⟩, hw''⟩ := hw'
  subst hw''
  have B2 : Hid (Below N w (grow (redrawn w1 dq) osq)) := B1.out.trans ((below_regrown w1 dq osq).mono (Nat.le_of_lt l1))
  generalize Sort.grow (redrawn w1 dq) osq = w2 at *
  go_wp2_with fail
  go_ret
  exact ⟨rfl, by first | exact B2.out | (rw [hN]; exact B2.out)⟩
set_option maxRecDepth 20000 in
set_option maxHeartbeats 4000000 in
theorem take_yes (t g cb base h : Nat) (W S B T : Int) (len : Nat) (f : Nat → Int) (s : MSt) (a : Int) (q : Option (Int × Int)) (j : Nat) (w : World) (hT : Hid (Tb w t g cb base W S B T len f)) (hF : Hid (FldL w)) (hm : Hid (MemAt w g h s)) (n1 : t ≠ g) (n2 : t ≠ h) (n3 : cb ≠ g) (n4 : cb ≠ h) (hg : Hid (∃ w0, FldL w0 ∧ w0.heap.size ≤ g ∧ w0.heap.size ≤ h)) (s0 : 0 ≤ S) (s1 : S ≤ 1000) (hl : len ≤ 1000) (ok : Hid (ClsOk len f)) (ho : s.ops < 4611686018427387904) (hf : s.faults < 4611686018427387904) (hb0 : base ≤ 16777216) (hj : (j : Int) < 64 * S) (ha : Hid (a = 65536 + 16 * (j : Int))) (hrd : s.rd ((base + j : Nat) : Int) = encT q) (hq : MayO S len q) :
    Calls Tryd.prog 18 #[.pointer (some ⟨t, 0, none⟩), .int .i64 a] w fun e w' => e = .returned (.tuple #[.agg #[.int .i64 (oxT q), .int .i64 (oyT q)], .bool (obT q)]) ∧ MemAt w' g h ((s.begun 3 ((base + j : Nat) : Int)).put ((base + j : Nat) : Int) 0) ∧ Only [g, h] w w' := by
  obtain ⟨P, hP⟩ : ∃ P, base + j = P := ⟨_, rfl⟩
  have PL := Lib.hid fun w hT => lplace_yes t g cb base W S B T len f a j w hT s0 s1 hj ha hb0
  rw [hP] at PL hrd
  have ST := Lib.hid fun w (m : MemAt w g h s) => swap_any g h s ((P : Nat) : Int) 0 w m ho hf
  rw [hrd] at ST
  have RD := Lib.hid fun w hT hF => read_any t g cb base W S B T len f q w hT hF hq s1 hl ok
  rw [hP]
  clear hP hrd hq
  generalize encT q = X at *
  generalize oxT q = x at *
  generalize oyT q = y at *
  generalize obT q = bb at *
  have hb := below_alloc w (.cells #[.int .i64 0, .int .i64 0] 35)
  have B0 := Lib.hid hb
  have T0 := Lib.hid (hT.out.next hb)
  have F0 := Lib.hid (hF.out.next hb)
  have M0 := Lib.hid (hm.out.next hb)
  have D0 := Lib.hid (Two5.new w 35 0 0)
  have l0 : w.heap.size < (w.alloc (.cells #[.int .i64 0, .int .i64 0] 35)).heap.size := by simp
  have g1 := hm.out.lt.1
  have g2 := hm.out.lt.2
  clear hb
  go_enter Tryd.func18, Tryd.ntmps18
  go_wp2_with fail
  generalize w.alloc (.cells #[.int .i64 0, .int .i64 0] 35) = w0 at *
  generalize hN : w.heap.size = N at *
  refine (PL.out _ T0).mono ?_
  rintro e w1 ⟨rfl, hb⟩
  have B1 : Hid (Below N w w1) := B0.out.trans (hb.mono (Nat.le_of_lt l0))
  have l1 := Nat.lt_of_lt_of_le l0 hb.size
  have T1 := Lib.hid (T0.out.next hb)
  have F1 := Lib.hid (F0.out.next hb)
  have M1 := Lib.hid (M0.out.next hb)
  have D1 := Lib.hid (D0.out.next hb)
  clear hb B0 T0 F0 M0 D0 l0
  obtain ⟨c0, c1, c2, c3, c4, c5, c6⟩ := T1.out.cells
  obtain ⟨d0, d1⟩ := D1.out.cells
  go_wp2_with fail
  refine (ST.out _ M1.out).mono ?_
  rintro e w2 ⟨rfl, m2, e2⟩
  have M2 := Lib.hid m2
  have O2 : Hid (Only [g, h] w1 w2) := Only.of_else e2 (by simp) (by simp)
  have l2 := Nat.lt_of_lt_of_le l1 O2.out.size
  have T2 := Lib.hid (T1.out.stay O2.out (by simp; omega) (by simp; omega))
  have F2 : Hid (FldL w2) := by
    obtain ⟨wq, hq1, hq2, hq3⟩ := hg.out
    exact F1.out.stay O2.out hq1 (by simp; omega)
  have D2 : Hid (Two5 w2 N 35 0 0) := O2.out.at D1.out (by simp; omega)
  clear c0 c1 c2 c3 c4 c5 c6 d0 d1 m2 e2 T1 F1 M1 D1
  obtain ⟨c0, c1, c2, c3, c4, c5, c6⟩ := T2.out.cells
  go_wp2_with fail
  refine (RD.out _ T2 F2).mono ?_
  rintro e w3 ⟨rfl, hb⟩
  have M3 := Lib.hid (M2.out.next hb)
  have D3 := Lib.hid (D2.out.next hb)
  have O3 : Hid (Only [g, h] w1 w3) := O2.out.trans (Only.of_below hb)
  have l3 := Nat.lt_of_lt_of_le l2 hb.size
  clear hb c0 c1 c2 c3 c4 c5 c6 T2 F2 M2 D2 O2
  obtain ⟨d0, d1⟩ := D3.out.cells
  have z0 := D3.out.fz 0
  have z1 := D3.out.fz 1
  obtain ⟨r0, r1⟩ := (D3.out.set x y).cells
  have OX : Hid (Only [N] w3 ((w3.setCell ⟨N, 0, none⟩ (.int .i64 x)).setCell ⟨N, 1, none⟩ (.int .i64 y))) := (Only.of_set (l := [N]) (g := N) (j := 0) (by simp) _).trans (Only.of_set (g := N) (j := 1) (by simp) _)
  have MF := Lib.hid (M3.out.stay OX.out (by simp; omega) (by simp; omega))
  have OF : Hid (Only [g, h] w ((w3.setCell ⟨N, 0, none⟩ (.int .i64 x)).setCell ⟨N, 1, none⟩ (.int .i64 y))) := by
    have B1' : Below w.heap.size w w1 := by rw [hN]; exact B1.out
    exact ((Only.of_below (l := [g, h]) B1').trans O3.out).trans' OX.out (by simp; omega)
  go_wp2_with fail
  exact bodyPost_ret (v := .tuple #[.agg #[.int .i64 x, .int .i64 y], .bool bb]) (by simp [results, Tryd.results18, go_sem, r0, r1]) rfl ⟨rfl, MF.out, OF.out⟩
set_option maxHeartbeats 2000000 in
theorem take_no (t g cb base : Nat) (W S B T : Int) (len : Nat) (f : Nat → Int) (a : Int) (w : World) (hT : Hid (Tb w t g cb base W S B T len f)) (s0 : 0 ≤ S) (s1 : S ≤ 1000) (ha : Hid (a < 65536 ∨ 65536 + 1024 * S ≤ a ∨ a % 16 ≠ 0)) :
    Calls Tryd.prog 18 #[.pointer (some ⟨t, 0, none⟩), .int .i64 a] w fun e w' => e = .returned (.tuple #[.agg #[.int .i64 0, .int .i64 0], .bool false]) ∧ Below w.heap.size w w' := by
  have hb := below_alloc w (.cells #[.int .i64 0, .int .i64 0] 35)
  have B0 := Lib.hid hb
  have T0 := Lib.hid (hT.out.next hb)
  have D0 := Lib.hid (Two5.new w 35 0 0)
  have l0 : w.heap.size < (w.alloc (.cells #[.int .i64 0, .int .i64 0] 35)).heap.size := by simp
  clear hb
  go_enter Tryd.func18, Tryd.ntmps18
  go_wp2_with fail
  generalize w.alloc (.cells #[.int .i64 0, .int .i64 0] 35) = w0 at *
  generalize hN : w.heap.size = N at *
  refine (lplace_no t g cb base W S B T len f a _ T0 s0 s1 ha).mono ?_
  rintro e w1 ⟨rfl, hb⟩
  have B1 : Hid (Below N w w1) := B0.out.trans (hb.mono (Nat.le_of_lt l0))
  have D1 := Lib.hid (D0.out.next hb)
  clear hb T0 B0 D0
  obtain ⟨d0, d1⟩ := D1.out.cells
  have z0 := D1.out.fz 0
  have z1 := D1.out.fz 1
  obtain ⟨r0, r1⟩ := (D1.out.set 0 0).cells
  go_wp2_with fail
  exact bodyPost_ret (v := .tuple #[.agg #[.int .i64 0, .int .i64 0], .bool false]) (by simp [results, Tryd.results18, go_sem, r0, r1]) rfl ⟨rfl, by first | exact (B1.out.setCell (Nat.le_refl _) _).setCell (Nat.le_refl _) _ | (rw [hN]; exact (B1.out.setCell (Nat.le_refl _) _).setCell (Nat.le_refl _) _)⟩
set_option maxRecDepth 20000 in
set_option maxHeartbeats 4000000 in
theorem look_yes (t g cb base h : Nat) (W S B T : Int) (len : Nat) (f : Nat → Int) (s : MSt) (a : Int) (q : Option (Int × Int)) (j : Nat) (w : World) (hT : Hid (Tb w t g cb base W S B T len f)) (hF : Hid (FldL w)) (hm : Hid (MemAt w g h s)) (n1 : t ≠ g) (n2 : t ≠ h) (n3 : cb ≠ g) (n4 : cb ≠ h) (hg : Hid (∃ w0, FldL w0 ∧ w0.heap.size ≤ g ∧ w0.heap.size ≤ h)) (s0 : 0 ≤ S) (s1 : S ≤ 1000) (hl : len ≤ 1000) (ok : Hid (ClsOk len f)) (ho : s.ops < 4611686018427387904) (hf : s.faults < 4611686018427387904) (hb0 : base ≤ 16777216) (hj : (j : Int) < 64 * S) (ha : Hid (a = 65536 + 16 * (j : Int))) (hrd : s.rd ((base + j : Nat) : Int) = encT q) (hq : MayO S len q) :
    Calls Tryd.prog 19 #[.pointer (some ⟨t, 0, none⟩), .int .i64 a] w fun e w' => e = .returned (.tuple #[.agg #[.int .i64 (oxT q), .int .i64 (oyT q)], .bool (obT q)]) ∧ MemAt w' g h (s.begun 1 ((base + j : Nat) : Int)) ∧ Only [g, h] w w' := by
  obtain ⟨P, hP⟩ : ∃ P, base + j = P := ⟨_, rfl⟩
  have PL := Lib.hid fun w hT => lplace_yes t g cb base W S B T len f a j w hT s0 s1 hj ha hb0
  rw [hP] at PL hrd
  have ST := Lib.hid fun w (m : MemAt w g h s) => load_any g h s ((P : Nat) : Int) w m ho hf
  rw [hrd] at ST
  have RD := Lib.hid fun w hT hF => read_any t g cb base W S B T len f q w hT hF hq s1 hl ok
  rw [hP]
  clear hP hrd hq
  generalize encT q = X at *
  generalize oxT q = x at *
  generalize oyT q = y at *
  generalize obT q = bb at *
  have hb := below_alloc w (.cells #[.int .i64 0, .int .i64 0] 35)
  have B0 := Lib.hid hb
  have T0 := Lib.hid (hT.out.next hb)
  have F0 := Lib.hid (hF.out.next hb)
  have M0 := Lib.hid (hm.out.next hb)
  have D0 := Lib.hid (Two5.new w 35 0 0)
  have l0 : w.heap.size < (w.alloc (.cells #[.int .i64 0, .int .i64 0] 35)).heap.size := by simp
  have g1 := hm.out.lt.1
  have g2 := hm.out.lt.2
  clear hb
  go_enter Tryd.func19, Tryd.ntmps19
  go_wp2_with fail
  generalize w.alloc (.cells #[.int .i64 0, .int .i64 0] 35) = w0 at *
  generalize hN : w.heap.size = N at *
  refine (PL.out _ T0).mono ?_
  rintro e w1 ⟨rfl, hb⟩
  have B1 : Hid (Below N w w1) := B0.out.trans (hb.mono (Nat.le_of_lt l0))
  have l1 := Nat.lt_of_lt_of_le l0 hb.size
  have T1 := Lib.hid (T0.out.next hb)
  have F1 := Lib.hid (F0.out.next hb)
  have M1 := Lib.hid (M0.out.next hb)
  have D1 := Lib.hid (D0.out.next hb)
  clear hb B0 T0 F0 M0 D0 l0
  obtain ⟨c0, c1, c2, c3, c4, c5, c6⟩ := T1.out.cells
  obtain ⟨d0, d1⟩ := D1.out.cells
  go_wp2_with fail
  refine (ST.out _ M1.out).mono ?_
  rintro e w2 ⟨rfl, m2, e2⟩
  have M2 := Lib.hid m2
  have O2 : Hid (Only [g, h] w1 w2) := Only.of_else e2 (by simp) (by simp)
  have l2 := Nat.lt_of_lt_of_le l1 O2.out.size
  have T2 := Lib.hid (T1.out.stay O2.out (by simp; omega) (by simp; omega))
  have F2 : Hid (FldL w2) := by
    obtain ⟨wq, hq1, hq2, hq3⟩ := hg.out
    exact F1.out.stay O2.out hq1 (by simp; omega)
  have D2 : Hid (Two5 w2 N 35 0 0) := O2.out.at D1.out (by simp; omega)
  clear c0 c1 c2 c3 c4 c5 c6 d0 d1 m2 e2 T1 F1 M1 D1
  obtain ⟨c0, c1, c2, c3, c4, c5, c6⟩ := T2.out.cells
  go_wp2_with fail
  refine (RD.out _ T2 F2).mono ?_
  rintro e w3 ⟨rfl, hb⟩
  have M3 := Lib.hid (M2.out.next hb)
  have D3 := Lib.hid (D2.out.next hb)
  have O3 : Hid (Only [g, h] w1 w3) := O2.out.trans (Only.of_below hb)
  have l3 := Nat.lt_of_lt_of_le l2 hb.size
  clear hb c0 c1 c2 c3 c4 c5 c6 T2 F2 M2 D2 O2
  obtain ⟨d0, d1⟩ := D3.out.cells
  have z0 := D3.out.fz 0
  have z1 := D3.out.fz 1
  obtain ⟨r0, r1⟩ := (D3.out.set x y).cells
  have OX : Hid (Only [N] w3 ((w3.setCell ⟨N, 0, none⟩ (.int .i64 x)).setCell ⟨N, 1, none⟩ (.int .i64 y))) := (Only.of_set (l := [N]) (g := N) (j := 0) (by simp) _).trans (Only.of_set (g := N) (j := 1) (by simp) _)
  have MF := Lib.hid (M3.out.stay OX.out (by simp; omega) (by simp; omega))
  have OF : Hid (Only [g, h] w ((w3.setCell ⟨N, 0, none⟩ (.int .i64 x)).setCell ⟨N, 1, none⟩ (.int .i64 y))) := by
    have B1' : Below w.heap.size w w1 := by rw [hN]; exact B1.out
    exact ((Only.of_below (l := [g, h]) B1').trans O3.out).trans' OX.out (by simp; omega)
  go_wp2_with fail
  exact bodyPost_ret (v := .tuple #[.agg #[.int .i64 x, .int .i64 y], .bool bb]) (by simp [results, Tryd.results19, go_sem, r0, r1]) rfl ⟨rfl, MF.out, OF.out⟩
set_option maxHeartbeats 2000000 in
theorem look_no (t g cb base : Nat) (W S B T : Int) (len : Nat) (f : Nat → Int) (a : Int) (w : World) (hT : Hid (Tb w t g cb base W S B T len f)) (s0 : 0 ≤ S) (s1 : S ≤ 1000) (ha : Hid (a < 65536 ∨ 65536 + 1024 * S ≤ a ∨ a % 16 ≠ 0)) :
    Calls Tryd.prog 19 #[.pointer (some ⟨t, 0, none⟩), .int .i64 a] w fun e w' => e = .returned (.tuple #[.agg #[.int .i64 0, .int .i64 0], .bool false]) ∧ Below w.heap.size w w' := by
  have hb := below_alloc w (.cells #[.int .i64 0, .int .i64 0] 35)
  have B0 := Lib.hid hb
  have T0 := Lib.hid (hT.out.next hb)
  have D0 := Lib.hid (Two5.new w 35 0 0)
  have l0 : w.heap.size < (w.alloc (.cells #[.int .i64 0, .int .i64 0] 35)).heap.size := by simp
  clear hb
  go_enter Tryd.func19, Tryd.ntmps19
  go_wp2_with fail
  generalize w.alloc (.cells #[.int .i64 0, .int .i64 0] 35) = w0 at *
  generalize hN : w.heap.size = N at *
  refine (lplace_no t g cb base W S B T len f a _ T0 s0 s1 ha).mono ?_
  rintro e w1 ⟨rfl, hb⟩
  have B1 : Hid (Below N w w1) := B0.out.trans (hb.mono (Nat.le_of_lt l0))
  have D1 := Lib.hid (D0.out.next hb)
  clear hb T0 B0 D0
  obtain ⟨d0, d1⟩ := D1.out.cells
  have z0 := D1.out.fz 0
  have z1 := D1.out.fz 1
  obtain ⟨r0, r1⟩ := (D1.out.set 0 0).cells
  go_wp2_with fail
  exact bodyPost_ret (v := .tuple #[.agg #[.int .i64 0, .int .i64 0], .bool false]) (by simp [results, Tryd.results19, go_sem, r0, r1]) rfl ⟨rfl, by first | exact (B1.out.setCell (Nat.le_refl _) _).setCell (Nat.le_refl _) _ | (rw [hN]; exact (B1.out.setCell (Nat.le_refl _) _).setCell (Nat.le_refl _) _)⟩
end Go.Proofs.YtchkgmknhndccaaDoor
