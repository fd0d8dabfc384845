/-
  The walk of the statement WholeTiles: all blocks of superblocks, each of a class of its own, lie apart, and within all addresses; together with what is left behind them they are all.
-/
import Derived.Test.YtjlklkaaonfpdaaWSpanAsks
import Derived.Test.YtjlklkaaonfpdaaQuiet5
import Derived.Test.YtjlklkaaonfpdaaRowU8
import Derived.Deep.CutRange
namespace Go.Proofs.Ytjlklkaaonfpdaa
open Go.RowKit Go.Sort

/-- Intervals that fill all addresses from the first one up to e. -/
structure Til (l : List Iv) (e : Int) : Prop where
  gd : Good l
  lo : ∀ y ∈ l, 65536 ≤ y.1 ∧ y.1 + y.2 ≤ e
  sum : sumL l = e - 65536
  head : e = 65536 ∨ ∃ n, 16 ≤ n ∧ (65536, n) ∈ l
theorem til_nil : Til [] 65536 := ⟨Good.nil, fun _ h => (by cases h), rfl, .inl rfl⟩
theorem len_sum {l : List Iv} (g : Good l) : (l.length : Int) ≤ sumL l := by
  induction l with
  | nil => exact Int.le_refl _
  | cons y t ih =>
    have := ih g.tail
    have oy := g.ok y (by simp)
    have e : sumL (y :: t) = y.2 + sumL t := by simp [sumL]
    rw [e]; simp only [List.length_cons]; omega
theorem til_putB {l : List Iv} {e z : Int} (h : ∀ y ∈ l, y.1 + y.2 ≤ e) (e0 : 0 ≤ e) (e1 : e ≤ 1099511627776) (z0 : 1 ≤ z) (z1 : z ≤ 1099511627776) : putB l (e, z) = true := by
  have hm : mayI (e, z) = true := by simp [mayI]; omega
  have ho : overB l (e, z) = false := by
    simp only [overB, z0, decide_true, Bool.true_and]
    rw [List.any_eq_false]
    intro y hy
    have := h y hy
    simp [shB]; omega
  rw [putB, hm, ho]; rfl
theorem til_put {l : List Iv} {e z : Int} (t : Til l e) (e0 : 65536 ≤ e) (e1 : e ≤ 1000000) (z0 : 1 ≤ z) (z1 : z ≤ 1000000) (hz : e = 65536 → 16 ≤ z) : Til (putL l (e, z)) (e + z) := by
  have hp := til_putB (fun y hy => (t.lo y hy).2) (show 0 ≤ e by omega) (show e ≤ 1099511627776 by omega) z0 (show z ≤ 1099511627776 by omega)
  rw [put_true hp]
  refine ⟨good_ins t.gd hp, fun y hy => ?_, ?_, ?_⟩
  · rcases mem_ins.1 hy with rfl | hy
    · simp only; omega
    · have := t.lo y hy; omega
  · rw [sum_ins, t.sum]; omega
  · right
    rcases t.head with h | ⟨n, h1, h2⟩
    · exact ⟨z, hz h, mem_ins.2 (.inl (by rw [h]))⟩
    · exact ⟨n, h1, mem_ins.2 (.inr h2)⟩
theorem til_len {l : List Iv} {e : Int} (t : Til l e) (e1 : e ≤ 100000) : l.length < 100000 := by
  have := len_sum t.gd; have := t.sum; omega
theorem til_no {l : List Iv} {e : Int} (t : Til l e) (he : e ≠ 65536) : putB l (65541, 1) = false := by
  obtain ⟨n, h1, h2⟩ := t.head.resolve_left he
  have ho : overB l (65541, 1) = true := by
    simp only [overB, Bool.and_eq_true, List.any_eq_true]
    exact ⟨by decide, (65536, n), h2, by simp [shB]; omega⟩
  rw [putB, ho]; simp

/-- A system in its box, its classes, and a map. -/
structure Wt (w0 w : World) (N g : Nat) (W S B T : Int) (ad : Option Addr) (len cap : Nat) (f : Nat → Int) (l : List Iv) : Prop where
  c : Cfg5 w N W S B T (.slice ad len cap)
  r : RowI w ad len f
  s : Sm w0 w g (fun k => k = N) l
theorem Wt.next {w0 w w' : World} {N g : Nat} {W S B T : Int} {ad : Option Addr} {len cap : Nat} {f : Nat → Int} {l : List Iv} (h : Wt w0 w N g W S B T ad len cap f l) (hb : Below w.heap.size w w') : Wt w0 w' N g W S B T ad len cap f l := ⟨cfg_next h.c hb, h.r.next hb, h.s.next hb⟩
theorem Wt.grown {w0 w : World} {N g : Nat} {W S B T : Int} {ad : Option Addr} {len cap : Nat} {f : Nat → Int} {l : List Iv} (h : Wt w0 w N g W S B T ad len cap f l) (d : Nat) (os : Array Obj) : Wt w0 (grow (redrawn w d) os) N g W S B T ad len cap f l := h.next (below_regrown w d os)
theorem Sm.drew {w0 w : World} {g : Nat} {F : Nat → Prop} {l : List Iv} (s : Sm w0 w g F l) : Sm w0 w.drew g F l := by
  obtain ⟨v, m, h1, h2⟩ := s.ex
  exact ⟨⟨v, ⟨m.head, m.row, m.ne, m.few⟩, h1, h2⟩, s.gd, s.hg, s.b.drew⟩
theorem Wt.put {w0 w w' : World} {N g : Nat} {W S B T : Int} {ad : Option Addr} {len cap : Nat} {f : Nat → Int} {l l' : List Iv} (h : Wt w0 w N g W S B T ad len cap f l) (hr : RowI w0 ad len f) (s : Sm w0 w' g (fun k => k = N) l') (k : Kp (fun k => k = N) w w') : Wt w0 w' N g W S B T ad len cap f l' := ⟨(k.block N rfl).trans h.c, hr.next s.b, s⟩

set_option maxHeartbeats 1000000 in
theorem tiles_no (W S B T : Int) (ad : Option Addr) (len cap : Nat) (f : Nat → Int) (bd : Option Addr) (dlen dcap : Nat) (w : World) (hr : Hid (RowI w ad len f)) (hl : len < 9223372036854775808) (hm : Hid (mayB W S B T len f = false)) :
    Calls Try.prog 14 #[.agg #[.int .i64 W, .int .i64 S, .int .i64 B, .int .i64 T, .slice ad len cap], .slice bd dlen dcap] w fun e w' => e = .returned (.bool true) ∧ Below w.heap.size w w' := by
  have b1 := below_alloc w (.cells #[.int .i64 W, .int .i64 S, .int .i64 B, .int .i64 T, .slice ad len cap] 24)
  have hs1 : (w.alloc (.cells #[.int .i64 W, .int .i64 S, .int .i64 B, .int .i64 T, .slice ad len cap] 24)).heap.size = w.heap.size + 1 := by simp
  have k0 : Wt w ((w.alloc (.cells #[.int .i64 W, .int .i64 S, .int .i64 B, .int .i64 T, .slice ad len cap] 24)).alloc (.cells #[.slice none 0 0] 54)) w.heap.size (w.heap.size + 1) W S B T ad len cap f [] :=
    ⟨cfg_next (cfg_new w W S B T (.slice ad len cap)) (below_alloc _ _), (hr.out.next b1).next (below_alloc _ _), by have h : Sm w _ _ (fun k => k = w.heap.size) [] := Sm.start b1 (fun k hk => by rw [hk, hs1]; omega); rw [hs1] at h; exact h⟩
  have K0 := Lib.hid k0
  clear k0 b1 hs1
  go_enter Try.func14, Try.ntmps14
  go_wp2_with fail
  generalize (w.alloc (.cells #[.int .i64 W, .int .i64 S, .int .i64 B, .int .i64 T, .slice ad len cap] 24)).alloc (.cells #[.slice none 0 0] 54) = w0 at *
  generalize hg : w.heap.size + 1 = g at *
  generalize hN : w.heap.size = N at *
  refine (sm_put K0.out.s 1 1 (by decide)).mono ?_
  rintro e w1 ⟨he, s, k⟩
  obtain rfl : e = .returned (.bool true) := he
  have K1 : Hid (Wt w w1 N g W S B T ad len cap f [(1, 1)]) := K0.out.put hr.out s k
  clear s k K0
  go_wp2_with fail
  refine (sm_drop K1.out.s 1).mono ?_
  rintro e w2 ⟨rfl, s, k⟩
  have K2 : Hid (Wt w w2 N g W S B T ad len cap f []) := K1.out.put hr.out s k
  clear s k K1
  obtain ⟨c0, c1, c2, c3, c4⟩ := cfg_cells K2.out.c
  go_wp2_with fail
  refine (rmay_any W S B T ad len cap f _ K2.out.r hl).mono ?_
  rintro e wb ⟨he, hb⟩
  obtain rfl : e = .returned (.bool false) := by rw [he, hm.out]
  have K3 := Lib.hid (K2.out.next hb)
  clear hb K2 c0 c1 c2 c3 c4 he
  obtain ⟨c0, c1, c2, c3, c4⟩ := cfg_cells K3.out.c
  go_wp2_with fail
  go_ret
  exact ⟨rfl, by first | exact K3.out.s.b | (rw [hN]; exact K3.out.s.b) | simpa [hN] using K3.out.s.b⟩

set_option maxHeartbeats 1000000 in
theorem tiles_big (W S B T : Int) (ad : Option Addr) (len cap : Nat) (f : Nat → Int) (bd : Option Addr) (dlen dcap : Nat) (w : World) (hr : Hid (RowI w ad len f)) (hl : len < 9223372036854775808) (h8 : 8 < S ∨ 60 < dlen) (hm : Hid (mayB W S B T len f = true)) :
    Calls Try.prog 14 #[.agg #[.int .i64 W, .int .i64 S, .int .i64 B, .int .i64 T, .slice ad len cap], .slice bd dlen dcap] w fun e w' => e = .returned (.bool true) ∧ Below w.heap.size w w' := by
  have H8 := Lib.hid h8
  clear h8
  have b1 := below_alloc w (.cells #[.int .i64 W, .int .i64 S, .int .i64 B, .int .i64 T, .slice ad len cap] 24)
  have hs1 : (w.alloc (.cells #[.int .i64 W, .int .i64 S, .int .i64 B, .int .i64 T, .slice ad len cap] 24)).heap.size = w.heap.size + 1 := by simp
  have k0 : Wt w ((w.alloc (.cells #[.int .i64 W, .int .i64 S, .int .i64 B, .int .i64 T, .slice ad len cap] 24)).alloc (.cells #[.slice none 0 0] 54)) w.heap.size (w.heap.size + 1) W S B T ad len cap f [] :=
    ⟨cfg_next (cfg_new w W S B T (.slice ad len cap)) (below_alloc _ _), (hr.out.next b1).next (below_alloc _ _), by have h : Sm w _ _ (fun k => k = w.heap.size) [] := Sm.start b1 (fun k hk => by rw [hk, hs1]; omega); rw [hs1] at h; exact h⟩
  have K0 := Lib.hid k0
  clear k0 b1 hs1
  go_enter Try.func14, Try.ntmps14
  go_wp2_with fail
  generalize (w.alloc (.cells #[.int .i64 W, .int .i64 S, .int .i64 B, .int .i64 T, .slice ad len cap] 24)).alloc (.cells #[.slice none 0 0] 54) = w0 at *
  generalize hg : w.heap.size + 1 = g at *
  generalize hN : w.heap.size = N at *
  refine (sm_put K0.out.s 1 1 (by decide)).mono ?_
  rintro e w1 ⟨he, s, k⟩
  obtain rfl : e = .returned (.bool true) := he
  have K1 : Hid (Wt w w1 N g W S B T ad len cap f [(1, 1)]) := K0.out.put hr.out s k
  clear s k K0
  go_wp2_with fail
  refine (sm_drop K1.out.s 1).mono ?_
  rintro e w2 ⟨rfl, s, k⟩
  have K2 : Hid (Wt w w2 N g W S B T ad len cap f []) := K1.out.put hr.out s k
  clear s k K1
  obtain ⟨c0, c1, c2, c3, c4⟩ := cfg_cells K2.out.c
  go_wp2_with fail
  refine (rmay_any W S B T ad len cap f _ K2.out.r hl).mono ?_
  rintro e wb ⟨he, hb⟩
  obtain rfl : e = .returned (.bool true) := by rw [he, hm.out]
  have K3 := Lib.hid (K2.out.next hb)
  clear hb K2 c0 c1 c2 c3 c4 he
  obtain ⟨c0, c1, c2, c3, c4⟩ := cfg_cells K3.out.c
  by_cases h8 : 8 < S
  · have d8 : decide (8 < S) = true := by simpa using h8
    go_wp2_with fail
    go_ret
    exact ⟨rfl, by first | exact K3.out.s.b | (rw [hN]; exact K3.out.s.b) | simpa [hN] using K3.out.s.b⟩
  · have d8 : decide (8 < S) = false := by simpa using h8
    have hd : 60 < dlen := H8.out.resolve_left h8
    have d9 : decide (60 < dlen) = true := by simpa using hd
    have d9' : decide ((60 : Int) < (dlen : Int)) = true := by simp; omega
    go_wp2_with fail
    go_ret
    exact ⟨rfl, by first | exact K3.out.s.b | (rw [hN]; exact K3.out.s.b) | simpa [hN] using K3.out.s.b⟩

set_option maxRecDepth 20000 in
set_option maxHeartbeats 4000000 in
theorem tiles_in (W S B T : Int) (ad : Option Addr) (len cap : Nat) (f : Nat → Int) (bd : Option Addr) (dlen dcap : Nat) (fd : Nat → Nat) (w : World) (hr : Hid (RowI w ad len f)) (hl : len < 9223372036854775808) (hd : Hid (RowU w bd dlen fd)) (h8 : S ≤ 8) (hdl : dlen ≤ 60) (hm : Hid (mayB W S B T len f = true)) :
    Calls Try.prog 14 #[.agg #[.int .i64 W, .int .i64 S, .int .i64 B, .int .i64 T, .slice ad len cap], .slice bd dlen dcap] w fun e w' => e = .returned (.bool true) ∧ Below w.heap.size w w' := by
  have b1 := below_alloc w (.cells #[.int .i64 W, .int .i64 S, .int .i64 B, .int .i64 T, .slice ad len cap] 24)
  have hs1 : (w.alloc (.cells #[.int .i64 W, .int .i64 S, .int .i64 B, .int .i64 T, .slice ad len cap] 24)).heap.size = w.heap.size + 1 := by simp
  have k0 : Wt w ((w.alloc (.cells #[.int .i64 W, .int .i64 S, .int .i64 B, .int .i64 T, .slice ad len cap] 24)).alloc (.cells #[.slice none 0 0] 54)) w.heap.size (w.heap.size + 1) W S B T ad len cap f [] :=
    ⟨cfg_next (cfg_new w W S B T (.slice ad len cap)) (below_alloc _ _), (hr.out.next b1).next (below_alloc _ _), by have h : Sm w _ _ (fun k => k = w.heap.size) [] := Sm.start b1 (fun k hk => by rw [hk, hs1]; omega); rw [hs1] at h; exact h⟩
  have K0 := Lib.hid k0
  clear k0 b1 hs1
  go_enter Try.func14, Try.ntmps14
  go_wp2_with fail
  generalize (w.alloc (.cells #[.int .i64 W, .int .i64 S, .int .i64 B, .int .i64 T, .slice ad len cap] 24)).alloc (.cells #[.slice none 0 0] 54) = w0 at *
  generalize hg : w.heap.size + 1 = g at *
  generalize hN : w.heap.size = N at *
  refine (sm_put K0.out.s 1 1 (by decide)).mono ?_
  rintro e w1 ⟨he, s, k⟩
  obtain rfl : e = .returned (.bool true) := he
  have K1 : Hid (Wt w w1 N g W S B T ad len cap f [(1, 1)]) := K0.out.put hr.out s k
  clear s k K0
  go_wp2_with fail
  refine (sm_drop K1.out.s 1).mono ?_
  rintro e w2 ⟨rfl, s, k⟩
  have K2 : Hid (Wt w w2 N g W S B T ad len cap f []) := K1.out.put hr.out s k
  clear s k K1
  obtain ⟨c0, c1, c2, c3, c4⟩ := cfg_cells K2.out.c
  go_wp2_with fail
  refine (rmay_any W S B T ad len cap f _ K2.out.r hl).mono ?_
  rintro e wb ⟨he, hb⟩
  obtain rfl : e = .returned (.bool true) := by rw [he, hm.out]
  have K3 := Lib.hid (K2.out.next hb)
  clear hb K2 c0 c1 c2 c3 c4 he
  obtain ⟨c0, c1, c2, c3, c4⟩ := cfg_cells K3.out.c
  obtain ⟨⟨w1', w2'⟩, ⟨s1, s2⟩, ⟨b1, b2⟩, ⟨t1, t2⟩, ⟨l1, l2⟩, hcls⟩ := may_nums hm.out
  have OK := Lib.hid (cls_ok hcls)
  clear hcls w1' w2' b1 b2 t1 t2
  have d8 : decide (8 < S) = false := by simp; omega
  have d9 : decide (60 < dlen) = false := by simp; omega
  have d9' : decide ((60 : Int) < (dlen : Int)) = false := by simp; omega
  have x0 : 0 < (len : Int) := by omega
  have xn0 : ¬ ((len : Int) = 0) := by omega
  go_wp2_with fail
  go_loopw [31] (fun u wx => ∃ (s : Nat) (L : List Iv), (s : Int) ≤ S ∧ u = .int .i64 s ∧ Wt w wx N g W S B T ad len cap f L ∧ Til L (65536 + 1024 * (s : Int))) (fun u _ => S.toNat - (intOf u).toNat)
  case atStart => exact ⟨0, [], by omega, rfl, K3.out, til_nil⟩
  case round =>
    obtain ⟨s, L, hs, rfl, kk, tt⟩ := hrel
    have K4 := Lib.hid kk
    have T4 := Lib.hid tt
    clear kk tt K3 c0 c1 c2 c3 c4
    obtain ⟨c0, c1, c2, c3, c4⟩ := cfg_cells K4.out.c
    by_cases hsS : (s : Int) < S
    · have dS : decide ((s : Int) < S) = true := by simpa using hsS
      go_upto_if 37 with fail
      go_cut [7] from 32 to 112 (fun v wx => ∃ q : Nat, q < len ∧ v = .int .i64 q ∧ Wt w wx N g W S B T ad len cap f L)
      case first =>
        by_cases hsd : s < dlen
        · have dd : decide (s < dlen) = true := by simpa using hsd
          have dd' : decide ((s : Int) < (dlen : Int)) = true := by simp; omega
          have l2' : (s : Int) < (dlen : Int) := by omega
          obtain ⟨b, off, rfl, e0⟩ := (hd.out.next (w' := wr) K4.out.s.b).at hsd
          have hz := hd.out.small s hsd
          generalize fd s = z at *
          have k0 := cell_regrown e0
          have k4 := cell_regrown c4
          have hwz : IntKind.i64.wrap (z : Int) = (z : Int) := by rw [IntKind.wrap_i64]; omega
          go_wp2_with fail
          refine wp_region_quiet_below (by kernel_rfl) (by kernel_rfl) ?_
          repeat (go_big_quiet_step (fail))
          refine wpQuiet_nil ?_
          intro _ hw'
          obtain ⟨⟨dq, osq⟩, hw''⟩ := hw'
          subst hw''
          have K5 := Lib.hid (K4.out.grown dq osq)
          generalize Sort.grow (redrawn wr dq) osq = w5 at *
          clear k0 k4 e0
          have HQ : Hid ((z : Int) % (len : Int) = ((z % len : Nat) : Int)) := by show _ = _; simp
          go_wp2_with fail
          go_meet
          case rel => exact ⟨z % len, Nat.mod_lt _ (by omega), by rw [← HQ.out], K5.out⟩
        · have dd : decide (s < dlen) = false := by simpa using hsd
          have dd' : decide ((s : Int) < (dlen : Int)) = false := by simp; omega
          go_wp2_with fail
          go_meet
          case rel => exact ⟨0, by omega, rfl, K4.out⟩
      case rest =>
        obtain ⟨q, hq, rfl, kk⟩ := hcut
        have K5 := Lib.hid kk
        clear kk K4 c0 c1 c2 c3 c4
        obtain ⟨c0, c1, c2, c3, c4⟩ := cfg_cells K5.out.c
        have HZ := Lib.hid (szI_nat (f := f) hq)
        have z1 := OK.out.lo q hq
        have z2 := OK.out.hi q hq
        have HC : Hid (capI len f (q : Int) = 1024 / f q) := by show _ = _; unfold capI; rw [HZ.out, if_neg (by omega)]
        have q0 := capI_bd (k := (q : Int)) OK.out
        have HMU : Hid (capI len f (q : Int) * f q ≤ 1024) := by show _ ≤ _; rw [HC.out]; exact Int.ediv_mul_le _ (by omega)
        have HMV : Hid (1024 < (capI len f (q : Int) + 1) * f q) := by
          show _ < _
          rw [HC.out]
          have h1 := Int.mul_ediv_add_emod 1024 (f q)
          have h2 := Int.emod_lt_of_pos 1024 (show 0 < f q by omega)
          rw [Int.add_mul, Int.one_mul, Int.mul_comm (1024 / f q)]
          omega
        have HCP := Lib.hid (fun w hr => cap_any W S B T ad len cap f (q : Int) w hr OK)
        have HAF : Hid (∀ i, 0 ≤ i → i < capI len f (q : Int) → adrI S len f (q : Int) (s : Int) i = 65536 + 1024 * (s : Int) + i * f q) := fun i h3 h4 => by unfold adrI; rw [if_neg (by omega), HZ.out]
        have HAD : Hid (∀ w, Hid (RowI w ad len f) → ∀ i, 0 ≤ i → i < capI len f (q : Int) → Calls Try.prog 25 #[.agg #[.int .i64 W, .int .i64 S, .int .i64 B, .int .i64 T, .slice ad len cap], .int .i64 (q : Int), .agg #[.int .i64 (s : Int), .int .i64 i]] w fun e w' => e = .returned (.int .i64 (65536 + 1024 * (s : Int) + i * f q)) ∧ Below w.heap.size w w') := fun w hr i h1 h2 => by
          have := address_any W S B T ad len cap f (q : Int) (s : Int) i w hr OK (by omega) (by omega)
          rw [HAF.out i h1 h2] at this; exact this
        have xq : (q : Int) < (len : Int) := by omega
        clear HC HZ HAF
        generalize capI len f (q : Int) = R at *
        generalize hfz : f q = z at *
        have HFZ := Lib.hid hfz
        clear hfz
        have ss0 : (0 : Int) ≤ (s : Int) := by omega
        have ss1 : (s : Int) < 8 := by omega
        go_wp2_with fail
        refine (HCP.out _ K5.out.r).mono ?_
        rintro e w6 ⟨rfl, hb⟩
        have K6 := Lib.hid (K5.out.next hb)
        clear hb K5 c0 c1 c2 c3 c4
        go_wp2_with fail
        go_loopw [8, 53] (fun v u wx => ∃ (i p : Int) (L : List Iv), 0 ≤ i ∧ i ≤ R ∧ 0 ≤ p ∧ p ≤ 1024 ∧ Hid (p = i * z) ∧ v = .int .i64 (65536 + 1024 * (s : Int) + p) ∧ u = .int .i64 i ∧ Wt w wx N g W S B T ad len cap f L ∧ Til L (65536 + 1024 * (s : Int) + p)) (fun _ u _ => (R - intOf u).toNat)
        case atStart => exact ⟨0, 0, L, by omega, by omega, by omega, by omega, by show (0 : Int) = 0 * z; omega, by rw [Int.add_zero], rfl, K6.out, by rw [Int.add_zero]; exact T4.out⟩
        case round =>
          obtain ⟨i, p, L2, i0, i1, p0, p1, HP, rfl, rfl, kk, tt⟩ := hrel
          have K7 := Lib.hid kk
          have T7 := Lib.hid tt
          clear kk tt K6 T4
          obtain ⟨c0, c1, c2, c3, c4⟩ := cfg_cells K7.out.c
          have HLN := Lib.hid (til_len T7.out (by omega))
          obtain ⟨b, off, rfl, hcl⟩ := K7.out.r.at hq
          rw [HFZ.out] at hcl
          by_cases hiR : i < R
          · have dR : decide (i < R) = true := by simpa using hiR
            have HP2 : Hid (p + z = (i + 1) * z) := by show _ = _; rw [Int.add_mul, Int.one_mul, HP.out]
            have p2 : p + z ≤ 1024 := by
              have h1 : (i + 1) * z ≤ R * z := Int.mul_le_mul_of_nonneg_right (by omega) (by omega)
              have h2 := HP2.out
              have h3 := HMU.out
              omega
            have HPB := Lib.hid (til_putB (l := L2) (z := z) (fun y hy => (T7.out.lo y hy).2) (by omega) (by omega) (by omega) (by omega))
            have T8 := Lib.hid (til_put T7.out (z := z) (by omega) (by omega) (by omega) (by omega) (fun _ => by omega))
            have HTE : Hid (65536 + 1024 * (s : Int) + p + z = 65536 + 1024 * (s : Int) + (p + z)) := by show _ = _; omega
            have a0 : 0 ≤ 65536 + 1024 * (s : Int) + p := by omega
            have a1 : 65536 + 1024 * (s : Int) + p ≤ 100000 := by omega
            have HA := Lib.hid (fun w hr => HAD.out w hr i i0 hiR)
            rw [← HP.out] at HA
            generalize 65536 + 1024 * (s : Int) + p = a at *
            go_wp2_with fail
            refine (HA.out _ K7.out.r).mono ?_
            rintro e w8 ⟨rfl, hb⟩
            have K8 := Lib.hid (K7.out.next hb)
            clear hb K7 c0 c1 c2 c3 c4 hcl
            obtain ⟨c0, c1, c2, c3, c4⟩ := cfg_cells K8.out.c
            obtain ⟨b', off', hb', hcl⟩ := K8.out.r.at hq
            obtain ⟨rfl, rfl⟩ : b = b' ∧ off = off' := by simp at hb'; exact hb'
            clear hb'
            rw [HFZ.out] at hcl
            go_wp2_with fail
            refine (sm_put K8.out.s a z HLN.out).mono ?_
            rintro e w9 ⟨he, ss, kk⟩
            obtain rfl : e = .returned (.bool true) := by rw [he, HPB.out]
            have K9 := Lib.hid (K8.out.put hr.out ss kk)
            clear ss kk he K8 c0 c1 c2 c3 c4 hcl
            obtain ⟨c0, c1, c2, c3, c4⟩ := cfg_cells K9.out.c
            obtain ⟨b', off', hb', hcl⟩ := K9.out.r.at hq
            obtain ⟨rfl, rfl⟩ : b = b' ∧ off = off' := by simp at hb'; exact hb'
            clear hb'
            rw [HFZ.out] at hcl
            go_wp2_with fail
            go_roundw
            case rel => exact ⟨i + 1, p + z, _, by omega, by omega, by omega, p2, HP2, by rw [← HTE.out], rfl, K9.out, by rw [← HTE.out]; exact T8.out⟩
            case measure => simp [intOf]; omega
          · have dR : decide (i < R) = false := by simpa using hiR
            obtain rfl : R = i := by omega
            have hrr : 65536 + 1024 * ((s : Int) + 1) - (65536 + 1024 * (s : Int) + p) = 1024 - p := by omega
            have HPz : Hid (1024 < p + z) := by
              show _ < _
              have h1 := HMV.out
              rw [Int.add_mul, Int.one_mul, ← HP.out] at h1
              exact h1
            have hpz := HPz.out
            have e1 : decide (1024 - p < 0) = false := by simp; omega
            have e2 : decide (z ≤ 1024 - p) = false := by simp; omega
            by_cases hr0 : 0 < 1024 - p
            · have e3 : decide (0 < 1024 - p) = true := by simpa using hr0
              have HPB := Lib.hid (til_putB (l := L2) (z := 1024 - p) (fun y hy => (T7.out.lo y hy).2) (by omega) (by omega) (by omega) (by omega))
              have T8 := Lib.hid (til_put T7.out (z := 1024 - p) (by omega) (by omega) (by omega) (by omega) (fun h => by omega))
              have HTE : Hid (65536 + 1024 * (s : Int) + p + (1024 - p) = 65536 + 1024 * (((s + 1 : Nat) : Int))) := by show _ = _; omega
              go_wp2_with fail
              refine (sm_put K7.out.s _ _ HLN.out).mono ?_
              rintro e w9 ⟨he, ss, kk⟩
              obtain rfl : e = .returned (.bool true) := by rw [he, HPB.out]
              have K9 := Lib.hid (K7.out.put hr.out ss kk)
              clear ss kk he
              go_wp2_with fail
              go_roundw
              case rel => exact ⟨s + 1, _, by omega, rfl, K9.out, by rw [← HTE.out]; exact T8.out⟩
              case measure => simp [intOf]; omega
            · have e3 : decide (0 < 1024 - p) = false := by simpa using hr0
              have HTE : Hid (65536 + 1024 * (s : Int) + p = 65536 + 1024 * (((s + 1 : Nat) : Int))) := by show _ = _; omega
              go_wp2_with fail
              go_roundw
              case rel => exact ⟨s + 1, _, by omega, rfl, K7.out, by rw [← HTE.out]; exact T7.out⟩
              case measure => simp [intOf]; omega
    · have dS : decide ((s : Int) < S) = false := by simpa using hsS
      obtain rfl : S = (s : Int) := by omega
      have HSUM : Hid (sumL L = 1024 * (s : Int)) := by show _ = _; rw [T4.out.sum]; omega
      have HLN := Lib.hid (til_len T4.out (by omega))
      have HNO := Lib.hid (til_no T4.out (by omega))
      have HPN := Lib.hid (put_false HNO.out)
      have HYE := Lib.hid (til_putB (l := L) (z := 1) (fun y hy => (T4.out.lo y hy).2) (by omega) (by omega) (by omega) (by omega))
      clear c0 c1 c2 c3 c4
      go_wp2_with fail
      refine wp_region_noPanic ?_
      refine wp_region_held_drew (S := fun w' => Cfg5 w' N W (s : Int) B T (.slice ad len cap)) (by kernel_rfl) K4.out.c (fun hHeld0 => ?_)
      have Q0 : Hid (Wt w wr.drew N g W (s : Int) B T ad len cap f L) := ⟨K4.out.c, K4.out.r, K4.out.s.drew⟩
      generalize wr.drew = y0 at *
      refine wpAnyH_take (i := 1) (v := .agg #[.int .i64 W, .int .i64 (s : Int), .int .i64 B, .int .i64 T, .slice ad len cap]) rfl (by kernel_rfl) (by kernel_rfl) (by kernel_rfl) (fun _ _ _ h => h) (Or.inl ⟨by rfl, fun w hSw => by obtain ⟨c0, c1, c2, c3, c4⟩ := cfg_cells hSw; go_simp⟩) (by assumption) ?_
      change wpAnyH _ _ _ _ _ _ _ (Act.put _ (some 114) _) _
      simp only [Act.put, List.setIfInBounds_toArray, List.set_cons_zero, List.set_cons_succ]
      refine wpAnyH_ready (rs := [0]) (by kernel_rfl) (by simp) ?_
      refine AllReadyH.cons rfl (fun K hK => ?_) AllReadyH.nil
      go_simp
      refine (sm_bytes Q0.out.s).mono ?_
      rintro e y1 ⟨he, hb⟩
      rw [HSUM.out] at he
      subst he
      have Q1 := Lib.hid (Q0.out.next hb)
      clear hb
      have hc1 := Q1.out.c
      go_wp2_with fail
      refine hK.out _ _ hc1 (fun hHeld1 => ?_)
      clear hK K
      refine wpAnyH_ready (rs := [2]) (by kernel_rfl) (by simp) ?_
      refine AllReadyH.cons rfl (fun K hK => ?_) AllReadyH.nil
      go_simp
      refine (most_any W (s : Int) B T _ _ (by omega) (by omega)).mono ?_
      rintro e y2 ⟨rfl, hb⟩
      have Q2 := Lib.hid (Q1.out.next hb)
      clear hb
      have hc2 := Q2.out.c
      go_wp2_with fail
      refine hK.out _ _ hc2 (fun hHeld2 => ?_)
      clear hK K
      refine wpAnyH_take (i := 3) (v := .bool true) rfl (by kernel_rfl) (by kernel_rfl) (by kernel_rfl) (fun _ _ _ h => h) (Or.inl ⟨by rfl, fun w hSw => by go_simp⟩) (by assumption) ?_
      change wpAnyH _ _ _ _ _ _ _ (Act.put _ (some 116) _) _
      simp only [Act.put, List.setIfInBounds_toArray, List.set_cons_zero, List.set_cons_succ]
      refine wpAnyH_take (i := 4) (v := .bool true) rfl (by kernel_rfl) (by kernel_rfl) (by kernel_rfl) (fun _ _ _ h => h) (Or.inl ⟨by rfl, fun w hSw => by go_simp⟩) (by assumption) ?_
      change wpAnyH _ _ _ _ _ _ _ (Act.put _ (some 117) _) _
      simp only [Act.put, List.setIfInBounds_toArray, List.set_cons_zero, List.set_cons_succ]
      refine wpAnyH_take (i := 5) (v := .agg #[.int .i64 65541, .int .i64 1]) rfl (by kernel_rfl) (by kernel_rfl) (by kernel_rfl) (fun _ _ _ h => h) (Or.inl ⟨by rfl, fun w hSw => by go_simp⟩) (by assumption) ?_
      change wpAnyH _ _ _ _ _ _ _ (Act.put _ (some 118) _) _
      simp only [Act.put, List.setIfInBounds_toArray, List.set_cons_zero, List.set_cons_succ]
      refine wpAnyH_ready (rs := [6]) (by kernel_rfl) (by simp) ?_
      refine AllReadyH.cons rfl (fun K hK => ?_) AllReadyH.nil
      go_simp
      refine (sm_put Q2.out.s 65541 1 HLN.out).mono ?_
      rintro e y3 ⟨he, s, kk⟩
      obtain rfl : e = .returned (.bool false) := by rw [he, HNO.out]
      have Q3 := Lib.hid (Q2.out.put hr.out s kk)
      clear s kk he
      have hc3 := Q3.out.c
      go_wp2_with fail
      refine hK.out _ _ hc3 (fun hHeld3 => ?_)
      clear hK K
      rw [HPN.out] at Q3
      refine wpAnyH_take (i := 7) (v := .bool true) rfl (by kernel_rfl) (by kernel_rfl) (by kernel_rfl) (fun _ _ _ h => h) (Or.inl ⟨by rfl, fun w hSw => by go_simp⟩) (by assumption) ?_
      change wpAnyH _ _ _ _ _ _ _ (Act.put _ (some 120) _) _
      simp only [Act.put, List.setIfInBounds_toArray, List.set_cons_zero, List.set_cons_succ]
      refine wpAnyH_take (i := 8) (v := .bool true) rfl (by kernel_rfl) (by kernel_rfl) (by kernel_rfl) (fun _ _ _ h => h) (Or.inl ⟨by rfl, fun w hSw => by go_simp⟩) (by assumption) ?_
      change wpAnyH _ _ _ _ _ _ _ (Act.put _ (some 121) _) _
      simp only [Act.put, List.setIfInBounds_toArray, List.set_cons_zero, List.set_cons_succ]
      refine wpAnyH_take (i := 9) (v := .bool true) rfl (by kernel_rfl) (by kernel_rfl) (by kernel_rfl) (fun _ _ _ h => h) (Or.inl ⟨by rfl, fun w hSw => by go_simp⟩) (by assumption) ?_
      change wpAnyH _ _ _ _ _ _ _ (Act.put _ (some 122) _) _
      simp only [Act.put, List.setIfInBounds_toArray, List.set_cons_zero, List.set_cons_succ]
      refine wpAnyH_take (i := 10) (v := .agg #[.int .i64 W, .int .i64 (s : Int), .int .i64 B, .int .i64 T, .slice ad len cap]) rfl (by kernel_rfl) (by kernel_rfl) (by kernel_rfl) (fun _ _ _ h => h) (Or.inl ⟨by rfl, fun w hSw => by obtain ⟨c0, c1, c2, c3, c4⟩ := cfg_cells hSw; go_simp⟩) (by assumption) ?_
      change wpAnyH _ _ _ _ _ _ _ (Act.put _ (some 123) _) _
      simp only [Act.put, List.setIfInBounds_toArray, List.set_cons_zero, List.set_cons_succ]
      refine wpAnyH_ready (rs := [11]) (by kernel_rfl) (by simp) ?_
      refine AllReadyH.cons rfl (fun K hK => ?_) AllReadyH.nil
      go_simp
      refine (end_any W (s : Int) B T _ _ (by omega) (by omega)).mono ?_
      rintro e y4 ⟨rfl, hb⟩
      have Q4 := Lib.hid (Q3.out.next hb)
      clear hb
      have hc4 := Q4.out.c
      go_wp2_with fail
      refine hK.out _ _ hc4 (fun hHeld4 => ?_)
      clear hK K
      refine wpAnyH_take (i := 12) (v := .agg #[.int .i64 (65536 + 1024 * (s : Int)), .int .i64 1]) rfl (by kernel_rfl) (by kernel_rfl) (by kernel_rfl) (fun _ _ _ h => h) (Or.inl ⟨by rfl, fun w hSw => by go_simp⟩) (by assumption) ?_
      change wpAnyH _ _ _ _ _ _ _ (Act.put _ (some 125) _) _
      simp only [Act.put, List.setIfInBounds_toArray, List.set_cons_zero, List.set_cons_succ]
      refine wpAnyH_ready (rs := [13]) (by kernel_rfl) (by simp) ?_
      refine AllReadyH.cons rfl (fun K hK => ?_) AllReadyH.nil
      go_simp
      refine (sm_put Q4.out.s (65536 + 1024 * (s : Int)) 1 HLN.out).mono ?_
      rintro e y5 ⟨he, s, kk⟩
      obtain rfl : e = .returned (.bool true) := by rw [he, HYE.out]
      have Q5 := Lib.hid (Q4.out.put hr.out s kk)
      clear s kk he
      have hc5 := Q5.out.c
      go_wp2_with fail
      refine hK.out _ _ hc5 (fun hHeld5 => ?_)
      clear hK K
      refine wpAnyH_take (i := 14) (v := .bool true) rfl (by kernel_rfl) (by kernel_rfl) (by kernel_rfl) (fun _ _ _ h => h) (Or.inl ⟨by rfl, fun w hSw => by go_simp⟩) (by assumption) ?_
      change wpAnyH _ _ _ _ _ _ _ (Act.put _ (some 127) _) _
      simp only [Act.put, List.setIfInBounds_toArray, List.set_cons_zero, List.set_cons_succ]
      refine wpAnyH_take (i := 15) (v := .bool true) rfl (by kernel_rfl) (by kernel_rfl) (by kernel_rfl) (fun _ _ _ h => h) (Or.inl ⟨by rfl, fun w hSw => by go_simp⟩) (by assumption) ?_
      change wpAnyH _ _ _ _ _ _ _ (Act.put _ (some 4) _) _
      simp only [Act.put, List.setIfInBounds_toArray, List.set_cons_zero, List.set_cons_succ]
      refine wpAnyH_done (by kernel_rfl) ?_ _
      refine NoPanic.normal ?_
      have HE := Lib.hid Q5.out.s.b
      go_wp2_with fail
      go_ret
      exact ⟨rfl, by first | exact HE.out | (rw [hN]; exact HE.out) | simpa [hN] using HE.out⟩

theorem tiles_walk (W S B T : Int) (ad : Option Addr) (len cap : Nat) (f : Nat → Int) (bd : Option Addr) (dlen dcap : Nat) (fd : Nat → Nat) (w : World) (hr : RowI w ad len f) (hl : len < 9223372036854775808) (hd : RowU w bd dlen fd) :
    Calls Try.prog 14 #[.agg #[.int .i64 W, .int .i64 S, .int .i64 B, .int .i64 T, .slice ad len cap], .slice bd dlen dcap] w fun e w' => e = .returned (.bool true) ∧ Below w.heap.size w w' := by
  rcases h : mayB W S B T len f with _ | _
  · exact tiles_no W S B T ad len cap f bd dlen dcap w hr hl h
  · by_cases h8 : 8 < S ∨ 60 < dlen
    · exact tiles_big W S B T ad len cap f bd dlen dcap w hr hl h8 h
    · exact tiles_in W S B T ad len cap f bd dlen dcap fd w hr hl hd (by omega) (by omega) h

end Go.Proofs.Ytjlklkaaonfpdaa
