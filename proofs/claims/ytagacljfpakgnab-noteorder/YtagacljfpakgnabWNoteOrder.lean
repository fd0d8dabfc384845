/-
  NoteOrder: the walk.
-/
import Derived.Test.YtagacljfpakgnabNoteSp
namespace Go.Proofs.Ytagacljfpakgnab
open Go.RowKit Go.Sort Go.Maps
attribute [local go_sem] Oper.semAt_some

/-- Of each worker all but the last one ended. -/
def Gd (l : List Ev) : Prop := ∀ (i t : Nat) (x y : Ev), i < t → l[i]? = some x → l[t]? = some y → x.w = y.w → x.e ≠ 0
theorem gd_none {l : List Ev} {i : Int} (h : Gd l) : ∀ k, findTo l i k = none → ∀ t x, t < k → l[t]? = some x → x.w = i → x.e ≠ 0
  | 0, _, t, x, ht, _, _ => by omega
  | k + 1, hf, t, x, ht, hx, hw => by
    unfold findTo at hf
    by_cases e : t = k
    · subst e
      rw [hx] at hf
      simp only [if_pos hw] at hf
      intro he
      rw [if_pos he] at hf
      cases hf
    · cases hk : l[k]? with
      | none => rw [hk] at hf; exact gd_none h k hf t x (by omega) hx hw
      | some y =>
        rw [hk] at hf
        by_cases a : y.w = i
        · exact h t k x y (by omega) hx hk (by rw [hw, a])
        · simp only [if_neg a] at hf
          exact gd_none h k hf t x (by omega) hx hw
theorem gd_app {l : List Ev} {x : Ev} (h : Gd l) (hf : findI l x.w = none) : Gd (l ++ [x]) := by
  intro i t y z hit hy hz hw
  have ht := (List.getElem?_eq_some_iff.1 hz).1
  rw [List.length_append, List.length_singleton] at ht
  rw [List.getElem?_append_left (by omega)] at hy
  by_cases e : t < l.length
  · rw [List.getElem?_append_left e] at hz
    exact h i t y z hit hy hz hw
  · obtain rfl : t = l.length := by omega
    rw [List.getElem?_append_right (Nat.le_refl _), Nat.sub_self] at hz
    cases hz
    exact gd_none h l.length hf i y (by omega) hy hw
theorem gd_set {l : List Ev} {j : Nat} {x y : Ev} (h : Gd l) (hx : l[j]? = some x) (h1 : y.w = x.w) (h2 : y.e ≠ 0) : Gd (l.set j y) := by
  intro i t a b hit ha hb hw
  have hj := (List.getElem?_eq_some_iff.1 hx).1
  rw [List.getElem?_set] at ha hb
  by_cases e1 : j = i
  · rw [if_pos e1, if_pos hj] at ha
    cases ha
    exact h2
  · rw [if_neg e1] at ha
    by_cases e2 : j = t
    · rw [if_pos e2, if_pos hj] at hb
      cases hb
      exact h i j a x (by omega) ha hx (by rw [hw, h1])
    · rw [if_neg e2] at hb
      exact h i t a b hit ha hb hw
theorem gd_end {l : List Ev} (h : Gd l) (i c a t : Int) (ht : t ≠ 0) : Gd (enL l i c a t) := by
  unfold enL
  cases hf : findI l i with
  | none => exact h
  | some j =>
    obtain ⟨x, hx, _⟩ := findI_some hf
    simp only [hx]
    exact gd_set h hx rfl ht
theorem enL_len (l : List Ev) (i c a t : Int) : (enL l i c a t).length = l.length := by
  unfold enL
  split
  · split
    · rw [List.length_set]
    · rfl
  · rfl
theorem slice_fit {w : World} {v : Value} {l : List Ev} (h : EvRow w v l) {b : Nat} {n c : Nat} (hv : v = .slice (some ⟨b, 0, none⟩) n c) : n = l.length ∧ l.length ≤ c := by
  rcases ORow.cases h with ⟨h1, _⟩ | ⟨b', cap, cur, h1, _, h3, _⟩
  · rw [hv] at h1; cases h1
  · rw [hv] at h1; cases h1; exact ⟨rfl, h3⟩
set_option maxRecDepth 20000 in
set_option maxHeartbeats 8000000 in
theorem norder_walk (a1 : Option Addr) (n1 c1 : Nat) (Z0 Z1 Z2 Z3 Z4 Z5 Z6 : Nat → Int) (w : World) (hs : Hid (RowNt w a1 n1 Z0 Z1 Z2 Z3 Z4 Z5 Z6)) :
    Calls Try.prog 4 #[.slice a1 n1 c1] w fun e w' => e = .returned (.bool true) ∧ Below w.heap.size w w' := by
  go_enter Try.func4, Try.ntmps4
  go_wp2_with fail
  refine (speaks18_any w).mono ?_
  rintro e w1 ⟨rfl, hb⟩
  have E1 := Lib.hid hb
  clear hb
  by_cases hfew : 200 < (n1 : Int)
  · have h5 : decide (200 < (n1 : Int)) = true := by simpa using hfew
    go_wp2_with fail
    go_ret
    exact ⟨rfl, E1.out⟩
  have h5 : decide (200 < (n1 : Int)) = false := by simpa using hfew
  have hb := box1 w1 (.cells #[.slice none 0 0, .map none] 27)
  have S0 := Lib.hid (bn_new w1)
  have E2 := Lib.hid (E1.out.trans (hb.mono E1.out.size))
  have LN : Hid (w.heap.size ≤ w1.heap.size) := Lib.hid E1.out.size
  have F0 : Hid (∀ b ∈ w1.heap.size :: foot (.slice none 0 0) none, w1.heap.size ≤ b) := Lib.hid (fun b hb => by simp [foot, Value.ownBlock] at hb; omega)
  have Q0 : Hid (w1.heap.size ≤ (w1.alloc (.cells #[.slice none 0 0, .map none] 27)).heap.size) := Lib.hid hb.size
  clear hb E1
  go_upto_region 6 with fail
  generalize w1.alloc (.cells #[.slice none 0 0, .map none] 27) = w2 at *
  go_wp2_with fail
  go_loopw [4, 20] (fun u4 u20 wr => ∃ (j : Nat) (v : Value) (o : Option Nat) (l : List Ev), j ≤ n1 ∧ u20 = .int .i64 (j : Nat) ∧ u4 = .int .i64 (l.length : Nat) ∧ l.length ≤ j ∧ Hid (Gd l) ∧ Hid (Bn wr w1.heap.size v o l) ∧ Hid (∀ b ∈ w1.heap.size :: foot v o, w1.heap.size ≤ b) ∧ Hid (w1.heap.size ≤ wr.heap.size) ∧ Hid (Below w.heap.size w wr)) (fun _ u20 _ => n1 - (intOf u20).toNat)
  case atStart => exact ⟨0, _, _, [], by omega, rfl, rfl, by simp, Lib.hid (fun _ _ _ _ _ h => by cases h), S0, F0, Q0, E2⟩
  case round =>
    obtain ⟨j, v, o, l, hj, rfl, rfl, hl, GG, SS, FF, NN, EE⟩ := hrel
    by_cases hlt : j < n1
    · have l3 : (j : Int) < (n1 : Int) := by omega
      have Zr := Lib.hid (hs.out.next EE.out)
      obtain ⟨ab, off, rfl, hab, q0, q1, q2, q3, q4, q5, q6⟩ := Zr.out.at hlt
      obtain ⟨_, w1', _, _, _, _, _⟩ := Zr.out.1.2 j hlt
      clear Zr
      generalize Z0 j = k0 at *
      generalize Z1 j = k1 at *
      generalize Z2 j = k2 at *
      generalize Z3 j = k3 at *
      generalize Z4 j = k4 at *
      generalize Z5 j = k5 at *
      generalize Z6 j = k6 at *
      have hb := box1 wr (.cells #[.int .i64 k0, .int .i64 k1, .int .i64 k2, .int .i64 k3, .int .i64 k4, .int .i64 k5, .int .i64 k6] 34)
      have S2 := Lib.hid (SS.out.next hb)
      have E2' := Lib.hid (EE.out.trans (hb.mono EE.out.size))
      have N2 : Hid (w1.heap.size ≤ (wr.alloc (.cells #[.int .i64 k0, .int .i64 k1, .int .i64 k2, .int .i64 k3, .int .i64 k4, .int .i64 k5, .int .i64 k6] 34)).heap.size) := Lib.hid (Nat.le_trans NN.out hb.size)
      clear hb
      by_cases hg : k2 < 1
      · have g1 : decide (k2 < 1) = true := by simpa using hg
        go_wp2_with fail
        go_roundw
        case rel => exact ⟨j + 1, v, o, l, by omega, by push_cast; rfl, rfl, by omega, GG, S2, FF, N2, E2'⟩
        case measure => simp [intOf]; omega
      · have g1 : decide (k2 < 1) = false := by simpa using hg
        by_cases h0 : k0 = 0
        · have g0 : (k0 == 0) = true := by simpa using h0
          have H0' := Lib.hid h0
          clear h0
          cases hf : findI l k1 with
          | some jj =>
            have CA := nbegin_any w1.heap.size v o l k1 k3 k4 k2 _ S2 w1' (by omega)
            rw [hf, Option.isNone_some, show bgL l k1 k3 k4 k2 = l from by unfold bgL; rw [hf]; rfl] at CA
            have CA := Lib.hid CA
            clear hf
            go_wp2_with fail
            refine CA.out.mono ?_
            rintro e w5 ⟨rfl, tn⟩
            obtain ⟨v5, o5, t1, t2, t3⟩ := tn.far FF.out N2.out
            have S5 := Lib.hid t1
            have F5 := Lib.hid t2
            have E5 := Lib.hid (E2'.out.trans (t3.mono LN.out))
            have N5 : Hid (w1.heap.size ≤ w5.heap.size) := Lib.hid (Nat.le_trans N2.out t3.size)
            clear tn t1 t2 t3 CA
            go_wp2_with fail
            go_roundw
            case rel => exact ⟨j + 1, v5, o5, l, by omega, by push_cast; rfl, rfl, by omega, GG, S5, F5, N5, E5⟩
            case measure => simp [intOf]; omega
          | none =>
            have CA := nbegin_any w1.heap.size v o l k1 k3 k4 k2 _ S2 w1' (by omega)
            rw [hf, Option.isNone_none, show bgL l k1 k3 k4 k2 = l ++ [evNew k1 k3 k4 k2] from by unfold bgL; rw [hf]; rfl] at CA
            have CA := Lib.hid CA
            have G5 : Hid (Gd (l ++ [evNew k1 k3 k4 k2])) := gd_app GG.out hf
            clear hf
            have AX : Hid ((wr.alloc (.cells #[.int .i64 k0, .int .i64 k1, .int .i64 k2, .int .i64 k3, .int .i64 k4, .int .i64 k5, .int .i64 k6] 34)).heap[wr.heap.size]? = some (.cells #[.int .i64 k0, .int .i64 k1, .int .i64 k2, .int .i64 k3, .int .i64 k4, .int .i64 k5, .int .i64 k6] 34 (0, 0))) := heap_new wr _
            have AN : Hid (∀ b ∈ w1.heap.size :: foot v o, b < wr.heap.size) := Lib.hid SS.out.lt
            go_wp2_with fail
            refine CA.out.mono ?_
            rintro e w5 ⟨rfl, tn⟩
            have AX5 : Hid (w5.heap[wr.heap.size]? = some (.cells #[.int .i64 k0, .int .i64 k1, .int .i64 k2, .int .i64 k3, .int .i64 k4, .int .i64 k5, .int .i64 k6] 34 (0, 0))) := by obtain ⟨_, _, _, x, _⟩ := tn; exact x.at AX.out (fun hm => Nat.lt_irrefl _ (AN.out _ hm))
            obtain ⟨v5, o5, t1, t2, t3⟩ := tn.far FF.out N2.out
            have S5 := Lib.hid t1
            have F5 := Lib.hid t2
            have E5 := Lib.hid (E2'.out.trans (t3.mono LN.out))
            have N5 : Hid (w1.heap.size ≤ w5.heap.size) := Lib.hid (Nat.le_trans N2.out t3.size)
            clear tn t1 t2 t3 CA
            have wl : IntKind.i64.wrap ((l.length : Int) + 1) = ((l.length + 1 : Nat) : Int) := by rw [IntKind.wrap_i64]; omega
            have EV := nevents_any w1.heap.size v5 o5 (l ++ [evNew k1 k3 k4 k2]) w5 S5 (by simp; omega)
            have EV := Lib.hid EV
            go_wp2_with fail
            refine EV.out.mono ?_
            rintro e w6 ⟨u, rfl, t1, t2, t3⟩
            obtain ⟨lb, cap, rfl, y0, y1, y2, y3, y4, y5, y6, y7, y8, _⟩ := EvRow.cells (i := l.length) (x := evNew k1 k3 k4 k2) t1 (by simp)
            rw [List.length_append, List.length_singleton]
            simp only [evNew] at y0 y1 y2 y3 y4 y5 y6 y7 y8
            have S6 := Lib.hid (S5.out.next t2)
            have E6 := Lib.hid (E5.out.trans (t2.mono E5.out.size))
            have N6 : Hid (w1.heap.size ≤ w6.heap.size) := Lib.hid (Nat.le_trans N5.out t2.size)
            have AX6 := (t2.block _ (heap_lt AX5.out)).trans AX5.out
            have ax1 : w6.cell? ⟨wr.heap.size, 1, none⟩ = some (.int .i64 k1) := by rw [cell_of AX6]; rfl
            have ax2 : w6.cell? ⟨wr.heap.size, 2, none⟩ = some (.int .i64 k2) := by rw [cell_of AX6]; rfl
            have ax3 : w6.cell? ⟨wr.heap.size, 3, none⟩ = some (.int .i64 k3) := by rw [cell_of AX6]; rfl
            have ax4 : w6.cell? ⟨wr.heap.size, 4, none⟩ = some (.int .i64 k4) := by rw [cell_of AX6]; rfl
            clear t1 t2 t3 EV AX5 AX6
            have wm : IntKind.i64.wrap (((l.length + 1 : Nat) : Int) - 1) = (l.length : Int) := by rw [IntKind.wrap_i64]; omega
            have li : (l.length : Int) < ((l.length + 1 : Nat) : Int) := by omega
            have j0 := cell_regrown y0
            have j1 := cell_regrown y1
            have j2 := cell_regrown y2
            have j3 := cell_regrown y3
            have j4 := cell_regrown y4
            have j5 := cell_regrown y5
            have j6 := cell_regrown y6
            have j7 := cell_regrown y7
            have j8 := cell_regrown y8
            have m1 := cell_regrown ax1
            have m2 := cell_regrown ax2
            have m3 := cell_regrown ax3
            have m4 := cell_regrown ax4
            go_upto_region 16 with fail
            refine wp_region_quiet_below (by kernel_rfl) (by kernel_rfl) ?_
            repeat (go_big_quiet_step (fail))
            refine wpQuiet_nil ?_
            intro _ hw'
            obtain ⟨⟨dq, osq⟩, hw''⟩ := hw'
            subst hw''
            have bg := below_regrown w6 dq osq
            have S7 := Lib.hid (S6.out.next bg)
            have E7 := Lib.hid (E6.out.trans (bg.mono E6.out.size))
            have N7 := Lib.hid (Nat.le_trans N6.out bg.size)
            clear bg j0 j1 j2 j3 j4 j5 j6 j7 j8 m1 m2 m3 m4 y0 y1 y2 y3 y4 y5 y6 y7 y8 ax1 ax2 ax3 ax4 S6 E6 N6
            generalize Sort.grow (redrawn w6 dq) osq = w7 at *
            go_wp2_with fail
            go_roundw
            case rel => exact ⟨j + 1, v5, o5, l ++ [evNew k1 k3 k4 k2], by omega, by push_cast; rfl, by rw [List.length_append, List.length_singleton]; push_cast; rfl, by rw [List.length_append, List.length_singleton]; omega, G5, S7, F5, N7, E7⟩
            case measure => simp [intOf]; omega
        · have g0 : (k0 == 0) = false := by simpa using h0
          by_cases h3 : k0 = 3
          · have g3 : (k0 == 3) = true := by simpa using h3
            have H3' := Lib.hid h3
            clear h3 h0
            have CA := Lib.hid (nend_any w1.heap.size v o l k1 k5 k6 k2 _ S2 w1' (by omega))
            go_wp2_with fail
            refine CA.out.mono ?_
            rintro e w5 ⟨rfl, tn⟩
            obtain ⟨v5, o5, t1, t2, t3⟩ := tn.far FF.out N2.out
            have S5 := Lib.hid t1
            have F5 := Lib.hid t2
            have E5 := Lib.hid (E2'.out.trans (t3.mono LN.out))
            have N5 : Hid (w1.heap.size ≤ w5.heap.size) := Lib.hid (Nat.le_trans N2.out t3.size)
            have G5 := Lib.hid (gd_end GG.out k1 k5 k6 k2 (by omega))
            have L5 := Lib.hid (enL_len l k1 k5 k6 k2)
            clear tn t1 t2 t3 CA
            go_wp2_with fail
            go_roundw
            case rel => exact ⟨j + 1, v5, o5, _, by omega, by push_cast; rfl, by rw [L5.out], by rw [L5.out]; omega, G5, S5, F5, N5, E5⟩
            case measure => simp [intOf]; omega
          · have g3 : (k0 == 3) = false := by simpa using h3
            go_wp2_with fail
            go_roundw
            case rel => exact ⟨j + 1, v, o, l, by omega, by push_cast; rfl, rfl, by omega, GG, S2, FF, N2, E2'⟩
            case measure => simp [intOf]; omega
    · obtain rfl : j = n1 := by omega
      have EV := Lib.hid (nevents_any w1.heap.size v o l wr SS (by omega))
      go_wp2_with fail
      refine EV.out.mono ?_
      rintro e w6 ⟨u, rfl, t1, t2, _⟩
      obtain ⟨ua, uc, rfl⟩ := ORow.form t1
      have R6 := Lib.hid t1
      have E6 := Lib.hid (EE.out.trans (t2.mono EE.out.size))
      clear t1 t2 EV SS EE NN FF
      go_wp2_with fail
      go_loopw [73] (fun u73 wr => ∃ i : Nat, i ≤ l.length ∧ u73 = .int .i64 (i : Nat) ∧ Hid (Below w6.heap.size w6 wr)) (fun u73 _ => l.length - (intOf u73).toNat)
      case atStart => exact ⟨0, by omega, rfl, Lib.hid (Below.refl _ _)⟩
      case round =>
        obtain ⟨i, hi, rfl, BB⟩ := hrel
        by_cases hli : i < l.length
        · have l5 : (i : Int) < (l.length : Int) := by omega
          obtain ⟨x, hx⟩ : ∃ x, l[i]? = some x := ⟨_, List.getElem?_eq_getElem hli⟩
          have RW := Lib.hid (ORow.next R6.out BB.out)
          obtain ⟨lb, cp, hv2, y0, y1, y2, y3, y4, y5, y6, y7, y8, _⟩ := EvRow.cells RW.out hx
          have sf := slice_fit RW.out hv2
          simp only [Value.slice.injEq] at hv2
          obtain ⟨rfl, _, rfl⟩ := hv2
          have wi : IntKind.i64.wrap ((i : Int) + 1) = ((i + 1 : Nat) : Int) := by rw [IntKind.wrap_i64]; omega
          have lc := sf.2
          clear sf
          have hb := box1 wr (.cells #[.int .i64 x.w, .int .i64 x.k, .int .i64 x.n, .int .i64 x.c, .int .i64 x.a, .int .i64 x.s, .int .i64 x.b, .int .i64 x.p, .int .i64 x.e] 38)
          have XB : Hid ((wr.alloc (.cells #[.int .i64 x.w, .int .i64 x.k, .int .i64 x.n, .int .i64 x.c, .int .i64 x.a, .int .i64 x.s, .int .i64 x.b, .int .i64 x.p, .int .i64 x.e] 38)).heap[wr.heap.size]? = some (.cells #[.int .i64 x.w, .int .i64 x.k, .int .i64 x.n, .int .i64 x.c, .int .i64 x.a, .int .i64 x.s, .int .i64 x.b, .int .i64 x.p, .int .i64 x.e] 38 (0, 0))) := heap_new wr _
          have B2 := Lib.hid (BB.out.trans (hb.mono BB.out.size))
          clear hb
          have HX := Lib.hid hx
          clear hx
          go_upto_region 25 with fail
          clear y0 y1 y2 y3 y4 y5 y6 y7 y8
          generalize wr.alloc (.cells #[.int .i64 x.w, .int .i64 x.k, .int .i64 x.n, .int .i64 x.c, .int .i64 x.a, .int .i64 x.s, .int .i64 x.b, .int .i64 x.p, .int .i64 x.e] 38) = w7 at *
          generalize wr.heap.size = NB at *
          have h1' : ¬ ((l.length : Int) < ((i + 1 : Nat) : Int)) := by omega
          by_cases hcap : uc = i + 1
          · have hle : l.length = i + 1 := by omega
            have HC := Lib.hid hle
            clear hle
            subst hcap
            go_wp2_with fail
            go_loopw [83] (fun u83 wr => ∃ t : Nat, t ≤ l.length - (i + 1) ∧ u83 = .int .i64 (t : Nat) ∧ Hid (Below w7.heap.size w7 wr)) (fun u83 _ => l.length - (i + 1) - (intOf u83).toNat)
            case atStart => exact ⟨0, by omega, rfl, Lib.hid (Below.refl _ _)⟩
            case round =>
              obtain ⟨t, ht, rfl, BT⟩ := hrel
              have BF := Lib.hid (B2.out.trans (BT.out.mono B2.out.size))
              obtain rfl : t = l.length - (i + 1) := by have := HC.out; omega
              go_wp2_with fail
              go_roundw
              case rel => exact ⟨i + 1, by omega, by push_cast; rfl, BF⟩
              case measure => simp [intOf]; omega
          · go_wp2_with fail
            go_loopw [83] (fun u83 wr => ∃ t : Nat, t ≤ l.length - (i + 1) ∧ u83 = .int .i64 (t : Nat) ∧ Hid (Below w7.heap.size w7 wr)) (fun u83 _ => l.length - (i + 1) - (intOf u83).toNat)
            case atStart => exact ⟨0, by omega, rfl, Lib.hid (Below.refl _ _)⟩
            case round =>
              obtain ⟨t, ht, rfl, BT⟩ := hrel
              have BF := Lib.hid (B2.out.trans (BT.out.mono B2.out.size))
              have lq : ((l.length - (i + 1) : Nat) : Int) = (l.length : Int) - ((i + 1 : Nat) : Int) := by omega
              by_cases hlt2 : t < l.length - (i + 1)
              · have l6 : (t : Int) < ((l.length - (i + 1) : Nat) : Int) := by omega
                obtain ⟨z, hz⟩ : ∃ z, l[i + 1 + t]? = some z := ⟨_, List.getElem?_eq_getElem (by omega)⟩
                obtain ⟨lb2, cp2, hv3, y0, y1, y2, y3, y4, y5, y6, y7, y8, _⟩ := EvRow.cells (ORow.next R6.out BF.out) hz
                simp only [Value.slice.injEq, Option.some.injEq, Addr.mk.injEq, and_true, true_and] at hv3
                obtain ⟨rfl, rfl⟩ := hv3
                have eo : (i + 1) * 9 + t * 9 = (i + 1 + t) * 9 := by omega
                have gz : Hid (x.w = z.w → x.e ≠ 0) := Lib.hid (fun e => GG.out i (i + 1 + t) x z (by omega) HX.out hz e)
                clear hz
                have hb := box1 wr (.cells #[.int .i64 z.w, .int .i64 z.k, .int .i64 z.n, .int .i64 z.c, .int .i64 z.a, .int .i64 z.s, .int .i64 z.b, .int .i64 z.p, .int .i64 z.e] 38)
                have B3 := Lib.hid (BT.out.trans (hb.mono BT.out.size))
                have ZB : Hid ((wr.alloc (.cells #[.int .i64 z.w, .int .i64 z.k, .int .i64 z.n, .int .i64 z.c, .int .i64 z.a, .int .i64 z.s, .int .i64 z.b, .int .i64 z.p, .int .i64 z.e] 38)).heap[wr.heap.size]? = some (.cells #[.int .i64 z.w, .int .i64 z.k, .int .i64 z.n, .int .i64 z.c, .int .i64 z.a, .int .i64 z.s, .int .i64 z.b, .int .i64 z.p, .int .i64 z.e] 38 (0, 0))) := heap_new wr _
                have XB3 := Lib.hid ((hb.block _ (heap_lt ((BT.out.block _ (heap_lt XB.out)).trans XB.out))).trans ((BT.out.block _ (heap_lt XB.out)).trans XB.out))
                clear hb
                go_upto_region 28 with fail
                generalize wr.alloc (.cells #[.int .i64 z.w, .int .i64 z.k, .int .i64 z.n, .int .i64 z.c, .int .i64 z.a, .int .i64 z.s, .int .i64 z.b, .int .i64 z.p, .int .i64 z.e] 38) = w8 at *
                generalize wr.heap.size = MB at *
                clear y0 y1 y2 y3 y4 y5 y6 y7 y8
                have z0 : w8.cell? ⟨MB, 0, none⟩ = some (.int .i64 z.w) := by rw [cell_of ZB.out]; rfl
                have x0 : w8.cell? ⟨NB, 0, none⟩ = some (.int .i64 x.w) := by rw [cell_of XB3.out]; rfl
                have x8 : w8.cell? ⟨NB, 8, none⟩ = some (.int .i64 x.e) := by rw [cell_of XB3.out]; rfl
                by_cases hw : z.w = x.w
                · have gw : (z.w == x.w) = true := by simpa using hw
                  have ge : (x.e == 0) = false := by simpa using gz.out hw.symm
                  clear hw
                  go_wp2_with fail
                  go_roundw
                  case rel => exact ⟨t + 1, by omega, by push_cast; rfl, B3⟩
                  case measure => simp [intOf]; omega
                · have gw : (z.w == x.w) = false := by simpa using hw
                  go_wp2_with fail
                  go_roundw
                  case rel => exact ⟨t + 1, by omega, by push_cast; rfl, B3⟩
                  case measure => simp [intOf]; omega
              · obtain rfl : t = l.length - (i + 1) := by omega
                go_wp2_with fail
                go_roundw
                case rel => exact ⟨i + 1, by omega, by push_cast; rfl, BF⟩
                case measure => simp [intOf]; omega
        · obtain rfl : i = l.length := by omega
          have E9 := Lib.hid (E6.out.trans (BB.out.mono E6.out.size))
          go_wp2_with fail
          go_ret
          exact ⟨rfl, E9.out⟩
end Go.Proofs.Ytagacljfpakgnab
