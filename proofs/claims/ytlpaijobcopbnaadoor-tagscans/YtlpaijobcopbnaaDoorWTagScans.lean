/-
  The walk of the statement TagScans: through any words it takes a step each, an access each; the tag that it finds none of them has, and all lesser ones one of them does.
-/
import Derived.Test.YtlpaijobcopbnaaDoorWTagOrder
import Derived.Deep.CutRange
namespace Go.Proofs.YtlpaijobcopbnaaDoor
open Go.RowKit Go.Sort Go.Maps

theorem wpList_app_run {P : Program} {w : World} {ops : Array Oper} {rest : List Oper} {o : Oper} {a : Act} {Q : Exit → Act → World → Prop}
    (hg : o.guard = none) (d x : Operand) (dT sT : TypeId) (hop : o.op = Op.call { callee := Callee.builtin Builtin.append, args := #[d, x], argTypes := #[dT, sT] })
    (v u : Value) (hd : a.eval d = v) (hx : a.eval x = u) {v' : Value} {w' : World} (hr : (Builtin.append_ #[dT, sT] o.type #[v, u]).run P w = .ok v' w') (hK : wpList P ops Q rest (a.put o.dst v') w') : wpList P ops Q (o :: rest) a w :=
  wpList_plain hg fun K hK' => by
    unfold Oper.wp
    simp [execOp, hop, resolve, invoke, builtin, hd, hx, hr, Result.andThen]
    exact hK' _ _ hK
/-- The case in its block. -/
structure Cs7 (w : World) (g : Nat) (v0 v1 : Value) (W K A N : Nat) : Prop where
  c0 : w.cell? ⟨g, 0, none⟩ = some v0
  c1 : w.cell? ⟨g, 1, none⟩ = some v1
  c2 : w.cell? ⟨g, 2, none⟩ = some (.int .u8 W)
  c3 : w.cell? ⟨g, 3, none⟩ = some (.int .u8 K)
  c4 : w.cell? ⟨g, 4, none⟩ = some (.int .u8 A)
  c5 : w.cell? ⟨g, 5, none⟩ = some (.int .u8 N)
theorem Cs7.lt {w : World} {g : Nat} {v0 v1 : Value} {W K A N : Nat} (h : Cs7 w g v0 v1 W K A N) : g < w.heap.size := World.block_lt_of_cell? w ⟨g, 2, none⟩ h.c2
theorem Cs7.next {w w' : World} {g : Nat} {v0 v1 : Value} {W K A N : Nat} (h : Cs7 w g v0 v1 W K A N) (hb : Below w.heap.size w w') : Cs7 w' g v0 v1 W K A N :=
  ⟨(hb.cell (p := ⟨g, 0, none⟩) h.lt).trans h.c0, (hb.cell (p := ⟨g, 1, none⟩) h.lt).trans h.c1, (hb.cell (p := ⟨g, 2, none⟩) h.lt).trans h.c2, (hb.cell (p := ⟨g, 3, none⟩) h.lt).trans h.c3, (hb.cell (p := ⟨g, 4, none⟩) h.lt).trans h.c4, (hb.cell (p := ⟨g, 5, none⟩) h.lt).trans h.c5⟩
theorem Cs7.box (w : World) (v0 v1 : Value) (W K A N : Nat) (T : TypeId) : Cs7 (w.alloc (.cells #[v0, v1, .int .u8 W, .int .u8 K, .int .u8 A, .int .u8 N] T)) w.heap.size v0 v1 W K A N := ⟨by simp, by simp, by simp, by simp, by simp, by simp⟩
/-- Words that came in, behind a row of one's own. -/
theorem app_many {w : World} {v : Value} {ws : List Nat} {ao : Option Addr} {m c : Nat} {f : Nat → Nat} (hown : WRw w v ws) (hr : Row64 w ao m f) (hnil : ao = none → m = 0 ∧ c = 0) (few : ws.length + m ≤ 1048576) (ty : TypeId) :
    ∃ v' w', (Builtin.append_ #[27, 27] ty #[v, .slice ao m c]).run Tryd.prog w = .ok v' w' ∧ WRw w' v' (ws ++ listOf f m) ∧ w.grownBy w' v.ownBlock ∧ (v'.ownBlock = v.ownBlock ∨ v'.ownBlock = some w.heap.size) := by
  obtain ⟨inf, hq, hsz, hz, hby⟩ := info64'
  cases ao with
  | none =>
    obtain ⟨rfl, rfl⟩ := hnil rfl
    refine ⟨v, w, run_append_owned_none (P := Tryd.prog) w 0 _ ty _ inf 1 Tryd.underlying27 hq _ _ _ hown, ?_, World.grownBy.refl _ _, .inl rfl⟩
    simpa [listOf] using hown
  | some ad =>
    have hnews : ∀ j u, (vals (listOf f m))[j]? = some u → w.cell? (ad.add j) = some u := fun j u hu => by
      have hj : j < m := by have := (List.getElem?_eq_some_iff.1 hu).1; simpa [vals, listOf] using this
      obtain ⟨b, off, e, _, hc⟩ := hr.2 (by omega)
      cases e
      rw [Addr.add_lit, hc j hj, ← hu]
      simp [vals, listOf, hj]
    obtain ⟨v', w', h1, h2, h3, _, h5⟩ := run_append_own_at (P := Tryd.prog) w 0 27 ty 34 inf _ 1 8 Tryd.underlying27 hq hz hsz hby rfl (by omega) v ws.length (vals ws) hown ad m c (vals (listOf f m)) (by rw [vals_len, listOf_len]; omega) hnews (vals_one _) (by unfold maxLen; omega) (by omega) (Nat.zero_le _)
    refine ⟨v', w', h1, ?_, h3, h5⟩
    unfold WRw
    rw [vals_app, List.length_append, listOf_len]; exact h2
theorem listOf_all {w : World} {a : Option Addr} {n : Nat} {f : Nat → Nat} (h : Row64 w a n f) : AllW (listOf f n) := fun x hx => by
  simp [listOf] at hx
  obtain ⟨y, _, rfl⟩ := hx
  exact h.1 y
/-- What stands while the words are gathered: the memory, and the row of all words. -/
structure Ga7 (w0 wr : World) (mg mh : Nat) (s : MSt) (v : Value) (xs : List Nat) : Prop where
  m : MemAt wr mg mh s
  r : WRw wr v xs
  ap : ∀ q, v.ownBlock = some q → w0.heap.size ≤ q ∧ q ≠ mg ∧ q ≠ mh
  aw : AllW xs
  b : Below w0.heap.size w0 wr
theorem Ga7.next {w0 wr w' : World} {mg mh : Nat} {s : MSt} {v : Value} {xs : List Nat} (h : Ga7 w0 wr mg mh s v xs) (hb : Below wr.heap.size wr w') : Ga7 w0 w' mg mh s v xs :=
  ⟨h.m.next hb, h.r.stay (l := []) (Only.of_below hb) (fun _ _ => by simp), h.ap, h.aw, below_two h.b hb⟩
theorem Ga7.grow {w0 wr w' : World} {mg mh : Nat} {s : MSt} {v v' : Value} {xs xs' : List Nat} (h : Ga7 w0 wr mg mh s v xs) (hr : WRw w' v' xs') (hg : wr.grownBy w' v.ownBlock) (ho : v'.ownBlock = v.ownBlock ∨ v'.ownBlock = some wr.heap.size) (hw : AllW xs') : Ga7 w0 w' mg mh s v' xs' := by
  have hl := h.m.lt
  have X : Only (v.ownBlock.toList) wr w' := Only.of_grown hg (fun k hk => by simp [hk])
  have hn : ∀ k, v.ownBlock ≠ some k → k ∉ v.ownBlock.toList := fun k h1 h2 => by simp at h2; exact h1 h2
  refine ⟨h.m.stay X (hn _ (fun e => (h.ap _ e).2.1 rfl)) (hn _ (fun e => (h.ap _ e).2.2 rfl)), hr, fun q hq => ?_, hw, below_only h.b X (fun q hq => (h.ap q (by simpa using hq)).1)⟩
  rcases ho with e | e
  · exact h.ap q (by rw [← e]; exact hq)
  · rw [e] at hq
    cases hq
    exact ⟨h.b.size, by omega, by omega⟩
theorem Ga7.store {w0 wr w' : World} {mg mh : Nat} {s s' : MSt} {v : Value} {xs : List Nat} (h : Ga7 w0 wr mg mh s v xs) (m : MemAt w' mg mh s') (x : Else mg mh wr w') (hg : w0.heap.size ≤ mg) (hh : w0.heap.size ≤ mh) : Ga7 w0 w' mg mh s' v xs :=
  ⟨m, h.r.stay (l := [mg, mh]) (Only.of_else x (by simp) (by simp)) (fun q hq hm => by
    have hm' : q = mg ∨ q = mh := by simpa using hm
    rcases hm' with e | e
    · exact (h.ap q hq).2.1 e
    · exact (h.ap q hq).2.2 e), h.ap, h.aw, below_else h.b hg hh x⟩
theorem Ga7.read {w0 wr : World} {mg mh : Nat} {s : MSt} {xs : List Nat} {aw : Option Addr} {k cw : Nat} (h : Ga7 w0 wr mg mh s (.slice aw k cw) xs) (hk : xs.length = k) : Row64 wr aw k (fun j => xs.getD j 0) := by
  obtain ⟨a', c', e, hr⟩ := h.r.row h.aw
  rw [hk] at e hr
  cases e
  exact hr
theorem new300 (w : World) : Calls Tryd.prog 11 #[.int .i64 300] w fun e w' => ∃ g h, e = .returned (.pointer (some ⟨g, 0, none⟩)) ∧ MemAt w' g h (MSt.fresh 300) ∧ w.heap.size ≤ g ∧ w.heap.size ≤ h ∧ Below w.heap.size w w' := new_nat 300 300 w (.inr (.inl ⟨rfl, by omega⟩))
/-- Is the tag among those that were seen? One word more. -/
theorem held_step {W K t : Nat} {f : Nat → Nat} {q : Nat} (hW : W < 256) (hK : K < 256) (ht : t < 4294967296) : decide ((t : Int) ∈ seen (W : Int) (K : Int) f (q + 1)) = (decide ((t : Int) ∈ seen (W : Int) (K : Int) f q) || (((f q : Nat) : Int) == ((ofR W K t : Nat) : Int))) := by
  rw [Bool.eq_iff_iff]
  have h1 : (t : Int) ∈ seen (W : Int) (K : Int) f (q + 1) ↔ (hit W K (f q) ∧ (toZ (f q) : Int) = t) ∨ (t : Int) ∈ seen (W : Int) (K : Int) f q := seeS_mem
  have h2 := ref_eq (x := f q) hW hK ht
  simp only [decide_eq_true_eq, Bool.or_eq_true, beq_iff_eq, h1, ← h2]
  constructor
  · rintro (h | h)
    · exact .inr (by omega)
    · exact .inl h
  · rintro (h | h)
    · exact .inr h
    · exact .inl (by omega)

set_option maxRecDepth 20000 in
set_option maxHeartbeats 2000000 in
theorem scans_few (n1 cap1 n2 cap2 W K A N : Nat) (ad ad2 : Option Addr) (X Y Z : Nat → Int) (f2 : Nat → Nat) (w : World) (h1 : n1 ≤ 100) (h2 : n2 ≤ 100) (hW : W < 256) (hK : K < 256) (hA : A < 256) (hN : N < 256) (hr0 : RowR w ad n1 X Y Z) (hr20 : Row64 w ad2 n2 f2) (hnil : Hid (ad2 = none → n2 = 0 ∧ cap2 = 0)) (hR0 : RefAt w) :
    Calls Tryd.prog 4 #[.agg #[.slice ad n1 cap1, .slice ad2 n2 cap2, .int .u8 W, .int .u8 K, .int .u8 A, .int .u8 N]] w fun e w' => e = .returned (.bool true) ∧ Below w.heap.size w w' := by
  have l1 : (n1 : Int) ≤ 100 := by omega
  have l2 : (n2 : Int) ≤ 100 := by omega
  obtain ⟨n, hn⟩ : ∃ q : Nat, min (N : Int) (300 - (A : Int)) = q := ⟨min N (300 - A), by omega⟩
  have hn2 : n ≤ 255 := by omega
  have HNA : Hid (A + n ≤ 300) := by show _ ≤ _; omega
  have bx := box1 w (.cells #[.slice ad n1 cap1, .slice ad2 n2 cap2, .int .u8 W, .int .u8 K, .int .u8 A, .int .u8 N] 29)
  have hr := Lib.hid (hr0.next bx)
  have hr2 := Lib.hid (hr20.next bx)
  have hR := Lib.hid (hR0.next bx)
  have HB0 := Lib.hid fun wx (hb : Below (w.alloc (.cells #[.slice ad n1 cap1, .slice ad2 n2 cap2, .int .u8 W, .int .u8 K, .int .u8 A, .int .u8 N] 29)).heap.size (w.alloc (.cells #[.slice ad n1 cap1, .slice ad2 n2 cap2, .int .u8 W, .int .u8 K, .int .u8 A, .int .u8 N] 29)) wx) => below_two bx hb
  have CS := Lib.hid (Cs7.box w (.slice ad n1 cap1) (.slice ad2 n2 cap2) W K A N 29)
  clear hr0 hr20 hR0 bx
  go_enter Tryd.func4, Tryd.ntmps4
  go_wp2_with fail
  generalize w.alloc (.cells #[.slice ad n1 cap1, .slice ad2 n2 cap2, .int .u8 W, .int .u8 K, .int .u8 A, .int .u8 N] 29) = wa at *
  generalize hcb : w.heap.size = cb at *
  refine (speaks7 _ hR).mono ?_
  rintro e w1 ⟨rfl, hb⟩
  have B1 := Lib.hid hb
  clear hb
  obtain ⟨c0, c1, c2, c3, c4, c5⟩ := CS.out.next B1.out
  go_wp2_with fail
  refine (new300 _).mono ?_
  rintro e w2 ⟨mg, mh, rfl, m2, hg, hh, hb⟩
  have B2 := Lib.hid (below_two B1.out hb)
  have hg' : wa.heap.size ≤ mg := Nat.le_trans B1.out.size hg
  have hh' : wa.heap.size ≤ mh := Nat.le_trans B1.out.size hh
  have G2 : Hid (Ga7 wa w2 mg mh (MSt.fresh 300) (.slice none 0 0) []) := ⟨m2, WRw.nil _, fun q hq => by (cases hq), fun _ h => by (cases h), B2.out⟩
  clear hb hg hh B1 m2 c0 c1 c2 c3 c4 c5
  obtain ⟨c0, c1, c2, c3, c4, c5⟩ := CS.out.next B2.out
  go_wp2_with fail
  clear c0 c1 c2 c3 c4 c5
  go_loopw [4, 33] (fun vw u wr => ∃ (k cw : Nat) (aw : Option Addr) (xs : List Nat), vw = .slice aw k cw ∧ k ≤ n1 ∧ u = .int .i64 k ∧ xs.length = k ∧ Ga7 wa wr mg mh (MSt.fresh 300) (.slice aw k cw) xs) (fun _ u _ => n1 - (intOf u).toNat)
  case atStart => exact ⟨0, 0, none, [], rfl, Nat.zero_le _, rfl, rfl, G2.out⟩
  case round =>
    obtain ⟨k, cw, aw, xs, rfl, hk, rfl, hxl, hG⟩ := hrel
    have GR := Lib.hid hG
    have HXL := Lib.hid hxl
    clear hG hxl G2
    by_cases hl : k < n1
    · obtain ⟨b, off, rfl, e0, e1, e2⟩ := (hr.out.next GR.out.b).at hl
      have l3 : (k : Int) < (n1 : Int) := by omega
      have OF := Lib.hid fun w1 r1 => of_three (X k) (Y k) (Z k) w1 r1
      have XW : Hid (ofR (X k) (Y k) (Z k) < 18446744073709551616) := ofR_lt _ _ _
      generalize ofR (X k) (Y k) (Z k) = x at *
      generalize X k = xk at *
      generalize Y k = yk at *
      generalize Z k = zk at *
      have F3 := Rf.box wr xk yk zk 33
      have G3 := Lib.hid (GR.out.next (box1 wr (.cells #[.int .i64 xk, .int .i64 yk, .int .i64 zk] 33)))
      go_wp2_with fail
      generalize wr.alloc (.cells #[.int .i64 xk, .int .i64 yk, .int .i64 zk] 33) = w3 at *
      refine (OF.out _ (hR.out.next G3.out.b)).mono ?_
      rintro e w4 ⟨rfl, hb⟩
      have G4 := Lib.hid (G3.out.next hb)
      clear hb G3 F3 e0 e1 e2 GR
      have V5 := Lib.hid (heap_new w4 (.cells #[.int .u64 (x : Int)] 34))
      have G5 := Lib.hid (G4.out.next (box1 w4 (.cells #[.int .u64 (x : Int)] 34)))
      obtain ⟨v', w6, hrun, hrow, hgr, hob⟩ := app_one G5.out.r V5.out (by rw [HXL.out]; omega) 27
      obtain ⟨a6, c6, hv6⟩ := hrow.form
      rw [List.length_append, HXL.out] at hv6
      have hv6' : v' = .slice a6 (k + 1) c6 := hv6
      subst hv6'
      have G6 := Lib.hid (G5.out.grow hrow hgr hob (G5.out.aw.snoc XW.out))
      clear hv6 hrow hgr hob V5 G5 G4
      go_wp2_with (at_builtin; refine wpList_app_run rfl (.tmp 37) (.tmp 40) 27 27 rfl (.slice aw k cw) (.slice (some ⟨w4.heap.size, 0, none⟩) 1 1) (by rfl) (by rfl) hrun ?_)
      go_wp2_with fail
      go_roundw
      case rel => exact ⟨k + 1, c6, a6, _, by go_num, by omega, by go_num, by rw [List.length_append, HXL.out]; rfl, G6.out⟩
      case measure => simp [intOf]; omega
    · obtain rfl : k = n1 := by omega
      obtain ⟨c0, c1, c2, c3, c4, c5⟩ := CS.out.next GR.out.b
      obtain ⟨v', w6, hrun, hrow, hgr, hob⟩ := app_many GR.out.r (hr2.out.next GR.out.b) hnil.out (by rw [HXL.out]; omega) 27
      obtain ⟨a6, c6, hv6⟩ := hrow.form
      rw [List.length_append, HXL.out, listOf_len] at hv6
      subst hv6
      have G6 := Lib.hid (GR.out.grow hrow hgr hob (fun y hy => by
        rcases List.mem_append.1 hy with h | h
        · exact GR.out.aw y h
        · exact listOf_all hr2.out y h))
      have HYL : Hid ((xs ++ listOf f2 n2).length = k + n2) := by show _ = _; rw [List.length_append, HXL.out, listOf_len]
      generalize xs ++ listOf f2 n2 = ys at *
      generalize hT : k + n2 = T at *
      have hT2 : T ≤ 200 := by omega
      have HT := Lib.hid hT
      clear hrow hgr hob HXL hT GR
      go_wp2_with (at_builtin; refine wpList_app_run rfl (.tmp 43) (.tmp 45) 27 27 rfl (.slice aw k cw) (.slice ad2 n2 cap2) (by rfl) (by rfl) hrun ?_)
      clear c0 c1 c2 c3 c4 c5 hrun
      go_wp2_with fail
      go_loopw [49] (fun u wq => ∃ (i : Nat) (kd a : Int), i ≤ T ∧ u = .int .i64 i ∧ Ga7 wa wq mg mh ⟨laidL (fun j => ys.getD j 0) 0 i 300, i, 0, kd, a⟩ (.slice a6 T c6) ys) (fun u _ => T - (intOf u).toNat)
      case atStart => exact ⟨0, 0, 0, Nat.zero_le _, rfl, by rw [laidL_zero]; exact G6.out⟩
      case round =>
        obtain ⟨i, kd, a, hi, rfl, hG⟩ := hrel
        have GQ := Lib.hid hG
        clear hG G6
        by_cases hl2 : i < T
        · obtain ⟨b2, off2, rfl, hcell⟩ := (GQ.out.read HYL.out).at hl2
          have l3 : (i : Int) < (T : Int) := by omega
          have LS := Lib.hid (laidL_step (fun j => ys.getD j 0) 0 i 300)
          rw [Nat.zero_add] at LS
          have ST := Lib.hid (mstore (x := ys.getD i 0) GQ.out.m (show i < (laidL (fun j => ys.getD j 0) 0 i 300).length by rw [laidL_len]; omega) (by omega))
          have LS' : Hid ((laidL (fun j => ys.getD j 0) 0 i 300).set i (ys.getD i 0) = laidL (fun j => ys.getD j 0) 0 (i + 1) 300) := LS.out
          rw [LS'.out] at ST
          generalize ys.getD i 0 = x at *
          go_wp2_with fail
          refine ST.out.mono ?_
          rintro e w7 ⟨rfl, m7, hx⟩
          have G7 := Lib.hid (GQ.out.store m7 hx hg' hh')
          clear m7 hx ST GQ
          go_wp2_with fail
          go_roundw
          case rel => exact ⟨i + 1, 2, i, by omega, by go_num, G7.out⟩
          case measure => simp [intOf]; omega
        · obtain rfl : i = T := by omega
          have AWY : Hid (∀ j, ys.getD j 0 < 18446744073709551616) := fun j => GQ.out.aw.get j
          have AW := Lib.hid (laidL_all AWY.out 0 i 300)
          have AL := Lib.hid (laidL_len (fun j => ys.getD j 0) 0 i 300)
          have MQ := Lib.hid GQ.out.m
          have BQ := Lib.hid GQ.out.b
          generalize laidL (fun j => ys.getD j 0) 0 i 300 = ms at *
          clear GQ
          obtain ⟨c0, c1, c2, c3, c4, c5⟩ := CS.out.next BQ.out
          go_upto_region 18 with fail
          go_cut [9, 10] (fun v9 v10 wx => v9 = .int .i64 n ∧ v10 = .int .i64 i ∧ Below wr.heap.size wr wx)
          case first =>
            by_cases hc : (N : Int) ≤ 300 - (A : Int)
            · have hnN : (n : Int) = (N : Int) := by omega
              have k0 := cell_regrown c4
              have k1 := cell_regrown c5
              have cA := fun d os => Calls.regrown_of (calls_still (ops_any mg mh _ (grow (redrawn wr d) os) (MQ.out.next (below_regrown wr d os))))
              refine wp_region_quiet_below (by kernel_rfl) (by kernel_rfl) ?_
              repeat (go_big_quiet_step (first | exact cA _ _))
              refine wpQuiet_nil ?_
              intro _ hwq
              obtain ⟨⟨dq, osq⟩, hwq2⟩ := hwq
              subst hwq2
              have HQ := Lib.hid (below_regrown wr dq osq)
              have B9 := Lib.hid HQ.out
              generalize Sort.grow (redrawn wr dq) osq = w9 at *
              clear HQ k0 k1 cA
              go_wp2_with fail
              go_meet
              case rel => exact ⟨by rw [hnN], rfl, B9.out⟩
            · have hc' : 300 - (A : Int) < (N : Int) := by omega
              have hnN : (n : Int) = 300 - (A : Int) := by omega
              have k0 := cell_regrown c4
              have k1 := cell_regrown c5
              have cA := fun d os => Calls.regrown_of (calls_still (ops_any mg mh _ (grow (redrawn wr d) os) (MQ.out.next (below_regrown wr d os))))
              refine wp_region_quiet_below (by kernel_rfl) (by kernel_rfl) ?_
              repeat (go_big_quiet_step (first | exact cA _ _))
              refine wpQuiet_nil ?_
              intro _ hwq
              obtain ⟨⟨dq, osq⟩, hwq2⟩ := hwq
              subst hwq2
              have HQ := Lib.hid (below_regrown wr dq osq)
              have B9 := Lib.hid HQ.out
              generalize Sort.grow (redrawn wr dq) osq = w9 at *
              clear HQ k0 k1 cA
              go_wp2_with fail
              go_meet
              case rel => exact ⟨by rw [hnN], rfl, B9.out⟩
          case rest =>
            obtain ⟨rfl, rfl, hb⟩ := hcut
            have B5 := Lib.hid (below_two BQ.out hb)
            have M5 := Lib.hid (MQ.out.next hb)
            clear hb c0 c1 c2 c3 c4 c5 BQ MQ
            obtain ⟨c0, c1, c2, c3, c4, c5⟩ := CS.out.next B5.out
            have OK : Hid (∀ wx, Below wa.heap.size wa wx → Ok7 wa wx mg mh A n ms (fun j => ms.getD (A + j) 0)) := fun wx hb => ⟨by omega, by rw [AL.out]; exact HNA.out, by rw [AL.out]; omega, fun _ _ => rfl, AW.out, hR.out, hb, hg', hh'⟩
            generalize hff : (fun j => ms.getD (A + j) 0) = f at *
            have HFF := Lib.hid hff
            clear hff
            go_wp2_with fail
            refine (sc_new (A := A) (n := n) (W := W) (K := K) f M5.out (by omega)).mono ?_
            rintro e w6 ⟨ga, mba, rfl, h6, a1, a2, a3, a4, a5, hb⟩
            have S6 := Lib.hid h6
            have B6 := Lib.hid (below_two B5.out hb)
            have q1 := B5.out.size
            have LA : Hid (∀ q ∈ [ga, mg, mh, mba], wa.heap.size ≤ q) := fun q hq => by simp at hq; omega
            clear h6 hb a1 a2 a3 a4 a5 q1 M5 B5 c0 c1 c2 c3 c4 c5
            go_wp2_with fail
            go_loopw [82] (fun u wq => ∃ (q : Nat) (kd a : Int), q ≤ n ∧ u = .int .i64 q ∧ Sc wq ga mba mg mh A n q W K ms (i + q) kd a f ∧ Below wa.heap.size wa wq) (fun u _ => n - (intOf u).toNat)
            case atStart => exact ⟨0, _, _, Nat.zero_le _, rfl, S6.out, B6.out⟩
            case round =>
              obtain ⟨q, kd, a, hq, rfl, hS, hB⟩ := hrel
              have SQ := Lib.hid hS
              have BQ := Lib.hid hB
              clear hS hB S6 B6
              by_cases hl3 : q < n
              · have l3 : (q : Int) < (n : Int) := by omega
                go_wp2_with fail
                refine (sc_step SQ hl3 (by omega) (OK.out _ BQ.out)).mono ?_
                rintro e w7 ⟨he, h7, o7⟩
                have S7 : Hid (Sc w7 ga mba mg mh A n (q + 1) W K ms (i + (q + 1)) 1 ((A + q : Nat) : Int) f) := h7
                have M7 := Lib.hid h7.mem
                have B7 := Lib.hid (below_only BQ.out o7 LA.out)
                clear h7 o7 SQ BQ
                have NE : Hid (((i + q + 1 : Nat) : Int) = (i : Int) + (q : Int) + 1) := by show _ = _; omega
                have OP := Lib.hid (ops_any mg mh _ _ M7.out)
                by_cases hkn : q + 1 = n
                · have nE : ((q : Int) == (n : Int) - 1) = true := by simp; omega
                  rw [decide_eq_true hkn] at he
                  subst he
                  go_wp2_with fail
                  refine OP.out.mono ?_
                  rintro e w' ⟨rfl, rfl⟩
                  go_wp2_with fail
                  go_roundw
                  case rel => exact ⟨q + 1, _, _, by omega, by go_num, S7.out, B7.out⟩
                  case measure => simp [intOf]; omega
                · have nE : ((q : Int) == (n : Int) - 1) = false := by simp; omega
                  rw [decide_eq_false hkn] at he
                  subst he
                  go_wp2_with fail
                  refine OP.out.mono ?_
                  rintro e w' ⟨rfl, rfl⟩
                  go_wp2_with fail
                  go_roundw
                  case rel => exact ⟨q + 1, _, _, by omega, by go_num, S7.out, B7.out⟩
                  case measure => simp [intOf]; omega
              · obtain rfl : q = n := by omega
                have RF := Lib.hid (sc_ref SQ.out (by omega))
                have MS := Lib.hid (mex_spec (seen (W : Int) (K : Int) f q))
                have hM : mex (seen (W : Int) (K : Int) f q) ≤ q := Nat.le_trans (mex_le _) (seen_len _ _ _ _)
                generalize mex (seen (W : Int) (K : Int) f q) = M at *
                go_wp2_with fail
                refine RF.out.mono ?_
                rintro e w7 ⟨rfl, hb⟩
                have B7 := Lib.hid (below_two (below_two BQ.out hb) (box1 w7 (.cells #[.int .i64 (W : Int), .int .i64 (K : Int), .int .i64 (M : Int)] 33)))
                have S7 := Lib.hid ((SQ.out.next hb).next (box1 w7 (.cells #[.int .i64 (W : Int), .int .i64 (K : Int), .int .i64 (M : Int)] 33)))
                have R7 := Lib.hid (Rf.box w7 (W : Int) (K : Int) (M : Int) 33)
                clear hb RF SQ BQ
                go_wp2_with fail
                generalize w7.alloc (.cells #[.int .i64 (W : Int), .int .i64 (K : Int), .int .i64 (M : Int)] 33) = w8 at *
                generalize w7.heap.size = rb at *
                have M8 := Lib.hid S7.out.mem
                refine (sc_done S7.out rfl).mono ?_
                rintro e w' ⟨rfl, rfl⟩
                go_wp2_with fail
                refine (ops_any mg mh _ _ M8.out).mono ?_
                rintro e w' ⟨rfl, rfl⟩
                go_wp2_with fail
                refine (faults_any mg mh _ _ M8.out).mono ?_
                rintro e w' ⟨rfl, rfl⟩
                obtain ⟨c0, c1, c2, c3, c4, c5⟩ := CS.out.next B7.out
                obtain ⟨r0, r1, r2⟩ := R7.out
                go_wp2_with fail
                clear c0 c1 c2 c3 c4 c5 r0 r1 r2 S7
                go_loopw [14] (fun u wq => ∃ (t : Nat), t ≤ M + 1 ∧ u = .int .i64 t ∧ MemAt wq mg mh ⟨ms, i + q, 0, kd, a⟩ ∧ Rf wq rb (W : Int) (K : Int) (M : Int) ∧ Below wa.heap.size wa wq) (fun u _ => M + 1 - (intOf u).toNat)
                case atStart => exact ⟨0, Nat.zero_le _, rfl, M8.out, R7.out, B7.out⟩
                case round =>
                  obtain ⟨t, ht, rfl, hm, hrf, hB⟩ := hrel
                  have MP := Lib.hid hm
                  have RP := Lib.hid hrf
                  have BP := Lib.hid hB
                  clear hm hrf hB M8 R7 B7
                  obtain ⟨r0, r1, r2⟩ := RP.out
                  by_cases hl4 : t ≤ M
                  · have l4 : (t : Int) ≤ (M : Int) := by omega
                    go_wp2_with fail
                    clear r0 r1 r2
                    go_loopw [15, 143] (fun h u wz => ∃ (z : Nat), z ≤ q ∧ h = .bool (decide ((t : Int) ∈ seen (W : Int) (K : Int) f z)) ∧ u = .int .i64 z ∧ MemAt wz mg mh ⟨ms, i + q, 0, kd, a⟩ ∧ Rf wz rb (W : Int) (K : Int) (M : Int) ∧ Below wa.heap.size wa wz) (fun _ u _ => q - (intOf u).toNat)
                    case atStart => exact ⟨0, Nat.zero_le _, by simp [seen], rfl, MP.out, RP.out, BP.out⟩
                    case round =>
                      obtain ⟨z, hz, rfl, rfl, hm, hrf, hB⟩ := hrel
                      have MZ := Lib.hid hm
                      have RZ := Lib.hid hrf
                      have BZ := Lib.hid hB
                      clear hm hrf hB MP RP BP
                      obtain ⟨r0, r1, r2⟩ := RZ.out
                      obtain ⟨c0, c1, c2, c3, c4, c5⟩ := CS.out.next BZ.out
                      by_cases hl5 : z < q
                      · have l5 : (z : Int) < (q : Int) := by omega
                        have HS := Lib.hid (held_step (t := t) (f := f) (q := z) hW hK (by omega))
                        have PK : Hid (∀ wx, MemAt wx mg mh ⟨ms, i + q, 0, kd, a⟩ → Calls Tryd.prog 19 #[.pointer (some ⟨mg, 0, none⟩), .int .i64 ((A : Int) + (z : Int))] wx fun e w' => e = .returned (.int .u64 (f z : Nat)) ∧ wx = w') := fun wx hm => by
                          have := mpeek (j := A + z) hm (by rw [AL.out]; have := HNA.out; omega)
                          rw [show ((A + z : Nat) : Int) = (A : Int) + (z : Int) by omega] at this
                          rw [← HFF.out]
                          exact this
                        have RX := Lib.hid (hR.out.next BZ.out)
                        have OF := Lib.hid fun w1 (r1 : RefAt w1) => of_three (W : Int) (K : Int) (t : Int) w1 r1
                        generalize f z = x at *
                        generalize ofR (W : Int) (K : Int) (t : Int) = y at *
                        rcases hd : decide ((t : Int) ∈ seen (W : Int) (K : Int) f z) with _ | _
                        · rw [hd] at HS
                          go_wp2_with fail
                          have k0 := cell_regrown c4
                          have k1 := cell_regrown r0
                          have k2 := cell_regrown r1
                          have cA := fun d os => Calls.regrown_of (calls_still (PK.out (grow (redrawn wr d) os) (MZ.out.next (below_regrown wr d os))))
                          have cB := fun d os => Calls.regrown_of (OF.out (grow (redrawn wr d) os) (RX.out.next (below_regrown wr d os)))
                          refine wp_region_quiet_below (by kernel_rfl) (by kernel_rfl) ?_
                          repeat (go_big_quiet_step (first | exact cA _ _ | exact cB _ _))
                          refine wpQuiet_nil ?_
                          intro _ hwq
                          obtain ⟨⟨dq, osq⟩, hwq2⟩ := hwq
                          subst hwq2
                          have HQ := Lib.hid (below_regrown wr dq osq)
                          have B9 := Lib.hid (below_two BZ.out HQ.out)
                          have M9 := Lib.hid (MZ.out.next HQ.out)
                          have R9 := Lib.hid (RZ.out.next HQ.out)
                          generalize Sort.grow (redrawn wr dq) osq = w9 at *
                          clear HQ k0 k1 k2 cA cB
                          go_wp2_with fail
                          go_roundw
                          case rel => exact ⟨z + 1, by omega, by rw [HS.out]; simp, by go_num, M9.out, R9.out, B9.out⟩
                          case measure => simp [intOf]; omega
                        · rw [hd] at HS
                          go_wp2_with fail
                          have k0 := cell_regrown c4
                          have k1 := cell_regrown r0
                          have k2 := cell_regrown r1
                          have cA := fun d os => Calls.regrown_of (calls_still (PK.out (grow (redrawn wr d) os) (MZ.out.next (below_regrown wr d os))))
                          have cB := fun d os => Calls.regrown_of (OF.out (grow (redrawn wr d) os) (RX.out.next (below_regrown wr d os)))
                          refine wp_region_quiet_below (by kernel_rfl) (by kernel_rfl) ?_
                          repeat (go_big_quiet_step (first | exact cA _ _ | exact cB _ _))
                          refine wpQuiet_nil ?_
                          intro _ hwq
                          obtain ⟨⟨dq, osq⟩, hwq2⟩ := hwq
                          subst hwq2
                          have HQ := Lib.hid (below_regrown wr dq osq)
                          have B9 := Lib.hid (below_two BZ.out HQ.out)
                          have M9 := Lib.hid (MZ.out.next HQ.out)
                          have R9 := Lib.hid (RZ.out.next HQ.out)
                          generalize Sort.grow (redrawn wr dq) osq = w9 at *
                          clear HQ k0 k1 k2 cA cB
                          go_wp2_with fail
                          go_roundw
                          case rel => exact ⟨z + 1, by omega, by rw [HS.out]; simp, by go_num, M9.out, R9.out, B9.out⟩
                          case measure => simp [intOf]; omega
                      · obtain rfl : z = q := by omega
                        by_cases hlt : t < M
                        · rw [decide_eq_true (MS.out.1 t hlt)]
                          have l5 : (t : Int) < (M : Int) := by omega
                          go_wp2_with fail
                          go_roundw
                          case rel => exact ⟨t + 1, by omega, by go_num, MZ.out, RZ.out, BZ.out⟩
                          case measure => simp [intOf]; omega
                        · obtain rfl : t = M := by omega
                          rw [decide_eq_false MS.out.2]
                          go_wp2_with fail
                          go_roundw
                          case rel => exact ⟨t + 1, by omega, by go_num, MZ.out, RZ.out, BZ.out⟩
                          case measure => simp [intOf]
                  · obtain rfl : t = M + 1 := by omega
                    have l4 : (((M + 1 : Nat) : Int) ≤ (M : Int)) = False := by simp; omega
                    have l6 : (M : Int) ≤ (q : Int) := by omega
                    go_wp2_with fail
                    go_ret
                    exact ⟨rfl, by rw [hcb]; exact HB0.out _ BP.out⟩
set_option maxRecDepth 20000 in
set_option maxHeartbeats 1000000 in
theorem scans_many (n1 cap1 n2 cap2 W K A N : Nat) (ad ad2 : Option Addr) (w : World) (h1 : ¬ n1 ≤ 100) (h2 : n1 < 9223372036854775808) (hR0 : RefAt w) :
    Calls Tryd.prog 4 #[.agg #[.slice ad n1 cap1, .slice ad2 n2 cap2, .int .u8 W, .int .u8 K, .int .u8 A, .int .u8 N]] w fun e w' => e = .returned (.bool true) ∧ Below w.heap.size w w' := by
  have l1 : (100 : Int) < (n1 : Int) := by omega
  have bx := box1 w (.cells #[.slice ad n1 cap1, .slice ad2 n2 cap2, .int .u8 W, .int .u8 K, .int .u8 A, .int .u8 N] 29)
  have hR := Lib.hid (hR0.next bx)
  have HB0 := Lib.hid fun wx (hb : Below (w.alloc (.cells #[.slice ad n1 cap1, .slice ad2 n2 cap2, .int .u8 W, .int .u8 K, .int .u8 A, .int .u8 N] 29)).heap.size (w.alloc (.cells #[.slice ad n1 cap1, .slice ad2 n2 cap2, .int .u8 W, .int .u8 K, .int .u8 A, .int .u8 N] 29)) wx) => below_two bx hb
  have CS := Lib.hid (Cs7.box w (.slice ad n1 cap1) (.slice ad2 n2 cap2) W K A N 29)
  clear hR0 bx
  go_enter Tryd.func4, Tryd.ntmps4
  go_wp2_with fail
  generalize w.alloc (.cells #[.slice ad n1 cap1, .slice ad2 n2 cap2, .int .u8 W, .int .u8 K, .int .u8 A, .int .u8 N] 29) = wa at *
  generalize hcb : w.heap.size = cb at *
  refine (speaks7 _ hR).mono ?_
  rintro e w1 ⟨rfl, hb⟩
  have B1 := Lib.hid hb
  clear hb
  obtain ⟨c0, c1, c2, c3, c4, c5⟩ := CS.out.next B1.out
  go_wp2_with fail
  go_ret
  exact ⟨rfl, by rw [hcb]; exact HB0.out _ B1.out⟩
set_option maxRecDepth 20000 in
set_option maxHeartbeats 1000000 in
theorem scans_many2 (n1 cap1 n2 cap2 W K A N : Nat) (ad ad2 : Option Addr) (w : World) (h0 : n1 ≤ 100) (h1 : ¬ n2 ≤ 100) (h2 : n2 < 9223372036854775808) (hR0 : RefAt w) :
    Calls Tryd.prog 4 #[.agg #[.slice ad n1 cap1, .slice ad2 n2 cap2, .int .u8 W, .int .u8 K, .int .u8 A, .int .u8 N]] w fun e w' => e = .returned (.bool true) ∧ Below w.heap.size w w' := by
  have l0 : (n1 : Int) ≤ 100 := by omega
  have l1 : (100 : Int) < (n2 : Int) := by omega
  have bx := box1 w (.cells #[.slice ad n1 cap1, .slice ad2 n2 cap2, .int .u8 W, .int .u8 K, .int .u8 A, .int .u8 N] 29)
  have hR := Lib.hid (hR0.next bx)
  have HB0 := Lib.hid fun wx (hb : Below (w.alloc (.cells #[.slice ad n1 cap1, .slice ad2 n2 cap2, .int .u8 W, .int .u8 K, .int .u8 A, .int .u8 N] 29)).heap.size (w.alloc (.cells #[.slice ad n1 cap1, .slice ad2 n2 cap2, .int .u8 W, .int .u8 K, .int .u8 A, .int .u8 N] 29)) wx) => below_two bx hb
  have CS := Lib.hid (Cs7.box w (.slice ad n1 cap1) (.slice ad2 n2 cap2) W K A N 29)
  clear hR0 bx
  go_enter Tryd.func4, Tryd.ntmps4
  go_wp2_with fail
  generalize w.alloc (.cells #[.slice ad n1 cap1, .slice ad2 n2 cap2, .int .u8 W, .int .u8 K, .int .u8 A, .int .u8 N] 29) = wa at *
  generalize hcb : w.heap.size = cb at *
  refine (speaks7 _ hR).mono ?_
  rintro e w1 ⟨rfl, hb⟩
  have B1 := Lib.hid hb
  clear hb
  obtain ⟨c0, c1, c2, c3, c4, c5⟩ := CS.out.next B1.out
  go_wp2_with fail
  go_ret
  exact ⟨rfl, by rw [hcb]; exact HB0.out _ B1.out⟩
theorem scans_walk (a : Option Addr) (len cap : Nat) (X Y Z : Nat → Int) (a2 : Option Addr) (len2 cap2 : Nat) (zs : List Int) (W K A N : Nat) (w : World) (hz : RowR w a len X Y Z) (hz2 : IsRow .u64 w a2 len2 cap2 zs) (hW : W < 256) (hK : K < 256) (hA : A < 256) (hN : N < 256) (hR : RefAt w) :
    Calls Tryd.prog 4 #[.agg #[.slice a len cap, .slice a2 len2 cap2, .int .u8 W, .int .u8 K, .int .u8 A, .int .u8 N]] w fun e w' => e = .returned (.bool true) ∧ Below w.heap.size w w' := by
  obtain ⟨f2, hf2⟩ := hz2.row
  have hl := hz.1
  have hl2 := hz2.len
  unfold maxLen at hl hl2
  by_cases h1 : len ≤ 100
  · by_cases h2 : len2 ≤ 100
    · refine scans_few len cap len2 cap2 W K A N a a2 X Y Z f2 w h1 h2 hW hK hA hN hz hf2 (fun h => ?_) hR
      rcases hz2 with ⟨_, h3, h4, _⟩ | ⟨x, h3, _⟩
      · exact ⟨h3, h4⟩
      · rw [h3] at h; cases h
    · exact scans_many2 len cap len2 cap2 W K A N a a2 w h1 h2 (by omega) hR
  · exact scans_many len cap len2 cap2 W K A N a a2 w h1 (by omega) hR

end Go.Proofs.YtlpaijobcopbnaaDoor
