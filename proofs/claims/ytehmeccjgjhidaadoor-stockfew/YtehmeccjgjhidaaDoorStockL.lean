/-
  Spill: nothing where there aren't too many; else all blocks of the fullest superblock.
-/
import Derived.Test.YtehmeccjgjhidaaDoorStockK
import Derived.Test.YtehmeccjgjhidaaDoorMaskM
import Derived.Lib.QuietBelow
namespace Go.Proofs.YtehmeccjgjhidaaDoor
open Go.RowKit Go.Maps Go.Sort

/-- The set of some blocks' numbers. -/
def maskP (l : List (Int × Int)) : Nat := l.foldl (fun m x => Ma.withN m x.2.toNat) 0
theorem maskP_app (l : List (Int × Int)) (x : Int × Int) : maskP (l ++ [x]) = Ma.withN (maskP l) x.2.toNat := by simp [maskP]
/-- Blocks that may be a superblock's. -/
def Fine64 (l : List (Int × Int)) : Prop := ∀ x ∈ l, 0 ≤ x.2 ∧ x.2 < 64
theorem maskP_lt {l : List (Int × Int)} (h : Fine64 l) : ∀ i, maskP (l.take i) < 18446744073709551616 := by
  intro i
  induction i with
  | zero => simp [maskP]
  | succ i ih =>
    rw [List.take_add_one]
    cases e : l[i]? with
    | none => simpa using ih
    | some x =>
      have := h x (List.mem_of_getElem? e)
      rw [show (some x).toList = [x] from rfl, maskP_app]
      exact Ma.withN_lt ih (by omega)
theorem maskP_bit (l : List (Int × Int)) (j : Nat) : (maskP l).testBit j = decide (∃ x ∈ l, x.2.toNat = j) := by
  have key : ∀ (l : List (Int × Int)) (m : Nat), (l.foldl (fun m x => Ma.withN m x.2.toNat) m).testBit j = (m.testBit j || decide (∃ x ∈ l, x.2.toNat = j)) := by
    intro l
    induction l with
    | nil => intro m; simp
    | cons x l ih =>
      intro m
      rw [List.foldl_cons, ih, Ma.testBit_withN]
      rw [Bool.eq_iff_iff]
      simp only [Bool.or_eq_true, decide_eq_true_eq, List.mem_cons]
      constructor
      · rintro ((h1 | h1) | ⟨y, hy, e⟩)
        · exact .inl h1
        · exact .inr ⟨x, .inl rfl, h1⟩
        · exact .inr ⟨y, .inr hy, e⟩
      · rintro (h1 | ⟨y, hy | hy, e⟩)
        · exact .inl (.inl h1)
        · subst hy; exact .inl (.inr e)
        · exact .inr ⟨y, hy, e⟩
  have := key l 0
  simpa [maskP] using this
theorem Stk.inbox {w w' : World} {sb clb pb : Nat} {W S B T : Int} {len : Nat} {f : Nat → Int} {n : Nat} {P : Nat → List (Int × Int)} {L : Nat → Value} {M : Nat → Nat} {N : Nat} {s : Int} (h : Stk w sb clb pb W S B T len f n P L M) (hN : In1 w N s) (hc : N ≠ clb) (x : Only [N] w w') : Stk w' sb clb pb W S B T len f n P L M := by
  have s1 : sb ≠ N := fun e => by have := h.box; rw [e] at this; have := this.symm.trans hN; simp at this
  have s3 : pb ≠ N := fun e => by have := h.pil; rw [e] at this; have := this.symm.trans hN; simp at this
  refine ⟨x.at h.box (by simpa using s1), x.at h.row (by simpa using hc.symm), x.at h.pil (by simpa using s3), fun k hk => ORow.stay (h.lst k hk) x (fun b hb hm => ?_), fun k hk => (h.set k hk).stay x (fun hm => ?_), h.bd, h.dM, h.dL⟩
  · simp at hm
    obtain ⟨cur, hc⟩ := (h.lst k hk).obj hb
    rw [hm] at hc
    have := hc.symm.trans hN
    simp at this
  · simp at hm
    obtain ⟨es, c, hm2⟩ := (h.set k hk).obj
    rw [hm] at hm2
    have := hm2.symm.trans hN
    simp at this
section
variable (sb clb pb : Nat) (W S B T : Int) (len : Nat) (f : Nat → Int) (n : Nat) (P : Nat → List (Int × Int)) (L : Nat → Value) (M : Nat → Nat)
set_option maxRecDepth 20000 in
set_option maxHeartbeats 4000000 in
theorem spill_no (k : Nat) (w : World) (h : Hid (Stk w sb clb pb W S B T len f n P L M)) (hk : k < len) (b0 : 0 ≤ B) (b1 : B ≤ 1000) (hc : ((P k).length : Int) ≤ 2 * B) :
    Calls Tryd.prog 8 #[.pointer (some ⟨sb, 0, none⟩), .int .i64 (k : Nat)] w fun e w' => e = .returned (.tuple #[.int .i64 0, .int .u64 0, .bool false]) ∧ Below w.heap.size w w' := by
  have X0 : Hid (In1 (w.alloc (.cells #[.int .i64 0] 3)) w.heap.size 0) := heap_new w _
  have K0 := Lib.hid (h.out.next (box1 w (.cells #[.int .i64 0] 3)))
  have B0 := Lib.hid (box1 w (.cells #[.int .i64 0] 3))
  go_enter Tryd.func8, Tryd.ntmps8
  go_wp2_with fail
  generalize w.alloc (.cells #[.int .i64 0] 3) = w0 at *
  generalize hN : w.heap.size = N at *
  refine (pile_in sb clb pb W S B T len f n P L M k w0 K0 hk).mono ?_
  rintro e w1 ⟨rfl, rfl⟩
  obtain ⟨p0, _⟩ := K0.out.cell hk
  obtain ⟨a, c, hv⟩ := ORow.form (K0.out.lst k hk)
  rw [hv] at p0
  clear hv
  obtain ⟨c0, c1, c2, c3, c4, c5⟩ := K0.out.cells
  have wb : IntKind.i64.wrap (2 * B) = 2 * B := by rw [IntKind.wrap_i64]; omega
  generalize (P k).length = q at *
  have x0 := X0.out.c0
  have j0 := cell_regrown p0
  have j1 := cell_regrown c2
  go_upto_region 2 with fail
  by_cases hq : q = 0
  · have g0 : ((q : Int) == 0) = true := by simpa using hq
    refine wp_region_quiet_below (by kernel_rfl) (by kernel_rfl) ?_
    repeat (go_big_quiet_step (fail))
    refine wpQuiet_nil ?_
    intro _ hw'
    obtain ⟨⟨dq, osq⟩, hw''⟩ := hw'
    subst hw''
    have X4 := Lib.hid (X0.out.next (below_regrown w0 dq osq))
    have B4 : Hid (Below N w _) := B0.out.trans ((below_regrown w0 dq osq).mono (by have := B0.out.size; omega))
    clear j0 j1 p0 c0 c1 c2 c3 c4 c5 x0 K0 X0 B0
    generalize Sort.grow (redrawn w0 dq) osq = w4 at *
    have x0 := X4.out.c0
    have ff := frozen_of (j := 0) X4.out
    go_wp2_with fail
    exact bodyPost_ret (v := .tuple #[.int .i64 0, .int .u64 0, .bool false]) (by simp [results, Tryd.results8, go_sem, x0]) rfl ⟨rfl, by rw [hN]; first | exact B4.out | exact B4.out.setCell (p := ⟨N, 0, none⟩) (Nat.le_refl _) _⟩
  · have g0 : ((q : Int) == 0) = false := by simpa using hq
    have g1 : (q : Int) ≤ 2 * B := hc
    have g2 : decide ((q : Int) ≤ 2 * B) = true := by simpa using hc
    refine wp_region_quiet_below (by kernel_rfl) (by kernel_rfl) ?_
    repeat (go_big_quiet_step (fail))
    refine wpQuiet_nil ?_
    intro _ hw'
    obtain ⟨⟨dq, osq⟩, hw''⟩ := hw'
    subst hw''
    have X4 := Lib.hid (X0.out.next (below_regrown w0 dq osq))
    have B4 : Hid (Below N w _) := B0.out.trans ((below_regrown w0 dq osq).mono (by have := B0.out.size; omega))
    clear j0 j1 p0 c0 c1 c2 c3 c4 c5 x0 K0 X0 B0
    generalize Sort.grow (redrawn w0 dq) osq = w4 at *
    have x0 := X4.out.c0
    have ff := frozen_of (j := 0) X4.out
    go_wp2_with fail
    exact bodyPost_ret (v := .tuple #[.int .i64 0, .int .u64 0, .bool false]) (by simp [results, Tryd.results8, go_sem, x0]) rfl ⟨rfl, by rw [hN]; first | exact B4.out | exact B4.out.setCell (p := ⟨N, 0, none⟩) (Nat.le_refl _) _⟩
set_option maxRecDepth 20000 in
set_option maxHeartbeats 8000000 in
theorem spill_yes (k : Nat) (w : World) (h : Hid (Stk w sb clb pb W S B T len f n P L M)) (hk : k < len) (b0 : 0 ≤ B) (b1 : B ≤ 1000) (hc : 2 * B < ((P k).length : Int)) (few : (P k).length ≤ 100000) (nd : Hid ((P k).Nodup)) (fi : Hid (Fine64 (P k))) :
    Calls Tryd.prog 8 #[.pointer (some ⟨sb, 0, none⟩), .int .i64 (k : Nat)] w fun e w' => ∃ s v2, Full (P k) s ∧ e = .returned (.tuple #[.int .i64 s, .int .u64 (maskP (goes s (P k)) : Nat), .bool true]) ∧ Stk w' sb clb pb W S B T len f n (updP P k (stays s (P k))) (updL L k v2) M ∧ Only [pb, M k] w w' ∧ ∀ b, v2.ownBlock = some b → w.heap.size ≤ b := by
  have X0 : Hid (In1 (w.alloc (.cells #[.int .i64 0] 3)) w.heap.size 0) := heap_new w _
  have K0 := Lib.hid (h.out.next (box1 w (.cells #[.int .i64 0] 3)))
  have B0 := Lib.hid (box1 w (.cells #[.int .i64 0] 3))
  go_enter Tryd.func8, Tryd.ntmps8
  go_wp2_with fail
  generalize w.alloc (.cells #[.int .i64 0] 3) = w0 at *
  generalize hN : w.heap.size = N at *
  refine (pile_in sb clb pb W S B T len f n P L M k w0 K0 hk).mono ?_
  rintro e w1 ⟨rfl, rfl⟩
  obtain ⟨p0, _⟩ := K0.out.cell hk
  obtain ⟨a, c, hv⟩ := ORow.form (K0.out.lst k hk)
  rw [hv] at p0
  clear hv
  obtain ⟨c0, c1, c2, c3, c4, c5⟩ := K0.out.cells
  have wb : IntKind.i64.wrap (2 * B) = 2 * B := by rw [IntKind.wrap_i64]; omega
  have hne : Hid (P k ≠ []) := Lib.hid (fun e => by rw [e] at hc; simp at hc; omega)
  have g0 : (((P k).length : Int) == 0) = false := by simp; intro e; exact hne.out e
  have g1 : ¬ ((P k).length : Int) ≤ 2 * B := by omega
  have g2 : decide (((P k).length : Int) ≤ 2 * B) = false := by simpa using g1
  have j0 := cell_regrown p0
  have j1 := cell_regrown c2
  go_upto_region 2 with fail
  refine wp_region_quiet_below (by kernel_rfl) (by kernel_rfl) ?_
  repeat (go_big_quiet_step (fail))
  refine wpQuiet_nil ?_
  intro _ hw'
  obtain ⟨⟨dq, osq⟩, hw''⟩ := hw'
  subst hw''
  have bg := below_regrown w0 dq osq
  have K4 := Lib.hid (K0.out.next bg)
  have X4 := Lib.hid (X0.out.next bg)
  have B4 : Hid (Below N w _) := B0.out.trans (bg.mono (by have := B0.out.size; omega))
  clear j0 j1 p0 c0 c1 c2 c3 c4 c5 K0 X0 B0 bg g0 g1 g2 hc wb
  generalize Sort.grow (redrawn w0 dq) osq = w4 at *
  go_wp2_with fail
  refine (fullest_any sb clb pb W S B T len f n P L M k w4 K4 hk hne.out few).mono ?_
  rintro e w5 ⟨s, rfl, hfull, hb⟩
  have HF := Lib.hid hfull
  have K5 := Lib.hid (K4.out.next hb)
  have X5 := Lib.hid (X4.out.next hb)
  have B5 : Hid (Below N w w5) := B4.out.trans (hb.mono (by have := B4.out.size; omega))
  clear hfull hb K4 X4 B4
  have x0 := X5.out.c0
  have ff := frozen_of (j := 0) X5.out
  go_upto_region 5 with fail
  have NC : Hid (N ≠ clb) := Lib.hid (by have := heap_lt h.out.row; omega)
  have O1 : Hid (Only [N] w5 (w5.setCell ⟨N, 0, none⟩ (.int .i64 s))) := Only.of_set (by simp) _
  have K6 := Lib.hid (K5.out.inbox X5.out NC.out O1.out)
  have X6 : Hid (In1 (w5.setCell ⟨N, 0, none⟩ (.int .i64 s)) N s) := set_of X5.out _
  have O6 : Hid (Only [pb, M k] w (w5.setCell ⟨N, 0, none⟩ (.int .i64 s))) := (Only.of_below (by rw [hN]; exact B5.out)).trans' O1.out (by intro j hj; simp at hj; right; omega)
  clear K5 X5 O1 B5 x0 ff
  generalize w5.setCell ⟨N, 0, none⟩ (.int .i64 s) = w6 at *
  have TO := Lib.hid (takeOut_any sb clb pb W S B T len f n P L M k N s w6 K6 hk X6 nd (by omega))
  go_wp2_with fail
  refine TO.out.mono ?_
  rintro e w7 ⟨v1, v2, rfl, r1, r2, r3, r4, r5, r6⟩
  have R6 : Hid (∀ b, v2.ownBlock = some b → N ≤ b) := Lib.hid (fun b hb => by have := r6 b hb; have := O6.out.size; omega)
  have R1 := Lib.hid r1
  have K7 := Lib.hid r2
  have X7 := Lib.hid r4
  have O7 := Lib.hid (O6.out.trans r3)
  clear r1 r2 r3 r4 r5 r6 TO K6 X6 O6
  obtain ⟨va, vc, hv⟩ := ORow.form R1.out
  have hgl := goes_len s (P k)
  have fg : Hid (Fine64 (goes s (P k))) := Lib.hid (fun x hx => fi.out x (List.mem_filter.1 hx).1)
  generalize hG : goes s (P k) = G at *
  subst hv
  go_wp2_with fail
  go_loopw [5, 39] (fun u5 u39 wr => ∃ i : Nat, i ≤ G.length ∧ u39 = .int .i64 (i : Nat) ∧ u5 = .int .u64 (maskP (G.take i) : Nat) ∧ Hid (Below w7.heap.size w7 wr)) (fun _ u39 _ => G.length - (intOf u39).toNat)
  case atStart => exact ⟨0, by omega, rfl, rfl, Lib.hid (Below.refl _ _)⟩
  case round =>
    obtain ⟨i, hi, rfl, rfl, B8⟩ := hrel
    by_cases hlt : i < G.length
    · have l3 : (i : Int) < (G.length : Int) := by omega
      obtain ⟨x, hx⟩ : ∃ x, G[i]? = some x := ⟨_, List.getElem?_eq_getElem hlt⟩
      obtain ⟨lb, cap, hv2, hcell, _⟩ := ORow.at bkEnc (ORow.next R1.out B8.out) hx
      simp only [Value.slice.injEq, true_and] at hv2
      obtain ⟨rfl, rfl⟩ := hv2
      have y0 : wr.cell? ⟨lb, i * 2, none⟩ = some (.int .i64 x.1) := hcell 0 _ rfl
      have y1 : wr.cell? ⟨lb, i * 2 + 1, none⟩ = some (.int .i64 x.2) := hcell 1 _ rfl
      have h64 := fg.out x (List.mem_of_getElem? hx)
      have ht : Hid (maskP (G.take (i + 1)) = Ma.withN (maskP (G.take i)) x.2.toNat) := Lib.hid (by rw [List.take_add_one, hx, show (some x).toList = [x] from rfl, maskP_app])
      have hm := maskP_lt fg.out i
      clear hx hcell
      have bb := box1 wr (.cells #[.int .i64 x.1, .int .i64 x.2] 32)
      have XB : Hid (Two5 (wr.alloc (.cells #[.int .i64 x.1, .int .i64 x.2] 32)) wr.heap.size 32 x.1 x.2) := Two5.new wr _ _ _
      have B9 : Hid (Below w7.heap.size w7 _) := B8.out.trans (bb.mono B8.out.size)
      clear bb B8
      go_upto_region 8 with fail
      clear y0 y1
      generalize wr.alloc (.cells #[.int .i64 x.1, .int .i64 x.2] 32) = w9 at *
      generalize wr.heap.size = MB at *
      have x1 := two_c1 XB.out
      generalize maskP (G.take i) = mm at *
      have WI := Lib.hid (with_yes mm x.2 w9 hm h64.1 h64.2)
      rw [← ht.out] at WI
      go_wp2_with fail
      refine WI.out.mono ?_
      rintro e wz ⟨rfl, rfl⟩
      clear WI x1 XB
      go_wp2_with fail
      go_roundw
      case rel => exact ⟨i + 1, by omega, by push_cast; rfl, rfl, B9⟩
      case measure => simp [intOf]; omega
    · obtain rfl : i = G.length := by omega
      rw [List.take_length]
      have K8 := Lib.hid (K7.out.next B8.out)
      have X8 := Lib.hid (X7.out.next B8.out)
      have O8 := Lib.hid (O7.out.trans (Only.of_below B8.out))
      clear K7 X7 O7 B8 R1
      have x0 := X8.out.c0
      have ff := frozen_of (j := 0) X8.out
      go_wp2_with fail
      have O9 : Hid (Only [N] wr (wr.setCell ⟨N, 0, none⟩ (.int .i64 s))) := Only.of_set (by simp) _
      have K9 := Lib.hid (K8.out.inbox X8.out NC.out O9.out)
      have X9 : Hid (In1 (wr.setCell ⟨N, 0, none⟩ (.int .i64 s)) N s) := set_of X8.out _
      have x9 := X9.out.c0
      exact bodyPost_ret (v := .tuple #[.int .i64 s, .int .u64 (maskP G : Nat), .bool true]) (by simp [results, Tryd.results8, go_sem, x9]) rfl ⟨s, v2, HF.out, by rw [hG], K9.out, O8.out.trans' O9.out (by intro j hj; simp at hj; right; omega), by rw [hN]; exact R6.out⟩
end
end Go.Proofs.YtehmeccjgjhidaaDoor
