/-
  What Spill is done to a Stock and to the piles beside it; a class that there isn't; whatever is done.
-/
import Derived.Test.YtagacljfpakgnaaDoorStockDo
namespace Go.Proofs.YtagacljfpakgnaaDoor
open Go.RowKit Go.Maps Go.Sort
attribute [local go_sem] Oper.semAt_some

theorem best_ex (l : List (Int × Int)) : ∀ n, ∃ b, Best l (n + 1) b
  | 0 => ⟨0, best_one l⟩
  | n + 1 => by
    obtain ⟨b, h⟩ := best_ex l n
    by_cases g : nOf l b < nOf l ((n + 1 : Nat) : Int)
    · exact ⟨_, best_yes h g⟩
    · exact ⟨b, best_no h g⟩
theorem full_ex {l : List (Int × Int)} {n : Nat} (hne : l ≠ []) (n0 : 1 ≤ n) (n1 : n ≤ 1000) (hl : ∀ x ∈ l, 0 ≤ x.1 ∧ x.1 < (n : Int)) : ∃ s, Full l s := by
  obtain ⟨b, h⟩ := best_ex l (n - 1)
  rw [show n - 1 + 1 = n from by omega] at h
  obtain ⟨x, hx⟩ := List.exists_mem_of_ne_nil l hne
  have px : 0 < nOf l x.1 := List.length_pos_iff_exists_mem.2 ⟨x, List.mem_filter.2 ⟨hx, by simp⟩⟩
  have hq := h.2 x.1 (hl x hx).1 (hl x hx).2
  have hb : (Lit.int .i64 b).wf = true := WalkArith.wf_i64 (by rcases h.1.2 with e3 | e3 <;> have := h.1.1 <;> omega)
  refine ⟨b, hb, by omega, fun i _ => ?_⟩
  by_cases hi : 0 ≤ i ∧ i < (n : Int)
  · exact h.2 i hi.1 hi.2
  · have : nOf l i = 0 := by
      apply Nat.eq_zero_of_not_pos
      intro hp
      obtain ⟨y, hy⟩ := List.length_pos_iff_exists_mem.1 hp
      obtain ⟨h1, h2⟩ := List.mem_filter.1 hy
      have e : y.1 = i := by simpa using h2
      have := hl y h1
      rw [e] at this
      exact hi this
    exact ⟨by omega, fun e => by omega⟩
section
variable (W S B T : Int) (ad : Option Addr) (len cap : Nat) (f : Nat → Int) (sb clb pb qb n : Nat) (P : Nat → List (Int × Int)) (L : Nat → Value) (M : Nat → Nat) (Q : Nat → Value) (A : Nat → Prop)
set_option maxRecDepth 20000 in
set_option maxHeartbeats 8000000 in
theorem do_spill_no (k : Nat) (K s i : Int) (m : Nat) (w : World) (h : Hid (Pr w A sb clb pb qb W S B T len f n P P L M Q)) (b0 : 0 ≤ B) (b1 : B ≤ 1000) (hk : k < len) (hK : K = 3) (hc : ((P k).length : Int) ≤ 2 * B) :
    Calls Tryd.prog 11 #[.agg #[.int .i64 W, .int .i64 S, .int .i64 B, .int .i64 T, .slice ad len cap], .pointer (some ⟨sb, 0, none⟩), .slice (some ⟨qb, 0, none⟩) len len, .agg #[.int .i64 K, .int .i64 (k : Nat), .int .i64 s, .int .i64 i, .int .u64 (m : Nat)]] w fun e w' => e = .returned (.bool true) ∧ DoR w A sb clb pb qb W S B T len f n P M k (P k) w' := by
  subst hK
  have hb1 := below_alloc w (.cells #[.int .i64 W, .int .i64 S, .int .i64 B, .int .i64 T, .slice ad len cap] 24)
  have hb2 := below_alloc (w.alloc (.cells #[.int .i64 W, .int .i64 S, .int .i64 B, .int .i64 T, .slice ad len cap] 24)) (.cells #[.int .i64 3, .int .i64 (k : Nat), .int .i64 s, .int .i64 i, .int .u64 (m : Nat)] 35)
  have hb := below_after hb1 hb2
  have X0 := Lib.hid (Bxs.two w W S B T (.slice ad len cap) 3 (k : Nat) s i m)
  have H0 := Lib.hid (h.out.start.next hb)
  have K0 : Hid (Kp A w.heap.size w _) := Kp.of_below hb (Nat.le_refl _)
  have B0 := Lib.hid hb
  clear hb1 hb2 hb
  have lk : (k : Int) < (len : Int) := by omega
  have LO : Hid (∀ b, (L k).ownBlock = some b → b < w.heap.size) := Lib.hid (fun b hb => (h.out.st.lst k hk).lt' hb)
  have LP : Hid (pb < w.heap.size ∧ M k < w.heap.size ∧ qb < w.heap.size) := Lib.hid ⟨heap_lt h.out.st.pil, (h.out.st.set k hk).lt, heap_lt h.out.pil⟩
  go_enter Tryd.func11, Tryd.ntmps11
  go_wp2_with fail
  generalize (w.alloc (.cells #[.int .i64 W, .int .i64 S, .int .i64 B, .int .i64 T, .slice ad len cap] 24)).alloc (.cells #[.int .i64 3, .int .i64 (k : Nat), .int .i64 s, .int .i64 i, .int .u64 (m : Nat)] 35) = w0 at *
  obtain ⟨x0, x1, x2, x3, x4⟩ := X0.out.act
  have g0 : ((3 : Int) == 0) = false := rfl
  have g1 : ((3 : Int) == 1) = false := rfl
  have g2 : ((3 : Int) == 2) = false := rfl
  have g3 : ((3 : Int) == 3) = true := rfl
  obtain ⟨qa, qc, hq⟩ := ORow.form (H0.out.rows k hk)
  have q0 := H0.out.cell hk
  have Q0 := Lib.hid (H0.out.rows k hk)
  rw [hq] at q0 Q0
  have HQ := Lib.hid hq
  clear hq
  obtain ⟨c0, c1, c2, c3, c4⟩ := cfg_cells X0.out.c
  have j0 := cell_regrown q0
  have j1 := cell_regrown c0
  have j2 := cell_regrown c1
  have j3 := cell_regrown c2
  have j4 := cell_regrown c3
  have j5 := cell_regrown c4
  have a1 := fun d os => Calls.regrown_of (rspill_no W S B T ad len cap _ (P k) (grow (redrawn w0 d) os) (Lib.hid (ORow.next Q0.out (below_regrown w0 d os))) b0 b1 hc)
  go_upto_region 24 with fail
  refine wp_region_quiet_below (by kernel_rfl) (by kernel_rfl) ?_
  repeat (go_big_quiet_step (first | exact a1 _ _))
  refine wpQuiet_nil ?_
  intro _ hw'
  obtain ⟨⟨dq, osq⟩, hw''⟩ := hw'
  subst hw''
  have bg := below_regrown w0 dq osq
  have H1 := Lib.hid (H0.out.next bg)
  have K1 := Lib.hid (K0.out.trans (Kp.of_below bg K0.out.size))
  have X1 := Lib.hid (X0.out.next bg)
  have Q1 := Lib.hid (ORow.next Q0.out bg)
  clear bg a1 j0 j1 j2 j3 j4 j5 q0 c0 c1 c2 c3 c4 Q0 H0 K0 X0 x0 x1 x2 x3 x4
  generalize Sort.grow (redrawn w0 dq) osq = z1 at *
  have SP := Lib.hid (spill_no sb clb pb W S B T len f n P L M k z1 (Lib.hid H1.out.st) hk b0 b1 hc)
  go_wp2_with fail
  refine SP.out.mono ?_
  rintro e z2 ⟨rfl, hb⟩
  have H2 := Lib.hid (H1.out.next hb)
  have K2 := Lib.hid (K1.out.trans (Kp.of_below hb K1.out.size))
  have X2 := Lib.hid (X1.out.next hb)
  have Q2 := Lib.hid (ORow.next Q1.out hb)
  clear hb SP Q1 H1 K1 X1
  have q0 := H2.out.cell hk
  have ff := frozen_of (j := k) H2.out.pil
  have PT := H2.out.put hk Q2.out (fun b e => by rw [← HQ.out] at e; exact ⟨H2.out.a4 k b hk e, fun j hj e2 => H2.out.ap j k b hj hk e2 e⟩)
  have PT1 := PT.1
  rw [updP_same] at PT1
  have H3 := Lib.hid PT1
  have X3 : Hid (Bxs _ w.heap.size W S B T (.slice ad len cap) 3 (k : Nat) s i m) := X2.out.only PT.2 (fun b hb => by simp at hb; subst hb; exact LP.out.2.2)
  have K3 : Hid (Kp A w.heap.size w _) := K2.out.trans (Kp.of_only PT.2 (fun b hb => by simp at hb; subst hb; exact H2.out.a1.2.2.2) K2.out.size)
  clear PT PT1
  go_upto_region 28 with fail
  clear q0 ff
  generalize z2.setCell ⟨qb, k, none⟩ (.slice qa (P k).length qc) = z3 at *
  obtain ⟨qa, qc, hq⟩ := ORow.form (H3.out.rows k hk)
  have q0 := H3.out.cell hk
  rw [hq] at q0
  clear hq
  have j0 := cell_regrown q0
  have a1 := fun d os => Calls.regrown_of ((len_in sb clb pb W S B T len f n P L M k (grow (redrawn z3 d) os) (Lib.hid (H3.out.st.next (below_regrown z3 d os))) hk).mono (by rintro e w' ⟨rfl, rfl⟩; exact ⟨rfl, Below.refl _ _⟩))
  refine wp_region_quiet_below (by kernel_rfl) (by kernel_rfl) ?_
  repeat (go_big_quiet_step (first | exact a1 _ _))
  refine wpQuiet_nil ?_
  intro _ hw'
  obtain ⟨⟨dq, osq⟩, hw''⟩ := hw'
  subst hw''
  have bg := below_regrown z3 dq osq
  have H5 := Lib.hid (H3.out.next bg)
  have K5 := Lib.hid (K3.out.trans (Kp.of_below bg K3.out.size))
  have X5 := Lib.hid (X3.out.next bg)
  clear bg
  generalize Sort.grow (redrawn z3 dq) osq = y5 at *
  clear a1 j0 q0
  go_wp2_with fail
  go_ret
  exact ⟨rfl, n, _, _, by omega, by rw [updP_same]; exact H5.out, K5.out⟩
set_option maxRecDepth 20000 in
set_option maxHeartbeats 8000000 in
theorem do_spill_yes (k : Nat) (K s i : Int) (m : Nat) (w : World) (h : Hid (Pr w A sb clb pb qb W S B T len f n P P L M Q)) (ok : Hid (ClsOk len f)) (s0 : 1 ≤ S) (s1 : S ≤ 1000) (b0 : 0 ≤ B) (b1 : B ≤ 1000) (hn : n ≤ 100000) (hk : k < len) (hK : K = 3) (hc : 2 * B < ((P k).length : Int)) (t : Int) (hF : Hid (Full (P k) t)) :
    Calls Tryd.prog 11 #[.agg #[.int .i64 W, .int .i64 S, .int .i64 B, .int .i64 T, .slice ad len cap], .pointer (some ⟨sb, 0, none⟩), .slice (some ⟨qb, 0, none⟩) len len, .agg #[.int .i64 K, .int .i64 (k : Nat), .int .i64 s, .int .i64 i, .int .u64 (m : Nat)]] w fun e w' => e = .returned (.bool true) ∧ DoR w A sb clb pb qb W S B T len f n P M k (stays t (P k)) w' := by
  subst hK
  have hb1 := below_alloc w (.cells #[.int .i64 W, .int .i64 S, .int .i64 B, .int .i64 T, .slice ad len cap] 24)
  have hb2 := below_alloc (w.alloc (.cells #[.int .i64 W, .int .i64 S, .int .i64 B, .int .i64 T, .slice ad len cap] 24)) (.cells #[.int .i64 3, .int .i64 (k : Nat), .int .i64 s, .int .i64 i, .int .u64 (m : Nat)] 35)
  have hb := below_after hb1 hb2
  have X0 := Lib.hid (Bxs.two w W S B T (.slice ad len cap) 3 (k : Nat) s i m)
  have H0 := Lib.hid (h.out.start.next hb)
  have K0 : Hid (Kp A w.heap.size w _) := Kp.of_below hb (Nat.le_refl _)
  have B0 := Lib.hid hb
  clear hb1 hb2 hb
  have lk : (k : Int) < (len : Int) := by omega
  have LO : Hid (∀ b, (L k).ownBlock = some b → b < w.heap.size) := Lib.hid (fun b hb => (h.out.st.lst k hk).lt' hb)
  have LP : Hid (pb < w.heap.size ∧ M k < w.heap.size ∧ qb < w.heap.size) := Lib.hid ⟨heap_lt h.out.st.pil, (h.out.st.set k hk).lt, heap_lt h.out.pil⟩
  go_enter Tryd.func11, Tryd.ntmps11
  go_wp2_with fail
  generalize (w.alloc (.cells #[.int .i64 W, .int .i64 S, .int .i64 B, .int .i64 T, .slice ad len cap] 24)).alloc (.cells #[.int .i64 3, .int .i64 (k : Nat), .int .i64 s, .int .i64 i, .int .u64 (m : Nat)] 35) = w0 at *
  obtain ⟨x0, x1, x2, x3, x4⟩ := X0.out.act
  have g0 : ((3 : Int) == 0) = false := rfl
  have g1 : ((3 : Int) == 1) = false := rfl
  have g2 : ((3 : Int) == 2) = false := rfl
  have g3 : ((3 : Int) == 3) = true := rfl
  have few : (P k).length ≤ 100000 := by have := (h.out.st.bd k hk).1; omega
  have gd := h.out.good k hk
  have fi := Lib.hid (gd.fine ok.out)
  have nd := Lib.hid gd.1
  have sup := Lib.hid (gd.supers ok.out)
  have gst := Lib.hid (gd.sub (List.filter_sublist : (stays t (P k)).Sublist (P k)))
  clear gd
  go_upto_region 24 with fail
  refine wp_region_noPanic ?_
  refine wp_region_held_drew (S := fun w' => Bxs w' w.heap.size W S B T (.slice ad len cap) 3 (k : Nat) s i m) (by kernel_rfl) (X0.out.next ((Below.refl w0.heap.size w0).drew)) (fun hHeld => ?_)
  have hb := (Below.refl w0.heap.size w0).drew
  have H1 := Lib.hid (H0.out.next hb)
  have K1 := Lib.hid (K0.out.trans (Kp.of_below hb K0.out.size))
  have X1 := Lib.hid (X0.out.next hb)
  clear hb H0 K0 X0 x0 x1 x2 x3 x4
  generalize w0.drew = z0 at *
  obtain ⟨qa, qc, hq⟩ := ORow.form (H1.out.rows k hk)
  have q0 := H1.out.cell hk
  have Q1 := Lib.hid (H1.out.rows k hk)
  rw [hq] at q0 Q1
  clear hq
  refine wpAnyH_take (i := 0) (v := .agg #[.int .i64 W, .int .i64 S, .int .i64 B, .int .i64 T, .slice ad len cap]) rfl (by kernel_rfl) (by kernel_rfl) (by kernel_rfl) (fun _ _ _ h => h) (Or.inl ⟨by rfl, fun w hSw => by have b0 := two_x hSw; obtain ⟨c0, c1, c2, c3, c4, x0, x1, x2, x3, x4⟩ := b0; go_simp⟩) (by assumption) ?_
  change wpAnyH _ _ _ _ _ _ _ (Act.put _ (some 181) _) _
  simp only [Act.put, List.setIfInBounds_toArray, List.set_cons_zero, List.set_cons_succ]
  refine wpAnyH_take (i := 1) (v := .slice (some ⟨qb, 0, none⟩) len len) rfl (by kernel_rfl) (by kernel_rfl) (by kernel_rfl) (fun _ _ _ h => h) (Or.inl ⟨by rfl, fun w hSw => by have b0 := two_x hSw; obtain ⟨c0, c1, c2, c3, c4, x0, x1, x2, x3, x4⟩ := b0; go_simp⟩) (by assumption) ?_
  change wpAnyH _ _ _ _ _ _ _ (Act.put _ (some 182) _) _
  simp only [Act.put, List.setIfInBounds_toArray, List.set_cons_zero, List.set_cons_succ]
  refine wpAnyH_take (i := 2) (v := .int .i64 (k : Nat)) rfl (by kernel_rfl) (by kernel_rfl) (by kernel_rfl) (fun _ _ _ h => h) (Or.inl ⟨by rfl, fun w hSw => by have b0 := two_x hSw; obtain ⟨c0, c1, c2, c3, c4, x0, x1, x2, x3, x4⟩ := b0; go_simp⟩) (by assumption) ?_
  change wpAnyH _ _ _ _ _ _ _ (Act.put _ (some 183) _) _
  simp only [Act.put, List.setIfInBounds_toArray, List.set_cons_zero, List.set_cons_succ]
  refine wpAnyH_take (i := 3) (v := .pointer (some ⟨qb, k, none⟩)) rfl (by kernel_rfl) (by kernel_rfl) (by kernel_rfl) (fun _ _ _ h => h) (Or.inl ⟨by rfl, fun w hSw => by have b0 := two_x hSw; obtain ⟨c0, c1, c2, c3, c4, x0, x1, x2, x3, x4⟩ := b0; go_simp⟩) (by assumption) ?_
  change wpAnyH _ _ _ _ _ _ _ (Act.put _ (some 184) _) _
  simp only [Act.put, List.setIfInBounds_toArray, List.set_cons_zero, List.set_cons_succ]
  refine wpAnyH_ready (rs := [4]) (by kernel_rfl) (by simp) ?_
  refine AllReadyH.cons rfl (fun K hK => ?_) (AllReadyH.nil)
  go_simp
  refine hK.out _ _ (X1.out) (fun hHeld1 => ?_)
  clear hK K
  refine wpAnyH_ready (rs := [5]) (by kernel_rfl) (by simp) ?_
  refine AllReadyH.cons rfl (fun K hK => ?_) (AllReadyH.nil)
  refine step_enter (F := 27) (vals := #[.agg #[.int .i64 W, .int .i64 S, .int .i64 B, .int .i64 T, .slice ad len cap], .slice qa (P k).length qc]) rfl (by kernel_rfl) ?_
  refine (rspill_yes W S B T ad len cap _ (P k) t z0 Q1 b0 b1 s0 s1 hc (by omega) hF fi sup).mono ?_
  rintro e z2 ⟨v', rfl, r1, hb, r3⟩
  obtain ⟨ua, uc, rfl⟩ := ORow.form r1
  have H2 := Lib.hid (H1.out.next hb)
  have K2 := Lib.hid (K1.out.trans (Kp.of_below hb K1.out.size))
  have X2 := Lib.hid (X1.out.next hb)
  have V1 := Lib.hid r1
  have VO : Hid (∀ b, (Value.slice ua (stays t (P k)).length uc).ownBlock = some b → w.heap.size ≤ b) := Lib.hid (fun b e => by have := r3 b e; have := K1.out.size; omega)
  show K (Act.put _ (some 186) _) z2
  refine hK.out _ _ (X2.out) (fun hHeld2 => ?_)
  clear hK K hb r1 r3 Q1 q0
  simp only [Act.put, List.setIfInBounds_toArray, List.set_cons_zero, List.set_cons_succ]
  refine wpAnyH_take (i := 6) (v := .tuple #[(Value.slice ua (stays t (P k)).length uc), .int .i64 t, .int .u64 (maskP (goes t (P k)) : Nat), .bool true]) rfl (by kernel_rfl) (by kernel_rfl) (by kernel_rfl) (fun _ _ _ h => h) (Or.inl ⟨by rfl, fun w hSw => by have b0 := two_x hSw; obtain ⟨c0, c1, c2, c3, c4, x0, x1, x2, x3, x4⟩ := b0; go_simp⟩) (by assumption) ?_
  change wpAnyH _ _ _ _ _ _ _ (Act.put _ (some 180) _) _
  simp only [Act.put, List.setIfInBounds_toArray, List.set_cons_zero, List.set_cons_succ]
  refine wpAnyH_take (i := 7) (v := (Value.slice ua (stays t (P k)).length uc)) rfl (by kernel_rfl) (by kernel_rfl) (by kernel_rfl) (fun _ _ _ h => h) (Or.inl ⟨by rfl, fun w hSw => by have b0 := two_x hSw; obtain ⟨c0, c1, c2, c3, c4, x0, x1, x2, x3, x4⟩ := b0; go_simp⟩) (by assumption) ?_
  change wpAnyH _ _ _ _ _ _ _ (Act.put _ (some 187) _) _
  simp only [Act.put, List.setIfInBounds_toArray, List.set_cons_zero, List.set_cons_succ]
  refine wpAnyH_take (i := 8) (v := .int .i64 t) rfl (by kernel_rfl) (by kernel_rfl) (by kernel_rfl) (fun _ _ _ h => h) (Or.inl ⟨by rfl, fun w hSw => by have b0 := two_x hSw; obtain ⟨c0, c1, c2, c3, c4, x0, x1, x2, x3, x4⟩ := b0; go_simp⟩) (by assumption) ?_
  change wpAnyH _ _ _ _ _ _ _ (Act.put _ (some 188) _) _
  simp only [Act.put, List.setIfInBounds_toArray, List.set_cons_zero, List.set_cons_succ]
  refine wpAnyH_take (i := 9) (v := .int .u64 (maskP (goes t (P k)) : Nat)) rfl (by kernel_rfl) (by kernel_rfl) (by kernel_rfl) (fun _ _ _ h => h) (Or.inl ⟨by rfl, fun w hSw => by have b0 := two_x hSw; obtain ⟨c0, c1, c2, c3, c4, x0, x1, x2, x3, x4⟩ := b0; go_simp⟩) (by assumption) ?_
  change wpAnyH _ _ _ _ _ _ _ (Act.put _ (some 189) _) _
  simp only [Act.put, List.setIfInBounds_toArray, List.set_cons_zero, List.set_cons_succ]
  refine wpAnyH_take (i := 10) (v := .bool true) rfl (by kernel_rfl) (by kernel_rfl) (by kernel_rfl) (fun _ _ _ h => h) (Or.inl ⟨by rfl, fun w hSw => by have b0 := two_x hSw; obtain ⟨c0, c1, c2, c3, c4, x0, x1, x2, x3, x4⟩ := b0; go_simp⟩) (by assumption) ?_
  change wpAnyH _ _ _ _ _ _ _ (Act.put _ (some 190) _) _
  simp only [Act.put, List.setIfInBounds_toArray, List.set_cons_zero, List.set_cons_succ]
  refine wpAnyH_take (i := 11) (v := (Value.slice ua (stays t (P k)).length uc)) rfl (by kernel_rfl) (by kernel_rfl) (by kernel_rfl) (fun _ _ _ h => h) (Or.inl ⟨by rfl, fun w hSw => by have b0 := two_x hSw; obtain ⟨c0, c1, c2, c3, c4, x0, x1, x2, x3, x4⟩ := b0; go_simp⟩) (by assumption) ?_
  change wpAnyH _ _ _ _ _ _ _ (Act.put _ (some 20) _) _
  simp only [Act.put, List.setIfInBounds_toArray, List.set_cons_zero, List.set_cons_succ]
  refine wpAnyH_take (i := 12) (v := .int .i64 t) rfl (by kernel_rfl) (by kernel_rfl) (by kernel_rfl) (fun _ _ _ h => h) (Or.inl ⟨by rfl, fun w hSw => by have b0 := two_x hSw; obtain ⟨c0, c1, c2, c3, c4, x0, x1, x2, x3, x4⟩ := b0; go_simp⟩) (by assumption) ?_
  change wpAnyH _ _ _ _ _ _ _ (Act.put _ (some 21) _) _
  simp only [Act.put, List.setIfInBounds_toArray, List.set_cons_zero, List.set_cons_succ]
  refine wpAnyH_take (i := 13) (v := .int .u64 (maskP (goes t (P k)) : Nat)) rfl (by kernel_rfl) (by kernel_rfl) (by kernel_rfl) (fun _ _ _ h => h) (Or.inl ⟨by rfl, fun w hSw => by have b0 := two_x hSw; obtain ⟨c0, c1, c2, c3, c4, x0, x1, x2, x3, x4⟩ := b0; go_simp⟩) (by assumption) ?_
  change wpAnyH _ _ _ _ _ _ _ (Act.put _ (some 22) _) _
  simp only [Act.put, List.setIfInBounds_toArray, List.set_cons_zero, List.set_cons_succ]
  refine wpAnyH_take (i := 14) (v := .bool true) rfl (by kernel_rfl) (by kernel_rfl) (by kernel_rfl) (fun _ _ _ h => h) (Or.inl ⟨by rfl, fun w hSw => by have b0 := two_x hSw; obtain ⟨c0, c1, c2, c3, c4, x0, x1, x2, x3, x4⟩ := b0; go_simp⟩) (by assumption) ?_
  change wpAnyH _ _ _ _ _ _ _ (Act.put _ (some 23) _) _
  simp only [Act.put, List.setIfInBounds_toArray, List.set_cons_zero, List.set_cons_succ]
  refine ⟨by kernel_rfl, ?_⟩
  refine NoPanic.normal ?_
  have SP := Lib.hid (spill_yes sb clb pb W S B T len f n P L M k z2 (Lib.hid H2.out.st) hk b0 b1 hc few nd fi)
  go_wp2_with fail
  refine SP.out.mono ?_
  rintro e z3 ⟨t', v2, hF2, rfl, r1, r2, r3⟩
  obtain rfl := full_eq hF.out hF2
  have H3 := Lib.hid (H2.out.stk hk r1 (r2.mono (fun b hb => .inl (by simp at hb ⊢; rcases hb with h | h <;> simp [h]))) (fun b e => .inr (r3 b e)) gst.out K2.out.size)
  have K3 := Lib.hid (K2.out.trans (Kp.of_only r2 (fun b hb => H2.out.own hk b (by simp at hb ⊢; rcases hb with h | h <;> simp [h])) K2.out.size))
  have X3 : Hid (Bxs _ w.heap.size W S B T (.slice ad len cap) 3 (k : Nat) s i m) := X2.out.only r2 (fun b hb => by
    simp only [List.mem_cons, List.not_mem_nil, or_false] at hb
    rcases hb with rfl | rfl
    · exact LP.out.1
    · exact LP.out.2.1)
  have V3 : Hid (BkRow z3 _ _) := ORow.stay V1.out r2 (fun b e hm => by
    have := VO.out b e
    have h2 := LP.out
    simp at hm
    omega)
  have VP : Hid (∀ b, (Value.slice ua (stays t (P k)).length uc).ownBlock = some b → ext A w.heap.size z3 b ∧ ∀ j, j < len → (updL L k v2 j).ownBlock ≠ some b) := Lib.hid (fun b e => ⟨.inr ⟨VO.out b e, BkRow.lt' V3.out e⟩, fun j hj e2 => by
    have l1 := BkRow.lt' V1.out e
    unfold updL at e2
    by_cases a : j = k
    · rw [if_pos a] at e2; have := r3 b e2; omega
    · rw [if_neg a] at e2; have := (h.out.st.lst j hj).lt' e2; have := VO.out b e; omega⟩)
  clear r1 r2 r3 SP V1 VO H2 K2 X2
  have q0 := H3.out.cell hk
  have ff := frozen_of (j := k) H3.out.pil
  have PT := H3.out.put hk V3.out VP.out
  have H4 := Lib.hid PT.1
  have X4 : Hid (Bxs _ w.heap.size W S B T (.slice ad len cap) 3 (k : Nat) s i m) := X3.out.only PT.2 (fun b hb => by simp at hb; subst hb; exact LP.out.2.2)
  have K4 : Hid (Kp A w.heap.size w _) := K3.out.trans (Kp.of_only PT.2 (fun b hb => by simp at hb; subst hb; exact H3.out.a1.2.2.2) K3.out.size)
  clear PT V3 VP
  go_upto_region 28 with fail
  clear q0 ff
  generalize z3.setCell ⟨qb, k, none⟩ (Value.slice ua (stays t (P k)).length uc) = z4 at *
  obtain ⟨qa, qc, hq⟩ := ORow.form (H4.out.rows k hk)
  have q0 := H4.out.cell hk
  rw [hq] at q0
  clear hq
  have j0 := cell_regrown q0
  have a1 := fun d os => Calls.regrown_of ((len_in sb clb pb W S B T len f n (updP P k (stays t (P k))) (updL L k v2) M k (grow (redrawn z4 d) os) (Lib.hid (H4.out.st.next (below_regrown z4 d os))) hk).mono (by rintro e w' ⟨rfl, rfl⟩; exact ⟨rfl, Below.refl _ _⟩))
  refine wp_region_quiet_below (by kernel_rfl) (by kernel_rfl) ?_
  repeat (go_big_quiet_step (first | exact a1 _ _))
  refine wpQuiet_nil ?_
  intro _ hw'
  obtain ⟨⟨dq, osq⟩, hw''⟩ := hw'
  subst hw''
  have bg := below_regrown z4 dq osq
  have H5 := Lib.hid (H4.out.next bg)
  have K5 := Lib.hid (K4.out.trans (Kp.of_below bg K4.out.size))
  have X5 := Lib.hid (X4.out.next bg)
  clear bg
  generalize Sort.grow (redrawn z4 dq) osq = y5 at *
  clear a1 j0 q0
  go_wp2_with fail
  go_ret
  exact ⟨rfl, n, _, _, by omega, H5.out, K5.out⟩
set_option maxRecDepth 20000 in
set_option maxHeartbeats 8000000 in
theorem do_out (k : Int) (K s i : Int) (m : Nat) (w : World) (h : Hid (Pr w A sb clb pb qb W S B T len f n P P L M Q)) (hS : Hid (∀ y, Kp A w.heap.size w y → TabAt y ∧ RowI y ad len f)) (ok : Hid (ClsOk len f)) (s0 : 1 ≤ S) (s1 : S ≤ 1000) (b0 : 0 ≤ B) (b1 : B ≤ 1000) (hm : m < 18446744073709551616) (hk : k < 0 ∨ (len : Int) ≤ k) :
    Calls Tryd.prog 11 #[.agg #[.int .i64 W, .int .i64 S, .int .i64 B, .int .i64 T, .slice ad len cap], .pointer (some ⟨sb, 0, none⟩), .slice (some ⟨qb, 0, none⟩) len len, .agg #[.int .i64 K, .int .i64 k, .int .i64 s, .int .i64 i, .int .u64 (m : Nat)]] w fun e w' => e = .returned (.bool true) ∧ Below w.heap.size w w' := by
  by_cases hneg : k < 0
  · have l0 : decide (k < 0) = true := by simpa using hneg
    have hb1 := below_alloc w (.cells #[.int .i64 W, .int .i64 S, .int .i64 B, .int .i64 T, .slice ad len cap] 24)
    have hb2 := below_alloc (w.alloc (.cells #[.int .i64 W, .int .i64 S, .int .i64 B, .int .i64 T, .slice ad len cap] 24)) (.cells #[.int .i64 K, .int .i64 k, .int .i64 s, .int .i64 i, .int .u64 (m : Nat)] 35)
    have hb := below_after hb1 hb2
    have X0 := Lib.hid (Bxs.two w W S B T (.slice ad len cap) K k s i m)
    have H0 := Lib.hid (h.out.start.next hb)
    have K0 : Hid (Kp A w.heap.size w _) := Kp.of_below hb (Nat.le_refl _)
    have B0 := Lib.hid hb
    clear hb1 hb2 hb
    go_enter Tryd.func11, Tryd.ntmps11
    go_wp2_with fail
    generalize (w.alloc (.cells #[.int .i64 W, .int .i64 S, .int .i64 B, .int .i64 T, .slice ad len cap] 24)).alloc (.cells #[.int .i64 K, .int .i64 k, .int .i64 s, .int .i64 i, .int .u64 (m : Nat)] 35) = w0 at *
    obtain ⟨x0, x1, x2, x3, x4⟩ := X0.out.act
    have PO := Lib.hid (fun (y : World) (hb : Below w0.heap.size w0 y) => pop_out sb clb pb W S B T len f n P L M k y (Lib.hid (H0.out.st.next hb)) hk)
    have SP := Lib.hid (fun (y : World) (hb : Below w0.heap.size w0 y) => spill_out sb clb pb W S B T len f n P L M k y (Lib.hid (H0.out.st.next hb)) hk b0 b1)
    have FO := Lib.hid (fun (y : World) (hb : Below w0.heap.size w0 y) => fill_out sb clb pb W S B T len f n P L M k s m y (Lib.hid (H0.out.st.next hb)) (Lib.hid (hS.out y (K0.out.trans (Kp.of_below hb K0.out.size))).1) hk ok (by omega) s1 hm)
    have PU := Lib.hid (fun (y : World) (hb : Below w0.heap.size w0 y) => push_out sb clb pb W S B T len f n P L M k (s, i) y (Lib.hid (H0.out.st.next hb)) hk ok (by omega) s1)
    have LE := Lib.hid (fun (y : World) (hb : Below w0.heap.size w0 y) => len_out sb clb pb W S B T len f n P L M k y (Lib.hid (H0.out.st.next hb)) hk)
    have BO := Lib.hid (fun (y : World) (hb : Below w0.heap.size w0 y) => blocks_out sb clb pb W S B T len f n P L M k y (Lib.hid (H0.out.st.next hb)) hk)
    refine (PO.out _ (Below.refl _ _)).mono ?_
    rintro e z1 ⟨rfl, hb⟩
    have E1 := Lib.hid hb
    have X1 := Lib.hid (X0.out.next hb)
    clear hb
    have hb := box1 z1 (.cells #[.int .i64 0, .int .i64 0] 32)
    have E2 := Lib.hid (E1.out.trans (hb.mono E1.out.size))
    have X2 := Lib.hid (X1.out.next hb)
    clear hb
    obtain ⟨x0, x1, x2, x3, x4⟩ := X2.out.act
    go_wp2_with fail
    generalize z1.alloc (.cells #[.int .i64 0, .int .i64 0] 32) = z2 at *
    refine (SP.out _ E2.out).mono ?_
    rintro e z3 ⟨rfl, hb⟩
    have E3 := Lib.hid (E2.out.trans (hb.mono E2.out.size))
    have X3 := Lib.hid (X2.out.next hb)
    clear hb x0 x1 x2 x3 x4
    obtain ⟨x0, x1, x2, x3, x4⟩ := X3.out.act
    go_wp2_with fail
    refine (FO.out _ E3.out).mono ?_
    rintro e z4 ⟨⟨v, rfl⟩, hb⟩
    have E4 := Lib.hid (E3.out.trans (hb.mono E3.out.size))
    have X4 := Lib.hid (X3.out.next hb)
    clear hb x0 x1 x2 x3 x4
    obtain ⟨x0, x1, x2, x3, x4⟩ := X4.out.act
    go_wp2_with fail
    refine (PU.out _ E4.out).mono ?_
    rintro e z5 ⟨rfl, hb⟩
    have E5 := Lib.hid (E4.out.trans (hb.mono E4.out.size))
    clear hb x0 x1 x2 x3 x4
    go_wp2_with fail
    refine (LE.out _ E5.out).mono ?_
    rintro e z6 ⟨rfl, hb⟩
    have E6 := Lib.hid (E5.out.trans (hb.mono E5.out.size))
    clear hb
    go_wp2_with fail
    refine (BO.out _ E6.out).mono ?_
    rintro e z7 ⟨v', rfl, r1, hb⟩
    obtain ⟨ua, uc, rfl⟩ := ORow.form r1
    have E7 := Lib.hid (E6.out.trans (hb.mono E6.out.size))
    clear hb r1
    go_wp2_with fail
    go_ret
    exact ⟨rfl, B0.out.trans (E7.out.mono B0.out.size)⟩
  · have l0 : decide (k < 0) = false := by simpa using hneg
    have l1 : decide ((len : Int) ≤ k) = true := by simp; omega
    have hb1 := below_alloc w (.cells #[.int .i64 W, .int .i64 S, .int .i64 B, .int .i64 T, .slice ad len cap] 24)
    have hb2 := below_alloc (w.alloc (.cells #[.int .i64 W, .int .i64 S, .int .i64 B, .int .i64 T, .slice ad len cap] 24)) (.cells #[.int .i64 K, .int .i64 k, .int .i64 s, .int .i64 i, .int .u64 (m : Nat)] 35)
    have hb := below_after hb1 hb2
    have X0 := Lib.hid (Bxs.two w W S B T (.slice ad len cap) K k s i m)
    have H0 := Lib.hid (h.out.start.next hb)
    have K0 : Hid (Kp A w.heap.size w _) := Kp.of_below hb (Nat.le_refl _)
    have B0 := Lib.hid hb
    clear hb1 hb2 hb
    go_enter Tryd.func11, Tryd.ntmps11
    go_wp2_with fail
    generalize (w.alloc (.cells #[.int .i64 W, .int .i64 S, .int .i64 B, .int .i64 T, .slice ad len cap] 24)).alloc (.cells #[.int .i64 K, .int .i64 k, .int .i64 s, .int .i64 i, .int .u64 (m : Nat)] 35) = w0 at *
    obtain ⟨x0, x1, x2, x3, x4⟩ := X0.out.act
    have PO := Lib.hid (fun (y : World) (hb : Below w0.heap.size w0 y) => pop_out sb clb pb W S B T len f n P L M k y (Lib.hid (H0.out.st.next hb)) hk)
    have SP := Lib.hid (fun (y : World) (hb : Below w0.heap.size w0 y) => spill_out sb clb pb W S B T len f n P L M k y (Lib.hid (H0.out.st.next hb)) hk b0 b1)
    have FO := Lib.hid (fun (y : World) (hb : Below w0.heap.size w0 y) => fill_out sb clb pb W S B T len f n P L M k s m y (Lib.hid (H0.out.st.next hb)) (Lib.hid (hS.out y (K0.out.trans (Kp.of_below hb K0.out.size))).1) hk ok (by omega) s1 hm)
    have PU := Lib.hid (fun (y : World) (hb : Below w0.heap.size w0 y) => push_out sb clb pb W S B T len f n P L M k (s, i) y (Lib.hid (H0.out.st.next hb)) hk ok (by omega) s1)
    have LE := Lib.hid (fun (y : World) (hb : Below w0.heap.size w0 y) => len_out sb clb pb W S B T len f n P L M k y (Lib.hid (H0.out.st.next hb)) hk)
    have BO := Lib.hid (fun (y : World) (hb : Below w0.heap.size w0 y) => blocks_out sb clb pb W S B T len f n P L M k y (Lib.hid (H0.out.st.next hb)) hk)
    refine (PO.out _ (Below.refl _ _)).mono ?_
    rintro e z1 ⟨rfl, hb⟩
    have E1 := Lib.hid hb
    have X1 := Lib.hid (X0.out.next hb)
    clear hb
    have hb := box1 z1 (.cells #[.int .i64 0, .int .i64 0] 32)
    have E2 := Lib.hid (E1.out.trans (hb.mono E1.out.size))
    have X2 := Lib.hid (X1.out.next hb)
    clear hb
    obtain ⟨x0, x1, x2, x3, x4⟩ := X2.out.act
    go_wp2_with fail
    generalize z1.alloc (.cells #[.int .i64 0, .int .i64 0] 32) = z2 at *
    refine (SP.out _ E2.out).mono ?_
    rintro e z3 ⟨rfl, hb⟩
    have E3 := Lib.hid (E2.out.trans (hb.mono E2.out.size))
    have X3 := Lib.hid (X2.out.next hb)
    clear hb x0 x1 x2 x3 x4
    obtain ⟨x0, x1, x2, x3, x4⟩ := X3.out.act
    go_wp2_with fail
    refine (FO.out _ E3.out).mono ?_
    rintro e z4 ⟨⟨v, rfl⟩, hb⟩
    have E4 := Lib.hid (E3.out.trans (hb.mono E3.out.size))
    have X4 := Lib.hid (X3.out.next hb)
    clear hb x0 x1 x2 x3 x4
    obtain ⟨x0, x1, x2, x3, x4⟩ := X4.out.act
    go_wp2_with fail
    refine (PU.out _ E4.out).mono ?_
    rintro e z5 ⟨rfl, hb⟩
    have E5 := Lib.hid (E4.out.trans (hb.mono E4.out.size))
    clear hb x0 x1 x2 x3 x4
    go_wp2_with fail
    refine (LE.out _ E5.out).mono ?_
    rintro e z6 ⟨rfl, hb⟩
    have E6 := Lib.hid (E5.out.trans (hb.mono E5.out.size))
    clear hb
    go_wp2_with fail
    refine (BO.out _ E6.out).mono ?_
    rintro e z7 ⟨v', rfl, r1, hb⟩
    obtain ⟨ua, uc, rfl⟩ := ORow.form r1
    have E7 := Lib.hid (E6.out.trans (hb.mono E6.out.size))
    clear hb r1
    go_wp2_with fail
    go_ret
    exact ⟨rfl, B0.out.trans (E7.out.mono B0.out.size)⟩
/-- Whatever is done to a class that there is. -/
theorem do_in (k : Nat) (K s i : Int) (m : Nat) (w : World) (h : Hid (Pr w A sb clb pb qb W S B T len f n P P L M Q)) (hS : Hid (∀ y, Kp A w.heap.size w y → TabAt y ∧ RowI y ad len f)) (ok : Hid (ClsOk len f)) (s0 : 1 ≤ S) (s1 : S ≤ 1000) (b0 : 0 ≤ B) (b1 : B ≤ 1000) (hx : Bd (s, i)) (hm : m < 18446744073709551616) (hn : n ≤ 100000) (hk : k < len) :
    Calls Tryd.prog 11 #[.agg #[.int .i64 W, .int .i64 S, .int .i64 B, .int .i64 T, .slice ad len cap], .pointer (some ⟨sb, 0, none⟩), .slice (some ⟨qb, 0, none⟩) len len, .agg #[.int .i64 K, .int .i64 (k : Nat), .int .i64 s, .int .i64 i, .int .u64 (m : Nat)]] w fun e w' => e = .returned (.bool true) ∧ DoR w A sb clb pb qb W S B T len f n P M k (doL S B len f k K s i m (P k)) w' := by
  unfold doL
  by_cases h0 : K = 0
  · rw [if_pos h0]
    exact do_push W S B T ad len cap f sb clb pb qb n P L M Q A k K s i m w h hS ok s0 s1 hx hn hk h0
  rw [if_neg h0]
  by_cases h1 : K = 1
  · rw [if_pos h1]
    rcases List.eq_nil_or_concat (P k) with hP | ⟨l, y, hP⟩
    · have := do_pop_no W S B T ad len cap f sb clb pb qb n P L M Q A k K s i m w h hk h1 hP
      rw [hP] at this ⊢
      exact this
    · rw [List.concat_eq_append] at hP
      have := do_pop_yes W S B T ad len cap f sb clb pb qb n P L M Q A k K s i m w h hn hk h1 l y hP
      rw [hP, List.dropLast_concat]
      exact this
  rw [if_neg h1]
  by_cases h2 : K = 2
  · rw [if_pos h2]
    exact do_fill W S B T ad len cap f sb clb pb qb n P L M Q A k K s i m w h hS ok s0 s1 hx hm hn hk h2
  rw [if_neg h2]
  by_cases h3 : K = 3
  · rw [if_pos h3]
    unfold spL
    by_cases hc : 2 * B < ((P k).length : Int)
    · rw [if_pos hc]
      obtain ⟨Sn, hSn⟩ := Int.eq_ofNat_of_zero_le (show 0 ≤ S by omega)
      obtain ⟨t, ht⟩ := full_ex (l := P k) (n := Sn) (fun e => by rw [e] at hc; simp at hc; omega) (by omega) (by omega) (fun x hx => by rw [← hSn]; exact (h.out.good k hk).supers ok.out x hx)
      rw [superI_eq ht]
      exact do_spill_yes W S B T ad len cap f sb clb pb qb n P L M Q A k K s i m w h ok s0 s1 b0 b1 hn hk h3 hc t (Lib.hid ht)
    · rw [if_neg hc]
      exact do_spill_no W S B T ad len cap f sb clb pb qb n P L M Q A k K s i m w h b0 b1 hk h3 (by omega)
  rw [if_neg h3]
  exact do_look W S B T ad len cap f sb clb pb qb n P L M Q A k K s i m w h hk h0 h1 h2 h3
end
end Go.Proofs.YtagacljfpakgnaaDoor
