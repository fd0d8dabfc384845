/-
  What is done to a Stock and to the piles beside it, kind by kind.
-/
import Derived.Test.YtagacljfpakgnaaDoorStockPr
namespace Go.Proofs.YtagacljfpakgnaaDoor
open Go.RowKit Go.Maps Go.Sort
attribute [local go_sem] Oper.semAt_some

/-- The two boxes. -/
structure Bxs (w : World) (N : Nat) (W S B T : Int) (cl : Value) (K C s i : Int) (m : Nat) : Prop where
  c : Cfg5 w N W S B T cl
  a : w.heap[N + 1]? = some (.cells #[.int .i64 K, .int .i64 C, .int .i64 s, .int .i64 i, .int .u64 (m : Nat)] 35 (0, 0))
section
variable {w w' : World} {N : Nat} {W S B T : Int} {cl : Value} {K C s i : Int} {m : Nat}
theorem Bxs.next (h : Bxs w N W S B T cl K C s i m) (x : Below w.heap.size w w') : Bxs w' N W S B T cl K C s i m := ⟨cfg_next h.c x, (x.block _ (heap_lt h.a)).trans h.a⟩
theorem Bxs.only {q : List Nat} (h : Bxs w N W S B T cl K C s i m) (x : Only q w w') (hq : ∀ b ∈ q, b < N) : Bxs w' N W S B T cl K C s i m :=
  ⟨x.at h.c (fun hm => by have := hq _ hm; omega), x.at h.a (fun hm => by have := hq _ hm; omega)⟩
theorem Bxs.act (h : Bxs w N W S B T cl K C s i m) : w.cell? ⟨N + 1, 0, none⟩ = some (.int .i64 K) ∧ w.cell? ⟨N + 1, 1, none⟩ = some (.int .i64 C) ∧ w.cell? ⟨N + 1, 2, none⟩ = some (.int .i64 s) ∧ w.cell? ⟨N + 1, 3, none⟩ = some (.int .i64 i) ∧ w.cell? ⟨N + 1, 4, none⟩ = some (.int .u64 (m : Nat)) := by
  refine ⟨?_, ?_, ?_, ?_, ?_⟩ <;> (rw [cell_of h.a]; rfl)
theorem Bxs.two (w : World) (W S B T : Int) (cl : Value) (K C s i : Int) (m : Nat) : Bxs ((w.alloc (.cells #[.int .i64 W, .int .i64 S, .int .i64 B, .int .i64 T, cl] 24)).alloc (.cells #[.int .i64 K, .int .i64 C, .int .i64 s, .int .i64 i, .int .u64 (m : Nat)] 35)) w.heap.size W S B T cl K C s i m :=
  ⟨cfg_next (cfg_new w W S B T cl) (below_alloc _ _), by
    have := heap_new (w.alloc (.cells #[.int .i64 W, .int .i64 S, .int .i64 B, .int .i64 T, cl] 24)) (.cells #[.int .i64 K, .int .i64 C, .int .i64 s, .int .i64 i, .int .u64 (m : Nat)] 35)
    rw [show (w.alloc (.cells #[.int .i64 W, .int .i64 S, .int .i64 B, .int .i64 T, cl] 24)).heap.size = w.heap.size + 1 from by simp] at this
    exact this⟩
end
theorem two_x {w : World} {N : Nat} {W S B T : Int} {cl : Value} {K C s i : Int} {m : Nat} (h : Bxs w N W S B T cl K C s i m) : w.cell? ⟨N, 0, none⟩ = some (.int .i64 W) ∧ w.cell? ⟨N, 1, none⟩ = some (.int .i64 S) ∧ w.cell? ⟨N, 2, none⟩ = some (.int .i64 B) ∧ w.cell? ⟨N, 3, none⟩ = some (.int .i64 T) ∧ w.cell? ⟨N, 4, none⟩ = some cl ∧ w.cell? ⟨N + 1, 0, none⟩ = some (.int .i64 K) ∧ w.cell? ⟨N + 1, 1, none⟩ = some (.int .i64 C) ∧ w.cell? ⟨N + 1, 2, none⟩ = some (.int .i64 s) ∧ w.cell? ⟨N + 1, 3, none⟩ = some (.int .i64 i) ∧ w.cell? ⟨N + 1, 4, none⟩ = some (.int .u64 (m : Nat)) := by
  obtain ⟨c0, c1, c2, c3, c4⟩ := cfg_cells h.c
  obtain ⟨x0, x1, x2, x3, x4⟩ := h.act
  exact ⟨c0, c1, c2, c3, c4, x0, x1, x2, x3, x4⟩
open Classical in
/-- Of which superblock there are most. -/
noncomputable def superI (l : List (Int × Int)) : Int := if h : ∃ s, Full l s then h.choose else 0
theorem superI_eq {l : List (Int × Int)} {s : Int} (h : Full l s) : superI l = s := by
  have e : ∃ s, Full l s := ⟨s, h⟩
  unfold superI
  rw [dif_pos e]
  exact full_eq e.choose_spec h
noncomputable def spL (B : Int) (l : List (Int × Int)) : List (Int × Int) := if 2 * B < (l.length : Int) then stays (superI l) l else l
/-- What it makes of a class's blocks. -/
noncomputable def doL (S B : Int) (len : Nat) (f : Nat → Int) (k : Nat) (K s i : Int) (m : Nat) (l : List (Int × Int)) : List (Int × Int) :=
  if K = 0 then pushL S len f k l (s, i) else if K = 1 then l.dropLast else if K = 2 then fillL S len f k l (bksD s m 0) else if K = 3 then spL B l else l
theorem upd2 (P : Nat → List (Int × Int)) (k : Nat) (l l' : List (Int × Int)) : updP (updP P k l) k l' = updP P k l' := by
  funext j; unfold updP; split <;> rfl
/-- How it leaves both. -/
def DoR (w : World) (A : Nat → Prop) (sb clb pb qb : Nat) (W S B T : Int) (len : Nat) (f : Nat → Int) (n : Nat) (P : Nat → List (Int × Int)) (M : Nat → Nat) (k : Nat) (l : List (Int × Int)) (w' : World) : Prop :=
  ∃ n' L' Q', n' ≤ n + 64 ∧ Pr w' (ext A w.heap.size w') sb clb pb qb W S B T len f n' (updP P k l) (updP P k l) L' M Q' ∧ Kp A w.heap.size w w'
section
variable (W S B T : Int) (ad : Option Addr) (len cap : Nat) (f : Nat → Int) (sb clb pb qb n : Nat) (P : Nat → List (Int × Int)) (L : Nat → Value) (M : Nat → Nat) (Q : Nat → Value) (A : Nat → Prop)
set_option maxRecDepth 20000 in
set_option maxHeartbeats 8000000 in
theorem do_look (k : Nat) (K s i : Int) (m : Nat) (w : World) (h : Hid (Pr w A sb clb pb qb W S B T len f n P P L M Q))  (hk : k < len) (h0 : ¬ K = 0) (h1 : ¬ K = 1) (h2 : ¬ K = 2) (h3 : ¬ K = 3) :
    Calls Tryd.prog 11 #[.agg #[.int .i64 W, .int .i64 S, .int .i64 B, .int .i64 T, .slice ad len cap], .pointer (some ⟨sb, 0, none⟩), .slice (some ⟨qb, 0, none⟩) len len, .agg #[.int .i64 K, .int .i64 (k : Nat), .int .i64 s, .int .i64 i, .int .u64 (m : Nat)]] w fun e w' => e = .returned (.bool true) ∧ DoR w A sb clb pb qb W S B T len f n P M k (P k) w' := by
  have hb1 := below_alloc w (.cells #[.int .i64 W, .int .i64 S, .int .i64 B, .int .i64 T, .slice ad len cap] 24)
  have hb2 := below_alloc (w.alloc (.cells #[.int .i64 W, .int .i64 S, .int .i64 B, .int .i64 T, .slice ad len cap] 24)) (.cells #[.int .i64 K, .int .i64 (k : Nat), .int .i64 s, .int .i64 i, .int .u64 (m : Nat)] 35)
  have hb := below_after hb1 hb2
  have X0 := Lib.hid (Bxs.two w W S B T (.slice ad len cap) K (k : Nat) s i m)
  have H0 := Lib.hid (h.out.start.next hb)
  have K0 : Hid (Kp A w.heap.size w _) := Kp.of_below hb (Nat.le_refl _)
  have B0 := Lib.hid hb
  clear hb1 hb2 hb
  have lk : (k : Int) < (len : Int) := by omega
  have LO : Hid (∀ b, (L k).ownBlock = some b → b < w.heap.size) := Lib.hid (fun b hb => (h.out.st.lst k hk).lt' hb)
  have LP : Hid (pb < w.heap.size ∧ M k < w.heap.size ∧ qb < w.heap.size) := Lib.hid ⟨heap_lt h.out.st.pil, (h.out.st.set k hk).lt, heap_lt h.out.pil⟩
  go_enter Tryd.func11, Tryd.ntmps11
  go_wp2_with fail
  generalize (w.alloc (.cells #[.int .i64 W, .int .i64 S, .int .i64 B, .int .i64 T, .slice ad len cap] 24)).alloc (.cells #[.int .i64 K, .int .i64 (k : Nat), .int .i64 s, .int .i64 i, .int .u64 (m : Nat)] 35) = w0 at *
  obtain ⟨x0, x1, x2, x3, x4⟩ := X0.out.act
  have g0 : (K == 0) = false := by simpa using h0
  have g1 : (K == 1) = false := by simpa using h1
  have g2 : (K == 2) = false := by simpa using h2
  have g3 : (K == 3) = false := by simpa using h3
  go_upto_region 28 with fail
  obtain ⟨qa, qc, hq⟩ := ORow.form (H0.out.rows k hk)
  have q0 := H0.out.cell hk
  rw [hq] at q0
  clear hq
  have j0 := cell_regrown q0
  have a1 := fun d os => Calls.regrown_of ((len_in sb clb pb W S B T len f n P L M k (grow (redrawn w0 d) os) (Lib.hid (H0.out.st.next (below_regrown w0 d os))) hk).mono (by rintro e w' ⟨rfl, rfl⟩; exact ⟨rfl, Below.refl _ _⟩))
  refine wp_region_quiet_below (by kernel_rfl) (by kernel_rfl) ?_
  repeat (go_big_quiet_step (first | exact a1 _ _))
  refine wpQuiet_nil ?_
  intro _ hw'
  obtain ⟨⟨dq, osq⟩, hw''⟩ := hw'
  subst hw''
  have bg := below_regrown w0 dq osq
  have H1 := Lib.hid (H0.out.next bg)
  have K1 := Lib.hid (K0.out.trans (Kp.of_below bg K0.out.size))
  have X1 := Lib.hid (X0.out.next bg)
  clear bg
  generalize Sort.grow (redrawn w0 dq) osq = y1 at *
  clear a1 j0 q0
  go_wp2_with fail
  go_ret
  exact ⟨rfl, n, L, Q, by omega, by rw [updP_same]; exact H1.out, K1.out⟩
set_option maxRecDepth 20000 in
set_option maxHeartbeats 8000000 in
theorem do_push (k : Nat) (K s i : Int) (m : Nat) (w : World) (h : Hid (Pr w A sb clb pb qb W S B T len f n P P L M Q)) (hS : Hid (∀ y, Kp A w.heap.size w y → TabAt y ∧ RowI y ad len f)) (ok : Hid (ClsOk len f)) (s0 : 1 ≤ S) (s1 : S ≤ 1000) (hx : Bd (s, i)) (hn : n ≤ 100000) (hk : k < len) (hK : K = 0) :
    Calls Tryd.prog 11 #[.agg #[.int .i64 W, .int .i64 S, .int .i64 B, .int .i64 T, .slice ad len cap], .pointer (some ⟨sb, 0, none⟩), .slice (some ⟨qb, 0, none⟩) len len, .agg #[.int .i64 K, .int .i64 (k : Nat), .int .i64 s, .int .i64 i, .int .u64 (m : Nat)]] w fun e w' => e = .returned (.bool true) ∧ DoR w A sb clb pb qb W S B T len f n P M k (pushL S len f k (P k) (s, i)) w' := by
  subst hK
  have hb1 := below_alloc w (.cells #[.int .i64 W, .int .i64 S, .int .i64 B, .int .i64 T, .slice ad len cap] 24)
  have hb2 := below_alloc (w.alloc (.cells #[.int .i64 W, .int .i64 S, .int .i64 B, .int .i64 T, .slice ad len cap] 24)) (.cells #[.int .i64 0, .int .i64 (k : Nat), .int .i64 s, .int .i64 i, .int .u64 (m : Nat)] 35)
  have hb := below_after hb1 hb2
  have X0 := Lib.hid (Bxs.two w W S B T (.slice ad len cap) 0 (k : Nat) s i m)
  have H0 := Lib.hid (h.out.start.next hb)
  have K0 : Hid (Kp A w.heap.size w _) := Kp.of_below hb (Nat.le_refl _)
  have B0 := Lib.hid hb
  clear hb1 hb2 hb
  have lk : (k : Int) < (len : Int) := by omega
  have LO : Hid (∀ b, (L k).ownBlock = some b → b < w.heap.size) := Lib.hid (fun b hb => (h.out.st.lst k hk).lt' hb)
  have LP : Hid (pb < w.heap.size ∧ M k < w.heap.size ∧ qb < w.heap.size) := Lib.hid ⟨heap_lt h.out.st.pil, (h.out.st.set k hk).lt, heap_lt h.out.pil⟩
  go_enter Tryd.func11, Tryd.ntmps11
  go_wp2_with fail
  generalize (w.alloc (.cells #[.int .i64 W, .int .i64 S, .int .i64 B, .int .i64 T, .slice ad len cap] 24)).alloc (.cells #[.int .i64 0, .int .i64 (k : Nat), .int .i64 s, .int .i64 i, .int .u64 (m : Nat)] 35) = w0 at *
  obtain ⟨x0, x1, x2, x3, x4⟩ := X0.out.act
  have g0 : ((0 : Int) == 0) = true := rfl
  have few : (P k).length ≤ 100000 := by have := (h.out.st.bd k hk).1; omega
  go_upto_region 11 with fail
  refine wp_region_noPanic ?_
  refine wp_region_held_drew (S := fun w' => Bxs w' w.heap.size W S B T (.slice ad len cap) 0 (k : Nat) s i m) (by kernel_rfl) (X0.out.next ((Below.refl w0.heap.size w0).drew)) (fun hHeld => ?_)
  have hb := (Below.refl w0.heap.size w0).drew
  have H1 := Lib.hid (H0.out.next hb)
  have K1 := Lib.hid (K0.out.trans (Kp.of_below hb K0.out.size))
  have X1 := Lib.hid (X0.out.next hb)
  clear hb H0 K0 X0 x0 x1 x2 x3 x4
  generalize w0.drew = z0 at *
  obtain ⟨qa, qc, hq⟩ := ORow.form (H1.out.rows k hk)
  have q0 := H1.out.cell hk
  have Q1 := Lib.hid (H1.out.rows k hk)
  rw [hq] at q0 Q1
  have HQ := Lib.hid hq
  clear hq
  have RI := Lib.hid (hS.out _ K1.out).2
  refine wpAnyH_take (i := 0) (v := .slice (some ⟨qb, 0, none⟩) len len) rfl (by kernel_rfl) (by kernel_rfl) (by kernel_rfl) (fun _ _ _ h => h) (Or.inl ⟨by rfl, fun w hSw => by have b0 := two_x hSw; obtain ⟨c0, c1, c2, c3, c4, x0, x1, x2, x3, x4⟩ := b0; go_simp⟩) (by assumption) ?_
  change wpAnyH _ _ _ _ _ _ _ (Act.put _ (some 90) _) _
  simp only [Act.put, List.setIfInBounds_toArray, List.set_cons_zero, List.set_cons_succ]
  refine wpAnyH_take (i := 1) (v := .int .i64 (k : Nat)) rfl (by kernel_rfl) (by kernel_rfl) (by kernel_rfl) (fun _ _ _ h => h) (Or.inl ⟨by rfl, fun w hSw => by have b0 := two_x hSw; obtain ⟨c0, c1, c2, c3, c4, x0, x1, x2, x3, x4⟩ := b0; go_simp⟩) (by assumption) ?_
  change wpAnyH _ _ _ _ _ _ _ (Act.put _ (some 91) _) _
  simp only [Act.put, List.setIfInBounds_toArray, List.set_cons_zero, List.set_cons_succ]
  refine wpAnyH_take (i := 2) (v := .agg #[.int .i64 W, .int .i64 S, .int .i64 B, .int .i64 T, .slice ad len cap]) rfl (by kernel_rfl) (by kernel_rfl) (by kernel_rfl) (fun _ _ _ h => h) (Or.inl ⟨by rfl, fun w hSw => by have b0 := two_x hSw; obtain ⟨c0, c1, c2, c3, c4, x0, x1, x2, x3, x4⟩ := b0; go_simp⟩) (by assumption) ?_
  change wpAnyH _ _ _ _ _ _ _ (Act.put _ (some 92) _) _
  simp only [Act.put, List.setIfInBounds_toArray, List.set_cons_zero, List.set_cons_succ]
  refine wpAnyH_take (i := 3) (v := .int .i64 (k : Nat)) rfl (by kernel_rfl) (by kernel_rfl) (by kernel_rfl) (fun _ _ _ h => h) (Or.inl ⟨by rfl, fun w hSw => by have b0 := two_x hSw; obtain ⟨c0, c1, c2, c3, c4, x0, x1, x2, x3, x4⟩ := b0; go_simp⟩) (by assumption) ?_
  change wpAnyH _ _ _ _ _ _ _ (Act.put _ (some 93) _) _
  simp only [Act.put, List.setIfInBounds_toArray, List.set_cons_zero, List.set_cons_succ]
  refine wpAnyH_take (i := 4) (v := .slice (some ⟨qb, 0, none⟩) len len) rfl (by kernel_rfl) (by kernel_rfl) (by kernel_rfl) (fun _ _ _ h => h) (Or.inl ⟨by rfl, fun w hSw => by have b0 := two_x hSw; obtain ⟨c0, c1, c2, c3, c4, x0, x1, x2, x3, x4⟩ := b0; go_simp⟩) (by assumption) ?_
  change wpAnyH _ _ _ _ _ _ _ (Act.put _ (some 94) _) _
  simp only [Act.put, List.setIfInBounds_toArray, List.set_cons_zero, List.set_cons_succ]
  refine wpAnyH_take (i := 5) (v := .int .i64 (k : Nat)) rfl (by kernel_rfl) (by kernel_rfl) (by kernel_rfl) (fun _ _ _ h => h) (Or.inl ⟨by rfl, fun w hSw => by have b0 := two_x hSw; obtain ⟨c0, c1, c2, c3, c4, x0, x1, x2, x3, x4⟩ := b0; go_simp⟩) (by assumption) ?_
  change wpAnyH _ _ _ _ _ _ _ (Act.put _ (some 95) _) _
  simp only [Act.put, List.setIfInBounds_toArray, List.set_cons_zero, List.set_cons_succ]
  refine wpAnyH_take (i := 6) (v := .pointer (some ⟨qb, k, none⟩)) rfl (by kernel_rfl) (by kernel_rfl) (by kernel_rfl) (fun _ _ _ h => h) (Or.inl ⟨by rfl, fun w hSw => by have b0 := two_x hSw; obtain ⟨c0, c1, c2, c3, c4, x0, x1, x2, x3, x4⟩ := b0; go_simp⟩) (by assumption) ?_
  change wpAnyH _ _ _ _ _ _ _ (Act.put _ (some 96) _) _
  simp only [Act.put, List.setIfInBounds_toArray, List.set_cons_zero, List.set_cons_succ]
  refine wpAnyH_take (i := 8) (v := .pointer (some ⟨w.heap.size + 1, 2, none⟩)) rfl (by kernel_rfl) (by kernel_rfl) (by kernel_rfl) (fun _ _ _ h => h) (Or.inl ⟨by rfl, fun w hSw => by have b0 := two_x hSw; obtain ⟨c0, c1, c2, c3, c4, x0, x1, x2, x3, x4⟩ := b0; go_simp⟩) (by assumption) ?_
  change wpAnyH _ _ _ _ _ _ _ (Act.put _ (some 98) _) _
  simp only [Act.put, List.setIfInBounds_toArray, List.set_cons_zero, List.set_cons_succ]
  refine wpAnyH_take (i := 9) (v := .agg #[.int .i64 s, .int .i64 i]) rfl (by kernel_rfl) (by kernel_rfl) (by kernel_rfl) (fun _ _ _ h => h) (Or.inl ⟨by rfl, fun w hSw => by have b0 := two_x hSw; obtain ⟨c0, c1, c2, c3, c4, x0, x1, x2, x3, x4⟩ := b0; go_simp⟩) (by assumption) ?_
  change wpAnyH _ _ _ _ _ _ _ (Act.put _ (some 99) _) _
  simp only [Act.put, List.setIfInBounds_toArray, List.set_cons_zero, List.set_cons_succ]
  refine wpAnyH_ready (rs := [7]) (by kernel_rfl) (by simp) ?_
  refine AllReadyH.cons rfl (fun K hK => ?_) (AllReadyH.nil)
  go_simp
  refine hK.out _ _ (X1.out) (fun hHeld1 => ?_)
  clear hK K
  refine wpAnyH_ready (rs := [10]) (by kernel_rfl) (by simp) ?_
  refine AllReadyH.cons rfl (fun K hK => ?_) (AllReadyH.nil)
  refine step_enter (F := 25) (vals := #[.agg #[.int .i64 W, .int .i64 S, .int .i64 B, .int .i64 T, .slice ad len cap], .int .i64 (k : Nat), .slice qa (P k).length qc, .agg #[.int .i64 s, .int .i64 i]]) rfl (by kernel_rfl) ?_
  refine (rpush_any W S B T ad len cap f k _ (P k) (s, i) z0 RI Q1 (by omega) ok (by omega) s1).mono ?_
  rintro e z2 ⟨v', rfl, r1, hb, r3⟩
  obtain ⟨ua, uc, rfl⟩ := ORow.form r1
  have H2 := Lib.hid (H1.out.next hb)
  have K2 := Lib.hid (K1.out.trans (Kp.of_below hb K1.out.size))
  have X2 := Lib.hid (X1.out.next hb)
  have BB := Lib.hid hb
  have V1 := Lib.hid r1
  have VO : Hid (∀ b, (Value.slice ua (pushL S len f k (P k) (s, i)).length uc).ownBlock = some b → ext A w.heap.size z2 b ∧ ∀ j, j < len → (L j).ownBlock ≠ some b) := Lib.hid (fun b e => by
    rcases r3 with h1 | h1
    · rw [h1, ← HQ.out] at e; exact ⟨H2.out.a4 k b hk e, fun j hj e2 => H2.out.ap j k b hj hk e2 e⟩
    · have h2 := h1 b e; exact ⟨.inr ⟨by have := K1.out.size; omega, BkRow.lt' V1.out e⟩, fun j hj e2 => by have := (H1.out.st.lst j hj).lt' e2; omega⟩)
  show K (Act.put _ (some 100) _) z2
  refine hK.out _ _ (X2.out) (fun hHeld2 => ?_)
  clear hK K hb r1 r3
  simp only [Act.put, List.setIfInBounds_toArray, List.set_cons_zero, List.set_cons_succ]
  refine wpAnyH_take (i := 11) (v := .tuple #[(Value.slice ua (pushL S len f k (P k) (s, i)).length uc), .bool (pushB S len f k (P k) (s, i))]) rfl (by kernel_rfl) (by kernel_rfl) (by kernel_rfl) (fun _ _ _ h => h) (Or.inl ⟨by rfl, fun w hSw => by have b0 := two_x hSw; obtain ⟨c0, c1, c2, c3, c4, x0, x1, x2, x3, x4⟩ := b0; go_simp⟩) (by assumption) ?_
  change wpAnyH _ _ _ _ _ _ _ (Act.put _ (some 89) _) _
  simp only [Act.put, List.setIfInBounds_toArray, List.set_cons_zero, List.set_cons_succ]
  refine wpAnyH_take (i := 12) (v := (Value.slice ua (pushL S len f k (P k) (s, i)).length uc)) rfl (by kernel_rfl) (by kernel_rfl) (by kernel_rfl) (fun _ _ _ h => h) (Or.inl ⟨by rfl, fun w hSw => by have b0 := two_x hSw; obtain ⟨c0, c1, c2, c3, c4, x0, x1, x2, x3, x4⟩ := b0; go_simp⟩) (by assumption) ?_
  change wpAnyH _ _ _ _ _ _ _ (Act.put _ (some 101) _) _
  simp only [Act.put, List.setIfInBounds_toArray, List.set_cons_zero, List.set_cons_succ]
  refine wpAnyH_take (i := 13) (v := .bool (pushB S len f k (P k) (s, i))) rfl (by kernel_rfl) (by kernel_rfl) (by kernel_rfl) (fun _ _ _ h => h) (Or.inl ⟨by rfl, fun w hSw => by have b0 := two_x hSw; obtain ⟨c0, c1, c2, c3, c4, x0, x1, x2, x3, x4⟩ := b0; go_simp⟩) (by assumption) ?_
  change wpAnyH _ _ _ _ _ _ _ (Act.put _ (some 102) _) _
  simp only [Act.put, List.setIfInBounds_toArray, List.set_cons_zero, List.set_cons_succ]
  refine wpAnyH_take (i := 14) (v := .pointer (some ⟨qb, k, none⟩)) rfl (by kernel_rfl) (by kernel_rfl) (by kernel_rfl) (fun _ _ _ h => h) (Or.inl ⟨by rfl, fun w hSw => by have b0 := two_x hSw; obtain ⟨c0, c1, c2, c3, c4, x0, x1, x2, x3, x4⟩ := b0; go_simp⟩) (by assumption) ?_
  change wpAnyH _ _ _ _ _ _ _ (Act.put _ (some 103) _) _
  simp only [Act.put, List.setIfInBounds_toArray, List.set_cons_zero, List.set_cons_succ]
  refine wpAnyH_ready (rs := [15]) (by kernel_rfl) (by simp) ?_
  refine AllReadyH.cons rfl (fun K hK => ?_) (AllReadyH.nil)
  have q1 := H2.out.cell hk
  have ff := frozen_of (j := k) H2.out.pil
  have PT := H2.out.put hk V1.out VO.out
  have H3 := Lib.hid PT.1
  have X3 : Hid (Bxs _ w.heap.size W S B T (.slice ad len cap) 0 (k : Nat) s i m) := X2.out.only PT.2 (fun b hb => by simp at hb; subst hb; exact LP.out.2.2)
  have K3 : Hid (Kp A w.heap.size w _) := K2.out.trans (Kp.of_only PT.2 (fun b hb => by simp at hb; subst hb; exact H2.out.a1.2.2.2) K2.out.size)
  clear PT
  go_simp
  refine hK.out _ _ (X3.out) (fun hHeld3 => ?_)
  clear hK K q1 ff
  generalize z2.setCell ⟨qb, k, none⟩ (Value.slice ua (pushL S len f k (P k) (s, i)).length uc) = z3 at *
  refine wpAnyH_take (i := 16) (v := .bool (pushB S len f k (P k) (s, i))) rfl (by kernel_rfl) (by kernel_rfl) (by kernel_rfl) (fun _ _ _ h => h) (Or.inl ⟨by rfl, fun w hSw => by have b0 := two_x hSw; obtain ⟨c0, c1, c2, c3, c4, x0, x1, x2, x3, x4⟩ := b0; go_simp⟩) (by assumption) ?_
  change wpAnyH _ _ _ _ _ _ _ (Act.put _ (some 16) _) _
  simp only [Act.put, List.setIfInBounds_toArray, List.set_cons_zero, List.set_cons_succ]
  refine ⟨by kernel_rfl, ?_⟩
  refine NoPanic.normal ?_
  obtain ⟨x0, x1, x2, x3, x4⟩ := X3.out.act
  have PU := Lib.hid (push_any sb clb pb W S B T len f n P L M k (s, i) z3 (Lib.hid H3.out.st) hk ok (by omega) s1 hx (by omega))
  have gp := Lib.hid ((h.out.good k hk).push (s, i))
  go_wp2_with fail
  refine PU.out.mono ?_
  rintro e z4 ⟨rfl, v4, r1, r2, r3⟩
  have H4 := Lib.hid (H3.out.stk hk r1 r2 (fun b e => by
    rcases r3 with h1 | ⟨b', h1, h2⟩
    · rw [h1] at e; exact .inl e
    · rw [h1] at e; cases e; exact .inr h2) gp.out K3.out.size)
  have K4 := Lib.hid (K3.out.trans (Kp.of_only r2 (H3.out.own hk) K3.out.size))
  have X4 : Hid (Bxs _ w.heap.size W S B T (.slice ad len cap) 0 (k : Nat) s i m) := X3.out.only r2 (fun b hb => by
    simp only [List.cons_append, List.nil_append, List.mem_cons, Option.mem_toList] at hb
    rcases hb with rfl | rfl | e
    · exact LP.out.1
    · exact LP.out.2.1
    · exact LO.out b e)
  clear r1 r2 r3 PU x0 x1 x2 x3 x4
  go_wp2_with fail
  go_upto_region 28 with fail
  obtain ⟨qa, qc, hq⟩ := ORow.form (H4.out.rows k hk)
  have q0 := H4.out.cell hk
  rw [hq] at q0
  clear hq
  have j0 := cell_regrown q0
  have a1 := fun d os => Calls.regrown_of ((len_in sb clb pb W S B T len f (n + 1) (updP P k (pushL S len f k (P k) (s, i))) (updL L k v4) M k (grow (redrawn z4 d) os) (Lib.hid (H4.out.st.next (below_regrown z4 d os))) hk).mono (by rintro e w' ⟨rfl, rfl⟩; exact ⟨rfl, Below.refl _ _⟩))
  refine wp_region_quiet_below (by kernel_rfl) (by kernel_rfl) ?_
  repeat (go_big_quiet_step (first | exact a1 _ _))
  refine wpQuiet_nil ?_
  intro _ hw'
  obtain ⟨⟨dq, osq⟩, hw''⟩ := hw'
  subst hw''
  have bg := below_regrown z4 dq osq
  have H5 := Lib.hid (H4.out.next bg)
  have K5 := Lib.hid (K4.out.trans (Kp.of_below bg K4.out.size))
  have X5 := Lib.hid (X4.out.next bg)
  clear bg
  generalize Sort.grow (redrawn z4 dq) osq = y5 at *
  clear a1 j0 q0
  go_wp2_with fail
  go_ret
  exact ⟨rfl, n + 1, _, _, by omega, H5.out, K5.out⟩
set_option maxRecDepth 20000 in
set_option maxHeartbeats 8000000 in
theorem do_pop_no (k : Nat) (K s i : Int) (m : Nat) (w : World) (h : Hid (Pr w A sb clb pb qb W S B T len f n P P L M Q))  (hk : k < len) (hK : K = 1) (hP : P k = []) :
    Calls Tryd.prog 11 #[.agg #[.int .i64 W, .int .i64 S, .int .i64 B, .int .i64 T, .slice ad len cap], .pointer (some ⟨sb, 0, none⟩), .slice (some ⟨qb, 0, none⟩) len len, .agg #[.int .i64 K, .int .i64 (k : Nat), .int .i64 s, .int .i64 i, .int .u64 (m : Nat)]] w fun e w' => e = .returned (.bool true) ∧ DoR w A sb clb pb qb W S B T len f n P M k (P k) w' := by
  subst hK
  have hb1 := below_alloc w (.cells #[.int .i64 W, .int .i64 S, .int .i64 B, .int .i64 T, .slice ad len cap] 24)
  have hb2 := below_alloc (w.alloc (.cells #[.int .i64 W, .int .i64 S, .int .i64 B, .int .i64 T, .slice ad len cap] 24)) (.cells #[.int .i64 1, .int .i64 (k : Nat), .int .i64 s, .int .i64 i, .int .u64 (m : Nat)] 35)
  have hb := below_after hb1 hb2
  have X0 := Lib.hid (Bxs.two w W S B T (.slice ad len cap) 1 (k : Nat) s i m)
  have H0 := Lib.hid (h.out.start.next hb)
  have K0 : Hid (Kp A w.heap.size w _) := Kp.of_below hb (Nat.le_refl _)
  have B0 := Lib.hid hb
  clear hb1 hb2 hb
  have lk : (k : Int) < (len : Int) := by omega
  have LO : Hid (∀ b, (L k).ownBlock = some b → b < w.heap.size) := Lib.hid (fun b hb => (h.out.st.lst k hk).lt' hb)
  have LP : Hid (pb < w.heap.size ∧ M k < w.heap.size ∧ qb < w.heap.size) := Lib.hid ⟨heap_lt h.out.st.pil, (h.out.st.set k hk).lt, heap_lt h.out.pil⟩
  go_enter Tryd.func11, Tryd.ntmps11
  go_wp2_with fail
  generalize (w.alloc (.cells #[.int .i64 W, .int .i64 S, .int .i64 B, .int .i64 T, .slice ad len cap] 24)).alloc (.cells #[.int .i64 1, .int .i64 (k : Nat), .int .i64 s, .int .i64 i, .int .u64 (m : Nat)] 35) = w0 at *
  obtain ⟨x0, x1, x2, x3, x4⟩ := X0.out.act
  have g0 : ((1 : Int) == 0) = false := rfl
  have g1 : ((1 : Int) == 1) = true := rfl
  have PO := Lib.hid (pop_no sb clb pb W S B T len f n P L M k w0 (Lib.hid H0.out.st) hk hP)
  go_wp2_with fail
  refine PO.out.mono ?_
  rintro e z1 ⟨rfl, hb⟩
  have H1 := Lib.hid (H0.out.next hb)
  have K1 := Lib.hid (K0.out.trans (Kp.of_below hb K0.out.size))
  have X1 := Lib.hid (X0.out.next hb)
  clear hb PO x0 x1 x2 x3 x4
  have hb := box1 z1 (.cells #[.int .i64 0, .int .i64 0] 32)
  go_upto_region 15 with fail
  have H2 := Lib.hid (H1.out.next hb)
  have K2 := Lib.hid (K1.out.trans (Kp.of_below hb K1.out.size))
  have X2 := Lib.hid (X1.out.next hb)
  clear hb
  generalize z1.alloc (.cells #[.int .i64 0, .int .i64 0] 32) = z2 at *
  obtain ⟨qa, qc, hq⟩ := ORow.form (H2.out.rows k hk)
  have q0 := H2.out.cell hk
  rw [hq, hP] at q0
  simp only [List.length_nil] at q0
  go_upto_region 28 with fail
  clear q0 hq
  obtain ⟨qa, qc, hq⟩ := ORow.form (H2.out.rows k hk)
  have q0 := H2.out.cell hk
  rw [hq] at q0
  clear hq
  have j0 := cell_regrown q0
  have a1 := fun d os => Calls.regrown_of ((len_in sb clb pb W S B T len f n P L M k (grow (redrawn z2 d) os) (Lib.hid (H2.out.st.next (below_regrown z2 d os))) hk).mono (by rintro e w' ⟨rfl, rfl⟩; exact ⟨rfl, Below.refl _ _⟩))
  refine wp_region_quiet_below (by kernel_rfl) (by kernel_rfl) ?_
  repeat (go_big_quiet_step (first | exact a1 _ _))
  refine wpQuiet_nil ?_
  intro _ hw'
  obtain ⟨⟨dq, osq⟩, hw''⟩ := hw'
  subst hw''
  have bg := below_regrown z2 dq osq
  have H3 := Lib.hid (H2.out.next bg)
  have K3 := Lib.hid (K2.out.trans (Kp.of_below bg K2.out.size))
  have X3 := Lib.hid (X2.out.next bg)
  clear bg
  generalize Sort.grow (redrawn z2 dq) osq = y3 at *
  clear a1 j0 q0
  go_wp2_with fail
  go_ret
  exact ⟨rfl, n, L, Q, by omega, by rw [updP_same]; exact H3.out, K3.out⟩
set_option maxRecDepth 20000 in
set_option maxHeartbeats 8000000 in
theorem do_pop_yes (k : Nat) (K s i : Int) (m : Nat) (w : World) (h : Hid (Pr w A sb clb pb qb W S B T len f n P P L M Q)) (hn : n ≤ 100000) (hk : k < len) (hK : K = 1) (l : List (Int × Int)) (y : Int × Int) (hP : P k = l ++ [y]) :
    Calls Tryd.prog 11 #[.agg #[.int .i64 W, .int .i64 S, .int .i64 B, .int .i64 T, .slice ad len cap], .pointer (some ⟨sb, 0, none⟩), .slice (some ⟨qb, 0, none⟩) len len, .agg #[.int .i64 K, .int .i64 (k : Nat), .int .i64 s, .int .i64 i, .int .u64 (m : Nat)]] w fun e w' => e = .returned (.bool true) ∧ DoR w A sb clb pb qb W S B T len f n P M k l w' := by
  subst hK
  have hb1 := below_alloc w (.cells #[.int .i64 W, .int .i64 S, .int .i64 B, .int .i64 T, .slice ad len cap] 24)
  have hb2 := below_alloc (w.alloc (.cells #[.int .i64 W, .int .i64 S, .int .i64 B, .int .i64 T, .slice ad len cap] 24)) (.cells #[.int .i64 1, .int .i64 (k : Nat), .int .i64 s, .int .i64 i, .int .u64 (m : Nat)] 35)
  have hb := below_after hb1 hb2
  have X0 := Lib.hid (Bxs.two w W S B T (.slice ad len cap) 1 (k : Nat) s i m)
  have H0 := Lib.hid (h.out.start.next hb)
  have K0 : Hid (Kp A w.heap.size w _) := Kp.of_below hb (Nat.le_refl _)
  have B0 := Lib.hid hb
  clear hb1 hb2 hb
  have lk : (k : Int) < (len : Int) := by omega
  have LO : Hid (∀ b, (L k).ownBlock = some b → b < w.heap.size) := Lib.hid (fun b hb => (h.out.st.lst k hk).lt' hb)
  have LP : Hid (pb < w.heap.size ∧ M k < w.heap.size ∧ qb < w.heap.size) := Lib.hid ⟨heap_lt h.out.st.pil, (h.out.st.set k hk).lt, heap_lt h.out.pil⟩
  go_enter Tryd.func11, Tryd.ntmps11
  go_wp2_with fail
  generalize (w.alloc (.cells #[.int .i64 W, .int .i64 S, .int .i64 B, .int .i64 T, .slice ad len cap] 24)).alloc (.cells #[.int .i64 1, .int .i64 (k : Nat), .int .i64 s, .int .i64 i, .int .u64 (m : Nat)] 35) = w0 at *
  obtain ⟨x0, x1, x2, x3, x4⟩ := X0.out.act
  have g0 : ((1 : Int) == 0) = false := rfl
  have g1 : ((1 : Int) == 1) = true := rfl
  have few := (h.out.st.bd k hk).1
  rw [hP, List.length_append, List.length_singleton] at few
  have gd := h.out.good k hk
  rw [hP] at gd
  have hxl : y ∉ l := fun hm => by have := gd.1; rw [List.nodup_append] at this; exact this.2.2 y hm y (by simp) rfl
  have hyb : Bd y := (h.out.st.bd k hk).2 y (by rw [hP]; simp)
  have gl := Lib.hid (gd.sub (List.sublist_append_left l [y]))
  clear gd
  have PO := Lib.hid (pop_yes sb clb pb W S B T len f n P L M k l y w0 (Lib.hid H0.out.st) hk hP hyb hxl (by omega))
  go_wp2_with fail
  refine PO.out.mono ?_
  rintro e z1 ⟨rfl, v1, r1, r2, r3⟩
  have H1 := Lib.hid (H0.out.stk hk r1 (r2.mono (fun b hb => .inl (by simp at hb ⊢; rcases hb with h | h <;> simp [h]))) (fun b e => .inl (by rw [← r3]; exact e)) gl.out K0.out.size)
  have K1 := Lib.hid (K0.out.trans (Kp.of_only r2 (fun b hb => H0.out.own hk b (by simp at hb ⊢; rcases hb with h | h <;> simp [h])) K0.out.size))
  have X1 : Hid (Bxs _ w.heap.size W S B T (.slice ad len cap) 1 (k : Nat) s i m) := X0.out.only r2 (fun b hb => by
    simp only [List.mem_cons, List.not_mem_nil, or_false] at hb
    rcases hb with rfl | rfl
    · exact LP.out.1
    · exact LP.out.2.1)
  clear r1 r2 PO x0 x1 x2 x3 x4 H0 K0 X0
  have b2 := box1 z1 (.cells #[.int .i64 y.1, .int .i64 y.2] 32)
  have D2 : Hid (Two5 (z1.alloc (.cells #[.int .i64 y.1, .int .i64 y.2] 32)) z1.heap.size 32 y.1 y.2) := Two5.new z1 _ _ _
  have H2 := Lib.hid (H1.out.next b2)
  have K2 := Lib.hid (K1.out.trans (Kp.of_below b2 K1.out.size))
  have X2 := Lib.hid (X1.out.next b2)
  go_upto_region 15 with fail
  clear b2
  generalize z1.alloc (.cells #[.int .i64 y.1, .int .i64 y.2] 32) = z2 at *
  generalize z1.heap.size = NB at *
  have hQ := H2.out.rows k hk
  rw [hP] at hQ
  have hat : (l ++ [y])[l.length]? = some y := by simp
  obtain ⟨lb, qc, hq, hcell, _⟩ := ORow.at bkEnc hQ hat
  rw [List.length_append, List.length_singleton] at hq
  have q0 := H2.out.cell hk
  rw [hq] at q0 hQ
  have HQ := Lib.hid hQ
  have Hq := Lib.hid hq
  have y0 : z2.cell? ⟨lb, l.length * 2, none⟩ = some (.int .i64 y.1) := hcell 0 _ rfl
  have y1 : z2.cell? ⟨lb, l.length * 2 + 1, none⟩ = some (.int .i64 y.2) := hcell 1 _ rfl
  clear hq hQ hcell hat
  have e1 : IntKind.i64.wrap (((l.length + 1 : Nat) : Int) - 1) = (l.length : Int) := by rw [IntKind.wrap_i64]; omega
  have es : l.length ≤ qc := by
    rcases ORow.cases HQ.out with ⟨h1, _⟩ | ⟨b', cap', cur, h1, _, h3, _⟩
    · cases h1
    · simp only [Value.slice.injEq] at h1
      have := h1.2.2
      simp at h3
      omega
  have d0 := two_c0 D2.out
  have d1 := two_c1 D2.out
  have j0 := cell_regrown q0
  have j1 := cell_regrown y0
  have j2 := cell_regrown y1
  have j3 := cell_regrown d0
  have j4 := cell_regrown d1
  go_upto_region 18 with fail
  refine wp_region_quiet_below (by kernel_rfl) (by kernel_rfl) ?_
  repeat (go_big_quiet_step (fail))
  refine wpQuiet_nil ?_
  intro _ hw'
  obtain ⟨⟨dq, osq⟩, hw''⟩ := hw'
  subst hw''
  have bg := below_regrown z2 dq osq
  have H3 := Lib.hid (H2.out.next bg)
  have K3 := Lib.hid (K2.out.trans (Kp.of_below bg K2.out.size))
  have X3 := Lib.hid (X2.out.next bg)
  have HQ3 := Lib.hid (ORow.next HQ.out bg)
  clear bg j0 j1 j2 j3 j4 q0 y0 y1 d0 d1 D2 HQ
  generalize Sort.grow (redrawn z2 dq) osq = z3 at *
  have q0 := H3.out.cell hk
  rw [Hq.out] at q0
  have ff := frozen_of (j := k) H3.out.pil
  have DR := BkRow.drop HQ3.out
  rw [List.dropLast_concat, Nat.add_sub_cancel] at DR
  have PT := H3.out.put hk DR (fun b e => by
    have e2 : (Q k).ownBlock = some b := by rw [Hq.out]; exact e
    refine ⟨H3.out.a4 k b hk e2, fun j hj e3 => ?_⟩
    unfold updL at e3
    by_cases a : j = k
    · rw [if_pos a, r3] at e3; exact H3.out.ap k k b hk hk (by simp only [updL, if_pos]; rw [r3]; exact e3) e2
    · rw [if_neg a] at e3; exact H3.out.ap j k b hj hk (by simp only [updL, if_neg a]; exact e3) e2)
  have H4 := Lib.hid PT.1
  have X4 : Hid (Bxs _ w.heap.size W S B T (.slice ad len cap) 1 (k : Nat) s i m) := X3.out.only PT.2 (fun b hb => by simp at hb; subst hb; exact LP.out.2.2)
  have K4 : Hid (Kp A w.heap.size w _) := K3.out.trans (Kp.of_only PT.2 (fun b hb => by simp at hb; subst hb; exact H3.out.a1.2.2.2) K3.out.size)
  clear PT DR HQ3
  go_upto_region 28 with fail
  clear q0 ff
  generalize z3.setCell ⟨qb, k, none⟩ (.slice (some ⟨lb, 0, none⟩) l.length qc) = z4 at *
  obtain ⟨qa, qc, hq⟩ := ORow.form (H4.out.rows k hk)
  have q0 := H4.out.cell hk
  rw [hq] at q0
  clear hq
  have j0 := cell_regrown q0
  have a1 := fun d os => Calls.regrown_of ((len_in sb clb pb W S B T len f n (updP P k l) (updL L k v1) M k (grow (redrawn z4 d) os) (Lib.hid (H4.out.st.next (below_regrown z4 d os))) hk).mono (by rintro e w' ⟨rfl, rfl⟩; exact ⟨rfl, Below.refl _ _⟩))
  refine wp_region_quiet_below (by kernel_rfl) (by kernel_rfl) ?_
  repeat (go_big_quiet_step (first | exact a1 _ _))
  refine wpQuiet_nil ?_
  intro _ hw'
  obtain ⟨⟨dq, osq⟩, hw''⟩ := hw'
  subst hw''
  have bg := below_regrown z4 dq osq
  have H5 := Lib.hid (H4.out.next bg)
  have K5 := Lib.hid (K4.out.trans (Kp.of_below bg K4.out.size))
  have X5 := Lib.hid (X4.out.next bg)
  clear bg
  generalize Sort.grow (redrawn z4 dq) osq = y5 at *
  clear a1 j0 q0
  go_wp2_with fail
  go_ret
  exact ⟨rfl, n, _, _, by omega, H5.out, K5.out⟩
set_option maxRecDepth 20000 in
set_option maxHeartbeats 8000000 in
theorem do_fill (k : Nat) (K s i : Int) (m : Nat) (w : World) (h : Hid (Pr w A sb clb pb qb W S B T len f n P P L M Q)) (hS : Hid (∀ y, Kp A w.heap.size w y → TabAt y ∧ RowI y ad len f)) (ok : Hid (ClsOk len f)) (s0 : 1 ≤ S) (s1 : S ≤ 1000) (hx : Bd (s, i)) (hm : m < 18446744073709551616) (hn : n ≤ 100000) (hk : k < len) (hK : K = 2) :
    Calls Tryd.prog 11 #[.agg #[.int .i64 W, .int .i64 S, .int .i64 B, .int .i64 T, .slice ad len cap], .pointer (some ⟨sb, 0, none⟩), .slice (some ⟨qb, 0, none⟩) len len, .agg #[.int .i64 K, .int .i64 (k : Nat), .int .i64 s, .int .i64 i, .int .u64 (m : Nat)]] w fun e w' => e = .returned (.bool true) ∧ DoR w A sb clb pb qb W S B T len f n P M k (fillL S len f k (P k) (bksD s m 0)) w' := by
  subst hK
  have hb1 := below_alloc w (.cells #[.int .i64 W, .int .i64 S, .int .i64 B, .int .i64 T, .slice ad len cap] 24)
  have hb2 := below_alloc (w.alloc (.cells #[.int .i64 W, .int .i64 S, .int .i64 B, .int .i64 T, .slice ad len cap] 24)) (.cells #[.int .i64 2, .int .i64 (k : Nat), .int .i64 s, .int .i64 i, .int .u64 (m : Nat)] 35)
  have hb := below_after hb1 hb2
  have X0 := Lib.hid (Bxs.two w W S B T (.slice ad len cap) 2 (k : Nat) s i m)
  have H0 := Lib.hid (h.out.start.next hb)
  have K0 : Hid (Kp A w.heap.size w _) := Kp.of_below hb (Nat.le_refl _)
  have B0 := Lib.hid hb
  clear hb1 hb2 hb
  have lk : (k : Int) < (len : Int) := by omega
  have LO : Hid (∀ b, (L k).ownBlock = some b → b < w.heap.size) := Lib.hid (fun b hb => (h.out.st.lst k hk).lt' hb)
  have LP : Hid (pb < w.heap.size ∧ M k < w.heap.size ∧ qb < w.heap.size) := Lib.hid ⟨heap_lt h.out.st.pil, (h.out.st.set k hk).lt, heap_lt h.out.pil⟩
  go_enter Tryd.func11, Tryd.ntmps11
  go_wp2_with fail
  generalize (w.alloc (.cells #[.int .i64 W, .int .i64 S, .int .i64 B, .int .i64 T, .slice ad len cap] 24)).alloc (.cells #[.int .i64 2, .int .i64 (k : Nat), .int .i64 s, .int .i64 i, .int .u64 (m : Nat)] 35) = w0 at *
  obtain ⟨x0, x1, x2, x3, x4⟩ := X0.out.act
  have g0 : ((2 : Int) == 0) = false := rfl
  have g1 : ((2 : Int) == 1) = false := rfl
  have g2 : ((2 : Int) == 2) = true := rfl
  have few : (P k).length ≤ 100000 := by have := (h.out.st.bd k hk).1; omega
  have hs : (Lit.int .i64 s).wf = true := hx.1
  go_upto_region 21 with fail
  refine wp_region_noPanic ?_
  refine wp_region_held_drew (S := fun w' => Bxs w' w.heap.size W S B T (.slice ad len cap) 2 (k : Nat) s i m) (by kernel_rfl) (X0.out.next ((Below.refl w0.heap.size w0).drew)) (fun hHeld => ?_)
  have hb := (Below.refl w0.heap.size w0).drew
  have H1 := Lib.hid (H0.out.next hb)
  have K1 := Lib.hid (K0.out.trans (Kp.of_below hb K0.out.size))
  have X1 := Lib.hid (X0.out.next hb)
  clear hb H0 K0 X0 x0 x1 x2 x3 x4
  generalize w0.drew = z0 at *
  obtain ⟨qa, qc, hq⟩ := ORow.form (H1.out.rows k hk)
  have q0 := H1.out.cell hk
  have Q1 := Lib.hid (H1.out.rows k hk)
  rw [hq] at q0 Q1
  have HQ := Lib.hid hq
  clear hq
  have RI := Lib.hid (hS.out _ K1.out).2
  refine wpAnyH_take (i := 0) (v := .slice (some ⟨qb, 0, none⟩) len len) rfl (by kernel_rfl) (by kernel_rfl) (by kernel_rfl) (fun _ _ _ h => h) (Or.inl ⟨by rfl, fun w hSw => by have b0 := two_x hSw; obtain ⟨c0, c1, c2, c3, c4, x0, x1, x2, x3, x4⟩ := b0; go_simp⟩) (by assumption) ?_
  change wpAnyH _ _ _ _ _ _ _ (Act.put _ (some 155) _) _
  simp only [Act.put, List.setIfInBounds_toArray, List.set_cons_zero, List.set_cons_succ]
  refine wpAnyH_take (i := 1) (v := .int .i64 (k : Nat)) rfl (by kernel_rfl) (by kernel_rfl) (by kernel_rfl) (fun _ _ _ h => h) (Or.inl ⟨by rfl, fun w hSw => by have b0 := two_x hSw; obtain ⟨c0, c1, c2, c3, c4, x0, x1, x2, x3, x4⟩ := b0; go_simp⟩) (by assumption) ?_
  change wpAnyH _ _ _ _ _ _ _ (Act.put _ (some 156) _) _
  simp only [Act.put, List.setIfInBounds_toArray, List.set_cons_zero, List.set_cons_succ]
  refine wpAnyH_take (i := 2) (v := .agg #[.int .i64 W, .int .i64 S, .int .i64 B, .int .i64 T, .slice ad len cap]) rfl (by kernel_rfl) (by kernel_rfl) (by kernel_rfl) (fun _ _ _ h => h) (Or.inl ⟨by rfl, fun w hSw => by have b0 := two_x hSw; obtain ⟨c0, c1, c2, c3, c4, x0, x1, x2, x3, x4⟩ := b0; go_simp⟩) (by assumption) ?_
  change wpAnyH _ _ _ _ _ _ _ (Act.put _ (some 157) _) _
  simp only [Act.put, List.setIfInBounds_toArray, List.set_cons_zero, List.set_cons_succ]
  refine wpAnyH_take (i := 3) (v := .int .i64 (k : Nat)) rfl (by kernel_rfl) (by kernel_rfl) (by kernel_rfl) (fun _ _ _ h => h) (Or.inl ⟨by rfl, fun w hSw => by have b0 := two_x hSw; obtain ⟨c0, c1, c2, c3, c4, x0, x1, x2, x3, x4⟩ := b0; go_simp⟩) (by assumption) ?_
  change wpAnyH _ _ _ _ _ _ _ (Act.put _ (some 158) _) _
  simp only [Act.put, List.setIfInBounds_toArray, List.set_cons_zero, List.set_cons_succ]
  refine wpAnyH_take (i := 4) (v := .slice (some ⟨qb, 0, none⟩) len len) rfl (by kernel_rfl) (by kernel_rfl) (by kernel_rfl) (fun _ _ _ h => h) (Or.inl ⟨by rfl, fun w hSw => by have b0 := two_x hSw; obtain ⟨c0, c1, c2, c3, c4, x0, x1, x2, x3, x4⟩ := b0; go_simp⟩) (by assumption) ?_
  change wpAnyH _ _ _ _ _ _ _ (Act.put _ (some 159) _) _
  simp only [Act.put, List.setIfInBounds_toArray, List.set_cons_zero, List.set_cons_succ]
  refine wpAnyH_take (i := 5) (v := .int .i64 (k : Nat)) rfl (by kernel_rfl) (by kernel_rfl) (by kernel_rfl) (fun _ _ _ h => h) (Or.inl ⟨by rfl, fun w hSw => by have b0 := two_x hSw; obtain ⟨c0, c1, c2, c3, c4, x0, x1, x2, x3, x4⟩ := b0; go_simp⟩) (by assumption) ?_
  change wpAnyH _ _ _ _ _ _ _ (Act.put _ (some 160) _) _
  simp only [Act.put, List.setIfInBounds_toArray, List.set_cons_zero, List.set_cons_succ]
  refine wpAnyH_take (i := 6) (v := .pointer (some ⟨qb, k, none⟩)) rfl (by kernel_rfl) (by kernel_rfl) (by kernel_rfl) (fun _ _ _ h => h) (Or.inl ⟨by rfl, fun w hSw => by have b0 := two_x hSw; obtain ⟨c0, c1, c2, c3, c4, x0, x1, x2, x3, x4⟩ := b0; go_simp⟩) (by assumption) ?_
  change wpAnyH _ _ _ _ _ _ _ (Act.put _ (some 161) _) _
  simp only [Act.put, List.setIfInBounds_toArray, List.set_cons_zero, List.set_cons_succ]
  refine wpAnyH_take (i := 8) (v := .pointer (some ⟨w.heap.size + 1, 2, none⟩)) rfl (by kernel_rfl) (by kernel_rfl) (by kernel_rfl) (fun _ _ _ h => h) (Or.inl ⟨by rfl, fun w hSw => by have b0 := two_x hSw; obtain ⟨c0, c1, c2, c3, c4, x0, x1, x2, x3, x4⟩ := b0; go_simp⟩) (by assumption) ?_
  change wpAnyH _ _ _ _ _ _ _ (Act.put _ (some 163) _) _
  simp only [Act.put, List.setIfInBounds_toArray, List.set_cons_zero, List.set_cons_succ]
  refine wpAnyH_take (i := 9) (v := .pointer (some ⟨w.heap.size + 1, 2, none⟩)) rfl (by kernel_rfl) (by kernel_rfl) (by kernel_rfl) (fun _ _ _ h => h) (Or.inl ⟨by rfl, fun w hSw => by have b0 := two_x hSw; obtain ⟨c0, c1, c2, c3, c4, x0, x1, x2, x3, x4⟩ := b0; go_simp⟩) (by assumption) ?_
  change wpAnyH _ _ _ _ _ _ _ (Act.put _ (some 164) _) _
  simp only [Act.put, List.setIfInBounds_toArray, List.set_cons_zero, List.set_cons_succ]
  refine wpAnyH_take (i := 10) (v := .int .i64 s) rfl (by kernel_rfl) (by kernel_rfl) (by kernel_rfl) (fun _ _ _ h => h) (Or.inl ⟨by rfl, fun w hSw => by have b0 := two_x hSw; obtain ⟨c0, c1, c2, c3, c4, x0, x1, x2, x3, x4⟩ := b0; go_simp⟩) (by assumption) ?_
  change wpAnyH _ _ _ _ _ _ _ (Act.put _ (some 165) _) _
  simp only [Act.put, List.setIfInBounds_toArray, List.set_cons_zero, List.set_cons_succ]
  refine wpAnyH_take (i := 11) (v := .pointer (some ⟨w.heap.size + 1, 4, none⟩)) rfl (by kernel_rfl) (by kernel_rfl) (by kernel_rfl) (fun _ _ _ h => h) (Or.inl ⟨by rfl, fun w hSw => by have b0 := two_x hSw; obtain ⟨c0, c1, c2, c3, c4, x0, x1, x2, x3, x4⟩ := b0; go_simp⟩) (by assumption) ?_
  change wpAnyH _ _ _ _ _ _ _ (Act.put _ (some 166) _) _
  simp only [Act.put, List.setIfInBounds_toArray, List.set_cons_zero, List.set_cons_succ]
  refine wpAnyH_take (i := 12) (v := .int .u64 (m : Nat)) rfl (by kernel_rfl) (by kernel_rfl) (by kernel_rfl) (fun _ _ _ h => h) (Or.inl ⟨by rfl, fun w hSw => by have b0 := two_x hSw; obtain ⟨c0, c1, c2, c3, c4, x0, x1, x2, x3, x4⟩ := b0; go_simp⟩) (by assumption) ?_
  change wpAnyH _ _ _ _ _ _ _ (Act.put _ (some 167) _) _
  simp only [Act.put, List.setIfInBounds_toArray, List.set_cons_zero, List.set_cons_succ]
  refine wpAnyH_ready (rs := [7]) (by kernel_rfl) (by simp) ?_
  refine AllReadyH.cons rfl (fun K hK => ?_) (AllReadyH.nil)
  go_simp
  refine hK.out _ _ (X1.out) (fun hHeld1 => ?_)
  clear hK K
  refine wpAnyH_ready (rs := [13]) (by kernel_rfl) (by simp) ?_
  refine AllReadyH.cons rfl (fun K hK => ?_) (AllReadyH.nil)
  refine step_enter (F := 26) (vals := #[.agg #[.int .i64 W, .int .i64 S, .int .i64 B, .int .i64 T, .slice ad len cap], .int .i64 (k : Nat), .slice qa (P k).length qc, .int .i64 s, .int .u64 (m : Nat)]) rfl (by kernel_rfl) ?_
  refine (rfill_any W S B T ad len cap f k _ (P k) s m z0 RI Q1 (by omega) ok (by omega) s1 hm).mono ?_
  rintro e z2 ⟨v', rfl, r1, hb, r3⟩
  obtain ⟨ua, uc, rfl⟩ := ORow.form r1
  have H2 := Lib.hid (H1.out.next hb)
  have K2 := Lib.hid (K1.out.trans (Kp.of_below hb K1.out.size))
  have X2 := Lib.hid (X1.out.next hb)
  have BB := Lib.hid hb
  have V1 := Lib.hid r1
  have VO : Hid (∀ b, (Value.slice ua (fillL S len f k (P k) (bksD s m 0)).length uc).ownBlock = some b → ext A w.heap.size z2 b ∧ ∀ j, j < len → (L j).ownBlock ≠ some b) := Lib.hid (fun b e => by
    rcases r3 with h1 | h1
    · rw [h1, ← HQ.out] at e; exact ⟨H2.out.a4 k b hk e, fun j hj e2 => H2.out.ap j k b hj hk e2 e⟩
    · have h2 := h1 b e; exact ⟨.inr ⟨by have := K1.out.size; omega, BkRow.lt' V1.out e⟩, fun j hj e2 => by have := (H1.out.st.lst j hj).lt' e2; omega⟩)
  show K (Act.put _ (some 168) _) z2
  refine hK.out _ _ (X2.out) (fun hHeld2 => ?_)
  clear hK K hb r1 r3
  simp only [Act.put, List.setIfInBounds_toArray, List.set_cons_zero, List.set_cons_succ]
  refine wpAnyH_take (i := 14) (v := .pointer (some ⟨qb, k, none⟩)) rfl (by kernel_rfl) (by kernel_rfl) (by kernel_rfl) (fun _ _ _ h => h) (Or.inl ⟨by rfl, fun w hSw => by have b0 := two_x hSw; obtain ⟨c0, c1, c2, c3, c4, x0, x1, x2, x3, x4⟩ := b0; go_simp⟩) (by assumption) ?_
  change wpAnyH _ _ _ _ _ _ _ (Act.put _ (some 169) _) _
  simp only [Act.put, List.setIfInBounds_toArray, List.set_cons_zero, List.set_cons_succ]
  refine wpAnyH_ready (rs := [15]) (by kernel_rfl) (by simp) ?_
  refine AllReadyH.cons rfl (fun K hK => ?_) (AllReadyH.nil)
  have q1 := H2.out.cell hk
  have ff := frozen_of (j := k) H2.out.pil
  have PT := H2.out.put hk V1.out VO.out
  have H3 := Lib.hid PT.1
  have X3 : Hid (Bxs _ w.heap.size W S B T (.slice ad len cap) 2 (k : Nat) s i m) := X2.out.only PT.2 (fun b hb => by simp at hb; subst hb; exact LP.out.2.2)
  have K3 : Hid (Kp A w.heap.size w _) := K2.out.trans (Kp.of_only PT.2 (fun b hb => by simp at hb; subst hb; exact H2.out.a1.2.2.2) K2.out.size)
  clear PT
  go_simp
  refine hK.out _ _ (X3.out) (fun hHeld3 => ?_)
  clear hK K q1 ff
  generalize z2.setCell ⟨qb, k, none⟩ (Value.slice ua (fillL S len f k (P k) (bksD s m 0)).length uc) = z3 at *
  refine ⟨by kernel_rfl, ?_⟩
  refine NoPanic.normal ?_
  obtain ⟨x0, x1, x2, x3, x4⟩ := X3.out.act
  have FU := Lib.hid (fill_in sb clb pb W S B T len f n P L M k s m z3 (Lib.hid H3.out.st) (Lib.hid (hS.out _ K3.out).1) hk ok (by omega) s1 hm hs (by omega))
  rw [bks_mem, ← memD_all] at FU
  have gp := Lib.hid ((h.out.good k hk).fill (bksD s m 0))
  go_wp2_with fail
  refine FU.out.mono ?_
  rintro e z4 ⟨⟨v, rfl⟩, n4, v4, hn4, r1, r2, r3⟩
  have H4 := Lib.hid (H3.out.stk hk r1 r2 (fun b e => by
    rcases r3 with h1 | ⟨b', h1, h2⟩
    · rw [h1] at e; exact .inl e
    · rw [h1] at e; cases e; exact .inr h2) gp.out K3.out.size)
  have K4 := Lib.hid (K3.out.trans (Kp.of_only r2 (H3.out.own hk) K3.out.size))
  have X4 : Hid (Bxs _ w.heap.size W S B T (.slice ad len cap) 2 (k : Nat) s i m) := X3.out.only r2 (fun b hb => by
    simp only [List.cons_append, List.nil_append, List.mem_cons, Option.mem_toList] at hb
    rcases hb with rfl | rfl | e
    · exact LP.out.1
    · exact LP.out.2.1
    · exact LO.out b e)
  clear r1 r2 r3 FU x0 x1 x2 x3 x4
  go_upto_region 28 with fail
  obtain ⟨qa, qc, hq⟩ := ORow.form (H4.out.rows k hk)
  have q0 := H4.out.cell hk
  rw [hq] at q0
  clear hq
  have j0 := cell_regrown q0
  have a1 := fun d os => Calls.regrown_of ((len_in sb clb pb W S B T len f n4 (updP P k (fillL S len f k (P k) (bksD s m 0))) (updL L k v4) M k (grow (redrawn z4 d) os) (Lib.hid (H4.out.st.next (below_regrown z4 d os))) hk).mono (by rintro e w' ⟨rfl, rfl⟩; exact ⟨rfl, Below.refl _ _⟩))
  refine wp_region_quiet_below (by kernel_rfl) (by kernel_rfl) ?_
  repeat (go_big_quiet_step (first | exact a1 _ _))
  refine wpQuiet_nil ?_
  intro _ hw'
  obtain ⟨⟨dq, osq⟩, hw''⟩ := hw'
  subst hw''
  have bg := below_regrown z4 dq osq
  have H5 := Lib.hid (H4.out.next bg)
  have K5 := Lib.hid (K4.out.trans (Kp.of_below bg K4.out.size))
  have X5 := Lib.hid (X4.out.next bg)
  clear bg
  generalize Sort.grow (redrawn z4 dq) osq = y5 at *
  clear a1 j0 q0
  go_wp2_with fail
  go_ret
  exact ⟨rfl, n4, _, _, by omega, H5.out, K5.out⟩
end
end Go.Proofs.YtagacljfpakgnaaDoor
