/-
  Contracts of a Layer: Lay, Step.
-/
import Derived.Test.YtlpaijobcopbnaaSlot4
namespace Go.Proofs.Ytlpaijobcopbnaa
open Go.RowKit Go.Sort

/-- Where the rest of the words begins: a slice that has nothing left stays where it was. -/
def layO (n j : Nat) : Nat := if j = n then j - 1 else j
/-- A layer in block g, over the memory in mg and mh; its words in block b, j of them laid. -/
structure LayV (u : World) (g mg mh b j : Nat) (A : Int) (s : MSt) (ws : List Nat) : Prop where
  head : u.heap[g]? = some (.cells #[.pointer (some ⟨mg, 0, none⟩), .int .i64 A, .slice (some ⟨b, layO ws.length j, none⟩) (ws.length - j) (ws.length - j)] 58 (0, 0))
  body : u.heap[b]? = some (.cells (wordsOf ws) 35 (0, 0))
  mem : MemAt u mg mh s
  gm : g ≠ mg
  gh : g ≠ mh
  bg : b ≠ g
  bm : b ≠ mg
  bh : b ≠ mh
  le : j ≤ ws.length
theorem LayV.c0 {u : World} {g mg mh b j : Nat} {A : Int} {s : MSt} {ws : List Nat} (h : LayV u g mg mh b j A s ws) : u.cell? ⟨g, 0, none⟩ = some (.pointer (some ⟨mg, 0, none⟩)) := cell_of h.head
theorem LayV.c1 {u : World} {g mg mh b j : Nat} {A : Int} {s : MSt} {ws : List Nat} (h : LayV u g mg mh b j A s ws) : u.cell? ⟨g, 1, none⟩ = some (.int .i64 A) := cell_of h.head
theorem LayV.c2 {u : World} {g mg mh b j : Nat} {A : Int} {s : MSt} {ws : List Nat} (h : LayV u g mg mh b j A s ws) : u.cell? ⟨g, 2, none⟩ = some (.slice (some ⟨b, layO ws.length j, none⟩) (ws.length - j) (ws.length - j)) := cell_of h.head
theorem LayV.fz {u : World} {g mg mh b j : Nat} {A : Int} {s : MSt} {ws : List Nat} (h : LayV u g mg mh b j A s ws) (i : Nat) : u.frozen? ⟨g, i, none⟩ = false := frozen_of h.head
theorem LayV.cw {u : World} {g mg mh b j : Nat} {A : Int} {s : MSt} {ws : List Nat} (h : LayV u g mg mh b j A s ws) (hj : j < ws.length) : u.cell? ⟨b, j, none⟩ = some (.int .u64 ((ws.getD j 0 : Nat) : Int)) := by
  rw [cell_of h.body]; simp [wordsOf, hj]
theorem LayV.lt {u : World} {g mg mh b j : Nat} {A : Int} {s : MSt} {ws : List Nat} (h : LayV u g mg mh b j A s ws) : g < u.heap.size ∧ b < u.heap.size := ⟨heap_lt h.head, heap_lt h.body⟩
theorem LayV.stay {l : List Nat} {u u' : World} {g mg mh b j : Nat} {A : Int} {s : MSt} {ws : List Nat} (h : LayV u g mg mh b j A s ws) (x : Only l u u') (hn : ∀ k ∈ [g, mg, mh, b], k ∉ l) : LayV u' g mg mh b j A s ws :=
  ⟨x.at h.head (hn g (by simp)), x.at h.body (hn b (by simp)), h.mem.stay x (hn mg (by simp)) (hn mh (by simp)), h.gm, h.gh, h.bg, h.bm, h.bh, h.le⟩
theorem LayV.next {u u' : World} {g mg mh b j : Nat} {A : Int} {s : MSt} {ws : List Nat} (h : LayV u g mg mh b j A s ws) (x : Below u.heap.size u u') : LayV u' g mg mh b j A s ws :=
  h.stay (l := []) (Only.of_below x) (fun _ _ => by simp)
theorem LayV.mem' {u u' : World} {g mg mh b j : Nat} {A : Int} {s s' : MSt} {ws : List Nat} (h : LayV u g mg mh b j A s ws) (m : MemAt u' mg mh s') (x : Else mg mh u u') : LayV u' g mg mh b j A s' ws :=
  ⟨(x.block g h.lt.1 h.gm h.gh).trans h.head, (x.block b h.lt.2 h.bm h.bh).trans h.body, m, h.gm, h.gh, h.bg, h.bm, h.bh, h.le⟩
/-- One word more is laid. -/
theorem LayV.put {u : World} {g mg mh b j : Nat} {A : Int} {s : MSt} {ws : List Nat} (h : LayV u g mg mh b j A s ws) (A' : Int) (hj : j < ws.length) : LayV ((u.setCell ⟨g, 1, none⟩ (.int .i64 A')).setCell ⟨g, 2, none⟩ (.slice (some ⟨b, layO ws.length (j + 1), none⟩) (ws.length - (j + 1)) (ws.length - (j + 1)))) g mg mh b (j + 1) A' s ws := by
  have X : Only [g] u ((u.setCell ⟨g, 1, none⟩ (.int .i64 A')).setCell ⟨g, 2, none⟩ (.slice (some ⟨b, layO ws.length (j + 1), none⟩) (ws.length - (j + 1)) (ws.length - (j + 1)))) := (Only.of_set (by simp) _).trans (Only.of_set (by simp) _)
  refine ⟨?_, X.at h.body (by simpa using h.bg), h.mem.stay X (by simpa using h.gm.symm) (by simpa using h.gh.symm), h.gm, h.gh, h.bg, h.bm, h.bh, by omega⟩
  rw [set_of (set_of h.head _)]; rfl

theorem lay_any (mg mh : Nat) (s : MSt) (A : Int) (ao : Option Addr) (n c : Nat) (f : Nat → Nat) (w : World) (m : MemAt w mg mh s) (hr : Row64 w ao n f) (hn : n ≤ 16777216) :
    Calls Try.prog 26 #[.pointer (some ⟨mg, 0, none⟩), .int .i64 A, .slice ao n c] w fun e w' => ∃ g b, e = .returned (.pointer (some ⟨g, 0, none⟩)) ∧ LayV w' g mg mh b 0 A s (listOf f n) ∧ w.heap.size ≤ g ∧ w.heap.size ≤ b ∧ Below w.heap.size w w' := by
  have M := Lib.hid m
  have FR := Lib.hid (fresh_any ao n c f w hr hn)
  clear m hr
  go_enter Try.func26, Try.ntmps26
  go_wp2_with fail
  refine FR.out.mono ?_
  rintro e w1 ⟨b, rfl, h1, h2, h3⟩
  have H1 := Lib.hid h1
  have H3 := Lib.hid h3
  clear h1 h3 FR
  go_wp2_with fail
  have hm := M.out.lt
  have hb := heap_lt H1.out
  have hs := H3.out.size
  have B2 := below_two H3.out (box1 w1 (.cells #[.pointer (some ⟨mg, 0, none⟩), .int .i64 A, .slice (some ⟨b, 0, none⟩) n n] 58))
  have HD := heap_new w1 (.cells #[.pointer (some ⟨mg, 0, none⟩), .int .i64 A, .slice (some ⟨b, 0, none⟩) n n] 58)
  have HE := ((box1 w1 (.cells #[.pointer (some ⟨mg, 0, none⟩), .int .i64 A, .slice (some ⟨b, 0, none⟩) n n] 58)).block b hb).trans H1.out
  go_ret
  exact ⟨w1.heap.size, b, rfl, ⟨by rw [listOf_len, show layO n 0 = 0 from by unfold layO; split <;> rfl]; exact HD, HE, M.out.next B2, by omega, by omega, by omega, by omega, by omega, Nat.zero_le _⟩, hs, h2, B2⟩
theorem lstep_done (g mg mh b j : Nat) (A : Int) (s : MSt) (ws : List Nat) (w : World) (h : LayV w g mg mh b j A s ws) (hj : j = ws.length) :
    Calls Try.prog 27 #[.pointer (some ⟨g, 0, none⟩)] w fun e w' => e = .returned (.bool true) ∧ w = w' := by
  have c2 := h.c2
  rw [show ws.length - j = 0 by omega] at c2
  clear h hj
  go_enter Try.func27, Try.ntmps27
  go_wp2
  go_ret
  exact ⟨rfl, rfl⟩

set_option maxRecDepth 20000 in
set_option maxHeartbeats 4000000 in
theorem lstep_more (g mg mh b j : Nat) (A : Int) (s : MSt) (ws : List Nat) (w : World) (h : Hid (LayV w g mg mh b j A s ws)) (hj : j < ws.length) (few : ws.length ≤ 16777216) (hA : -4611686018427387904 ≤ A) (hA2 : A < 4611686018427387904) (ho : s.ops < 4611686018427387904) (hf : s.faults < 4611686018427387904) :
    Calls Try.prog 27 #[.pointer (some ⟨g, 0, none⟩)] w fun e w' => e = .returned (.bool (decide (j + 1 = ws.length))) ∧ LayV w' g mg mh b (j + 1) (A + 1) ((s.begun 2 A).put A (ws.getD j 0)) ws ∧ Only [g, mg, mh] w w' := by
  have ST := Lib.hid fun w1 m1 => store_any mg mh s A (ws.getD j 0) w1 m1 ho hf
  have c0 := h.out.c0
  have c1 := h.out.c1
  have c2 := h.out.c2
  have cw := h.out.cw hj
  have HF := Lib.hid fun u s' (hu : LayV u g mg mh b j A s' ws) => hu.put (A + 1) hj
  have HJ := Lib.hid hj
  have HR : Hid ((((ws.length - (j + 1) : Nat) : Int) == 0) = decide (j + 1 = ws.length)) := by show _ = _; rw [Bool.eq_iff_iff]; simp; omega
  obtain ⟨q, hq⟩ : ∃ q, ws.length - j = q + 1 := ⟨ws.length - j - 1, by omega⟩
  have hq2 : ws.length - (j + 1) = q := by omega
  have hqq : q < 16777216 := by omega
  rw [hq2] at HR HF
  have hO : layO ws.length j = j := by unfold layO; rw [if_neg (by omega)]
  have HO1 : Hid (q = 0 → layO ws.length (j + 1) = j) := fun h => by unfold layO; rw [if_pos (by omega)]; rfl
  have HO2 : Hid (q ≠ 0 → layO ws.length (j + 1) = j + 1) := fun h => by unfold layO; rw [if_neg (by omega)]
  rw [hq, hO] at c2
  have C2 := Lib.hid fun u s' (hu : LayV u g mg mh b j A s' ws) => (show u.cell? ⟨g, 2, none⟩ = some (.slice (some ⟨b, j, none⟩) (q + 1) (q + 1)) from by have := hu.c2; rw [hq, hO] at this; exact this)
  have CW := Lib.hid fun u s' (hu : LayV u g mg mh b j A s' ws) => hu.cw hj
  generalize hX : ws.getD j 0 = X at *
  clear hX hq hq2 hj few ho hf hO
  have n0 : ((q : Int) + 1 == 0) = false := by simp; omega
  go_enter Try.func27, Try.ntmps27
  go_wp2_with fail
  go_cut [0] (fun v0 wx => v0 = .pointer (some ⟨g, 0, none⟩) ∧ LayV wx g mg mh b j A ((s.begun 2 A).put A X) ws ∧ Only [g, mg, mh] w wx)
  case first =>
    refine wp_region_noPanic ?_
    refine wp_region_held_drew (S := fun w' => w'.cell? ⟨g, 0, none⟩ = some (.pointer (some ⟨mg, 0, none⟩)) ∧ w'.cell? ⟨g, 1, none⟩ = some (.int .i64 A) ∧ w'.cell? ⟨g, 2, none⟩ = some (.slice (some ⟨b, j, none⟩) (q + 1) (q + 1)) ∧ w'.cell? ⟨b, j, none⟩ = some (.int .u64 (X : Int))) (by kernel_rfl) ⟨c0, c1, c2, cw⟩ (fun hHeld => ?_)
    have C0 := Lib.hid (h.out.next (Below.refl _ w).drew)
    have O0 : Hid (Only [g, mg, mh] w w.drew) := Only.of_below (Below.refl _ _).drew
    clear c0 c1 c2 cw
    generalize w.drew = x0 at *
    refine wpAnyH_take (i := 0) (v := .pointer (some ⟨g, 0, none⟩)) rfl (by kernel_rfl) (by kernel_rfl) (by kernel_rfl) (fun _ _ _ h => h) (Or.inl ⟨by rfl, fun w hSw => by go_simp⟩) (by assumption) ?_
    change wpAnyH _ _ _ _ _ _ _ (Act.put _ (some 13) _) _
    simp only [Act.put, List.setIfInBounds_toArray, List.set_cons_zero, List.set_cons_succ]
    refine wpAnyH_take (i := 1) (v := .pointer (some ⟨g, 0, none⟩)) rfl (by kernel_rfl) (by kernel_rfl) (by kernel_rfl) (fun _ _ _ h => h) (Or.inl ⟨by rfl, fun w hSw => by go_simp⟩) (by assumption) ?_
    change wpAnyH _ _ _ _ _ _ _ (Act.put _ (some 14) _) _
    simp only [Act.put, List.setIfInBounds_toArray, List.set_cons_zero, List.set_cons_succ]
    refine wpAnyH_take (i := 2) (v := .pointer (some ⟨g, 0, none⟩)) rfl (by kernel_rfl) (by kernel_rfl) (by kernel_rfl) (fun _ _ _ h => h) (Or.inl ⟨by rfl, fun w hSw => by go_simp⟩) (by assumption) ?_
    change wpAnyH _ _ _ _ _ _ _ (Act.put _ (some 15) _) _
    simp only [Act.put, List.setIfInBounds_toArray, List.set_cons_zero, List.set_cons_succ]
    refine wpAnyH_take (i := 3) (v := .pointer (some ⟨mg, 0, none⟩)) rfl (by kernel_rfl) (by kernel_rfl) (by kernel_rfl) (fun _ _ _ h => h) (Or.inl ⟨by rfl, fun w hSw => by obtain ⟨s0, s1, s2, s3⟩ := hSw; go_simp⟩) (by assumption) ?_
    change wpAnyH _ _ _ _ _ _ _ (Act.put _ (some 16) _) _
    simp only [Act.put, List.setIfInBounds_toArray, List.set_cons_zero, List.set_cons_succ]
    refine wpAnyH_take (i := 4) (v := .pointer (some ⟨g, 0, none⟩)) rfl (by kernel_rfl) (by kernel_rfl) (by kernel_rfl) (fun _ _ _ h => h) (Or.inl ⟨by rfl, fun w hSw => by go_simp⟩) (by assumption) ?_
    change wpAnyH _ _ _ _ _ _ _ (Act.put _ (some 17) _) _
    simp only [Act.put, List.setIfInBounds_toArray, List.set_cons_zero, List.set_cons_succ]
    refine wpAnyH_take (i := 5) (v := .pointer (some ⟨g, 0, none⟩)) rfl (by kernel_rfl) (by kernel_rfl) (by kernel_rfl) (fun _ _ _ h => h) (Or.inl ⟨by rfl, fun w hSw => by go_simp⟩) (by assumption) ?_
    change wpAnyH _ _ _ _ _ _ _ (Act.put _ (some 18) _) _
    simp only [Act.put, List.setIfInBounds_toArray, List.set_cons_zero, List.set_cons_succ]
    refine wpAnyH_take (i := 6) (v := .pointer (some ⟨g, 1, none⟩)) rfl (by kernel_rfl) (by kernel_rfl) (by kernel_rfl) (fun _ _ _ h => h) (Or.inl ⟨by rfl, fun w hSw => by go_simp⟩) (by assumption) ?_
    change wpAnyH _ _ _ _ _ _ _ (Act.put _ (some 19) _) _
    simp only [Act.put, List.setIfInBounds_toArray, List.set_cons_zero, List.set_cons_succ]
    refine wpAnyH_take (i := 7) (v := .int .i64 A) rfl (by kernel_rfl) (by kernel_rfl) (by kernel_rfl) (fun _ _ _ h => h) (Or.inl ⟨by rfl, fun w hSw => by obtain ⟨s0, s1, s2, s3⟩ := hSw; go_simp⟩) (by assumption) ?_
    change wpAnyH _ _ _ _ _ _ _ (Act.put _ (some 20) _) _
    simp only [Act.put, List.setIfInBounds_toArray, List.set_cons_zero, List.set_cons_succ]
    refine wpAnyH_take (i := 8) (v := .pointer (some ⟨g, 0, none⟩)) rfl (by kernel_rfl) (by kernel_rfl) (by kernel_rfl) (fun _ _ _ h => h) (Or.inl ⟨by rfl, fun w hSw => by go_simp⟩) (by assumption) ?_
    change wpAnyH _ _ _ _ _ _ _ (Act.put _ (some 21) _) _
    simp only [Act.put, List.setIfInBounds_toArray, List.set_cons_zero, List.set_cons_succ]
    refine wpAnyH_take (i := 9) (v := .pointer (some ⟨g, 0, none⟩)) rfl (by kernel_rfl) (by kernel_rfl) (by kernel_rfl) (fun _ _ _ h => h) (Or.inl ⟨by rfl, fun w hSw => by go_simp⟩) (by assumption) ?_
    change wpAnyH _ _ _ _ _ _ _ (Act.put _ (some 22) _) _
    simp only [Act.put, List.setIfInBounds_toArray, List.set_cons_zero, List.set_cons_succ]
    refine wpAnyH_take (i := 10) (v := .pointer (some ⟨g, 2, none⟩)) rfl (by kernel_rfl) (by kernel_rfl) (by kernel_rfl) (fun _ _ _ h => h) (Or.inl ⟨by rfl, fun w hSw => by go_simp⟩) (by assumption) ?_
    change wpAnyH _ _ _ _ _ _ _ (Act.put _ (some 23) _) _
    simp only [Act.put, List.setIfInBounds_toArray, List.set_cons_zero, List.set_cons_succ]
    refine wpAnyH_take (i := 11) (v := .slice (some ⟨b, j, none⟩) (q + 1) (q + 1)) rfl (by kernel_rfl) (by kernel_rfl) (by kernel_rfl) (fun _ _ _ h => h) (Or.inl ⟨by rfl, fun w hSw => by obtain ⟨s0, s1, s2, s3⟩ := hSw; go_simp⟩) (by assumption) ?_
    change wpAnyH _ _ _ _ _ _ _ (Act.put _ (some 24) _) _
    simp only [Act.put, List.setIfInBounds_toArray, List.set_cons_zero, List.set_cons_succ]
    refine wpAnyH_take (i := 12) (v := .pointer (some ⟨b, j, none⟩)) rfl (by kernel_rfl) (by kernel_rfl) (by kernel_rfl) (fun _ _ _ h => h) (Or.inl ⟨by rfl, fun w hSw => by go_simp⟩) (by assumption) ?_
    change wpAnyH _ _ _ _ _ _ _ (Act.put _ (some 25) _) _
    simp only [Act.put, List.setIfInBounds_toArray, List.set_cons_zero, List.set_cons_succ]
    refine wpAnyH_take (i := 13) (v := .int .u64 (X : Int)) rfl (by kernel_rfl) (by kernel_rfl) (by kernel_rfl) (fun _ _ _ h => h) (Or.inl ⟨by rfl, fun w hSw => by obtain ⟨s0, s1, s2, s3⟩ := hSw; go_simp⟩) (by assumption) ?_
    change wpAnyH _ _ _ _ _ _ _ (Act.put _ (some 26) _) _
    simp only [Act.put, List.setIfInBounds_toArray, List.set_cons_zero, List.set_cons_succ]
    refine wpAnyH_ready (rs := [14]) (by kernel_rfl) (by simp) ?_
    refine AllReadyH.cons rfl (fun K hK => ?_) AllReadyH.nil
    clear hHeld
    go_simp
    refine (ST.out _ C0.out.mem).mono ?_
    rintro e x1 ⟨rfl, hm1, he1⟩
    have C1 := Lib.hid (C0.out.mem' hm1 he1)
    have O1 := Lib.hid (O0.out.trans (Only.of_else he1 (by simp) (by simp)))
    clear hm1 he1
    go_wp2_with fail
    refine hK.out _ _ ⟨C1.out.c0, C1.out.c1, C2.out _ _ C1.out, CW.out _ _ C1.out⟩ (fun hHeld => ?_)
    clear hK K hHeld
    refine wpAnyH_done (by kernel_rfl) ?_ _
    refine NoPanic.normal ?_
    go_wp2_with fail
    go_meet
    case rel => exact ⟨rfl, C1.out, O1.out⟩
  case rest =>
    obtain ⟨rfl, hC, hO⟩ := hcut
    have HC := Lib.hid hC
    have c1 := HC.out.c1
    have c2 := C2.out _ _ HC.out
    have z1 := HC.out.fz 1
    have z2 := HC.out.fz 2
    have H1 := Lib.hid (HF.out _ _ HC.out)
    have H2 := Lib.hid (fun o => (hO.trans (Only.of_set (j := 1) (by simp : g ∈ [g, mg, mh]) (.int .i64 (A + 1)))).trans (Only.of_set (j := 2) (by simp : g ∈ [g, mg, mh]) (.slice (some ⟨b, o, none⟩) q q)))
    clear hC hO
    by_cases h0 : q = 0
    · rw [HO1.out h0] at H1
      subst h0
      go_wp2_with fail
      go_ret
      exact ⟨retb_eq HR.out, H1.out, H2.out _⟩
    · rw [HO2.out h0] at H1
      go_wp2_with fail
      go_ret
      exact ⟨retb_eq HR.out, H1.out, H2.out _⟩

end Go.Proofs.Ytlpaijobcopbnaa
