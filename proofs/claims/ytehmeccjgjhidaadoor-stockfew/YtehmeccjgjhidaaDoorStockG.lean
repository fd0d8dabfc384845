/-
  Blocks: a copy of a pile; Push of a class that there isn't.
-/
import Derived.Test.YtehmeccjgjhidaaDoorStockF
import Derived.Lib.QuietBelow
namespace Go.Proofs.YtehmeccjgjhidaaDoor
open Go.RowKit Go.Maps Go.Sort

theorem BkRow.empty (w : World) : BkRow (w.alloc (.cells #[] 32)) (.slice (some ⟨w.heap.size, 0, none⟩) 0 0) [] :=
  ⟨by simp, .inr ⟨w.heap.size, 0, #[], rfl, Nat.zero_le _, heap_new w _, Nat.le_refl _, by simp [maxLen], by simp, by simp⟩⟩
theorem BkRow.copy {w : World} {v : Value} {rb n c : Nat} {l : List (Int × Int)} (hv : BkRow w v []) (h : BkRow w (.slice (some ⟨rb, 0, none⟩) n c) l) (few : l.length ≤ 1048576) (ty : TypeId) :
    ∃ v' w', (Builtin.append_ #[25, 25] ty #[v, .slice (some ⟨rb, 0, none⟩) n c]).run Tryd.prog w = .ok v' w' ∧ BkRow w' v' l ∧ w.grownBy w' v.ownBlock ∧ (v'.ownBlock = v.ownBlock ∨ v'.ownBlock = some w.heap.size) := by
  obtain ⟨i, hi, hz, hs, hb⟩ := info_parts' infoBk
  rcases ORow.cases h with ⟨h1, _⟩ | ⟨b', cap, cur, h1, h2, h3, h4, h5, h6⟩
  · cases h1
  · cases h1
    have hnews : ∀ j u, (l.flatMap bkE)[j]? = some u → w.cell? ((⟨rb, 0, none⟩ : Addr).add j) = some u := fun j u hu => by
      have hj : j < (l.flatMap bkE).length := (List.getElem?_eq_some_iff.1 hu).1
      rw [flat_len bkEnc] at hj
      rw [Addr.add_lit, Nat.zero_add, cell_of h2, ← Array.getElem?_toList, ← hu, ← h6, List.getElem?_take, if_pos hj]
    obtain ⟨v', w', r1, r2, r3, _, r5⟩ := run_append_own_at (P := Tryd.prog) w 0 25 ty 32 i _ 2 16 Tryd.underlying25 hi hz hs hb rfl (by omega) v 0 [] hv ⟨rb, 0, none⟩ l.length c (l.flatMap bkE) (by rw [flat_len bkEnc]) hnews (flat_one bkEnc l) (by unfold maxLen; omega) (by omega) (Nat.zero_le _)
    refine ⟨v', w', r1, ?_, r3, r5⟩
    show ORow _ 2 bkE _ _ _
    unfold ORow
    rw [Nat.zero_add, List.nil_append] at r2
    exact r2
set_option maxRecDepth 20000 in
set_option maxHeartbeats 2000000 in
theorem clone_any (v : Value) (l : List (Int × Int)) (w : World) (h : Hid (BkRow w v l)) (few : l.length ≤ 1048576) :
    Calls Tryd.prog 26 #[v] w fun e w' => ∃ v', e = .returned v' ∧ BkRow w' v' l ∧ Below w.heap.size w w' ∧ ∀ b, v'.ownBlock = some b → w.heap.size ≤ b := by
  have q22 : ∀ (w : World) (a : Option Addr) (n c n' c' : Nat), (binOp .eql 25 (.slice a n c) (.slice none n' c')).run Tryd.prog w = .ok (.bool a.isNone) w := fun w a n c n' c' => Lib.run_eql_slice_nil w _ _ a n c n' c' Tryd.underlying25
  rcases ORow.cases h.out with ⟨rfl, rfl⟩ | ⟨b, cap, cur, rfl, _⟩
  · go_enter Tryd.func26, Tryd.ntmps26
    go_wp2_with fail
    go_ret
    exact ⟨_, rfl, h.out, Below.refl _ _, fun b hb => by cases hb⟩
  · have EM := BkRow.empty w
    have hb1 := box1 w (.cells #[] 32)
    have RW := ORow.next h.out hb1
    obtain ⟨v', wa, hrun, r1, r2, r3⟩ := BkRow.copy EM RW few 25
    have R1 := Lib.hid r1
    have B1 : Hid (Below w.heap.size w wa) := by
      have hg := Only.of_grown (l := [w.heap.size]) r2 (fun k hk => by cases hk; simp)
      exact hb1.trans (hg.below (by simp) hb1.size)
    have O1 : Hid (∀ b, v'.ownBlock = some b → w.heap.size ≤ b) := Lib.hid (fun b hb => by
      rcases r3 with e | e
      · rw [e] at hb; simp [Value.ownBlock] at hb; omega
      · rw [e] at hb; simp at hb; omega)
    clear r1 r2 r3 EM RW hb1
    go_enter Tryd.func26, Tryd.ntmps26
    have HR := Lib.hid hrun
    clear hrun
    go_wp2_with (at_builtin; refine wpList_append_by rfl _ _ 25 25 rfl (.slice (some ⟨w.heap.size, 0, none⟩) 0 0) (.slice (some ⟨b, 0, none⟩) l.length cap) (by rfl) (by rfl) HR.out ?_)
    go_ret
    exact ⟨_, rfl, R1.out, B1.out, O1.out⟩
section
variable (sb clb pb : Nat) (W S B T : Int) (len : Nat) (f : Nat → Int) (n : Nat) (P : Nat → List (Int × Int)) (L : Nat → Value) (M : Nat → Nat)
set_option maxHeartbeats 1000000 in
theorem blocks_in (k : Nat) (w : World) (h : Hid (Stk w sb clb pb W S B T len f n P L M)) (hk : k < len) (hn : n ≤ 1048576) :
    Calls Tryd.prog 10 #[.pointer (some ⟨sb, 0, none⟩), .int .i64 (k : Nat)] w fun e w' => ∃ v', e = .returned v' ∧ BkRow w' v' (P k) ∧ Below w.heap.size w w' ∧ ∀ b, v'.ownBlock = some b → w.heap.size ≤ b := by
  have PI := Lib.hid (pile_in sb clb pb W S B T len f n P L M k w h hk)
  obtain ⟨c0, _⟩ := h.out.cell hk
  have few := (h.out.bd k hk).1
  have CL := Lib.hid (clone_any (L k) (P k) w (Lib.hid (h.out.lst k hk)) (by omega))
  obtain ⟨a, c, hv⟩ := ORow.form (h.out.lst k hk)
  rw [hv] at c0 CL
  clear hv
  go_enter Tryd.func10, Tryd.ntmps10
  go_wp2_with fail
  refine PI.out.mono ?_
  rintro e w1 ⟨rfl, rfl⟩
  go_wp2_with fail
  refine CL.out.mono ?_
  rintro e w2 ⟨v', rfl, r1, r2, r3⟩
  have R := Lib.hid (And.intro r1 (And.intro r2 r3))
  clear r1 r2 r3
  go_wp2_with fail
  go_ret
  exact ⟨_, rfl, R.out⟩
set_option maxHeartbeats 1000000 in
theorem blocks_out (k : Int) (w : World) (h : Hid (Stk w sb clb pb W S B T len f n P L M)) (hk : k < 0 ∨ (len : Int) ≤ k) :
    Calls Tryd.prog 10 #[.pointer (some ⟨sb, 0, none⟩), .int .i64 k] w fun e w' => ∃ v', e = .returned v' ∧ BkRow w' v' [] ∧ Below w.heap.size w w' := by
  have PI := Lib.hid (pile_out sb clb pb W S B T len f n P L M k w h hk)
  have B0 := Lib.hid (box1 w (.cells #[.slice none 0 0, .map none] 53))
  obtain ⟨q0, q1⟩ := pil_cells w
  go_enter Tryd.func10, Tryd.ntmps10
  go_wp2_with fail
  refine PI.out.mono ?_
  rintro e w1 ⟨rfl, rfl⟩
  generalize w.alloc (.cells #[.slice none 0 0, .map none] 53) = w1 at *
  have CL := Lib.hid (clone_any (.slice none 0 0) [] w1 (Lib.hid (ORow.nil w1)) (by simp))
  go_wp2_with fail
  refine CL.out.mono ?_
  rintro e w2 ⟨v', rfl, r1, r2, r3⟩
  have R := Lib.hid (And.intro r1 r2)
  clear r1 r2 r3
  go_wp2_with fail
  go_ret
  exact ⟨_, rfl, R.out.1, B0.out.trans (R.out.2.mono B0.out.size)⟩
theorem adr_out {len : Nat} {f : Nat → Int} {S k s i : Int} (hk : k < 0 ∨ (len : Int) ≤ k) : adrI S len f k s i = 0 := by
  have h : capI len f k = 0 := by unfold capI; rw [szI_out hk]; rfl
  unfold adrI
  rw [if_pos (by omega)]
set_option maxRecDepth 20000 in
set_option maxHeartbeats 4000000 in
theorem push_out (k : Int) (x : Int × Int) (w : World) (h : Hid (Stk w sb clb pb W S B T len f n P L M)) (hk : k < 0 ∨ (len : Int) ≤ k) (ok : Hid (ClsOk len f)) (s0 : 0 ≤ S) (s1 : S ≤ 1000) :
    Calls Tryd.prog 7 #[.pointer (some ⟨sb, 0, none⟩), .int .i64 k, .agg #[.int .i64 x.1, .int .i64 x.2]] w fun e w' => e = .returned (.bool false) ∧ Below w.heap.size w w' := by
  have X0 : Hid (Two5 (w.alloc (.cells #[.int .i64 x.1, .int .i64 x.2] 32)) w.heap.size 32 x.1 x.2) := Two5.new w _ _ _
  have K0 := Lib.hid (h.out.next (box1 w (.cells #[.int .i64 x.1, .int .i64 x.2] 32)))
  have B0 := Lib.hid (box1 w (.cells #[.int .i64 x.1, .int .i64 x.2] 32))
  have HA := Lib.hid (adr_out (len := len) (f := f) (S := S) (s := x.1) (i := x.2) hk)
  go_enter Tryd.func7, Tryd.ntmps7
  go_wp2_with fail
  generalize w.alloc (.cells #[.int .i64 x.1, .int .i64 x.2] 32) = w9 at *
  generalize hN : w.heap.size = N at *
  refine (pile_out sb clb pb W S B T len f n P L M k w9 K0 hk).mono ?_
  rintro e w1 ⟨rfl, rfl⟩
  have bb := box1 w9 (.cells #[.slice none 0 0, .map none] 53)
  have K1 := Lib.hid (K0.out.next bb)
  have X1 := Lib.hid (X0.out.next bb)
  have B1 : Hid (Below N w _) := B0.out.trans (bb.mono (by have := B0.out.size; omega))
  clear bb X0 B0 K0
  go_upto_region 2 with fail
  generalize w9.alloc (.cells #[.slice none 0 0, .map none] 53) = w0 at *
  obtain ⟨c0, c1, c2, c3, c4, c5⟩ := K1.out.cells
  have x0 := two_c0 X1.out
  have x1 := two_c1 X1.out
  have j0 := cell_regrown c0
  have j1 := cell_regrown c1
  have j2 := cell_regrown c2
  have j3 := cell_regrown c3
  have j4 := cell_regrown c4
  have j6 := cell_regrown x0
  have j7 := cell_regrown x1
  have a1 := fun d os => Calls.regrown_of (address_any W S B T (some ⟨clb, 0, none⟩) len len f k x.1 x.2 (grow (redrawn w0 d) os) (Lib.hid (K1.out.rowI.next (below_regrown w0 d os))) ok s0 s1)
  rw [HA.out] at a1
  refine wp_region_quiet_below (by kernel_rfl) (by kernel_rfl) ?_
  repeat (go_big_quiet_step (first | exact a1 _ _))
  refine wpQuiet_nil ?_
  intro _ hw'
  obtain ⟨⟨dq, osq⟩, hw''⟩ := hw'
  subst hw''
  have bg := below_regrown w0 dq osq
  have B4 : Hid (Below N w _) := B1.out.trans (bg.mono (by have := B1.out.size; omega))
  clear a1 j0 j1 j2 j3 j4 j6 j7 bg c0 c1 c2 c3 c4 c5 x0 x1 K1 X1 B1
  generalize Sort.grow (redrawn w0 dq) osq = w4 at *
  go_wp2_with fail
  go_ret
  exact ⟨rfl, by rw [hN]; exact B4.out⟩
end
end Go.Proofs.YtehmeccjgjhidaaDoor
