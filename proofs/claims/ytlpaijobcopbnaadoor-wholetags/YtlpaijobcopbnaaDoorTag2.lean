/-
  Contracts of a Scan: New, see, Step, Ref.
-/
import Derived.Test.YtlpaijobcopbnaaDoorTag1
import Derived.Test.YtlpaijobcopbnaaDoorSlot3
import Derived.Test.YtlpaijobcopbnaaDoorWord4
import Derived.Deep.RegionHeld3
import Derived.Deep.DeepCutAuto
namespace Go.Proofs.YtlpaijobcopbnaaDoor
open Go.RowKit Go.Sort Go.Maps

theorem step_update_run {P : Program} {ops : Array Oper} {o : Oper} {a : Act} {w : World} {K : Act → World → Prop} {Q : Exit → Act → World → Prop} {E : Prop}
    (hg : o.guard = none) (m x v : Operand) (t : TypeId) (hop : o.op = Op.mapUpdate t m x v) (mv kv vv : Value) (hm : a.eval m = mv) (hx : a.eval x = kv) (hv : a.eval v = vv) {w' : World}
    (hr : (Instr.mapUpdate t mv kv vv).run P w = .ok () w') (hK : K (a.put o.dst undef) w') :
    if Region.wanted o (yielded ops a.tmps) = true then Oper.wp P o a w K Q else E := by
  have hw : Region.wanted o (yielded ops a.tmps) = true := by simp [Region.wanted, hg]
  rw [if_pos hw]
  unfold Oper.wp
  simp [execOp, hop, hm, hx, hv, hr, Result.andThen]
  exact hK
theorem retbool {a b : Bool} (h : a = b) : Ending.returned (.bool a) = .returned (.bool b) := by rw [h]

/-- A scan in block g, over the memory in mg and mh; the tags that it saw in the map of block mb. -/
structure ScV (u : World) (g mg mh mb : Nat) (A L W K : Int) (s : MSt) (n : Nat) (S : List Int) : Prop where
  head : u.heap[g]? = some (.cells #[.pointer (some ⟨mg, 0, none⟩), .int .i64 A, .int .i64 L, .int .i64 W, .int .i64 K, .map (some mb)] 68 (0, 0))
  mem : MemAt u mg mh s
  set : SetAt u mb n S
  gm : g ≠ mg
  gh : g ≠ mh
  bg : mb ≠ g
  bm : mb ≠ mg
  bh : mb ≠ mh
  le : S.length ≤ n
theorem ScV.c0 {u : World} {g mg mh mb : Nat} {A L W K : Int} {s : MSt} {n : Nat} {S : List Int} (h : ScV u g mg mh mb A L W K s n S) : u.cell? ⟨g, 0, none⟩ = some (.pointer (some ⟨mg, 0, none⟩)) := cell_of h.head
theorem ScV.c1 {u : World} {g mg mh mb : Nat} {A L W K : Int} {s : MSt} {n : Nat} {S : List Int} (h : ScV u g mg mh mb A L W K s n S) : u.cell? ⟨g, 1, none⟩ = some (.int .i64 A) := cell_of h.head
theorem ScV.c2 {u : World} {g mg mh mb : Nat} {A L W K : Int} {s : MSt} {n : Nat} {S : List Int} (h : ScV u g mg mh mb A L W K s n S) : u.cell? ⟨g, 2, none⟩ = some (.int .i64 L) := cell_of h.head
theorem ScV.c3 {u : World} {g mg mh mb : Nat} {A L W K : Int} {s : MSt} {n : Nat} {S : List Int} (h : ScV u g mg mh mb A L W K s n S) : u.cell? ⟨g, 3, none⟩ = some (.int .i64 W) := cell_of h.head
theorem ScV.c4 {u : World} {g mg mh mb : Nat} {A L W K : Int} {s : MSt} {n : Nat} {S : List Int} (h : ScV u g mg mh mb A L W K s n S) : u.cell? ⟨g, 4, none⟩ = some (.int .i64 K) := cell_of h.head
theorem ScV.c5 {u : World} {g mg mh mb : Nat} {A L W K : Int} {s : MSt} {n : Nat} {S : List Int} (h : ScV u g mg mh mb A L W K s n S) : u.cell? ⟨g, 5, none⟩ = some (.map (some mb)) := cell_of h.head
theorem ScV.fz {u : World} {g mg mh mb : Nat} {A L W K : Int} {s : MSt} {n : Nat} {S : List Int} (h : ScV u g mg mh mb A L W K s n S) (j : Nat) : u.frozen? ⟨g, j, none⟩ = false := frozen_of h.head
theorem ScV.lt {u : World} {g mg mh mb : Nat} {A L W K : Int} {s : MSt} {n : Nat} {S : List Int} (h : ScV u g mg mh mb A L W K s n S) : g < u.heap.size ∧ mb < u.heap.size := ⟨heap_lt h.head, h.set.lt⟩
theorem SetAt.stay {l : List Nat} {u u' : World} {b n : Nat} {S : List Int} (h : SetAt u b n S) (x : Only l u u') (hn : b ∉ l) : SetAt u' b n S := h.keep (x.block b h.lt hn)
theorem ScV.stay {l : List Nat} {u' : World} {u : World} {g mg mh mb : Nat} {A L W K : Int} {s : MSt} {n : Nat} {S : List Int} (h : ScV u g mg mh mb A L W K s n S) (x : Only l u u') (hn : ∀ k ∈ [g, mg, mh, mb], k ∉ l) : ScV u' g mg mh mb A L W K s n S :=
  ⟨x.at h.head (hn g (by simp)), h.mem.stay x (hn mg (by simp)) (hn mh (by simp)), h.set.stay x (hn mb (by simp)), h.gm, h.gh, h.bg, h.bm, h.bh, h.le⟩
theorem ScV.next {u' : World} {u : World} {g mg mh mb : Nat} {A L W K : Int} {s : MSt} {n : Nat} {S : List Int} (h : ScV u g mg mh mb A L W K s n S) (x : Below u.heap.size u u') : ScV u' g mg mh mb A L W K s n S := h.stay (l := []) (Only.of_below x) (fun _ _ => by simp)
/-- The memory has turned, and nothing of the scan's. -/
theorem ScV.share {l : List Nat} {u' : World} {s' : MSt} {u : World} {g mg mh mb : Nat} {A L W K : Int} {s : MSt} {n : Nat} {S : List Int} (h : ScV u g mg mh mb A L W K s n S) (m : MemAt u' mg mh s') (x : Only l u u') (hg : g ∉ l) (hb : mb ∉ l) : ScV u' g mg mh mb A L W K s' n S :=
  ⟨x.at h.head hg, m, h.set.stay x hb, h.gm, h.gh, h.bg, h.bm, h.bh, h.le⟩
theorem ScV.mem' {u' : World} {s' : MSt} {u : World} {g mg mh mb : Nat} {A L W K : Int} {s : MSt} {n : Nat} {S : List Int} (h : ScV u g mg mh mb A L W K s n S) (m : MemAt u' mg mh s') (x : Else mg mh u u') : ScV u' g mg mh mb A L W K s' n S :=
  h.share (l := [mg, mh]) m (Only.of_else x (by simp) (by simp)) (by simp [h.gm, h.gh]) (by simp [h.bm, h.bh])
theorem ScV.seen {u' : World} {n' : Nat} {S' : List Int} {u : World} {g mg mh mb : Nat} {A L W K : Int} {s : MSt} {n : Nat} {S : List Int} (h : ScV u g mg mh mb A L W K s n S) (hs : SetAt u' mb n' S') (hl : S'.length ≤ n') (x : Only [mb] u u') : ScV u' g mg mh mb A L W K s n' S' :=
  ⟨x.at h.head (by simpa using h.bg.symm), h.mem.stay x (by simpa using h.bm.symm) (by simpa using h.bh.symm), hs, h.gm, h.gh, h.bg, h.bm, h.bh, hl⟩
theorem ScV.put12 {u : World} {g mg mh mb : Nat} {A L W K : Int} {s : MSt} {n : Nat} {S : List Int} (h : ScV u g mg mh mb A L W K s n S) (A' L' : Int) : ScV ((u.setCell ⟨g, 1, none⟩ (.int .i64 A')).setCell ⟨g, 2, none⟩ (.int .i64 L')) g mg mh mb A' L' W K s n S := by
  have X : Only [g] u ((u.setCell ⟨g, 1, none⟩ (.int .i64 A')).setCell ⟨g, 2, none⟩ (.int .i64 L')) := (Only.of_set (by simp) _).trans (Only.of_set (by simp) _)
  refine ⟨?_, h.mem.stay X (by simpa using h.gm.symm) (by simpa using h.gh.symm), h.set.stay X (by simpa using h.bg), h.gm, h.gh, h.bg, h.bm, h.bh, h.le⟩
  rw [set_of (set_of h.head _)]; rfl

theorem tnew_any (mg mh : Nat) (s : MSt) (A : Int) (n : Nat) (W K : Int) (w : World) (m : MemAt w mg mh s) (hn : n < 4611686018427387904) :
    Calls Tryd.prog 15 #[.pointer (some ⟨mg, 0, none⟩), .int .i64 A, .int .i64 n, .int .i64 W, .int .i64 K] w fun e w' => ∃ g mb, e = .returned (.pointer (some ⟨g, 0, none⟩)) ∧ ScV w' g mg mh mb A n W K s 0 [] ∧ w.heap.size ≤ g ∧ w.heap.size ≤ mb ∧ Below w.heap.size w w' := by
  have hl := m.lt
  have hx : max (n : Int) 0 = n := by omega
  have hmm := @run_makeMap Tryd.prog
  have S0 := Lib.hid (SetAt.made w)
  have M := Lib.hid m
  have B1 := Lib.hid (box1 w (.map #[] 0))
  have N1 : Hid ((w.alloc (.map #[] 0)).heap.size = w.heap.size + 1) := by show _ = _; simp
  clear m
  go_enter Tryd.func15, Tryd.ntmps15
  go_wp2
  have HD := heap_new (w.alloc (.map #[] 0)) (.cells #[.pointer (some ⟨mg, 0, none⟩), .int .i64 A, .int .i64 n, .int .i64 W, .int .i64 K, .map (some w.heap.size)] 68)
  have BB := box1 (w.alloc (.map #[] 0)) (.cells #[.pointer (some ⟨mg, 0, none⟩), .int .i64 A, .int .i64 n, .int .i64 W, .int .i64 K, .map (some w.heap.size)] 68)
  have hN := N1.out
  rw [hN] at HD
  go_ret
  exact ⟨_, w.heap.size, rfl, ⟨HD, M.out.next (below_two B1.out BB), S0.out.stay (l := []) (Only.of_below BB) (by simp), by omega, by omega, by omega, by omega, by omega, Nat.le_refl _⟩, by omega, Nat.le_refl _, below_two B1.out BB⟩

/-- Is it the word of a reference? -/
def isRef (x : Nat) : Prop := ofR (toX x) (toY x) (toZ x) = x
open Classical in
/-- The tags that were seen, and the word's, if it is one of that record. -/
noncomputable def seeS (W K : Int) (x : Nat) (S : List Int) : List Int := if isRef x ∧ (toX x : Int) = W ∧ (toY x : Int) = K then (toZ x : Int) :: S else S
theorem seeS_yes {W K : Int} {x : Nat} {S : List Int} (h : isRef x ∧ (toX x : Int) = W ∧ (toY x : Int) = K) : seeS W K x S = (toZ x : Int) :: S := by unfold seeS; exact if_pos h
theorem seeS_no {W K : Int} {x : Nat} {S : List Int} (h : ¬ (isRef x ∧ (toX x : Int) = W ∧ (toY x : Int) = K)) : seeS W K x S = S := by unfold seeS; exact if_neg h
theorem seeS_len (W K : Int) (x : Nat) (S : List Int) : (seeS W K x S).length ≤ S.length + 1 := by
  unfold seeS; split <;> simp
theorem SetAt.more {w : World} {b n : Nat} {S : List Int} (h : SetAt w b n S) : SetAt w b (n + 1) S := by
  obtain ⟨D, h1, h2⟩ := h
  exact ⟨D, h1.mono (Nat.le_succ _), h2⟩

set_option maxRecDepth 20000 in
set_option maxHeartbeats 2000000 in
theorem see_none (g mg mh mb : Nat) (A L W K : Int) (s : MSt) (n : Nat) (S : List Int) (x : Nat) (w : World) (h : Hid (ScV w g mg mh mb A L W K s n S)) (hx : x < 18446744073709551616) (hR : Hid (RefAt w)) (hn : ¬ isRef x) :
    Calls Tryd.prog 29 #[.pointer (some ⟨g, 0, none⟩), .int .u64 (x : Int)] w fun e w' => e = .returned (.tuple #[]) ∧ Below w.heap.size w w' := by
  go_enter Tryd.func29, Tryd.ntmps29
  go_wp2_with fail
  refine (to_any x _ hx hR).mono ?_
  rintro e w1 ⟨h1, h2, hb⟩
  have he := h2 hn
  subst he
  clear h1 h2
  have C1 := Lib.hid (h.out.next hb)
  have B1 := Lib.hid hb
  clear hb
  have B2 := Lib.hid (below_two B1.out (box1 w1 (.cells #[.int .i64 0, .int .i64 0, .int .i64 0] 33)))
  have C2 := Lib.hid (C1.out.next (box1 w1 (.cells #[.int .i64 0, .int .i64 0, .int .i64 0] 33)))
  have e0 : (w1.alloc (.cells #[.int .i64 0, .int .i64 0, .int .i64 0] 33)).cell? ⟨w1.heap.size, 0, none⟩ = some (.int .i64 0) := by simp
  have e1 : (w1.alloc (.cells #[.int .i64 0, .int .i64 0, .int .i64 0] 33)).cell? ⟨w1.heap.size, 1, none⟩ = some (.int .i64 0) := by simp
  go_wp2_with fail
  generalize w1.alloc (.cells #[.int .i64 0, .int .i64 0, .int .i64 0] 33) = w2 at *
  generalize w1.heap.size = rb at *
  have d3 := C2.out.c3
  have d4 := C2.out.c4
  have k0 := cell_regrown e0
  have k1 := cell_regrown e1
  have k2 := cell_regrown d3
  have k3 := cell_regrown d4
  refine wp_region_quiet_below (by kernel_rfl) (by kernel_rfl) ?_
  repeat (go_big_quiet_step (fail))
  refine wpQuiet_nil ?_
  intro _ hwq
  obtain ⟨⟨dq, osq⟩, hwq2⟩ := hwq
  subst hwq2
  have HQ := Lib.hid (below_regrown w2 dq osq)
  have B3 := Lib.hid (below_two B2.out HQ.out)
  generalize Sort.grow (redrawn w2 dq) osq = w3 at *
  clear HQ k0 k1 k2 k3
  go_wp2_with fail
  go_end0
  exact ⟨rfl, B3.out⟩

set_option maxRecDepth 20000 in
set_option maxHeartbeats 2000000 in
theorem see_far (g mg mh mb : Nat) (A L W K : Int) (s : MSt) (n : Nat) (S : List Int) (x : Nat) (w : World) (h : Hid (ScV w g mg mh mb A L W K s n S)) (hx : x < 18446744073709551616) (hR : Hid (RefAt w)) (hn : isRef x) (hW : ¬ (toX x : Int) = W) :
    Calls Tryd.prog 29 #[.pointer (some ⟨g, 0, none⟩), .int .u64 (x : Int)] w fun e w' => e = .returned (.tuple #[]) ∧ Below w.heap.size w w' := by
  go_enter Tryd.func29, Tryd.ntmps29
  go_wp2_with fail
  refine (to_any x _ hx hR).mono ?_
  rintro e w1 ⟨h1, h2, hb⟩
  have he := h1 hn
  subst he
  clear h1 h2
  have C1 := Lib.hid (h.out.next hb)
  have B1 := Lib.hid hb
  clear hb
  generalize (toX x : Int) = X at *
  generalize (toY x : Int) = Y at *
  generalize (toZ x : Int) = Z at *
  have B2 := Lib.hid (below_two B1.out (box1 w1 (.cells #[.int .i64 X, .int .i64 Y, .int .i64 Z] 33)))
  have C2 := Lib.hid (C1.out.next (box1 w1 (.cells #[.int .i64 X, .int .i64 Y, .int .i64 Z] 33)))
  have e0 : (w1.alloc (.cells #[.int .i64 X, .int .i64 Y, .int .i64 Z] 33)).cell? ⟨w1.heap.size, 0, none⟩ = some (.int .i64 X) := by simp
  have e1 : (w1.alloc (.cells #[.int .i64 X, .int .i64 Y, .int .i64 Z] 33)).cell? ⟨w1.heap.size, 1, none⟩ = some (.int .i64 Y) := by simp
  go_wp2_with fail
  generalize w1.alloc (.cells #[.int .i64 X, .int .i64 Y, .int .i64 Z] 33) = w2 at *
  generalize w1.heap.size = rb at *
  have d3 := C2.out.c3
  have d4 := C2.out.c4
  have f1 : (X == W) = false := by simpa using hW
  have k0 := cell_regrown e0
  have k1 := cell_regrown e1
  have k2 := cell_regrown d3
  have k3 := cell_regrown d4
  refine wp_region_quiet_below (by kernel_rfl) (by kernel_rfl) ?_
  repeat (go_big_quiet_step (fail))
  refine wpQuiet_nil ?_
  intro _ hwq
  obtain ⟨⟨dq, osq⟩, hwq2⟩ := hwq
  subst hwq2
  have HQ := Lib.hid (below_regrown w2 dq osq)
  have B3 := Lib.hid (below_two B2.out HQ.out)
  generalize Sort.grow (redrawn w2 dq) osq = w3 at *
  clear HQ k0 k1 k2 k3
  go_wp2_with fail
  go_end0
  exact ⟨rfl, B3.out⟩

set_option maxRecDepth 20000 in
set_option maxHeartbeats 2000000 in
theorem see_side (g mg mh mb : Nat) (A L W K : Int) (s : MSt) (n : Nat) (S : List Int) (x : Nat) (w : World) (h : Hid (ScV w g mg mh mb A L W K s n S)) (hx : x < 18446744073709551616) (hR : Hid (RefAt w)) (hn : isRef x) (hW : (toX x : Int) = W) (hK : ¬ (toY x : Int) = K) :
    Calls Tryd.prog 29 #[.pointer (some ⟨g, 0, none⟩), .int .u64 (x : Int)] w fun e w' => e = .returned (.tuple #[]) ∧ Below w.heap.size w w' := by
  go_enter Tryd.func29, Tryd.ntmps29
  go_wp2_with fail
  refine (to_any x _ hx hR).mono ?_
  rintro e w1 ⟨h1, h2, hb⟩
  have he := h1 hn
  subst he
  clear h1 h2
  have C1 := Lib.hid (h.out.next hb)
  have B1 := Lib.hid hb
  clear hb
  subst hW
  generalize (toX x : Int) = X at *
  generalize (toY x : Int) = Y at *
  generalize (toZ x : Int) = Z at *
  have B2 := Lib.hid (below_two B1.out (box1 w1 (.cells #[.int .i64 X, .int .i64 Y, .int .i64 Z] 33)))
  have C2 := Lib.hid (C1.out.next (box1 w1 (.cells #[.int .i64 X, .int .i64 Y, .int .i64 Z] 33)))
  have e0 : (w1.alloc (.cells #[.int .i64 X, .int .i64 Y, .int .i64 Z] 33)).cell? ⟨w1.heap.size, 0, none⟩ = some (.int .i64 X) := by simp
  have e1 : (w1.alloc (.cells #[.int .i64 X, .int .i64 Y, .int .i64 Z] 33)).cell? ⟨w1.heap.size, 1, none⟩ = some (.int .i64 Y) := by simp
  go_wp2_with fail
  generalize w1.alloc (.cells #[.int .i64 X, .int .i64 Y, .int .i64 Z] 33) = w2 at *
  generalize w1.heap.size = rb at *
  have d3 := C2.out.c3
  have d4 := C2.out.c4
  have f2 : (Y == K) = false := by simpa using hK
  clear hK
  have k0 := cell_regrown e0
  have k1 := cell_regrown e1
  have k2 := cell_regrown d3
  have k3 := cell_regrown d4
  refine wp_region_quiet_below (by kernel_rfl) (by kernel_rfl) ?_
  repeat (go_big_quiet_step (fail))
  refine wpQuiet_nil ?_
  intro _ hwq
  obtain ⟨⟨dq, osq⟩, hwq2⟩ := hwq
  subst hwq2
  have HQ := Lib.hid (below_regrown w2 dq osq)
  have B3 := Lib.hid (below_two B2.out HQ.out)
  generalize Sort.grow (redrawn w2 dq) osq = w3 at *
  clear HQ k0 k1 k2 k3
  go_wp2_with fail
  go_end0
  exact ⟨rfl, B3.out⟩

set_option maxRecDepth 20000 in
set_option maxHeartbeats 2000000 in
theorem see_hit (g mg mh mb : Nat) (A L W K : Int) (s : MSt) (n : Nat) (S : List Int) (x : Nat) (w : World) (h : Hid (ScV w g mg mh mb A L W K s n S)) (hx : x < 18446744073709551616) (hR : Hid (RefAt w)) (hn : isRef x) (hW : (toX x : Int) = W) (hK : (toY x : Int) = K) (hnn : n < 1048576) :
    Calls Tryd.prog 29 #[.pointer (some ⟨g, 0, none⟩), .int .u64 (x : Int)] w fun e w' => e = .returned (.tuple #[]) ∧ SetAt w' mb (n + 1) ((toZ x : Int) :: S) ∧ Only [mb] w w' := by
  have hZ := toZ_lt x
  go_enter Tryd.func29, Tryd.ntmps29
  go_wp2_with fail
  refine (to_any x _ hx hR).mono ?_
  rintro e w1 ⟨h1, h2, hb⟩
  have he := h1 hn
  subst he
  clear h1 h2
  have C1 := Lib.hid (h.out.next hb)
  have B1 := Lib.hid hb
  clear hb
  have hZw : (Lit.int .i64 (toZ x : Int)).wf = true := WalkArith.wf_i64 (by omega)
  subst hW hK
  generalize (toX x : Int) = X at *
  generalize (toY x : Int) = Y at *
  generalize hZe : (toZ x : Int) = Z at *
  have HZE := Lib.hid hZe
  clear hZ hZe
  have B2 := Lib.hid (below_two B1.out (box1 w1 (.cells #[.int .i64 X, .int .i64 Y, .int .i64 Z] 33)))
  have C2 := Lib.hid (C1.out.next (box1 w1 (.cells #[.int .i64 X, .int .i64 Y, .int .i64 Z] 33)))
  have e0 : (w1.alloc (.cells #[.int .i64 X, .int .i64 Y, .int .i64 Z] 33)).cell? ⟨w1.heap.size, 0, none⟩ = some (.int .i64 X) := by simp
  have e1 : (w1.alloc (.cells #[.int .i64 X, .int .i64 Y, .int .i64 Z] 33)).cell? ⟨w1.heap.size, 1, none⟩ = some (.int .i64 Y) := by simp
  have E2 : Hid ((w1.alloc (.cells #[.int .i64 X, .int .i64 Y, .int .i64 Z] 33)).cell? ⟨w1.heap.size, 2, none⟩ = some (.int .i64 Z)) := by show _ = _; simp
  have RB : Hid (w1.heap.size ≠ mb) := by have := C1.out.lt.2; show _ ≠ _; omega
  go_wp2_with fail
  generalize w1.alloc (.cells #[.int .i64 X, .int .i64 Y, .int .i64 Z] 33) = w2 at *
  generalize w1.heap.size = rb at *
  have d3 := C2.out.c3
  have d4 := C2.out.c4
  have k0 := cell_regrown e0
  have k1 := cell_regrown e1
  have k2 := cell_regrown d3
  have k3 := cell_regrown d4
  refine wp_region_quiet_below (by kernel_rfl) (by kernel_rfl) ?_
  repeat (go_big_quiet_step (fail))
  refine wpQuiet_nil ?_
  intro _ hwq
  obtain ⟨⟨dq, osq⟩, hwq2⟩ := hwq
  subst hwq2
  have HQ := Lib.hid (below_regrown w2 dq osq)
  have B3 := Lib.hid (below_two B2.out HQ.out)
  have C3 := Lib.hid (C2.out.next HQ.out)
  have E3 := Lib.hid ((HQ.out.cell (p := ⟨rb, 2, none⟩) (World.block_lt_of_cell? _ _ E2.out)).trans E2.out)
  generalize Sort.grow (redrawn w2 dq) osq = w3 at *
  clear HQ k0 k1 k2 k3
  clear e0 e1 d3 d4
  go_wp2_with fail
  refine wp_region_noPanic ?_
  refine wp_region_held_drew (S := fun w' => w'.cell? ⟨g, 5, none⟩ = some (.map (some mb)) ∧ w'.cell? ⟨rb, 2, none⟩ = some (.int .i64 Z)) (by kernel_rfl) ⟨C3.out.c5, E3.out⟩ (fun hHeld => ?_)
  have C4 := Lib.hid (C3.out.next (Below.refl _ w3).drew)
  have B4 := Lib.hid (below_two B3.out (Below.refl _ w3).drew)
  have E4 : Hid (w3.drew.cell? ⟨rb, 2, none⟩ = some (.int .i64 Z)) := E3.out
  generalize w3.drew = w4 at *
  refine wpAnyH_take (i := 0) (v := .pointer (some ⟨g, 0, none⟩)) rfl (by kernel_rfl) (by kernel_rfl) (by kernel_rfl) (fun _ _ _ h => h) (Or.inl ⟨by rfl, fun w hSw => by go_simp⟩) (by assumption) ?_
  change wpAnyH _ _ _ _ _ _ _ (Act.put _ (some 30) _) _
  simp only [Act.put, List.setIfInBounds_toArray, List.set_cons_zero, List.set_cons_succ]
  refine wpAnyH_take (i := 1) (v := .pointer (some ⟨g, 0, none⟩)) rfl (by kernel_rfl) (by kernel_rfl) (by kernel_rfl) (fun _ _ _ h => h) (Or.inl ⟨by rfl, fun w hSw => by go_simp⟩) (by assumption) ?_
  change wpAnyH _ _ _ _ _ _ _ (Act.put _ (some 31) _) _
  simp only [Act.put, List.setIfInBounds_toArray, List.set_cons_zero, List.set_cons_succ]
  refine wpAnyH_take (i := 2) (v := .pointer (some ⟨g, 5, none⟩)) rfl (by kernel_rfl) (by kernel_rfl) (by kernel_rfl) (fun _ _ _ h => h) (Or.inl ⟨by rfl, fun w hSw => by go_simp⟩) (by assumption) ?_
  change wpAnyH _ _ _ _ _ _ _ (Act.put _ (some 32) _) _
  simp only [Act.put, List.setIfInBounds_toArray, List.set_cons_zero, List.set_cons_succ]
  refine wpAnyH_take (i := 3) (v := .map (some mb)) rfl (by kernel_rfl) (by kernel_rfl) (by kernel_rfl) (fun _ _ _ h => h) (Or.inl ⟨by rfl, fun w hSw => by obtain ⟨s0, s1⟩ := hSw; go_simp⟩) (by assumption) ?_
  change wpAnyH _ _ _ _ _ _ _ (Act.put _ (some 33) _) _
  simp only [Act.put, List.setIfInBounds_toArray, List.set_cons_zero, List.set_cons_succ]
  refine wpAnyH_take (i := 4) (v := .pointer (some ⟨rb, 2, none⟩)) rfl (by kernel_rfl) (by kernel_rfl) (by kernel_rfl) (fun _ _ _ h => h) (Or.inl ⟨by rfl, fun w hSw => by go_simp⟩) (by assumption) ?_
  change wpAnyH _ _ _ _ _ _ _ (Act.put _ (some 34) _) _
  simp only [Act.put, List.setIfInBounds_toArray, List.set_cons_zero, List.set_cons_succ]
  refine wpAnyH_take (i := 5) (v := .int .i64 Z) rfl (by kernel_rfl) (by kernel_rfl) (by kernel_rfl) (fun _ _ _ h => h) (Or.inl ⟨by rfl, fun w hSw => by obtain ⟨s0, s1⟩ := hSw; go_simp⟩) (by assumption) ?_
  change wpAnyH _ _ _ _ _ _ _ (Act.put _ (some 35) _) _
  simp only [Act.put, List.setIfInBounds_toArray, List.set_cons_zero, List.set_cons_succ]
  refine wpAnyH_ready (rs := [6]) (by kernel_rfl) (by simp) ?_
  refine AllReadyH.cons rfl (fun K hK => ?_) AllReadyH.nil
  clear hHeld
  obtain ⟨w5, hrun, hs, hgr⟩ := C4.out.set.put Z hZw hnn
  have X5 : Only [mb] w4 w5 := Only.of_grown hgr (fun k hk => by cases hk; simp)
  have C5 := Lib.hid (C4.out.seen hs (by have := C4.out.le; simp; omega) X5)
  have S5 := Lib.hid hs
  have O5 := Lib.hid ((Only.of_below (l := [mb]) B4.out).trans X5)
  have K5 : w5.cell? ⟨rb, 2, none⟩ = some (.int .i64 Z) := (World.cell?_of_block (hgr.block rb (World.block_lt_of_cell? _ _ E4.out) (fun e => by cases e; exact RB.out rfl))).trans E4.out
  refine step_update_run rfl _ _ _ 54 rfl (.map (some mb)) (.int .i64 Z) (.bool true) (by simp [Act.eval]) (by simp [Act.eval]) (by simp [Act.eval]) hrun ?_
  refine hK.out _ _ ⟨C5.out.c5, K5⟩ (fun hHeld => ?_)
  clear hK K hHeld hrun hs hgr X5 K5
  refine wpAnyH_done (by kernel_rfl) ?_ _
  refine NoPanic.normal ?_
  go_wp2_with fail
  go_end0
  exact ⟨rfl, by rw [HZE.out]; exact S5.out, O5.out⟩

theorem see_any (g mg mh mb : Nat) (A L W K : Int) (s : MSt) (n : Nat) (S : List Int) (x : Nat) (w : World) (h : Hid (ScV w g mg mh mb A L W K s n S)) (hx : x < 18446744073709551616) (hR : Hid (RefAt w)) (hnn : n < 1048576) :
    Calls Tryd.prog 29 #[.pointer (some ⟨g, 0, none⟩), .int .u64 (x : Int)] w fun e w' => e = .returned (.tuple #[]) ∧ ScV w' g mg mh mb A L W K s (n + 1) (seeS W K x S) ∧ Only [mb] w w' := by
  have hno : ¬ (isRef x ∧ (toX x : Int) = W ∧ (toY x : Int) = K) → (Calls Tryd.prog 29 #[.pointer (some ⟨g, 0, none⟩), .int .u64 (x : Int)] w fun e w' => e = .returned (.tuple #[]) ∧ Below w.heap.size w w') → Calls Tryd.prog 29 #[.pointer (some ⟨g, 0, none⟩), .int .u64 (x : Int)] w fun e w' => e = .returned (.tuple #[]) ∧ ScV w' g mg mh mb A L W K s (n + 1) (seeS W K x S) ∧ Only [mb] w w' := fun hn hc => hc.mono fun e w' ⟨h1, h2⟩ => by
    rw [seeS_no hn]
    have c := h.out.next h2
    exact ⟨h1, ⟨c.head, c.mem, c.set.more, c.gm, c.gh, c.bg, c.bm, c.bh, Nat.le_succ_of_le c.le⟩, Only.of_below h2⟩
  by_cases h1 : isRef x
  · by_cases h2 : (toX x : Int) = W
    · by_cases h3 : (toY x : Int) = K
      · rw [seeS_yes ⟨h1, h2, h3⟩]
        refine (see_hit g mg mh mb A L W K s n S x w h hx hR h1 h2 h3 hnn).mono ?_
        rintro e w' ⟨h4, h5, h6⟩
        exact ⟨h4, h.out.seen h5 (by have := h.out.le; simp; omega) h6, h6⟩
      · exact hno (fun h => h3 h.2.2) (see_side g mg mh mb A L W K s n S x w h hx hR h1 h2 h3)
    · exact hno (fun h => h2 h.2.1) (see_far g mg mh mb A L W K s n S x w h hx hR h1 h2)
  · exact hno (fun h => h1 h.1) (see_none g mg mh mb A L W K s n S x w h hx hR h1)

theorem tstep_done (g mg mh mb : Nat) (A W K : Int) (s : MSt) (n : Nat) (S : List Int) (w : World) (h : ScV w g mg mh mb A 0 W K s n S) :
    Calls Tryd.prog 16 #[.pointer (some ⟨g, 0, none⟩)] w fun e w' => e = .returned (.bool true) ∧ w = w' := by
  have c2 := h.c2
  clear h
  go_enter Tryd.func16, Tryd.ntmps16
  go_wp2
  go_ret
  exact ⟨rfl, rfl⟩

set_option maxRecDepth 20000 in
set_option maxHeartbeats 4000000 in
theorem tstep_more (g mg mh mb : Nat) (A : Int) (k : Nat) (W K : Int) (s : MSt) (n : Nat) (S : List Int) (w : World) (h : Hid (ScV w g mg mh mb A ((k + 1 : Nat) : Int) W K s n S)) (hR : Hid (RefAt w)) (hRm : 0 ≠ mg ∧ 0 ≠ mh) (hA : -4611686018427387904 ≤ A) (hA2 : A < 4611686018427387904) (hk : k < 4611686018427387904) (hnn : n < 1048576) (hx : s.rd A < 18446744073709551616) (ho : s.ops < 4611686018427387904) (hf : s.faults < 4611686018427387904) :
    Calls Tryd.prog 16 #[.pointer (some ⟨g, 0, none⟩)] w fun e w' => e = .returned (.bool (decide (k = 0))) ∧ ScV w' g mg mh mb (A + 1) k W K (s.begun 1 A) (n + 1) (seeS W K (s.rd A) S) ∧ Only [g, mg, mh, mb] w w' := by
  have LD := Lib.hid fun w1 m1 => load_any mg mh s A w1 m1 ho hf
  have SE := Lib.hid fun w1 (h1 : Hid (ScV w1 g mg mh mb A ((k : Int) + 1) W K (s.begun 1 A) n S)) (r1 : Hid (RefAt w1)) => see_any g mg mh mb A _ W K _ n S (s.rd A) w1 h1 hx r1 hnn
  have HRL : Hid (∀ w1, Only [g, mg, mh, mb] w w1 → Else mg mh w w1 → RefAt w1) := fun w1 _ he => by
    have hb := he.block 0 hR.out.lt hRm.1 hRm.2
    obtain ⟨q0, q1, q2, q3, q4, q5⟩ := hR.out
    exact ⟨(World.cell?_of_block hb).trans q0, (World.cell?_of_block hb).trans q1, (World.cell?_of_block hb).trans q2, (World.cell?_of_block hb).trans q3, (World.cell?_of_block hb).trans q4, (World.cell?_of_block hb).trans q5⟩
  have c2 := h.out.c2
  have HL : Hid (((k + 1 : Nat) : Int) = (k : Int) + 1) := by show _ = _; omega
  rw [HL.out] at c2 h
  have n0 : ((k : Int) + 1 == 0) = false := by simp; omega
  clear ho hf hx hnn hRm
  generalize s.rd A = X at *
  generalize s.begun 1 A = s' at *
  go_enter Tryd.func16, Tryd.ntmps16
  go_wp2_with fail
  clear c2
  go_cut [0] (fun v0 wx => v0 = .pointer (some ⟨g, 0, none⟩) ∧ ScV wx g mg mh mb A ((k : Int) + 1) W K s' (n + 1) (seeS W K X S) ∧ Only [g, mg, mh, mb] w wx)
  case first =>
    refine wp_region_noPanic ?_
    refine wp_region_held_drew (S := fun w' => w'.cell? ⟨g, 0, none⟩ = some (.pointer (some ⟨mg, 0, none⟩)) ∧ w'.cell? ⟨g, 1, none⟩ = some (.int .i64 A)) (by kernel_rfl) ⟨h.out.c0, h.out.c1⟩ (fun hHeld => ?_)
    have C0 := Lib.hid (h.out.next (Below.refl _ w).drew)
    have O0 : Hid (Only [g, mg, mh, mb] w w.drew) := Only.of_below (Below.refl _ _).drew
    have E0 : Hid (Else mg mh w w.drew) := Else.of_below (Below.refl _ _).drew
    generalize w.drew = x0 at *
    refine wpAnyH_take (i := 0) (v := .pointer (some ⟨g, 0, none⟩)) rfl (by kernel_rfl) (by kernel_rfl) (by kernel_rfl) (fun _ _ _ h => h) (Or.inl ⟨by rfl, fun w hSw => by go_simp⟩) (by assumption) ?_
    change wpAnyH _ _ _ _ _ _ _ (Act.put _ (some 12) _) _
    simp only [Act.put, List.setIfInBounds_toArray, List.set_cons_zero, List.set_cons_succ]
    refine wpAnyH_take (i := 1) (v := .pointer (some ⟨g, 0, none⟩)) rfl (by kernel_rfl) (by kernel_rfl) (by kernel_rfl) (fun _ _ _ h => h) (Or.inl ⟨by rfl, fun w hSw => by go_simp⟩) (by assumption) ?_
    change wpAnyH _ _ _ _ _ _ _ (Act.put _ (some 13) _) _
    simp only [Act.put, List.setIfInBounds_toArray, List.set_cons_zero, List.set_cons_succ]
    refine wpAnyH_take (i := 2) (v := .pointer (some ⟨g, 0, none⟩)) rfl (by kernel_rfl) (by kernel_rfl) (by kernel_rfl) (fun _ _ _ h => h) (Or.inl ⟨by rfl, fun w hSw => by go_simp⟩) (by assumption) ?_
    change wpAnyH _ _ _ _ _ _ _ (Act.put _ (some 14) _) _
    simp only [Act.put, List.setIfInBounds_toArray, List.set_cons_zero, List.set_cons_succ]
    refine wpAnyH_take (i := 3) (v := .pointer (some ⟨g, 0, none⟩)) rfl (by kernel_rfl) (by kernel_rfl) (by kernel_rfl) (fun _ _ _ h => h) (Or.inl ⟨by rfl, fun w hSw => by go_simp⟩) (by assumption) ?_
    change wpAnyH _ _ _ _ _ _ _ (Act.put _ (some 15) _) _
    simp only [Act.put, List.setIfInBounds_toArray, List.set_cons_zero, List.set_cons_succ]
    refine wpAnyH_take (i := 4) (v := .pointer (some ⟨mg, 0, none⟩)) rfl (by kernel_rfl) (by kernel_rfl) (by kernel_rfl) (fun _ _ _ h => h) (Or.inl ⟨by rfl, fun w hSw => by obtain ⟨s0, s1⟩ := hSw; go_simp⟩) (by assumption) ?_
    change wpAnyH _ _ _ _ _ _ _ (Act.put _ (some 16) _) _
    simp only [Act.put, List.setIfInBounds_toArray, List.set_cons_zero, List.set_cons_succ]
    refine wpAnyH_take (i := 5) (v := .pointer (some ⟨g, 0, none⟩)) rfl (by kernel_rfl) (by kernel_rfl) (by kernel_rfl) (fun _ _ _ h => h) (Or.inl ⟨by rfl, fun w hSw => by go_simp⟩) (by assumption) ?_
    change wpAnyH _ _ _ _ _ _ _ (Act.put _ (some 17) _) _
    simp only [Act.put, List.setIfInBounds_toArray, List.set_cons_zero, List.set_cons_succ]
    refine wpAnyH_take (i := 6) (v := .pointer (some ⟨g, 0, none⟩)) rfl (by kernel_rfl) (by kernel_rfl) (by kernel_rfl) (fun _ _ _ h => h) (Or.inl ⟨by rfl, fun w hSw => by go_simp⟩) (by assumption) ?_
    change wpAnyH _ _ _ _ _ _ _ (Act.put _ (some 18) _) _
    simp only [Act.put, List.setIfInBounds_toArray, List.set_cons_zero, List.set_cons_succ]
    refine wpAnyH_take (i := 7) (v := .pointer (some ⟨g, 1, none⟩)) rfl (by kernel_rfl) (by kernel_rfl) (by kernel_rfl) (fun _ _ _ h => h) (Or.inl ⟨by rfl, fun w hSw => by go_simp⟩) (by assumption) ?_
    change wpAnyH _ _ _ _ _ _ _ (Act.put _ (some 19) _) _
    simp only [Act.put, List.setIfInBounds_toArray, List.set_cons_zero, List.set_cons_succ]
    refine wpAnyH_take (i := 8) (v := .int .i64 A) rfl (by kernel_rfl) (by kernel_rfl) (by kernel_rfl) (fun _ _ _ h => h) (Or.inl ⟨by rfl, fun w hSw => by obtain ⟨s0, s1⟩ := hSw; go_simp⟩) (by assumption) ?_
    change wpAnyH _ _ _ _ _ _ _ (Act.put _ (some 20) _) _
    simp only [Act.put, List.setIfInBounds_toArray, List.set_cons_zero, List.set_cons_succ]
    refine wpAnyH_ready (rs := [9]) (by kernel_rfl) (by simp) ?_
    refine AllReadyH.cons rfl (fun KK hK => ?_) AllReadyH.nil
    clear hHeld
    go_simp
    refine (LD.out _ C0.out.mem).mono ?_
    rintro e x1 ⟨rfl, hm1, he1⟩
    have C1 := Lib.hid (C0.out.mem' hm1 he1)
    have O1 := Lib.hid (O0.out.trans (Only.of_else he1 (by simp) (by simp)))
    have R1 := Lib.hid (HRL.out _ O1.out (E0.out.trans he1))
    clear hm1 he1
    go_wp2_with fail
    refine hK.out _ _ ⟨C1.out.c0, C1.out.c1⟩ (fun hHeld => ?_)
    clear hK KK hHeld
    refine wpAnyH_ready (rs := [10]) (by kernel_rfl) (by simp) ?_
    refine AllReadyH.cons rfl (fun KK hK => ?_) AllReadyH.nil
    go_simp
    refine (SE.out _ C1 R1).mono ?_
    rintro e x2 ⟨rfl, hc2, ho2⟩
    have C2 := Lib.hid hc2
    have O2 := Lib.hid (O1.out.trans (ho2.mono (fun k hk => .inl (by simp at hk; simp [hk]))))
    clear hc2 ho2
    go_wp2_with fail
    refine hK.out _ _ ⟨C2.out.c0, C2.out.c1⟩ (fun hHeld => ?_)
    clear hK KK hHeld
    refine wpAnyH_done (by kernel_rfl) ?_ _
    refine NoPanic.normal ?_
    go_wp2_with fail
    go_meet
    case rel => exact ⟨rfl, C2.out, O2.out⟩
  case rest =>
    obtain ⟨rfl, hC, hO⟩ := hcut
    have HC := Lib.hid hC
    have HR : Hid (((k : Int) == 0) = decide (k = 0)) := by show _ = _; rw [Bool.eq_iff_iff]; simp
    have c1 := HC.out.c1
    have c2 := HC.out.c2
    have z1 := HC.out.fz 1
    have z2 := HC.out.fz 2
    have H1 := Lib.hid (HC.out.put12 (A + 1) (k : Int))
    have H2 := Lib.hid ((hO.trans (Only.of_set (j := 1) (by simp : g ∈ [g, mg, mh, mb]) (.int .i64 (A + 1)))).trans (Only.of_set (j := 2) (by simp : g ∈ [g, mg, mh, mb]) (.int .i64 (k : Int))))
    clear hC hO
    go_wp2_with fail
    go_ret
    exact ⟨retbool HR.out, H1.out, H2.out⟩

set_option maxRecDepth 20000 in
set_option maxHeartbeats 4000000 in
theorem tref_any (g mg mh mb : Nat) (A L W K : Int) (s : MSt) (n : Nat) (S : List Int) (w : World) (h : Hid (ScV w g mg mh mb A L W K s n S)) (hn : n ≤ 1048576) :
    Calls Tryd.prog 17 #[.pointer (some ⟨g, 0, none⟩)] w fun e w' => e = .returned (.agg #[.int .i64 W, .int .i64 K, .int .i64 (mex S : Nat)]) ∧ Below w.heap.size w w' := by
  have LS := Lib.hid fun w1 (h1 : Hid (ScV w1 g mg mh mb A L W K s n S)) => least_any mb n S w1 h1.out.set (by have := h1.out.le; omega)
  have B1 := Lib.hid (box1 w (.cells #[.int .i64 0, .int .i64 0, .int .i64 0] 33))
  have C1 := Lib.hid (h.out.next (box1 w (.cells #[.int .i64 0, .int .i64 0, .int .i64 0] 33)))
  have R1 := Lib.hid (heap_new w (.cells #[.int .i64 0, .int .i64 0, .int .i64 0] 33))
  have NL : Hid (∀ k ∈ [g, mg, mh, mb], k ∉ [w.heap.size]) := fun k hk => by have := h.out.lt; have := h.out.mem.lt; simp at hk ⊢; omega
  generalize mex S = M at *
  go_enter Tryd.func17, Tryd.ntmps17
  go_wp2_with fail
  generalize w.alloc (.cells #[.int .i64 0, .int .i64 0, .int .i64 0] 33) = w1 at *
  generalize hN : w.heap.size = N at *
  refine wp_region_noPanic ?_
  refine wp_region_held_drew (S := fun w' => w'.cell? ⟨g, 3, none⟩ = some (.int .i64 W) ∧ w'.cell? ⟨g, 4, none⟩ = some (.int .i64 K) ∧ w'.cell? ⟨g, 5, none⟩ = some (.map (some mb))) (by kernel_rfl) ⟨C1.out.c3, C1.out.c4, C1.out.c5⟩ (fun hHeld => ?_)
  have C2 := Lib.hid (C1.out.next (Below.refl _ w1).drew)
  have B2 : Hid (Below N w w1.drew) := B1.out.trans ((Below.refl _ _).drew)
  have R2 : Hid (w1.drew.heap[N]? = some (.cells #[.int .i64 0, .int .i64 0, .int .i64 0] 33 (0, 0))) := R1.out
  generalize w1.drew = w2 at *
  refine wpAnyH_take (i := 0) (v := .pointer (some ⟨g, 0, none⟩)) rfl (by kernel_rfl) (by kernel_rfl) (by kernel_rfl) (fun _ _ _ h => h) (Or.inl ⟨by rfl, fun w hSw => by go_simp⟩) (by assumption) ?_
  change wpAnyH _ _ _ _ _ _ _ (Act.put _ (some 6) _) _
  simp only [Act.put, List.setIfInBounds_toArray, List.set_cons_zero, List.set_cons_succ]
  refine wpAnyH_take (i := 1) (v := .pointer (some ⟨g, 0, none⟩)) rfl (by kernel_rfl) (by kernel_rfl) (by kernel_rfl) (fun _ _ _ h => h) (Or.inl ⟨by rfl, fun w hSw => by go_simp⟩) (by assumption) ?_
  change wpAnyH _ _ _ _ _ _ _ (Act.put _ (some 7) _) _
  simp only [Act.put, List.setIfInBounds_toArray, List.set_cons_zero, List.set_cons_succ]
  refine wpAnyH_take (i := 2) (v := .pointer (some ⟨g, 3, none⟩)) rfl (by kernel_rfl) (by kernel_rfl) (by kernel_rfl) (fun _ _ _ h => h) (Or.inl ⟨by rfl, fun w hSw => by go_simp⟩) (by assumption) ?_
  change wpAnyH _ _ _ _ _ _ _ (Act.put _ (some 8) _) _
  simp only [Act.put, List.setIfInBounds_toArray, List.set_cons_zero, List.set_cons_succ]
  refine wpAnyH_take (i := 3) (v := .int .i64 W) rfl (by kernel_rfl) (by kernel_rfl) (by kernel_rfl) (fun _ _ _ h => h) (Or.inl ⟨by rfl, fun w hSw => by obtain ⟨s0, s1, s2⟩ := hSw; go_simp⟩) (by assumption) ?_
  change wpAnyH _ _ _ _ _ _ _ (Act.put _ (some 9) _) _
  simp only [Act.put, List.setIfInBounds_toArray, List.set_cons_zero, List.set_cons_succ]
  refine wpAnyH_take (i := 4) (v := .pointer (some ⟨g, 0, none⟩)) rfl (by kernel_rfl) (by kernel_rfl) (by kernel_rfl) (fun _ _ _ h => h) (Or.inl ⟨by rfl, fun w hSw => by go_simp⟩) (by assumption) ?_
  change wpAnyH _ _ _ _ _ _ _ (Act.put _ (some 10) _) _
  simp only [Act.put, List.setIfInBounds_toArray, List.set_cons_zero, List.set_cons_succ]
  refine wpAnyH_take (i := 5) (v := .pointer (some ⟨g, 0, none⟩)) rfl (by kernel_rfl) (by kernel_rfl) (by kernel_rfl) (fun _ _ _ h => h) (Or.inl ⟨by rfl, fun w hSw => by go_simp⟩) (by assumption) ?_
  change wpAnyH _ _ _ _ _ _ _ (Act.put _ (some 11) _) _
  simp only [Act.put, List.setIfInBounds_toArray, List.set_cons_zero, List.set_cons_succ]
  refine wpAnyH_take (i := 6) (v := .pointer (some ⟨g, 4, none⟩)) rfl (by kernel_rfl) (by kernel_rfl) (by kernel_rfl) (fun _ _ _ h => h) (Or.inl ⟨by rfl, fun w hSw => by go_simp⟩) (by assumption) ?_
  change wpAnyH _ _ _ _ _ _ _ (Act.put _ (some 12) _) _
  simp only [Act.put, List.setIfInBounds_toArray, List.set_cons_zero, List.set_cons_succ]
  refine wpAnyH_take (i := 7) (v := .int .i64 K) rfl (by kernel_rfl) (by kernel_rfl) (by kernel_rfl) (fun _ _ _ h => h) (Or.inl ⟨by rfl, fun w hSw => by obtain ⟨s0, s1, s2⟩ := hSw; go_simp⟩) (by assumption) ?_
  change wpAnyH _ _ _ _ _ _ _ (Act.put _ (some 13) _) _
  simp only [Act.put, List.setIfInBounds_toArray, List.set_cons_zero, List.set_cons_succ]
  refine wpAnyH_take (i := 8) (v := .pointer (some ⟨g, 0, none⟩)) rfl (by kernel_rfl) (by kernel_rfl) (by kernel_rfl) (fun _ _ _ h => h) (Or.inl ⟨by rfl, fun w hSw => by go_simp⟩) (by assumption) ?_
  change wpAnyH _ _ _ _ _ _ _ (Act.put _ (some 14) _) _
  simp only [Act.put, List.setIfInBounds_toArray, List.set_cons_zero, List.set_cons_succ]
  refine wpAnyH_take (i := 9) (v := .pointer (some ⟨g, 0, none⟩)) rfl (by kernel_rfl) (by kernel_rfl) (by kernel_rfl) (fun _ _ _ h => h) (Or.inl ⟨by rfl, fun w hSw => by go_simp⟩) (by assumption) ?_
  change wpAnyH _ _ _ _ _ _ _ (Act.put _ (some 15) _) _
  simp only [Act.put, List.setIfInBounds_toArray, List.set_cons_zero, List.set_cons_succ]
  refine wpAnyH_take (i := 10) (v := .pointer (some ⟨g, 5, none⟩)) rfl (by kernel_rfl) (by kernel_rfl) (by kernel_rfl) (fun _ _ _ h => h) (Or.inl ⟨by rfl, fun w hSw => by go_simp⟩) (by assumption) ?_
  change wpAnyH _ _ _ _ _ _ _ (Act.put _ (some 16) _) _
  simp only [Act.put, List.setIfInBounds_toArray, List.set_cons_zero, List.set_cons_succ]
  refine wpAnyH_take (i := 11) (v := .map (some mb)) rfl (by kernel_rfl) (by kernel_rfl) (by kernel_rfl) (fun _ _ _ h => h) (Or.inl ⟨by rfl, fun w hSw => by obtain ⟨s0, s1, s2⟩ := hSw; go_simp⟩) (by assumption) ?_
  change wpAnyH _ _ _ _ _ _ _ (Act.put _ (some 17) _) _
  simp only [Act.put, List.setIfInBounds_toArray, List.set_cons_zero, List.set_cons_succ]
  refine wpAnyH_ready (rs := [12]) (by kernel_rfl) (by simp) ?_
  refine AllReadyH.cons rfl (fun KK hK => ?_) AllReadyH.nil
  go_simp
  refine (LS.out _ C2).mono ?_
  rintro e x2 ⟨rfl, rfl⟩
  go_wp2_with fail
  refine hK.out _ _ hHeld (fun hHeld => ?_)
  clear hK KK
  refine wpAnyH_take (i := 13) (v := .agg #[.int .i64 W, .int .i64 K, .int .i64 (M : Int)]) rfl (by kernel_rfl) (by kernel_rfl) (by kernel_rfl) (fun _ _ _ h => h) (Or.inl ⟨by rfl, fun w hSw => by go_simp⟩) (by assumption) ?_
  change wpAnyH _ _ _ _ _ _ _ (Act.put _ (some 19) _) _
  simp only [Act.put, List.setIfInBounds_toArray, List.set_cons_zero, List.set_cons_succ]
  clear hHeld
  refine wpAnyH_ready (rs := [14]) (by kernel_rfl) (by simp) ?_
  refine AllReadyH.cons rfl (fun KK hK => ?_) AllReadyH.nil
  have z0 := frozen_of (j := 0) R2.out
  have z1 := frozen_of (j := 1) R2.out
  have z2 := frozen_of (j := 2) R2.out
  have c0 : w2.cell? ⟨N, 0, none⟩ = some (.int .i64 0) := cell_of R2.out
  have c1 : w2.cell? ⟨N, 1, none⟩ = some (.int .i64 0) := cell_of R2.out
  have c2 : w2.cell? ⟨N, 2, none⟩ = some (.int .i64 0) := cell_of R2.out
  have HZ : Hid ((((w2.setCell ⟨N, 0, none⟩ (.int .i64 W)).setCell ⟨N, 1, none⟩ (.int .i64 K)).setCell ⟨N, 2, none⟩ (.int .i64 (M : Int))).heap[N]? = some (.cells #[.int .i64 W, .int .i64 K, .int .i64 (M : Int)] 33 (0, 0))) := by
    show _ = _
    rw [set_of (set_of (set_of R2.out _) _) _]; rfl
  have CZ := Lib.hid (C2.out.stay (l := [N]) (((Only.of_set (j := 0) (by simp : N ∈ [N]) (.int .i64 W)).trans (Only.of_set (j := 1) (by simp : N ∈ [N]) (.int .i64 K))).trans (Only.of_set (j := 2) (by simp : N ∈ [N]) (.int .i64 (M : Int)))) NL.out)
  have BZ := Lib.hid (((B2.out.setCell (p := ⟨N, 0, none⟩) (Nat.le_refl N) (.int .i64 W)).setCell (p := ⟨N, 1, none⟩) (Nat.le_refl N) (.int .i64 K)).setCell (p := ⟨N, 2, none⟩) (Nat.le_refl N) (.int .i64 (M : Int)))
  go_simp
  generalize ((w2.setCell ⟨N, 0, none⟩ (.int .i64 W)).setCell ⟨N, 1, none⟩ (.int .i64 K)).setCell ⟨N, 2, none⟩ (.int .i64 (M : Int)) = w3 at *
  refine hK.out _ _ ⟨CZ.out.c3, CZ.out.c4, CZ.out.c5⟩ (fun hHeld => ?_)
  clear hK KK hHeld z0 z1 z2 c0 c1 c2
  refine wpAnyH_done (by kernel_rfl) ?_ _
  refine NoPanic.normal ?_
  have c0 : w3.cell? ⟨N, 0, none⟩ = some (.int .i64 W) := cell_of HZ.out
  have c1 : w3.cell? ⟨N, 1, none⟩ = some (.int .i64 K) := cell_of HZ.out
  have c2 : w3.cell? ⟨N, 2, none⟩ = some (.int .i64 (M : Int)) := cell_of HZ.out
  go_wp2_with fail
  exact bodyPost_ret (v := .agg #[.int .i64 W, .int .i64 K, .int .i64 (M : Int)]) (by simp [results, Tryd.results17, c0, c1, c2, go_sem]) rfl ⟨rfl, by rw [hN]; exact BZ.out⟩

end Go.Proofs.YtlpaijobcopbnaaDoor
