/-
  An object that may be anyone's is asked with care: what panics answers nothing. (A counter and a stack never do.)
-/
import Derived.Test.YtmdjhjfmnkileaaObj2
import Derived.Defers
import Derived.Recover
namespace Go.Proofs.Ytmdjhjfmnkileaa
open Go.RowKit Go.Sort

theorem meth_cw (w : World) : (method 164 28 (.agg #[]) "Words").run Try.prog w = .ok (12, .agg #[]) w := by kernel_rfl
theorem meth_ca (w : World) : (method 164 28 (.agg #[]) "Apply").run Try.prog w = .ok (36, .agg #[]) w := by kernel_rfl
theorem meth_sw (r : Int) (w : World) : (method 164 36 (.agg #[.int .i64 r]) "Words").run Try.prog w = .ok (14, .agg #[.int .i64 r]) w := by kernel_rfl
theorem meth_sa (r : Int) (w : World) : (method 164 36 (.agg #[.int .i64 r]) "Apply").run Try.prog w = .ok (15, .agg #[.int .i64 r]) w := by kernel_rfl
theorem two_new (w : World) (a b : Obj) : ((w.alloc a).alloc b).heap[w.heap.size]? = some a ∧ ((w.alloc a).alloc b).heap[w.heap.size + 1]? = some b ∧ Below w.heap.size w ((w.alloc a).alloc b) ∧ ((w.alloc a).alloc b).heap.size = w.heap.size + 1 + 1 := by
  have e1 : (w.alloc a).heap.size = w.heap.size + 1 := by simp
  have h2 := heap_new (w.alloc a) b
  rw [e1] at h2
  refine ⟨?_, h2, ((Below.refl _ _).alloc (Nat.le_refl _) a).alloc (by omega) b, by simp⟩
  rw [Below.heap_alloc _ _ _ (by omega)]; exact heap_new w a
theorem obW_le (o : Ob) : obW o ≤ 1001 := by
  cases o with
  | none => show 1 ≤ 1001; omega
  | some r => have := room_le r; show roomN r + 1 ≤ 1001; omega
set_option maxRecDepth 20000 in
theorem wordsOf_idle (p : Addr) (n : Nat) (w : World) (hc : w.cell? p = some (.int .i64 (n : Int))) (hn : n ≤ 2147483647) :
    CallsD Try.prog 19 #[.pointer (some p)] .returning w fun e u' w' => e = .returned (.tuple #[]) ∧ u' = .returning ∧ w' = w := by
  have g1 : ¬ ((n : Int) < 0) := by omega
  have g2' : ¬ (2147483647 < (n : Int)) := by omega
  refine callsD_of_wpS Try.func19 rfl fun c₀ cs hu => ?_
  apply wpS_seq
  apply wpS_region
  simp [wpOpsS, go_sem, recoverD, hu, Try.ntmps19, Exit.thenS, hc, g1, g2', Region.wanted, yielded]
  refine wpS_cond (t := false) (by simp [Act.eval, Array.replicate]) ?_
  simp only [Bool.false_eq_true, if_false]
  refine wpS_of_wp (wp_skip ?_)
  cases c₀
  simp_all [bodyPostS, results, Try.results19]
theorem apply_idle (p : Addr) (w : World) :
    CallsD Try.prog 20 #[.pointer (some p)] .returning w fun e u' w' => e = .returned (.tuple #[]) ∧ u' = .returning ∧ w' = w := by
  refine callsD_of_wpS Try.func20 rfl fun c₀ cs hu => ?_
  apply wpS_seq
  apply wpS_region
  simp [wpOpsS, go_sem, recoverD, hu, Try.ntmps20, Exit.thenS]
  refine wpS_cond (t := false) (by simp [Act.eval, Array.replicate]) ?_
  simp only [Bool.false_eq_true, if_false]
  refine wpS_of_wp (wp_skip ?_)
  cases c₀
  simp_all [bodyPostS, results, Try.results20]
set_option maxRecDepth 20000 in
set_option maxHeartbeats 2000000 in
theorem apply9_any (o : Ob) (b n c A B : Nat) (L : List Nat) (w : World) (hb : Hid (w.heap[b]? = some (.cells (wordsOf L) 29 (0, 0)))) (hn : n = obW o) (hl : n ≤ L.length) (hL : Hid (∀ x ∈ L, x < 18446744073709551616)) :
    Calls Try.prog 17 #[obV o, .slice (some ⟨b, 0, none⟩) n c, .agg #[.int .u64 A, .int .u64 B]] w fun e w' => e = .returned (.agg #[.int .u64 ((obApp o L (A, B)).2.1 : Nat), .int .u64 ((obApp o L (A, B)).2.2 : Nat)]) ∧ w'.heap[b]? = some (.cells (wordsOf (obApp o L (A, B)).1) 29 (0, 0)) ∧ Only [b] w w' := by
  have hmf : ∀ (fn : Fn) (first cap : Array Value) (w : World), (Instr.makeFunc fn first cap).run Try.prog w = .ok (.func fn first cap) w := fun _ _ _ _ => rfl
  have lb := heap_lt hb.out
  obtain ⟨_, q1, q2, q3⟩ := two_new w (.cells #[.int .u64 A, .int .u64 B] 40) (.cells #[.int .u64 0, .int .u64 0] 40)
  have R1 := Lib.hid q1
  have B1 := Lib.hid q2
  have S1 := Lib.hid q3
  clear q1 q2 q3
  cases o with
  | none =>
    obtain rfl : n = 1 := hn
    have hm := meth_ca
    have CC : Hid _ := Lib.hid fun w1 (h1 : Hid (w1.heap[b]? = some (.cells (wordsOf L) 29 (0, 0)))) => capply_any b c A B L w1 h1 (by omega) hL
    unfold obV
    generalize obApp none L (A, B) = V at *
    go_enter_defers Try.func17, Try.ntmps17
    go_wp2_with fail
    generalize (w.alloc (.cells #[.int .u64 A, .int .u64 B] 40)).alloc (.cells #[.int .u64 0, .int .u64 0] 40) = w1 at *
    generalize hN : w.heap.size = N at *
    refine (CC.out w1 (Lib.hid ((B1.out.block _ lb).trans hb.out))).mono ?_
    rintro e w2 ⟨rfl, h2, o2⟩
    have R2 : Hid (w2.heap[N + 1]? = some (.cells #[.int .u64 0, .int .u64 0] 40 (0, 0))) := (o2.block _ (by have := S1.out; omega) (by simp; omega)).trans R1.out
    have H2 := Lib.hid h2
    have O2 := Lib.hid o2
    clear h2 o2
    have e0 : w2.cell? ⟨N + 1, 0, none⟩ = some (.int .u64 0) := by rw [cell_of R2.out]; rfl
    have e1 : w2.cell? ⟨N + 1, 1, none⟩ = some (.int .u64 0) := by rw [cell_of R2.out]; rfl
    have f0 := frozen_of (j := 0) R2.out
    have f1 := frozen_of (j := 1) R2.out
    go_wp2_with fail
    refine leaves_cons (f := 20) (args := #[.pointer (some ⟨N + 1, 0, none⟩)]) (by simp) (by simp [go_sem]) ?_
    refine (apply_idle ⟨N + 1, 0, none⟩ _).mono ?_
    rintro e u' w'' ⟨rfl, rfl, rfl⟩
    simp [Leaves, settle, results, Try.results17, go_sem, e0, e1]
    refine ⟨by rw [set_other (by omega), set_other (by omega)]; exact H2.out, ?_⟩
    exact ((Only.of_below (by rw [hN]; exact B1.out)).trans O2.out).trans' ((Only.of_set (l := [N + 1]) (by simp) _).trans (Only.of_set (by simp) _)) (by intro k hk; simp at hk ⊢; omega)
  | some r =>
    have hm := meth_sa
    have CC : Hid _ := Lib.hid fun w1 (h1 : Hid (w1.heap[b]? = some (.cells (wordsOf L) 29 (0, 0)))) => sapply_any r b n c A B L w1 h1 hn hl hL
    clear hn
    unfold obV
    generalize obApp (some r) L (A, B) = V at *
    go_enter_defers Try.func17, Try.ntmps17
    go_wp2_with fail
    generalize (w.alloc (.cells #[.int .u64 A, .int .u64 B] 40)).alloc (.cells #[.int .u64 0, .int .u64 0] 40) = w1 at *
    generalize hN : w.heap.size = N at *
    refine (CC.out w1 (Lib.hid ((B1.out.block _ lb).trans hb.out))).mono ?_
    rintro e w2 ⟨rfl, h2, o2⟩
    have R2 : Hid (w2.heap[N + 1]? = some (.cells #[.int .u64 0, .int .u64 0] 40 (0, 0))) := (o2.block _ (by have := S1.out; omega) (by simp; omega)).trans R1.out
    have H2 := Lib.hid h2
    have O2 := Lib.hid o2
    clear h2 o2
    have e0 : w2.cell? ⟨N + 1, 0, none⟩ = some (.int .u64 0) := by rw [cell_of R2.out]; rfl
    have e1 : w2.cell? ⟨N + 1, 1, none⟩ = some (.int .u64 0) := by rw [cell_of R2.out]; rfl
    have f0 := frozen_of (j := 0) R2.out
    have f1 := frozen_of (j := 1) R2.out
    go_wp2_with fail
    refine leaves_cons (f := 20) (args := #[.pointer (some ⟨N + 1, 0, none⟩)]) (by simp) (by simp [go_sem]) ?_
    refine (apply_idle ⟨N + 1, 0, none⟩ _).mono ?_
    rintro e u' w'' ⟨rfl, rfl, rfl⟩
    simp [Leaves, settle, results, Try.results17, go_sem, e0, e1]
    refine ⟨by rw [set_other (by omega), set_other (by omega)]; exact H2.out, ?_⟩
    exact ((Only.of_below (by rw [hN]; exact B1.out)).trans O2.out).trans' ((Only.of_set (l := [N + 1]) (by simp) _).trans (Only.of_set (by simp) _)) (by intro k hk; simp at hk ⊢; omega)
set_option maxRecDepth 20000 in
set_option maxHeartbeats 2000000 in
theorem wordsOf9_any (o : Ob) (w : World) :
    Calls Try.prog 16 #[obV o] w fun e w' => e = .returned (.int .i64 ((obW o : Nat) : Int)) ∧ Below w.heap.size w w' := by
  have hmf : ∀ (fn : Fn) (first cap : Array Value) (w : World), (Instr.makeFunc fn first cap).run Try.prog w = .ok (.func fn first cap) w := fun _ _ _ _ => rfl
  have R1 := Lib.hid (heap_new w (.cells #[.int .i64 0] 3))
  have B1 := Lib.hid (box1 w (.cells #[.int .i64 0] 3))
  have hW := obW_le o
  cases o with
  | none =>
    have hm := meth_cw
    have CC := Lib.hid fun w1 => cwords9_any w1
    unfold obV
    generalize hM : obW none = M at *
    go_enter_defers Try.func16, Try.ntmps16
    go_wp2_with fail
    generalize w.alloc (.cells #[.int .i64 0] 3) = w1 at *
    generalize hN : w.heap.size = N at *
    refine (CC.out w1).mono ?_
    rintro e w2 ⟨rfl, hb⟩
    obtain rfl : M = 1 := hM.symm
    have R2 : Hid (w2.heap[N]? = some (.cells #[.int .i64 0] 3 (0, 0))) := (hb.block _ (heap_lt R1.out)).trans R1.out
    have B2 : Hid (Below N w w2) := B1.out.trans (hb.mono (by rw [← hN]; exact B1.out.size))
    clear hb
    have e0 : w2.cell? ⟨N, 0, none⟩ = some (.int .i64 0) := by rw [cell_of R2.out]; rfl
    have f0 := frozen_of (j := 0) R2.out
    go_wp2_with fail
    refine leaves_cons (f := 19) (args := #[.pointer (some ⟨N, 0, none⟩)]) (by simp) (by simp [go_sem]) ?_
    refine (wordsOf_idle ⟨N, 0, none⟩ 1 _ (by simp [go_sem, e0]) (by omega)).mono ?_
    rintro e u' w'' ⟨rfl, rfl, rfl⟩
    simp [Leaves, settle, results, Try.results16, go_sem, e0]
    rw [hN]
    exact B2.out.setCell (p := ⟨N, 0, none⟩) (Nat.le_refl _) _
  | some r =>
    have hm := meth_sw
    have CC := Lib.hid fun w1 => swords_any r w1
    unfold obV
    have hM : obW (some r) = roomN r + 1 := rfl
    rw [hM] at hW ⊢
    generalize roomN r + 1 = M at *
    go_enter_defers Try.func16, Try.ntmps16
    go_wp2_with fail
    generalize w.alloc (.cells #[.int .i64 0] 3) = w1 at *
    generalize hN : w.heap.size = N at *
    refine (CC.out w1).mono ?_
    rintro e w2 ⟨rfl, hb⟩
    have R2 : Hid (w2.heap[N]? = some (.cells #[.int .i64 0] 3 (0, 0))) := (hb.block _ (heap_lt R1.out)).trans R1.out
    have B2 : Hid (Below N w w2) := B1.out.trans (hb.mono (by rw [← hN]; exact B1.out.size))
    clear hb
    have e0 : w2.cell? ⟨N, 0, none⟩ = some (.int .i64 0) := by rw [cell_of R2.out]; rfl
    have f0 := frozen_of (j := 0) R2.out
    go_wp2_with fail
    refine leaves_cons (f := 19) (args := #[.pointer (some ⟨N, 0, none⟩)]) (by simp) (by simp [go_sem]) ?_
    refine (wordsOf_idle ⟨N, 0, none⟩ M _ (by simp [go_sem, e0]) (by omega)).mono ?_
    rintro e u' w'' ⟨rfl, rfl, rfl⟩
    simp [Leaves, settle, results, Try.results16, go_sem, e0]
    rw [hN]
    exact B2.out.setCell (p := ⟨N, 0, none⟩) (Nat.le_refl _) _
end Go.Proofs.Ytmdjhjfmnkileaa
