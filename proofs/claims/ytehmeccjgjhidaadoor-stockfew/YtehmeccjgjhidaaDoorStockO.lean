/-
  stock.New: a Stock without blocks.
-/
import Derived.Test.YtehmeccjgjhidaaDoorStockN
import Derived.Test.YtehmeccjgjhidaaDoorSteps
namespace Go.Proofs.YtehmeccjgjhidaaDoor
open Go.RowKit Go.Maps Go.Sort Go.Shelf

def pilO (o : Nat → Option Nat) (j : Nat) : List Value := [.slice none 0 0, .map (o j)]
def pilR (o : Nat → Option Nat) (n : Nat) : List Value := (List.range n).flatMap (pilO o)
theorem pilR_succ (o : Nat → Option Nat) (n : Nat) : pilR o (n + 1) = pilR o n ++ [.slice none 0 0, .map (o n)] := by simp [pilR, List.range_succ, List.flatMap_append, pilO]
theorem pilR_len (o : Nat → Option Nat) (n : Nat) : (pilR o n).length = n * 2 := by
  induction n with
  | zero => rfl
  | succ n ih => rw [pilR_succ, List.length_append, ih]; simp; omega
theorem pilR_at (o : Nat → Option Nat) {n k : Nat} (h : k < n) : (pilR o n)[k * 2 + 1]? = some (.map (o k)) := by
  induction n with
  | zero => omega
  | succ n ih =>
    have hl := pilR_len o n
    rw [pilR_succ]
    by_cases e : k < n
    · rw [List.getElem?_append_left (by omega)]
      exact ih e
    · obtain rfl : k = n := by omega
      rw [List.getElem?_append_right (by omega), hl, show k * 2 + 1 - k * 2 = 1 from by omega]
      rfl
theorem pilR_congr {o p : Nat → Option Nat} {n : Nat} (h : ∀ j, j < n → o j = p j) : pilR o n = pilR p n := by
  induction n with
  | zero => rfl
  | succ n ih => rw [pilR_succ, pilR_succ, ih fun j hj => h j (by omega), h n (by omega)]
theorem pilR_set (o : Nat → Option Nat) {n k : Nat} (h : k < n) (b : Option Nat) : (pilR o n).set (k * 2 + 1) (.map b) = pilR (fun j => if j = k then b else o j) n := by
  induction n with
  | zero => omega
  | succ n ih =>
    have hl := pilR_len o n
    rw [pilR_succ, pilR_succ]
    by_cases e : k < n
    · rw [List.set_append_left _ _ (by omega), ih e]
      simp only [if_neg (show n ≠ k from by omega)]
    · obtain rfl : k = n := by omega
      have e3 : pilR (fun j => if j = k then b else o j) k = pilR o k := pilR_congr (fun j hj => by simp only [if_neg (show j ≠ k from by omega)])
      rw [List.set_append_right _ _ (by omega), hl, e3]
      rw [show k * 2 + 1 - k * 2 = 1 from by omega]
      simp
theorem pilR_all {o : Nat → Option Nat} {M : Nat → Nat} {n : Nat} (h : ∀ j, j < n → o j = some (M j)) : pilR o n = pilesOf (fun _ => .slice none 0 0) M n := by
  rw [pilR_congr (p := fun j => some (M j)) h]
  rfl
theorem made_pil (n : Nat) : madeCells #[.slice none 0 0, .map none] (n * 2) = (pilR (fun _ => none) n).toArray := by
  apply Array.ext'
  show _ = pilR _ n
  induction n with
  | zero => simp [madeCells, pilR]
  | succ n ih =>
    have h1 : n * 2 % 2 = 0 := by omega
    have h2 : (n * 2 + 1) % 2 = 1 := by omega
    rw [pilR_succ, ← ih, show (n + 1) * 2 = n * 2 + 1 + 1 from by omega]
    simp [madeCells, Array.range_succ, h1, h2]
theorem infoPil : (Tryd.prog.info? 53).map (fun i => (i.zero, i.size, i.bytes)) = some (some (.agg #[.slice none 0 0, .map none]), 2, 32) := by kernel_rfl
/-- A slice that is made, in a drawn region. -/
theorem step_make_bk {P : Program} {ops : Array Oper} {Q : Exit → Act → World → Prop} {a : Act} {w w' : World} {K : Act → World → Prop} {o : Oper} {l c : Operand} {t : TypeId} {kl kc : IntKind} {n : Nat} {v : Value} (hw : Region.wanted o (yielded ops a.tmps) = true) (hop : o.op = Op.makeSlice t l c) (hl : a.eval l = .int kl (n : Int)) (hc : a.eval c = .int kc (n : Int))
    (hrun : (Instr.makeSlice t (.int kl (n : Int)) (.int kc (n : Int))).run P w = .ok v w') (h : K (a.put o.dst v) w') : if Region.wanted o (yielded ops a.tmps) = true then Oper.wp P o a w K Q else K (a.put o.dst undef) w := by
  rw [if_pos hw]
  unfold Oper.wp
  simp [execOp, hop, hl, hc, hrun, Result.andThen]
  exact h
/-- A Stock whose first k piles have their maps. -/
structure Nw (w0 w : World) (sb clb pb : Nat) (W S B T : Int) (len : Nat) (f : Nat → Int) (k : Nat) (M : Nat → Nat) : Prop where
  box : w.heap[sb]? = some (.cells #[.int .i64 W, .int .i64 S, .int .i64 B, .int .i64 T, .slice (some ⟨clb, 0, none⟩) len len, .slice (some ⟨pb, 0, none⟩) len len] 50 (0, 0))
  row : w.heap[clb]? = some (.cells (numsOf f len).toArray 3 (0, 0))
  pil : w.heap[pb]? = some (.cells (pilR (fun j => if j < k then some (M j) else none) len).toArray 53 (0, 0))
  set : ∀ j, j < k → BSet w (M j) 0 []
  inj : ∀ i j, i < k → j < k → M i = M j → i = j
  f1 : w0.heap.size ≤ sb
  f2 : w0.heap.size ≤ clb
  f3 : w0.heap.size ≤ pb
  be : Below w0.heap.size w0 w
  ne : clb ≠ pb
  f4 : ∀ j, j < k → w0.heap.size ≤ M j
theorem Nw.more {w0 w : World} {sb clb pb : Nat} {W S B T : Int} {len : Nat} {f : Nat → Int} {k : Nat} {M : Nat → Nat} (h : Nw w0 w sb clb pb W S B T len f k M) (hk : k < len) :
    Nw w0 ((w.alloc (.map #[] 0)).setCell ⟨pb, k * 2 + 1, none⟩ (.map (some w.heap.size))) sb clb pb W S B T len f (k + 1) (fun j => if j = k then w.heap.size else M j) := by
  have bb := box1 w (.map #[] 0)
  have l1 := heap_lt h.box
  have l2 := heap_lt h.row
  have l3 := heap_lt h.pil
  have n1 : sb ≠ pb := fun e => by have h1 := h.box; rw [e, h.pil] at h1; simp at h1
  have e1 := (bb.block _ l3).trans h.pil
  have O : ∀ b, b ≠ pb → ((w.alloc (.map #[] 0)).setCell ⟨pb, k * 2 + 1, none⟩ (.map (some w.heap.size))).heap[b]? = (w.alloc (.map #[] 0)).heap[b]? := fun b hb => set_other hb _
  refine ⟨(O _ n1).trans ((bb.block _ l1).trans h.box), (O _ h.ne).trans ((bb.block _ l2).trans h.row), ?_, fun j hj => ?_, fun i j hi hj e => ?_, h.f1, h.f2, h.f3, ?_, h.ne, fun j hj => ?_⟩
  · rw [set_of e1]
    congr 2
    rw [List.setIfInBounds_toArray, pilR_set _ hk]
    congr 1
    refine pilR_congr fun j hj => ?_
    by_cases a : j = k
    · subst a; simp
    · simp only [if_neg a]
      by_cases b : j < k
      · simp [b, show j < k + 1 from by omega]
      · simp [b, show ¬ j < k + 1 from by omega]
  · by_cases a : j = k
    · simp only [if_pos a]
      exact (BSet.made w).keep (O _ (by omega))
    · simp only [if_neg a]
      have q := h.set j (by omega)
      have ql := q.lt
      exact (q.next bb).keep (O _ (fun e => by obtain ⟨es, c, hm⟩ := q.obj; rw [e, h.pil] at hm; simp at hm))
  · by_cases a : i = k <;> by_cases b : j = k
    · omega
    · simp only [if_pos a, if_neg b] at e
      have := (h.set j (by omega)).lt
      omega
    · simp only [if_neg a, if_pos b] at e
      have := (h.set i (by omega)).lt
      omega
    · simp only [if_neg a, if_neg b] at e
      exact h.inj i j (by omega) (by omega) e
  · exact (h.be.trans (bb.mono h.be.size)).setCell (p := ⟨pb, k * 2 + 1, none⟩) h.f3 _
  · by_cases a : j = k
    · simp only [if_pos a]; exact h.be.size
    · simp only [if_neg a]; exact h.f4 j (by omega)
theorem Nw.done {w0 w : World} {sb clb pb : Nat} {W S B T : Int} {len : Nat} {f : Nat → Int} {M : Nat → Nat} (h : Nw w0 w sb clb pb W S B T len f len M) :
    Stk w sb clb pb W S B T len f 0 (fun _ => []) (fun _ => .slice none 0 0) M :=
  ⟨h.box, h.row, by rw [h.pil, pilR_all (M := M) fun j hj => by simp [hj]], fun _ _ => ORow.nil w, h.set, fun _ _ => ⟨Nat.le_refl _, by simp⟩, h.inj, fun _ _ _ _ _ e => by cases e⟩
set_option maxRecDepth 20000 in
set_option maxHeartbeats 4000000 in
theorem snew_any (W S B T : Int) (ad : Option Addr) (len cap : Nat) (f : Nat → Int) (w : World) (hr : Hid (RowI w ad len f)) (hl : len ≤ 1000) :
    Calls Tryd.prog 6 #[.agg #[.int .i64 W, .int .i64 S, .int .i64 B, .int .i64 T, .slice ad len cap]] w fun e w' => ∃ sb clb pb M, e = .returned (.pointer (some ⟨sb, 0, none⟩)) ∧ Stk w' sb clb pb W S B T len f 0 (fun _ => []) (fun _ => .slice none 0 0) M ∧ w.heap.size ≤ sb ∧ w.heap.size ≤ clb ∧ w.heap.size ≤ pb ∧ (∀ j, j < len → w.heap.size ≤ M j) ∧ Below w.heap.size w w' := by
  have K0 : Hid (Ar w (w.alloc (.cells #[.int .i64 W, .int .i64 S, .int .i64 B, .int .i64 T, .slice ad len cap] 24)) w.heap.size W S B T ad len cap f) := Ar.start hr.out
  have hmk := @run_makeMap Tryd.prog
  go_enter Tryd.func6, Tryd.ntmps6
  go_wp2_with fail
  generalize w.alloc (.cells #[.int .i64 W, .int .i64 S, .int .i64 B, .int .i64 T, .slice ad len cap] 24) = w1 at *
  generalize hN : w.heap.size = N at *
  go_upto_region 1 with fail
  go_cut [3] (fun u3 wx => ∃ sb cb pb, u3 = .pointer (some ⟨sb, 0, none⟩) ∧ Hid (Nw w wx sb cb pb W S B T len f 0 (fun _ => 0)))
  case first =>
    refine wp_region_noPanic ?_
    refine wp_region_held_drew (S := fun w' => Cfg5 w' N W S B T (.slice ad len cap)) (by kernel_rfl) (K0.out.drew.c) (fun hHeld => ?_)
    have G0 := Lib.hid K0.out.drew
    generalize w1.drew = z0 at *
    refine wpAnyH_take (i := 0) (v := .agg #[.int .i64 W, .int .i64 S, .int .i64 B, .int .i64 T, .slice ad len cap]) rfl (by kernel_rfl) (by kernel_rfl) (by kernel_rfl) (fun _ _ _ h => h) (Or.inl ⟨by rfl, fun w hSw => by obtain ⟨c0, c1, c2, c3, c4⟩ := cfg_cells hSw; go_simp⟩) (by assumption) ?_
    change wpAnyH _ _ _ _ _ _ _ (Act.put _ (some 5) _) _
    simp only [Act.put, List.setIfInBounds_toArray, List.set_cons_zero, List.set_cons_succ]
    refine wpAnyH_take (i := 2) (v := .pointer (some ⟨N, 4, none⟩)) rfl (by kernel_rfl) (by kernel_rfl) (by kernel_rfl) (fun _ _ _ h => h) (Or.inl ⟨by rfl, fun w hSw => by obtain ⟨c0, c1, c2, c3, c4⟩ := cfg_cells hSw; go_simp⟩) (by assumption) ?_
    change wpAnyH _ _ _ _ _ _ _ (Act.put _ (some 7) _) _
    simp only [Act.put, List.setIfInBounds_toArray, List.set_cons_zero, List.set_cons_succ]
    refine wpAnyH_take (i := 3) (v := .slice ad len cap) rfl (by kernel_rfl) (by kernel_rfl) (by kernel_rfl) (fun _ _ _ h => h) (Or.inl ⟨by rfl, fun w hSw => by obtain ⟨c0, c1, c2, c3, c4⟩ := cfg_cells hSw; go_simp⟩) (by assumption) ?_
    change wpAnyH _ _ _ _ _ _ _ (Act.put _ (some 8) _) _
    simp only [Act.put, List.setIfInBounds_toArray, List.set_cons_zero, List.set_cons_succ]
    refine wpAnyH_take (i := 4) (v := .int .i64 (len : Nat)) rfl (by kernel_rfl) (by kernel_rfl) (by kernel_rfl) (fun _ _ _ h => h) (Or.inl ⟨by rfl, fun w hSw => by obtain ⟨c0, c1, c2, c3, c4⟩ := cfg_cells hSw; go_simp⟩) (by assumption) ?_
    change wpAnyH _ _ _ _ _ _ _ (Act.put _ (some 9) _) _
    simp only [Act.put, List.setIfInBounds_toArray, List.set_cons_zero, List.set_cons_succ]
    refine wpAnyH_ready (rs := [1, 5]) (by kernel_rfl) (by simp) ?_
    refine AllReadyH.cons rfl (fun K hK => ?_) (AllReadyH.cons rfl (fun K hK => ?_) (AllReadyH.nil))
    · refine step_enter (F := 16) (vals := #[.agg #[.int .i64 W, .int .i64 S, .int .i64 B, .int .i64 T, .slice ad len cap]]) rfl (by kernel_rfl) ?_
      refine (copy_any W S B T ad len cap f z0 (Lib.hid G0.out.r) hl).mono ?_
      rintro e y1 ⟨cb, rfl, qc1, qc2, hb⟩
      have C1 := Lib.hid qc1
      have D1 : Hid (w.heap.size ≤ cb ∧ cb ≠ N) := Lib.hid (by have h1 := G0.out.b.size; have h2 := G0.out.lt; omega)
      have G1 := Lib.hid (G0.out.next hb)
      clear qc1 qc2 hb
      show K (Act.put _ (some 6) _) y1
      refine hK.out _ _ (G1.out.c) (fun hHeld1 => ?_)
      clear hK K
      simp only [Act.put, List.setIfInBounds_toArray, List.set_cons_zero, List.set_cons_succ]
      refine wpAnyH_ready (rs := [5]) (by kernel_rfl) (by simp) ?_
      refine AllReadyH.cons rfl (fun K hK => ?_) (AllReadyH.nil)
      obtain ⟨i0, hi, hz0, hz1, hz2⟩ := info_parts' infoPil
      have hrun := run_make (P := Tryd.prog) y1 48 53 i0 (.agg #[.slice none 0 0, .map none]) Tryd.underlying48 hi hz0 .i64 .i64 (len : Int) (len : Int) (by omega) (by omega) (by rw [hz2]; omega) (by omega)
      rw [Int.toNat_natCast, hz1] at hrun
      refine step_make_bk (v := .slice (some ⟨y1.heap.size, 0, none⟩) len len) (w' := y1.alloc (.cells (madeCells #[.slice none 0 0, .map none] (len * 2)) 53)) rfl rfl rfl rfl hrun ?_
      have hb := box1 y1 (.cells (madeCells #[.slice none 0 0, .map none] (len * 2)) 53)
      have P1 : Hid ((y1.alloc (.cells (madeCells #[.slice none 0 0, .map none] (len * 2)) 53)).heap[y1.heap.size]? = some (.cells (pilR (fun _ => none) len).toArray 53 (0, 0))) := by
        show _ = _
        rw [heap_new, ← made_pil]
      have Q1 : Hid (w.heap.size ≤ y1.heap.size ∧ y1.heap.size ≠ N) := Lib.hid (by have h1 := G1.out.b.size; have h2 := G1.out.lt; omega)
      have G2 := Lib.hid (G1.out.next hb)
      clear hrun hi hz0 hz1 hz2
      have C2 := Lib.hid ((hb.block _ (heap_lt C1.out)).trans C1.out)
      have PC : Hid (cb ≠ y1.heap.size) := Lib.hid (Nat.ne_of_lt (heap_lt C1.out))
      clear hb
      generalize y1.alloc (.cells (madeCells #[.slice none 0 0, .map none] (len * 2)) 53) = y2 at *
      generalize y1.heap.size = pb at *
      show K (Act.put _ (some 10) _) y2
      refine hK.out _ _ (G2.out.c) (fun hHeld2 => ?_)
      clear hK K
      simp only [Act.put, List.setIfInBounds_toArray, List.set_cons_zero, List.set_cons_succ]
      refine wpAnyH_take (i := 6) (v := .agg #[.int .i64 W, .int .i64 S, .int .i64 B, .int .i64 T, .slice (some ⟨cb, 0, none⟩) len len, .slice (some ⟨pb, 0, none⟩) len len]) rfl (by kernel_rfl) (by kernel_rfl) (by kernel_rfl) (fun _ _ _ h => h) (Or.inl ⟨by rfl, fun w hSw => by obtain ⟨c0, c1, c2, c3, c4⟩ := cfg_cells hSw; go_simp⟩) (by assumption) ?_
      change wpAnyH _ _ _ _ _ _ _ (Act.put _ (some 11) _) _
      simp only [Act.put, List.setIfInBounds_toArray, List.set_cons_zero, List.set_cons_succ]
      refine wpAnyH_ready (rs := [7]) (by kernel_rfl) (by simp) ?_
      refine AllReadyH.cons rfl (fun K hK => ?_) (AllReadyH.nil)
      refine step_value (v := .pointer (some ⟨y2.heap.size, 0, none⟩)) (w' := y2.alloc (.cells #[.int .i64 W, .int .i64 S, .int .i64 B, .int .i64 T, .slice (some ⟨cb, 0, none⟩) len len, .slice (some ⟨pb, 0, none⟩) len len] 50)) rfl (by kernel_rfl) ?_
      have hb := box1 y2 (.cells #[.int .i64 W, .int .i64 S, .int .i64 B, .int .i64 T, .slice (some ⟨cb, 0, none⟩) len len, .slice (some ⟨pb, 0, none⟩) len len] 50)
      have GZ := Lib.hid (G2.out.next hb)
      have NZ : Hid (Nw w (y2.alloc (.cells #[.int .i64 W, .int .i64 S, .int .i64 B, .int .i64 T, .slice (some ⟨cb, 0, none⟩) len len, .slice (some ⟨pb, 0, none⟩) len len] 50)) y2.heap.size cb pb W S B T len f 0 (fun _ => 0)) := by
        have h1 := G2.out.b.size
        have h2 := D1.out
        have h3 := Q1.out
        have h4 := heap_lt C2.out
        have h5 := heap_lt P1.out
        have h6 := GZ.out.b
        rw [hN] at h1
        exact ⟨heap_new _ _, (hb.block _ h4).trans C2.out, ((hb.block _ h5).trans P1.out).trans (by simp), fun j hj => absurd hj (Nat.not_lt_zero _), fun i j hi => absurd hi (Nat.not_lt_zero _), by omega, by omega, by omega, by rw [hN]; exact h6, PC.out, fun j hj => absurd hj (Nat.not_lt_zero _)⟩
      clear hb
      generalize y2.alloc (.cells #[.int .i64 W, .int .i64 S, .int .i64 B, .int .i64 T, .slice (some ⟨cb, 0, none⟩) len len, .slice (some ⟨pb, 0, none⟩) len len] 50) = yz at *
      generalize y2.heap.size = sb at *
      show K (Act.put _ (some 12) _) yz
      refine hK.out _ _ (GZ.out.c) (fun hHeld9 => ?_)
      clear hK K
      simp only [Act.put, List.setIfInBounds_toArray, List.set_cons_zero, List.set_cons_succ]
      refine wpAnyH_take (i := 8) (v := .pointer (some ⟨sb, 0, none⟩)) rfl (by kernel_rfl) (by kernel_rfl) (by kernel_rfl) (fun _ _ _ h => h) (Or.inl ⟨by rfl, fun w hSw => by obtain ⟨c0, c1, c2, c3, c4⟩ := cfg_cells hSw; go_simp⟩) (by assumption) ?_
      change wpAnyH _ _ _ _ _ _ _ (Act.put _ (some 3) _) _
      simp only [Act.put, List.setIfInBounds_toArray, List.set_cons_zero, List.set_cons_succ]
      refine ⟨by kernel_rfl, ?_⟩
      refine NoPanic.normal ?_
      go_wp2_with fail
      go_meet
      case rel => exact ⟨sb, cb, pb, rfl, NZ⟩

    · obtain ⟨i0, hi, hz0, hz1, hz2⟩ := info_parts' infoPil
      have hrun := run_make (P := Tryd.prog) z0 48 53 i0 (.agg #[.slice none 0 0, .map none]) Tryd.underlying48 hi hz0 .i64 .i64 (len : Int) (len : Int) (by omega) (by omega) (by rw [hz2]; omega) (by omega)
      rw [Int.toNat_natCast, hz1] at hrun
      refine step_make_bk (v := .slice (some ⟨z0.heap.size, 0, none⟩) len len) (w' := z0.alloc (.cells (madeCells #[.slice none 0 0, .map none] (len * 2)) 53)) rfl rfl rfl rfl hrun ?_
      have hb := box1 z0 (.cells (madeCells #[.slice none 0 0, .map none] (len * 2)) 53)
      have P1 : Hid ((z0.alloc (.cells (madeCells #[.slice none 0 0, .map none] (len * 2)) 53)).heap[z0.heap.size]? = some (.cells (pilR (fun _ => none) len).toArray 53 (0, 0))) := by
        show _ = _
        rw [heap_new, ← made_pil]
      have Q1 : Hid (w.heap.size ≤ z0.heap.size ∧ z0.heap.size ≠ N) := Lib.hid (by have h1 := G0.out.b.size; have h2 := G0.out.lt; omega)
      have G1 := Lib.hid (G0.out.next hb)
      clear hrun hi hz0 hz1 hz2
      clear hb
      generalize z0.alloc (.cells (madeCells #[.slice none 0 0, .map none] (len * 2)) 53) = y1 at *
      generalize z0.heap.size = pb at *
      show K (Act.put _ (some 10) _) y1
      refine hK.out _ _ (G1.out.c) (fun hHeld1 => ?_)
      clear hK K
      simp only [Act.put, List.setIfInBounds_toArray, List.set_cons_zero, List.set_cons_succ]
      refine wpAnyH_ready (rs := [1]) (by kernel_rfl) (by simp) ?_
      refine AllReadyH.cons rfl (fun K hK => ?_) (AllReadyH.nil)
      refine step_enter (F := 16) (vals := #[.agg #[.int .i64 W, .int .i64 S, .int .i64 B, .int .i64 T, .slice ad len cap]]) rfl (by kernel_rfl) ?_
      refine (copy_any W S B T ad len cap f y1 (Lib.hid G1.out.r) hl).mono ?_
      rintro e y2 ⟨cb, rfl, qc1, qc2, hb⟩
      have C1 := Lib.hid qc1
      have D1 : Hid (w.heap.size ≤ cb ∧ cb ≠ N) := Lib.hid (by have h1 := G1.out.b.size; have h2 := G1.out.lt; omega)
      have G2 := Lib.hid (G1.out.next hb)
      have P2 := Lib.hid ((hb.block _ (heap_lt P1.out)).trans P1.out)
      have PC : Hid (cb ≠ pb) := Lib.hid (by have := heap_lt P1.out; omega)
      clear qc1 qc2 hb
      show K (Act.put _ (some 6) _) y2
      refine hK.out _ _ (G2.out.c) (fun hHeld2 => ?_)
      clear hK K
      simp only [Act.put, List.setIfInBounds_toArray, List.set_cons_zero, List.set_cons_succ]
      refine wpAnyH_take (i := 6) (v := .agg #[.int .i64 W, .int .i64 S, .int .i64 B, .int .i64 T, .slice (some ⟨cb, 0, none⟩) len len, .slice (some ⟨pb, 0, none⟩) len len]) rfl (by kernel_rfl) (by kernel_rfl) (by kernel_rfl) (fun _ _ _ h => h) (Or.inl ⟨by rfl, fun w hSw => by obtain ⟨c0, c1, c2, c3, c4⟩ := cfg_cells hSw; go_simp⟩) (by assumption) ?_
      change wpAnyH _ _ _ _ _ _ _ (Act.put _ (some 11) _) _
      simp only [Act.put, List.setIfInBounds_toArray, List.set_cons_zero, List.set_cons_succ]
      refine wpAnyH_ready (rs := [7]) (by kernel_rfl) (by simp) ?_
      refine AllReadyH.cons rfl (fun K hK => ?_) (AllReadyH.nil)
      refine step_value (v := .pointer (some ⟨y2.heap.size, 0, none⟩)) (w' := y2.alloc (.cells #[.int .i64 W, .int .i64 S, .int .i64 B, .int .i64 T, .slice (some ⟨cb, 0, none⟩) len len, .slice (some ⟨pb, 0, none⟩) len len] 50)) rfl (by kernel_rfl) ?_
      have hb := box1 y2 (.cells #[.int .i64 W, .int .i64 S, .int .i64 B, .int .i64 T, .slice (some ⟨cb, 0, none⟩) len len, .slice (some ⟨pb, 0, none⟩) len len] 50)
      have GZ := Lib.hid (G2.out.next hb)
      have NZ : Hid (Nw w (y2.alloc (.cells #[.int .i64 W, .int .i64 S, .int .i64 B, .int .i64 T, .slice (some ⟨cb, 0, none⟩) len len, .slice (some ⟨pb, 0, none⟩) len len] 50)) y2.heap.size cb pb W S B T len f 0 (fun _ => 0)) := by
        have h1 := G2.out.b.size
        have h2 := D1.out
        have h3 := Q1.out
        have h4 := heap_lt C1.out
        have h5 := heap_lt P2.out
        have h6 := GZ.out.b
        rw [hN] at h1
        exact ⟨heap_new _ _, (hb.block _ h4).trans C1.out, ((hb.block _ h5).trans P2.out).trans (by simp), fun j hj => absurd hj (Nat.not_lt_zero _), fun i j hi => absurd hi (Nat.not_lt_zero _), by omega, by omega, by omega, by rw [hN]; exact h6, PC.out, fun j hj => absurd hj (Nat.not_lt_zero _)⟩
      clear hb
      generalize y2.alloc (.cells #[.int .i64 W, .int .i64 S, .int .i64 B, .int .i64 T, .slice (some ⟨cb, 0, none⟩) len len, .slice (some ⟨pb, 0, none⟩) len len] 50) = yz at *
      generalize y2.heap.size = sb at *
      show K (Act.put _ (some 12) _) yz
      refine hK.out _ _ (GZ.out.c) (fun hHeld9 => ?_)
      clear hK K
      simp only [Act.put, List.setIfInBounds_toArray, List.set_cons_zero, List.set_cons_succ]
      refine wpAnyH_take (i := 8) (v := .pointer (some ⟨sb, 0, none⟩)) rfl (by kernel_rfl) (by kernel_rfl) (by kernel_rfl) (fun _ _ _ h => h) (Or.inl ⟨by rfl, fun w hSw => by obtain ⟨c0, c1, c2, c3, c4⟩ := cfg_cells hSw; go_simp⟩) (by assumption) ?_
      change wpAnyH _ _ _ _ _ _ _ (Act.put _ (some 3) _) _
      simp only [Act.put, List.setIfInBounds_toArray, List.set_cons_zero, List.set_cons_succ]
      refine ⟨by kernel_rfl, ?_⟩
      refine NoPanic.normal ?_
      go_wp2_with fail
      go_meet
      case rel => exact ⟨sb, cb, pb, rfl, NZ⟩
  case rest =>
    obtain ⟨sb, cb, pb, rfl, Z0⟩ := hcut
    have s5 : wc.cell? ⟨sb, 5, none⟩ = some (.slice (some ⟨pb, 0, none⟩) len len) := by rw [cell_of Z0.out.box]; rfl
    clear K0
    go_upto_region 2 with fail
    go_wp2_with fail
    clear s5
    go_loopw [18] (fun u18 wr => ∃ (i : Nat) (M : Nat → Nat), i ≤ len ∧ u18 = .int .i64 (i : Nat) ∧ Hid (Nw w wr sb cb pb W S B T len f i M)) (fun u18 _ => len - (intOf u18).toNat)
    case atStart => exact ⟨0, _, Nat.zero_le _, rfl, Z0⟩
    case round =>
      obtain ⟨i, M, hi, rfl, Z⟩ := hrel
      by_cases hlt : i < len
      · have l3 : (i : Int) < (len : Int) := by omega
        have wi : IntKind.i64.wrap ((i : Int) + 1) = (i : Int) + 1 := by rw [IntKind.wrap_i64]; omega
        have s5 : wr.cell? ⟨sb, 5, none⟩ = some (.slice (some ⟨pb, 0, none⟩) len len) := by rw [cell_of Z.out.box]; rfl
        have bb := box1 wr (.map #[] 0)
        have ff := frozen_of (j := i * 2 + 1) ((bb.block _ (heap_lt Z.out.pil)).trans Z.out.pil)
        have cc : (wr.alloc (.map #[] 0)).cell? ⟨pb, i * 2 + 1, none⟩ = some (.map none) := by
          rw [cell_of ((bb.block _ (heap_lt Z.out.pil)).trans Z.out.pil)]
          have := pilR_at (fun j => if j < i then some (M j) else none) hlt
          simpa using this
        clear bb
        have ZN := Lib.hid (Z.out.more hlt)
        go_wp2_with fail
        go_roundw
        case rel => exact ⟨i + 1, _, by omega, by push_cast; rfl, ZN⟩
        case measure => simp [intOf]; omega
      · obtain rfl : i = len := by omega
        go_wp2_with fail
        go_ret
        have D := Z.out
        exact ⟨sb, cb, pb, M, rfl, D.done, D.f1, D.f2, D.f3, D.f4, D.be⟩
end Go.Proofs.YtehmeccjgjhidaaDoor
