/-
  What stands while words are copied.
-/
import Derived.Test.YtlpaijobcopbnaaWSlotLays
namespace Go.Proofs.Ytlpaijobcopbnaa
open Go.RowKit Go.Sort

theorem wpList_append_run {P : Program} {w : World} {ops : Array Oper} {rest : List Oper} {o : Oper} {a : Act} {Q : Exit → Act → World → Prop}
    (hg : o.guard = none) (d x : Operand) (dT sT : TypeId) (hop : o.op = Op.call { callee := Callee.builtin Builtin.append, args := #[d, x], argTypes := #[dT, sT] })
    (v u : Value) (hd : a.eval d = v) (hx : a.eval x = u) {v' : Value} {w' : World} (hr : (Builtin.append_ #[dT, sT] o.type #[v, u]).run P w = .ok v' w') (hK : wpList P ops Q rest (a.put o.dst v') w') : wpList P ops Q (o :: rest) a w :=
  wpList_plain hg fun K hK' => by
    unfold Oper.wp
    simp [execOp, hop, resolve, invoke, builtin, hd, hx, hr, Result.andThen]
    exact hK' _ _ hK
theorem calls_still {P : Program} {f : FuncId} {args : Array Value} {w : World} {v : Value} (h : Calls P f args w fun e w' => e = .returned v ∧ w = w') : Calls P f args w fun e w' => e = .returned v ∧ Below w.heap.size w w' :=
  h.mono fun _ _ ⟨h1, h2⟩ => ⟨h1, by rw [← h2]; exact Below.refl _ _⟩

theorem cops_step {g mg mh at_ k n : Nat} {s : MSt} {v : Value} {xs : List Nat} {w : World} (h : Hid (CopV w g mg mh ((at_ + k : Nat) : Int) ((n - k : Nat) : Int) v s v xs)) (hk : k < n) (hn : n ≤ 1000) (hat : at_ ≤ 100000) (hx : xs.length = k) (ho : s.ops < 100000) (hf : s.faults = 0) :
    Calls Try.prog 23 #[.pointer (some ⟨g, 0, none⟩)] w fun e w' => e = .returned (.bool (decide (k + 1 = n))) ∧ ∃ v', CopV w' g mg mh ((at_ + (k + 1) : Nat) : Int) ((n - (k + 1) : Nat) : Int) v' (s.begun 1 ((at_ + k : Nat) : Int)) v' (xs ++ [s.rd ((at_ + k : Nat) : Int)]) ∧ OwnSt w.heap.size v v' ∧ Only (copL g mg mh v) w w' := by
  obtain ⟨q, hq⟩ : ∃ q, n - k = q + 1 := ⟨n - k - 1, by omega⟩
  have hq2 : n - (k + 1) = q := by omega
  rw [hq] at h
  rw [hq2]
  refine (cstep_more g mg mh _ q s v xs w h (by omega) (by omega) (by omega) (by omega) (by omega) (by omega)).mono ?_
  rintro e w' ⟨rfl, v', h1, h2, h3⟩
  refine ⟨retb_eq (by rw [decide_eq_decide]; omega), v', ?_, h2, h3⟩
  rw [show ((at_ + (k + 1) : Nat) : Int) = ((at_ + k : Nat) : Int) + 1 by omega]
  exact h1
theorem begun_at {ms : List Nat} {o : Nat} {kd a : Int} {j : Nat} (k : Int) (h : j < ms.length) : (MSt.begun ⟨ms, o, 0, kd, a⟩ k (j : Int)) = ⟨ms, o + 1, 0, k, j⟩ := by
  rw [begun_yes (by rw [inM_nat]; simpa using h)]; rfl
theorem put_at {ms : List Nat} {o : Nat} {kd a : Int} {j x : Nat} (h : j < ms.length) : (MSt.put ⟨ms, o, 0, kd, a⟩ (j : Int) x) = ⟨ms.set j x, o, 0, kd, a⟩ := by
  unfold MSt.put; rw [inM_nat]; simp [h]
theorem rd_at {ms : List Nat} {o : Nat} {kd a : Int} {j : Nat} (h : j < ms.length) : (MSt.rd ⟨ms, o, 0, kd, a⟩ (j : Int)) = ms.getD j 0 := rd_nat h
theorem mstore {ms : List Nat} {o : Nat} {kd a : Int} {j x g h : Nat} {w : World} (m : MemAt w g h ⟨ms, o, 0, kd, a⟩) (hj : j < ms.length) (ho : o < 100000) :
    Calls Try.prog 19 #[.pointer (some ⟨g, 0, none⟩), .int .i64 j, .int .u64 (x : Int)] w fun e w' => e = .returned (.tuple #[]) ∧ MemAt w' g h ⟨ms.set j x, o + 1, 0, 2, j⟩ ∧ Else g h w w' := by
  have := store_any g h _ j x w m (show o < _ by omega) (show (0 : Nat) < 4611686018427387904 by decide)
  rw [begun_at 2 hj, put_at hj] at this
  exact this
theorem mpeek {ms : List Nat} {o : Nat} {kd a : Int} {j g h : Nat} {w : World} (m : MemAt w g h ⟨ms, o, 0, kd, a⟩) (hj : j < ms.length) :
    Calls Try.prog 21 #[.pointer (some ⟨g, 0, none⟩), .int .i64 j] w fun e w' => e = .returned (.int .u64 (ms.getD j 0 : Nat)) ∧ w = w' := by
  have := peek_any g h _ j w m
  rw [rd_at hj] at this
  exact this
/-- Words are words. -/
def AllW (l : List Nat) : Prop := ∀ x ∈ l, x < 18446744073709551616
theorem AllW.get {l : List Nat} (h : AllW l) (j : Nat) : l.getD j 0 < 18446744073709551616 := by
  by_cases hj : j < l.length
  · rw [List.getD_eq_getElem?_getD, List.getElem?_eq_getElem hj]; exact h _ (List.getElem_mem _)
  · rw [List.getD_eq_getElem?_getD, List.getElem?_eq_none (by omega)]; decide
theorem AllW.set {l : List Nat} (h : AllW l) (j : Nat) {x : Nat} (hx : x < 18446744073709551616) : AllW (l.set j x) := fun y hy => by
  rcases List.mem_or_eq_of_mem_set hy with h1 | h1
  · exact h y h1
  · rw [h1]; exact hx
theorem AllW.snoc {l : List Nat} (h : AllW l) {x : Nat} (hx : x < 18446744073709551616) : AllW (l ++ [x]) := fun y hy => by
  rcases List.mem_append.1 hy with h1 | h1
  · exact h y h1
  · simp at h1; rw [h1]; exact hx
theorem laidL_all {f : Nat → Nat} (hf : ∀ j, f j < 18446744073709551616) (a k N : Nat) : AllW (laidL f a k N) := fun x hx => by
  simp only [laidL, List.mem_map] at hx
  obtain ⟨i, _, rfl⟩ := hx
  split
  · exact hf _
  · decide

/-- What stands while words are copied: the memory, the copier, and the row of what it should have. -/
structure CpSt (w0 wr : World) (g mg mh at_ n L k o : Nat) (v vw : Value) (xs ms : List Nat) (kd a : Int) : Prop where
  c : CopV wr g mg mh ((at_ + k : Nat) : Int) ((n - k : Nat) : Int) v ⟨ms, o, 0, kd, a⟩ v xs
  r : WRw wr vw xs
  ap : ∀ q, vw.ownBlock = some q → q ∉ copL g mg mh v ∧ w0.heap.size ≤ q
  lo : ∀ q ∈ copL g mg mh v, w0.heap.size ≤ q
  xl : xs.length = k
  xw : AllW xs
  ml : ms.length = L
  mw : AllW ms
  b : Below w0.heap.size w0 wr
theorem CpSt.next {w0 wr w' : World} {g mg mh at_ n L k o : Nat} {v vw : Value} {xs ms : List Nat} {kd a : Int} (h : CpSt w0 wr g mg mh at_ n L k o v vw xs ms kd a) (hb : Below wr.heap.size wr w') : CpSt w0 w' g mg mh at_ n L k o v vw xs ms kd a :=
  ⟨h.c.next hb, h.r.stay (l := []) (Only.of_below hb) (fun _ _ => by simp), h.ap, h.lo, h.xl, h.xw, h.ml, h.mw, below_two h.b hb⟩
theorem CpSt.stay {l : List Nat} {w0 wr w' : World} {g mg mh at_ n L k o : Nat} {v vw : Value} {xs ms : List Nat} {kd a : Int} (h : CpSt w0 wr g mg mh at_ n L k o v vw xs ms kd a) (x : Only l wr w') (hn : ∀ q ∈ copL g mg mh v, q ∉ l) (hv : ∀ q, vw.ownBlock = some q → q ∉ l) (hl : ∀ q ∈ l, w0.heap.size ≤ q) : CpSt w0 w' g mg mh at_ n L k o v vw xs ms kd a :=
  ⟨h.c.stay x hn, h.r.stay x hv, h.ap, h.lo, h.xl, h.xw, h.ml, h.mw, below_only h.b x hl⟩
theorem CpSt.lt {w0 wr : World} {g mg mh at_ n L k o : Nat} {v vw : Value} {xs ms : List Nat} {kd a : Int} (h : CpSt w0 wr g mg mh at_ n L k o v vw xs ms kd a) : (∀ q ∈ copL g mg mh v, q < wr.heap.size) ∧ ∀ q, vw.ownBlock = some q → q < wr.heap.size :=
  ⟨fun q hq => by
    rcases copL_mem.1 hq with e | e | e | e
    · rw [e]; exact h.c.lt
    · rw [e]; exact h.c.mem.lt.1
    · rw [e]; exact h.c.mem.lt.2
    · exact h.c.row.lt e, fun _ hq => h.r.lt hq⟩
theorem CpSt.read {w0 wr : World} {g mg mh at_ n L k o : Nat} {v : Value} {xs ms : List Nat} {kd a : Int} {aw : Option Addr} {cw : Nat} (h : CpSt w0 wr g mg mh at_ n L k o v (.slice aw k cw) xs ms kd a) : Row64 wr aw k (fun j => xs.getD j 0) := by
  obtain ⟨a', c', e, hr⟩ := h.r.row h.xw
  rw [h.xl] at e hr
  cases e
  exact hr
/-- One word more of what it should have. -/
theorem CpSt.app {w0 wr : World} {g mg mh at_ n L k o : Nat} {v vw : Value} {xs ms : List Nat} {kd a : Int} (h : CpSt w0 wr g mg mh at_ n L k o v vw xs ms kd a) (hk : k ≤ 1000) (X : Nat) (ty : TypeId) :
    ∃ vw' w', (Builtin.append_ #[31, 31] ty #[vw, .slice (some ⟨wr.heap.size, 0, none⟩) 1 1]).run Try.prog (wr.alloc (.cells #[.int .u64 (X : Int)] 35)) = .ok vw' w' ∧
      WRw w' vw' (xs ++ [X]) ∧ CopV w' g mg mh ((at_ + k : Nat) : Int) ((n - k : Nat) : Int) v ⟨ms, o, 0, kd, a⟩ v xs ∧ (∀ q, vw'.ownBlock = some q → q ∉ copL g mg mh v ∧ w0.heap.size ≤ q) ∧ Below w0.heap.size w0 w' := by
  have hb := box1 wr (.cells #[.int .u64 (X : Int)] 35)
  have h1 := h.next hb
  obtain ⟨vw', w', hr, hrow, hgr, hob⟩ := app_one h1.r (heap_new wr (.cells #[.int .u64 (X : Int)] 35)) (by rw [h.xl]; omega) ty
  have X1 : Only (vw.ownBlock.toList) (wr.alloc (.cells #[.int .u64 (X : Int)] 35)) w' := Only.of_grown hgr (fun k hk => by simp [hk])
  refine ⟨vw', w', hr, hrow, h1.c.stay X1 (fun q hq hm => (h.ap q (by simpa using hm)).1 hq), fun q hq => ?_, below_only h1.b X1 (fun q hq => (h.ap q (by simpa using hq)).2)⟩
  rcases hob with e | e
  · exact h.ap q (by rw [← e]; exact hq)
  · rw [e] at hq
    cases hq
    refine ⟨fun hm => ?_, h1.b.size⟩
    rcases copL_mem.1 hm with e | e | e | e
    · have := h1.c.lt; omega
    · have := h1.c.mem.lt; omega
    · have := h1.c.mem.lt; omega
    · have := h1.c.row.lt e; omega
/-- The copier has made a step. -/
theorem cps_step {w0 w1 w' : World} {g mg mh at_ n L k o : Nat} {v v' vw' : Value} {xs ms : List Nat} {kd a : Int} {X : Nat} (hr : WRw w1 vw' (xs ++ [X])) (hlo : ∀ q ∈ copL g mg mh v, w0.heap.size ≤ q)
    (hap : ∀ q, vw'.ownBlock = some q → q ∉ copL g mg mh v ∧ w0.heap.size ≤ q) (hb : Below w0.heap.size w0 w1) (hxl : xs.length = k) (hxw : AllW xs) (hX : X < 18446744073709551616) (hml : ms.length = L) (hmw : AllW ms)
    (hc : CopV w' g mg mh ((at_ + (k + 1) : Nat) : Int) ((n - (k + 1) : Nat) : Int) v' ⟨ms, o, 0, kd, a⟩ v' (xs ++ [X])) (ho : OwnSt w1.heap.size v v') (hO : Only (copL g mg mh v) w1 w') : CpSt w0 w' g mg mh at_ n L (k + 1) o v' vw' (xs ++ [X]) ms kd a := by
  refine ⟨hc, hr.stay hO (fun q hq => (hap q hq).1), fun q hq => ⟨fun hm => ?_, (hap q hq).2⟩, fun q hq => ?_, by simp [hxl], hxw.snoc hX, hml, hmw, below_only hb hO hlo⟩
  · have hn := (hap q hq).1
    rcases copL_mem.1 hm with e | e | e | e
    · exact hn (copL_mem.2 (.inl e))
    · exact hn (copL_mem.2 (.inr (.inl e)))
    · exact hn (copL_mem.2 (.inr (.inr (.inl e))))
    · rcases ho with h1 | ⟨k', h1, h2⟩
      · exact hn (copL_mem.2 (.inr (.inr (.inr (by rw [← h1]; exact e)))))
      · have := hr.lt hq
        rw [h1] at e
        cases e
        omega
  · rcases copL_mem.1 hq with e | e | e | e
    · exact hlo q (copL_mem.2 (.inl e))
    · exact hlo q (copL_mem.2 (.inr (.inl e)))
    · exact hlo q (copL_mem.2 (.inr (.inr (.inl e))))
    · rcases ho with h1 | ⟨k', h1, h2⟩
      · exact hlo q (copL_mem.2 (.inr (.inr (.inr (by rw [← h1]; exact e)))))
      · rw [h1] at e
        cases e
        exact Nat.le_trans hb.size h2
/-- A word of the memory has turned. -/
theorem CpSt.store {w0 wr w' : World} {g mg mh at_ n L k o o' : Nat} {v vw : Value} {xs ms ms' : List Nat} {kd a kd' a' : Int} (h : CpSt w0 wr g mg mh at_ n L k o v vw xs ms kd a) (m : MemAt w' mg mh ⟨ms', o', 0, kd', a'⟩) (x : Else mg mh wr w') (hl : ms'.length = L) (hw : AllW ms') : CpSt w0 w' g mg mh at_ n L k o' v vw xs ms' kd' a' :=
  ⟨h.c.mem' m x, h.r.stay (l := [mg, mh]) (Only.of_else x (by simp) (by simp)) (fun q hq hm => (h.ap q hq).1 (by
    have hm' : q = mg ∨ q = mh := by simpa using hm
    rcases hm' with e | e
    · exact copL_mem.2 (.inr (.inl e))
    · exact copL_mem.2 (.inr (.inr (.inl e))))), h.ap, h.lo, h.xl, h.xw, hl, hw, h.b.trans (x.below (h.lo mg (copL_mem.2 (.inr (.inl rfl)))) (h.lo mh (copL_mem.2 (.inr (.inr (.inl rfl))))) h.b.size)⟩

end Go.Proofs.Ytlpaijobcopbnaa
