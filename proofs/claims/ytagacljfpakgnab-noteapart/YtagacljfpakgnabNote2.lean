/-
  A Book: its box, its events, its map; where a worker's event stands.
-/
import Derived.Test.YtagacljfpakgnabNote1
import Derived.Test.YtagacljfpakgnabSteps
namespace Go.Proofs.Ytagacljfpakgnab
open Go.RowKit Go.Sort Go.Maps
attribute [local go_sem] Oper.semAt_some

def MpO (w : World) (o : Option Nat) (n : Nat) (O : Int → Option Nat) : Prop := match o with
  | none => ∀ i, O i = none
  | some b => MpI w b n O
/-- What a Book is made of, beside its box. -/
def foot (v : Value) (o : Option Nat) : List Nat := v.ownBlock.toList ++ o.toList
structure Bn (w : World) (bb : Nat) (v : Value) (o : Option Nat) (l : List Ev) : Prop where
  box : w.heap[bb]? = some (.cells #[v, .map o] 27 (0, 0))
  row : EvRow w v l
  mp : MpO w o l.length (findI l)
section
variable {w w' : World} {bb : Nat} {v : Value} {o : Option Nat} {l : List Ev}
theorem MpO.keep {n : Nat} {O : Int → Option Nat} (h : MpO w o n O) (e : ∀ b, o = some b → w'.heap[b]? = w.heap[b]?) : MpO w' o n O := by
  cases o with
  | none => exact h
  | some b => exact MpI.keep h (e b rfl)
theorem MpO.lt {n : Nat} {O : Int → Option Nat} (h : MpO w o n O) {b : Nat} (e : o = some b) : b < w.heap.size := by
  subst e; exact MpI.lt h
theorem Bn.next (h : Bn w bb v o l) (x : Below w.heap.size w w') : Bn w' bb v o l :=
  ⟨(x.block _ (heap_lt h.box)).trans h.box, ORow.next h.row x, h.mp.keep (fun b e => x.block b (h.mp.lt e))⟩
theorem Bn.lt (h : Bn w bb v o l) : ∀ b ∈ bb :: foot v o, b < w.heap.size := fun b hb => by
  simp only [foot, List.mem_cons, List.mem_append, Option.mem_toList] at hb
  rcases hb with rfl | e | e
  · exact heap_lt h.box
  · exact h.row.lt' e
  · exact h.mp.lt e
/-- Other blocks turn. -/
theorem Bn.stay {q : List Nat} (h : Bn w bb v o l) (x : Only q w w') (hq : ∀ b ∈ bb :: foot v o, b ∉ q) : Bn w' bb v o l := by
  have k : ∀ b ∈ bb :: foot v o, w'.heap[b]? = w.heap[b]? := fun b hb => x.block b (h.lt b hb) (hq b hb)
  exact ⟨(k bb (by simp)).trans h.box, ORow.keep h.row (fun b e => k b (by simp [foot, e])), h.mp.keep (fun b e => k b (by simp [foot, e]))⟩
theorem Bn.cells (h : Bn w bb v o l) : w.cell? ⟨bb, 0, none⟩ = some v ∧ w.cell? ⟨bb, 1, none⟩ = some (.map o) := by
  constructor <;> (rw [cell_of h.box]; rfl)
theorem Bn.apart (h : Bn w bb v o l) : (∀ b, v.ownBlock = some b → b ≠ bb ∧ o ≠ some b) ∧ o ≠ some bb := by
  refine ⟨fun b e => ⟨fun e2 => ?_, fun e2 => ?_⟩, fun e => ?_⟩
  · obtain ⟨cur, hc⟩ := h.row.obj e
    rw [e2, h.box] at hc
    simp only [Option.some.injEq, Obj.cells.injEq] at hc
    exact absurd hc.2.1 (by decide)
  · obtain ⟨cur, hc⟩ := h.row.obj e
    have hm := h.mp
    rw [e2] at hm
    obtain ⟨es, c, hm2⟩ := MpI.obj hm
    rw [hc] at hm2
    cases hm2
  · have hm := h.mp
    rw [e] at hm
    obtain ⟨es, c, hm2⟩ := MpI.obj hm
    rw [h.box] at hm2
    cases hm2
end
/-- The zero Book. -/
theorem bn_new (w : World) : Bn (w.alloc (.cells #[.slice none 0 0, .map none] 27)) w.heap.size (.slice none 0 0) none [] := ⟨heap_new w _, ORow.nil _, fun _ => rfl⟩
def evP (v : Value) (o : Option Nat) : Value := match o, v with
  | some j, .slice (some ⟨b, _, _⟩) _ _ => .pointer (some ⟨b, j * 9, none⟩)
  | _, _ => .pointer none
theorem nil_look (i : Int) (w : World) : (Instr.lookup 25 (.map none) (.int .i64 i) true).run Try.prog w = .ok (.tuple #[.int .i64 0, .bool false]) w := by kernel_rfl
section
variable (bb : Nat) (v : Value) (o : Option Nat) (l : List Ev)
set_option maxRecDepth 20000 in
set_option maxHeartbeats 2000000 in
theorem doing_none (i : Int) (w : World) (h : Hid (Bn w bb v o l)) (hi : (Lit.int .i64 i).wf = true) (hf : findI l i = none) :
    Calls Try.prog 13 #[.pointer (some ⟨bb, 0, none⟩), .int .i64 i] w fun e w' => e = .returned (.pointer none) ∧ w = w' := by
  obtain ⟨c0, c1⟩ := h.out.cells
  have hm := h.out.mp
  cases o with
  | none =>
    clear hm
    have lk := nil_look i w
    go_enter Try.func13, Try.ntmps13
    go_wp2_with fail
    go_ret
    exact ⟨rfl, rfl⟩
  | some m =>
    have lk := MpI.look hm i hi
    rw [hf] at lk
    simp only [oN, Option.getD_none, Option.isSome_none] at lk
    clear hm
    go_enter Try.func13, Try.ntmps13
    go_wp2_with fail
    go_ret
    exact ⟨rfl, rfl⟩
set_option maxRecDepth 20000 in
set_option maxHeartbeats 2000000 in
theorem doing_some (i : Int) (j : Nat) (w : World) (h : Hid (Bn w bb v o l)) (hi : (Lit.int .i64 i).wf = true) (hf : findI l i = some j) :
    ∃ vb cap, v = .slice (some ⟨vb, 0, none⟩) l.length cap ∧ Calls Try.prog 13 #[.pointer (some ⟨bb, 0, none⟩), .int .i64 i] w fun e w' => e = .returned (.pointer (some ⟨vb, j * 9, none⟩)) ∧ w = w' := by
  obtain ⟨x, hx, _, _, hj, _⟩ := findI_some hf
  obtain ⟨vb, cap, rfl, _, _⟩ := ORow.at evEnc h.out.row hx
  refine ⟨vb, cap, rfl, ?_⟩
  obtain ⟨c0, c1⟩ := h.out.cells
  have hm := h.out.mp
  cases o with
  | none => have := hm i; rw [hf] at this; cases this
  | some m =>
    have lk := MpI.look hm i hi
    rw [hf] at lk
    simp only [oN, Option.getD_some, Option.isSome_some] at lk
    clear hm hx
    have l3 : (j : Int) < (l.length : Int) := by omega
    go_enter Try.func13, Try.ntmps13
    go_wp2_with fail
    go_ret
    exact ⟨rfl, rfl⟩
end
end Go.Proofs.Ytagacljfpakgnab
