/-
  A set of blocks, kept as a Go map from blocks to bools.
-/
import Derived.Test.YtehmeccjgjhidaaDoorGen1
import Derived.Maps.OwnOps
import Derived.Maps.OwnSet
import Derived.Maps.Views
import Derived.DeepKeys4
namespace Go.Proofs.YtehmeccjgjhidaaDoor
open Go.RowKit Go.Maps Go.Sort Go.WideMaps

def bkV (x : Int × Int) : Value := .agg #[.int .i64 x.1, .int .i64 x.2]
def bkL (x : Int × Int) : Lit := .string (keyBytes [.int .i64 x.1, .int .i64 x.2])
/-- A block of two numbers that are ints. -/
def Bd (x : Int × Int) : Prop := (Lit.int .i64 x.1).wf = true ∧ (Lit.int .i64 x.2).wf = true
theorem bk_laid : laidOutB Tryd.prog = true := by kernel_rfl
theorem bk_row : (32 : TypeId) < Tryd.prog.types.size := of_decide_eq_true (by kernel_rfl)
theorem bk_cells : Tryd.prog.cellsOf 32 = 2 := by kernel_rfl
theorem bk_wide : (match Tryd.prog.underlying 32 with | some (.array _ _) | some (.struct _) => true | _ => false) = true := by rw [Tryd.underlying32]
theorem bk_deep : Tryd.prog.keyTypeAt 2 32 = true := by kernel_rfl
set_option maxRecDepth 100000 in
theorem bk_law0 : KeyLaw Tryd.prog 32 := deep_law_laid bk_laid (m := 2) (by omega) bk_row bk_deep bk_wide
theorem bk_law : Keyed Tryd.prog 32 := Keyed.of_law bk_law0
theorem bk_type : Tryd.prog.keyType 32 = true := by kernel_rfl
theorem bk_formed (x : Int × Int) : (bkV x).formed Tryd.prog 32 = true := by simp [bkV, Value.formed, Tryd.underlying32, bk_cells]
theorem bk_int : Tryd.prog.cellsOf 3 = 1 := by kernel_rfl
theorem bk_size : ∃ d, Tryd.prog.types.size + 1 = d + 1 + 1 := ⟨Tryd.prog.types.size - 1, by kernel_rfl⟩
theorem bk_lits (d : Nat) {x : Int × Int} (h : Bd x) : Tryd.prog.keyLits (d + 1 + 1) 32 [.int .i64 x.1, .int .i64 x.2] = some [.int .i64 x.1, .int .i64 x.2] := by
  obtain ⟨h1, h2⟩ := h
  simp [Program.keyLits, Tryd.underlying32, Tryd.underlying3, bk_cells, bk_int, h1, h2]
theorem key_bk {x : Int × Int} (h : Bd x) : keyOf Tryd.prog 32 (bkV x) = some (bkL x) := by
  have hk : Tryd.prog.keyLits (Tryd.prog.types.size + 1) 32 [.int .i64 x.1, .int .i64 x.2] = some [.int .i64 x.1, .int .i64 x.2] := by
    obtain ⟨d, hd⟩ := bk_size
    rw [hd]
    exact bk_lits d h
  unfold keyOf
  rw [Tryd.underlying32]
  simp only
  rw [bk_type, bk_formed]
  simp only [Bool.and_self, if_true]
  rw [show (bkV x).cells.toList = [.int .i64 x.1, .int .i64 x.2] from rfl, hk]
  rfl
theorem bkL_inj {x y : Int × Int} (hx : Bd x) (hy : Bd y) (h : bkL x = bkL y) : x = y := by
  have h1 := key_bk hx
  have h2 := key_bk hy
  rw [h] at h1
  have := bk_law0.inj h1 h2
  simp only [bkV, Value.agg.injEq, Array.mk.injEq, List.cons.injEq, Value.int.injEq, and_true, true_and] at this
  exact Prod.ext this.1 this.2
theorem zeroBo (w : World) : (zeroValue 4).run Tryd.prog w = .ok (.bool false) w := by kernel_rfl
set_option maxRecDepth 20000 in
theorem plain_bool_inv {H : Type} {v : Value} {x : Bool} {ps : List MemPlace} (h : plainElem (H := H) Tryd.prog 4 v = some (.lit (.bool x), ps)) : v = .bool x := by
  unfold plainElem at h
  rw [Tryd.underlying4] at h
  cases v <;> simp at h
  rw [h.1]
/-- Block b is a map of at most n entries that tells of each block whether it is in S. -/
def BSet (w : World) (b n : Nat) (S : List (Int × Int)) : Prop :=
  ∃ D : DataW Unit, w.ownsMap Tryd.prog 32 (plainElem Tryd.prog 4) b n D ∧ IsMap D ∧ ∀ x, Bd x → D.atKey (bkL x) (.lit (.bool false)) = .lit (.bool (decide (x ∈ S)))
section
variable {w w' : World} {b n : Nat} {S : List (Int × Int)}
theorem BSet.made (w : World) : BSet (w.alloc (.map #[] 0)) w.heap.size 0 [] :=
  ⟨.map [], World.ownsMap_made _ _ _ _, isMap_empty, fun i _ => by simp [DataW.atKey]⟩
theorem BSet.lt (h : BSet w b n S) : b < w.heap.size := by
  obtain ⟨D, h1, _⟩ := h
  exact h1.lt
theorem BSet.keep (h : BSet w b n S) (e : w'.heap[b]? = w.heap[b]?) : BSet w' b n S := by
  obtain ⟨D, ⟨es, clock, hb, F⟩, h2⟩ := h
  exact ⟨D, ⟨es, clock, e.trans hb, F⟩, h2⟩
theorem BSet.next (h : BSet w b n S) (hb : Below w.heap.size w w') : BSet w' b n S := h.keep (hb.block b h.lt)
theorem BSet.stay {q : List Nat} (h : BSet w b n S) (x : Only q w w') (hq : b ∉ q) : BSet w' b n S := h.keep (x.block b h.lt hq)
theorem BSet.mono (h : BSet w b n S) {n' : Nat} (hn : n ≤ n') : BSet w b n' S := by
  obtain ⟨D, h1, h2⟩ := h
  exact ⟨D, h1.mono hn, h2⟩
theorem BSet.congr (h : BSet w b n S) {S' : List (Int × Int)} (hs : ∀ x, x ∈ S ↔ x ∈ S') : BSet w b n S' := by
  obtain ⟨D, h1, h2, h3⟩ := h
  exact ⟨D, h1, h2, fun x hx => by rw [h3 x hx]; simp [hs x]⟩
theorem BSet.look (h : BSet w b n S) {x : Int × Int} (hx : Bd x) : (Instr.lookup 51 (.map (some b)) (bkV x) false).run Tryd.prog w = .ok (.bool (decide (x ∈ S))) w := by
  obtain ⟨D, h1, _, h3⟩ := h
  obtain ⟨v, ps, hrun, hv⟩ := h1.lookup bk_law Tryd.underlying51 (zeroBo w) (plainElem_bool Tryd.underlying4 false) (key_bk hx)
  rw [h3 x hx] at hv
  rw [hrun, plain_bool_inv hv]
theorem BSet.put (h : BSet w b n S) {x : Int × Int} (hx : Bd x) (hn : n < 1048576) :
    ∃ w', (Instr.mapUpdate 51 (.map (some b)) (bkV x) (.bool true)).run Tryd.prog w = .ok () w' ∧ BSet w' b (n + 1) (x :: S) ∧ w.grownBy w' (some b) := by
  obtain ⟨D, h1, h2, h3⟩ := h
  obtain ⟨w', hrun, h4, h5⟩ := h1.update bk_law Tryd.underlying51 (by unfold maxLen; omega) (key_bk hx) (plainElem_bool Tryd.underlying4 true)
  refine ⟨w', hrun, ⟨_, h4, h2.put _ _, fun y hy => ?_⟩, h5⟩
  by_cases e : y = x
  · subst e
    rw [atKey_put_same h2 (show WideAt.IsKeyLit (bkL y) from trivial)]; simp
  · rw [atKey_put_other (fun h => e (bkL_inj hy hx h)), h3 y hy]
    simp [e]
theorem BSet.del (h : BSet w b n S) {x : Int × Int} (hx : Bd x) (ty : TypeId) :
    ∃ w', (Builtin.delete_ #[51, 32] ty #[.map (some b), bkV x]).run Tryd.prog w = .ok (.tuple #[]) w' ∧ BSet w' b n (S.filter (· ≠ x)) ∧ w.grownBy w' (some b) := by
  obtain ⟨D, h1, h2, h3⟩ := h
  obtain ⟨w', hrun, q4, q5⟩ := h1.drop bk_law Tryd.underlying51 (key_bk hx) ty
  refine ⟨w', hrun, ⟨_, q4, h2.del _, fun y hy => ?_⟩, q5.grown⟩
  by_cases e : y = x
  · subst e; rw [atKey_del_same]; simp
  · rw [atKey_del_other (fun h => e (bkL_inj hy hx h)), h3 y hy]; simp [e]
end
/-- Blocks of the program's own, in a row. -/
def bkE (x : Int × Int) : List Value := [.int .i64 x.1, .int .i64 x.2]
theorem bkEnc : Enc 2 bkE := ⟨fun _ => rfl, fun x v hv => by simp [bkE] at hv; rcases hv with rfl | rfl <;> rfl⟩
def BkRow (w : World) (v : Value) (l : List (Int × Int)) : Prop := ORow 32 2 bkE w v l
theorem infoBk : (Tryd.prog.info? 32).map (fun i => (i.zero, i.size, i.bytes)) = some (some (.agg #[.int .i64 0, .int .i64 0]), 2, 16) := by kernel_rfl
theorem BkRow.app {w : World} {vb : Nat} {x : Int × Int} {v : Value} {l : List (Int × Int)} (h : BkRow w v l) (hv : w.heap[vb]? = some (.cells (bkE x).toArray 32 (0, 0))) (few : l.length ≤ 1048576) (ty : TypeId) :
    ∃ v' w', (Builtin.append_ #[25, 25] ty #[v, .slice (some ⟨vb, 0, none⟩) 1 1]).run Tryd.prog w = .ok v' w' ∧ BkRow w' v' (l ++ [x]) ∧ w.grownBy w' v.ownBlock ∧ (v'.ownBlock = v.ownBlock ∨ v'.ownBlock = some w.heap.size) ∧ ∃ b c, v' = .slice (some ⟨b, 0, none⟩) (l.length + 1) c := by
  obtain ⟨i, hi, hz, hs, hb⟩ := info_parts' infoBk
  exact ORow.app bkEnc (by decide) Tryd.underlying25 hi hz hs hb rfl h hv (by omega) (by unfold maxLen; omega) ty
/-- Without the last one. -/
theorem BkRow.drop {w : World} {b n cap : Nat} {l : List (Int × Int)} (h : BkRow w (.slice (some ⟨b, 0, none⟩) n cap) l) : BkRow w (.slice (some ⟨b, 0, none⟩) (n - 1) cap) l.dropLast := by
  have hl := h.1
  rcases ORow.cases h with ⟨h1, _⟩ | ⟨b', cap', cur, h1, h2, h3, h4, h5, h6⟩
  · cases h1
  · cases h1
    refine ⟨by rw [flat_len bkEnc], .inr ⟨b, cap, cur, by rw [List.length_dropLast], Nat.zero_le _, h2, by rw [List.length_dropLast]; omega, h4, h5, ?_⟩⟩
    rw [List.length_dropLast]
    have e : (l.dropLast).flatMap bkE = (l.flatMap bkE).take ((l.length - 1) * 2) := by
      rcases List.eq_nil_or_concat l with rfl | ⟨p, y, rfl⟩
      · rfl
      · rw [List.concat_eq_append, List.dropLast_concat, List.flatMap_append, List.take_append_of_le_length (by rw [flat_len bkEnc]; simp), List.take_of_length_le (by rw [flat_len bkEnc]; simp)]
    rw [e, ← h6, List.take_take]
    congr 1
    omega
theorem step_append_bk {P : Program} {ops : Array Oper} {o : Oper} {a : Act} {w : World} {K : Act → World → Prop} {Q : Exit → Act → World → Prop} {E : Prop}
    (hg : o.guard = none) (d x : Operand) (dT sT : TypeId) (hop : o.op = Op.call { callee := Callee.builtin Builtin.append, args := #[d, x], argTypes := #[dT, sT] })
    (v u : Value) (hd : a.eval d = v) (hx : a.eval x = u) {v' : Value} {w' : World} (hr : (Builtin.append_ #[dT, sT] o.type #[v, u]).run P w = .ok v' w') (hK : K (a.put o.dst v') w') :
    if Region.wanted o (yielded ops a.tmps) = true then Oper.wp P o a w K Q else E := by
  have hw : Region.wanted o (yielded ops a.tmps) = true := by simp [Region.wanted, hg]
  rw [if_pos hw]
  unfold Oper.wp
  simp [execOp, hop, resolve, invoke, builtin, hd, hx, hr, Result.andThen]
  exact hK
end Go.Proofs.YtehmeccjgjhidaaDoor
