/-
  Rows of the program's own, whatever their elements are: each is some cells.
-/
import Derived.Test.YtehmeccjgjhidaaDoorMemM
namespace Go.Proofs.YtehmeccjgjhidaaDoor
open Go.RowKit Go.Sort

/-- How an element lies in cells: k of them. -/
structure Enc {α : Type} (k : Nat) (e : α → List Value) : Prop where
  len : ∀ x, (e x).length = k
  one : ∀ x, ∀ v ∈ e x, v.oneCell' = true
theorem flat_len {α : Type} {k : Nat} {e : α → List Value} (E : Enc k e) (l : List α) : (l.flatMap e).length = l.length * k := by
  induction l with
  | nil => simp
  | cons x l ih => rw [List.flatMap_cons, List.length_append, ih, E.len, List.length_cons, Nat.add_mul]; omega
theorem flat_one {α : Type} {k : Nat} {e : α → List Value} (E : Enc k e) (l : List α) : ∀ v ∈ l.flatMap e, v.oneCell' = true := by
  intro v hv
  obtain ⟨x, _, hx⟩ := List.mem_flatMap.1 hv
  exact E.one x v hx
theorem flat_at {α : Type} {k : Nat} {e : α → List Value} (E : Enc k e) {l : List α} {i : Nat} {x : α} (h : l[i]? = some x) {j : Nat} (hj : j < k) : (l.flatMap e)[i * k + j]? = (e x)[j]? := by
  induction l generalizing i with
  | nil => cases h
  | cons y l ih =>
    rw [List.flatMap_cons]
    cases i with
    | zero => simp at h; subst h; rw [Nat.zero_mul, Nat.zero_add, List.getElem?_append_left (by rw [E.len]; exact hj)]
    | succ i =>
      simp at h
      rw [List.getElem?_append_right (by rw [E.len, Nat.add_mul]; omega), E.len, show (i + 1) * k + j - k = i * k + j by rw [Nat.add_mul]; omega]
      exact ih h
theorem flat_set {α : Type} {k : Nat} {e : α → List Value} (E : Enc k e) {l : List α} {i : Nat} {x y : α} (h : l[i]? = some x) {j : Nat} {v : Value} (hj : j < k) (hy : e y = (e x).set j v) : (l.flatMap e).set (i * k + j) v = (l.set i y).flatMap e := by
  induction l generalizing i with
  | nil => cases h
  | cons z l ih =>
    cases i with
    | zero => simp at h; subst h; rw [List.flatMap_cons, List.set_cons_zero, List.flatMap_cons, Nat.zero_mul, Nat.zero_add, List.set_append_left _ _ (by rw [E.len]; exact hj), hy]
    | succ i =>
      simp at h
      rw [List.flatMap_cons, List.set_cons_succ, List.flatMap_cons, List.set_append_right _ _ (by rw [E.len, Nat.add_mul]; omega), E.len, show (i + 1) * k + j - k = i * k + j by rw [Nat.add_mul]; omega, ih h]
/-- A row of the program's own. -/
def ORow (T : TypeId) (k : Nat) {α : Type} (e : α → List Value) (w : World) (v : Value) (l : List α) : Prop := w.ownsRow 0 T k v l.length (l.flatMap e)
section
variable {T : TypeId} {k : Nat} {α : Type} {e : α → List Value}
theorem ORow.nil (w : World) : ORow T k e w (.slice none 0 0) [] := ⟨by simp, .inl ⟨rfl, rfl⟩⟩
theorem ORow.cases {w : World} {v : Value} {l : List α} (h : ORow T k e w v l) : (v = .slice none 0 0 ∧ l = []) ∨ ∃ b cap cur, v = .slice (some ⟨b, 0, none⟩) l.length cap ∧ w.heap[b]? = some (.cells cur T (0, 0)) ∧ l.length ≤ cap ∧ cap ≤ maxLen ∧ cur.size = cap * k ∧ cur.toList.take (l.length * k) = l.flatMap e := by
  rcases h.2 with ⟨h1, h2⟩ | ⟨b, cap, cur, h1, _, h3, h4, h5, h6, h7⟩
  · exact .inl ⟨h1, List.length_eq_zero_iff.1 h2⟩
  · exact .inr ⟨b, cap, cur, h1, h3, h4, h5, h6, h7⟩
theorem ORow.lt {w : World} {v : Value} {l : List α} (h : ORow T k e w v l) {q : Nat} (hq : v.ownBlock = some q) : q < w.heap.size := by
  rcases h.cases with ⟨rfl, _⟩ | ⟨b, cap, cur, rfl, hb, _⟩
  · cases hq
  · cases hq; exact heap_lt hb
theorem ORow.form {w : World} {v : Value} {l : List α} (h : ORow T k e w v l) : ∃ a c, v = .slice a l.length c := by
  rcases h.cases with ⟨rfl, rfl⟩ | ⟨b, cap, cur, rfl, _⟩
  · exact ⟨_, _, rfl⟩
  · exact ⟨_, _, rfl⟩
theorem ORow.stay {q : List Nat} {w w' : World} {v : Value} {l : List α} (h : ORow T k e w v l) (x : Only q w w') (hn : ∀ b, v.ownBlock = some b → b ∉ q) : ORow T k e w' v l := by
  refine ⟨h.1, ?_⟩
  rcases h.2 with h1 | ⟨b, cap, cur, h1, h2, h3, h4⟩
  · exact .inl h1
  · exact .inr ⟨b, cap, cur, h1, h2, x.at h3 (hn b (by rw [h1]; rfl)), h4⟩
theorem ORow.next {w w' : World} {v : Value} {l : List α} (h : ORow T k e w v l) (x : Below w.heap.size w w') : ORow T k e w' v l := h.stay (q := []) (Only.of_below x) (by simp)
/-- Its element i: where, and its cells. -/
theorem ORow.at (E : Enc k e) {w : World} {v : Value} {l : List α} (h : ORow T k e w v l) {i : Nat} {x : α} (hi : l[i]? = some x) : ∃ b cap, v = .slice (some ⟨b, 0, none⟩) l.length cap ∧ (∀ j u, (e x)[j]? = some u → w.cell? ⟨b, i * k + j, none⟩ = some u) ∧ ∀ j, w.frozen? ⟨b, j, none⟩ = false := by
  have hl : i < l.length := (List.getElem?_eq_some_iff.1 hi).1
  rcases h.cases with ⟨_, rfl⟩ | ⟨b, cap, cur, rfl, hb, _, _, _, h7⟩
  · cases hi
  · refine ⟨b, cap, rfl, fun j u hu => ?_, fun j => frozen_of hb⟩
    have hj : j < k := by have := (List.getElem?_eq_some_iff.1 hu).1; rwa [E.len] at this
    have hlt : i * k + j < l.length * k := by have : (i + 1) * k ≤ l.length * k := Nat.mul_le_mul_right _ hl; rw [Nat.add_mul] at this; omega
    rw [cell_of hb, ← Array.getElem?_toList]
    have := flat_at E hi hj
    rw [← h7, List.getElem?_take, if_pos hlt] at this
    rw [this, hu]
/-- A cell of its element i turns. -/
theorem ORow.set (E : Enc k e) {w : World} {b n cap : Nat} {l : List α} (h : ORow T k e w (.slice (some ⟨b, 0, none⟩) n cap) l) {i : Nat} {x y : α} (hi : l[i]? = some x) {j : Nat} {u : Value} (hj : j < k) (hy : e y = (e x).set j u) : ORow T k e (w.setCell ⟨b, i * k + j, none⟩ u) (.slice (some ⟨b, 0, none⟩) n cap) (l.set i y) := by
  have hl : i < l.length := (List.getElem?_eq_some_iff.1 hi).1
  refine ⟨by rw [flat_len E], ?_⟩
  rcases h.cases with ⟨hv, _⟩ | ⟨b', cap', cur, hv, hb, h4, h5, h6, h7⟩
  · cases hv
  · cases hv
    have hlt : i * k + j < l.length * k := by have : (i + 1) * k ≤ l.length * k := Nat.mul_le_mul_right _ hl; rw [Nat.add_mul] at this; omega
    refine .inr ⟨b, cap, _, by rw [List.length_set], Nat.zero_le _, set_of hb u, by rw [List.length_set]; exact h4, h5, by simpa using h6, ?_⟩
    rw [Array.toList_setIfInBounds, List.length_set, List.take_set, h7, flat_set E hi hj hy]
/-- One element more, out of a box. -/
theorem ORow.app (E : Enc k e) (hk : 0 < k) {P : Program} {sT : TypeId} {i : TypeInfo} {z : Value} {bytes : Nat} (hu : P.underlying sT = some (.slice T)) (hi : P.info? T = some i) (hz : i.zero = some z) (hsz : i.size = k) (hby : i.bytes = bytes) (hzs : z.cells.size = k) {w : World} {vb m : Nat} {x : α} {v : Value} {l : List α} (h : ORow T k e w v l) (hv : w.heap[vb]? = some (.cells (e x).toArray T (0, 0))) (few : (l.length + 1) * bytes ≤ 140737488355328) (fe2 : l.length + 1 ≤ maxLen) (ty : TypeId) :
    ∃ v' w', (Builtin.append_ #[sT, sT] ty #[v, .slice (some ⟨vb, 0, none⟩) 1 m]).run P w = .ok v' w' ∧ ORow T k e w' v' (l ++ [x]) ∧ w.grownBy w' v.ownBlock ∧ (v'.ownBlock = v.ownBlock ∨ v'.ownBlock = some w.heap.size) ∧ ∃ b c, v' = .slice (some ⟨b, 0, none⟩) (l.length + 1) c := by
  obtain ⟨v', w', h1, h2, h3, _, h5⟩ := run_append_own_at (P := P) w 0 sT ty T i z k bytes hu hi hz hsz hby hzs hk v l.length (l.flatMap e) h ⟨vb, 0, none⟩ 1 m (e x) (by rw [E.len, Nat.one_mul]) (fun j u hj => by rw [Addr.add_lit, Nat.zero_add, cell_of hv]; simpa using hj) (E.one x) fe2 few (Nat.zero_le _)
  have h2' : ORow T k e w' v' (l ++ [x]) := by
    unfold ORow
    rw [List.flatMap_append, List.length_append]
    simpa using h2
  refine ⟨v', w', h1, h2', h3, h5, ?_⟩
  rcases h2'.cases with ⟨_, hq⟩ | ⟨b, cap, cur, rfl, _⟩
  · simp at hq
  · exact ⟨b, cap, by simp⟩
end
theorem wpList_append_by {P : Program} {w : World} {ops : Array Oper} {rest : List Oper} {o : Oper} {a : Act} {Q : Exit → Act → World → Prop}
    (hgd : o.guard = none) (s x : Operand) (t t' : TypeId) (ho : o.op = .call { callee := .builtin .append, args := #[s, x], argTypes := #[t, t'] })
    (v u : Value) (hs : a.eval s = v) (hx : a.eval x = u) {v' : Value} {w' : World} (hrun : (Builtin.append_ #[t, t'] o.type #[v, u]).run P w = .ok v' w')
    (h : wpList P ops Q rest (a.put o.dst v') w') : wpList P ops Q (o :: rest) a w := by
  refine wpList_plain hgd fun K hK => ?_
  unfold Oper.wp
  simp [execOp, ho, resolve, invoke, builtin, hs, hx, hrun, Result.andThen]
  exact hK _ _ h

/-- What is asked and answered, in a row: two words each. -/
def opE (x : Nat × Nat) : List Value := [.int .u64 (x.1 : Int), .int .u64 (x.2 : Int)]
theorem opEnc : Enc 2 opE := ⟨fun _ => rfl, fun x v hv => by simp [opE] at hv; rcases hv with rfl | rfl <;> rfl⟩
theorem info_parts' {i? : Option TypeInfo} {z : Option Value} {s b : Nat} (h : i?.map (fun i => (i.zero, i.size, i.bytes)) = some (z, s, b)) : ∃ i, i? = some i ∧ i.zero = z ∧ i.size = s ∧ i.bytes = b := by
  cases i? with
  | none => cases h
  | some i => simp at h; exact ⟨i, rfl, h.1, h.2.1, h.2.2⟩
end Go.Proofs.YtehmeccjgjhidaaDoor
