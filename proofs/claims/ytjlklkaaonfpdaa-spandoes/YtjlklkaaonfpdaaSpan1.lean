/-
  Laws on whole rows of cells: stores, copies and clears, of elements of whatever many cells.
-/
import Derived.Test.YtjlklkaaonfpdaaConf2
import Derived.Laws.CopyRow
import Derived.Laws.IdiomCopy
import Derived.Lib.SliceRun
import Derived.Laws.AppendOwn
namespace Go.Proofs.Ytjlklkaaonfpdaa
open Go.RowKit

section
variable {P : Program}
theorem setCells_row (g : Nat) (t : TypeId) : ∀ (vs : List Value) (o : Nat) (cur : Array Value) (w : World), w.heap[g]? = some (.cells cur t (0, 0)) → o + vs.length ≤ cur.size →
    w.setCells g o vs = w.setRow g (cur.toList.take o ++ vs ++ cur.toList.drop (o + vs.length)).toArray
  | [], o, cur, w, hg, _ => by
    simp only [World.setCells, List.append_nil, List.length_nil, Nat.add_zero, List.take_append_drop, Array.toArray_toList]
    rw [setRow_self w g cur t (0, 0) hg]
  | v :: rest, o, cur, w, hg, hl => by
    simp only [List.length_cons] at hl
    rw [World.setCells, setCell_eq_setRow w g o cur t (0, 0) v hg, setCells_row g t rest (o + 1) (cur.setIfInBounds o v) _ (setRow_heap w g cur _ t _ hg) (by simp; omega), setRow_setRow]
    congr 2
    have e := list_seg_step cur.toList o v rest (by simp; omega)
    simpa [Array.toList_setIfInBounds, Nat.add_assoc] using e

theorem run_copy_rowK (w : World) (dT sT ty elem : TypeId) (g o dLen dCap : Nat) (a : Addr) (sLen sCap : Nat) (cur : Array Value) (t : TypeId) (cs : List Value) (i : TypeInfo)
    (hu : P.underlying dT = some (.slice elem)) (hq : P.info? elem = some i) (hg : w.heap[g]? = some (.cells cur t (0, 0))) (hn : cs.length = Nat.min sLen dLen * i.size)
    (hsrc : ∀ j v, cs[j]? = some v → w.cell? (a.add j) = some v) (hfit : o + cs.length ≤ cur.size) (h1 : ∀ v ∈ cs, v.oneCell' = true) :
    (Builtin.copy_ #[dT, sT] ty #[.slice (some ⟨g, o, none⟩) dLen dCap, .slice (some a) sLen sCap]).run P w =
      .ok (goInt (Nat.min sLen dLen)) (w.setRow g (cur.toList.take o ++ cs ++ cur.toList.drop (o + cs.length)).toArray) := by
  have hl := run_loadCells_list (P := P) w a cs hsrc
  have hst := run_storeCells_at P g o t cs 0 cur w hg (by simpa using hfit) h1
  simp [Builtin.copy_, run_underlying hu, Builtin.lenOf, Builtin.firstCells, sizeOf, typeInfo, hq, ← hn, hl, hst]

theorem run_clear_row (w : World) (tt e ty : TypeId) (z : Value) (ht : P.underlying tt = some (.slice e)) (hv : ∀ w, (zeroValue e).run P w = .ok z w) (g o n c : Nat) (hn : 0 < n) (cur : Array Value) (t : TypeId)
    (hg : w.heap[g]? = some (.cells cur t (0, 0))) (zs : List Value) (hz : (Builtin.zeroCells z.cells n).toList = zs) (h1 : ∀ v ∈ zs, v.oneCell' = true) (hfit : o + zs.length ≤ cur.size) :
    (Builtin.clear_ #[tt] ty #[.slice (some ⟨g, o, none⟩) n c]).run P w = .ok (.tuple #[]) (w.setRow g (cur.toList.take o ++ zs ++ cur.toList.drop (o + zs.length)).toArray) := by
  have hst := run_storeCells_at P g o t zs 0 cur w hg (by simpa using hfit) h1
  obtain ⟨m, rfl⟩ : ∃ m, n = m + 1 := ⟨n - 1, by omega⟩
  simp [Builtin.clear_, run_underlying ht, hv, hz, hst]
end

/-- An interval: where it begins, and how long it is. -/
abbrev Iv := Int × Int
def ivs (l : List Iv) : List Value := l.flatMap fun x => [.int .i64 x.1, .int .i64 x.2]
theorem ivs_nil : ivs [] = [] := rfl
theorem ivs_cons (x : Iv) (l : List Iv) : ivs (x :: l) = .int .i64 x.1 :: .int .i64 x.2 :: ivs l := rfl
theorem ivs_app (a b : List Iv) : ivs (a ++ b) = ivs a ++ ivs b := by simp [ivs]
theorem ivs_len (l : List Iv) : (ivs l).length = l.length * 2 := by
  induction l with
  | nil => rfl
  | cons x l ih => rw [ivs_cons]; simp [ih]; omega
theorem ivs_one (l : List Iv) : ∀ u ∈ ivs l, u.oneCell' = true := by
  induction l with
  | nil => intro u h; cases h
  | cons x l ih => intro u h; rw [ivs_cons] at h; simp at h; rcases h with rfl | rfl | h
                   · rfl
                   · rfl
                   · exact ih u h
theorem ivs_take (l : List Iv) (i : Nat) : (ivs l).take (i * 2) = ivs (l.take i) := by
  induction l generalizing i with
  | nil => simp [ivs_nil]
  | cons x l ih =>
    cases i with
    | zero => simp [ivs_nil]
    | succ i => rw [ivs_cons, show (i + 1) * 2 = i * 2 + 1 + 1 from by omega, List.take_succ_cons, List.take_succ_cons, ih, List.take_succ_cons, ivs_cons]
theorem ivs_drop (l : List Iv) (i : Nat) : (ivs l).drop (i * 2) = ivs (l.drop i) := by
  induction l generalizing i with
  | nil => simp [ivs_nil]
  | cons x l ih =>
    cases i with
    | zero => simp [ivs_cons]
    | succ i => rw [ivs_cons, show (i + 1) * 2 = i * 2 + 1 + 1 from by omega, List.drop_succ_cons, List.drop_succ_cons, ih, List.drop_succ_cons]
theorem ivs_at {l : List Iv} {i : Nat} {x : Iv} (h : l[i]? = some x) : (ivs l)[i * 2]? = some (.int .i64 x.1) ∧ (ivs l)[i * 2 + 1]? = some (.int .i64 x.2) := by
  induction l generalizing i with
  | nil => cases h
  | cons y l ih =>
    cases i with
    | zero => simp at h; subst h; rw [ivs_cons]; exact ⟨rfl, rfl⟩
    | succ i =>
      simp at h
      obtain ⟨h1, h2⟩ := ih h
      rw [ivs_cons]
      refine ⟨?_, ?_⟩
      · rw [show (i + 1) * 2 = i * 2 + 1 + 1 from by omega, List.getElem?_cons_succ, List.getElem?_cons_succ]; exact h1
      · rw [show (i + 1) * 2 + 1 = i * 2 + 1 + 1 + 1 from by omega, List.getElem?_cons_succ, List.getElem?_cons_succ]; exact h2

/-- A row of intervals of the program's own. -/
def IvRow (w : World) (v : Value) (l : List Iv) : Prop := w.ownsRow 0 56 2 v l.length (ivs l)
/-- ... in a block. -/
structure IvBlk (w : World) (b cap : Nat) (l : List Iv) (cur : Array Value) : Prop where
  at_ : w.heap[b]? = some (.cells cur 56 (0, 0))
  len : l.length ≤ cap
  big : cap ≤ maxLen
  size : cur.size = cap * 2
  cells : cur.toList.take (l.length * 2) = ivs l
theorem IvRow.cases {w : World} {v : Value} {l : List Iv} (h : IvRow w v l) : (v = .slice none 0 0 ∧ l = []) ∨ ∃ b cap cur, v = .slice (some ⟨b, 0, none⟩) l.length cap ∧ IvBlk w b cap l cur := by
  rcases h.2 with ⟨h1, h2⟩ | ⟨g, cap, cur, h1, _, h3, h4, h5, h6, h7⟩
  · exact .inl ⟨h1, List.length_eq_zero_iff.1 h2⟩
  · exact .inr ⟨g, cap, cur, h1, h3, h4, h5, h6, h7⟩
theorem IvBlk.row {w : World} {b cap : Nat} {l : List Iv} {cur : Array Value} (h : IvBlk w b cap l cur) : IvRow w (.slice (some ⟨b, 0, none⟩) l.length cap) l :=
  ⟨ivs_len l, .inr ⟨b, cap, cur, rfl, Nat.zero_le _, h.at_, h.len, h.big, h.size, h.cells⟩⟩
theorem ivRow_nil (w : World) : IvRow w (.slice none 0 0) [] := ⟨rfl, .inl ⟨rfl, rfl⟩⟩
theorem IvBlk.lt {w : World} {b cap : Nat} {l : List Iv} {cur : Array Value} (h : IvBlk w b cap l cur) : b < w.heap.size := (Array.getElem?_eq_some_iff.1 h.at_).1
theorem IvBlk.next {w w' : World} {b cap : Nat} {l : List Iv} {cur : Array Value} (h : IvBlk w b cap l cur) (hb : w'.heap[b]? = w.heap[b]?) : IvBlk w' b cap l cur := ⟨hb.trans h.at_, h.len, h.big, h.size, h.cells⟩
theorem IvBlk.cell {w : World} {b cap : Nat} {l : List Iv} {cur : Array Value} (h : IvBlk w b cap l cur) {j : Nat} {u : Value} (hj : (ivs l)[j]? = some u) : w.cell? ⟨b, j, none⟩ = some u := by
  have hl : j < l.length * 2 := by rw [← ivs_len]; exact (List.getElem?_eq_some_iff.1 hj).1
  rw [← h.cells, List.getElem?_take, if_pos hl, Array.getElem?_toList] at hj
  simp [World.cell?, h.at_, hj]
theorem IvBlk.fz {w : World} {b cap : Nat} {l : List Iv} {cur : Array Value} (h : IvBlk w b cap l cur) (j : Nat) : w.frozen? ⟨b, j, none⟩ = false := by simp [World.frozen?, h.at_]
/-- The two cells of an interval. -/
theorem IvBlk.two {w : World} {b cap : Nat} {l : List Iv} {cur : Array Value} (h : IvBlk w b cap l cur) {i : Nat} {x : Iv} (hi : l[i]? = some x) : w.cell? ⟨b, i * 2, none⟩ = some (.int .i64 x.1) ∧ w.cell? ⟨b, i * 2 + 1, none⟩ = some (.int .i64 x.2) :=
  ⟨h.cell (ivs_at hi).1, h.cell (ivs_at hi).2⟩

end Go.Proofs.Ytjlklkaaonfpdaa
