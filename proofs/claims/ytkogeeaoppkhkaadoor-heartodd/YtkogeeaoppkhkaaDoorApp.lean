/-
  Laws of append for the walks: of whatever many elements (none, too; nil, too), onto a row that the call itself made.
-/
import Derived.Test.YtkogeeaoppkhkaaDoorConf2
import Derived.Deep.AppendLies
import Derived.Deep.RegionLaw
import Derived.Laws.CopyOwn
import Derived.OwnWalk
namespace Go.Proofs.YtkogeeaoppkhkaaDoor
open Go.RowKit

section
variable {P : Program} (w : World)
theorem own_lt {w : World} {e : TypeId} {g0 n c0 : Nat} {xs : List Value} (hown : w.ownsRow 0 e 1 (.slice (some ⟨g0, 0, none⟩) n c0) n xs) : g0 < w.heap.size ∧ n ≤ c0 := by
  rcases hown.2 with ⟨h', _⟩ | ⟨g', cap', cur, h', hb, hg, hnc, _⟩
  · simp at h'
  · simp only [Value.slice.injEq, Option.some.injEq, Addr.mk.injEq, and_true, true_and] at h'
    obtain ⟨rfl, rfl⟩ := h'
    exact ⟨(Array.getElem?_eq_some_iff.1 hg).1, hnc⟩
theorem wp_append_gen {o : Oper} {a : Act} {K : Act → World → Prop} {Q : Exit → Act → World → Prop} (s x : Operand) (t : TypeId)
    (ho : o.op = .call { callee := .builtin .append, args := #[s, x], argTypes := #[t, t] })
    (e : TypeId) (i : TypeInfo) (z : Value) (bytes : Nat) (ht : P.underlying t = some (.slice e)) (hi : P.info? e = some i) (hz : i.zero = some z)
    (hsize : i.size = 1) (hby : i.bytes = bytes) (hzs : z.cells.size = 1)
    (g0 n c0 : Nat) (xs : List Value) (hs : a.eval s = .slice (some ⟨g0, 0, none⟩) n c0) (hown : w.ownsRow 0 e 1 (.slice (some ⟨g0, 0, none⟩) n c0) n xs)
    (ao : Option Addr) (m c : Nat) (news : List Value) (hx : a.eval x = .slice ao m c) (hnil : ao = none → m = 0 ∧ c = 0) (hl : news.length = m) (hnews : ∀ ad, ao = some ad → ∀ j u, news[j]? = some u → w.cell? (ad.add j) = some u) (h1 : ∀ u ∈ news, u.oneCell' = true)
    (h63 : n + m ≤ maxLen) (hbytes : (n + m) * bytes ≤ 140737488355328) (H : Nat) (hH : w.heap.size = H)
    (h : ∀ g cap w', w'.ownsRow 0 e 1 (.slice (some ⟨g, 0, none⟩) (n + m) cap) (n + m) (xs ++ news) → w.grownBy w' (some g0) → (g = g0 ∨ g = H) → g < w'.heap.size → K (a.put o.dst (.slice (some ⟨g, 0, none⟩) (n + m) cap)) w') :
    o.wp P a w K Q := by
  obtain ⟨hlt, hnc⟩ := own_lt hown
  cases ao with
  | none =>
    obtain ⟨rfl, rfl⟩ := hnil rfl
    obtain rfl : news = [] := List.eq_nil_of_length_eq_zero hl
    have hrun := run_append_owned_none (P := P) w 0 t o.type e i 1 ht hi _ n xs hown
    unfold Oper.wp
    simp [execOp, ho, resolve, invoke, builtin, hs, hx, hrun, Result.andThen]
    exact h g0 c0 w (by simpa using hown) (World.grownBy.refl _ _) (.inl rfl) hlt
  | some ad =>
    by_cases hm : m = 0
    · subst hm
      obtain rfl : news = [] := List.eq_nil_of_length_eq_zero hl
      have hrun := run_append_room_cells (P := P) w t o.type e i ht hi g0 0 n c0 ad 0 c [] (by simp) (by intro j u hu; simp at hu) (by intro u hu; simp at hu) (by omega) (by intro j hj; simp at hj) (by intro j hj; simp at hj)
      unfold Oper.wp
      simp [execOp, ho, resolve, invoke, builtin, hs, hx, hrun, Result.andThen]
      exact h g0 c0 w (by simpa using hown) (World.grownBy.refl _ _) (.inl rfl) hlt
    · refine wp_append_lies w s x t ho 0 e i z 1 bytes ht hi hz hsize hby hzs (by omega) (.slice (some ⟨g0, 0, none⟩) n c0) n xs hs hown ad m c news hx (by omega) (hnews ad rfl) h1 (by omega) h63 hbytes (Nat.zero_le _) H hH ?_
      intro g cap w' h2 h3 h4 h5
      refine h g cap w' h2 h3 ?_ h5
      rcases h4 with h4 | h4
      · exact .inl (Option.some.inj (show some g0 = some g from h4)).symm
      · exact .inr h4
theorem wpList_append_gen {ops : Array Oper} {rest : List Oper} {o : Oper} {a : Act} {Q : Exit → Act → World → Prop} (hgd : o.guard = none) (s x : Operand) (t : TypeId)
    (ho : o.op = .call { callee := .builtin .append, args := #[s, x], argTypes := #[t, t] })
    (e : TypeId) (i : TypeInfo) (z : Value) (bytes : Nat) (ht : P.underlying t = some (.slice e)) (hi : P.info? e = some i) (hz : i.zero = some z)
    (hsize : i.size = 1) (hby : i.bytes = bytes) (hzs : z.cells.size = 1)
    (g0 n c0 : Nat) (xs : List Value) (hs : a.eval s = .slice (some ⟨g0, 0, none⟩) n c0) (hown : w.ownsRow 0 e 1 (.slice (some ⟨g0, 0, none⟩) n c0) n xs)
    (ao : Option Addr) (m c : Nat) (news : List Value) (hx : a.eval x = .slice ao m c) (hnil : ao = none → m = 0 ∧ c = 0) (hl : news.length = m) (hnews : ∀ ad, ao = some ad → ∀ j u, news[j]? = some u → w.cell? (ad.add j) = some u) (h1 : ∀ u ∈ news, u.oneCell' = true)
    (h63 : n + m ≤ maxLen) (hbytes : (n + m) * bytes ≤ 140737488355328) (H : Nat) (hH : w.heap.size = H)
    (h : ∀ g cap w', w'.ownsRow 0 e 1 (.slice (some ⟨g, 0, none⟩) (n + m) cap) (n + m) (xs ++ news) → w.grownBy w' (some g0) → (g = g0 ∨ g = H) → g < w'.heap.size → wpList P ops Q rest (a.put o.dst (.slice (some ⟨g, 0, none⟩) (n + m) cap)) w') :
    wpList P ops Q (o :: rest) a w :=
  wpList_plain hgd fun _ hK => wp_append_gen w s x t ho e i z bytes ht hi hz hsize hby hzs g0 n c0 xs hs hown ao m c news hx hnil hl hnews h1 h63 hbytes H hH fun g cap w' h2 h3 h4 h5 => hK _ _ (h g cap w' h2 h3 h4 h5)
theorem step_append_gen {ops : Array Oper} {o : Oper} {a : Act} {K : Act → World → Prop} {Q : Exit → Act → World → Prop} {E : Prop} (hgd : o.guard = none) (s x : Operand) (t : TypeId)
    (ho : o.op = .call { callee := .builtin .append, args := #[s, x], argTypes := #[t, t] })
    (e : TypeId) (i : TypeInfo) (z : Value) (bytes : Nat) (ht : P.underlying t = some (.slice e)) (hi : P.info? e = some i) (hz : i.zero = some z)
    (hsize : i.size = 1) (hby : i.bytes = bytes) (hzs : z.cells.size = 1)
    (g0 n c0 : Nat) (xs : List Value) (hs : a.eval s = .slice (some ⟨g0, 0, none⟩) n c0) (hown : w.ownsRow 0 e 1 (.slice (some ⟨g0, 0, none⟩) n c0) n xs)
    (ao : Option Addr) (m c : Nat) (news : List Value) (hx : a.eval x = .slice ao m c) (hnil : ao = none → m = 0 ∧ c = 0) (hl : news.length = m) (hnews : ∀ ad, ao = some ad → ∀ j u, news[j]? = some u → w.cell? (ad.add j) = some u) (h1 : ∀ u ∈ news, u.oneCell' = true)
    (h63 : n + m ≤ maxLen) (hbytes : (n + m) * bytes ≤ 140737488355328) (H : Nat) (hH : w.heap.size = H)
    (h : ∀ g cap w', w'.ownsRow 0 e 1 (.slice (some ⟨g, 0, none⟩) (n + m) cap) (n + m) (xs ++ news) → w.grownBy w' (some g0) → (g = g0 ∨ g = H) → g < w'.heap.size → K (a.put o.dst (.slice (some ⟨g, 0, none⟩) (n + m) cap)) w') :
    if Region.wanted o (yielded ops a.tmps) = true then Oper.wp P o a w K Q else E := by
  have hw : Region.wanted o (yielded ops a.tmps) = true := by simp [Region.wanted, hgd]
  rw [if_pos hw]
  exact wp_append_gen w s x t ho e i z bytes ht hi hz hsize hby hzs g0 n c0 xs hs hown ao m c news hx hnil hl hnews h1 h63 hbytes H hH h
end

/-- Numbers, as the cells of a row. -/
def numsOf (f : Nat → Int) (n : Nat) : List Value := (List.range n).map fun j => .int .i64 (f j)
theorem nums_len (f : Nat → Int) (n : Nat) : (numsOf f n).length = n := by simp [numsOf]
theorem nums_one (f : Nat → Int) (n : Nat) : ∀ u ∈ numsOf f n, u.oneCell' = true := by
  intro u hu
  simp [numsOf] at hu
  obtain ⟨j, _, rfl⟩ := hu
  rfl
theorem nums_at {f : Nat → Int} {n j : Nat} {u : Value} (h : (numsOf f n)[j]? = some u) : j < n ∧ u = .int .i64 (f j) := by
  have hj : j < n := by have := (List.getElem?_eq_some_iff.1 h).1; rwa [nums_len] at this
  refine ⟨hj, ?_⟩
  simp [numsOf, hj] at h
  exact h.symm
theorem nums_get {f : Nat → Int} {n j : Nat} (h : j < n) : (numsOf f n)[j]? = some (.int .i64 (f j)) := by simp [numsOf, h]
theorem nums_set {f : Nat → Int} {n j : Nat} (v : Int) : (numsOf f n).set j (.int .i64 v) = numsOf (fun i => if i = j then v else f i) n := by
  apply List.ext_getElem
  · simp [numsOf]
  · intro i h1 h2
    simp only [numsOf, List.getElem_set, List.getElem_map, List.getElem_range]
    by_cases h : j = i
    · subst h; simp
    · rw [if_neg h, if_neg (fun e => h e.symm)]
theorem nums_app (f : Nat → Int) (a b : Nat) : numsOf f a ++ numsOf (fun j => f (a + j)) b = numsOf f (a + b) := by
  apply List.ext_getElem
  · simp [numsOf]
  · intro i h1 h2
    simp only [numsOf, List.getElem_append, List.length_map, List.length_range, List.getElem_map, List.getElem_range]
    split
    · rfl
    · rename_i h; rw [show a + (i - a) = i from by omega]
/-- A row of cells as a row of numbers. -/
theorem row_block {w : World} {b len : Nat} {f : Nat → Int} {cur : Array Value} {t : TypeId} {r : Nat × Nat} (h : w.heap[b]? = some (.cells cur t r)) (hc : cur.toList.take len = numsOf f len) : RowI w (some ⟨b, 0, none⟩) len f := fun _ => by
  refine ⟨b, 0, rfl, (Array.getElem?_eq_some_iff.1 h).1, fun j hj => ?_⟩
  have e : (cur.toList.take len)[j]? = some (.int .i64 (f j)) := by rw [hc]; exact nums_get hj
  simp [hj] at e
  simp [World.cell?, h, e]
theorem row_own {w : World} {b len cap : Nat} {f : Nat → Int} (h : w.ownsRow 0 3 1 (.slice (some ⟨b, 0, none⟩) len cap) len (numsOf f len)) : RowI w (some ⟨b, 0, none⟩) len f := by
  rcases h.2 with ⟨h', _⟩ | ⟨g', cap', cur, h', hb, hg, hnc, _, _, htake⟩
  · simp at h'
  · simp only [Value.slice.injEq, Option.some.injEq, Addr.mk.injEq, and_true, true_and] at h'
    obtain ⟨rfl, rfl⟩ := h'
    exact row_block hg (by rwa [Nat.mul_one] at htake)

end Go.Proofs.YtkogeeaoppkhkaaDoor
