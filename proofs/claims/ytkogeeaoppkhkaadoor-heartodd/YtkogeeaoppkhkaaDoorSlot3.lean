/-
  What turns and what stands; a row of words that grows; a copy of words (slot's fresh).
-/
import Derived.Test.YtkogeeaoppkhkaaDoorMem5
import Derived.Test.YtkogeeaoppkhkaaDoorSlot2
import Derived.Maps.AppendAt
namespace Go.Proofs.YtkogeeaoppkhkaaDoor
open Go.RowKit Go.Sort

/-- Nothing but the blocks of l has turned, of what was there. -/
structure Only (l : List Nat) (w w' : World) : Prop where
  os : w'.os = w.os
  tape : w'.tape = w.tape
  output : w'.output = w.output
  size : w.heap.size ≤ w'.heap.size
  block : ∀ k, k < w.heap.size → k ∉ l → w'.heap[k]? = w.heap[k]?
theorem Only.refl (l : List Nat) (w : World) : Only l w w := ⟨rfl, rfl, rfl, Nat.le_refl _, fun _ _ _ => rfl⟩
theorem Only.trans' {l l' : List Nat} {a b c : World} (x : Only l a b) (y : Only l' b c) (h : ∀ k ∈ l', k ∈ l ∨ a.heap.size ≤ k) : Only l a c :=
  ⟨y.os.trans x.os, y.tape.trans x.tape, y.output.trans x.output, Nat.le_trans x.size y.size, fun k h1 h2 => (y.block k (Nat.lt_of_lt_of_le h1 x.size) (fun hm => by
    rcases h k hm with h3 | h3
    · exact h2 h3
    · omega)).trans (x.block k h1 h2)⟩
theorem Only.trans {l : List Nat} {a b c : World} (x : Only l a b) (y : Only l b c) : Only l a c := x.trans' y fun _ h => .inl h
theorem Only.of_below {l : List Nat} {w w' : World} (x : Below w.heap.size w w') : Only l w w' := ⟨x.os, x.tape, x.output, x.size, fun k hk _ => x.block k hk⟩
theorem Only.of_else {l : List Nat} {g h : Nat} {w w' : World} (x : Else g h w w') (hg : g ∈ l) (hh : h ∈ l) : Only l w w' :=
  ⟨x.os, x.tape, x.output, x.size, fun k hk hn => x.block k hk (fun e => hn (e ▸ hg)) (fun e => hn (e ▸ hh))⟩
theorem Only.of_grown {l : List Nat} {r : Option Nat} {w w' : World} (x : w.grownBy w' r) (hr : ∀ k, r = some k → k ∈ l) : Only l w w' :=
  ⟨x.os, x.tape, x.output, x.size, fun k hk hn => x.block k hk (fun e => hn (hr k e.symm))⟩
theorem Only.of_set {l : List Nat} {g j : Nat} {w : World} (hg : g ∈ l) (v : Value) : Only l w (w.setCell ⟨g, j, none⟩ v) :=
  ⟨rfl, rfl, rfl, by simp [World.setCell], fun k _ hn => set_other (fun (e : k = g) => hn (by rw [e]; exact hg)) v⟩
theorem Only.mono {l l' : List Nat} {w w' : World} (x : Only l w w') (h : ∀ k ∈ l, k ∈ l' ∨ w.heap.size ≤ k) : Only l' w w' := ((Only.refl l' w).trans' x h)
theorem Only.below {l : List Nat} {B : Nat} {w w' : World} (x : Only l w w') (h : ∀ k ∈ l, B ≤ k) (hB : B ≤ w.heap.size) : Below B w w' :=
  ⟨x.os, x.tape, x.output, x.size, fun k hk => x.block k (by omega) (fun hm => by have := h k hm; omega)⟩
theorem Only.at {l : List Nat} {w w' : World} (x : Only l w w') {k : Nat} {o : Obj} (h : w.heap[k]? = some o) (hn : k ∉ l) : w'.heap[k]? = some o := (x.block k (heap_lt h) hn).trans h
/-- A row of words of the program's own. -/
def vals (ws : List Nat) : List Value := ws.map fun x : Nat => Value.int .u64 (x : Int)
theorem vals_len (ws : List Nat) : (vals ws).length = ws.length := by simp [vals]
theorem vals_app (a b : List Nat) : vals (a ++ b) = vals a ++ vals b := by simp [vals]
theorem vals_one (ws : List Nat) : ∀ v ∈ vals ws, v.oneCell' = true := by
  intro v hv
  simp [vals] at hv
  obtain ⟨x, _, rfl⟩ := hv
  rfl
def WRw (w : World) (v : Value) (ws : List Nat) : Prop := w.ownsRow 0 35 1 v ws.length (vals ws)
theorem WRw.nil (w : World) : WRw w (.slice none 0 0) [] := ⟨rfl, .inl ⟨rfl, rfl⟩⟩
theorem WRw.cases {w : World} {v : Value} {ws : List Nat} (h : WRw w v ws) : (v = .slice none 0 0 ∧ ws = []) ∨ ∃ b cap cur, v = .slice (some ⟨b, 0, none⟩) ws.length cap ∧ w.heap[b]? = some (.cells cur 35 (0, 0)) ∧ ws.length ≤ cap ∧ cap ≤ maxLen ∧ cur.toList.take ws.length = vals ws := by
  rcases h.2 with ⟨h1, h2⟩ | ⟨b, cap, cur, h1, _, h3, h4, h5, h6, h7⟩
  · have : ws = [] := by simpa [vals] using h2
    exact .inl ⟨h1, this⟩
  · exact .inr ⟨b, cap, cur, h1, h3, h4, h5, by simpa using h7⟩
theorem WRw.lt {w : World} {v : Value} {ws : List Nat} (h : WRw w v ws) {k : Nat} (hk : v.ownBlock = some k) : k < w.heap.size := by
  rcases h.cases with ⟨rfl, _⟩ | ⟨b, cap, cur, rfl, hb, _⟩
  · cases hk
  · cases hk; exact heap_lt hb
theorem WRw.form {w : World} {v : Value} {ws : List Nat} (h : WRw w v ws) : ∃ a c, v = .slice a ws.length c := by
  rcases h.cases with ⟨rfl, rfl⟩ | ⟨b, cap, cur, rfl, _⟩
  · exact ⟨_, _, rfl⟩
  · exact ⟨_, _, rfl⟩
theorem WRw.stay {l : List Nat} {w w' : World} {v : Value} {ws : List Nat} (h : WRw w v ws) (x : Only l w w') (hn : ∀ k, v.ownBlock = some k → k ∉ l) : WRw w' v ws := by
  refine ⟨h.1, ?_⟩
  rcases h.2 with h1 | ⟨b, cap, cur, h1, h2, h3, h4⟩
  · exact .inl h1
  · exact .inr ⟨b, cap, cur, h1, h2, x.at h3 (hn b (by rw [h1]; rfl)), h4⟩
theorem WRw.row {w : World} {v : Value} {ws : List Nat} (h : WRw w v ws) (hw : ∀ x ∈ ws, x < 18446744073709551616) : ∃ a c, v = .slice a ws.length c ∧ Row64 w a ws.length (fun j => ws.getD j 0) := by
  have hB : ∀ j, ws.getD j 0 < 18446744073709551616 := fun j => by
    by_cases hj : j < ws.length
    · rw [List.getD_eq_getElem?_getD, List.getElem?_eq_getElem hj]; exact hw _ (List.getElem_mem _)
    · rw [List.getD_eq_getElem?_getD, List.getElem?_eq_none (by omega)]; decide
  rcases h.cases with ⟨rfl, rfl⟩ | ⟨b, cap, cur, rfl, hb, h1, h2, h3⟩
  · exact ⟨_, _, rfl, hB, fun h => absurd h (by simp)⟩
  · refine ⟨_, _, rfl, hB, fun _ => ⟨b, 0, rfl, heap_lt hb, fun j hj => ?_⟩⟩
    rw [cell_of hb, Nat.zero_add]
    have e : cur.toList[j]? = (vals ws)[j]? := by rw [← h3, List.getElem?_take, if_pos hj]
    rw [← Array.getElem?_toList, e]
    simp [vals, hj]

theorem info64' : ∃ i, Tryd.prog.info? 35 = some i ∧ i.size = 1 ∧ i.zero = some (.int .u64 0) ∧ i.bytes = 8 := by
  obtain ⟨i0, hi, hz0, hz1, hz2⟩ := info_parts info64
  exact ⟨i0, hi, hz1, hz0, hz2⟩
theorem one_news {w : World} {vb x : Nat} (hv : w.heap[vb]? = some (.cells #[.int .u64 (x : Int)] 35 (0, 0))) (j : Nat) (u : Value) (hu : (vals [x])[j]? = some u) : w.cell? ((⟨vb, 0, none⟩ : Addr).add j) = some u := by
  rw [Addr.add_lit, Nat.zero_add, cell_of hv]
  simpa [vals] using hu
/-- One word more. -/
theorem app_one {w : World} {vb x : Nat} {v : Value} {ws : List Nat} (hown : WRw w v ws) (hv : w.heap[vb]? = some (.cells #[.int .u64 (x : Int)] 35 (0, 0))) (few : ws.length ≤ 1048576) (ty : TypeId) :
    ∃ v' w', (Builtin.append_ #[33, 33] ty #[v, .slice (some ⟨vb, 0, none⟩) 1 1]).run Tryd.prog w = .ok v' w' ∧ WRw w' v' (ws ++ [x]) ∧ w.grownBy w' v.ownBlock ∧ (v'.ownBlock = v.ownBlock ∨ v'.ownBlock = some w.heap.size) := by
  obtain ⟨inf, hq, hsz, hz, hby⟩ := info64'
  obtain ⟨v', w', h1, h2, h3, _, h5⟩ := run_append_own_at (P := Tryd.prog) w 0 33 ty 35 inf _ 1 8 Tryd.underlying33 hq hz hsz hby rfl (by omega) v ws.length (vals ws) hown ⟨vb, 0, none⟩ 1 1 (vals [x]) rfl (one_news hv) (vals_one _) (by unfold maxLen; omega) (by omega) (Nat.zero_le _)
  refine ⟨v', w', h1, ?_, h3, h5⟩
  unfold WRw
  rw [vals_app, List.length_append]; exact h2

/-- The words of a row as a list. -/
def listOf (f : Nat → Nat) (n : Nat) : List Nat := (List.range n).map f
theorem listOf_len (f : Nat → Nat) (n : Nat) : (listOf f n).length = n := by simp [listOf]
theorem listOf_src {w : World} {ao : Option Addr} {n : Nat} {f : Nat → Nat} (h : Row64 w ao n f) (h0 : 0 < n) : ∃ ad, ao = some ad ∧ ∀ j v, (wordsOf (listOf f n)).toList[j]? = some v → w.cell? (ad.add j) = some v := by
  obtain ⟨b, off, e, _, hc⟩ := h.2 h0
  refine ⟨_, e, fun j v hv => ?_⟩
  have hj : j < n := by
    have := (List.getElem?_eq_some_iff.1 hv).1
    simpa [wordsOf, listOf] using this
  rw [Addr.add_lit, hc j hj, ← hv]
  simp [wordsOf, listOf, hj]
end Go.Proofs.YtkogeeaoppkhkaaDoor
