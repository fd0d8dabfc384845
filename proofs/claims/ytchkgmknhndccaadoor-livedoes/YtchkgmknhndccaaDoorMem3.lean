/-
  Contracts of a memory's New and Words.
-/
import Derived.Test.YtchkgmknhndccaaDoorMem2
import Derived.OwnWalk
import Derived.Laws.CopyOwn
namespace Go.Proofs.YtchkgmknhndccaaDoor
open Go.RowKit

theorem info64 : (Tryd.prog.info? 53).map (fun i => (i.zero, i.size, i.bytes)) = some (some (.int .u64 0), 1, 8) := by kernel_rfl
theorem infoInt : (Tryd.prog.info? 3).map (fun i => (i.zero, i.size, i.bytes)) = some (some (.int .i64 0), 1, 8) := by kernel_rfl

theorem made_words (n : Nat) : (madeCells (Value.int .u64 0).cells (n * 1)) = wordsOf (List.replicate n 0) := by
  apply Array.ext
  · simp [madeCells, wordsOf]
  · intro i h1 h2
    simp [madeCells, wordsOf, Value.cells, Nat.mod_one]
theorem made_words' (n : Nat) : (madeCells #[Value.int .u64 0] n) = wordsOf (List.replicate n 0) := by
  have := made_words n; rwa [Nat.mul_one] at this
theorem owned_all {w : World} {B g n : Nat} {e : TypeId} {a : Array Value} (h : w.ownsRow B e 1 (.slice (some ⟨g, 0, none⟩) n n) n a.toList) : w.heap[g]? = some (.cells a e (0, 0)) := by
  rcases h.2 with ⟨h', _⟩ | ⟨g', cap', cur, h', hb, hg, hnc, hcm, hcs, htake⟩
  · simp at h'
  · simp only [Value.slice.injEq, Option.some.injEq, Addr.mk.injEq, and_true, true_and] at h'
    obtain ⟨rfl, rfl⟩ := h'
    rw [List.take_of_length_le (by simp; omega)] at htake
    rw [hg]
    have : cur = a := by rw [← Array.toArray_toList (xs := cur), htake]
    rw [this]
theorem grown_below {w w' : World} {row : Option Nat} (h : w.grownBy w' row) (hr : row = none) : Below w.heap.size w w' :=
  (Below.refl _ w).grown h (Nat.le_refl _) (fun k e => by rw [hr] at e; cases e)

theorem heap_new (w : World) (o : Obj) : (w.alloc o).heap[w.heap.size]? = some o := by
  show (w.heap.push o)[w.heap.size]? = _
  rw [Array.getElem?_push, if_pos rfl]

/-- A new memory of so many words. -/
def MSt.fresh (n : Nat) : MSt := ⟨List.replicate n 0, 0, 0, 0, 0⟩
theorem MemAt.fresh {w w1 : World} {n : Nat} (hn : n ≤ 16777216) (ho : w1.ownsRow w.heap.size 53 1 (.slice (some ⟨w.heap.size, 0, none⟩) n n) n (madeCells (Value.int .u64 0).cells (n * 1)).toList) (hg : w.grownBy w1 none) :
    MemAt (w1.alloc (.cells #[.slice (some ⟨w.heap.size, 0, none⟩) n n, .int .i64 0, .int .i64 0, .int .i64 0, .int .i64 0] 84)) w1.heap.size w.heap.size (MSt.fresh n) ∧
    w.heap.size < w1.heap.size ∧ Below w.heap.size w (w1.alloc (.cells #[.slice (some ⟨w.heap.size, 0, none⟩) n n, .int .i64 0, .int .i64 0, .int .i64 0, .int .i64 0] 84)) := by
  have h := owned_all ho
  have hl := heap_lt h
  refine ⟨⟨?_, ?_, by omega, by simpa [MSt.fresh] using hn⟩, hl, (grown_below hg rfl).alloc hg.size _⟩
  · rw [heap_new]; simp [MSt.fresh]
  · rw [Below.heap_alloc _ _ _ hl, h, made_words]; rfl

theorem new_nat (N : Nat) (n : Int) (w : World) (h0 : (n < 0 ∧ N = 0) ∨ (n = N ∧ N ≤ 16777216) ∨ (16777216 < n ∧ N = 16777216)) :
    Calls Tryd.prog 12 #[.int .i64 n] w fun e w' => ∃ g h, e = .returned (.pointer (some ⟨g, 0, none⟩)) ∧ MemAt w' g h (MSt.fresh N) ∧ w.heap.size ≤ g ∧ w.heap.size ≤ h ∧ Below w.heap.size w w' := by
  have hN : N ≤ 16777216 := by omega
  obtain ⟨i0, hi, hz0, hz1, hz2⟩ := info_parts info64
  rcases h0 with ⟨h1, h2⟩ | ⟨h1, h2⟩ | ⟨h1, h2⟩
  · subst h2
    go_enter Tryd.func12, Tryd.ntmps12
    go_wp2_with (at_make; refine wpList_make_full _ rfl _ _ 80 rfl w.heap.size 53 i0 (.int .u64 0) 1 Tryd.underlying80 hi hz0 hz1 .i64 .i64 _ _ 0 rfl rfl (by omega) (by omega) (by rw [hz2]; omega) (by unfold maxLen; omega) (Nat.le_refl _) ?_; intro w1 ho hg)
    obtain ⟨M, hl, hb⟩ := MemAt.fresh hN ho hg
    go_ret
    exact ⟨_, _, rfl, M, Nat.le_of_lt hl, Nat.le_refl _, hb⟩
  · subst h1
    go_enter Tryd.func12, Tryd.ntmps12
    go_wp2_with (at_make; refine wpList_make_full _ rfl _ _ 80 rfl w.heap.size 53 i0 (.int .u64 0) 1 Tryd.underlying80 hi hz0 hz1 .i64 .i64 _ _ N rfl rfl (by omega) (by omega) (by rw [hz2]; omega) (by unfold maxLen; omega) (Nat.le_refl _) ?_; intro w1 ho hg)
    obtain ⟨M, hl, hb⟩ := MemAt.fresh hN ho hg
    go_ret
    exact ⟨_, _, rfl, M, Nat.le_of_lt hl, Nat.le_refl _, hb⟩
  · subst h2
    go_enter Tryd.func12, Tryd.ntmps12
    go_wp2_with (at_make; refine wpList_make_full _ rfl _ _ 80 rfl w.heap.size 53 i0 (.int .u64 0) 1 Tryd.underlying80 hi hz0 hz1 .i64 .i64 _ _ 16777216 rfl rfl (by omega) (by omega) (by rw [hz2]; omega) (by unfold maxLen; omega) (Nat.le_refl _) ?_; intro w1 ho hg)
    obtain ⟨M, hl, hb⟩ := MemAt.fresh hN ho hg
    go_ret
    exact ⟨_, _, rfl, M, Nat.le_of_lt hl, Nat.le_refl _, hb⟩

theorem size64 : (Tryd.prog.info? 53).map (·.size) = some 1 := by kernel_rfl
theorem splice_all {α : Type} {L cs : List α} (h : cs.length = L.length) : splice L 0 cs = cs := by
  simp [splice, h]
theorem words_src {w : World} {h : Nat} {ws : List Nat} (hb : w.heap[h]? = some (.cells (wordsOf ws) 53 (0, 0))) (j : Nat) (v : Value) (hv : (wordsOf ws).toList[j]? = some v) : w.cell? ((⟨h, 0, none⟩ : Addr).add j) = some v := by
  rw [Addr.add_lit, Nat.zero_add, cell_of hb]
  simpa using hv
theorem words_one (ws : List Nat) : ∀ v ∈ (wordsOf ws).toList, v.oneCell' = true := by
  intro v hv
  simp [wordsOf] at hv
  obtain ⟨x, _, rfl⟩ := hv
  rfl
theorem words_len (ws : List Nat) : (wordsOf ws).toList.length = ws.length := by simp [wordsOf]

theorem words_any (g h : Nat) (s : MSt) (w : World) (m : MemAt w g h s) :
    Calls Tryd.prog 88 #[.pointer (some ⟨g, 0, none⟩)] w fun e w' => ∃ b, e = .returned (.slice (some ⟨b, 0, none⟩) s.ws.length s.ws.length) ∧ w'.heap[b]? = some (.cells (wordsOf s.ws) 53 (0, 0)) ∧ w.heap.size ≤ b ∧ Below w.heap.size w w' := by
  obtain ⟨i0, hi, hz0, hz1, hz2⟩ := info_parts info64
  have hN := m.len
  go_enter Tryd.func88, Tryd.ntmps88
  go_wp2_with fail
  refine (len_any g h s _ m).mono ?_
  rintro e w' ⟨rfl, rfl⟩
  have hL : Hid ((wordsOf s.ws).toList.length = s.ws.length) := words_len s.ws
  generalize hn : s.ws.length = n at *
  go_wp2_with (at_make; refine wpList_make_full _ rfl _ _ 80 rfl w.heap.size 53 i0 (.int .u64 0) 1 Tryd.underlying80 hi hz0 hz1 .i64 .i64 _ _ n rfl rfl (by omega) (by omega) (by rw [hz2]; omega) (by unfold maxLen; omega) (Nat.le_refl _) ?_)
  intro w1 ho hg
  have hb1 := grown_below hg rfl
  have m1 := m.next hb1
  have hz : w1.heap[w.heap.size]? = some (.cells (wordsOf (List.replicate n 0)).toList.toArray 53 (0, 0)) := by rw [owned_all ho, made_words']
  have c0 := m1.c0
  have HB := Lib.hid hb1
  have HM := Lib.hid m1.body
  have HZ := Lib.hid hz
  rw [hn] at c0
  have HN := Lib.hid hn
  clear ho hg hz hb1 m1 m hn
  go_wp2_with (with_reducible refine wpList_copy_splice rfl (.tmp 9) (.tmp 13) 80 80 rfl 53 Tryd.underlying80 size64 _ _ _ _ _ _ rfl rfl w.heap.size 0 _ 53 HZ.out (wordsOf s.ws).toList (by rw [hL.out]; simp) (fun _ => ⟨rfl, _, rfl, words_src HM.out⟩) (by rw [hL.out, words_len]; simp) (words_one s.ws) w.heap.size w HB.out (Nat.le_refl _) ?_)
  intro w2 HG2 hB2
  have HW : Hid (w2.heap[w.heap.size]? = some (.cells (wordsOf s.ws) 53 (0, 0))) := by
    show w2.heap[w.heap.size]? = _
    rw [HG2.out, splice_all (by rw [hL.out, words_len]; simp)]
  have HB2 := Lib.hid hB2
  clear hB2 HG2
  go_wp2
  go_ret
  exact ⟨w.heap.size, by rw [HN.out]; rfl, HW.out, Nat.le_refl _, HB2.out⟩

end Go.Proofs.YtchkgmknhndccaaDoor
