/-
  Contract of the statements' own 'do' of layer 3: an access to a memory and to the document's.
-/
import Derived.Test.YtnjgajkcoahefaaMemR2
import Derived.StillTailTactics
import Derived.BigQuiet
namespace Go.Proofs.Ytnjgajkcoahefaa
open Go.RowKit

theorem Else.setO {g h b j : Nat} {a w : World} (x : Else g h a w) (hb : a.heap.size ≤ b) (v : Value) : Else g h a (w.setCell ⟨b, j, none⟩ v) :=
  ⟨x.os, x.tape, x.output, by have := x.size; simpa [World.setCell] using this, fun k h1 h2 h3 => (set_other (by omega) v).trans (x.block k h1 h2 h3)⟩
theorem Else.set3 {g h b : Nat} {a w : World} (e : Else g h a w) (hb : a.heap.size ≤ b) (x y z : Value) : Else g h a (((w.setCell ⟨b, 0, none⟩ x).setCell ⟨b, 1, none⟩ y).setCell ⟨b, 2, none⟩ z) := ((e.setO hb _).setO hb _).setO hb _
theorem MemAt.set3 {w : World} {g h b : Nat} {s : MSt} (m : MemAt w g h s) (h1 : g ≠ b) (h2 : h ≠ b) (x y z : Value) : MemAt (((w.setCell ⟨b, 0, none⟩ x).setCell ⟨b, 1, none⟩ y).setCell ⟨b, 2, none⟩ z) g h s := ((m.aside h1 h2 _).aside h1 h2 _).aside h1 h2 _
theorem Else.row {w w' : World} {g h b n cap : Nat} {ws : List Nat} (x : Else g h w w') (hn : n = ws.length) (hr : WRow w (.slice (some ⟨b, 0, none⟩) n cap) ws) (h1 : b ≠ g) (h2 : b ≠ h) : WRow w' (.slice (some ⟨b, 0, none⟩) n cap) ws := by
  refine hr.far hn ?_
  subst hn
  obtain ⟨cur, hg, _⟩ := own_block hr
  exact x.block b (heap_lt hg) h1 h2

/-- The state of a call of 'do': its arguments' cells, its result's, and the memory. -/
structure DoB (w00 w : World) (N g h : Nat) (s : MSt) (b n cap : Nat) (rws : List Nat) (o f : Int) (k a : Int) (x old : Nat) : Prop where
  ref : Blk3 w N 28 (.slice (some ⟨b, 0, none⟩) n cap) (.int .i64 o) (.int .i64 f)
  op : w.heap[N + 1]? = some (.cells #[.int .i64 k, .int .i64 a, .int .u64 (x : Int), .int .u64 (old : Int)] 32 (0, 0))
  res : Blk3 w (N + 2) 28 (.slice none 0 0) (.int .i64 0) (.int .i64 0)
  mem : MemAt w g h s
  row : WRow w (.slice (some ⟨b, 0, none⟩) n cap) rws
  len : n = rws.length
  els : Else g h w00 w
  sz : w00.heap.size = N
  gl : g < N
  hl : h < N
  bg : b ≠ g
  bh : b ≠ h
theorem DoB.next {w00 w w' : World} {N g h : Nat} {s s' : MSt} {b n cap : Nat} {rws : List Nat} {o f : Int} {k a : Int} {x old : Nat} (d : DoB w00 w N g h s b n cap rws o f k a x old) (e : Else g h w w') (m : MemAt w' g h s') : DoB w00 w' N g h s' b n cap rws o f k a x old :=
  ⟨(e.block N d.ref.lt (by have := d.gl; omega) (by have := d.hl; omega)).trans d.ref, (e.block (N + 1) (heap_lt d.op) (by have := d.gl; omega) (by have := d.hl; omega)).trans d.op, (e.block (N + 2) d.res.lt (by have := d.gl; omega) (by have := d.hl; omega)).trans d.res,
   m, e.row d.len d.row d.bg d.bh, d.len, d.els.trans e, d.sz, d.gl, d.hl, d.bg, d.bh⟩
theorem DoB.ops {w00 w : World} {N g h : Nat} {s : MSt} {b n cap : Nat} {rws : List Nat} {o f : Int} {k a : Int} {x old : Nat} (d : DoB w00 w N g h s b n cap rws o f k a x old) :
    w.cell? ⟨N + 1, 0, none⟩ = some (.int .i64 k) ∧ w.cell? ⟨N + 1, 1, none⟩ = some (.int .i64 a) ∧ w.cell? ⟨N + 1, 2, none⟩ = some (.int .u64 (x : Int)) ∧ w.cell? ⟨N + 1, 3, none⟩ = some (.int .u64 (old : Int)) :=
  ⟨cell_of d.op, cell_of d.op, cell_of d.op, cell_of d.op⟩
/-- Behind 'w, y, ok := Do(..)': other words, of its own. -/
theorem DoB.swap {w00 w : World} {N g h : Nat} {s : MSt} {b n cap b' n' cap' : Nat} {rws rws' : List Nat} {o f o' f' : Int} {k a : Int} {x old : Nat} (d : DoB w00 w N g h s b n cap rws o f k a x old) (hr : WRow w (.slice (some ⟨b', 0, none⟩) n' cap') rws') (hn : n' = rws'.length) (hb : b' ≠ N) (hg : b' ≠ g) (hh : b' ≠ h) :
    DoB w00 (((w.setCell ⟨N, 0, none⟩ (.slice (some ⟨b', 0, none⟩) n' cap')).setCell ⟨N, 1, none⟩ (.int .i64 o')).setCell ⟨N, 2, none⟩ (.int .i64 f')) N g h s b' n' cap' rws' o' f' k a x old :=
  ⟨d.ref.set _ _ _, (set3_other (by omega) _ _ _).trans d.op, (set3_other (by omega) _ _ _).trans d.res, d.mem.set3 (by have := d.gl; omega) (by have := d.hl; omega) _ _ _, hr.far hn (set3_other hb _ _ _), hn, d.els.set3 (by rw [d.sz]; exact Nat.le_refl _) _ _ _, d.sz, d.gl, d.hl, hg, hh⟩
/-- Behind the return. -/
theorem DoB.done {w00 w : World} {N g h : Nat} {s : MSt} {b n cap : Nat} {rws : List Nat} {o f : Int} {k a : Int} {x old : Nat} (d : DoB w00 w N g h s b n cap rws o f k a x old) (hb : b ≠ N + 2) :
    Blk3 (((w.setCell ⟨N + 2, 0, none⟩ (.slice (some ⟨b, 0, none⟩) n cap)).setCell ⟨N + 2, 1, none⟩ (.int .i64 o)).setCell ⟨N + 2, 2, none⟩ (.int .i64 f)) (N + 2) 28 (.slice (some ⟨b, 0, none⟩) n cap) (.int .i64 o) (.int .i64 f) ∧
    MemAt (((w.setCell ⟨N + 2, 0, none⟩ (.slice (some ⟨b, 0, none⟩) n cap)).setCell ⟨N + 2, 1, none⟩ (.int .i64 o)).setCell ⟨N + 2, 2, none⟩ (.int .i64 f)) g h s ∧
    WRow (((w.setCell ⟨N + 2, 0, none⟩ (.slice (some ⟨b, 0, none⟩) n cap)).setCell ⟨N + 2, 1, none⟩ (.int .i64 o)).setCell ⟨N + 2, 2, none⟩ (.int .i64 f)) (.slice (some ⟨b, 0, none⟩) n cap) rws ∧
    Else g h w00 (((w.setCell ⟨N + 2, 0, none⟩ (.slice (some ⟨b, 0, none⟩) n cap)).setCell ⟨N + 2, 1, none⟩ (.int .i64 o)).setCell ⟨N + 2, 2, none⟩ (.int .i64 f)) :=
  ⟨d.res.set _ _ _, d.mem.set3 (by have := d.gl; omega) (by have := d.hl; omega) _ _ _, d.row.far d.len (set3_other hb _ _ _), d.els.set3 (by rw [d.sz]; omega) _ _ _⟩
theorem DoB.start {w : World} {N g h : Nat} {s : MSt} {b n cap : Nat} {rws : List Nat} {o f : Int} (k a : Int) (x old : Nat) (m : MemAt w g h s) (hr : WRow w (.slice (some ⟨b, 0, none⟩) n cap) rws) (hn : n = rws.length) (hbg : b ≠ g) (hbh : b ≠ h) (hN : w.heap.size = N) :
    DoB w (((w.alloc (.cells #[.slice (some ⟨b, 0, none⟩) n cap, .int .i64 o, .int .i64 f] 28)).alloc (.cells #[.int .i64 k, .int .i64 a, .int .u64 (x : Int), .int .u64 (old : Int)] 32)).alloc (.cells #[.slice none 0 0, .int .i64 0, .int .i64 0] 28)) N g h s b n cap rws o f k a x old := by
  subst hN
  have b1 := (Below.refl w.heap.size w).alloc (Nat.le_refl _) (.cells #[.slice (some ⟨b, 0, none⟩) n cap, .int .i64 o, .int .i64 f] 28)
  have b2 := b1.alloc (by simp <;> omega) (.cells #[.int .i64 k, .int .i64 a, .int .u64 (x : Int), .int .u64 (old : Int)] 32)
  have b3 := b2.alloc (by simp <;> omega) (.cells #[.slice none 0 0, .int .i64 0, .int .i64 0] 28)
  refine ⟨?_, ?_, ?_, m.next b3, hr.next b3, hn, Else.of_below b3, rfl, m.lt.1, m.lt.2, hbg, hbh⟩
  · unfold Blk3
    rw [Below.heap_alloc _ _ _ (by simp; omega), Below.heap_alloc _ _ _ (by simp)]
    exact heap_new _ _
  · rw [Below.heap_alloc _ _ _ (by simp)]
    have := heap_new (w.alloc (.cells #[.slice (some ⟨b, 0, none⟩) n cap, .int .i64 o, .int .i64 f] 28)) (.cells #[.int .i64 k, .int .i64 a, .int .u64 (x : Int), .int .u64 (old : Int)] 32)
    rwa [show (w.alloc (.cells #[.slice (some ⟨b, 0, none⟩) n cap, .int .i64 o, .int .i64 f] 28)).heap.size = w.heap.size + 1 from by simp] at this
  · have := Blk3.new ((w.alloc (.cells #[.slice (some ⟨b, 0, none⟩) n cap, .int .i64 o, .int .i64 f] 28)).alloc (.cells #[.int .i64 k, .int .i64 a, .int .u64 (x : Int), .int .u64 (old : Int)] 32)) 28 (.slice none 0 0) (.int .i64 0) (.int .i64 0)
    rwa [show ((w.alloc (.cells #[.slice (some ⟨b, 0, none⟩) n cap, .int .i64 o, .int .i64 f] 28)).alloc (.cells #[.int .i64 k, .int .i64 a, .int .u64 (x : Int), .int .u64 (old : Int)] 32)).heap.size = w.heap.size + 2 from by simp] at this

end Go.Proofs.Ytnjgajkcoahefaa
