/-
  What stands in the memory while the statements ask one thing of both: the Heart's, the system's and the Ask's boxes, two answers, the words and the document's row.
-/
import Derived.Test.YtkogeeaoppkhkaaDoorHeartU
import Derived.Test.YtkogeeaoppkhkaaDoorHeartI
import Derived.Test.YtkogeeaoppkhkaaDoorHeart10
namespace Go.Proofs.YtkogeeaoppkhkaaDoor
open Go.RowKit Go.Sort Go.Shelf

def AkBox (w : World) (N : Nat) (k n : Int) (m a d : Nat) : Prop := w.heap[N]? = some (.cells #[.int .i64 k, .int .i64 n, .int .u64 (m : Nat), .int .u64 (a : Nat), .int .u64 (d : Nat)] 39 (0, 0))
section
variable {w w' : World} {N : Nat} {k n : Int} {m a d : Nat}
theorem AkBox.c0 (h : AkBox w N k n m a d) : w.cell? ⟨N, 0, none⟩ = some (.int .i64 k) := by rw [cell_of h]; rfl
theorem AkBox.c1 (h : AkBox w N k n m a d) : w.cell? ⟨N, 1, none⟩ = some (.int .i64 n) := by rw [cell_of h]; rfl
theorem AkBox.c2 (h : AkBox w N k n m a d) : w.cell? ⟨N, 2, none⟩ = some (.int .u64 (m : Nat)) := by rw [cell_of h]; rfl
theorem AkBox.c3 (h : AkBox w N k n m a d) : w.cell? ⟨N, 3, none⟩ = some (.int .u64 (a : Nat)) := by rw [cell_of h]; rfl
theorem AkBox.c4 (h : AkBox w N k n m a d) : w.cell? ⟨N, 4, none⟩ = some (.int .u64 (d : Nat)) := by rw [cell_of h]; rfl
theorem AkBox.next (h : AkBox w N k n m a d) (hb : Below w.heap.size w w') : AkBox w' N k n m a d := (hb.block N (heap_lt h)).trans h
end
theorem RS.aside {w w' : World} {v : Value} {l : List Sb} {N : Nat} {cur : Array Value} {t : TypeId} (h : RS w v l) (hb : w.heap[N]? = some (.cells cur t (0, 0))) (ht : t ≠ 99) (x : Only [N] w w') : RS w' v l := by
  refine ORow.stay h x (fun b e m => ?_)
  simp at m
  subst m
  rcases ORow.cases h with ⟨h1, _⟩ | ⟨b', cap, cur', h1, h2, _⟩
  · subst h1; simp [Value.ownBlock] at e
  · subst h1
    simp [Value.ownBlock] at e
    subst e
    have e2 := Option.some.inj (h2.symm.trans hb)
    simp at e2
    exact ht e2.2.symm
structure Dq (w0 w : World) (P b cb : Nat) (W T : Int) (S B len cap : Nat) (ad : Option Addr) (k n : Int) (m a d : Nat) (l : List Sb) (v : Value) (lv : List Sb) (A1 D1 A2 D2 : Nat) : Prop where
  hb : HBox w P W (S : Nat) (B : Nat) T (.slice (some ⟨cb, 0, none⟩) len len)
  cf : Cfg5 w (P + 1) W (S : Nat) (B : Nat) T (.slice ad len cap)
  ak : AkBox w (P + 2) k n m a d
  o1 : OpBox w (P + 3) A1 D1
  o2 : OpBox w (P + 4) A2 D2
  hw : HW w b l []
  rs : RS w v lv
  fl : FldAt w
  on : Only [b] w0 w
  lo : 3 ≤ b ∧ b < P ∧ P = w0.heap.size
section
variable {w0 w w' : World} {P b cb : Nat} {W T : Int} {S B len cap : Nat} {ad : Option Addr} {k n : Int} {m a d : Nat} {l l' : List Sb} {v : Value} {lv : List Sb} {A1 D1 A2 D2 : Nat}
theorem Dq.next (h : Dq w0 w P b cb W T S B len cap ad k n m a d l v lv A1 D1 A2 D2) (x : Below w.heap.size w w') : Dq w0 w' P b cb W T S B len cap ad k n m a d l v lv A1 D1 A2 D2 :=
  ⟨h.hb.next x, cfg_next h.cf x, h.ak.next x, h.o1.next x, h.o2.next x, h.hw.next x, h.rs.next x, h.fl.next x, h.on.trans (Only.of_below x), h.lo⟩
theorem Dq.app (h : Dq w0 w P b cb W T S B len cap ad k n m a d l v lv A1 D1 A2 D2) (hw : HW w' b l' []) (x : Only [b] w w') : Dq w0 w' P b cb W T S B len cap ad k n m a d l' v lv A1 D1 A2 D2 := by
  obtain ⟨h1, h2, h3⟩ := h.lo
  exact ⟨x.at h.hb (by simp; omega), x.at h.cf (by simp; omega), x.at h.ak (by simp; omega), x.at h.o1 (by simp; omega), x.at h.o2 (by simp; omega), hw, h.rs.aside h.hw.at_ (by decide) x, h.fl.stay x (by simp; omega), h.on.trans x, h.lo⟩
theorem Dq.row (h : Dq w0 w P b cb W T S B len cap ad k n m a d l v lv A1 D1 A2 D2) {v' : Value} {lv' : List Sb} (hr : RS w v' lv') : Dq w0 w P b cb W T S B len cap ad k n m a d l v' lv' A1 D1 A2 D2 := ⟨h.hb, h.cf, h.ak, h.o1, h.o2, h.hw, hr, h.fl, h.on, h.lo⟩
theorem Dq.set1 (h : Dq w0 w P b cb W T S B len cap ad k n m a d l v lv A1 D1 A2 D2) (C E : Nat) : Dq w0 ((w.setCell ⟨P + 3, 0, none⟩ (.int .u64 (C : Nat))).setCell ⟨P + 3, 1, none⟩ (.int .u64 (E : Nat))) P b cb W T S B len cap ad k n m a d l v lv C E A2 D2 := by
  obtain ⟨h1, h2, h3⟩ := h.lo
  have x := only_op (w := w) (n := P + 3) (.int .u64 (C : Nat)) (.int .u64 (E : Nat))
  exact ⟨x.at h.hb (by simp), x.at h.cf (by simp), x.at h.ak (by simp), h.o1.set C E, x.at h.o2 (by simp), h.hw.stay x (by simp; omega), h.rs.op h.o1 x, h.fl.stay x (by simp), h.on.trans' x (by simp; omega), h.lo⟩
theorem Dq.set2 (h : Dq w0 w P b cb W T S B len cap ad k n m a d l v lv A1 D1 A2 D2) (C E : Nat) : Dq w0 ((w.setCell ⟨P + 4, 0, none⟩ (.int .u64 (C : Nat))).setCell ⟨P + 4, 1, none⟩ (.int .u64 (E : Nat))) P b cb W T S B len cap ad k n m a d l v lv A1 D1 C E := by
  obtain ⟨h1, h2, h3⟩ := h.lo
  have x := only_op (w := w) (n := P + 4) (.int .u64 (C : Nat)) (.int .u64 (E : Nat))
  exact ⟨x.at h.hb (by simp), x.at h.cf (by simp), x.at h.ak (by simp), x.at h.o1 (by simp), h.o2.set C E, h.hw.stay x (by simp; omega), h.rs.op h.o2 x, h.fl.stay x (by simp), h.on.trans' x (by simp; omega), h.lo⟩
end
/-- The boxes that 'do' begins with. -/
theorem dq_start {w : World} {b cb : Nat} {W T : Int} {S B len cap : Nat} {ad : Option Addr} {k n : Int} {m a d : Nat} {l lv : List Sb} {v : Value} (hw : HW w b l []) (rs : RS w v lv) (fl : FldAt w) (h3 : 3 ≤ b) :
    Dq w (((((w.alloc (.cells #[.int .i64 W, .int .i64 (S : Nat), .int .i64 (B : Nat), .int .i64 T, .slice (some ⟨cb, 0, none⟩) len len] 29)).alloc (.cells #[.int .i64 W, .int .i64 (S : Nat), .int .i64 (B : Nat), .int .i64 T, .slice ad len cap] 24)).alloc (.cells #[.int .i64 k, .int .i64 n, .int .u64 (m : Nat), .int .u64 (a : Nat), .int .u64 (d : Nat)] 39)).alloc (.cells #[.int .u64 0, .int .u64 0] 37)).alloc (.cells #[.int .u64 0, .int .u64 0] 37)) w.heap.size b cb W T S B len cap ad k n m a d l v lv 0 0 0 0 := by
  generalize ho1 : (Obj.cells #[.int .i64 W, .int .i64 (S : Nat), .int .i64 (B : Nat), .int .i64 T, .slice (some ⟨cb, 0, none⟩) len len] 29 (0, 0)) = x1
  generalize ho2 : (Obj.cells #[.int .i64 W, .int .i64 (S : Nat), .int .i64 (B : Nat), .int .i64 T, .slice ad len cap] 24 (0, 0)) = x2
  generalize ho3 : (Obj.cells #[.int .i64 k, .int .i64 n, .int .u64 (m : Nat), .int .u64 (a : Nat), .int .u64 (d : Nat)] 39 (0, 0)) = x3
  obtain ⟨p1, p2, p3, p4, p5⟩ := three_fresh w x1 x2 x3
  generalize hy : ((w.alloc x1).alloc x2).alloc x3 = y at *
  obtain ⟨q1, q2, q3, q4⟩ := two_fresh y (.cells #[.int .u64 0, .int .u64 0] 37) (.cells #[.int .u64 0, .int .u64 0] 37)
  have hsz : y.heap.size = w.heap.size + 3 := by rw [← hy]; simp
  rw [hsz] at q1 q2
  have hB : Below w.heap.size w ((y.alloc (.cells #[.int .u64 0, .int .u64 0] 37)).alloc (.cells #[.int .u64 0, .int .u64 0] 37)) := p4.trans (q3.mono (by omega))
  subst ho1 ho2 ho3
  exact ⟨(q3.block _ (by omega)).trans p1, (q3.block _ (by omega)).trans p2, (q3.block _ (by omega)).trans p3, q1, q2, hw.next hB, rs.next hB, fl.next hB, Only.of_below hB, h3, hw.lt, rfl⟩
end Go.Proofs.YtkogeeaoppkhkaaDoor
