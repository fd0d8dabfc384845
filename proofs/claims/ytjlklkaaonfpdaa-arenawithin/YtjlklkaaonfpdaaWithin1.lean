/-
  What the walk of ArenaWithin holds: a system and two bytes, each in its box.
-/
import Derived.Test.YtjlklkaaonfpdaaQuiet5
import Derived.Test.YtjlklkaaonfpdaaMask1
namespace Go.Proofs.Ytjlklkaaonfpdaa
open Go.RowKit Go.Sort

/-- Two bytes in a block. -/
def Duo8 (w : World) (N : Nat) (a b : Nat) : Prop := w.heap[N]? = some (.cells #[.int .u8 a, .int .u8 b] 45 (0, 0))
theorem Duo8.lt {w : World} {N : Nat} {a b : Nat} (h : Duo8 w N a b) : N < w.heap.size := (Array.getElem?_eq_some_iff.1 h).1
theorem Duo8.next {w w' : World} {N : Nat} {a b : Nat} (h : Duo8 w N a b) (hb : Below w.heap.size w w') : Duo8 w' N a b := (hb.block N h.lt).trans h
theorem Duo8.new (w : World) (a b : Nat) : Duo8 (w.alloc (.cells #[.int .u8 a, .int .u8 b] 45)) w.heap.size a b := by
  show (w.heap.push _)[w.heap.size]? = _
  rw [Array.getElem?_push, if_pos rfl]
theorem Duo8.cells {w : World} {N : Nat} {a b : Nat} (h : Duo8 w N a b) : w.cell? ⟨N, 0, none⟩ = some (.int .u8 a) ∧ w.cell? ⟨N, 1, none⟩ = some (.int .u8 b) := by
  unfold Duo8 at h
  refine ⟨?_, ?_⟩ <;> simp [World.cell?, h]

/-- A system and two bytes, each in its box. -/
structure Wi (w0 w : World) (N M : Nat) (W S B T : Int) (ad : Option Addr) (len cap : Nat) (f : Nat → Int) (o0 o1 : Nat) : Prop where
  c : Cfg5 w N W S B T (.slice ad len cap)
  o : Duo8 w M o0 o1
  r : RowI w ad len f
  b : Below w0.heap.size w0 w
theorem Wi.next {w0 w w' : World} {N M : Nat} {W S B T : Int} {ad : Option Addr} {len cap : Nat} {f : Nat → Int} {o0 o1 : Nat} (h : Wi w0 w N M W S B T ad len cap f o0 o1) (hb : Below w.heap.size w w') : Wi w0 w' N M W S B T ad len cap f o0 o1 :=
  ⟨cfg_next h.c hb, h.o.next hb, h.r.next hb, below_after h.b hb⟩
theorem Wi.grown {w0 w : World} {N M : Nat} {W S B T : Int} {ad : Option Addr} {len cap : Nat} {f : Nat → Int} {o0 o1 : Nat} (h : Wi w0 w N M W S B T ad len cap f o0 o1) (d : Nat) (os : Array Obj) : Wi w0 (grow (redrawn w d) os) N M W S B T ad len cap f o0 o1 := h.next (below_regrown w d os)
theorem Wi.drew {w0 w : World} {N M : Nat} {W S B T : Int} {ad : Option Addr} {len cap : Nat} {f : Nat → Int} {o0 o1 : Nat} (h : Wi w0 w N M W S B T ad len cap f o0 o1) : Wi w0 w.drew N M W S B T ad len cap f o0 o1 := ⟨h.c, h.o, h.r, h.b.drew⟩
theorem Wi.new1 {w0 w : World} {W S B T : Int} {ad : Option Addr} {len cap : Nat} {f : Nat → Int} {o0 o1 : Nat} (r : RowI w ad len f) (b : Below w0.heap.size w0 w) (p q : Nat) (hp : w.heap.size = p) (hq : w.heap.size + 1 = q) :
    Wi w0 ((w.alloc (.cells #[.int .i64 W, .int .i64 S, .int .i64 B, .int .i64 T, .slice ad len cap] 24)).alloc (.cells #[.int .u8 o0, .int .u8 o1] 45)).drew p q W S B T ad len cap f o0 o1 := by
  subst hp hq
  have b1 := below_alloc w (.cells #[.int .i64 W, .int .i64 S, .int .i64 B, .int .i64 T, .slice ad len cap] 24)
  have b2 := below_alloc (w.alloc (.cells #[.int .i64 W, .int .i64 S, .int .i64 B, .int .i64 T, .slice ad len cap] 24)) (.cells #[.int .u8 o0, .int .u8 o1] 45)
  have o := Duo8.new (w.alloc (.cells #[.int .i64 W, .int .i64 S, .int .i64 B, .int .i64 T, .slice ad len cap] 24)) o0 o1
  rw [show (w.alloc (.cells #[.int .i64 W, .int .i64 S, .int .i64 B, .int .i64 T, .slice ad len cap] 24)).heap.size = w.heap.size + 1 from by simp] at o
  exact Wi.drew ⟨cfg_next (cfg_new w W S B T _) b2, o, (r.next b1).next b2, below_after (below_after b b1) b2⟩
theorem Wi.new2 {w0 w : World} {W S B T : Int} {ad : Option Addr} {len cap : Nat} {f : Nat → Int} {o0 o1 : Nat} (r : RowI w ad len f) (b : Below w0.heap.size w0 w) (p q : Nat) (hq : w.heap.size = q) (hp : w.heap.size + 1 = p) :
    Wi w0 ((w.alloc (.cells #[.int .u8 o0, .int .u8 o1] 45)).alloc (.cells #[.int .i64 W, .int .i64 S, .int .i64 B, .int .i64 T, .slice ad len cap] 24)).drew p q W S B T ad len cap f o0 o1 := by
  subst hp hq
  have b1 := below_alloc w (.cells #[.int .u8 o0, .int .u8 o1] 45)
  have b2 := below_alloc (w.alloc (.cells #[.int .u8 o0, .int .u8 o1] 45)) (.cells #[.int .i64 W, .int .i64 S, .int .i64 B, .int .i64 T, .slice ad len cap] 24)
  have c := cfg_new (w.alloc (.cells #[.int .u8 o0, .int .u8 o1] 45)) W S B T (.slice ad len cap)
  rw [show (w.alloc (.cells #[.int .u8 o0, .int .u8 o1] 45)).heap.size = w.heap.size + 1 from by simp] at c
  exact Wi.drew ⟨c, (Duo8.new w o0 o1).next b2, (r.next b1).next b2, below_after (below_after b b1) b2⟩

end Go.Proofs.Ytjlklkaaonfpdaa
