/-
  The example of layer 5's statements; a system that the walks of layer 5 carry along.
-/
import Derived.Test.YtkogeeaoppkhkaaDoorArena5
namespace Go.Proofs.YtkogeeaoppkhkaaDoor
open Go.RowKit

def fS : Nat → Int := fun j => if j = 0 then 16 else 64
theorem fS_ok : ClsOk 2 fS := by
  refine ⟨?_, ?_, ?_, ?_⟩
  · intro i hi; unfold fS; split <;> decide
  · intro i hi; unfold fS; split <;> decide
  · intro i hi; unfold fS; split <;> decide
  · intro i j h1 h2; obtain ⟨rfl, rfl⟩ : i = 0 ∧ j = 1 := by omega
    decide
theorem row_S {w : World} {b : Nat} (h : w.heap[b]? = some (.cells #[.int .i64 16, .int .i64 64] 3 (0, 0))) : RowI w (some ⟨b, 0, none⟩) 2 fS := fun _ => by
  refine ⟨b, 0, rfl, (Array.getElem?_eq_some_iff.1 h).1, fun j hj => ?_⟩
  rcases (by omega : j = 0 ∨ j = 1) with rfl | rfl
  · simp [World.cell?, h]; rfl
  · simp [World.cell?, h]; rfl
section
variable (b : Nat) (w : World) (hr : RowI w (some ⟨b, 0, none⟩) 2 fS)
include hr
theorem s5_address : Calls Tryd.prog 63 #[.agg #[.int .i64 1, .int .i64 2, .int .i64 1, .int .i64 0, .slice (some ⟨b, 0, none⟩) 2 2], .int .i64 1, .agg #[.int .i64 1, .int .i64 2]] w fun e w' => e = .returned (.int .i64 66688) ∧ Below w.heap.size w w' := by
  have := address_any 1 2 1 0 _ 2 2 fS 1 1 2 w hr fS_ok (by decide) (by decide)
  rw [show adrI 2 2 fS 1 1 2 = 66688 from by decide] at this
  exact this
end
/-- A system in its box, its classes, and what lay there before. -/
structure Ar (w0 w : World) (N : Nat) (W S B T : Int) (ad : Option Addr) (len cap : Nat) (f : Nat → Int) : Prop where
  c : Cfg5 w N W S B T (.slice ad len cap)
  r : RowI w ad len f
  b : Below N w0 w
theorem Ar.next {w0 w w' : World} {N : Nat} {W S B T : Int} {ad : Option Addr} {len cap : Nat} {f : Nat → Int} (h : Ar w0 w N W S B T ad len cap f) (hb : Below w.heap.size w w') : Ar w0 w' N W S B T ad len cap f :=
  ⟨cfg_next h.c hb, h.r.next hb, h.b.trans (hb.mono (Nat.le_of_lt (cfg_lt h.c)))⟩
theorem Ar.drew {w0 w : World} {N : Nat} {W S B T : Int} {ad : Option Addr} {len cap : Nat} {f : Nat → Int} (h : Ar w0 w N W S B T ad len cap f) : Ar w0 w.drew N W S B T ad len cap f := ⟨h.c, h.r, h.b.drew⟩
theorem Ar.start {w : World} {W S B T : Int} {ad : Option Addr} {len cap : Nat} {f : Nat → Int} (h : RowI w ad len f) : Ar w (w.alloc (.cells #[.int .i64 W, .int .i64 S, .int .i64 B, .int .i64 T, .slice ad len cap] 24)) w.heap.size W S B T ad len cap f :=
  ⟨cfg_new w W S B T _, h.next (below_alloc _ _), below_alloc _ _⟩
theorem Ar.lt {w0 w : World} {N : Nat} {W S B T : Int} {ad : Option Addr} {len cap : Nat} {f : Nat → Int} (h : Ar w0 w N W S B T ad len cap f) : N < w.heap.size := cfg_lt h.c

end Go.Proofs.YtkogeeaoppkhkaaDoor
