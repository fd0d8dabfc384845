/-
  The example of layer 5's statements; a system that the walks of layer 5 carry along.
-/
import Derived.Test.YtjlklkaaonfpdaaArena5
namespace Go.Proofs.Ytjlklkaaonfpdaa
open Go.RowKit

def fS : Nat → Int := fun j => if j = 0 then 16 else 64
theorem fS_ok : ClsOk 2 fS := by
  refine ⟨?_, ?_, ?_, ?_⟩
  · intro i hi; unfold fS; split <;> decide
  · intro i hi; unfold fS; split <;> decide
  · intro i hi; unfold fS; split <;> decide
  · intro i j h1 h2; obtain ⟨rfl, rfl⟩ : i = 0 ∧ j = 1 := by omega
    decide
theorem row_S {w : World} {b : Nat} (h : w.heap[b]? = some (.cells #[.int .i64 16, .int .i64 64] 3 (0, 0))) : RowI w (some ⟨b, 0, none⟩) 2 fS := fun _ => by
  refine ⟨b, 0, rfl, (Array.getElem?_eq_some_iff.1 h).1, fun j hj => ?_⟩
  rcases (by omega : j = 0 ∨ j = 1) with rfl | rfl
  · simp [World.cell?, h]; rfl
  · simp [World.cell?, h]; rfl
section
variable (b : Nat) (w : World) (hr : RowI w (some ⟨b, 0, none⟩) 2 fS)
include hr
theorem s5_class : Calls Try.prog 17 #[.agg #[.int .i64 1, .int .i64 2, .int .i64 1, .int .i64 0, .slice (some ⟨b, 0, none⟩) 2 2], .int .i64 17] w fun e w' => e = .returned (.tuple #[.int .i64 1, .bool true]) ∧ Below w.heap.size w w' :=
  class_yes 1 2 1 0 _ 2 2 fS 17 1 w hr (by decide) (by decide) (by decide) (by decide) (fun j hj => (by omega : j = 0) ▸ (by decide))
theorem s5_block : Calls Try.prog 22 #[.agg #[.int .i64 1, .int .i64 2, .int .i64 1, .int .i64 0, .slice (some ⟨b, 0, none⟩) 2 2], .int .i64 1, .int .i64 66688] w fun e w' => e = .returned (.tuple #[.agg #[.int .i64 1, .int .i64 2], .bool true]) ∧ Below w.heap.size w w' := by
  have := block_any 1 2 1 0 _ 2 2 fS 1 66688 w hr fS_ok (by decide) (by decide)
  rw [show blkB 2 2 fS 1 66688 = true from by decide] at this
  exact this
theorem s5_address : Calls Try.prog 25 #[.agg #[.int .i64 1, .int .i64 2, .int .i64 1, .int .i64 0, .slice (some ⟨b, 0, none⟩) 2 2], .int .i64 1, .agg #[.int .i64 1, .int .i64 2]] w fun e w' => e = .returned (.int .i64 66688) ∧ Below w.heap.size w w' := by
  have := address_any 1 2 1 0 _ 2 2 fS 1 1 2 w hr fS_ok (by decide) (by decide)
  rw [show adrI 2 2 fS 1 1 2 = 66688 from by decide] at this
  exact this
theorem s5_run : Calls Try.prog 19 #[.agg #[.int .i64 1, .int .i64 2, .int .i64 1, .int .i64 0, .slice (some ⟨b, 0, none⟩) 2 2], .int .i64 1025] w fun e w' => e = .returned (.int .i64 2) ∧ Below w.heap.size w w' := by
  have := run_no 1 2 1 0 (some ⟨b, 0, none⟩) 2 2 fS 1025 w hr (by decide) (by decide) (fun j hj => by rcases (by omega : j = 0 ∨ j = 1) with rfl | rfl <;> decide) (by decide) (by decide)
  rw [show runI 2 1025 = 2 from by decide] at this
  exact this
end
theorem s5_most (cl : Value) (w : World) : Calls Try.prog 21 #[.agg #[.int .i64 1, .int .i64 2, .int .i64 1, .int .i64 0, cl]] w fun e w' => e = .returned (.int .i64 2048) ∧ Below w.heap.size w w' :=
  most_any 1 2 1 0 cl w (by decide) (by decide)
theorem s5_end (cl : Value) (w : World) : Calls Try.prog 31 #[.agg #[.int .i64 1, .int .i64 2, .int .i64 1, .int .i64 0, cl]] w fun e w' => e = .returned (.int .i64 67584) ∧ Below w.heap.size w w' :=
  end_any 1 2 1 0 cl w (by decide) (by decide)

/-- A system in its box, its classes, and what lay there before. -/
structure Ar (w0 w : World) (N : Nat) (W S B T : Int) (ad : Option Addr) (len cap : Nat) (f : Nat → Int) : Prop where
  c : Cfg5 w N W S B T (.slice ad len cap)
  r : RowI w ad len f
  b : Below N w0 w
theorem Ar.next {w0 w w' : World} {N : Nat} {W S B T : Int} {ad : Option Addr} {len cap : Nat} {f : Nat → Int} (h : Ar w0 w N W S B T ad len cap f) (hb : Below w.heap.size w w') : Ar w0 w' N W S B T ad len cap f :=
  ⟨cfg_next h.c hb, h.r.next hb, h.b.trans (hb.mono (Nat.le_of_lt (cfg_lt h.c)))⟩
theorem Ar.drew {w0 w : World} {N : Nat} {W S B T : Int} {ad : Option Addr} {len cap : Nat} {f : Nat → Int} (h : Ar w0 w N W S B T ad len cap f) : Ar w0 w.drew N W S B T ad len cap f := ⟨h.c, h.r, h.b.drew⟩
theorem Ar.start {w : World} {W S B T : Int} {ad : Option Addr} {len cap : Nat} {f : Nat → Int} (h : RowI w ad len f) : Ar w (w.alloc (.cells #[.int .i64 W, .int .i64 S, .int .i64 B, .int .i64 T, .slice ad len cap] 24)) w.heap.size W S B T ad len cap f :=
  ⟨cfg_new w W S B T _, h.next (below_alloc _ _), below_alloc _ _⟩
theorem Ar.lt {w0 w : World} {N : Nat} {W S B T : Int} {ad : Option Addr} {len cap : Nat} {f : Nat → Int} (h : Ar w0 w N W S B T ad len cap f) : N < w.heap.size := cfg_lt h.c

set_option maxHeartbeats 1000000 in
theorem speaks5 (w : World) :
    Calls Try.prog 15 #[] w fun e w' => e = .returned (.bool true) ∧ Below w.heap.size w w' := by
  have b1 := Lib.hid (below_alloc w (.cells #[.int .i64 16, .int .i64 64] 3))
  have k2 : Ar (w.alloc (.cells #[.int .i64 16, .int .i64 64] 3)) ((w.alloc (.cells #[.int .i64 16, .int .i64 64] 3)).alloc (.cells #[.int .i64 1, .int .i64 2, .int .i64 1, .int .i64 0, .slice (some ⟨w.heap.size, 0, none⟩) 2 2] 24)) (w.alloc (.cells #[.int .i64 16, .int .i64 64] 3)).heap.size 1 2 1 0 (some ⟨w.heap.size, 0, none⟩) 2 2 fS := Ar.start (row_S (heap_at w (.cells #[.int .i64 16, .int .i64 64] 3)))
  rw [show (w.alloc (.cells #[.int .i64 16, .int .i64 64] 3)).heap.size = w.heap.size + 1 from by simp] at k2
  have K2 := Lib.hid k2
  have HE : Hid (∀ w', Below (w.heap.size + 1) (w.alloc (.cells #[.int .i64 16, .int .i64 64] 3)) w' → Below w.heap.size w w') := fun w' h => b1.out.trans (h.mono (Nat.le_succ _))
  clear k2
  go_enter Try.func15, Try.ntmps15
  go_wp2_with fail
  generalize (w.alloc (.cells #[.int .i64 16, .int .i64 64] 3)).alloc (.cells #[.int .i64 1, .int .i64 2, .int .i64 1, .int .i64 0, .slice (some ⟨w.heap.size, 0, none⟩) 2 2] 24) = w2 at *
  generalize (w.alloc (.cells #[.int .i64 16, .int .i64 64] 3)) = w1 at *
  generalize hb : w.heap.size = b at *
  refine (s5_class _ _ K2.out.r).mono ?_
  rintro e w3 ⟨rfl, hb⟩
  have K3 := Lib.hid (K2.out.next hb)
  clear hb K2
  obtain ⟨c0, c1, c2, c3, c4⟩ := cfg_cells K3.out.c
  go_wp2_with fail
  refine (s5_block _ _ K3.out.r).mono ?_
  rintro e w4 ⟨rfl, hb⟩
  have K4 := Lib.hid (K3.out.next hb)
  clear hb K3 c0 c1 c2 c3 c4
  have hba := below_alloc w4 (.cells #[.int .i64 1, .int .i64 2] 34)
  have E4 := Lib.hid (Two5.new w4 34 1 2)
  have K5 := Lib.hid (K4.out.next hba)
  have lN := K4.out.lt
  have lN' : ¬ b + 1 = w4.heap.size := by omega
  clear hba
  obtain ⟨c0, c1, c2, c3, c4⟩ := cfg_cells K4.out.c
  go_wp2_with fail
  generalize w4.alloc (.cells #[.int .i64 1, .int .i64 2] 34) = w5 at *
  generalize hM : w4.heap.size = M at *
  refine (s5_address _ _ K5.out.r).mono ?_
  rintro e w6 ⟨rfl, hb⟩
  have K6 := Lib.hid (K5.out.next hb)
  have E6 := Lib.hid (E4.out.next hb)
  clear hb K5 E4 K4 c0 c1 c2 c3 c4
  obtain ⟨c0, c1, c2, c3, c4⟩ := cfg_cells K6.out.c
  obtain ⟨e0, e1⟩ := E6.out.cells
  go_wp2_with fail
  refine (s5_most _ _).mono ?_
  rintro e w7 ⟨rfl, hb⟩
  have K7 := Lib.hid (K6.out.next hb)
  clear hb K6 c0 c1 c2 c3 c4 e0 e1
  obtain ⟨c0, c1, c2, c3, c4⟩ := cfg_cells K7.out.c
  go_wp2_with fail
  refine (s5_end _ _).mono ?_
  rintro e w8 ⟨rfl, hb⟩
  have K8 := Lib.hid (K7.out.next hb)
  clear hb K7 c0 c1 c2 c3 c4
  obtain ⟨c0, c1, c2, c3, c4⟩ := cfg_cells K8.out.c
  go_wp2_with fail
  refine (s5_run _ _ K8.out.r).mono ?_
  rintro e w9 ⟨rfl, hb⟩
  have K9 := Lib.hid (K8.out.next hb)
  clear hb K8 c0 c1 c2 c3 c4
  go_wp2_with fail
  go_ret
  exact ⟨rfl, by first | exact HE.out _ K9.out.b | (rw [hb]; exact HE.out _ K9.out.b)⟩
end Go.Proofs.Ytjlklkaaonfpdaa
