/-
  A system in its box, a Heart of it, and its words: the statements' set-up.
-/
import Derived.Test.YtkogeeaoppkhkaaDoorHeart8
import Derived.Test.YtkogeeaoppkhkaaDoorArenaM
import Derived.Test.YtkogeeaoppkhkaaDoorConfM
namespace Go.Proofs.YtkogeeaoppkhkaaDoor
open Go.RowKit Go.Sort Go.Shelf

structure Su (w0 w : World) (M N b cb : Nat) (W T : Int) (S B len : Nat) (ad : Option Addr) (cap : Nat) (f : Nat → Int) (l : List Sb) : Prop where
  sp : Sp w0 w N b cb W T S B len f l
  cfg : Cfg5 w M W (S : Nat) (B : Nat) T (.slice ad len cap)
  ne : w0.heap.size ≤ M ∧ M ≠ N ∧ M ≠ b ∧ M ≠ cb
section
variable {w0 w w' : World} {M N b cb : Nat} {W T : Int} {S B len cap : Nat} {ad : Option Addr} {f : Nat → Int} {l l' : List Sb}
theorem Su.next (h : Su w0 w M N b cb W T S B len ad cap f l) (hb : Below w.heap.size w w') : Su w0 w' M N b cb W T S B len ad cap f l := ⟨h.sp.next hb, cfg_next h.cfg hb, h.ne⟩
theorem Su.drew (h : Su w0 w M N b cb W T S B len ad cap f l) : Su w0 w.drew M N b cb W T S B len ad cap f l := h.next ((Below.refl _ _).drew)
theorem Su.stay {q : List Nat} (h : Su w0 w M N b cb W T S B len ad cap f l) (o : Only q w w') (hq : ∀ k ∈ q, w0.heap.size ≤ k ∧ k ≠ M ∧ k ≠ N ∧ k ≠ b ∧ k ≠ cb) : Su w0 w' M N b cb W T S B len ad cap f l :=
  ⟨h.sp.stay o (fun k hk => by have := hq k hk; omega), o.at h.cfg (fun m => (hq _ m).2.1 rfl), h.ne⟩
theorem Su.apply (h : Su w0 w M N b cb W T S B len ad cap f l) {A D c : Nat} (hA : A < 18446744073709551616) (hD : D < 18446744073709551616) :
    Calls Tryd.prog 21 #[.agg #[.int .i64 W, .int .i64 (S : Nat), .int .i64 (B : Nat), .int .i64 T, .slice (some ⟨cb, 0, none⟩) len len], .slice (some ⟨b, 0, none⟩) (2 * S) c, .agg #[.int .u64 (A : Nat), .int .u64 (D : Nat)]] w fun e w' => e = .returned (opV (appP (capN len f) B l (A, D)).2) ∧ Su w0 w' M N b cb W T S B len ad cap f (appP (capN len f) B l (A, D)).1 ∧ Only [b] w w' :=
  (h.sp.apply hA hD).mono fun _ _ x => ⟨x.1, ⟨x.2.1, x.2.2.at h.cfg (by simpa using h.ne.2.2.1), h.ne⟩, x.2.2⟩
theorem Su.alloc (h : Su w0 w M N b cb W T S B len ad cap f l) : Bx w0 (w.alloc (.cells #[.int .u64 0, .int .u64 0] 37)) w.heap.size 0 0 N b cb ∧ w.heap.size ≠ M := ⟨h.sp.alloc, by have := cfg_lt h.cfg; omega⟩
theorem Su.cnt (h : Su w0 w M N b cb W T S B len ad cap f l) : l.length = S := h.sp.sl.symm
/-- Behind New, the Heart's box, and the words. -/
theorem su_start {w0 wa wb wc : World} {M cb b : Nat} {W T : Int} {S B len cap : Nat} {ad : Option Addr} {f : Nat → Int} (K : Ar w0 wa M W (S : Nat) (B : Nat) T ad len cap f) (hM : w0.heap.size = M) (h3 : 3 ≤ w0.heap.size) (hF : FldAt w0)
    (h1 : wb.heap[cb]? = some (.cells (numsOf f len).toArray 3 (0, 0))) (h2 : wa.heap.size ≤ cb) (hb : Below wa.heap.size wa wb)
    (hbx : Below wb.heap.size wb wc) (box : HBox wc wb.heap.size W (S : Nat) (B : Nat) T (.slice (some ⟨cb, 0, none⟩) len len)) (hbl : wb.heap.size < b) (hw : HW wc b (List.replicate S Sb.none) []) (ok : ClsOk len f) (bt : B ≤ 64) :
    Su w0 wc M wb.heap.size b cb W T S B len ad cap f (List.replicate S Sb.none) := by
  have c1 := cfg_lt K.c
  have c2 := hb.size
  have c3 := heap_lt h1
  have be : Below w0.heap.size w0 wc := by rw [hM]; exact (K.b.trans (hb.mono (by omega))).trans (hbx.mono (by omega))
  exact ⟨⟨box, (hbx.block cb c3).trans h1, hw, hF.next be, be, h3, by omega, by simp, ok, bt⟩, cfg_next (cfg_next K.c hb) hbx, by omega⟩
end
theorem step_value {P : Program} {ops : Array Oper} {Q : Exit → Act → World → Prop} {a : Act} {w w' : World} {K : Act → World → Prop} {o : Oper} {v : Value} (hw : Region.wanted o (yielded ops a.tmps) = true) (hr : (execOp a.eval o).run P w = .ok (.value v) w')
    (h : K (a.put o.dst v) w') : if Region.wanted o (yielded ops a.tmps) = true then Oper.wp P o a w K Q else K (a.put o.dst undef) w := by
  rw [if_pos hw]
  unfold Oper.wp
  rw [hr]
  exact h
end Go.Proofs.YtkogeeaoppkhkaaDoor
