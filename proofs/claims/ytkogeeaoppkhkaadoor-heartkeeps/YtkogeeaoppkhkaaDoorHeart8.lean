/-
  A Heart of the statements' own, with its words: what it takes to ask something of it.
-/
import Derived.Test.YtkogeeaoppkhkaaDoorHeart7
import Derived.Deep.RegionHeld
namespace Go.Proofs.YtkogeeaoppkhkaaDoor
open Go.RowKit Go.Sort Go.Shelf

/-- A Heart in a box, its classes, its words, all made since w0. -/
structure Sp (w0 w : World) (N b cb : Nat) (W T : Int) (S B len : Nat) (f : Nat → Int) (l : List Sb) : Prop where
  box : HBox w N W (S : Nat) (B : Nat) T (.slice (some ⟨cb, 0, none⟩) len len)
  row : w.heap[cb]? = some (.cells (numsOf f len).toArray 3 (0, 0))
  hw : HW w b l []
  fl : FldAt w
  be : Below w0.heap.size w0 w
  lo : 3 ≤ w0.heap.size
  nb : w0.heap.size ≤ b ∧ w0.heap.size ≤ N ∧ w0.heap.size ≤ cb ∧ b ≠ N ∧ b ≠ cb ∧ N ≠ cb
  sl : S = l.length
  ok : ClsOk len f
  bt : B ≤ 64
section
variable {w0 w w' : World} {N b cb : Nat} {W T : Int} {S B len : Nat} {f : Nat → Int} {l l' : List Sb}
theorem Sp.next (h : Sp w0 w N b cb W T S B len f l) (hb : Below w.heap.size w w') : Sp w0 w' N b cb W T S B len f l :=
  ⟨h.box.next hb, (hb.block cb (heap_lt h.row)).trans h.row, h.hw.next hb, h.fl.next hb, h.be.trans (hb.mono h.be.size), h.lo, h.nb, h.sl, h.ok, h.bt⟩
theorem Sp.rowI (h : Sp w0 w N b cb W T S B len f l) : RowI w (some ⟨cb, 0, none⟩) len f := row_block h.row (List.take_of_length_le (by simp [nums_len]))
theorem Sp.app (h : Sp w0 w N b cb W T S B len f l) (hw : HW w' b l' []) (o : Only [b] w w') (hl : l'.length = l.length) : Sp w0 w' N b cb W T S B len f l' := by
  obtain ⟨h1, h2, h3, h4, h5, h6⟩ := h.nb
  have lo := h.lo
  exact ⟨o.at h.box (by simpa using Ne.symm h4), o.at h.row (by simpa using Ne.symm h5), hw, h.fl.stay o (by simp; omega), h.be.trans (o.below (by simpa using h1) h.be.size), h.lo, h.nb, by rw [hl]; exact h.sl, h.ok, h.bt⟩
theorem Sp.stay {q : List Nat} (h : Sp w0 w N b cb W T S B len f l) (o : Only q w w') (hq : ∀ k ∈ q, w0.heap.size ≤ k ∧ k ≠ N ∧ k ≠ b ∧ k ≠ cb) : Sp w0 w' N b cb W T S B len f l := by
  have lo := h.lo
  exact ⟨o.at h.box (fun m => (hq _ m).2.1 rfl), o.at h.row (fun m => (hq _ m).2.2.2 rfl), h.hw.stay o (fun m => (hq _ m).2.2.1 rfl), h.fl.stay o (fun k m => by have := (hq k m).1; omega), h.be.trans (o.below (fun k m => (hq k m).1) h.be.size), h.lo, h.nb, h.sl, h.ok, h.bt⟩
theorem Sp.apply (h : Sp w0 w N b cb W T S B len f l) {A D c : Nat} (hA : A < 18446744073709551616) (hD : D < 18446744073709551616) :
    Calls Tryd.prog 21 #[.agg #[.int .i64 W, .int .i64 (S : Nat), .int .i64 (B : Nat), .int .i64 T, .slice (some ⟨cb, 0, none⟩) len len], .slice (some ⟨b, 0, none⟩) (2 * S) c, .agg #[.int .u64 (A : Nat), .int .u64 (D : Nat)]] w fun e w' => e = .returned (opV (appP (capN len f) B l (A, D)).2) ∧ Sp w0 w' N b cb W T S B len f (appP (capN len f) B l (A, D)).1 ∧ Only [b] w w' := by
  have hg := app_good (cap := capN len f) (batch := B) (l := l) (A, D) h.hw.ok hD (capN_le h.ok)
  have lo := h.lo
  refine (apply_any W T S B (some ⟨cb, 0, none⟩) len len f A D b (2 * S) c l [] w (Lib.hid h.hw) (by rw [h.sl]) h.sl (Lib.hid h.fl) (Lib.hid h.rowI) (Lib.hid h.ok) h.bt hA hD (by have := h.nb.1; omega)).mono ?_
  rintro e w1 ⟨h1, h2, h3⟩
  exact ⟨h1, h.app h2 h3 hg.1, h3⟩
end
/-- The box of an answer, made since w0, apart from all that. -/
structure Bx (w0 w : World) (n A D N b cb : Nat) : Prop where
  op : OpBox w n A D
  ne : w0.heap.size ≤ n ∧ n ≠ N ∧ n ≠ b ∧ n ≠ cb
section
variable {w0 w w' : World} {n A D N b cb : Nat}
theorem Bx.next (h : Bx w0 w n A D N b cb) (hb : Below w.heap.size w w') : Bx w0 w' n A D N b cb := ⟨h.op.next hb, h.ne⟩
theorem Bx.stay {q : List Nat} (h : Bx w0 w n A D N b cb) (o : Only q w w') (hq : n ∉ q) : Bx w0 w' n A D N b cb := ⟨o.at h.op hq, h.ne⟩
end
theorem only_op {w : World} {n : Nat} (u v : Value) : Only [n] w ((w.setCell ⟨n, 0, none⟩ u).setCell ⟨n, 1, none⟩ v) := (Only.of_set (by simp) _).trans (Only.of_set (by simp) _)
theorem Sp.alloc {w0 w : World} {N b cb : Nat} {W T : Int} {S B len : Nat} {f : Nat → Int} {l : List Sb} (h : Sp w0 w N b cb W T S B len f l) : Bx w0 (w.alloc (.cells #[.int .u64 0, .int .u64 0] 37)) w.heap.size 0 0 N b cb := by
  have h1 := h.be.size
  have h2 := heap_lt h.box
  have h3 := h.hw.lt
  have h4 := heap_lt h.row
  exact ⟨OpBox.new w, by omega⟩
theorem held_name {P : Program} {ops : Array Oper} {Q : Exit → Act → World → Prop} {S : World → Prop} {id : Nat} {a : Act} {w : World} (hm : P.follows .mixedOrders = true) (hS : S w.drew)
    (h : ∀ (O : Array Oper) (Q' : Exit → Act → World → Prop), Hid (O = ops) → Hid (Q' = Q) → S w.drew → wpAnyH P .any O Q' S O.size (Array.replicate O.size false) a w.drew) : (Code.region id ops true).wp P Q a w :=
  wp_region_held hm (h ops Q rfl rfl hS)
/-- A call that comes up in a drawn region, by what it enters. -/
theorem step_enter {P : Program} {ops : Array Oper} {Q : Exit → Act → World → Prop} {a : Act} {w : World} {K : Act → World → Prop} {o : Oper} {F : FuncId} {vals : Array Value} (hw : Region.wanted o (yielded ops a.tmps) = true) (hr : (execOp a.eval o).run P w = .ok (.enter F vals) w)
    (h : Calls P F vals w fun
      | .returned v, w'' => K (a.put o.dst v) w''
      | .panicked c, w'' => Q (.panic c) a w''
      | .outgrown, _ => LetsOut Q) : if Region.wanted o (yielded ops a.tmps) = true then Oper.wp P o a w K Q else K (a.put o.dst undef) w := by
  rw [if_pos hw]
  unfold Oper.wp
  rw [hr]
  exact h
theorem enc_none (n : Nat) : encL (List.replicate n Sb.none) = List.replicate (2 * n) 0 := by
  induction n with
  | zero => rfl
  | succ n ih => rw [List.replicate_succ, encL, List.flatMap_cons, show 2 * (n + 1) = 2 * n + 1 + 1 from by omega, List.replicate_succ, List.replicate_succ, ← ih]; rfl
theorem ok_free (n : Nat) : OkL (List.replicate n Sb.none) := fun s h => by rw [(List.mem_replicate.1 h).2]; exact ok_none
/-- New words: all superblocks are free. -/
theorem hw_new {w : World} {B b S : Nat} (h : w.ownsRow B 35 1 (.slice (some ⟨b, 0, none⟩) (2 * S) (2 * S)) (2 * S) (madeCells #[Value.int .u64 0] (2 * S)).toList) (hS : S ≤ 64) : HW w b (List.replicate S Sb.none) [] :=
  ⟨by rw [List.append_nil, enc_none, ← made_words']; exact owned_all h, ok_free S, by simpa using hS⟩
end Go.Proofs.YtkogeeaoppkhkaaDoor
