/-
  A system in its box, a Heart of it, its words, and the document's row beside them: the set-up of the statements that ask both.
-/
import Derived.Test.YtkogeeaoppkhkaaDoorHeartDo2
namespace Go.Proofs.YtkogeeaoppkhkaaDoor
open Go.RowKit Go.Sort Go.Shelf

theorem HBox.set5 {w : World} {N : Nat} {W S B T : Int} {cl : Value} (h : HBox w N W S B T cl) (W' S' B' T' : Int) (cl' : Value) :
    HBox (((((w.setCell ⟨N, 0, none⟩ (.int .i64 W')).setCell ⟨N, 1, none⟩ (.int .i64 S')).setCell ⟨N, 2, none⟩ (.int .i64 B')).setCell ⟨N, 3, none⟩ (.int .i64 T')).setCell ⟨N, 4, none⟩ cl') N W' S' B' T' cl' := by
  unfold HBox; rw [set_of (set_of (set_of (set_of (set_of h _) _) _) _) _]; rfl
theorem only_5 {w : World} {N : Nat} (u0 u1 u2 u3 u4 : Value) : Only [N] w (((((w.setCell ⟨N, 0, none⟩ u0).setCell ⟨N, 1, none⟩ u1).setCell ⟨N, 2, none⟩ u2).setCell ⟨N, 3, none⟩ u3).setCell ⟨N, 4, none⟩ u4) :=
  ((((Only.of_set (by simp) _).trans (Only.of_set (by simp) _)).trans (Only.of_set (by simp) _)).trans (Only.of_set (by simp) _)).trans (Only.of_set (by simp) _)
/-- The system's box, the Heart's, the row; no words yet. -/
structure Ja (w0 w : World) (M N cb : Nat) (W T : Int) (S B len : Nat) (ad : Option Addr) (cap : Nat) (f : Nat → Int) (v : Value) (l : List Sb) : Prop where
  cfg : Cfg5 w M W (S : Nat) (B : Nat) T (.slice ad len cap)
  box : HBox w N W (S : Nat) (B : Nat) T (.slice (some ⟨cb, 0, none⟩) len len)
  row : w.heap[cb]? = some (.cells (numsOf f len).toArray 3 (0, 0))
  rs : RS w v l
  fl : FldAt w
  be : Below w0.heap.size w0 w
  ne : w0.heap.size ≤ M ∧ w0.heap.size ≤ N ∧ w0.heap.size ≤ cb ∧ M ≠ N ∧ M ≠ cb ∧ N ≠ cb
/-- The words, too. -/
structure Jn (w0 w : World) (M N b cb : Nat) (W T : Int) (S B len : Nat) (ad : Option Addr) (cap : Nat) (f : Nat → Int) (v : Value) (l : List Sb) : Prop where
  su : Su w0 w M N b cb W T S B len ad cap f l
  rs : RS w v l
  ir : InR l
section
variable {w0 w w' : World} {M N b cb : Nat} {W T : Int} {S B len cap : Nat} {ad : Option Addr} {f : Nat → Int} {v v' : Value} {l l' : List Sb}
theorem Ja.next (h : Ja w0 w M N cb W T S B len ad cap f v l) (x : Below w.heap.size w w') : Ja w0 w' M N cb W T S B len ad cap f v l :=
  ⟨cfg_next h.cfg x, h.box.next x, (x.block cb (heap_lt h.row)).trans h.row, h.rs.next x, h.fl.next x, h.be.trans (x.mono h.be.size), h.ne⟩
theorem Jn.next (h : Jn w0 w M N b cb W T S B len ad cap f v l) (x : Below w.heap.size w w') : Jn w0 w' M N b cb W T S B len ad cap f v l := ⟨h.su.next x, h.rs.next x, h.ir⟩
theorem Ja.words (h : Ja w0 w M N cb W T S B len ad cap f v (List.replicate S Sb.none)) (hx : Below w.heap.size w w') (lo : 3 ≤ w0.heap.size) (hb : w.heap.size ≤ b) (hw : HW w' b (List.replicate S Sb.none) []) (ok : ClsOk len f) (bt : B ≤ 64) : Jn w0 w' M N b cb W T S B len ad cap f v (List.replicate S Sb.none) := by
  have y := h.next hx
  have c1 := heap_lt h.cfg
  have c2 := heap_lt h.box
  have c3 := heap_lt h.row
  have c4 := h.be.size
  have ne := h.ne
  exact ⟨⟨⟨y.box, y.row, hw, y.fl, y.be, lo, by omega, by simp, ok, bt⟩, y.cfg, by omega⟩, y.rs, inR_new S⟩
theorem Jn.turn {l2 : List Sb} (h : Jn w0 w M N b cb W T S B len ad cap f v l) (hw : HW w' b l2 []) (rs : RS w' v' l2) (x : Only [b] w w') (hl : l2.length = l.length) (ir : InR l2) : Jn w0 w' M N b cb W T S B len ad cap f v' l2 :=
  ⟨⟨h.su.sp.app hw x hl, x.at h.su.cfg (by simpa using h.su.ne.2.2.1), h.su.ne⟩, rs, ir⟩
theorem Jn.cnt (h : Jn w0 w M N b cb W T S B len ad cap f v l) : l.length = S := h.su.cnt
/-- Whatever is asked of both. -/
theorem Jn.ask (h : Jn w0 w M N b cb W T S B len ad cap f v l) (hr : RowI w ad len f) (q : Qk) (hq : q.fine) (c : Nat) {l2 : List Sb} {x1 x2 : Nat} (hd : doP (capN len f) B l q = (l2, (x1, x2))) :
    Calls Tryd.prog 19 #[.agg #[.int .i64 W, .int .i64 (S : Nat), .int .i64 (B : Nat), .int .i64 T, .slice (some ⟨cb, 0, none⟩) len len], .agg #[.int .i64 W, .int .i64 (S : Nat), .int .i64 (B : Nat), .int .i64 T, .slice ad len cap], .slice (some ⟨b, 0, none⟩) (2 * S) c, v, .agg #[.int .i64 q.k, .int .i64 q.n, .int .u64 (q.m : Nat), .int .u64 (q.a : Nat), .int .u64 (q.d : Nat)]] w
      fun e w' => ∃ v', e = .returned (.tuple #[.agg #[.int .u64 (x1 : Nat), .int .u64 (x2 : Nat)], v', .agg #[.int .u64 (x1 : Nat), .int .u64 (x2 : Nat)]]) ∧ Jn w0 w' M N b cb W T S B len ad cap f v' l2 ∧ Only [b] w w' := by
  refine (do_any W T S B ad len cap f v l b cb c q w (Lib.hid h.su.sp.hw) (Lib.hid h.rs) (Lib.hid h.su.sp.fl) (Lib.hid hr) (Lib.hid h.su.sp.rowI) (Lib.hid h.su.sp.ok) (Lib.hid h.ir) (Lib.hid h.su.sp.sl) h.su.sp.bt hq (by have := h.su.sp.nb.1; have := h.su.sp.lo; omega)).mono ?_
  rintro e w2 ⟨v2, h1, h2, h3, h4⟩
  have i2 := inR_do (cap := capN len f) (B := B) q h.ir
  have n2 := len_do (cap := capN len f) (B := B) q h.su.sp.hw.ok hq.2.1 (capN_le h.su.sp.ok)
  rw [hd] at h1 h2 h3 i2 n2
  exact ⟨v2, h1, h.turn h2 h3 h4 n2 i2, h4⟩
theorem Jn.same (h : Jn w0 w M N b cb W T S B len ad cap f v l) (c : Nat) : Calls Tryd.prog 20 #[.slice (some ⟨b, 0, none⟩) (2 * S) c, v] w fun e w' => e = .returned (.bool true) ∧ Below w.heap.size w w' := by
  have SM := same11_yes b c v l [] w (Lib.hid h.su.sp.hw) (Lib.hid h.rs) (Lib.hid h.su.sp.fl)
  rw [h.cnt] at SM
  exact SM
/-- What may not be asked. -/
theorem Jn.odd (h : Jn w0 w M N b cb W T S B len ad cap f v l) {A D : Nat} (c : Nat) (hA : A < 18446744073709551616) (hD : D < 18446744073709551616) (h0 : appP (capN len f) B l (A, D) = (l, (0, 0))) :
    Calls Tryd.prog 21 #[.agg #[.int .i64 W, .int .i64 (S : Nat), .int .i64 (B : Nat), .int .i64 T, .slice (some ⟨cb, 0, none⟩) len len], .slice (some ⟨b, 0, none⟩) (2 * S) c, .agg #[.int .u64 (A : Nat), .int .u64 (D : Nat)]] w fun e w' => e = .returned (.agg #[.int .u64 0, .int .u64 0]) ∧ Jn w0 w' M N b cb W T S B len ad cap f v l ∧ Only [b] w w' := by
  refine (h.su.apply (c := c) hA hD).mono ?_
  rintro e w2 ⟨h1, h2, h3⟩
  rw [h0] at h1 h2
  exact ⟨h1, h.turn h2.sp.hw (h.rs.aside h.su.sp.hw.at_ (by decide) h3) h3 rfl h.ir, h3⟩
end
end Go.Proofs.YtkogeeaoppkhkaaDoor
