/-
  What each thing asked does, by its Op, to what is out and to the runs; the two rows beside a Heart.
-/
import Derived.Test.YtkogeeaoppkhkaaDoorHeartKW
namespace Go.Proofs.YtkogeeaoppkhkaaDoor
open Go.RowKit Go.Sort Go.Shelf

section
variable {cap : Nat → Nat} {B : Nat} {l : List Sb} {O R : Nat → Nat}
theorem ask_in {k n m : Nat} (hk : k < 256) (hn : n < 4294967296) : askA k (n : Int) = k + 256 * n ∧ askB (n : Int) m = m ∧ askA k (n : Int) < 1099511627776 ∧ askA k (n : Int) % 256 = k ∧ askA k (n : Int) / 256 = n := by
  unfold askA askB
  rw [if_pos (by omega), if_pos (by omega), Int.toNat_natCast]
  omega
theorem ask_out {k m : Nat} {n : Int} (h : ¬(0 ≤ n ∧ n < 4294967296)) : askA k n = 0 ∧ askB n m = 0 := by
  unfold askA askB
  rw [if_neg h, if_neg h]
  exact ⟨rfl, rfl⟩
theorem ask_lt {k m : Nat} {n : Int} (hk : k < 256) (hm : m < 18446744073709551616) : askA k n < 18446744073709551616 ∧ askB n m < 18446744073709551616 := by
  unfold askA askB
  split <;> omega
theorem app_out {k m : Nat} {n : Int} (h : ¬(0 ≤ n ∧ n < 4294967296)) : appP cap B l (askA k n, askB n m) = (l, (0, 0)) := by
  rw [(ask_out (k := k) (m := m) h).1, (ask_out (k := k) (m := m) h).2]
  exact app0 (by omega)
theorem keep_refill (h : GoodK cap l O R) (hc : ∀ c, cap c ≤ 64) (hb : 1 ≤ B) (n : Int) :
    ∃ l2 x1 x2, appP cap B l (askA 1 n, askB n 0) = (l2, (x1, x2)) ∧ l2.length = l.length ∧ ((x1 = 0 ∧ GoodK cap l2 O R) ∨ ∃ i, x1 = i + 1 ∧ i < l.length ∧ x2 ≠ 0 ∧ x2 < 18446744073709551616 ∧ O i &&& x2 = 0 ∧ Ma.popF 64 x2 ≤ B ∧ O i < 18446744073709551616 ∧ GoodK cap l2 (fun j => if j = i then O i ||| x2 else O j) R) := by
  by_cases hi : 0 ≤ n ∧ n < 4294967296
  · obtain ⟨n, rfl⟩ := Int.eq_ofNat_of_zero_le hi.1
    obtain ⟨_, _, a3, a4, a5⟩ := ask_in (k := 1) (m := 0) (by decide) (show n < 4294967296 by omega)
    rw [app1 a3 a4, a5]
    rcases good_refill h B n hc hb (by omega) with e | ⟨i, l2, D, e, h1, h2, h3, h4, h5, h6, h7, h8⟩
    · exact ⟨l, 0, 0, e, rfl, .inl ⟨rfl, h⟩⟩
    · rw [Ma.mem_length] at h6
      exact ⟨l2, i + 1, D, e, h2, .inr ⟨i, rfl, h1, h3, h4, h5, h6, h7, h8⟩⟩
  · exact ⟨l, 0, 0, app_out hi, rfl, .inl ⟨rfl, h⟩⟩
theorem keep_flush (h : GoodK cap l O R) (hc : ∀ c, cap c ≤ 64) (i m : Nat) (hi : i < l.length) (hl : l.length ≤ 64) (hm : m < 18446744073709551616) :
    ∃ l2 x1, appP cap B l (askA 2 (i : Int), askB (i : Int) (m &&& O i)) = (l2, (x1, 0)) ∧ l2.length = l.length ∧ ((x1 = 0 ∧ m &&& O i = 0 ∧ GoodK cap l2 O R) ∨ (x1 = 1 ∧ m &&& O i ≠ 0 ∧ O i < 18446744073709551616 ∧ GoodK cap l2 (fun j => if j = i then Ma.andNotN (O i) (m &&& O i) else O j) R)) := by
  obtain ⟨_, a2, a3, a4, a5⟩ := ask_in (k := 2) (n := i) (m := m &&& O i) (by decide) (by omega)
  rw [app2 a3 a4, a5, a2]
  rcases good_flush h i m hc hi hm with ⟨h1, h2⟩ | ⟨h1, h2, l2, h3, h4, h5⟩
  · exact ⟨l, 0, h2, rfl, .inl ⟨rfl, h1, h⟩⟩
  · exact ⟨l2, 1, h3, h4, .inr ⟨rfl, h1, h2, h5⟩⟩
theorem keep_flush_out (n : Int) (m : Nat) (hi : ¬(0 ≤ n ∧ n < (l.length : Int))) : appP cap B l (askA 2 n, askB n m) = (l, (0, 0)) := by
  by_cases hn : 0 ≤ n ∧ n < 4294967296
  · obtain ⟨n, rfl⟩ := Int.eq_ofNat_of_zero_le hn.1
    obtain ⟨_, a2, a3, a4, a5⟩ := ask_in (k := 2) (n := n) (m := m) (by decide) (by omega)
    rw [app2 a3 a4, a5]
    unfold flushP
    rw [List.getElem?_eq_none (by omega)]
  · exact app_out hn
theorem keep_take (h : GoodK cap l O R) (n : Int) :
    ∃ l2 x1, appP cap B l (askA 3 n, askB n 0) = (l2, (x1, 0)) ∧ l2.length = l.length ∧ ((x1 = 0 ∧ GoodK cap l2 O R) ∨ ∃ i k : Nat, x1 = i + 1 ∧ n = (k : Int) ∧ i + k ≤ l.length ∧ i < l.length ∧ R i = 0 ∧ GoodK cap l2 O (fun j => if j = i then k else R j)) := by
  by_cases hi : 0 ≤ n ∧ n < 4294967296
  · obtain ⟨n, rfl⟩ := Int.eq_ofNat_of_zero_le hi.1
    obtain ⟨_, _, a3, a4, a5⟩ := ask_in (k := 3) (m := 0) (by decide) (show n < 4294967296 by omega)
    rw [app3 a3 a4, a5]
    rcases good_take h n (by omega) with e | ⟨i, l2, e, h1, h2, h3, h4, h5, h6⟩
    · exact ⟨l, 0, e, rfl, .inl ⟨rfl, h⟩⟩
    · exact ⟨l2, i + 1, e, h4, .inr ⟨i, n, rfl, rfl, h1, h2, h5, h6⟩⟩
  · exact ⟨l, 0, app_out hi, rfl, .inl ⟨rfl, h⟩⟩
theorem keep_give (h : GoodK cap l O R) (i : Nat) (hi : i < l.length) (hl : l.length ≤ 64) :
    ∃ l2 x1, appP cap B l (askA 4 (i : Int), askB (i : Int) 0) = (l2, (x1, 0)) ∧ l2.length = l.length ∧ ((x1 = 0 ∧ R i = 0 ∧ GoodK cap l2 O R) ∨ (x1 = 1 ∧ 0 < R i ∧ GoodK cap l2 O (fun j => if j = i then 0 else R j))) := by
  obtain ⟨_, _, a3, a4, a5⟩ := ask_in (k := 4) (m := 0) (by decide) (show i < 4294967296 by omega)
  rw [app4 a3 a4, a5]
  rcases good_give h i hi with ⟨h1, h2⟩ | ⟨h1, l2, h2, h3, h4⟩
  · exact ⟨l, 0, h2, rfl, .inl ⟨rfl, h1, h⟩⟩
  · exact ⟨l2, 1, h2, h3, .inr ⟨rfl, by omega, h4⟩⟩
theorem keep_give_out (n : Int) (hi : ¬(0 ≤ n ∧ n < (l.length : Int))) : appP cap B l (askA 4 n, askB n 0) = (l, (0, 0)) := by
  by_cases hn : 0 ≤ n ∧ n < 4294967296
  · obtain ⟨n, rfl⟩ := Int.eq_ofNat_of_zero_le hn.1
    obtain ⟨_, a2, a3, a4, a5⟩ := ask_in (k := 4) (n := n) (m := 0) (by decide) (by omega)
    rw [app4 a3 a4, a5]
    unfold giveP
    rw [List.getElem?_eq_none (by omega)]
  · exact app_out hn
end
/-- The two rows, apart from all else. -/
structure Ke (w0 w : World) (M N b cb ob rb S : Nat) (O R : Nat → Nat) : Prop where
  o : RO w ob S O
  r : RR w rb S R
  ne : w0.heap.size ≤ ob ∧ w0.heap.size ≤ rb ∧ ob ≠ rb ∧ ob ≠ b ∧ rb ≠ b ∧ (ob ≠ M ∧ ob ≠ N ∧ ob ≠ cb) ∧ (rb ≠ M ∧ rb ≠ N ∧ rb ≠ cb)
section
variable {w0 w w' : World} {M N b cb ob rb S i : Nat} {O R : Nat → Nat}
theorem Ke.next (h : Ke w0 w M N b cb ob rb S O R) (x : Below w.heap.size w w') : Ke w0 w' M N b cb ob rb S O R := ⟨h.o.next x, h.r.next x, h.ne⟩
theorem Ke.stay {q : List Nat} (h : Ke w0 w M N b cb ob rb S O R) (x : Only q w w') (hq : ob ∉ q ∧ rb ∉ q) : Ke w0 w' M N b cb ob rb S O R := ⟨x.at h.o hq.1, x.at h.r hq.2, h.ne⟩
theorem Ke.setO (h : Ke w0 w M N b cb ob rb S O R) (v : Nat) : Ke w0 (w.setCell ⟨ob, i, none⟩ (.int .u64 (v : Nat))) M N b cb ob rb S (fun j => if j = i then v else O j) R :=
  ⟨h.o.set v, (set_other h.ne.2.2.1.symm _).trans h.r, h.ne⟩
theorem Ke.setR (h : Ke w0 w M N b cb ob rb S O R) (v : Nat) : Ke w0 (w.setCell ⟨rb, i, none⟩ (.int .i64 (v : Nat))) M N b cb ob rb S O (fun j => if j = i then v else R j) :=
  ⟨(set_other h.ne.2.2.1 _).trans h.o, h.r.set v, h.ne⟩
variable {W T : Int} {B len cap : Nat} {ad : Option Addr} {f : Nat → Int} {l : List Sb}
theorem Su.keO (h : Su w0 w M N b cb W T S B len ad cap f l) (e : Ke w0 w M N b cb ob rb S O R) (v : Value) : Su w0 (w.setCell ⟨ob, i, none⟩ v) M N b cb W T S B len ad cap f l :=
  h.stay (q := [ob]) (Only.of_set (by simp) _) (fun k hk => by have := e.ne; simp at hk; subst hk; omega)
theorem Su.keR (h : Su w0 w M N b cb W T S B len ad cap f l) (e : Ke w0 w M N b cb ob rb S O R) (v : Value) : Su w0 (w.setCell ⟨rb, i, none⟩ v) M N b cb W T S B len ad cap f l :=
  h.stay (q := [rb]) (Only.of_set (by simp) _) (fun k hk => by have := e.ne; simp at hk; subst hk; omega)
theorem Su.whole (h : Su w0 w M N b cb W T S B len ad cap f l) (e : Ke w0 w M N b cb ob rb S O R) (hr : RowI w0 ad len f) (G : GoodK (capN len f) l O R) :
    Calls Tryd.prog 27 #[.agg #[.int .i64 W, .int .i64 (S : Nat), .int .i64 (B : Nat), .int .i64 T, .slice ad len cap], .slice (some ⟨b, 0, none⟩) (2 * S) (2 * S), .slice (some ⟨ob, 0, none⟩) S S, .slice (some ⟨rb, 0, none⟩) S S] w fun e w' => e = .returned (.bool true) ∧ Below w.heap.size w w' :=
  whole_any W T S B ad len cap f l b ob rb O R w (Lib.hid h.sp.hw) (Lib.hid e.o) (Lib.hid e.r) (Lib.hid h.sp.fl) (Lib.hid (hr.next h.sp.be)) (Lib.hid h.sp.ok) (Lib.hid h.sp.sl) (Lib.hid G)
theorem Su.asks {l2 : List Sb} {A D x1 x2 : Nat} (h : Su w0 w M N b cb W T S B len ad cap f l) (hA : A < 18446744073709551616) (hD : D < 18446744073709551616) (c : Nat) (hx : appP (capN len f) B l (A, D) = (l2, (x1, x2))) :
    Calls Tryd.prog 21 #[.agg #[.int .i64 W, .int .i64 (S : Nat), .int .i64 (B : Nat), .int .i64 T, .slice (some ⟨cb, 0, none⟩) len len], .slice (some ⟨b, 0, none⟩) (2 * S) c, .agg #[.int .u64 (A : Nat), .int .u64 (D : Nat)]] w fun e w' => e = .returned (.agg #[.int .u64 (x1 : Nat), .int .u64 (x2 : Nat)]) ∧ Su w0 w' M N b cb W T S B len ad cap f l2 ∧ Only [b] w w' := by
  have := h.apply (c := c) hA hD
  rw [hx] at this
  exact this
end
/-- A slice that is made, in a drawn region. -/
theorem step_make {P : Program} {ops : Array Oper} {Q : Exit → Act → World → Prop} {a : Act} {w w' : World} {K : Act → World → Prop} {o : Oper} {l c : Operand} {t : TypeId} {kl kc : IntKind} {n : Nat} {v : Value} (hw : Region.wanted o (yielded ops a.tmps) = true) (hop : o.op = Op.makeSlice t l c) (hl : a.eval l = .int kl (n : Int)) (hc : a.eval c = .int kc (n : Int))
    (hrun : (Instr.makeSlice t (.int kl (n : Int)) (.int kc (n : Int))).run P w = .ok v w') (h : K (a.put o.dst v) w') : if Region.wanted o (yielded ops a.tmps) = true then Oper.wp P o a w K Q else K (a.put o.dst undef) w := by
  rw [if_pos hw]
  unfold Oper.wp
  simp [execOp, hop, hl, hc, hrun, Result.andThen]
  exact h
end Go.Proofs.YtkogeeaoppkhkaaDoor
