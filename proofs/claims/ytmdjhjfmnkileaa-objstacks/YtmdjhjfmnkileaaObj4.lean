/-
  What an object answers to some, one behind the other (obj.Replay).
-/
import Derived.Test.YtmdjhjfmnkileaaObj3
import Derived.Test.YtmdjhjfmnkileaaGen1
namespace Go.Proofs.Ytmdjhjfmnkileaa
open Go.RowKit Go.Sort

abbrev Op2 := Nat × Nat
/-- A row of what is asked, that came in. -/
def RowO (w : World) (a : Option Addr) (len : Nat) (f : Nat → Op2) : Prop :=
  (∀ j, (f j).1 < 18446744073709551616 ∧ (f j).2 < 18446744073709551616) ∧ (0 < len → ∃ b off, a = some ⟨b, off, none⟩ ∧ b < w.heap.size ∧ ∀ j, j < len → w.cell? ⟨b, off + j * 2, none⟩ = some (.int .u64 (((f j).1 : Nat) : Int)) ∧ w.cell? ⟨b, off + j * 2 + 1, none⟩ = some (.int .u64 (((f j).2 : Nat) : Int)))
theorem RowO.next {w w' : World} {a : Option Addr} {len : Nat} {f : Nat → Op2} (h : RowO w a len f) (hb : Below w.heap.size w w') : RowO w' a len f :=
  ⟨h.1, fun h0 => by
    obtain ⟨b, off, e, hl, hc⟩ := h.2 h0
    refine ⟨b, off, e, Nat.lt_of_lt_of_le hl hb.size, fun j hj => ?_⟩
    obtain ⟨c0, c1⟩ := hc j hj
    exact ⟨(hb.cell (p := ⟨b, off + j * 2, none⟩) hl).trans c0, (hb.cell (p := ⟨b, off + j * 2 + 1, none⟩) hl).trans c1⟩⟩
theorem RowO.at {w : World} {a : Option Addr} {len j : Nat} {f : Nat → Op2} (h : RowO w a len f) (hj : j < len) : ∃ b off, a = some ⟨b, off, none⟩ ∧ w.cell? ⟨b, off + j * 2, none⟩ = some (.int .u64 (((f j).1 : Nat) : Int)) ∧ w.cell? ⟨b, off + j * 2 + 1, none⟩ = some (.int .u64 (((f j).2 : Nat) : Int)) := by
  obtain ⟨b, off, e, _, hc⟩ := h.2 (by omega)
  exact ⟨b, off, e, hc j hj⟩
def Okay (l : List Op2) : Prop := ∀ x ∈ l, x.1 < 18446744073709551616 ∧ x.2 < 18446744073709551616
theorem OpRow.row {w : World} {v : Value} {l : List Op2} (h : OpRow w v l) (ok : Okay l) : ∃ a c, v = .slice a l.length c ∧ RowO w a l.length (fun j => l.getD j (0, 0)) := by
  have hB : ∀ j, (l.getD j (0, 0)).1 < 18446744073709551616 ∧ (l.getD j (0, 0)).2 < 18446744073709551616 := fun j => by
    by_cases hj : j < l.length
    · rw [List.getD_eq_getElem?_getD, List.getElem?_eq_getElem hj]; exact ok _ (List.getElem_mem _)
    · rw [List.getD_eq_getElem?_getD, List.getElem?_eq_none (by omega)]; exact ⟨by decide, by decide⟩
  have h' : ORow 40 2 opE w v l := h
  rcases h'.cases with ⟨rfl, rfl⟩ | ⟨b, cap, cur, rfl, hb, h1, h2, h3⟩
  · exact ⟨_, _, rfl, hB, fun h => absurd h (by simp)⟩
  · refine ⟨_, _, rfl, hB, fun _ => ⟨b, 0, rfl, heap_lt hb, fun j hj => ?_⟩⟩
    obtain ⟨b', c', e', q, _⟩ := h'.at opEnc (List.getElem?_eq_getElem hj)
    cases e'
    have e2 : l.getD j (0, 0) = l[j] := by rw [List.getD_eq_getElem?_getD, List.getElem?_eq_getElem hj]; rfl
    show w.cell? ⟨b, 0 + j * 2, none⟩ = some (.int .u64 (((l.getD j (0, 0)).1 : Nat) : Int)) ∧ w.cell? ⟨b, 0 + j * 2 + 1, none⟩ = some (.int .u64 (((l.getD j (0, 0)).2 : Nat) : Int))
    rw [Nat.zero_add, e2]
    exact ⟨by have := q 0 _ rfl; simpa using this, q 1 _ rfl⟩

def opsOf (f : Nat → Op2) (n : Nat) : List Op2 := (List.range n).map f
theorem opsOf_succ (f : Nat → Op2) (n : Nat) : opsOf f (n + 1) = opsOf f n ++ [f n] := by simp [opsOf, List.range_succ]
theorem opsOf_len (f : Nat → Op2) (n : Nat) : (opsOf f n).length = n := by simp [opsOf]
theorem opsOf_zero (f : Nat → Op2) : opsOf f 0 = [] := rfl
theorem opsOf_list (l : List Op2) : opsOf (fun j => l.getD j (0, 0)) l.length = l := by
  apply List.ext_getElem
  · simp [opsOf]
  · intro i h1 h2
    simp [opsOf, List.getElem?_eq_getElem h2]
def rep (o : Ob) (l : List Op2) : List Nat × List Op2 := l.foldl (fun s op => ((obApp o s.1 op).1, s.2 ++ [(obApp o s.1 op).2])) (List.replicate (obW o) 0, [])
def repW (o : Ob) (l : List Op2) : List Nat := (rep o l).1
def repA (o : Ob) (l : List Op2) : List Op2 := (rep o l).2
theorem repW_nil (o : Ob) : repW o [] = List.replicate (obW o) 0 := rfl
theorem repA_nil (o : Ob) : repA o [] = [] := rfl
theorem repW_snoc (o : Ob) (l : List Op2) (x : Op2) : repW o (l ++ [x]) = (obApp o (repW o l) x).1 := by simp [repW, rep, List.foldl_append]
theorem repA_snoc (o : Ob) (l : List Op2) (x : Op2) : repA o (l ++ [x]) = repA o l ++ [(obApp o (repW o l) x).2] := by simp [repA, repW, rep, List.foldl_append]
theorem snoc_ind {α : Type} {p : List α → Prop} (h0 : p []) (h1 : ∀ l x, p l → p (l ++ [x])) (l : List α) : p l := by
  have : ∀ n (l : List α), l.length = n → p l := by
    intro n
    induction n with
    | zero => intro l hl; rw [List.eq_nil_of_length_eq_zero hl]; exact h0
    | succ n ih =>
      intro l hl
      have hne : l ≠ [] := by intro e; rw [e] at hl; simp at hl
      rw [← List.dropLast_concat_getLast hne]
      exact h1 _ _ (ih _ (by simp [hl]))
  exact this _ l rfl
theorem repW_len (o : Ob) (l : List Op2) : (repW o l).length = obW o := by
  induction l using snoc_ind with
  | h0 => simp [repW_nil]
  | h1 l x ih => rw [repW_snoc, obApp_len, ih]
theorem repA_len (o : Ob) (l : List Op2) : (repA o l).length = l.length := by
  induction l using snoc_ind with
  | h0 => rfl
  | h1 l x ih => rw [repA_snoc, List.length_append, ih, List.length_append]; rfl
theorem repW_lt (o : Ob) (l : List Op2) (ok : Okay l) : ∀ x ∈ repW o l, x < 18446744073709551616 := by
  induction l using snoc_ind with
  | h0 => intro x hx; rw [repW_nil] at hx; rw [List.eq_of_mem_replicate hx]; omega
  | h1 l x ih => rw [repW_snoc]; exact (obApp_lt o (ih fun y hy => ok y (by simp [hy])) (ok x (by simp)).2).1
theorem repA_lt (o : Ob) (l : List Op2) (ok : Okay l) : Okay (repA o l) := by
  induction l using snoc_ind with
  | h0 => intro x hx; cases hx
  | h1 l x ih =>
    intro y hy
    rw [repA_snoc] at hy
    rcases List.mem_append.1 hy with h | h
    · exact ih (fun y hy => ok y (by simp [hy])) y h
    · simp at h; subst h; exact (obApp_lt o (repW_lt o l fun y hy => ok y (by simp [hy])) (ok x (by simp)).2).2
theorem okay_ops {w : World} {a : Option Addr} {len : Nat} {f : Nat → Op2} (h : RowO w a len f) (n : Nat) : Okay (opsOf f n) := by
  intro x hx
  simp [opsOf] at hx
  obtain ⟨j, _, rfl⟩ := hx
  exact h.1 j

theorem made_words1 (n : Nat) : (madeCells (Value.int .u64 0).cells (n * 1)).toList = (wordsOf (List.replicate n 0)).toList := by rw [made_words]
theorem one_new (w : World) (o : Obj) : (w.alloc o).heap[w.heap.size]? = some o ∧ Below w.heap.size w (w.alloc o) ∧ (w.alloc o).heap.size = w.heap.size + 1 := ⟨heap_new w o, box1 w o, by simp⟩
theorem app_below' {N : Nat} {a w w1 : World} {row : Option Nat} (hB : Below N a w) (hN : N ≤ w.heap.size) (hg : w.grownBy w1 row) (hr : ∀ k, row = some k → N ≤ k) : Below N a w1 := hB.grown hg hN hr
set_option maxRecDepth 20000 in
set_option maxHeartbeats 2000000 in
theorem replay_any (o : Ob) (a : Option Addr) (len cap : Nat) (f : Nat → Op2) (w : World) (h : Hid (RowO w a len f)) (hl : len ≤ 1048576) :
    Calls Try.prog 9 #[obV o, .slice a len cap] w fun e w' => ∃ va b, e = .returned (.tuple #[va, .slice (some ⟨b, 0, none⟩) (obW o) (obW o)]) ∧ OpRow w' va (repA o (opsOf f len)) ∧ w'.heap[b]? = some (.cells (wordsOf (repW o (opsOf f len))) 29 (0, 0)) ∧ (∀ q, va.ownBlock = some q → w.heap.size ≤ q ∧ q ≠ b) ∧ w.heap.size ≤ b ∧ Below w.heap.size w w' := by
  obtain ⟨i0, hi, hz0, hz1, hz2⟩ := info_parts info64
  obtain ⟨i1, hi', hy0, hy1, hy2⟩ := info_parts' infoOp
  have hW := obW_le o
  have WW0 := Lib.hid fun w1 => wordsOf9_any o w1
  have AP := Lib.hid fun (b : Nat) (c A B : Nat) (L : List Nat) (w1 : World) h1 (h2 : obW o ≤ L.length) h3 => apply9_any o b (obW o) c A B L w1 h1 rfl h2 h3
  have RL := Lib.hid (repW_len o)
  generalize hV : obV o = V at *
  generalize hM : obW o = M at *
  have HM := Lib.hid hM
  clear hV hM
  go_enter Try.func9, Try.ntmps9
  go_wp2_with fail
  refine (WW0.out _).mono ?_
  rintro e w1 ⟨rfl, hb⟩
  have B1 := Lib.hid hb
  clear hb
  go_wp2_with (at_make; refine wpList_make_full _ rfl _ _ 24 rfl w1.heap.size 29 i0 (.int .u64 0) 1 Try.underlying24 hi hz0 hz1 .i64 .i64 _ _ M rfl rfl (by omega) (by omega) (by rw [hz2]; omega) (by unfold maxLen; omega) (Nat.le_refl _) ?_)
  intro w2 ho hg
  have hb1 := grown_below hg rfl
  have B2 := Lib.hid (below_two B1.out hb1)
  have Z2 : Hid (w2.heap[w1.heap.size]? = some (.cells (wordsOf (List.replicate M 0)) 29 (0, 0))) := by show _ = _; rw [owned_all ho, made_words']
  have bw := B1.out.size
  generalize hbw : w1.heap.size = b at *
  clear ho hg hb1
  go_wp2_with (at_make; refine wpList_make_own _ rfl _ _ 22 rfl 0 40 i1 (.agg #[.int .u64 0, .int .u64 0]) 2 Try.underlying22 hi' hy0 hy1 .i64 .i64 _ len rfl rfl rfl (by rw [hy2]; omega) (by unfold maxLen; omega) (Nat.zero_le _) ?_)
  intro w3 ho hg
  have hb1 := grown_below hg rfl
  have B3 := Lib.hid (below_two B2.out hb1)
  have Z3 : Hid (w3.heap[b]? = some (.cells (wordsOf (List.replicate M 0)) 29 (0, 0))) := (hb1.block _ (heap_lt Z2.out)).trans Z2.out
  have P3 : Hid (OpRow w3 (.slice (some ⟨w2.heap.size, 0, none⟩) 0 len) []) := ho
  have lb := heap_lt Z2.out
  have l2 := B2.out.size
  generalize hc : w2.heap.size = c at *
  clear ho hg hb1 Z2
  go_wp2_with fail
  go_loopw [7, 18] (fun v u wr => ∃ (k : Nat), k ≤ len ∧ u = .int .i64 k ∧ OpRow wr v (repA o (opsOf f k)) ∧ wr.heap[b]? = some (.cells (wordsOf (repW o (opsOf f k))) 29 (0, 0)) ∧ (∀ q, v.ownBlock = some q → w.heap.size ≤ q ∧ q ≠ b) ∧ Below w.heap.size w wr) (fun _ u _ => len - (intOf u).toNat)
  case atStart => exact ⟨0, Nat.zero_le _, rfl, P3.out, by rw [opsOf_zero, repW_nil, HM.out]; exact Z3.out, (fun q hq => by (have e : c = q := by simpa [Value.ownBlock] using hq); omega), B3.out⟩
  case round =>
    obtain ⟨k, hk, rfl, hA, hB, hq, hb⟩ := hrel
    have AR := Lib.hid hA
    have BR := Lib.hid hB
    have QR := Lib.hid hq
    have XR := Lib.hid hb
    clear hA hB hq hb P3 Z3 B3 B2 B1
    by_cases hl2 : k < len
    · have l3 : (k : Int) < (len : Int) := by omega
      obtain ⟨bb, off, rfl, q0, q1⟩ := (h.out.next XR.out).at hl2
      have OK := Lib.hid (okay_ops h.out k)
      have OS := Lib.hid (opsOf_succ f k)
      have OL := Lib.hid (opsOf_len f k)
      have RW := Lib.hid (repW_lt o (opsOf f k) OK.out)
      have RL2 := Lib.hid (RL.out (opsOf f k))
      have RS := Lib.hid (repW_snoc o (opsOf f k) (f k))
      have RT := Lib.hid (repA_snoc o (opsOf f k) (f k))
      have RN := Lib.hid (repA_len o (opsOf f k))
      generalize f k = x at *
      obtain ⟨A, B⟩ := x
      generalize hL : repW o (opsOf f k) = L at *
      generalize repA o (opsOf f k) = aa at *
      go_wp2_with fail
      obtain ⟨n1, n2, n3⟩ := one_new wr (.cells #[.int .u64 (A : Int), .int .u64 (B : Int)] 40)
      have N2 := Lib.hid n2
      have BB2 : Hid (_ = _) := (n2.block _ (heap_lt BR.out)).trans BR.out
      have A2 := Lib.hid (ORow.next AR.out n2)
      have XR2 := Lib.hid (below_two XR.out n2)
      have lb := heap_lt BR.out
      clear n1 n2 n3
      generalize wr.alloc (.cells #[.int .u64 (A : Int), .int .u64 (B : Int)] 40) = w5 at *
      refine (AP.out b M A B L w5 BB2 (by rw [RL2.out]; exact Nat.le_refl _) RW).mono ?_
      rintro e w6 ⟨rfl, h6, o6⟩
      have A6 := Lib.hid (ORow.stay A2.out o6 (fun q hq => by have := QR.out q hq; simp; omega))
      have B6 := Lib.hid h6
      have XR6 := Lib.hid (XR2.out.trans (o6.below (B := w.heap.size) (by simp; omega) XR2.out.size))
      clear h6 o6 A2 BB2 XR2 N2 AR BR XR
      generalize hY : (obApp o L (A, B)).2 = Y at *
      obtain ⟨y1, y2⟩ := Y
      obtain ⟨n1, n2, n3⟩ := one_new w6 (.cells #[.int .u64 (y1 : Int), .int .u64 (y2 : Int)] 40)
      have lb := heap_lt B6.out
      have ls : w6.heap.size < (w6.alloc (.cells #[.int .u64 (y1 : Int), .int .u64 (y2 : Int)] 40)).heap.size := by omega
      have A7 := ORow.next A6.out n2
      have B7 : Hid (_ = _) := (n2.block _ lb).trans B6.out
      have XR7 := Lib.hid (below_two XR6.out n2)
      have hs6 := XR6.out.size
      obtain ⟨v', w8, hrun, p1, p2, p3, bq, cq, rfl⟩ := OpRow.app (x := (y1, y2)) A7 n1 (by rw [RN.out, OL.out]; omega) 22
      generalize hN6 : w6.heap.size = N6 at *
      go_wp2_with (at_builtin; refine wpList_append_by rfl _ _ 22 22 rfl u7 (.slice (some ⟨N6, 0, none⟩) 1 1) (by rfl) (by rfl) hrun ?_)
      have A8 := Lib.hid p1
      have B8 : Hid (w8.heap[b]? = _) := (p2.block _ (by omega) (fun e => (QR.out b e.symm).2 rfl)).trans B7.out
      have XR8 := Lib.hid (app_below' XR7.out (by have := XR7.out.size; omega) p2 (fun k hk => (QR.out k hk).1))
      have QR8 : Hid (bq ≠ b ∧ w.heap.size ≤ bq) := by
        rcases p3 with e | e
        · exact ⟨(QR.out bq e.symm).2, (QR.out bq e.symm).1⟩
        · have e' : bq = N6 + 1 := by simpa [Value.ownBlock, hN6] using e
          exact ⟨by omega, by omega⟩
      clear p1 p2 p3 hrun A6 B6 XR6 A7 B7 XR7
      go_wp2_with fail
      go_roundw
      case rel => exact ⟨k + 1, by omega, by go_num, by rw [OS.out, RT.out]; exact A8.out, by rw [OS.out, RS.out]; exact B8.out, (fun q hq => by
        have e : bq = q := by simpa [Value.ownBlock] using hq
        rw [← e]; exact ⟨QR8.out.2, QR8.out.1⟩), XR8.out⟩
      case measure => simp [intOf]; omega
    · obtain rfl : k = len := by omega
      go_wp2_with fail
      go_ret2
      exact ⟨_, _, rfl, AR.out, BR.out, QR.out, by omega, XR.out⟩
end Go.Proofs.Ytmdjhjfmnkileaa
