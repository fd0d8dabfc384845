/-
  A Stock of which one class alone is used.
-/
import Derived.Test.YtehmeccjgjhidaaDoorStockSa
namespace Go.Proofs.YtehmeccjgjhidaaDoor
open Go.RowKit Go.Maps Go.Sort
attribute [local go_sem] Oper.semAt_some

def noneV : Nat → Value := fun _ => .slice none 0 0
def noneP : Nat → List (Int × Int) := fun _ => []
theorem updP_at' (P : Nat → List (Int × Int)) (k : Nat) (l : List (Int × Int)) : updP P k l k = l := by simp [updP]
theorem updL_at (L : Nat → Value) (k : Nat) (v : Value) : updL L k v k = v := by simp [updL]
/-- Its pile is l, kept in v; all that may turn lies at n0 and above. -/
structure S1 (w : World) (n0 sb clb pb : Nat) (W S B T : Int) (len : Nat) (f : Nat → Int) (k n : Nat) (l : List (Int × Int)) (v : Value) (M : Nat → Nat) : Prop where
  st : Stk w sb clb pb W S B T len f n (updP noneP k l) (updL noneV k v) M
  gd : GoodP S len f k l
  kl : k < len
  lo : n0 ≤ pb ∧ n0 ≤ M k ∧ ∀ b, v.ownBlock = some b → n0 ≤ b
section
variable {w w' : World} {n0 sb clb pb : Nat} {W S B T : Int} {len : Nat} {f : Nat → Int} {k n : Nat} {l : List (Int × Int)} {v : Value} {M : Nat → Nat}
theorem S1.next (h : S1 w n0 sb clb pb W S B T len f k n l v M) (x : Below w.heap.size w w') : S1 w' n0 sb clb pb W S B T len f k n l v M := ⟨h.st.next x, h.gd, h.kl, h.lo⟩
theorem S1.own (h : S1 w n0 sb clb pb W S B T len f k n l v M) {b : Nat} (e : v.ownBlock = some b) : ∃ cur, w.heap[b]? = some (.cells cur 32 (0, 0)) := (h.st.lst k h.kl).obj (by rw [updL_at]; exact e)
theorem S1.few (h : S1 w n0 sb clb pb W S B T len f k n l v M) : l.length ≤ n := by have := (h.st.bd k h.kl).1; rwa [updP_at'] at this
theorem S1.bd (h : S1 w n0 sb clb pb W S B T len f k n l v M) : ∀ x ∈ l, Bd x := by have := (h.st.bd k h.kl).2; rwa [updP_at'] at this
/-- Other rows of blocks turn. -/
theorem S1.stay {q : List Nat} (h : S1 w n0 sb clb pb W S B T len f k n l v M) (x : Only q w w') (hq : ∀ b ∈ q, (∃ cur, w.heap[b]? = some (.cells cur 32 (0, 0))) ∧ v.ownBlock ≠ some b) : S1 w' n0 sb clb pb W S B T len f k n l v M := by
  refine ⟨h.st.keep (fun b hb => ?_), h.gd, h.kl, h.lo⟩
  have no : ∀ o, w.heap[b]? = some o → (∀ cur, o ≠ .cells cur 32 (0, 0)) → w'.heap[b]? = w.heap[b]? := fun o ho hn => x.block b (heap_lt ho) (fun hm => by
    obtain ⟨⟨cur, hc⟩, _⟩ := hq b hm
    rw [ho] at hc
    exact hn cur (by simpa using hc))
  rcases hb with rfl | rfl | rfl | ⟨j, hj, rfl⟩ | ⟨j, hj, hb⟩
  · exact no _ h.st.box (fun cur e => by simp only [Obj.cells.injEq] at e; exact absurd e.2.1 (by decide))
  · exact no _ h.st.row (fun cur e => by simp only [Obj.cells.injEq] at e; exact absurd e.2.1 (by decide))
  · exact no _ h.st.pil (fun cur e => by simp only [Obj.cells.injEq] at e; exact absurd e.2.1 (by decide))
  · obtain ⟨es, c, hm⟩ := (h.st.set j hj).obj
    exact no _ hm (fun cur e => by cases e)
  · by_cases a : j = k
    · subst a
      rw [updL_at] at hb
      obtain ⟨cur, hc⟩ := h.own hb
      exact x.block b (heap_lt hc) (fun hm => (hq b hm).2 hb)
    · simp only [updL, if_neg a] at hb
      cases hb
/-- What it may turn. -/
theorem S1.down (h : S1 w n0 sb clb pb W S B T len f k n l v M) (o : Only ([pb, M k] ++ v.ownBlock.toList) w w') (hN : n0 ≤ w.heap.size) : Below n0 w w' := o.down h.lo.1 h.lo.2.1 h.lo.2.2 hN
/-- Another row of blocks stands. -/
theorem S1.row (h : S1 w n0 sb clb pb W S B T len f k n l v M) (o : Only ([pb, M k] ++ v.ownBlock.toList) w w') {u : Value} {m : List (Int × Int)} (hu : BkRow w u m) (ha : ∀ b, v.ownBlock = some b → u.ownBlock ≠ some b) : BkRow w' u m := ORow.stay hu o (fun b hb hm => by
  obtain ⟨cur, hc⟩ := hu.obj hb
  simp only [List.cons_append, List.nil_append, List.mem_cons, Option.mem_toList] at hm
  rcases hm with e | e | e
  · rw [e] at hc
    have := h.st.pil.symm.trans hc
    simp only [Option.some.injEq, Obj.cells.injEq] at this
    exact absurd this.2.1 (by decide)
  · rw [e] at hc
    obtain ⟨es, c, hm⟩ := (h.st.set k h.kl).obj
    have := hm.symm.trans hc
    simp at this
  · exact ha b e hb)
theorem s1_new {W S B T : Int} {len : Nat} {f : Nat → Int} {M : Nat → Nat} {k : Nat} (h : Stk w sb clb pb W S B T len f 0 (fun _ => []) (fun _ => .slice none 0 0) M) (hk : k < len) (h1 : n0 ≤ pb) (h2 : n0 ≤ M k) : S1 w n0 sb clb pb W S B T len f k 0 [] (.slice none 0 0) M :=
  ⟨by
    have e1 : updP noneP k [] = fun _ => [] := by funext j; simp [updP, noneP]
    have e2 : updL noneV k (.slice none 0 0) = fun _ => .slice none 0 0 := by funext j; simp [updL, noneV]
    rw [e1, e2]; exact h, GoodP.nil, hk, h1, h2, fun b e => by cases e⟩
end
section
variable (n0 sb clb pb : Nat) (W S B T : Int) (len : Nat) (f : Nat → Int) (k n : Nat) (l : List (Int × Int)) (v : Value) (M : Nat → Nat) (w : World)
theorem s1_len (h : Hid (S1 w n0 sb clb pb W S B T len f k n l v M)) : Calls Tryd.prog 15 #[.pointer (some ⟨sb, 0, none⟩), .int .i64 (k : Nat)] w fun e w' => e = .returned (.int .i64 (l.length : Nat)) ∧ w = w' := by
  have := len_in sb clb pb W S B T len f n _ _ M k w (Lib.hid h.out.st) h.out.kl
  rwa [updP_at'] at this
theorem s1_blocks (h : Hid (S1 w n0 sb clb pb W S B T len f k n l v M)) (hn : n ≤ 1048576) : Calls Tryd.prog 10 #[.pointer (some ⟨sb, 0, none⟩), .int .i64 (k : Nat)] w fun e w' => ∃ v', e = .returned v' ∧ BkRow w' v' l ∧ Below w.heap.size w w' ∧ ∀ b, v'.ownBlock = some b → w.heap.size ≤ b := by
  have := blocks_in sb clb pb W S B T len f n _ _ M k w (Lib.hid h.out.st) h.out.kl hn
  rwa [updP_at'] at this
theorem s1_push (x : Int × Int) (h : Hid (S1 w n0 sb clb pb W S B T len f k n l v M)) (ok : Hid (ClsOk len f)) (s0 : 0 ≤ S) (s1 : S ≤ 1000) (hx : Bd x) (hn : n < 1048576) (hN : n0 ≤ w.heap.size) :
    Calls Tryd.prog 7 #[.pointer (some ⟨sb, 0, none⟩), .int .i64 (k : Nat), .agg #[.int .i64 x.1, .int .i64 x.2]] w fun e w' => e = .returned (.bool (pushB S len f k l x)) ∧ ∃ v', S1 w' n0 sb clb pb W S B T len f k (n + 1) (pushL S len f k l x) v' M ∧ Only ([pb, M k] ++ v.ownBlock.toList) w w' ∧ (v'.ownBlock = v.ownBlock ∨ ∃ b, v'.ownBlock = some b ∧ w.heap.size ≤ b) := by
  have := push_any sb clb pb W S B T len f n _ _ M k x w (Lib.hid h.out.st) h.out.kl ok s0 s1 hx hn
  rw [updP_at', updL_at, upd2] at this
  refine this.mono ?_
  rintro e w' ⟨rfl, v', r1, r2, r3⟩
  rw [upL2] at r1
  refine ⟨rfl, v', ⟨r1, h.out.gd.push x, h.out.kl, h.out.lo.1, h.out.lo.2.1, fun b e => ?_⟩, r2, r3⟩
  rcases r3 with q | ⟨b', q1, q2⟩
  · rw [q] at e; exact h.out.lo.2.2 b e
  · rw [q1] at e; cases e; omega
theorem s1_pop_no (h : Hid (S1 w n0 sb clb pb W S B T len f k n [] v M)) : Calls Tryd.prog 14 #[.pointer (some ⟨sb, 0, none⟩), .int .i64 (k : Nat)] w fun e w' => e = .returned (.tuple #[.agg #[.int .i64 0, .int .i64 0], .bool false]) ∧ Below w.heap.size w w' :=
  pop_no sb clb pb W S B T len f n _ _ M k w (Lib.hid h.out.st) h.out.kl (updP_at' _ _ _)
theorem s1_pop_yes (x : Int × Int) (h : Hid (S1 w n0 sb clb pb W S B T len f k n (l ++ [x]) v M)) (hn : n ≤ 1048576) : Calls Tryd.prog 14 #[.pointer (some ⟨sb, 0, none⟩), .int .i64 (k : Nat)] w fun e w' => e = .returned (.tuple #[.agg #[.int .i64 x.1, .int .i64 x.2], .bool true]) ∧ ∃ v', S1 w' n0 sb clb pb W S B T len f k n l v' M ∧ Only ([pb, M k] ++ v.ownBlock.toList) w w' ∧ v'.ownBlock = v.ownBlock := by
  have nd := h.out.gd.1
  rw [List.nodup_append] at nd
  have fw := h.out.few
  rw [List.length_append, List.length_singleton] at fw
  have := pop_yes sb clb pb W S B T len f n _ _ M k l x w (Lib.hid h.out.st) h.out.kl (updP_at' _ _ _) (h.out.bd x (by simp)) (fun hm => nd.2.2 x hm x (by simp) rfl) (by omega)
  refine this.mono ?_
  rintro e w' ⟨rfl, v', r1, r2, r3⟩
  rw [upd2, upL2] at r1
  rw [updL_at] at r3
  exact ⟨rfl, v', ⟨r1, h.out.gd.sub (List.sublist_append_left l [x]), h.out.kl, h.out.lo.1, h.out.lo.2.1, fun b e => h.out.lo.2.2 b (by rw [← r3]; exact e)⟩, r2.mono (fun b hb => .inl (by simp at hb ⊢; rcases hb with q | q <;> simp [q])), r3⟩
theorem s1_spill_no (h : Hid (S1 w n0 sb clb pb W S B T len f k n l v M)) (b0 : 0 ≤ B) (b1 : B ≤ 1000) (hc : (l.length : Int) ≤ 2 * B) : Calls Tryd.prog 8 #[.pointer (some ⟨sb, 0, none⟩), .int .i64 (k : Nat)] w fun e w' => e = .returned (.tuple #[.int .i64 0, .int .u64 0, .bool false]) ∧ Below w.heap.size w w' :=
  spill_no sb clb pb W S B T len f n _ _ M k w (Lib.hid h.out.st) h.out.kl b0 b1 (by rw [updP_at']; exact hc)
theorem s1_spill_yes (h : Hid (S1 w n0 sb clb pb W S B T len f k n l v M)) (ok : Hid (ClsOk len f)) (b0 : 0 ≤ B) (b1 : B ≤ 1000) (hc : 2 * B < (l.length : Int)) (hn : n ≤ 100000) (hN : n0 ≤ w.heap.size) : Calls Tryd.prog 8 #[.pointer (some ⟨sb, 0, none⟩), .int .i64 (k : Nat)] w fun e w' => ∃ s v', Full l s ∧ e = .returned (.tuple #[.int .i64 s, .int .u64 (maskP (goes s l) : Nat), .bool true]) ∧ S1 w' n0 sb clb pb W S B T len f k n (stays s l) v' M ∧ Only ([pb, M k] ++ v.ownBlock.toList) w w' ∧ ∀ b, v'.ownBlock = some b → w.heap.size ≤ b := by
  have := spill_yes sb clb pb W S B T len f n _ _ M k w (Lib.hid h.out.st) h.out.kl b0 b1 (by rw [updP_at']; exact hc) (by rw [updP_at']; have := h.out.few; omega) (by rw [updP_at']; exact Lib.hid h.out.gd.1) (by rw [updP_at']; exact Lib.hid (h.out.gd.fine ok.out))
  rw [updP_at'] at this
  refine this.mono ?_
  rintro e w' ⟨s, v', hF, rfl, r1, r2, r3⟩
  rw [upd2, upL2] at r1
  exact ⟨s, v', hF, rfl, ⟨r1, h.out.gd.sub List.filter_sublist, h.out.kl, h.out.lo.1, h.out.lo.2.1, fun b e => by have := r3 b e; omega⟩, r2.mono (fun b hb => .inl (by simp at hb ⊢; rcases hb with q | q <;> simp [q])), r3⟩
theorem s1_fill (s : Int) (m : Nat) (h : Hid (S1 w n0 sb clb pb W S B T len f k n l v M)) (hT : Hid (TabAt w)) (ok : Hid (ClsOk len f)) (s0 : 0 ≤ S) (s1 : S ≤ 1000) (hm : m < 18446744073709551616) (hs : (Lit.int .i64 s).wf = true) (hn : n < 1048000) (hN : n0 ≤ w.heap.size) :
    Calls Tryd.prog 12 #[.pointer (some ⟨sb, 0, none⟩), .int .i64 (k : Nat), .int .i64 s, .int .u64 (m : Nat)] w fun e w' => (∃ v, e = .returned v) ∧ ∃ n' v', n' ≤ n + 64 ∧ S1 w' n0 sb clb pb W S B T len f k n' (fillL S len f k l (bksD s m 0)) v' M ∧ Only ([pb, M k] ++ v.ownBlock.toList) w w' ∧ (v'.ownBlock = v.ownBlock ∨ ∃ b, v'.ownBlock = some b ∧ w.heap.size ≤ b) := by
  have := fill_in sb clb pb W S B T len f n _ _ M k s m w (Lib.hid h.out.st) hT h.out.kl ok s0 s1 hm hs hn
  rw [bks_mem, ← memD_all, updP_at', updL_at, upd2] at this
  refine this.mono ?_
  rintro e w' ⟨he, n', v', hn', r1, r2, r3⟩
  rw [upL2] at r1
  refine ⟨he, n', v', hn', ⟨r1, h.out.gd.fill _, h.out.kl, h.out.lo.1, h.out.lo.2.1, fun b e => ?_⟩, r2, r3⟩
  rcases r3 with q | ⟨b', q1, q2⟩
  · rw [q] at e; exact h.out.lo.2.2 b e
  · rw [q1] at e; cases e; omega
end
end Go.Proofs.YtehmeccjgjhidaaDoor
