/-
  A Stock and the statements' own piles beside it, each of blocks of its own.
-/
import Derived.Test.YtehmeccjgjhidaaDoorStockW
namespace Go.Proofs.YtehmeccjgjhidaaDoor
open Go.RowKit Go.Maps Go.Sort

/-- Blocks that may be, each once. -/
def GoodP (S : Int) (len : Nat) (f : Nat → Int) (k : Nat) (l : List (Int × Int)) : Prop := l.Nodup ∧ ∀ x ∈ l, adrI S len f (k : Nat) x.1 x.2 ≠ 0
theorem adr_in {S : Int} {len : Nat} {f : Nat → Int} {k s i : Int} (ok : ClsOk len f) (h : adrI S len f k s i ≠ 0) : 0 ≤ s ∧ s < S ∧ 0 ≤ i ∧ i < capI len f k ∧ i < 64 := by
  unfold adrI at h
  split at h
  · exact absurd rfl h
  · have := capI_bd (k := k) ok
    omega
theorem GoodP.nil {S : Int} {len : Nat} {f : Nat → Int} {k : Nat} : GoodP S len f k [] := ⟨List.nodup_nil, fun _ h => by cases h⟩
section
variable {S : Int} {len : Nat} {f : Nat → Int} {k : Nat} {l : List (Int × Int)}
theorem GoodP.fine (h : GoodP S len f k l) (ok : ClsOk len f) : Fine64 l := fun x hx => by
  have := adr_in ok (h.2 x hx)
  omega
theorem GoodP.supers (h : GoodP S len f k l) (ok : ClsOk len f) : ∀ x ∈ l, 0 ≤ x.1 ∧ x.1 < S := fun x hx => by
  have := adr_in ok (h.2 x hx)
  omega
theorem GoodP.push (h : GoodP S len f k l) (x : Int × Int) : GoodP S len f k (pushL S len f k l x) := by
  unfold pushL
  split
  · rename_i c
    refine ⟨?_, fun y hy => ?_⟩
    · rw [List.nodup_append]
      exact ⟨h.1, by simp, fun a ha b hb e => by simp at hb; subst hb; subst e; exact c.2 ha⟩
    · rcases List.mem_append.1 hy with h1 | h1
      · exact h.2 y h1
      · simp at h1; subst h1; exact c.1
  · exact h
theorem GoodP.fill (xs : List (Int × Int)) : ∀ {l : List (Int × Int)}, GoodP S len f k l → GoodP S len f k (fillL S len f k l xs) := by
  induction xs with
  | nil => intro l h; exact h
  | cons x xs ih => intro l h; exact ih (h.push x)
theorem GoodP.sub (h : GoodP S len f k l) {l' : List (Int × Int)} (hs : l'.Sublist l) : GoodP S len f k l' := ⟨h.1.sublist hs, fun x hx => h.2 x (hs.subset hx)⟩
end

/-- What was made since, too. -/
def ext (A : Nat → Prop) (N : Nat) (w : World) : Nat → Prop := fun b => A b ∨ (N ≤ b ∧ b < w.heap.size)
/-- Of what there was below N nothing turned but what is told. -/
structure Kp (A : Nat → Prop) (N : Nat) (w w' : World) : Prop where
  os : w'.os = w.os
  tape : w'.tape = w.tape
  output : w'.output = w.output
  size : w.heap.size ≤ w'.heap.size
  block : ∀ k, k < N → ¬ A k → w'.heap[k]? = w.heap[k]?
section
variable {A : Nat → Prop} {N : Nat} {w w' w'' : World}
theorem Kp.refl (A : Nat → Prop) (N : Nat) (w : World) : Kp A N w w := ⟨rfl, rfl, rfl, Nat.le_refl _, fun _ _ _ => rfl⟩
theorem Kp.trans (x : Kp A N w w') (y : Kp A N w' w'') : Kp A N w w'' := ⟨y.os.trans x.os, y.tape.trans x.tape, y.output.trans x.output, Nat.le_trans x.size y.size, fun k h1 h2 => (y.block k h1 h2).trans (x.block k h1 h2)⟩
theorem Kp.of_below (x : Below w.heap.size w w') (hN : N ≤ w.heap.size) : Kp A N w w' := ⟨x.os, x.tape, x.output, x.size, fun k h1 _ => x.block k (by omega)⟩
theorem Kp.of_only {l : List Nat} (x : Only l w w') (hl : ∀ b ∈ l, ext A N w b) (hN : N ≤ w.heap.size) : Kp A N w w' :=
  ⟨x.os, x.tape, x.output, x.size, fun k h1 h2 => x.block k (by omega) (fun hm => by rcases hl k hm with h | h; exact h2 h; omega)⟩
theorem Kp.below {n : Nat} (x : Kp A N w w') (hA : ∀ b, A b → n ≤ b) (hn : n ≤ N) : Below n w w' :=
  ⟨x.os, x.tape, x.output, x.size, fun k h1 => x.block k (by omega) (fun h => by have := hA k h; omega)⟩
end
structure Pr (w : World) (A : Nat → Prop) (sb clb pb qb : Nat) (W S B T : Int) (len : Nat) (f : Nat → Int) (n : Nat) (P R : Nat → List (Int × Int)) (L : Nat → Value) (M : Nat → Nat) (Q : Nat → Value) : Prop where
  st : Stk w sb clb pb W S B T len f n P L M
  pil : w.heap[qb]? = some (.cells ((List.range len).map Q).toArray 25 (0, 0))
  rows : ∀ k, k < len → BkRow w (Q k) (R k)
  good : ∀ k, k < len → GoodP S len f k (P k)
  a0 : ∀ b, A b → b < w.heap.size
  a1 : A sb ∧ A clb ∧ A pb ∧ A qb
  a2 : ∀ k, k < len → A (M k)
  a3 : ∀ k b, k < len → (L k).ownBlock = some b → A b
  a4 : ∀ k b, k < len → (Q k).ownBlock = some b → A b
  ap : ∀ j k b, j < len → k < len → (L j).ownBlock = some b → (Q k).ownBlock ≠ some b
section
variable {w w' : World} {A A' : Nat → Prop} {sb clb pb qb : Nat} {W S B T : Int} {len : Nat} {f : Nat → Int} {n N : Nat} {P R : Nat → List (Int × Int)} {L : Nat → Value} {M : Nat → Nat} {Q : Nat → Value}
theorem Stk.keep (h : Stk w sb clb pb W S B T len f n P L M) (e : ∀ b, (b = sb ∨ b = clb ∨ b = pb ∨ (∃ k, k < len ∧ b = M k) ∨ ∃ k, k < len ∧ (L k).ownBlock = some b) → w'.heap[b]? = w.heap[b]?) : Stk w' sb clb pb W S B T len f n P L M :=
  ⟨(e _ (.inl rfl)).trans h.box, (e _ (.inr (.inl rfl))).trans h.row, (e _ (.inr (.inr (.inl rfl)))).trans h.pil, fun k hk => ORow.keep (h.lst k hk) (fun b hb => e b (.inr (.inr (.inr (.inr ⟨k, hk, hb⟩))))), fun k hk => (h.set k hk).keep (e _ (.inr (.inr (.inr (.inl ⟨k, hk, rfl⟩))))), h.bd, h.dM, h.dL⟩
/-- Another one's blocks turned. -/
theorem Pr.apart {C : Nat → Prop} (h : Pr w A sb clb pb qb W S B T len f n P R L M Q) (x : Kp C w.heap.size w w') (hc : ∀ b, A b → ¬ C b) : Pr w' A sb clb pb qb W S B T len f n P R L M Q := by
  have e : ∀ b, A b → w'.heap[b]? = w.heap[b]? := fun b hb => x.block b (h.a0 b hb) (hc b hb)
  refine ⟨h.st.keep (fun b hb => e b ?_), (e _ h.a1.2.2.2).trans h.pil, fun k hk => ORow.keep (h.rows k hk) (fun b hb => e b (h.a4 k b hk hb)), h.good, fun b hb => by have := h.a0 b hb; have := x.size; omega, h.a1, h.a2, h.a3, h.a4, h.ap⟩
  rcases hb with rfl | rfl | rfl | ⟨k, hk, rfl⟩ | ⟨k, hk, hb⟩
  · exact h.a1.1
  · exact h.a1.2.1
  · exact h.a1.2.2.1
  · exact h.a2 k hk
  · exact h.a3 k b hk hb
theorem Pr.more (h : Pr w A sb clb pb qb W S B T len f n P R L M Q) (h1 : ∀ b, A b → A' b) (h2 : ∀ b, A' b → b < w.heap.size) : Pr w A' sb clb pb qb W S B T len f n P R L M Q :=
  ⟨h.st, h.pil, h.rows, h.good, h2, ⟨h1 _ h.a1.1, h1 _ h.a1.2.1, h1 _ h.a1.2.2.1, h1 _ h.a1.2.2.2⟩, fun k hk => h1 _ (h.a2 k hk), fun k b hk hb => h1 _ (h.a3 k b hk hb), fun k b hk hb => h1 _ (h.a4 k b hk hb), h.ap⟩
theorem Pr.start (h : Pr w A sb clb pb qb W S B T len f n P R L M Q) : Pr w (ext A w.heap.size w) sb clb pb qb W S B T len f n P R L M Q :=
  h.more (fun b hb => .inl hb) (fun b hb => by rcases hb with hb | hb; exact h.a0 b hb; omega)
theorem Pr.next (h : Pr w (ext A N w) sb clb pb qb W S B T len f n P R L M Q) (x : Below w.heap.size w w') : Pr w' (ext A N w') sb clb pb qb W S B T len f n P R L M Q := by
  have e : ∀ b, ext A N w b → w'.heap[b]? = w.heap[b]? := fun b hb => x.block b (h.a0 b hb)
  have q : ∀ b, ext A N w b → ext A N w' b := fun b hb => by rcases hb with hb | hb; exact .inl hb; exact .inr ⟨hb.1, by have := x.size; omega⟩
  exact ⟨h.st.next x, (e _ h.a1.2.2.2).trans h.pil, fun k hk => ORow.next (h.rows k hk) x, h.good, fun b hb => by rcases hb with hb | hb; have := h.a0 b (.inl hb); have := x.size; omega; exact hb.2, ⟨q _ h.a1.1, q _ h.a1.2.1, q _ h.a1.2.2.1, q _ h.a1.2.2.2⟩, fun k hk => q _ (h.a2 k hk), fun k b hk hb => q _ (h.a3 k b hk hb), fun k b hk hb => q _ (h.a4 k b hk hb), h.ap⟩
theorem Pr.cell (h : Pr w A sb clb pb qb W S B T len f n P R L M Q) {k : Nat} (hk : k < len) : w.cell? ⟨qb, k, none⟩ = some (Q k) := by
  rw [cell_of h.pil]
  simp [hk]
/-- One of the piles beside it is another row. -/
theorem Pr.put (h : Pr w (ext A N w) sb clb pb qb W S B T len f n P R L M Q) {k : Nat} (hk : k < len) {v : Value} {l : List (Int × Int)} (hv : BkRow w v l) (ho : ∀ b, v.ownBlock = some b → ext A N w b ∧ ∀ j, j < len → (L j).ownBlock ≠ some b) :
    Pr (w.setCell ⟨qb, k, none⟩ v) (ext A N (w.setCell ⟨qb, k, none⟩ v)) sb clb pb qb W S B T len f n P (updP R k l) L M (updL Q k v) ∧ Only [qb] w (w.setCell ⟨qb, k, none⟩ v) := by
  have o : Only [qb] w (w.setCell ⟨qb, k, none⟩ v) := Only.of_set (by simp) _
  have q : ∀ b, ext A N w b → ext A N (w.setCell ⟨qb, k, none⟩ v) b := fun b hb => by rcases hb with hb | hb; exact .inl hb; exact .inr ⟨hb.1, by have := o.size; omega⟩
  have bk : ∀ (u : Value) (l' : List (Int × Int)), BkRow w u l' → BkRow (w.setCell ⟨qb, k, none⟩ v) u l' := fun u l' hu => ORow.stay hu o (fun b hb hm => by
    simp at hm
    subst hm
    obtain ⟨cur, hc⟩ := hu.obj hb
    have := hc.symm.trans h.pil
    simp only [Option.some.injEq, Obj.cells.injEq] at this
    exact absurd this.2.1 (by decide))
  refine ⟨⟨h.st.keep (fun b hb => o.block b ?_ ?_), ?_, fun j hj => ?_, h.good, fun b hb => ?_, ⟨q _ h.a1.1, q _ h.a1.2.1, q _ h.a1.2.2.1, q _ h.a1.2.2.2⟩, fun j hj => q _ (h.a2 j hj), fun j b hj hb => q _ (h.a3 j b hj hb), fun j b hj hb => ?_, fun i j b hi hj e1 e2 => ?_⟩, o⟩
  · rcases hb with rfl | rfl | rfl | ⟨j, hj, rfl⟩ | ⟨j, hj, hb⟩
    · exact heap_lt h.st.box
    · exact heap_lt h.st.row
    · exact heap_lt h.st.pil
    · exact (h.st.set j hj).lt
    · exact (h.st.lst j hj).lt' hb
  · simp only [List.mem_singleton]
    rintro rfl
    have pp := h.pil
    rcases hb with rfl | rfl | rfl | ⟨j, hj, rfl⟩ | ⟨j, hj, hb⟩
    · have := h.st.box.symm.trans pp
      simp only [Option.some.injEq, Obj.cells.injEq] at this
      exact absurd this.2.1 (by decide)
    · have := h.st.row.symm.trans pp
      simp only [Option.some.injEq, Obj.cells.injEq] at this
      exact absurd this.2.1 (by decide)
    · have := h.st.pil.symm.trans pp
      simp only [Option.some.injEq, Obj.cells.injEq] at this
      exact absurd this.2.1 (by decide)
    · obtain ⟨es, c, hm⟩ := (h.st.set j hj).obj
      have := hm.symm.trans pp
      simp at this
    · obtain ⟨cur, hc⟩ := (h.st.lst j hj).obj hb
      have := hc.symm.trans pp
      simp only [Option.some.injEq, Obj.cells.injEq] at this
      exact absurd this.2.1 (by decide)
  · rw [set_of h.pil]
    congr 2
    apply Array.ext'
    apply List.ext_getElem?
    intro j
    simp only [Array.toList_setIfInBounds, List.getElem?_set, List.getElem?_map, List.length_map, List.length_range]
    by_cases e : k = j
    · subst e; simp [hk, updL]
    · rw [if_neg e]
      by_cases hj : j < len
      · simp [hj, updL, show ¬ j = k from fun h => e h.symm]
      · simp [hj]
  · unfold updL updP
    by_cases e : j = k
    · rw [if_pos e, if_pos e]; exact bk _ _ hv
    · rw [if_neg e, if_neg e]; exact bk _ _ (h.rows j hj)
  · rcases hb with hb | hb
    · have := h.a0 b (.inl hb); have := o.size; omega
    · exact hb.2
  · unfold updL at hb
    by_cases e : j = k
    · rw [if_pos e] at hb; exact q _ (ho b hb).1
    · rw [if_neg e] at hb; exact q _ (h.a4 j b hj hb)
  · unfold updL at e2
    by_cases e : j = k
    · rw [if_pos e] at e2; exact (ho b e2).2 i hi e1
    · rw [if_neg e] at e2; exact h.ap i j b hi hj e1 e2
/-- The Stock turned. -/
theorem Pr.stk {n' : Nat} {l' : List (Int × Int)} {v' : Value} {k : Nat} (h : Pr w (ext A N w) sb clb pb qb W S B T len f n P R L M Q) (hk : k < len) (hs : Stk w' sb clb pb W S B T len f n' (updP P k l') (updL L k v') M) (x : Only ([pb, M k] ++ (L k).ownBlock.toList) w w') (ho : ∀ b, v'.ownBlock = some b → (L k).ownBlock = some b ∨ w.heap.size ≤ b) (hg : GoodP S len f k l') (hN : N ≤ w.heap.size) :
    Pr w' (ext A N w') sb clb pb qb W S B T len f n' (updP P k l') R (updL L k v') M Q := by
  have q : ∀ b, ext A N w b → ext A N w' b := fun b hb => by rcases hb with hb | hb; exact .inl hb; exact .inr ⟨hb.1, by have := x.size; omega⟩
  refine ⟨hs, x.at h.pil ?_, fun j hj => ORow.stay (h.rows j hj) x (fun b hb hm => ?_), fun j hj => ?_, fun b hb => ?_, ⟨q _ h.a1.1, q _ h.a1.2.1, q _ h.a1.2.2.1, q _ h.a1.2.2.2⟩, fun j hj => q _ (h.a2 j hj), fun j b hj hb => ?_, fun j b hj hb => q _ (h.a4 j b hj hb), fun i j b hi hj e1 e2 => ?_⟩
  · have pp := h.pil
    intro hm
    simp only [List.cons_append, List.nil_append, List.mem_cons, Option.mem_toList] at hm
    rcases hm with e | e | e
    · rw [e] at pp
      have := h.st.pil.symm.trans pp
      simp only [Option.some.injEq, Obj.cells.injEq] at this
      exact absurd this.2.1 (by decide)
    · rw [e] at pp
      obtain ⟨es, c, hm⟩ := (h.st.set k hk).obj
      have := hm.symm.trans pp
      simp at this
    · obtain ⟨cur, hc⟩ := (h.st.lst k hk).obj e
      have := hc.symm.trans pp
      simp only [Option.some.injEq, Obj.cells.injEq] at this
      exact absurd this.2.1 (by decide)
  · obtain ⟨cur, hc⟩ := (h.rows j hj).obj hb
    simp only [List.cons_append, List.nil_append, List.mem_cons, Option.mem_toList] at hm
    rcases hm with e | e | e
    · rw [e] at hc
      have := h.st.pil.symm.trans hc
      simp only [Option.some.injEq, Obj.cells.injEq] at this
      exact absurd this.2.1 (by decide)
    · rw [e] at hc
      obtain ⟨es, c, hm⟩ := (h.st.set k hk).obj
      have := hm.symm.trans hc
      simp at this
    · exact h.ap k j b hk hj e hb
  · unfold updP
    by_cases e : j = k
    · rw [if_pos e, e]; exact hg
    · rw [if_neg e]; exact h.good j hj
  · rcases hb with hb | hb
    · have := h.a0 b (.inl hb); have := x.size; omega
    · exact hb.2
  · have hl := (hs.lst j hj).lt' hb
    unfold updL at hb
    by_cases e : j = k
    · rw [if_pos e] at hb
      rcases ho b hb with h1 | h1
      · exact q _ (h.a3 k b hk h1)
      · exact .inr ⟨by omega, hl⟩
    · rw [if_neg e] at hb; exact q _ (h.a3 j b hj hb)
  · unfold updL at e1
    by_cases e : i = k
    · rw [if_pos e] at e1
      rcases ho b e1 with h1 | h1
      · exact h.ap k j b hk hj h1 e2
      · have := (h.rows j hj).lt' e2; omega
    · rw [if_neg e] at e1; exact h.ap i j b hi hj e1 e2
/-- What a call on the Stock may turn. -/
theorem Pr.own (h : Pr w A sb clb pb qb W S B T len f n P R L M Q) {k : Nat} (hk : k < len) : ∀ b ∈ [pb, M k] ++ (L k).ownBlock.toList, A b := fun b hm => by
  simp only [List.cons_append, List.nil_append, List.mem_cons, Option.mem_toList] at hm
  rcases hm with rfl | rfl | e
  · exact h.a1.2.2.1
  · exact h.a2 k hk
  · exact h.a3 k b hk e
end
end Go.Proofs.YtehmeccjgjhidaaDoor
