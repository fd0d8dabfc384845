/-
  A map from blocks to counts, of which only the keys matter: what m[k]++ does to it, in either order.
-/
import Derived.Test.YtehmeccjgjhidaaDoorStockJ
import Derived.WideKeyEntry
namespace Go.Proofs.YtehmeccjgjhidaaDoor
open Go.RowKit Go.Maps Go.Sort Go.WideMaps Go.ChangeShapes Go.WideShapes Go.MapKept Go.ChangeMaps Go.WideElems

/-- Where an entry is asked for, it is laid as it stands, or as zero. -/
theorem entry_form {w : World} {b : Nat} {es : Array MapEntry} {clock : Nat} {R : Value → Option (DataW Unit × List MemPlace)} (hb : w.heap[b]? = some (.map es clock)) (F : Fit Tryd.prog 32 R es clock) {x : Int × Int} (hx : Bd x) :
    ∃ (v0 : Value) (st : Nat) (w1 : World), (Instr.mapEntry 30 (.map (some b)) (bkV x)).run Tryd.prog w = .ok (.tuple #[v0, goInt st]) w1 ∧ (Instr.mapUpdate 30 (.map (some b)) (bkV x) v0).run Tryd.prog w = .ok () w1 ∧ (v0 = .int .i64 0 ∨ ∃ e0 ∈ es.toList, v0 = e0.val) := by
  have ht := Tryd.underlying30
  have hkey := key_bk hx
  rcases bk_law0.find w hkey es.toList F.keys with ⟨h1, h2⟩ | ⟨j, e0, h1, h2, h3⟩
  · refine ⟨.int .i64 0, clock, setBlock w b (.map (es.push ⟨bkV x, .int .i64 0, clock⟩) (clock + 1)), ?_, ?_, .inl rfl⟩
    · simp [Instr.mapEntry, run_underlying ht, MapKept.run_getObj_map hb, bk_law0.check w false hkey, h1, MapKept.run_setObj_map _ hb, Result.andThen, setBlock]
    · simp [Instr.mapUpdate, run_underlying ht, MapKept.run_getObj_map hb, bk_law0.check w false hkey, h1, MapKept.run_setObj_map _ hb, Result.andThen, setBlock]
  · have hj : es[j]? = some e0 := by simpa using h2
    have hm : es.modify j (fun e => { e with key := bkV x, val := e0.val }) = es.modify j (fun e => { e with key := bkV x }) := by
      apply Array.ext'
      rw [Array.toList_modify, Array.toList_modify, modify_eq_set _ _ _ _ h2, modify_eq_set _ _ _ _ h2]
    refine ⟨e0.val, e0.born, setBlock w b (.map (es.modify j (fun e => { e with key := bkV x })) clock), ?_, ?_, .inr ⟨e0, List.mem_of_getElem? h2, rfl⟩⟩
    · simp [Instr.mapEntry, run_underlying ht, MapKept.run_getObj_map hb, bk_law0.check w false hkey, h1, hj, h3, bk_law0.stays w hkey, MapKept.run_setObj_map _ hb, Result.andThen, setBlock]
    · simp [Instr.mapUpdate, run_underlying ht, MapKept.run_getObj_map hb, bk_law0.check w false hkey, h1, hj, h3, hm, bk_law0.stays w hkey, MapKept.run_setObj_map _ hb, Result.andThen, setBlock]
/-- Block b is a map from blocks to ints, of at most n entries; its keys are the members of S. -/
def BCnt (w : World) (b n : Nat) (S : List (Int × Int)) : Prop :=
  ∃ D : DataW Unit, w.ownsMap Tryd.prog 32 (plainElem Tryd.prog 3) b n D ∧ IsMap D ∧ size D = S.length ∧ ∀ x, Bd x → has D (bkL x) = decide (x ∈ S)
def addK (S : List (Int × Int)) (x : Int × Int) : List (Int × Int) := if x ∈ S then S else S ++ [x]
theorem mem_addK {S : List (Int × Int)} {x y : Int × Int} : y ∈ addK S x ↔ y ∈ S ∨ y = x := by
  unfold addK
  split
  · rename_i h
    exact ⟨.inl, fun q => q.elim id (fun e => by rw [e]; exact h)⟩
  · simp
theorem nodup_addK {S : List (Int × Int)} (h : S.Nodup) (x : Int × Int) : (addK S x).Nodup := by
  unfold addK
  split
  · exact h
  · rename_i hx
    exact List.nodup_append.2 ⟨h, by simp, fun a ha c hc e => by simp only [List.mem_singleton] at hc; subst hc; subst e; exact hx ha⟩
/-- A list without twins, all of whose members another list has, is no longer than that one. -/
theorem nodup_le {α : Type} [DecidableEq α] : ∀ (S L : List α), S.Nodup → (∀ x ∈ S, x ∈ L) → S.length ≤ L.length
  | [], _, _, _ => Nat.zero_le _
  | x :: S, L, hn, hs => by
    obtain ⟨h1, h2⟩ := List.nodup_cons.1 hn
    have hx := hs x (by simp)
    have ih := nodup_le S (L.erase x) h2 (fun y hy => (List.mem_erase_of_ne (fun e => h1 (by rw [← e]; exact hy))).2 (hs y (List.mem_cons_of_mem _ hy)))
    rw [List.length_erase_of_mem hx] at ih
    have := List.length_pos_of_mem hx
    simp only [List.length_cons]
    omega
section
variable {w w' : World} {b n : Nat} {S : List (Int × Int)}
theorem BCnt.made (w : World) : BCnt (w.alloc (.map #[] 0)) w.heap.size 0 [] :=
  ⟨.map [], World.ownsMap_made _ _ _ _, isMap_empty, rfl, fun i _ => by simp; rfl⟩
theorem BCnt.lt (h : BCnt w b n S) : b < w.heap.size := by
  obtain ⟨D, h1, _⟩ := h
  exact h1.lt
theorem BCnt.keep (h : BCnt w b n S) (e : w'.heap[b]? = w.heap[b]?) : BCnt w' b n S := by
  obtain ⟨D, ⟨es, clock, hb, F⟩, h2⟩ := h
  exact ⟨D, ⟨es, clock, e.trans hb, F⟩, h2⟩
theorem BCnt.next (h : BCnt w b n S) (hb : Below w.heap.size w w') : BCnt w' b n S := h.keep (hb.block b h.lt)
theorem BCnt.stay {q : List Nat} (h : BCnt w b n S) (x : Only q w w') (hq : b ∉ q) : BCnt w' b n S := h.keep (x.block b h.lt hq)
theorem BCnt.len (h : BCnt w b n S) (ty : TypeId) : (Builtin.len_ #[30] ty #[.map (some b)]).run Tryd.prog w = .ok (.int .i64 S.length) w := by
  obtain ⟨D, h1, _, h3, _⟩ := h
  rw [← h3]
  exact h1.len Tryd.underlying30 ty
theorem BCnt.look (h : BCnt w b n S) {x : Int × Int} (hx : Bd x) : ∃ i, (Lit.int .i64 i).wf = true ∧ (Instr.lookup 30 (.map (some b)) (bkV x) false).run Tryd.prog w = .ok (.int .i64 i) w := by
  obtain ⟨D, h1, _⟩ := h
  obtain ⟨v, ps, hrun, hv⟩ := h1.lookup bk_law Tryd.underlying30 (zeroIn w) (plainElem_int Tryd.underlying3 (by decide)) (key_bk hx)
  obtain ⟨c, hc, _, hw⟩ := plainElem_int_inv Tryd.underlying3 hv
  exact ⟨c, hw, by rw [hrun, hc]⟩
theorem BCnt.put (h : BCnt w b n S) {x : Int × Int} (hx : Bd x) {i : Int} (hi : (Lit.int .i64 i).wf = true) (hn : n < 1048576) :
    ∃ w', (Instr.mapUpdate 30 (.map (some b)) (bkV x) (.int .i64 i)).run Tryd.prog w = .ok () w' ∧ BCnt w' b (n + 1) (addK S x) ∧ w.grownBy w' (some b) := by
  obtain ⟨D, h1, h2, h3, h4⟩ := h
  obtain ⟨w', hrun, q4, q5⟩ := h1.update bk_law Tryd.underlying30 (by unfold maxLen; omega) (key_bk hx) (plainElem_int Tryd.underlying3 (a := i) hi)
  have kl : WideAt.IsKeyLit (bkL x) := trivial
  refine ⟨w', hrun, ⟨_, q4, h2.put _ _, ?_, fun y hy => ?_⟩, q5⟩
  · rw [size_put (h1.tidy bk_law), h4 x hx]
    unfold addK
    by_cases e : x ∈ S
    · simp [e, h3]
    · simp [e, h3]
  · by_cases e : y = x
    · subst e
      rw [has_put_same h2 kl]
      simp [mem_addK]
    · rw [has_put_other (fun h => e (bkL_inj hy hx h)), h4 y hy]
      simp [mem_addK, e]
/-- What m[k]++ does, once its entry is asked for: the map as it then stands, and what any store makes of it. -/
theorem BCnt.entry (h : BCnt w b n S) {x : Int × Int} (hx : Bd x) (hn : n < 1048576) :
    ∃ (v0 : Value) (st : Nat) (w1 : World), (Instr.mapEntry 30 (.map (some b)) (bkV x)).run Tryd.prog w = .ok (.tuple #[v0, goInt st]) w1 ∧ BCnt w1 b (n + 1) (addK S x) ∧ w.grownBy w1 (some b) ∧
      ∀ i : Int, (Lit.int .i64 i).wf = true → ∃ w2, (Instr.entryStore 30 (.map (some b)) (goInt st) (.int .i64 i)).run Tryd.prog w1 = .ok () w2 ∧ BCnt w2 b (n + 1) (addK S x) ∧ w.grownBy w2 (some b) := by
  obtain ⟨D, ⟨es, clock, hb, F, hs, hD⟩, h2⟩ := h
  have h : BCnt w b n S := ⟨D, ⟨es, clock, hb, F, hs, hD⟩, h2⟩
  obtain ⟨v0, st, w1, r1, r2, r3⟩ := entry_form hb F hx
  obtain ⟨v0', st', es1, clock1, e1, _, e3⟩ := entry_then_store bk_law0 Tryd.underlying30 zeroIn hb F (key_bk hx)
  rw [r1] at e1
  simp only [Result.ok.injEq, Value.tuple.injEq, Array.mk.injEq, List.cons.injEq, and_true] at e1
  obtain ⟨⟨rfl, hst⟩, rfl⟩ := e1
  have hv : ∃ i, (Lit.int .i64 i).wf = true ∧ v0 = .int .i64 i := by
    rcases r3 with rfl | ⟨e0, he, rfl⟩
    · exact ⟨0, by decide, rfl⟩
    · obtain ⟨y, hy⟩ := F.reads e0 he
      unfold WideElems.rd at hy
      cases hR : plainElem (H := Unit) Tryd.prog 3 e0.val with
      | none => rw [hR] at hy; simp at hy
      | some z =>
        obtain ⟨c, hc, _, hw⟩ := plainElem_int_inv Tryd.underlying3 hR
        exact ⟨c, hw, hc⟩
  obtain ⟨i0, hi0, rfl⟩ := hv
  obtain ⟨w1', u1, u2, u3⟩ := h.put hx hi0 hn
  rw [r2] at u1
  cases u1
  have hb1 : (setBlock w b (.map es1 clock1)).heap[b]? = some (.map es1 clock1) := heap_setBlock_same hb _
  refine ⟨_, st, _, r1, u2, u3, fun i hi => ?_⟩
  obtain ⟨es', clock', q1, q2⟩ := e3 _ (.int .i64 i) hb1
  obtain ⟨w2', p1, p2, p3⟩ := h.put hx hi hn
  rw [q2] at p1
  cases p1
  rw [← hst] at q1
  have hse : setBlock (setBlock w b (.map es1 clock1)) b (.map es' clock') = setBlock w b (.map es' clock') := by simp [setBlock]
  rw [hse] at q1
  exact ⟨_, q1, p2, p3⟩
end
end Go.Proofs.YtehmeccjgjhidaaDoor
