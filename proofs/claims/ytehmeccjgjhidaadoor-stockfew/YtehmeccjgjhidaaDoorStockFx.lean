/-
  One class, and a map of counts beside it.
-/
import Derived.Test.YtehmeccjgjhidaaDoorStockS1
import Derived.Test.YtehmeccjgjhidaaDoorStockFw
namespace Go.Proofs.YtehmeccjgjhidaaDoor
open Go.RowKit Go.Maps Go.Sort

theorem BCnt.obj {w : World} {b n : Nat} {K : List (Int × Int)} (h : BCnt w b n K) : ∃ es c, w.heap[b]? = some (.map es c) := by
  obtain ⟨D, ⟨es, clock, hb, _⟩, _⟩ := h
  exact ⟨es, clock, hb⟩
section
variable {w w' : World} {n0 sb clb pb : Nat} {W S B T : Int} {len : Nat} {f : Nat → Int} {k n : Nat} {l : List (Int × Int)} {v : Value} {M : Nat → Nat} {G m : Nat} {K : List (Int × Int)}
/-- The counts turn: the Stock stands. -/
theorem S1.beside (h : S1 w n0 sb clb pb W S B T len f k n l v M) (g : BCnt w G m K) (hM : ∀ j, j < len → M j ≠ G) (x : Only [G] w w') : S1 w' n0 sb clb pb W S B T len f k n l v M := by
  obtain ⟨es, c, hg⟩ := g.obj
  exact ⟨h.st.far x (fun b hb o ho => by
    simp only [List.mem_singleton] at hb
    subst hb
    rw [hg] at ho
    cases ho
    rfl) (fun j hj hm => hM j hj (by simpa using hm)), h.gd, h.kl, h.lo⟩
/-- The Stock turns: the counts stand. -/
theorem BCnt.beside (g : BCnt w G m K) (h : S1 w n0 sb clb pb W S B T len f k n l v M) (hM : ∀ j, j < len → M j ≠ G) (o : Only ([pb, M k] ++ v.ownBlock.toList) w w') : BCnt w' G m K := by
  obtain ⟨es, c, hg⟩ := g.obj
  refine g.stay o (fun hm => ?_)
  simp only [List.cons_append, List.nil_append, List.mem_cons, Option.mem_toList] at hm
  rcases hm with e | e | e
  · have := h.st.pil
    rw [← e, hg] at this
    cases this
  · exact hM k h.kl e.symm
  · obtain ⟨cur, hc⟩ := h.own e
    rw [hg] at hc
    cases hc
end
/-- The first i blocks of a row. -/
theorem BkRow.fst {w : World} {b n cap i : Nat} {l : List (Int × Int)} (h : BkRow w (.slice (some ⟨b, 0, none⟩) n cap) l) (hi : i ≤ l.length) : BkRow w (.slice (some ⟨b, 0, none⟩) i cap) (l.take i) := by
  rcases ORow.cases h with ⟨h1, _⟩ | ⟨b', cap', cur, h1, h2, h3, h4, h5, h6⟩
  · cases h1
  · cases h1
    have hl : (l.take i).length = i := by rw [List.length_take]; omega
    refine ⟨by rw [flat_len bkEnc], .inr ⟨b, cap, cur, by rw [hl], Nat.zero_le _, h2, by rw [hl]; omega, h4, h5, ?_⟩⟩
    rw [hl]
    have e : (l.take i).flatMap bkE = (l.flatMap bkE).take (i * 2) := by
      have hs : l.flatMap bkE = (l.take i).flatMap bkE ++ (l.drop i).flatMap bkE := by rw [← List.flatMap_append, List.take_append_drop]
      rw [hs, List.take_append_of_le_length (by rw [flat_len bkEnc, hl]; exact Nat.le_refl _)]
      exact (List.take_of_length_le (by rw [flat_len bkEnc, hl]; exact Nat.le_refl _)).symm
    rw [e, ← h6, List.take_take]
    congr 1
    omega
/-- What has been pushed, what stands in the stock, what has been counted. -/
structure Few (Pd K l : List (Int × Int)) (B : Int) (j : Nat) : Prop where
  len : Pd.length = j
  nd : K.Nodup
  kp : ∀ x ∈ K, x ∈ Pd
  lp : ∀ x ∈ l, x ∈ Pd
  bd : ∀ x ∈ Pd, Bd x
  few : (l.length : Int) ≤ 2 * B
theorem Few.count {Pd K l : List (Int × Int)} {B : Int} {j : Nat} (h : Few Pd K l B j) : K.length ≤ j := by
  have := nodup_le K Pd h.nd h.kp
  rwa [h.len] at this
theorem Few.add {Pd K l : List (Int × Int)} {B : Int} {j : Nat} (h : Few Pd K l B j) {x : Int × Int} (hx : x ∈ Pd) : Few Pd (addK K x) l B j :=
  ⟨h.len, nodup_addK h.nd x, fun y hy => (mem_addK.1 hy).elim (h.kp y) (fun e => by rw [e]; exact hx), h.lp, h.bd, h.few⟩
/-- Steps of a drawn region: a lookup, an entry that is asked for, a store into it. -/
theorem step_look {P : Program} {ops : Array Oper} {Q : Exit → Act → World → Prop} {a : Act} {w w' : World} {K : Act → World → Prop} {o : Oper} {t : TypeId} {m k : Operand} {c : Bool} {vm vk v : Value} (hw : Region.wanted o (yielded ops a.tmps) = true) (hop : o.op = Op.lookup t m k c) (hm : a.eval m = vm) (hk : a.eval k = vk)
    (hrun : (Instr.lookup t vm vk c).run P w = .ok v w') (h : K (a.put o.dst v) w') : if Region.wanted o (yielded ops a.tmps) = true then Oper.wp P o a w K Q else K (a.put o.dst undef) w := by
  rw [if_pos hw]
  unfold Oper.wp
  simp [execOp, hop, hm, hk, hrun, Result.andThen]
  exact h
theorem step_entry {P : Program} {ops : Array Oper} {Q : Exit → Act → World → Prop} {a : Act} {w w' : World} {K : Act → World → Prop} {o : Oper} {t : TypeId} {m k : Operand} {vm vk v : Value} (hw : Region.wanted o (yielded ops a.tmps) = true) (hop : o.op = Op.mapEntry t m k) (hm : a.eval m = vm) (hk : a.eval k = vk)
    (hrun : (Instr.mapEntry t vm vk).run P w = .ok v w') (h : K (a.put o.dst v) w') : if Region.wanted o (yielded ops a.tmps) = true then Oper.wp P o a w K Q else K (a.put o.dst undef) w := by
  rw [if_pos hw]
  unfold Oper.wp
  simp [execOp, hop, hm, hk, hrun, Result.andThen]
  exact h
theorem step_estore {P : Program} {ops : Array Oper} {Q : Exit → Act → World → Prop} {a : Act} {w w' : World} {K : Act → World → Prop} {o : Oper} {t : TypeId} {m k x : Operand} {vm vk vx : Value} (hw : Region.wanted o (yielded ops a.tmps) = true) (hop : o.op = Op.entryStore t m k x) (hm : a.eval m = vm) (hk : a.eval k = vk) (hx : a.eval x = vx)
    (hrun : (Instr.entryStore t vm vk vx).run P w = .ok () w') (h : K (a.put o.dst undef) w') : if Region.wanted o (yielded ops a.tmps) = true then Oper.wp P o a w K Q else K (a.put o.dst undef) w := by
  rw [if_pos hw]
  unfold Oper.wp
  simp [execOp, hop, hm, hk, hx, hrun, Result.andThen]
  exact h
/-- The blocks of which Spill gives back the mask are some of those that were there. -/
theorem gone_bk {l L : List (Int × Int)} {s : Int} (fi : Fine64 l) (hl : ∀ y ∈ l, y ∈ L) {i : Nat} (hi : i < (Ma.mem (maskP (goes s l))).length) : (s, (((Ma.mem (maskP (goes s l))).getD i 0 : Nat) : Int)) ∈ L := by
  have hm : (Ma.mem (maskP (goes s l))).getD i 0 ∈ Ma.mem (maskP (goes s l)) := by
    rw [List.getD_eq_getElem?_getD, List.getElem?_eq_getElem hi]
    exact List.getElem_mem hi
  generalize (Ma.mem (maskP (goes s l))).getD i 0 = n at *
  have hb := ((Ma.mem_mem _ _).1 hm).2
  rw [maskP_bit] at hb
  obtain ⟨y, hy, e⟩ := of_decide_eq_true hb
  have hf := List.mem_filter.1 hy
  have h1 : y.1 = s := by simpa using hf.2
  have h2 := fi y hf.1
  have : (s, ((n : Nat) : Int)) = y := by rw [← h1]; exact Prod.ext rfl (by show (n : Int) = y.2; omega)
  rw [this]
  exact hl y hf.1
theorem gone_pos {l : List (Int × Int)} {s : Int} (fi : Fine64 l) (hp : 0 < nOf l s) : 0 < (Ma.mem (maskP (goes s l))).length := by
  obtain ⟨y, hy⟩ : ∃ y, y ∈ goes s l := List.exists_mem_of_length_pos hp
  have h2 := fi y (List.mem_filter.1 hy).1
  refine List.length_pos_of_mem (a := y.2.toNat) ((Ma.mem_mem _ _).2 ⟨by omega, ?_⟩)
  rw [maskP_bit]
  exact decide_eq_true ⟨y, hy, rfl⟩
theorem stays_fewer {l : List (Int × Int)} {s : Int} (hp : 0 < nOf l s) : (stays s l).length + 1 ≤ l.length := by
  have e : (goes s l).length + (stays s l).length = l.length := by
    clear hp
    induction l with
    | nil => rfl
    | cons x l ih =>
      unfold goes stays at *
      by_cases h : (x.1 == s) = true
      · simp only [List.filter_cons, h, if_true, Bool.not_true, if_false, List.length_cons, Bool.false_eq_true]; omega
      · have h' : (x.1 == s) = false := by simpa using h
        simp only [List.filter_cons, h', Bool.not_false, if_true, if_false, List.length_cons, Bool.false_eq_true]; omega
  unfold nOf at hp
  omega
end Go.Proofs.YtehmeccjgjhidaaDoor
