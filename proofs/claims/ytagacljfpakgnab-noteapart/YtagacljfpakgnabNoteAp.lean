/-
  What is written down of one worker, among what is written down of all.
-/
import Derived.Test.YtagacljfpakgnabNoteSp
import Derived.LaidEqlPtr
namespace Go.Proofs.Ytagacljfpakgnab
open Go.RowKit Go.Sort Go.Maps

def ofW (i : Int) (l : List Ev) : List Ev := l.filter fun x => decide (x.w = i)
theorem ofW_app (i : Int) (l : List Ev) (x : Ev) : ofW i (l ++ [x]) = if x.w = i then ofW i l ++ [x] else ofW i l := by
  unfold ofW
  rw [List.filter_append]
  by_cases h : x.w = i <;> simp [h]
/-- Another worker's event turns. -/
theorem ofW_other {i : Int} : ∀ {l : List Ev} {j : Nat} {x y : Ev}, l[j]? = some x → x.w ≠ i → y.w ≠ i → ofW i (l.set j y) = ofW i l
  | [], j, x, y, h, _, _ => by cases h
  | z :: l, 0, x, y, h, h1, h2 => by
    simp at h
    subst h
    simp [ofW, h1, h2]
  | z :: l, j + 1, x, y, h, h1, h2 => by
    have ih := ofW_other (l := l) (j := j) (x := x) (y := y) (by simpa using h) h1 h2
    unfold ofW at ih ⊢
    rw [List.set_cons_succ, List.filter_cons, List.filter_cons, ih]
/-- Where the worker's event stands among its own. -/
theorem ofW_find (i : Int) : ∀ (n : Nat) (l : List Ev), l.length = n → (findI l i = none → findI (ofW i l) i = none) ∧ ∀ j x, findI l i = some j → l[j]? = some x → ∃ j', findI (ofW i l) i = some j' ∧ (ofW i l)[j']? = some x ∧ ∀ y : Ev, y.w = i → ofW i (l.set j y) = (ofW i l).set j' y := by
  intro n
  induction n with
  | zero =>
    intro l hl
    obtain rfl := List.length_eq_zero_iff.1 hl
    exact ⟨fun _ => rfl, fun j x h => by cases h⟩
  | succ n ih =>
    intro l hl
    rcases List.eq_nil_or_concat l with rfl | ⟨m, z, rfl⟩
    · cases hl
    · rw [List.concat_eq_append] at hl ⊢
      have hm : m.length = n := by simpa using hl
      obtain ⟨ih1, ih2⟩ := ih m hm
      rw [findI_app, ofW_app]
      by_cases hz : z.w = i
      · rw [if_pos hz, if_pos hz, findI_app, if_pos hz]
        refine ⟨fun h => ?_, fun j x h hx => ?_⟩
        · by_cases he : z.e = 0
          · rw [if_pos he] at h; cases h
          · rw [if_neg he]
        · by_cases he : z.e = 0
          · rw [if_pos he] at h ⊢
            cases h
            rw [List.getElem?_append_right (Nat.le_refl _), Nat.sub_self] at hx
            cases hx
            refine ⟨_, rfl, by rw [List.getElem?_append_right (Nat.le_refl _), Nat.sub_self]; rfl, fun y hy => ?_⟩
            rw [List.set_append_right _ _ (Nat.le_refl _), Nat.sub_self, List.set_append_right _ _ (Nat.le_refl _), Nat.sub_self]
            show ofW i (m ++ [y]) = ofW i m ++ [y]
            rw [ofW_app, if_pos hy]
          · rw [if_neg he] at h; cases h
      · rw [if_neg hz, if_neg hz]
        refine ⟨ih1, fun j x h hx => ?_⟩
        obtain ⟨_, _, _, _, hj, _⟩ := findI_some h
        rw [List.getElem?_append_left hj] at hx
        obtain ⟨j', g1, g2, g3⟩ := ih2 j x h hx
        refine ⟨j', g1, g2, fun y hy => ?_⟩
        rw [List.set_append_left _ _ hj, ofW_app, if_neg hz, g3 y hy]
theorem ofW_take {i : Int} {l : List Ev} {t : Nat} {y : Ev} (hy : l[t]? = some y) : ofW i (l.take (t + 1)) = if y.w = i then ofW i (l.take t) ++ [y] else ofW i (l.take t) := by
  rw [List.take_add_one, hy]
  exact ofW_app i _ y
theorem ofW_len (i : Int) (l : List Ev) : (ofW i l).length ≤ l.length := List.length_filter_le _ _
section
variable {i w : Int} {l : List Ev}
theorem ofW_none (h : findI l i = none) : findI (ofW i l) i = none := (ofW_find i _ l rfl).1 h
theorem ofW_some {j : Nat} {x : Ev} (h : findI l i = some j) (hx : l[j]? = some x) : ∃ j', findI (ofW i l) i = some j' ∧ (ofW i l)[j']? = some x ∧ ∀ y : Ev, y.w = i → ofW i (l.set j y) = (ofW i l).set j' y := (ofW_find i _ l rfl).2 j x h hx
theorem bg_own (k n t : Int) : ofW i (bgL l i k n t) = bgL (ofW i l) i k n t := by
  unfold bgL
  cases hf : findI l i with
  | none =>
    rw [ofW_none hf]
    simp only [Option.isNone_none, if_true]
    rw [ofW_app, if_pos (show (evNew i k n t).w = i from rfl)]
  | some j =>
    obtain ⟨x, hx, _⟩ := findI_some hf
    obtain ⟨j', g1, _⟩ := ofW_some hf hx
    rw [g1]
    simp
theorem bg_other (k n t : Int) (h : w ≠ i) : ofW i (bgL l w k n t) = ofW i l := by
  unfold bgL
  split
  · rw [ofW_app, if_neg (by exact h)]
  · rfl
theorem st_own : ofW i (stL l i) = stL (ofW i l) i := by
  unfold stL
  cases hf : findI l i with
  | none => rw [ofW_none hf]
  | some j =>
    obtain ⟨x, hx, hw, _⟩ := findI_some hf
    obtain ⟨j', g1, g2, g3⟩ := ofW_some hf hx
    rw [g1]
    simp only [hx, g2]
    exact g3 _ hw
theorem st_other (h : w ≠ i) : ofW i (stL l w) = ofW i l := by
  unfold stL
  cases hf : findI l w with
  | none => rfl
  | some j =>
    obtain ⟨x, hx, hw, _⟩ := findI_some hf
    simp only [hx]
    exact ofW_other hx (by rw [hw]; exact h) (by show x.w ≠ i; rw [hw]; exact h)
theorem en_own (c a t : Int) : ofW i (enL l i c a t) = enL (ofW i l) i c a t := by
  unfold enL
  cases hf : findI l i with
  | none => rw [ofW_none hf]
  | some j =>
    obtain ⟨x, hx, hw, _⟩ := findI_some hf
    obtain ⟨j', g1, g2, g3⟩ := ofW_some hf hx
    rw [g1]
    simp only [hx, g2]
    exact g3 _ hw
theorem en_other (c a t : Int) (h : w ≠ i) : ofW i (enL l w c a t) = ofW i l := by
  unfold enL
  cases hf : findI l w with
  | none => rfl
  | some j =>
    obtain ⟨x, hx, hw, _⟩ := findI_some hf
    simp only [hx]
    exact ofW_other hx (by rw [hw]; exact h) (by show x.w ≠ i; rw [hw]; exact h)
theorem cn_own (c a t : Int) : ofW i (cnL l i c a t) = cnL (ofW i l) i c a t := by
  unfold cnL
  cases hf : findI l i with
  | none => rw [ofW_none hf]
  | some j =>
    obtain ⟨x, hx, hw, _⟩ := findI_some hf
    obtain ⟨j', g1, g2, g3⟩ := ofW_some hf hx
    rw [g1]
    simp only [hx, g2]
    split
    · exact g3 _ hw
    · rfl
theorem cn_other (c a t : Int) (h : w ≠ i) : ofW i (cnL l w c a t) = ofW i l := by
  unfold cnL
  cases hf : findI l w with
  | none => rfl
  | some j =>
    obtain ⟨x, hx, hw, _⟩ := findI_some hf
    simp only [hx]
    split
    · exact ofW_other hx (by rw [hw]; exact h) (by show x.w ≠ i; rw [hw]; exact h)
    · rfl
end
theorem bookInfo : (Try.prog.info? 27).map (·.size) = some 2 := by kernel_rfl
theorem bk_same (w : World) (a : Addr) : (binOp .eql 42 (.pointer (some a)) (.pointer (some a))).run Try.prog w = .ok (.bool true) w := by
  obtain ⟨j, hj⟩ : ∃ j, Try.prog.info? 27 = some j := by
    have := bookInfo
    cases h : Try.prog.info? 27 with
    | none => rw [h] at this; cases this
    | some j => exact ⟨j, rfl⟩
  exact run_eql_ptr_same w a Try.underlying42 hj
theorem bk_other (w : World) {x y : Nat} {ca cb : Array Value} {ta tb : TypeId} (hne : x ≠ y) (ha : w.heap[x]? = some (.cells ca ta (0, 0))) (hb : w.heap[y]? = some (.cells cb tb (0, 0))) : (binOp .eql 42 (.pointer (some ⟨x, 0, none⟩)) (.pointer (some ⟨y, 0, none⟩))).run Try.prog w = .ok (.bool false) w := by
  obtain ⟨j, hj, hs⟩ : ∃ j, Try.prog.info? 27 = some j ∧ j.size = 2 := by
    have := bookInfo
    cases h : Try.prog.info? 27 with
    | none => rw [h] at this; cases this
    | some j => rw [h] at this; exact ⟨j, rfl, by simpa using this⟩
  exact run_eql_ptr_other w Try.underlying42 hj (by omega) (a := ⟨x, 0, none⟩) (b := ⟨y, 0, none⟩) (fun e => hne (by cases e; rfl)) ha hb

/-- What one act makes of the events. -/
def actL (k0 k1 k2 k3 k4 k5 k6 : Int) (l : List Ev) : List Ev := if k0 = 0 then bgL l k1 k3 k4 k2 else if k0 = 1 then stL l k1 else if k0 = 2 then cnL l k1 k5 k6 k2 else if k0 = 3 then enL l k1 k5 k6 k2 else l
theorem act_own (k0 i k2 k3 k4 k5 k6 : Int) (l : List Ev) : ofW i (actL k0 i k2 k3 k4 k5 k6 l) = actL k0 i k2 k3 k4 k5 k6 (ofW i l) := by
  unfold actL
  split
  · exact bg_own _ _ _
  · split
    · exact st_own
    · split
      · exact cn_own _ _ _
      · split
        · exact en_own _ _ _
        · rfl
theorem act_other (k0 k1 k2 k3 k4 k5 k6 : Int) {i : Int} (h : k1 ≠ i) (l : List Ev) : ofW i (actL k0 k1 k2 k3 k4 k5 k6 l) = ofW i l := by
  unfold actL
  split
  · exact bg_other _ _ _ h
  · split
    · exact st_other h
    · split
      · exact cn_other _ _ _ h
      · split
        · exact en_other _ _ _ h
        · rfl
theorem act_len (k0 k1 k2 k3 k4 k5 k6 : Int) (l : List Ev) : (actL k0 k1 k2 k3 k4 k5 k6 l).length ≤ l.length + 1 := by
  have h1 : (stL l k1).length = l.length := by
    unfold stL
    split
    · split
      · rw [List.length_set]
      · rfl
    · rfl
  have h2 : (cnL l k1 k5 k6 k2).length = l.length := by
    unfold cnL
    split
    · split
      · split
        · rw [List.length_set]
        · rfl
      · rfl
    · rfl
  have h3 : (enL l k1 k5 k6 k2).length = l.length := by
    unfold enL
    split
    · split
      · rw [List.length_set]
      · rfl
    · rfl
  have h4 : (bgL l k1 k3 k4 k2).length ≤ l.length + 1 := by
    unfold bgL
    split
    · simp
    · omega
  unfold actL
  split
  · exact h4
  · split
    · omega
    · split
      · omega
      · split <;> omega
/-- Two Books, apart. -/
def Two (w : World) (n b1 b2 : Nat) (l m : List Ev) : Prop := ∃ v1 o1 v2 o2, Bn w b1 v1 o1 l ∧ Bn w b2 v2 o2 m ∧ (∀ b ∈ b1 :: foot v1 o1, b ∉ b2 :: foot v2 o2) ∧ (∀ b ∈ b1 :: foot v1 o1, n ≤ b) ∧ (∀ b ∈ b2 :: foot v2 o2, n ≤ b)
section
variable {w w' : World} {n b1 b2 : Nat} {l m : List Ev}
theorem Two.next (h : Two w n b1 b2 l m) (x : Below w.heap.size w w') : Two w' n b1 b2 l m := by
  obtain ⟨v1, o1, v2, o2, h1, h2, h3, h4, h5⟩ := h
  exact ⟨v1, o1, v2, o2, h1.next x, h2.next x, h3, h4, h5⟩
theorem Two.swap (h : Two w n b1 b2 l m) : Two w n b2 b1 m l := by
  obtain ⟨v1, o1, v2, o2, h1, h2, h3, h4, h5⟩ := h
  exact ⟨v2, o2, v1, o1, h2, h1, fun b hb hc => h3 b hc hb, h5, h4⟩
/-- The first turns; a block that is no part of them stands. -/
theorem Two.one (h : Two w n b1 b2 l m) (hn : n ≤ w.heap.size) : ∃ v o, Bn w b1 v o l ∧ ∀ w' l', Tn b1 v o w l' w' → Two w' n b1 b2 l' m ∧ Below n w w' ∧ ∀ (b : Nat) (c : Array Value) (T : TypeId), T ≠ 27 → T ≠ 38 → w.heap[b]? = some (.cells c T (0, 0)) → w'.heap[b]? = some (.cells c T (0, 0)) := by
  obtain ⟨v1, o1, v2, o2, h1, h2, h3, h4, h5⟩ := h
  refine ⟨v1, o1, h1, ?_⟩
  rintro w' l' ⟨v', o', t1, t2, t3⟩
  refine ⟨⟨v', o', v2, o2, t1, h2.stay t2 (fun b hb hc => h3 b hc hb), fun b hb hc => ?_, fun b hb => ?_, h5⟩, t2.below h4 hn, fun b c T n1 n2 hb => t2.at hb (fun hm => ?_)⟩
  · rcases List.mem_cons.1 hb with q | q
    · exact h3 b (by rw [q]; simp) hc
    · rcases t3 b q with r | r
      · exact h3 b (List.mem_cons_of_mem _ r) hc
      · have := h2.lt b hc; omega
  · rcases List.mem_cons.1 hb with q | q
    · exact h4 b (by rw [q]; simp)
    · rcases t3 b q with r | r
      · exact h4 b (List.mem_cons_of_mem _ r)
      · omega
  · simp only [foot, List.mem_cons, List.mem_append, Option.mem_toList] at hm
    rcases hm with rfl | e | e
    · rw [h1.box] at hb
      simp only [Option.some.injEq, Obj.cells.injEq] at hb
      exact n1 hb.2.1.symm
    · obtain ⟨cur, hc⟩ := h1.row.obj e
      rw [hc] at hb
      simp only [Option.some.injEq, Obj.cells.injEq] at hb
      exact n2 hb.2.1.symm
    · have hp := h1.mp
      rw [e] at hp
      obtain ⟨es, c2, hm2⟩ := MpI.obj hp
      rw [hb] at hm2
      cases hm2
theorem two_new (w : World) : Two ((w.alloc (.cells #[.slice none 0 0, .map none] 27)).alloc (.cells #[.slice none 0 0, .map none] 27)) w.heap.size w.heap.size (w.heap.size + 1) [] [] := by
  have hb := box1 (w.alloc (.cells #[.slice none 0 0, .map none] 27)) (.cells #[.slice none 0 0, .map none] 27)
  have e : (w.alloc (.cells #[.slice none 0 0, .map none] 27)).heap.size = w.heap.size + 1 := by simp
  have h2 := bn_new (w.alloc (.cells #[.slice none 0 0, .map none] 27))
  rw [e] at h2
  refine ⟨_, _, _, _, (bn_new w).next hb, h2, fun b hb hc => ?_, fun b hb => ?_, fun b hb => ?_⟩
  all_goals simp [foot, Value.ownBlock] at *
  all_goals omega
theorem Two.boxes (h : Two w n b1 b2 l m) : ∃ c1 c2, w.heap[b1]? = some (.cells c1 27 (0, 0)) ∧ w.heap[b2]? = some (.cells c2 27 (0, 0)) := by
  obtain ⟨v1, o1, v2, o2, h1, h2, h3, h4, h5⟩ := h
  exact ⟨_, _, h1.box, h2.box⟩
end
end Go.Proofs.Ytagacljfpakgnab
