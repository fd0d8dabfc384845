/-
  What is out of all superblocks, and which runs are: kept by whatever is asked.
-/
import Derived.Test.YtkogeeaoppkhkaaDoorHeartRM
import Derived.Test.YtkogeeaoppkhkaaDoorHeartBM
namespace Go.Proofs.YtkogeeaoppkhkaaDoor

def sbAt (l : List Sb) (i : Nat) : Sb := l.getD i Sb.none
/-- One superblock, what is out of it, how long its run is. -/
def OneK (cap : Nat → Nat) (s : Sb) (o r : Nat) : Prop :=
  (s.k = 0 ∧ o = 0 ∧ r = 0) ∨ (s.k = 1 ∧ o ≠ 0 ∧ o < 18446744073709551616 ∧ s.m &&& o = 0 ∧ s.m ||| o = Ma.lowN (cap s.n) ∧ r = 0) ∨ (s.k = 2 ∧ o = 0 ∧ r = s.n ∧ 1 ≤ s.n) ∨ (s.k = 3 ∧ o = 0 ∧ r = 0)
structure GoodK (cap : Nat → Nat) (l : List Sb) (O R : Nat → Nat) : Prop where
  one : ∀ i, i < l.length → OneK cap (sbAt l i) (O i) (R i)
  tail : ∀ i, i < l.length → (sbAt l i).k = 2 → i + (sbAt l i).n ≤ l.length ∧ ∀ j, i < j → j < i + (sbAt l i).n → (sbAt l j).k = 3
  ok : OkL l
theorem sbAt_set {l : List Sb} {i j : Nat} {s : Sb} (hi : i < l.length) : sbAt (l.set i s) j = if j = i then s else sbAt l j := by
  unfold sbAt
  rw [List.getD_eq_getElem?_getD, set_at]
  by_cases h : j = i
  · rw [if_pos ⟨h, hi⟩, if_pos h]; rfl
  · rw [if_neg (fun e => h e.1), if_neg h, List.getD_eq_getElem?_getD]
theorem good_new (cap : Nat → Nat) (S : Nat) : GoodK cap (List.replicate S Sb.none) (fun _ => 0) (fun _ => 0) := by
  have h0 : ∀ i, sbAt (List.replicate S Sb.none) i = Sb.none := fun i => by
    unfold sbAt
    rw [List.getD_eq_getElem?_getD, List.getElem?_replicate]
    split <;> rfl
  refine ⟨fun i _ => ?_, fun i _ h => ?_, fun s hs => ?_⟩
  · rw [h0]; exact .inl ⟨rfl, rfl, rfl⟩
  · rw [h0] at h; cases h
  · rw [List.eq_of_mem_replicate hs]; exact ok_none
/-- One superblock becomes free, or of a class. -/
theorem GoodK.set {cap : Nat → Nat} {l : List Sb} {O R : Nat → Nat} (h : GoodK cap l O R) {i : Nat} {s : Sb} {o : Nat} (hi : i < l.length) (h0 : (sbAt l i).k ≠ 3) (h1 : s.k ≠ 2) (hr : R i = 0) (hs : OkS s) (ho : OneK cap s o 0) :
    GoodK cap (l.set i s) (fun j => if j = i then o else O j) R := by
  refine ⟨fun j hj => ?_, fun j hj hk => ?_, h.ok.set hs⟩
  · rw [List.length_set] at hj
    rw [sbAt_set hi]
    by_cases e : j = i
    · subst e; simp only [if_true]; rw [hr]; exact ho
    · simp only [e, if_false]; exact h.one j hj
  · rw [List.length_set] at hj ⊢
    rw [sbAt_set hi] at hk
    by_cases e : j = i
    · rw [if_pos e] at hk; exact absurd hk h1
    · rw [if_neg e] at hk
      rw [sbAt_set hi, if_neg e]
      obtain ⟨t1, t2⟩ := h.tail j hj hk
      refine ⟨t1, fun q q1 q2 => ?_⟩
      have := t2 q q1 q2
      rw [sbAt_set hi]
      by_cases e2 : q = i
      · subst e2; exact absurd this h0
      · rw [if_neg e2]; exact this
theorem GoodK.congr {cap : Nat → Nat} {l : List Sb} {O O' R R' : Nat → Nat} (h : GoodK cap l O R) (h1 : ∀ i, i < l.length → O' i = O i) (h2 : ∀ i, i < l.length → R' i = R i) : GoodK cap l O' R' :=
  ⟨fun i hi => by rw [h1 i hi, h2 i hi]; exact h.one i hi, h.tail, h.ok⟩

theorem least_facts {m batch : Nat} (hm : m < 18446744073709551616) (hm0 : m ≠ 0) (hb : 1 ≤ batch) :
    Ma.leastN m batch ≠ 0 ∧ (∀ j, (Ma.leastN m batch).testBit j = true → m.testBit j = true) ∧ (Ma.mem (Ma.leastN m batch)).length ≤ batch ∧ Ma.leastN m batch < 18446744073709551616 := by
  have hle : ∀ j, (Ma.leastN m batch).testBit j = true → m.testBit j = true := fun j hj => by
    unfold Ma.leastN at hj
    rw [Ma.testBit_ofList] at hj
    have := List.mem_of_mem_take (of_decide_eq_true hj)
    exact ((Ma.mem_mem m j).1 this).2
  refine ⟨?_, hle, ?_, Ma.leastN_lt m batch⟩
  · intro e
    have hne : Ma.mem m ≠ [] := fun e2 => hm0 ((Ma.mem_nil_iff m hm).1 e2)
    cases hmm : Ma.mem m with
    | nil => exact hne hmm
    | cons a t =>
      have : (Ma.leastN m batch).testBit a = true := by
        unfold Ma.leastN
        rw [Ma.testBit_ofList, hmm]
        obtain ⟨q, rfl⟩ : ∃ q, batch = q + 1 := ⟨batch - 1, by omega⟩
        simp
      rw [e] at this
      simp at this
  · have : Ma.mem (Ma.leastN m batch) = (Ma.mem m).take batch := by
      refine sortedR_ext (Ma.mem_sorted _) ((Ma.mem_sorted m).sublist (List.take_sublist _ _)) fun a => ?_
      rw [Ma.mem_mem]
      unfold Ma.leastN
      rw [Ma.testBit_ofList]
      constructor
      · rintro ⟨_, h2⟩; exact of_decide_eq_true h2
      · intro h2; exact ⟨Ma.mem_lt (List.mem_of_mem_take h2), by simpa using h2⟩
    rw [this, List.length_take]
    omega
/-- Blocks of a class go out of one that has just these free: it has the others out. -/
theorem one_refill {cap : Nat → Nat} {c m o batch : Nat} (hm : m < 18446744073709551616) (hm0 : m ≠ 0) (hb : 1 ≤ batch) (ho : o < 18446744073709551616) (h1 : m &&& o = 0) (h2 : m ||| o = Ma.lowN (cap c)) :
    OneK cap ⟨1, c, Ma.andNotN m (Ma.leastN m batch)⟩ (o ||| Ma.leastN m batch) 0 ∧ o &&& Ma.leastN m batch = 0 ∧ Ma.leastN m batch ≠ 0 ∧ (Ma.mem (Ma.leastN m batch)).length ≤ batch := by
  obtain ⟨f1, f2, f3, f4⟩ := least_facts hm hm0 hb
  generalize Ma.leastN m batch = B at *
  have b1 : ∀ j, m.testBit j = true → o.testBit j = false := fun j hj => by
    have : (m &&& o).testBit j = false := by rw [h1]; simp
    rw [Nat.testBit_and, hj] at this
    simpa using this
  refine ⟨.inr (.inl ⟨rfl, ?_, Ma.or_lt ho f4, ?_, ?_, rfl⟩), ?_, f1, f3⟩
  · intro e
    apply f1
    refine Ma.word_ext f4 (by decide) fun q _ => ?_
    have : (o ||| B).testBit q = false := by rw [e]; simp
    rw [Nat.testBit_or, Bool.or_eq_false_iff] at this
    rw [this.2]; simp
  · refine Ma.word_ext (Ma.and_lt _ (Ma.andNotN_lt _ hm)) (by decide) fun q _ => ?_
    simp only
    rw [Nat.testBit_and, Ma.testBit_andNotN hm f4, Nat.testBit_or]
    cases e : m.testBit q with
    | false => simp
    | true => rw [b1 q e]; cases B.testBit q <;> simp
  · simp only
    rw [← h2]
    refine Ma.word_ext (Ma.or_lt (Ma.andNotN_lt _ hm) (Ma.or_lt ho f4)) (Ma.or_lt hm ho) fun q _ => ?_
    rw [Nat.testBit_or, Ma.testBit_andNotN hm f4, Nat.testBit_or, Nat.testBit_or]
    cases e : B.testBit q with
    | false => simp
    | true => rw [f2 q e]; simp
  · refine Ma.word_ext (Ma.and_lt _ ho) (by decide) fun q _ => ?_
    rw [Nat.testBit_and]
    cases e : B.testBit q with
    | false => simp
    | true => rw [b1 q (f2 q e)]; simp
theorem lowN_ne {n : Nat} (h : n ≠ 0) : Ma.lowN n ≠ 0 := by
  intro e
  have := Ma.testBit_lowN n 0
  rw [e] at this
  simp at this
  omega
/-- Refill: nothing, or some that weren't out. -/
theorem good_refill {cap : Nat → Nat} {l : List Sb} {O R : Nat → Nat} (h : GoodK cap l O R) (batch c : Nat) (hc : ∀ c, cap c ≤ 64) (hb : 1 ≤ batch) (hcn : c < 4294967296) :
    ((refillP cap batch l c) = (l, (0, 0))) ∨ ∃ i l2 B, refillP cap batch l c = (l2, (i + 1, B)) ∧ i < l.length ∧ l2.length = l.length ∧ B ≠ 0 ∧ B < 18446744073709551616 ∧ O i &&& B = 0 ∧ (Ma.mem B).length ≤ batch ∧ O i < 18446744073709551616 ∧ GoodK cap l2 (fun j => if j = i then O i ||| B else O j) R := by
  unfold refillP
  by_cases h0 : cap c = 0
  · rw [if_pos h0]; exact .inl rfl
  rw [if_neg h0]
  cases e : srcP (cap c) l c with
  | none => exact .inl rfl
  | some x =>
    obtain ⟨i, m⟩ := x
    refine .inr ⟨i, _, Ma.leastN m batch, rfl, ?_⟩
    unfold srcP at e
    cases e1 : firstTo (isOf c) l l.length with
    | some j =>
      rw [e1] at e
      simp only [Option.some.injEq, Prod.mk.injEq] at e
      obtain ⟨rfl, rfl⟩ := e
      obtain ⟨f1, f2, _⟩ := firstTo_some e1
      have f3 : (l.getD j Sb.none).k = 1 ∧ (l.getD j Sb.none).n = c ∧ (l.getD j Sb.none).m ≠ 0 := by
        unfold isOf at f2
        simpa using f2
      have hok := h.ok.at (at_of f1)
      have g := h.one j f1
      change OneK cap (l.getD j Sb.none) _ _ at g
      rcases g with ⟨g, _⟩ | ⟨_, g1, g2, g3, g4, g5⟩ | ⟨g, _⟩ | ⟨g, _⟩
      · omega
      · rw [f3.2.1] at g4
        obtain ⟨p1, p2, p3, p4⟩ := one_refill (batch := batch) hok.2.2 f3.2.2 hb g2 g3 g4
        refine ⟨f1, by simp, p3, (least_facts hok.2.2 f3.2.2 hb).2.2.2, p2, p4, g2, ?_⟩
        exact h.set f1 (show (l.getD j Sb.none).k ≠ 3 from by omega) (by simp) g5 ⟨by simp, hcn, Ma.andNotN_lt _ hok.2.2⟩ p1
      · omega
      · omega
    | none =>
      rw [e1] at e
      simp only at e
      cases e2 : firstTo isFree l l.length with
      | none => rw [e2] at e; cases e
      | some j =>
        rw [e2] at e
        simp only [Option.some.injEq, Prod.mk.injEq] at e
        obtain ⟨rfl, rfl⟩ := e
        obtain ⟨f1, f2, _⟩ := firstTo_some e2
        have f3 : (l.getD j Sb.none).k = 0 := by unfold isFree at f2; simpa using f2
        have g := h.one j f1
        change OneK cap (l.getD j Sb.none) _ _ at g
        have hl := Ma.lowN_lt (hc c)
        rcases g with ⟨_, g1, g2⟩ | ⟨g, _⟩ | ⟨g, _⟩ | ⟨g, _⟩
        · obtain ⟨p1, p2, p3, p4⟩ := one_refill (cap := cap) (c := c) (o := 0) (batch := batch) hl (lowN_ne h0) hb (by decide) (by simp) (by simp)
          rw [g1]
          refine ⟨f1, by simp, p3, (least_facts hl (lowN_ne h0) hb).2.2.2, p2, p4, by decide, ?_⟩
          exact h.set f1 (show (l.getD j Sb.none).k ≠ 3 from by omega) (by simp) g2 ⟨by simp, hcn, Ma.andNotN_lt _ hl⟩ p1
        · omega
        · omega
        · omega
theorem or_sub_low {cap : Nat → Nat} {s : Sb} {o : Nat} (h2 : s.m ||| o = Ma.lowN (cap s.n)) : (∀ j, s.m.testBit j = true → (Ma.lowN (cap s.n)).testBit j = true) ∧ ∀ j, o.testBit j = true → (Ma.lowN (cap s.n)).testBit j = true :=
  ⟨fun j hj => by rw [← h2, Nat.testBit_or, hj]; simp, fun j hj => by rw [← h2, Nat.testBit_or, hj]; simp⟩
/-- Flush: of what is out, if it is anything. -/
theorem good_flush {cap : Nat → Nat} {l : List Sb} {O R : Nat → Nat} (h : GoodK cap l O R) (i m : Nat) (hc : ∀ c, cap c ≤ 64) (hi : i < l.length) (hm : m < 18446744073709551616) :
    (m &&& O i = 0 ∧ flushP cap l i (m &&& O i) = (l, (0, 0))) ∨ (m &&& O i ≠ 0 ∧ O i < 18446744073709551616 ∧ ∃ l2, flushP cap l i (m &&& O i) = (l2, (1, 0)) ∧ l2.length = l.length ∧ GoodK cap l2 (fun j => if j = i then Ma.andNotN (O i) (m &&& O i) else O j) R) := by
  have g := h.one i hi
  have hat : l[i]? = some (sbAt l i) := at_of hi
  have hok := h.ok.at hat
  by_cases hz : m &&& O i = 0
  · refine .inl ⟨hz, ?_⟩
    rw [hz]
    unfold flushP
    rw [hat]
    simp only
    rw [if_neg]
    rintro ⟨_, hq⟩
    simp [flushB] at hq
  · refine .inr ⟨hz, ?_⟩
    rcases g with ⟨_, g1, _⟩ | ⟨g0, g1, g2, g3, g4, g5⟩ | ⟨_, g1, _⟩ | ⟨_, g1, _⟩
    · rw [g1] at hz; simp at hz
    · refine ⟨g2, ?_⟩
      have hl := Ma.lowN_lt (hc (sbAt l i).n)
      obtain ⟨u1, u2⟩ := or_sub_low g4
      generalize hs : sbAt l i = s at *
      generalize O i = o at *
      generalize hL : Ma.lowN (cap s.n) = L at *
      have hD : ∀ j, (m &&& o).testBit j = true → o.testBit j = true := fun j hj => by rw [Nat.testBit_and] at hj; simp at hj; exact hj.2
      have hD64 : m &&& o < 18446744073709551616 := Ma.and_lt _ hm
      generalize m &&& o = D at *
      have b1 : ∀ j, o.testBit j = true → s.m.testBit j = false := fun j hj => by
        have : (s.m &&& o).testBit j = false := by rw [g3]; simp
        rw [Nat.testBit_and, hj] at this
        simpa using this
      have hfb : flushB L s.m D = true := by
        unfold flushB
        have a1 : Ma.andNotN D L = 0 := by
          refine Ma.word_ext (Ma.andNotN_lt _ hD64) (by decide) fun q _ => ?_
          rw [Ma.testBit_andNotN hD64 hl]
          cases e : D.testBit q with
          | false => simp
          | true => rw [u2 q (hD q e)]; simp
        have a2 : D &&& s.m = 0 := by
          refine Ma.word_ext (Ma.and_lt _ hD64) (by decide) fun q _ => ?_
          rw [Nat.testBit_and]
          cases e : D.testBit q with
          | false => simp
          | true => rw [b1 q (hD q e)]; simp
        simp [hz, a1, a2]
      have hfl : flushP cap l i D = (l.set i (if s.m ||| D = L then Sb.none else ⟨1, s.n, s.m ||| D⟩), (1, 0)) := by
        unfold flushP
        rw [hat]
        simp only
        rw [hL, if_pos ⟨g0, hfb⟩]
      refine ⟨_, hfl, by simp, ?_⟩
      have h3 : (sbAt l i).k ≠ 3 := by rw [hs]; omega
      by_cases hall : s.m ||| D = L
      · rw [if_pos hall]
        have h0 : Ma.andNotN o D = 0 := by
          refine Ma.word_ext (Ma.andNotN_lt _ g2) (by decide) fun q _ => ?_
          rw [Ma.testBit_andNotN g2 hD64]
          cases e : o.testBit q with
          | false => simp
          | true =>
            have := u2 q e
            rw [← hall, Nat.testBit_or, b1 q e] at this
            simp at this
            rw [this]; simp
        rw [h0]
        exact h.set hi h3 (by simp [Sb.none]) g5 ok_none (.inl ⟨rfl, rfl, rfl⟩)
      · rw [if_neg hall]
        refine h.set hi h3 (by simp) g5 ⟨by simp, hok.2.1, Ma.or_lt hok.2.2 hD64⟩ (.inr (.inl ⟨rfl, ?_, Ma.andNotN_lt _ g2, ?_, ?_, rfl⟩))
        · intro h0
          apply hall
          rw [← g4]
          refine Ma.word_ext (Ma.or_lt hok.2.2 hD64) (Ma.or_lt hok.2.2 g2) fun q _ => ?_
          rw [Nat.testBit_or, Nat.testBit_or]
          have : (Ma.andNotN o D).testBit q = false := by rw [h0]; simp
          rw [Ma.testBit_andNotN g2 hD64] at this
          cases e : o.testBit q with
          | false =>
            cases e2 : D.testBit q with
            | false => rfl
            | true => rw [hD q e2] at e; cases e
          | true => rw [e] at this; simp at this; rw [this]
        · simp only
          refine Ma.word_ext (Ma.and_lt _ (Ma.or_lt hok.2.2 hD64)) (by decide) fun q _ => ?_
          rw [Nat.testBit_and, Nat.testBit_or, Ma.testBit_andNotN g2 hD64]
          cases e : o.testBit q with
          | false => simp
          | true => rw [b1 q e]; cases D.testBit q <;> simp
        · simp only
          rw [hL, ← g4]
          refine Ma.word_ext (Ma.or_lt (Ma.or_lt hok.2.2 hD64) (Ma.andNotN_lt _ g2)) (Ma.or_lt hok.2.2 g2) fun q _ => ?_
          rw [Nat.testBit_or, Nat.testBit_or, Nat.testBit_or, Ma.testBit_andNotN g2 hD64]
          cases e : D.testBit q with
          | false => simp
          | true => rw [hD q e]; simp
    · rw [g1] at hz; simp at hz
    · rw [g1] at hz; simp at hz
theorem sbAt_run (l : List Sb) (a n k j : Nat) : sbAt (runP l a n k) j = if j < l.length ∧ j = a then ⟨2, n, 0⟩ else if j < l.length ∧ a < j ∧ j ≤ a + k then ⟨3, 0, 0⟩ else sbAt l j := by
  unfold sbAt
  rw [List.getD_eq_getElem?_getD, runP_at]
  split
  · rfl
  · split
    · rfl
    · rw [List.getD_eq_getElem?_getD]
theorem sbAt_clear (l : List Sb) (a k j : Nat) : sbAt (clearP l a k) j = if j < l.length ∧ a ≤ j ∧ j < a + k then Sb.none else sbAt l j := by
  unfold sbAt
  rw [List.getD_eq_getElem?_getD, clearP_at]
  split
  · rfl
  · rw [List.getD_eq_getElem?_getD]
/-- Take: nothing, or so many that were free. -/
theorem good_take {cap : Nat → Nat} {l : List Sb} {O R : Nat → Nat} (h : GoodK cap l O R) (n : Nat) (hn : n < 4294967296) :
    (takeP l n = (l, (0, 0))) ∨ ∃ i l2, takeP l n = (l2, (i + 1, 0)) ∧ i + n ≤ l.length ∧ i < l.length ∧ 1 ≤ n ∧ l2.length = l.length ∧ R i = 0 ∧ GoodK cap l2 O (fun j => if j = i then n else R j) := by
  unfold takeP
  by_cases h0 : n = 0
  · rw [if_pos h0]; exact .inl rfl
  rw [if_neg h0]
  cases e : rowTo' l n l.length with
  | none => exact .inl rfl
  | some a =>
    obtain ⟨f1, f2, _⟩ := rowTo_some e
    obtain ⟨f3, f4⟩ := freeRow_iff.1 f2
    have fr : ∀ j, a ≤ j → j < a + n → (sbAt l j).k = 0 := fun j h1 h2 => by
      have := f4 (j - a) (by omega)
      rw [show a + (j - a) = j from by omega] at this
      unfold isFree at this
      simpa [sbAt] using this
    have zr : ∀ j, a ≤ j → j < a + n → O j = 0 ∧ R j = 0 := fun j h1 h2 => by
      have g := h.one j (by omega)
      have k0 := fr j h1 h2
      rcases g with ⟨_, g⟩ | ⟨g, _⟩ | ⟨g, _⟩ | ⟨g, _⟩
      · exact g
      all_goals omega
    refine .inr ⟨a, _, rfl, f3, f1, by omega, runP_len _ _ _ _, (zr a (by omega) (by omega)).2, ?_, ?_, runP_ok h.ok a hn _⟩
    · intro j hj
      rw [runP_len] at hj
      rw [sbAt_run]
      by_cases e1 : j = a
      · subst e1
        rw [if_pos ⟨hj, rfl⟩]
        simp only [if_true]
        exact .inr (.inr (.inl ⟨rfl, (zr j (by omega) (by omega)).1, rfl, by simp only; omega⟩))
      · rw [if_neg (fun e2 => e1 e2.2)]
        simp only [e1, if_false]
        split
        case isTrue hq =>
          obtain ⟨z1, z2⟩ := zr j (by omega) (by omega)
          exact .inr (.inr (.inr ⟨rfl, z1, z2⟩))
        case isFalse hq => exact h.one j hj
    · intro j hj hk
      rw [runP_len] at hj ⊢
      rw [sbAt_run] at hk ⊢
      by_cases e1 : j = a
      · subst e1
        rw [if_pos ⟨hj, rfl⟩]
        refine ⟨f3, fun q q1 q2 => ?_⟩
        simp only at q2
        rw [sbAt_run, if_neg (by omega), if_pos (by omega)]
      · rw [if_neg (fun e2 => e1 e2.2)] at hk ⊢
        split at hk
        case isTrue => simp at hk
        case isFalse hq =>
          rw [if_neg hq]
          obtain ⟨t1, t2⟩ := h.tail j hj hk
          refine ⟨t1, fun q q1 q2 => ?_⟩
          have := t2 q q1 q2
          rw [sbAt_run]
          by_cases e2 : a ≤ q ∧ q < a + n
          · rw [fr q e2.1 e2.2] at this; cases this
          · rw [if_neg (by omega), if_neg (by omega)]; exact this
/-- Give: a run, if there is one. -/
theorem good_give {cap : Nat → Nat} {l : List Sb} {O R : Nat → Nat} (h : GoodK cap l O R) (i : Nat) (hi : i < l.length) :
    (R i = 0 ∧ giveP l i = (l, (0, 0))) ∨ (R i ≠ 0 ∧ ∃ l2, giveP l i = (l2, (1, 0)) ∧ l2.length = l.length ∧ GoodK cap l2 O (fun j => if j = i then 0 else R j)) := by
  have g := h.one i hi
  have hat : l[i]? = some (sbAt l i) := at_of hi
  unfold giveP
  rw [hat]
  simp only
  rcases g with ⟨g0, _, g⟩ | ⟨g0, _, _, _, _, g⟩ | ⟨g0, g1, g2, g3⟩ | ⟨g0, _, g⟩
  · exact .inl ⟨g, by rw [if_neg]; omega⟩
  · exact .inl ⟨g, by rw [if_neg]; omega⟩
  · obtain ⟨t1, t2⟩ := h.tail i hi g0
    refine .inr ⟨by omega, _, by rw [if_pos ⟨g0, by omega⟩], clearP_len _ _ _, ?_, ?_, clearP_ok h.ok _ _⟩
    · intro j hj
      rw [clearP_len] at hj
      rw [sbAt_clear]
      split
      case isTrue hq =>
        by_cases e : j = i
        · subst e; simp only [if_true]; exact .inl ⟨rfl, g1, rfl⟩
        · simp only [e, if_false]
          have k3 := t2 j (by omega) (by omega)
          rcases h.one j hj with ⟨p, _⟩ | ⟨p, _⟩ | ⟨p, _⟩ | ⟨_, p1, p2⟩
          · omega
          · omega
          · omega
          · exact .inl ⟨rfl, p1, p2⟩
      case isFalse hq =>
        have e : j ≠ i := by omega
        simp only [e, if_false]
        exact h.one j hj
    · intro j hj hk
      rw [clearP_len] at hj ⊢
      rw [sbAt_clear] at hk ⊢
      split at hk
      case isTrue => simp [Sb.none] at hk
      case isFalse hq =>
        rw [if_neg hq]
        obtain ⟨v1, v2⟩ := h.tail j hj hk
        refine ⟨v1, fun q q1 q2 => ?_⟩
        have k3 := v2 q q1 q2
        rw [sbAt_clear, if_neg]
        · exact k3
        · intro hz
          by_cases e : q = i
          · rw [e] at k3; omega
          · by_cases e2 : j < i
            · have := v2 i (by omega) (by omega); omega
            · by_cases e3 : j = i
              · subst e3; omega
              · have := t2 j (by omega) (by omega); omega
  · exact .inl ⟨g, by rw [if_neg]; omega⟩
end Go.Proofs.YtkogeeaoppkhkaaDoor
