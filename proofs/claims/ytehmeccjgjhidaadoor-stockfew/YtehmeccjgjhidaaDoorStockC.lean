/-
  A Stock: its box, its classes, and its piles, each a row of blocks and a set of the same.
-/
import Derived.Test.YtehmeccjgjhidaaDoorStockB
import Derived.Test.YtehmeccjgjhidaaDoorArenaM
namespace Go.Proofs.YtehmeccjgjhidaaDoor
open Go.RowKit Go.Maps Go.Sort

def pilE (L : Nat → Value) (M : Nat → Nat) (k : Nat) : List Value := [L k, .map (some (M k))]
def pilesOf (L : Nat → Value) (M : Nat → Nat) (n : Nat) : List Value := (List.range n).flatMap (pilE L M)
theorem piles_len (L : Nat → Value) (M : Nat → Nat) (n : Nat) : (pilesOf L M n).length = n * 2 := by
  unfold pilesOf
  induction n with
  | zero => rfl
  | succ n ih => rw [List.range_succ, List.flatMap_append, List.length_append, ih]; simp [pilE]; omega
theorem piles_at {L : Nat → Value} {M : Nat → Nat} {n k : Nat} (h : k < n) : (pilesOf L M n)[k * 2]? = some (L k) ∧ (pilesOf L M n)[k * 2 + 1]? = some (.map (some (M k))) := by
  induction n with
  | zero => omega
  | succ n ih =>
    have hl := piles_len L M n
    unfold pilesOf at hl ih ⊢
    rw [List.range_succ, List.flatMap_append]
    by_cases e : k < n
    · rw [List.getElem?_append_left (by omega), List.getElem?_append_left (by omega)]
      exact ih e
    · obtain rfl : k = n := by omega
      rw [List.getElem?_append_right (by omega), List.getElem?_append_right (by omega), hl]
      simp [pilE]
def updL (L : Nat → Value) (k : Nat) (v : Value) : Nat → Value := fun j => if j = k then v else L j
def updP (P : Nat → List (Int × Int)) (k : Nat) (l : List (Int × Int)) : Nat → List (Int × Int) := fun j => if j = k then l else P j
theorem piles_set {L : Nat → Value} {M : Nat → Nat} {n k : Nat} (h : k < n) (v : Value) : (pilesOf L M n).set (k * 2) v = pilesOf (updL L k v) M n := by
  induction n with
  | zero => omega
  | succ n ih =>
    have hl := piles_len L M n
    unfold pilesOf at hl ih ⊢
    rw [List.range_succ, List.flatMap_append, List.flatMap_append]
    by_cases e : k < n
    · rw [List.set_append_left _ _ (by omega), ih e]
      congr 1
      simp [pilE, updL, show n ≠ k from by omega]
    · obtain rfl : k = n := by omega
      rw [List.set_append_right _ _ (by omega), hl]
      have e2 : (List.range k).flatMap (pilE (updL L k v) M) = (List.range k).flatMap (pilE L M) := by
        rw [List.flatMap_def, List.flatMap_def]
        congr 1
        apply List.map_congr_left
        intro j hj
        have := List.mem_range.1 hj
        simp [pilE, updL, show j ≠ k from by omega]
      rw [e2]
      simp [pilE, updL]
structure Stk (w : World) (sb clb pb : Nat) (W S B T : Int) (len : Nat) (f : Nat → Int) (n : Nat) (P : Nat → List (Int × Int)) (L : Nat → Value) (M : Nat → Nat) : Prop where
  box : w.heap[sb]? = some (.cells #[.int .i64 W, .int .i64 S, .int .i64 B, .int .i64 T, .slice (some ⟨clb, 0, none⟩) len len, .slice (some ⟨pb, 0, none⟩) len len] 50 (0, 0))
  row : w.heap[clb]? = some (.cells (numsOf f len).toArray 3 (0, 0))
  pil : w.heap[pb]? = some (.cells (pilesOf L M len).toArray 53 (0, 0))
  lst : ∀ k, k < len → BkRow w (L k) (P k)
  set : ∀ k, k < len → BSet w (M k) n (P k)
  bd : ∀ k, k < len → (P k).length ≤ n ∧ ∀ x ∈ P k, Bd x
  dM : ∀ j k, j < len → k < len → M j = M k → j = k
  dL : ∀ j k b, j < len → k < len → (L j).ownBlock = some b → (L k).ownBlock = some b → j = k
section
variable {w w' : World} {sb clb pb : Nat} {W S B T : Int} {len : Nat} {f : Nat → Int} {n : Nat} {P : Nat → List (Int × Int)} {L : Nat → Value} {M : Nat → Nat}
theorem BSet.obj {b : Nat} {S : List (Int × Int)} (h : BSet w b n S) : ∃ es c, w.heap[b]? = some (.map es c) := by
  obtain ⟨D, ⟨es, clock, hb, _⟩, _⟩ := h
  exact ⟨es, clock, hb⟩
theorem BkRow.obj {v : Value} {l : List (Int × Int)} (h : BkRow w v l) {b : Nat} (hb : v.ownBlock = some b) : ∃ cur, w.heap[b]? = some (.cells cur 32 (0, 0)) := by
  rcases ORow.cases h with ⟨h1, _⟩ | ⟨b', cap, cur, h1, h2, _⟩
  · subst h1; cases hb
  · subst h1
    simp [Value.ownBlock] at hb
    subst hb
    exact ⟨cur, h2⟩
theorem Stk.next (h : Stk w sb clb pb W S B T len f n P L M) (x : Below w.heap.size w w') : Stk w' sb clb pb W S B T len f n P L M :=
  ⟨(x.block sb (heap_lt h.box)).trans h.box, (x.block clb (heap_lt h.row)).trans h.row, (x.block pb (heap_lt h.pil)).trans h.pil, fun k hk => ORow.next (h.lst k hk) x, fun k hk => (h.set k hk).next x, h.bd, h.dM, h.dL⟩
theorem Stk.cell (h : Stk w sb clb pb W S B T len f n P L M) {k : Nat} (hk : k < len) : w.cell? ⟨pb, k * 2, none⟩ = some (L k) ∧ w.cell? ⟨pb, k * 2 + 1, none⟩ = some (.map (some (M k))) := by
  obtain ⟨h1, h2⟩ := piles_at (L := L) (M := M) hk
  rw [cell_of h.pil, cell_of h.pil]
  exact ⟨by simpa using h1, by simpa using h2⟩
theorem Stk.cells (h : Stk w sb clb pb W S B T len f n P L M) : w.cell? ⟨sb, 0, none⟩ = some (.int .i64 W) ∧ w.cell? ⟨sb, 1, none⟩ = some (.int .i64 S) ∧ w.cell? ⟨sb, 2, none⟩ = some (.int .i64 B) ∧ w.cell? ⟨sb, 3, none⟩ = some (.int .i64 T) ∧ w.cell? ⟨sb, 4, none⟩ = some (.slice (some ⟨clb, 0, none⟩) len len) ∧ w.cell? ⟨sb, 5, none⟩ = some (.slice (some ⟨pb, 0, none⟩) len len) := by
  refine ⟨?_, ?_, ?_, ?_, ?_, ?_⟩ <;> (rw [cell_of h.box]; rfl)
theorem Stk.rowI (h : Stk w sb clb pb W S B T len f n P L M) : RowI w (some ⟨clb, 0, none⟩) len f := row_block h.row (List.take_of_length_le (by simp [nums_len]))
/-- The pile k turns, and nothing else of it. -/
theorem Stk.turn {k : Nat} {v' : Value} {l' : List (Int × Int)} {n' : Nat} {q : List Nat} (h : Stk w sb clb pb W S B T len f n P L M) (hk : k < len) (x : Only q w w') (hq : ∀ b ∈ q, b = pb ∨ b = M k ∨ (L k).ownBlock = some b ∨ w.heap.size ≤ b)
    (hp : w'.heap[pb]? = some (.cells (pilesOf (updL L k v') M len).toArray 53 (0, 0))) (h1 : BkRow w' v' l') (h2 : BSet w' (M k) n' l') (h3 : l'.length ≤ n' ∧ ∀ x ∈ l', Bd x) (hn : n ≤ n')
    (ho : v'.ownBlock = (L k).ownBlock ∨ v'.ownBlock = none ∨ ∃ b, v'.ownBlock = some b ∧ w.heap.size ≤ b) : Stk w' sb clb pb W S B T len f n' (updP P k l') (updL L k v') M := by
  obtain ⟨es, c, hm⟩ := (h.set k hk).obj
  have nm : ∀ b o, w.heap[b]? = some o → b ∈ q → b = pb ∨ b = M k ∨ (L k).ownBlock = some b := fun b o hb hm => by
    rcases hq b hm with h | h | h | h
    · exact .inl h
    · exact .inr (.inl h)
    · exact .inr (.inr h)
    · have := heap_lt hb; omega
  have s1 : sb ∉ q := fun hm' => by
    rcases nm sb _ h.box hm' with e | e | e
    · subst e; have := h.box.symm.trans h.pil; simp at this
    · subst e; have := h.box.symm.trans hm; simp at this
    · obtain ⟨cur, hc⟩ := (h.lst k hk).obj e; have := h.box.symm.trans hc; simp at this
  have s2 : clb ∉ q := fun hm' => by
    rcases nm clb _ h.row hm' with e | e | e
    · subst e; have := h.row.symm.trans h.pil; simp at this
    · subst e; have := h.row.symm.trans hm; simp at this
    · obtain ⟨cur, hc⟩ := (h.lst k hk).obj e; have := h.row.symm.trans hc; simp at this
  refine ⟨x.at h.box s1, x.at h.row s2, hp, fun j hj => ?_, fun j hj => ?_, fun j hj => ?_, h.dM, fun i j b hi hj e1 e2 => ?_⟩
  · unfold updL updP
    by_cases e : j = k
    · rw [if_pos e, if_pos e]; exact h1
    · rw [if_neg e, if_neg e]
      refine ORow.stay (h.lst j hj) x (fun b hb hbq => ?_)
      obtain ⟨cur, hc⟩ := (h.lst j hj).obj hb
      rcases nm b _ hc hbq with e' | e' | e'
      · subst e'; have := hc.symm.trans h.pil; simp at this
      · subst e'; have := hc.symm.trans hm; simp at this
      · exact e (h.dL j k b hj hk hb e')
  · unfold updP
    by_cases e : j = k
    · rw [if_pos e, e]; exact h2
    · rw [if_neg e]
      refine ((h.set j hj).stay x (fun hbq => ?_)).mono hn
      obtain ⟨es', c', hm'⟩ := (h.set j hj).obj
      rcases nm _ _ hm' hbq with e' | e' | e'
      · rw [e'] at hm'; have := hm'.symm.trans h.pil; simp at this
      · exact e (h.dM j k hj hk e')
      · obtain ⟨cur, hc⟩ := (h.lst k hk).obj e'; have := hm'.symm.trans hc; simp at this
  · unfold updP
    by_cases e : j = k
    · rw [if_pos e]; exact h3
    · rw [if_neg e]; exact ⟨Nat.le_trans (h.bd j hj).1 hn, (h.bd j hj).2⟩
  · unfold updL at e1 e2
    have old : ∀ m, m < len → (L m).ownBlock = some b → w.heap.size ≤ b → False := fun m hm' e' hb => by
      obtain ⟨cur, hc⟩ := (h.lst m hm').obj e'
      have := heap_lt hc
      omega
    by_cases a1 : i = k
    · by_cases a2 : j = k
      · omega
      · rw [if_pos a1] at e1
        rw [if_neg a2] at e2
        rcases ho with o | o | ⟨b', o, o2⟩
        · rw [o] at e1; exact absurd (h.dL k j b hk hj e1 e2) (by omega)
        · rw [o] at e1; cases e1
        · rw [o] at e1; cases e1; exact (old j hj e2 o2).elim
    · by_cases a2 : j = k
      · rw [if_neg a1] at e1
        rw [if_pos a2] at e2
        rcases ho with o | o | ⟨b', o, o2⟩
        · rw [o] at e2; exact absurd (h.dL i k b hi hk e1 e2) (by omega)
        · rw [o] at e2; cases e2
        · rw [o] at e2; cases e2; exact (old i hi e1 o2).elim
      · rw [if_neg a1] at e1
        rw [if_neg a2] at e2
        exact h.dL i j b hi hj e1 e2
/-- A box of a block's, apart from its rows, turns. -/
theorem Stk.aside {N : Nat} {cur : Array Value} (h : Stk w sb clb pb W S B T len f n P L M) (hN : w.heap[N]? = some (.cells cur 32 (0, 0))) (x : Only [N] w w') (hL : ∀ k b, k < len → (L k).ownBlock = some b → b ≠ N) : Stk w' sb clb pb W S B T len f n P L M := by
  have s1 : sb ≠ N := fun e => by have := h.box; rw [e] at this; have := this.symm.trans hN; simp at this
  have s2 : clb ≠ N := fun e => by have := h.row; rw [e] at this; have := this.symm.trans hN; simp at this
  have s3 : pb ≠ N := fun e => by have := h.pil; rw [e] at this; have := this.symm.trans hN; simp at this
  refine ⟨x.at h.box (by simpa using s1), x.at h.row (by simpa using s2), x.at h.pil (by simpa using s3), fun k hk => ORow.stay (h.lst k hk) x (fun b hb => by simpa using hL k b hk hb), fun k hk => (h.set k hk).stay x (fun hm => ?_), h.bd, h.dM, h.dL⟩
  simp at hm
  obtain ⟨es, c, hm2⟩ := (h.set k hk).obj
  rw [hm] at hm2
  have := hm2.symm.trans hN
  simp at this
end
set_option maxHeartbeats 1000000 in
/-- The pile of a class that there is. -/
theorem pile_in (sb clb pb : Nat) (W S B T : Int) (len : Nat) (f : Nat → Int) (n : Nat) (P : Nat → List (Int × Int)) (L : Nat → Value) (M : Nat → Nat) (k : Nat) (w : World) (h : Hid (Stk w sb clb pb W S B T len f n P L M)) (hk : k < len) :
    Calls Tryd.prog 17 #[.pointer (some ⟨sb, 0, none⟩), .int .i64 (k : Nat)] w fun e w' => e = .returned (.pointer (some ⟨pb, k * 2, none⟩)) ∧ w = w' := by
  obtain ⟨_, _, _, _, _, c5⟩ := h.out.cells
  have g1 : ¬ (k : Int) < 0 := by omega
  have g2 : ¬ (len : Int) ≤ (k : Int) := by omega
  have g3 : decide (len ≤ k) = false := by simp; omega
  have g4 : (k : Int) < (len : Int) := by omega
  go_enter Tryd.func17, Tryd.ntmps17
  go_wp2_with fail
  go_ret
  exact ⟨rfl, rfl⟩
set_option maxHeartbeats 1000000 in
/-- The pile of a class that there isn't: one without anything, which isn't kept. -/
theorem pile_out (sb clb pb : Nat) (W S B T : Int) (len : Nat) (f : Nat → Int) (n : Nat) (P : Nat → List (Int × Int)) (L : Nat → Value) (M : Nat → Nat) (k : Int) (w : World) (h : Hid (Stk w sb clb pb W S B T len f n P L M)) (hk : k < 0 ∨ (len : Int) ≤ k) :
    Calls Tryd.prog 17 #[.pointer (some ⟨sb, 0, none⟩), .int .i64 k] w fun e w' => e = .returned (.pointer (some ⟨w.heap.size, 0, none⟩)) ∧ w' = w.alloc (.cells #[.slice none 0 0, .map none] 53) := by
  obtain ⟨_, _, _, _, _, c5⟩ := h.out.cells
  by_cases h0 : k < 0
  · have g1 : decide (k < 0) = true := by simpa using h0
    clear hk
    go_enter Tryd.func17, Tryd.ntmps17
    go_wp2_with fail
    go_ret
    exact ⟨rfl, rfl⟩
  · have g1 : decide (k < 0) = false := by simpa using h0
    have g2 : (len : Int) ≤ k := by omega
    have g3 : decide ((len : Int) ≤ k) = true := by simpa using g2
    clear hk
    go_enter Tryd.func17, Tryd.ntmps17
    go_wp2_with fail
    go_ret
    exact ⟨rfl, rfl⟩
set_option maxHeartbeats 1000000 in
theorem len_in (sb clb pb : Nat) (W S B T : Int) (len : Nat) (f : Nat → Int) (n : Nat) (P : Nat → List (Int × Int)) (L : Nat → Value) (M : Nat → Nat) (k : Nat) (w : World) (h : Hid (Stk w sb clb pb W S B T len f n P L M)) (hk : k < len) :
    Calls Tryd.prog 15 #[.pointer (some ⟨sb, 0, none⟩), .int .i64 (k : Nat)] w fun e w' => e = .returned (.int .i64 ((P k).length : Nat)) ∧ w = w' := by
  have PI := Lib.hid (pile_in sb clb pb W S B T len f n P L M k w h hk)
  obtain ⟨c0, _⟩ := h.out.cell hk
  obtain ⟨a, c, hv⟩ := ORow.form (h.out.lst k hk)
  rw [hv] at c0
  clear hv
  go_enter Tryd.func15, Tryd.ntmps15
  go_wp2_with fail
  refine PI.out.mono ?_
  rintro e w1 ⟨rfl, rfl⟩
  go_wp2_with fail
  go_ret
  exact ⟨rfl, rfl⟩
end Go.Proofs.YtehmeccjgjhidaaDoor
