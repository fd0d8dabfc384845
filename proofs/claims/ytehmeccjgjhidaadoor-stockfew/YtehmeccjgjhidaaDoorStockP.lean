/-
  Push, whatever is asked; slices.Backward; what a Stock is where other things turn.
-/
import Derived.Test.YtehmeccjgjhidaaDoorStockO
namespace Go.Proofs.YtehmeccjgjhidaaDoor
open Go.RowKit Go.Maps Go.Sort Go.Shelf
attribute [local go_sem] Oper.semAt_some

/-- What Push makes of a class's blocks. -/
def pushL (S : Int) (len : Nat) (f : Nat → Int) (k : Nat) (l : List (Int × Int)) (x : Int × Int) : List (Int × Int) := if adrI S len f (k : Nat) x.1 x.2 ≠ 0 ∧ x ∉ l then l ++ [x] else l
def pushB (S : Int) (len : Nat) (f : Nat → Int) (k : Nat) (l : List (Int × Int)) (x : Int × Int) : Bool := decide (adrI S len f (k : Nat) x.1 x.2 ≠ 0 ∧ x ∉ l)
theorem updP_same (P : Nat → List (Int × Int)) (k : Nat) : updP P k (P k) = P := by
  funext j; simp only [updP]; split
  · subst_vars; rfl
  · rfl
theorem updL_same (L : Nat → Value) (k : Nat) : updL L k (L k) = L := by
  funext j; simp only [updL]; split
  · subst_vars; rfl
  · rfl
section
variable {sb clb pb : Nat} {W S B T : Int} {len : Nat} {f : Nat → Int} {n : Nat} {P : Nat → List (Int × Int)} {L : Nat → Value} {M : Nat → Nat}
theorem Stk.more {w : World} (h : Stk w sb clb pb W S B T len f n P L M) {n' : Nat} (hn : n ≤ n') : Stk w sb clb pb W S B T len f n' P L M :=
  ⟨h.box, h.row, h.pil, h.lst, fun k hk => (h.set k hk).mono hn, fun k hk => ⟨by have := (h.bd k hk).1; omega, (h.bd k hk).2⟩, h.dM, h.dL⟩
/-- Blocks that are no part of it turn. -/
theorem Stk.far {w w' : World} {q : List Nat} (h : Stk w sb clb pb W S B T len f n P L M) (x : Only q w w') (hq : ∀ b ∈ q, ∀ o, w.heap[b]? = some o → o.isCells = false) (hM : ∀ k, k < len → M k ∉ q) : Stk w' sb clb pb W S B T len f n P L M := by
  have no : ∀ b cur t, w.heap[b]? = some (.cells cur t (0, 0)) → b ∉ q := fun b cur t hb hm => by have := hq b hm _ hb; simp [Obj.isCells] at this
  exact ⟨x.at h.box (no _ _ _ h.box), x.at h.row (no _ _ _ h.row), x.at h.pil (no _ _ _ h.pil), fun k hk => ORow.stay (h.lst k hk) x (fun b hb => by obtain ⟨cur, hc⟩ := (h.lst k hk).obj hb; exact no _ _ _ hc), fun k hk => (h.set k hk).stay x (hM k hk), h.bd, h.dM, h.dL⟩
end
section
variable (sb clb pb : Nat) (W S B T : Int) (len : Nat) (f : Nat → Int) (n : Nat) (P : Nat → List (Int × Int)) (L : Nat → Value) (M : Nat → Nat)
/-- Push of a class that there is. -/
theorem push_any (k : Nat) (x : Int × Int) (w : World) (h : Hid (Stk w sb clb pb W S B T len f n P L M)) (hk : k < len) (ok : Hid (ClsOk len f)) (s0 : 0 ≤ S) (s1 : S ≤ 1000) (hx : Bd x) (hn : n < 1048576) :
    Calls Tryd.prog 7 #[.pointer (some ⟨sb, 0, none⟩), .int .i64 (k : Nat), .agg #[.int .i64 x.1, .int .i64 x.2]] w fun e w' => e = .returned (.bool (pushB S len f k (P k) x)) ∧ ∃ v', Stk w' sb clb pb W S B T len f (n + 1) (updP P k (pushL S len f k (P k) x)) (updL L k v') M ∧ Only ([pb, M k] ++ (L k).ownBlock.toList) w w' ∧ (v'.ownBlock = (L k).ownBlock ∨ ∃ b, v'.ownBlock = some b ∧ w.heap.size ≤ b) := by
  by_cases c : adrI S len f (k : Nat) x.1 x.2 ≠ 0 ∧ x ∉ P k
  · refine (push_yes sb clb pb W S B T len f n P L M k x w h hk ok s0 s1 hx hn c.1 c.2).mono ?_
    rintro e w' ⟨rfl, v', h1, h2, h3⟩
    exact ⟨by simp only [pushB, decide_eq_true c], v', by rw [pushL, if_pos c]; exact h1, h2, h3⟩
  · refine (push_no sb clb pb W S B T len f n P L M k x w h hk ok s0 s1 hx (by by_cases a : adrI S len f (k : Nat) x.1 x.2 = 0; exact .inl a; exact .inr (Classical.not_not.1 fun b => c ⟨a, b⟩))).mono ?_
    rintro e w' ⟨rfl, hb⟩
    exact ⟨by simp only [pushB, decide_eq_false c], L k, by rw [pushL, if_neg c, updP_same, updL_same]; exact (h.out.next hb).more (by omega), Only.of_below hb, .inl rfl⟩
end
/-- slices.Backward: the row is boxed; the closure has the box. -/
theorem back_in (F : Fence) (n : Nat) (h70 : F.fn 27) (hro : F.round = none) (ad : Option Addr) (len cap : Nat) (w : World) :
    CallsIn F n Tryd.prog 27 #[.slice ad len cap] w fun e w' => e = .returned (.func (.func 33) #[] #[.pointer (some ⟨w.heap.size, 0, none⟩)]) ∧ w' = w.alloc (.cells #[.slice ad len cap] 22) := by
  refine callsIn_of_wp Tryd.func27 rfl h70 ?_ hro
  simp only [Tryd.ntmps27, List.size_toArray, List.length_cons, List.length_nil, Nat.reduceAdd, Nat.reduceSub, Array.replicate_succ, Array.replicate_zero, List.push_toArray, List.append_toArray, List.nil_append, List.cons_append]
  gi_wp2
  go_ret
  exact ⟨rfl, rfl⟩
/-- It gives the row's ints, the last first. -/
theorem back_stops (F : Fence) (n : Nat) (h89 : F.fn 33) (hro : F.round = none) (hn : 1 ≤ n) (Q lb len cap : Nat) (ad : Option Addr) (z : Nat → Nat) (hz : ∀ j, z j < 64) (few : len ≤ 1000) (w : World)
    (hQ : w.heap[Q]? = some (.cells #[.slice ad len cap] 22 (0, 0))) (hlb : lb < w.heap.size) (hL : 0 < len → ad = some ⟨lb, 0, none⟩ ∧ ∃ cur, w.heap[lb]? = some (.cells cur 3 (0, 0)) ∧ ∀ j, j < len → cur[j]? = some (.int .i64 ((z j : Nat) : Int))) :
    SeqStopsK F n Tryd.prog 33 #[.pointer (some ⟨Q, 0, none⟩)] (fun x : Nat × Nat => #[Value.int .i64 (x.1 : Int), Value.int .i64 ((x.2 % 64 : Nat) : Int)]) (KpQ Q lb) (fun ys => ys = bkw z len len) (fun pre => ∃ k, k ≤ len ∧ pre = bkw z len k) len w := fun l J Jx W hW _ _ hY h0 =>
  back1_in F n h89 hro hn l Q lb len cap ad z hz few J Jx hY W ((hW.block _ (heap_lt hQ)).trans hQ) (fun h => by obtain ⟨a, cur, b, c⟩ := hL h; exact ⟨a, cur, (hW.block _ hlb).trans b, c⟩) h0
end Go.Proofs.YtehmeccjgjhidaaDoor
