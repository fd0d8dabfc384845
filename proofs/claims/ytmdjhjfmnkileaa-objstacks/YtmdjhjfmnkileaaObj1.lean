/-
  Objects (package obj): how many words each has, and what each does to them and answers.
-/
import Derived.Test.YtmdjhjfmnkileaaSlot3
namespace Go.Proofs.Ytmdjhjfmnkileaa
open Go.RowKit Go.Sort

/-- An object: a counter (none), or a stack of some room. -/
abbrev Ob := Option Int
def obV : Ob → Value
  | none => .iface 28 (.agg #[])
  | some r => .iface 36 (.agg #[.int .i64 r])
def roomN (r : Int) : Nat := if r < 0 then 0 else if 1000 < r then 1000 else r.toNat
def obW : Ob → Nat
  | none => 1
  | some r => roomN r + 1
/-- What a counter, and a stack, does to its words, the first ones of a row, and what it answers. -/
def cntApp (L : List Nat) (op : Nat × Nat) : List Nat × (Nat × Nat) := (L.set 0 ((L.getD 0 0 + op.1) % 18446744073709551616), (L.getD 0 0, (L.getD 0 0 + op.1) % 18446744073709551616))
def stkApp (r : Int) (L : List Nat) (op : Nat × Nat) : List Nat × (Nat × Nat) :=
  if roomN r < L.getD 0 0 then (L, (0, 0))
  else if op.1 = 1 ∧ L.getD 0 0 < roomN r then ((L.set (L.getD 0 0 + 1) op.2).set 0 (L.getD 0 0 + 1), (1, 0))
  else if op.1 = 2 ∧ 0 < L.getD 0 0 then ((L.set (L.getD 0 0) 0).set 0 (L.getD 0 0 - 1), (1, L.getD (L.getD 0 0) 0))
  else (L, (0, 0))
def obApp (o : Ob) (L : List Nat) (op : Nat × Nat) : List Nat × (Nat × Nat) := match o with
  | none => cntApp L op
  | some r => stkApp r L op
theorem room_le (r : Int) : roomN r ≤ 1000 := by unfold roomN; split <;> (try split) <;> omega
theorem room_eq (r : Int) : min (max r 0) 1000 = ((roomN r : Nat) : Int) := by unfold roomN; split <;> (try split) <;> omega
theorem room_eq' (r : Int) : min 1000 (max 0 r) = ((roomN r : Nat) : Int) := by unfold roomN; split <;> (try split) <;> omega

theorem sroom_any (r : Int) (w : World) :
    Calls Try.prog 18 #[.agg #[.int .i64 r]] w fun e w' => e = .returned (.int .i64 ((roomN r : Nat) : Int)) ∧ Below w.heap.size w w' := by
  have E1 := Lib.hid (room_eq r)
  generalize ((roomN r : Nat) : Int) = R at *
  go_enter Try.func18, Try.ntmps18
  go_wp2
  all_goals (go_ret; refine ⟨?_, box1 _ _⟩; rw [← E1.out]; show Ending.returned (Value.int _ _) = _; congr 2; omega)
theorem swords_any (r : Int) (w : World) :
    Calls Try.prog 14 #[.agg #[.int .i64 r]] w fun e w' => e = .returned (.int .i64 ((roomN r + 1 : Nat) : Int)) ∧ Below w.heap.size w w' := by
  have R := Lib.hid fun w1 => sroom_any r w1
  have hR := room_le r
  have E1 : Hid (((roomN r : Nat) : Int) + 1 = ((roomN r + 1 : Nat) : Int)) := by show _ = _; omega
  generalize roomN r = X at *
  go_enter Try.func14, Try.ntmps14
  go_wp2_with fail
  refine (R.out _).mono ?_
  rintro e w1 ⟨rfl, hb⟩
  have B1 := Lib.hid (box_then hb)
  clear hb
  go_wp2_with fail
  go_ret
  exact ⟨by rw [← E1.out]; rfl, B1.out⟩
theorem cwords9_any (w : World) :
    Calls Try.prog 12 #[.agg #[]] w fun e w' => e = .returned (.int .i64 1) ∧ Below w.heap.size w w' := by
  go_enter Try.func12, Try.ntmps12
  go_wp2
  go_ret
  exact ⟨rfl, box1 _ _⟩

theorem three_new (w : World) (a b c : Obj) : (((w.alloc a).alloc b).alloc c).heap[w.heap.size]? = some a ∧ (((w.alloc a).alloc b).alloc c).heap[w.heap.size + 1]? = some b ∧ (((w.alloc a).alloc b).alloc c).heap[w.heap.size + 1 + 1]? = some c ∧ Below w.heap.size w (((w.alloc a).alloc b).alloc c) ∧ (((w.alloc a).alloc b).alloc c).heap.size = w.heap.size + 1 + 1 + 1 := by
  have e1 : (w.alloc a).heap.size = w.heap.size + 1 := by simp
  have e2 : ((w.alloc a).alloc b).heap.size = w.heap.size + 1 + 1 := by simp
  have h1 := heap_new w a
  have h2 := heap_new (w.alloc a) b
  have h3 := heap_new ((w.alloc a).alloc b) c
  rw [e1] at h2
  rw [e2] at h3
  refine ⟨?_, ?_, h3, (((Below.refl _ _).alloc (Nat.le_refl _) a).alloc (by omega) b).alloc (by omega) c, by simp⟩
  · rw [Below.heap_alloc _ _ _ (by omega), Below.heap_alloc _ _ _ (by omega)]; exact h1
  · rw [Below.heap_alloc _ _ _ (by omega)]; exact h2
theorem words_at {w : World} {b j : Nat} {L : List Nat} (h : w.heap[b]? = some (.cells (wordsOf L) 29 (0, 0))) (hj : j < L.length) : w.cell? ⟨b, j, none⟩ = some (.int .u64 ((L.getD j 0 : Nat) : Int)) := by
  rw [cell_of h]; simp [wordsOf, hj]
theorem words_set {w : World} {b j x : Nat} {L : List Nat} (h : w.heap[b]? = some (.cells (wordsOf L) 29 (0, 0))) : (w.setCell ⟨b, j, none⟩ (.int .u64 (x : Int))).heap[b]? = some (.cells (wordsOf (L.set j x)) 29 (0, 0)) := by
  rw [set_of h]; simp [wordsOf]
theorem getD_lt {L : List Nat} (h : ∀ x ∈ L, x < 18446744073709551616) (j : Nat) : L.getD j 0 < 18446744073709551616 := by
  by_cases hj : j < L.length
  · rw [List.getD_eq_getElem?_getD, List.getElem?_eq_getElem hj]; exact h _ (List.getElem_mem _)
  · rw [List.getD_eq_getElem?_getD, List.getElem?_eq_none (by omega)]; decide
theorem set_lt {L : List Nat} (h : ∀ x ∈ L, x < 18446744073709551616) (j : Nat) {y : Nat} (hy : y < 18446744073709551616) : ∀ x ∈ L.set j y, x < 18446744073709551616 := by
  intro x hx
  rcases List.mem_or_eq_of_mem_set hx with h1 | rfl
  · exact h x h1
  · exact hy
theorem obApp_len (o : Ob) (L : List Nat) (op : Nat × Nat) : (obApp o L op).1.length = L.length := by
  cases o with
  | none => simp [obApp, cntApp]
  | some r =>
    show (stkApp r L op).1.length = _
    unfold stkApp
    repeat' split
    all_goals simp
theorem obApp_lt (o : Ob) {L : List Nat} {op : Nat × Nat} (h : ∀ x ∈ L, x < 18446744073709551616) (h2 : op.2 < 18446744073709551616) : (∀ x ∈ (obApp o L op).1, x < 18446744073709551616) ∧ (obApp o L op).2.1 < 18446744073709551616 ∧ (obApp o L op).2.2 < 18446744073709551616 := by
  cases o with
  | none => exact ⟨set_lt h 0 (by omega), getD_lt h 0, by show (_ % _) < _; omega⟩
  | some r =>
    have := room_le r
    show (∀ x ∈ (stkApp r L op).1, _) ∧ (stkApp r L op).2.1 < _ ∧ (stkApp r L op).2.2 < _
    unfold stkApp
    by_cases k1 : roomN r < L.getD 0 0
    · rw [if_pos k1]; exact ⟨h, by show 0 < _; omega, by show 0 < _; omega⟩
    · rw [if_neg k1]
      by_cases k2 : op.1 = 1 ∧ L.getD 0 0 < roomN r
      · rw [if_pos k2]; exact ⟨set_lt (set_lt h _ h2) _ (by omega), by show 1 < _; omega, by show 0 < _; omega⟩
      · rw [if_neg k2]
        by_cases k3 : op.1 = 2 ∧ 0 < L.getD 0 0
        · rw [if_pos k3]; exact ⟨set_lt (set_lt h _ (by omega)) _ (by omega), by show 1 < _; omega, getD_lt h _⟩
        · rw [if_neg k3]; exact ⟨h, by show 0 < _; omega, by show 0 < _; omega⟩

set_option maxRecDepth 20000 in
set_option maxHeartbeats 1000000 in
theorem capply_any (b c A B : Nat) (L : List Nat) (w : World) (hb : Hid (w.heap[b]? = some (.cells (wordsOf L) 29 (0, 0)))) (hl : 0 < L.length) (hL : Hid (∀ x ∈ L, x < 18446744073709551616)) :
    Calls Try.prog 36 #[.agg #[], .slice (some ⟨b, 0, none⟩) 1 c, .agg #[.int .u64 A, .int .u64 B]] w fun e w' => e = .returned (.agg #[.int .u64 ((obApp none L (A, B)).2.1 : Nat), .int .u64 ((obApp none L (A, B)).2.2 : Nat)]) ∧ w'.heap[b]? = some (.cells (wordsOf (obApp none L (A, B)).1) 29 (0, 0)) ∧ Only [b] w w' := by
  have lb := heap_lt hb.out
  obtain ⟨t0, t1, t2, t3, t4⟩ := three_new w (.cells #[] 28) (.cells #[.int .u64 A, .int .u64 B] 40) (.cells #[.int .u64 0, .int .u64 0] 40)
  have T0 := Lib.hid t0
  have T1 := Lib.hid t1
  have T2 := Lib.hid t2
  have T3 := Lib.hid t3
  have T4 := Lib.hid t4
  have H1 : Hid (_ = _) := (t3.block b lb).trans hb.out
  clear t0 t1 t2 t3 t4
  have hx := getD_lt hL.out 0
  have EW : IntKind.u64.wrap (((L.getD 0 0 : Nat) : Int) + (A : Int)) = (((L.getD 0 0 + A) % 18446744073709551616 : Nat) : Int) := by simp only [IntKind.wrap_u64]; omega
  have EV : Hid (obApp none L (A, B) = (L.set 0 ((L.getD 0 0 + A) % 18446744073709551616), (L.getD 0 0, (L.getD 0 0 + A) % 18446744073709551616))) := rfl
  rw [EV.out]
  have C0 : Hid (∀ w' : World, w'.heap[b]? = some (.cells (wordsOf L) 29 (0, 0)) → w'.cell? ⟨b, 0, none⟩ = some (.int .u64 ((L.getD 0 0 : Nat) : Int))) := fun w' h => words_at h hl
  generalize L.getD 0 0 = x0 at *
  generalize (x0 + A) % 18446744073709551616 = y0 at *
  go_enter Try.func36, Try.ntmps36
  go_wp2_with fail
  refine (cwords9_any _).mono ?_
  generalize ((w.alloc (.cells #[] 28)).alloc (.cells #[.int .u64 A, .int .u64 B] 40)).alloc (.cells #[.int .u64 0, .int .u64 0] 40) = w1 at *
  rintro e w2 ⟨rfl, hq⟩
  have U1 : Hid (w2.heap[w.heap.size + 1]? = _) := (hq.block _ (by have := T4.out; omega)).trans T1.out
  have U2 : Hid (w2.heap[w.heap.size + 1 + 1]? = _) := (hq.block _ (by have := T4.out; omega)).trans T2.out
  have UB : Hid (w2.heap[b]? = _) := (hq.block _ (by have := T4.out; omega)).trans H1.out
  have U3 := Lib.hid (below_two T3.out hq)
  clear hq T0 T1 T2 T3 T4 H1
  have c0 := C0.out w2 UB.out
  have z0 := frozen_of (j := 0) UB.out
  have d0 : w2.cell? ⟨w.heap.size + 1, 0, none⟩ = some (.int .u64 A) := by rw [cell_of U1.out]; rfl
  have e0 : w2.cell? ⟨w.heap.size + 1 + 1, 0, none⟩ = some (.int .u64 0) := by rw [cell_of U2.out]; rfl
  have e1 : w2.cell? ⟨w.heap.size + 1 + 1, 1, none⟩ = some (.int .u64 0) := by rw [cell_of U2.out]; rfl
  have f0 := frozen_of (j := 0) U2.out
  have f1 := frozen_of (j := 1) U2.out
  have hne : ¬ w.heap.size + 1 + 1 = b := by omega
  have hne' : ¬ b = w.heap.size + 1 + 1 := by omega
  have W3 : Hid (∀ u v : Value, (((w2.setCell ⟨b, 0, none⟩ (.int .u64 (y0 : Int))).setCell ⟨w.heap.size + 1 + 1, 0, none⟩ u).setCell ⟨w.heap.size + 1 + 1, 1, none⟩ v).heap[b]? = some (.cells (wordsOf (L.set 0 y0)) 29 (0, 0))) := fun u v => by
    rw [set_other hne', set_other hne']; exact words_set UB.out
  have O3 : Hid (∀ u v : Value, Only [b] w (((w2.setCell ⟨b, 0, none⟩ (.int .u64 (y0 : Int))).setCell ⟨w.heap.size + 1 + 1, 0, none⟩ u).setCell ⟨w.heap.size + 1 + 1, 1, none⟩ v)) := fun u v => 
    (Only.of_below U3.out).trans' (((Only.of_set (l := [b, w.heap.size + 1 + 1]) (by simp) _).trans (Only.of_set (by simp) _)).trans (Only.of_set (by simp) _)) (by intro k hk; simp at hk ⊢; omega)
  go_wp2_with fail
  go_region
  go_wp2_with fail
  exact bodyPost_ret (v := .agg #[.int .u64 x0, .int .u64 y0]) (by simp [results, Try.results36, go_sem, e0, e1]) rfl ⟨rfl, W3.out _ _, (O3.out _ _).trans (Only.of_below ((Below.refl _ _).drew))⟩
end Go.Proofs.Ytmdjhjfmnkileaa
