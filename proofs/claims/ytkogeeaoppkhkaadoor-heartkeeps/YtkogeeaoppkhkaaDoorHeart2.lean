/-
  Package heart: a superblock, by all words; a superblock becomes another one; all superblocks that are so.
-/
import Derived.Test.YtkogeeaoppkhkaaDoorHeart1
import Derived.Shelf.Abstract
namespace Go.Proofs.YtkogeeaoppkhkaaDoor
open Go.RowKit Go.Sort Go.Shelf

theorem two_fresh (w : World) (a b : Obj) : ((w.alloc a).alloc b).heap[w.heap.size]? = some a ∧ ((w.alloc a).alloc b).heap[w.heap.size + 1]? = some b ∧ Below w.heap.size w ((w.alloc a).alloc b) ∧ ((w.alloc a).alloc b).heap.size = w.heap.size + 1 + 1 := by
  have e1 : (w.alloc a).heap.size = w.heap.size + 1 := by simp
  have h2 := heap_new (w.alloc a) b
  rw [e1] at h2
  refine ⟨?_, h2, ((Below.refl _ _).alloc (Nat.le_refl _) a).alloc (by omega) b, by simp⟩
  rw [Below.heap_alloc _ _ _ (by omega)]; exact heap_new w a

def supF (s : Sb) : Bool := s.k == 0
def supC (s : Sb) : Int := if s.k = 1 then (s.n : Int) else -1
def supR (s : Sb) : Int := if s.k = 2 then (s.n : Int) else if s.k = 3 then -1 else 0
def supM (s : Sb) : Nat := if s.k = 1 then s.m else 0
def supV (s : Sb) : Value := .agg #[.bool (supF s), .int .i64 (supC s), .int .i64 (supR s), .int .u64 (supM s : Nat)]
def SupBox (w : World) (N : Nat) (f : Bool) (c r : Int) (m : Int) : Prop := w.heap[N]? = some (.cells #[.bool f, .int .i64 c, .int .i64 r, .int .u64 m] 88 (0, 0))
section
variable {w w' : World} {N : Nat} {f : Bool} {c r : Int} {m : Int}
theorem SupBox.c0 (h : SupBox w N f c r m) : w.cell? ⟨N, 0, none⟩ = some (.bool f) := by rw [cell_of h]; rfl
theorem SupBox.c1 (h : SupBox w N f c r m) : w.cell? ⟨N, 1, none⟩ = some (.int .i64 c) := by rw [cell_of h]; rfl
theorem SupBox.c2 (h : SupBox w N f c r m) : w.cell? ⟨N, 2, none⟩ = some (.int .i64 r) := by rw [cell_of h]; rfl
theorem SupBox.c3 (h : SupBox w N f c r m) : w.cell? ⟨N, 3, none⟩ = some (.int .u64 m) := by rw [cell_of h]; rfl
theorem SupBox.next (h : SupBox w N f c r m) (hb : Below w.heap.size w w') : SupBox w' N f c r m := (hb.block N (heap_lt h)).trans h
theorem SupBox.keep (h : SupBox w N f c r m) {g j : Nat} (v : Value) (hn : N ≠ g) : SupBox (w.setCell ⟨g, j, none⟩ v) N f c r m := (set_other hn v).trans h
theorem SupBox.set (h : SupBox w N f c r m) (f' : Bool) (c' r' m' : Int) : SupBox ((((w.setCell ⟨N, 0, none⟩ (.bool f')).setCell ⟨N, 1, none⟩ (.int .i64 c')).setCell ⟨N, 2, none⟩ (.int .i64 r')).setCell ⟨N, 3, none⟩ (.int .u64 m')) N f' c' r' m' := set_of (set_of (set_of (set_of h _) _) _) _
end
theorem below_set {w w1 : World} {N j : Nat} {v : Value} (h : Below w.heap.size w w1) (hN : w.heap.size ≤ N) : Below w.heap.size w (w1.setCell ⟨N, j, none⟩ v) := h.setCell (p := ⟨N, j, none⟩) hN v

/-- All superblocks, in the first words of a row. -/
structure HW (w : World) (b : Nat) (l : List Sb) (r : List Nat) : Prop where
  at_ : w.heap[b]? = some (.cells (wordsOf (encL l ++ r)) 35 (0, 0))
  ok : OkL l
  few : l.length ≤ 64
theorem HW.next {w w' : World} {b : Nat} {l : List Sb} {r : List Nat} (h : HW w b l r) (hb : Below w.heap.size w w') : HW w' b l r := ⟨(hb.block b (heap_lt h.at_)).trans h.at_, h.ok, h.few⟩
theorem HW.stay {q : List Nat} {w w' : World} {b : Nat} {l : List Sb} {r : List Nat} (h : HW w b l r) (x : Only q w w') (hn : b ∉ q) : HW w' b l r := ⟨x.at h.at_ hn, h.ok, h.few⟩
theorem HW.lt {w : World} {b : Nat} {l : List Sb} {r : List Nat} (h : HW w b l r) : b < w.heap.size := heap_lt h.at_
theorem wordsOf_at {L : List Nat} {j x : Nat} (h : L[j]? = some x) : (wordsOf L)[j]? = some (.int .u64 (x : Int)) := by
  simp [wordsOf, h]
theorem wordsOf_put (L : List Nat) (j x : Nat) : (wordsOf L).setIfInBounds j (.int .u64 (x : Int)) = wordsOf (L.set j x) := by
  apply Array.ext'
  simp [wordsOf, List.map_set]
theorem HW.cell0 {w : World} {b : Nat} {l : List Sb} {r : List Nat} (h : HW w b l r) {i : Nat} {s : Sb} (hi : l[i]? = some s) : w.cell? ⟨b, 2 * i, none⟩ = some (.int .u64 ((s.k + 256 * s.n : Nat) : Int)) := by
  rw [cell_of h.at_]; exact wordsOf_at (encL_at0 r hi)
theorem HW.cell1 {w : World} {b : Nat} {l : List Sb} {r : List Nat} (h : HW w b l r) {i : Nat} {s : Sb} (hi : l[i]? = some s) : w.cell? ⟨b, 2 * i + 1, none⟩ = some (.int .u64 ((s.m : Nat) : Int)) := by
  rw [cell_of h.at_]; exact wordsOf_at (encL_at1 r hi)

theorem fin4 {w w1 : World} {N : Nat} {f : Bool} {c r m : Int} (hN : w.heap.size = N) (h : SupBox w1 N f c r m) (hb : Below w.heap.size w w1) (f' : Bool) (c' r' m' : Int) :
    SupBox ((((w1.setCell ⟨N, 0, none⟩ (.bool f')).setCell ⟨N, 1, none⟩ (.int .i64 c')).setCell ⟨N, 2, none⟩ (.int .i64 r')).setCell ⟨N, 3, none⟩ (.int .u64 m')) N f' c' r' m' ∧ Below w.heap.size w ((((w1.setCell ⟨N, 0, none⟩ (.bool f')).setCell ⟨N, 1, none⟩ (.int .i64 c')).setCell ⟨N, 2, none⟩ (.int .i64 r')).setCell ⟨N, 3, none⟩ (.int .u64 m')) :=
  ⟨h.set f' c' r' m', below_set (below_set (below_set (below_set hb (by omega)) (by omega)) (by omega)) (by omega)⟩
set_option maxHeartbeats 1000000 in
theorem at_out (b n c : Nat) (i : Int) (w : World) (hn : n < 1000) (h : i < 0 ∨ (n : Int) / 2 ≤ i) :
    Calls Tryd.prog 43 #[.slice (some ⟨b, 0, none⟩) n c, .int .i64 i] w fun e w' => e = .returned (.tuple #[.agg #[.bool false, .int .i64 0, .int .i64 0, .int .u64 0], .bool false]) ∧ Below w.heap.size w w' := by
  have B0 := Lib.hid (box1 w (.cells #[.bool false, .int .i64 0, .int .i64 0, .int .u64 0] 88))
  by_cases h0 : i < 0
  · have g0 : decide (i < 0) = true := by simpa using h0
    clear h
    go_enter Tryd.func43, Tryd.ntmps43
    go_wp2_with fail
    exact bodyPost_ret (v := .tuple #[.agg #[.bool false, .int .i64 0, .int .i64 0, .int .u64 0], .bool false]) (by simp [results, Tryd.results43, go_sem]) rfl ⟨rfl, B0.out⟩
  · have g0 : decide (i < 0) = false := by simpa using h0
    have g2 : (n : Int) / 2 ≤ i := by omega
    have g1 : decide ((n : Int) / 2 ≤ i) = true := by simpa using g2
    clear h
    go_enter Tryd.func43, Tryd.ntmps43
    go_wp2_with fail
    exact bodyPost_ret (v := .tuple #[.agg #[.bool false, .int .i64 0, .int .i64 0, .int .u64 0], .bool false]) (by simp [results, Tryd.results43, go_sem]) rfl ⟨rfl, B0.out⟩
theorem HW.split {k n : Nat} (hk : k ≤ 3) (hn : n < 4294967296) : (k + 256 * n) % 256 = k ∧ (k + 256 * n) / 256 % 4294967296 = n := by omega
set_option maxHeartbeats 4000000 in
theorem at_in (b n c : Nat) (i : Nat) (s : Sb) (l : List Sb) (r : List Nat) (w : World) (hW : Hid (HW w b l r)) (hn : n = 2 * l.length) (hi : Hid (l[i]? = some s)) (hF : Hid (FldAt w)) :
    Calls Tryd.prog 43 #[.slice (some ⟨b, 0, none⟩) n c, .int .i64 (i : Nat)] w fun e w' => e = .returned (.tuple #[supV s, .bool true]) ∧ Below w.heap.size w w' := by
  obtain ⟨q1, q2, q3, q4⟩ := two_fresh w (.cells #[.bool false, .int .i64 0, .int .i64 0, .int .u64 0] 88) (.cells #[.bool false, .int .i64 (-1), .int .i64 0, .int .u64 0] 88)
  have N0 : Hid (SupBox _ w.heap.size false 0 0 0) := q1
  have N1 : Hid (SupBox _ (w.heap.size + 1) false (-1) 0 0) := q2
  have B0 := Lib.hid q3
  have hl : i < l.length := (List.getElem?_eq_some_iff.1 hi.out).1
  have hf := hW.out.few
  have hlt : (2 * (i : Int)) < (n : Int) := by omega
  have hlt1 : (2 * (i : Int) + 1) < (n : Int) := by omega
  have gi : ¬ (n : Int) / 2 ≤ (i : Int) := by omega
  have g1 : decide ((n : Int) / 2 ≤ (i : Int)) = false := by simpa using gi
  have wi : IntKind.i64.wrap (2 * (i : Int)) = 2 * (i : Int) := by rw [IntKind.wrap_i64]; omega
  have tn : (2 * (i : Int)).toNat = 2 * i := by omega
  have wi1 : IntKind.i64.wrap (2 * (i : Int) + 1) = 2 * (i : Int) + 1 := by rw [IntKind.wrap_i64]; omega
  have tn1 : (2 * (i : Int) + 1).toNat = 2 * i + 1 := by omega
  have H1 := Lib.hid (hW.out.next q3)
  have F1 := Lib.hid (hF.out.next q3)
  have SZ := Lib.hid q4
  have lb := hW.out.lt
  clear q1 q2 q3 q4
  obtain ⟨K, n', m⟩ := s
  obtain ⟨hk, hn', hm⟩ := hW.out.ok.at hi.out
  simp only at hk hn' hm
  obtain ⟨s1, s2⟩ := HW.split hk hn'
  have SP := Lib.hid fun w h => split_any (K + 256 * n') w (by omega) h
  rw [s1, s2] at SP
  have C0 := H1.out.cell0 hi.out
  have C1 := H1.out.cell1 hi.out
  simp only at C0 C1
  generalize K + 256 * n' = X at *
  go_enter Tryd.func43, Tryd.ntmps43
  go_wp2_with fail
  generalize (w.alloc (.cells #[.bool false, .int .i64 0, .int .i64 0, .int .u64 0] 88)).alloc (.cells #[.bool false, .int .i64 (-1), .int .i64 0, .int .u64 0] 88) = w1 at *
  refine (SP.out _ F1).mono ?_
  rintro e w2 ⟨rfl, hb⟩
  have H2 := Lib.hid (H1.out.next hb)
  have M0 := Lib.hid (N0.out.next hb)
  have M1 := Lib.hid (N1.out.next hb)
  have B2 := Lib.hid (B0.out.trans (hb.mono B0.out.size))
  have C2 := H2.out.cell1 hi.out
  simp only at C2
  clear hb N0 N1 C0 C1 SP
  generalize hN : w.heap.size = N at *
  have x0 := M1.out.c0
  have x1 := M1.out.c1
  have x2 := M1.out.c2
  have x3 := M1.out.c3
  have y0 := M0.out.c0
  have y1 := M0.out.c1
  have y2 := M0.out.c2
  have y3 := M0.out.c3
  have u := fun j => frozen_of (j := j) M1.out
  have v := fun j => frozen_of (j := j) M0.out
  have hbN : ¬ b = N + 1 := by omega
  have hbN' : ¬ N + 1 = b := by omega
  rcases (by omega : K = 0 ∨ K = 1 ∨ K = 2 ∨ K = 3) with rfl | rfl | rfl | rfl
  · go_wp2_with fail
    have B3 : Below w.heap.size w w2 := by rw [hN]; exact B2.out
    obtain ⟨R, S⟩ := fin4 hN (M0.out.keep (g := N + 1) (j := 0) (.bool true) (by omega)) (below_set (N := N + 1) (j := 0) (v := .bool true) B3 (by omega)) true (-1) 0 0
    exact bodyPost_ret (v := .tuple #[supV ⟨0, n', m⟩, .bool true]) (by simp [results, Tryd.results43, go_sem, R.c0, R.c1, R.c2, R.c3, supV, supF, supC, supR, supM]) rfl ⟨rfl, S⟩
  · go_wp2_with fail
    have B3 : Below w.heap.size w w2 := by rw [hN]; exact B2.out
    obtain ⟨R, S⟩ := fin4 hN ((M0.out.keep (g := N + 1) (j := 1) (.int .i64 n') (by omega)).keep (g := N + 1) (j := 3) (.int .u64 m) (by omega)) (below_set (N := N + 1) (j := 3) (v := .int .u64 m) (below_set (N := N + 1) (j := 1) (v := .int .i64 n') B3 (by omega)) (by omega)) false n' 0 m
    exact bodyPost_ret (v := .tuple #[supV ⟨1, n', m⟩, .bool true]) (by simp [results, Tryd.results43, go_sem, R.c0, R.c1, R.c2, R.c3, supV, supF, supC, supR, supM]) rfl ⟨rfl, S⟩
  · go_wp2_with fail
    have B3 : Below w.heap.size w w2 := by rw [hN]; exact B2.out
    obtain ⟨R, S⟩ := fin4 hN (M0.out.keep (g := N + 1) (j := 2) (.int .i64 n') (by omega)) (below_set (N := N + 1) (j := 2) (v := .int .i64 n') B3 (by omega)) false (-1) n' 0
    exact bodyPost_ret (v := .tuple #[supV ⟨2, n', m⟩, .bool true]) (by simp [results, Tryd.results43, go_sem, R.c0, R.c1, R.c2, R.c3, supV, supF, supC, supR, supM]) rfl ⟨rfl, S⟩
  · go_wp2_with fail
    have B3 : Below w.heap.size w w2 := by rw [hN]; exact B2.out
    obtain ⟨R, S⟩ := fin4 hN (M0.out.keep (g := N + 1) (j := 2) (.int .i64 (-1)) (by omega)) (below_set (N := N + 1) (j := 2) (v := .int .i64 (-1)) B3 (by omega)) false (-1) (-1) 0
    exact bodyPost_ret (v := .tuple #[supV ⟨3, n', m⟩, .bool true]) (by simp [results, Tryd.results43, go_sem, R.c0, R.c1, R.c2, R.c3, supV, supF, supC, supR, supM]) rfl ⟨rfl, S⟩
/-! A superblock becomes another one. -/
set_option maxHeartbeats 2000000 in
theorem put_any (b n c i k N m : Nat) (l : List Sb) (r : List Nat) (w : World) (hW : Hid (HW w b l r)) (hn : n = 2 * l.length) (hi : i < l.length) (hk : k ≤ 3) (hN : N < 4294967296) (hm : m < 18446744073709551616) (hF : Hid (FldAt w)) :
    Calls Tryd.prog 80 #[.slice (some ⟨b, 0, none⟩) n c, .int .i64 (i : Nat), .int .i64 (k : Nat), .int .i64 (N : Nat), .int .u64 (m : Nat)] w fun e w' => e = .returned (.tuple #[]) ∧ HW w' b (l.set i ⟨k, N, m⟩) r ∧ Only [b] w w' := by
  have hf := hW.out.few
  have hlt : (2 * (i : Int)) < (n : Int) := by omega
  have hlt1 : (2 * (i : Int) + 1) < (n : Int) := by omega
  have wi : IntKind.i64.wrap (2 * (i : Int)) = 2 * (i : Int) := by rw [IntKind.wrap_i64]; omega
  have tn : (2 * (i : Int)).toNat = 2 * i := by omega
  have wi1 : IntKind.i64.wrap (2 * (i : Int) + 1) = 2 * (i : Int) + 1 := by rw [IntKind.wrap_i64]; omega
  have tn1 : (2 * (i : Int) + 1).toNat = 2 * i + 1 := by omega
  have J := Lib.hid (join_yes k N w (by omega) hN hF)
  have E := Lib.hid (encL_set ⟨k, N, m⟩ r hi)
  have lb := hW.out.lt
  simp only at E
  have OK : Hid (OkL (l.set i ⟨k, N, m⟩)) := hW.out.ok.set ⟨hk, hN, hm⟩
  generalize k + 256 * N = X at *
  go_enter Tryd.func80, Tryd.ntmps80
  go_wp2_with fail
  refine J.out.mono ?_
  rintro e w1 ⟨rfl, hb⟩
  have H1 := Lib.hid (hW.out.next hb)
  have B1 := Lib.hid hb
  have c0 := H1.out.cell0 (at_of hi)
  have c1 := H1.out.cell1 (at_of hi)
  have f0 := fun j => frozen_of (j := j) H1.out.at_
  clear hb J
  go_wp2_with fail
  go_end0
  refine ⟨rfl, ⟨?_, OK.out, by simpa using hf⟩, (Only.of_below B1.out).trans ((Only.of_set (by simp) _).trans (Only.of_set (by simp) _))⟩
  rw [← E.out, ← wordsOf_put, ← wordsOf_put]
  exact set_of (set_of H1.out.at_ _) _
/-! 'Is it free?', 'is it of the class, with blocks?' -/
theorem isFree_any (f : Bool) (c r m : Int) (w : World) :
    Calls Tryd.prog 97 #[.agg #[.bool f, .int .i64 c, .int .i64 r, .int .u64 m]] w fun e w' => e = .returned (.bool f) ∧ Below w.heap.size w w' := by
  have B0 := Lib.hid (box1 w (.cells #[.bool f, .int .i64 c, .int .i64 r, .int .u64 m] 88))
  go_enter Tryd.func97, Tryd.ntmps97
  go_wp2
  go_ret
  exact ⟨rfl, B0.out⟩
theorem isOf_any (f : Bool) (c r m C : Int) (p : Nat) (w : World) (hc : w.cell? ⟨p, 0, none⟩ = some (.int .i64 C)) :
    Calls Tryd.prog 96 #[.agg #[.bool f, .int .i64 c, .int .i64 r, .int .u64 m], .pointer (some ⟨p, 0, none⟩)] w fun e w' => e = .returned (.bool (decide (c = C) && decide (¬ m = 0))) ∧ Below w.heap.size w w' := by
  have B0 := Lib.hid (box1 w (.cells #[.bool f, .int .i64 c, .int .i64 r, .int .u64 m] 88))
  have hc2 : (w.alloc (.cells #[.bool f, .int .i64 c, .int .i64 r, .int .u64 m] 88)).cell? ⟨p, 0, none⟩ = some (.int .i64 C) := (B0.out.cell (World.block_lt_of_cell? _ _ hc)).trans hc
  by_cases h : c = C
  · subst h
    go_enter Tryd.func96, Tryd.ntmps96
    go_wp2
    go_ret
    refine ⟨?_, B0.out⟩
    show Ending.returned (Value.bool _) = _
    congr 2
    simp [bne]
    rw [Bool.eq_iff_iff]; simp
  · have g1 : (c == C) = false := by simpa using h
    have g2 : decide (c = C) = false := by simpa using h
    go_enter Tryd.func96, Tryd.ntmps96
    go_wp2
    go_ret
    refine ⟨?_, B0.out⟩
    rw [g2]; rfl
/-! All superblocks that are so: 'is' is a function of the program, or a closure. -/
theorem those_step (p : Sb → Bool) (l : List Sb) (k : Nat) : thoseTo p l (k + 1) = if p (l.getD k Sb.none) then Ma.withN (thoseTo p l k) k else thoseTo p l k := rfl
theorem supV_eq (s : Sb) : supV s = .agg #[.bool (supF s), .int .i64 (supC s), .int .i64 (supR s), .int .u64 (supM s : Nat)] := rfl
set_option maxHeartbeats 4000000 in
theorem those_any (K : Nat) (eg : ∀ args w, (callFunc K args).run Tryd.prog w = .ok (.enter K args) w) (cb : Array Value) (p : Sb → Bool) (b n c : Nat) (l : List Sb) (r : List Nat) (w : World) (hW : Hid (HW w b l r)) (hn : n = 2 * l.length) (hF : Hid (FldAt w))
    (hp : Hid (∀ (s : Sb) (w' : World), OkS s → Below w.heap.size w w' → Calls Tryd.prog K (#[supV s] ++ cb) w' fun e w'' => e = .returned (.bool (p s)) ∧ Below w'.heap.size w' w'')) :
    Calls Tryd.prog 95 #[.slice (some ⟨b, 0, none⟩) n c, .func (.func K) #[] cb] w fun e w' => e = .returned (.int .u64 (thoseTo p l l.length : Nat)) ∧ Below w.heap.size w w' := by
  have hf := hW.out.few
  subst hn
  go_enter Tryd.func95, Tryd.ntmps95
  go_wp2_with fail
  go_loopw [5, 12] (fun m i wr => ∃ k : Nat, k ≤ l.length ∧ i = .int .i64 (k : Nat) ∧ m = .int .u64 (thoseTo p l k : Nat) ∧ Hid (Below w.heap.size w wr)) (fun _ i _ => l.length - (intOf i).toNat)
  case atStart =>
    exact ⟨0, by omega, rfl, rfl, Lib.hid (Below.refl _ _)⟩
  case round =>
    obtain ⟨k, hk, rfl, rfl, hb⟩ := hrel
    by_cases hlt : k < l.length
    · have hlt' : (k : Int) < (l.length : Int) := by omega
      have hs := Lib.hid (at_of hlt)
      have ok := Lib.hid (hW.out.ok.at hs.out)
      generalize hS : l.getD k Sb.none = s at *
      have A1 := Lib.hid (at_in b (2 * l.length) c k s l r wr (Lib.hid (hW.out.next hb.out)) rfl hs (Lib.hid (hF.out.next hb.out)))
      go_wp2_with fail
      refine A1.out.mono ?_
      rintro e w1 ⟨rfl, hb1⟩
      have B1 := Lib.hid (hb.out.trans (hb1.mono hb.out.size))
      have Z := supV_eq s
      go_wp2_with fail
      have B2 := Lib.hid (B1.out.alloc B1.out.size (.cells #[.bool (supF s), .int .i64 (supC s), .int .i64 (supR s), .int .u64 (supM s : Nat)] 88))
      clear hb1 A1 B1
      refine (hp.out s _ ok.out B2.out).mono ?_
      generalize w1.alloc (.cells #[.bool (supF s), .int .i64 (supC s), .int .i64 (supR s), .int .u64 (supM s : Nat)] 88) = w2 at *
      rintro e w3 ⟨rfl, hb3⟩
      have B3 := Lib.hid (B2.out.trans (hb3.mono B2.out.size))
      clear hb3 B2
      have ST := those_step p l k
      rw [hS] at ST
      have WT := Lib.hid fun w => with_yes (thoseTo p l k) (k : Nat) w (thoseTo_lt p l k (by omega)) (by omega) (by omega)
      rw [show ((k : Nat) : Int).toNat = k from by omega] at WT
      by_cases hps : p s = true
      · rw [if_pos hps] at ST
        rw [← ST] at WT
        clear ST
        go_wp2_with (go_at_call 67; refine (WT.out _).mono ?_; rintro e w' ⟨rfl, rfl⟩)
        go_roundw
        case rel => exact ⟨k + 1, by omega, by push_cast; rfl, rfl, B3⟩
        case measure => simp [intOf]; omega
      · have hps' : p s = false := by simpa using hps
        rw [if_neg hps] at ST
        have ST2 := Lib.hid ST
        clear ST
        go_wp2_with fail
        go_roundw
        case rel => exact ⟨k + 1, by omega, by push_cast; rfl, by rw [ST2.out], B3⟩
        case measure => simp [intOf]; omega
    · obtain rfl : k = l.length := by omega
      go_wp2_with fail
      go_ret
      exact ⟨rfl, hb.out⟩
theorem eg97 : ∀ args w, (callFunc 97 args).run Tryd.prog w = .ok (.enter 97 args) w := enters_of Tryd.func97 (by kernel_rfl) rfl
theorem eg96 : ∀ args w, (callFunc 96 args).run Tryd.prog w = .ok (.enter 96 args) w := enters_of Tryd.func96 (by kernel_rfl) rfl
theorem allFree_any (b n c : Nat) (l : List Sb) (r : List Nat) (w : World) (hW : Hid (HW w b l r)) (hn : n = 2 * l.length) (hF : Hid (FldAt w)) :
    Calls Tryd.prog 82 #[.slice (some ⟨b, 0, none⟩) n c] w fun e w' => e = .returned (.int .u64 (thoseTo isFree l l.length : Nat)) ∧ Below w.heap.size w w' := by
  subst hn
  have T := Lib.hid (those_any 97 eg97 #[] isFree b (2 * l.length) c l r w hW rfl hF (fun s w' _ _ => isFree_any (supF s) (supC s) (supR s) (supM s : Nat) w'))
  generalize thoseTo isFree l l.length = X at *
  go_enter Tryd.func82, Tryd.ntmps82
  go_wp2_with fail
  refine T.out.mono ?_
  rintro e w1 ⟨rfl, hb⟩
  go_wp2_with fail
  go_ret
  exact ⟨rfl, hb⟩
theorem isOf_eq (c : Nat) (s : Sb) : (decide (supC s = (c : Int)) && decide (¬ ((supM s : Nat) : Int) = 0)) = isOf c s := by
  unfold isOf supC supM
  by_cases h : s.k = 1
  · simp [h]; rw [Bool.eq_iff_iff]; simp; omega
  · simp [h]
theorem thoseOf_any (C : Nat) (p : Nat) (b n c : Nat) (l : List Sb) (r : List Nat) (w : World) (hc : w.cell? ⟨p, 0, none⟩ = some (.int .i64 (C : Nat))) (hW : Hid (HW w b l r)) (hn : n = 2 * l.length) (hF : Hid (FldAt w)) :
    Calls Tryd.prog 95 #[.slice (some ⟨b, 0, none⟩) n c, .func (.func 96) #[] #[.pointer (some ⟨p, 0, none⟩)]] w fun e w' => e = .returned (.int .u64 (thoseTo (isOf C) l l.length : Nat)) ∧ Below w.heap.size w w' :=
  those_any 96 eg96 #[.pointer (some ⟨p, 0, none⟩)] (isOf C) b n c l r w hW hn hF fun s w' _ hb => by
    rw [← isOf_eq]
    exact isOf_any (supF s) (supC s) (supR s) (supM s : Nat) (C : Nat) p w' ((hb.cell (World.block_lt_of_cell? _ _ hc)).trans hc)
end Go.Proofs.YtkogeeaoppkhkaaDoor
