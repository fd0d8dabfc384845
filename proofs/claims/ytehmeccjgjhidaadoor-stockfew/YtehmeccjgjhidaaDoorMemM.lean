/-
  A memory of words as it lies in the heap; contracts of Len, Ops, Faults, has, begin.
-/
import Derived.Test.YtehmeccjgjhidaaDoorProg
import Derived.WalkKit
import Derived.WalkSpells
import Derived.Lib.Hide
import Derived.OwnWalk
import Derived.Laws.CopyOwn
import Derived.OpenShut
import Derived.BigQuiet
import Derived.Lib.QuietBelow
import Derived.Maps.AppendAt
namespace Go.Proofs.YtehmeccjgjhidaaDoor
open Go.RowKit

/-- What a memory is: its words, how many accesses and faults there were, and the last access. -/
structure MSt where
  ws : List Nat
  ops : Nat
  faults : Nat
  kind : Int
  at_ : Int

def wordsOf (ws : List Nat) : Array Value := (ws.map fun x : Nat => Value.int .u64 (x : Int)).toArray

/-- Nothing but blocks g and h has turned, of what was there. -/
structure Else (g h : Nat) (w w' : World) : Prop where
  os : w'.os = w.os
  tape : w'.tape = w.tape
  output : w'.output = w.output
  size : w.heap.size ≤ w'.heap.size
  block : ∀ k, k < w.heap.size → k ≠ g → k ≠ h → w'.heap[k]? = w.heap[k]?

theorem Else.refl (g h : Nat) (w : World) : Else g h w w := ⟨rfl, rfl, rfl, Nat.le_refl _, fun _ _ _ _ => rfl⟩
theorem Else.trans {g h : Nat} {a b c : World} (x : Else g h a b) (y : Else g h b c) : Else g h a c :=
  ⟨y.os.trans x.os, y.tape.trans x.tape, y.output.trans x.output, Nat.le_trans x.size y.size, fun k h1 h2 h3 => (y.block k (Nat.lt_of_lt_of_le h1 x.size) h2 h3).trans (x.block k h1 h2 h3)⟩
theorem Else.below {g h B : Nat} {w w' : World} (x : Else g h w w') (hg : B ≤ g) (hh : B ≤ h) (hB : B ≤ w.heap.size) : Below B w w' :=
  ⟨x.os, x.tape, x.output, x.size, fun k hk => x.block k (by omega) (by omega) (by omega)⟩
theorem Else.of_below {g h : Nat} {w w' : World} (x : Below w.heap.size w w') : Else g h w w' := ⟨x.os, x.tape, x.output, x.size, fun k hk _ _ => x.block k hk⟩

theorem heap_lt {w : World} {g : Nat} {o : Obj} (h : w.heap[g]? = some o) : g < w.heap.size := (Array.getElem?_eq_some_iff.1 h).1
theorem cell_of {w : World} {g j : Nat} {a : Array Value} {t : TypeId} {r : Nat × Nat} (h : w.heap[g]? = some (.cells a t r)) : w.cell? ⟨g, j, none⟩ = a[j]? := by
  simp [World.cell?, h]
theorem frozen_of {w : World} {g j : Nat} {a : Array Value} {t : TypeId} (h : w.heap[g]? = some (.cells a t (0, 0))) : w.frozen? ⟨g, j, none⟩ = false := by
  simp [World.frozen?, h]
theorem set_of {w : World} {g j : Nat} {a : Array Value} {t : TypeId} (h : w.heap[g]? = some (.cells a t (0, 0))) (v : Value) : (w.setCell ⟨g, j, none⟩ v).heap[g]? = some (.cells (a.setIfInBounds j v) t (0, 0)) := by
  have := heap_lt h
  simp [World.setCell, Array.getElem?_modify, h]
theorem set_other {w : World} {g j k : Nat} (hk : k ≠ g) (v : Value) : (w.setCell ⟨g, j, none⟩ v).heap[k]? = w.heap[k]? := Below.heap_setCell _ _ _ _ hk
theorem Else.set {g h b j : Nat} {a w : World} (x : Else g h a w) (hb : b = g ∨ b = h) (v : Value) : Else g h a (w.setCell ⟨b, j, none⟩ v) :=
  x.trans ⟨rfl, rfl, rfl, by simp [World.setCell], fun k _ h2 h3 => set_other (by rcases hb with rfl | rfl <;> assumption) v⟩

def inM (s : MSt) (a : Int) : Bool := decide (0 ≤ a) && decide (a < s.ws.length)
/-- The memory behind the beginning of an access. -/
def MSt.begun (s : MSt) (k a : Int) : MSt := { s with ops := s.ops + 1, faults := if inM s a then s.faults else s.faults + 1, kind := k, at_ := a }

/-- ... and ahead of its look whether there is such a word. -/
def MSt.told (s : MSt) (k a : Int) : MSt := { s with ops := s.ops + 1, kind := k, at_ := a }
theorem Else.told {w : World} {g h : Nat} (x y z : Value) : Else g h w (((w.setCell ⟨g, 1, none⟩ x).setCell ⟨g, 3, none⟩ y).setCell ⟨g, 4, none⟩ z) :=
  (((Else.refl g h w).set (.inl rfl) _).set (.inl rfl) _).set (.inl rfl) _
theorem begun_yes {s : MSt} {k a : Int} (h : inM s a = true) : s.begun k a = s.told k a := by simp [MSt.begun, MSt.told, h]
theorem begun_no {s : MSt} {k a : Int} (h : inM s a = false) : s.begun k a = { s.told k a with faults := s.faults + 1 } := by simp [MSt.begun, MSt.told, h]

end Go.Proofs.YtehmeccjgjhidaaDoor

/-
  Contracts of a memory's accesses: Load, Store, Swap, Swing, Add; and of Peek, Last.
-/
namespace Go.Proofs.YtehmeccjgjhidaaDoor
open Go.RowKit

theorem ret_val {a b : Value} (h : a = b) : Ending.returned a = .returned b := by rw [h]
/-- The word at a place; 0, where there is none. -/
def MSt.rd (s : MSt) (a : Int) : Nat := if inM s a then s.ws.getD a.toNat 0 else 0
/-- The memory with another word at a place, where there is one. -/
def MSt.put (s : MSt) (a : Int) (x : Nat) : MSt := { s with ws := if inM s a then s.ws.set a.toNat x else s.ws }
theorem inM_cases {s : MSt} {a : Int} (h : inM s a = true) : ∃ j : Nat, a = (j : Int) ∧ j < s.ws.length := by
  simp [inM] at h; exact ⟨a.toNat, by omega, by omega⟩
theorem rd_yes {s : MSt} {j : Nat} (h : inM s (j : Int) = true) : s.rd (j : Int) = s.ws.getD j 0 := by simp [MSt.rd, h]
theorem rd_no {s : MSt} {a : Int} (h : inM s a = false) : s.rd a = 0 := by simp [MSt.rd, h]
theorem mput_no {s : MSt} {a : Int} {x : Nat} (h : inM s a = false) : s.put a x = s := by simp [MSt.put, h]
/-- The memory behind a swing. -/
def MSt.swings (s : MSt) (a : Int) (old : Nat) : Bool := inM s a && s.rd a == old
def MSt.swung (s : MSt) (a : Int) (old x : Nat) : MSt := if s.swings a old then (s.begun 4 a).put a x else s.begun 4 a
end Go.Proofs.YtehmeccjgjhidaaDoor

/-
  Contracts of a memory's New and Words.
-/
namespace Go.Proofs.YtehmeccjgjhidaaDoor
open Go.RowKit

theorem info64 : (Tryd.prog.info? 34).map (fun i => (i.zero, i.size, i.bytes)) = some (some (.int .u64 0), 1, 8) := by kernel_rfl
theorem infoInt : (Tryd.prog.info? 3).map (fun i => (i.zero, i.size, i.bytes)) = some (some (.int .i64 0), 1, 8) := by kernel_rfl

theorem made_words (n : Nat) : (madeCells (Value.int .u64 0).cells (n * 1)) = wordsOf (List.replicate n 0) := by
  apply Array.ext
  · simp [madeCells, wordsOf]
  · intro i h1 h2
    simp [madeCells, wordsOf, Value.cells, Nat.mod_one]
theorem made_words' (n : Nat) : (madeCells #[Value.int .u64 0] n) = wordsOf (List.replicate n 0) := by
  have := made_words n; rwa [Nat.mul_one] at this
theorem owned_all {w : World} {B g n : Nat} {e : TypeId} {a : Array Value} (h : w.ownsRow B e 1 (.slice (some ⟨g, 0, none⟩) n n) n a.toList) : w.heap[g]? = some (.cells a e (0, 0)) := by
  rcases h.2 with ⟨h', _⟩ | ⟨g', cap', cur, h', hb, hg, hnc, hcm, hcs, htake⟩
  · simp at h'
  · simp only [Value.slice.injEq, Option.some.injEq, Addr.mk.injEq, and_true, true_and] at h'
    obtain ⟨rfl, rfl⟩ := h'
    rw [List.take_of_length_le (by simp; omega)] at htake
    rw [hg]
    have : cur = a := by rw [← Array.toArray_toList (xs := cur), htake]
    rw [this]
theorem grown_below {w w' : World} {row : Option Nat} (h : w.grownBy w' row) (hr : row = none) : Below w.heap.size w w' :=
  (Below.refl _ w).grown h (Nat.le_refl _) (fun k e => by rw [hr] at e; cases e)

theorem heap_new (w : World) (o : Obj) : (w.alloc o).heap[w.heap.size]? = some o := by
  show (w.heap.push o)[w.heap.size]? = _
  rw [Array.getElem?_push, if_pos rfl]

/-- A new memory of so many words. -/
def MSt.fresh (n : Nat) : MSt := ⟨List.replicate n 0, 0, 0, 0, 0⟩
theorem size64 : (Tryd.prog.info? 34).map (·.size) = some 1 := by kernel_rfl
theorem splice_all {α : Type} {L cs : List α} (h : cs.length = L.length) : splice L 0 cs = cs := by
  simp [splice, h]
theorem words_src {w : World} {h : Nat} {ws : List Nat} (hb : w.heap[h]? = some (.cells (wordsOf ws) 34 (0, 0))) (j : Nat) (v : Value) (hv : (wordsOf ws).toList[j]? = some v) : w.cell? ((⟨h, 0, none⟩ : Addr).add j) = some v := by
  rw [Addr.add_lit, Nat.zero_add, cell_of hb]
  simpa using hv
theorem words_one (ws : List Nat) : ∀ v ∈ (wordsOf ws).toList, v.oneCell' = true := by
  intro v hv
  simp [wordsOf] at hv
  obtain ⟨x, _, rfl⟩ := hv
  rfl
theorem words_len (ws : List Nat) : (wordsOf ws).toList.length = ws.length := by simp [wordsOf]

end Go.Proofs.YtehmeccjgjhidaaDoor

/-
  Contract of the statements' own 'speaks' of layer 3: a word that is swung.
-/
namespace Go.Proofs.YtehmeccjgjhidaaDoor
open Go.RowKit

theorem below_then {w w1 w2 : World} (h : Below w.heap.size w w1) (h2 : Below w1.heap.size w1 w2) : Below w.heap.size w w2 := h.trans (h2.mono h.size)
theorem below_else {w w1 w2 : World} {g h : Nat} (b : Below w.heap.size w w1) (hg : w.heap.size ≤ g) (hh : w.heap.size ≤ h) (x : Else g h w1 w2) : Below w.heap.size w w2 := b.trans (x.below hg hh b.size)
end Go.Proofs.YtehmeccjgjhidaaDoor

/-
  Lists of words that came in, as the walks take them.
-/
namespace Go.Proofs.YtehmeccjgjhidaaDoor
open Go.RowKit

/-- What a walk is told of a slice of integers that came in: it is nil, or it leads to a row of 'cap' numbers. -/
def IsRow (k : IntKind) (w : World) (a : Option Addr) (len cap : Nat) (zs : List Int) : Prop :=
  (a = none ∧ len = 0 ∧ cap = 0 ∧ zs = []) ∨
  ∃ x, a = some x ∧ len ≤ cap ∧ cap ≤ maxLen ∧ zs.length = cap ∧ (∀ i, i < zs.length → w.cell? (x.add i) = some (.int k (zs.getD i 0))) ∧ ∀ n ∈ zs, (Lit.int k n).wf = true

/-- A row of words, by the function that gives them. -/
def Row64 (w : World) (a : Option Addr) (len : Nat) (f : Nat → Nat) : Prop :=
  (∀ j, f j < 18446744073709551616) ∧ (0 < len → ∃ b off, a = some ⟨b, off, none⟩ ∧ b < w.heap.size ∧ ∀ j, j < len → w.cell? ⟨b, off + j, none⟩ = some (.int .u64 ((f j : Nat) : Int)))
theorem Row64.next {w w' : World} {a : Option Addr} {len : Nat} {f : Nat → Nat} (h : Row64 w a len f) (hb : Below w.heap.size w w') : Row64 w' a len f :=
  ⟨h.1, fun h0 => by
    obtain ⟨b, off, e, hl, hc⟩ := h.2 h0
    exact ⟨b, off, e, Nat.lt_of_lt_of_le hl hb.size, fun j hj => (hb.cell (p := ⟨b, off + j, none⟩) hl).trans (hc j hj)⟩⟩
theorem Row64.at {w : World} {a : Option Addr} {len j : Nat} {f : Nat → Nat} (h : Row64 w a len f) (hj : j < len) : ∃ b off, a = some ⟨b, off, none⟩ ∧ w.cell? ⟨b, off + j, none⟩ = some (.int .u64 ((f j : Nat) : Int)) := by
  obtain ⟨b, off, e, _, hc⟩ := h.2 (by omega)
  exact ⟨b, off, e, hc j hj⟩
theorem IsRow.len {k : IntKind} {w : World} {a : Option Addr} {len cap : Nat} {zs : List Int} (h : IsRow k w a len cap zs) : len ≤ maxLen := by
  rcases h with ⟨_, rfl, _⟩ | ⟨x, _, h1, h2, _⟩
  · exact Nat.zero_le _
  · omega
theorem IsRow.row {w : World} {a : Option Addr} {len cap : Nat} {zs : List Int} (h : IsRow .u64 w a len cap zs) : ∃ f, Row64 w a len f := by
  rcases h with ⟨rfl, rfl, rfl, _⟩ | ⟨x, rfl, hlc, hcm, hzl, hcell, hwf⟩
  · exact ⟨fun _ => 0, fun _ => Nat.zero_lt_succ _, fun h => absurd h (by omega)⟩
  · have hB : ∀ j, j < zs.length → 0 ≤ zs.getD j 0 ∧ zs.getD j 0 ≤ 18446744073709551615 := fun j hj => by
      have hm2 : zs.getD j 0 ∈ zs := by
        rw [List.getD_eq_getElem?_getD, List.getElem?_eq_getElem hj, Option.getD_some]
        exact List.getElem_mem _
      have := bounds_u64 (hwf _ hm2)
      omega
    refine ⟨fun j => (zs.getD j 0).toNat, fun j => ?_, fun h0 => ?_⟩
    · show (zs.getD j 0).toNat < 18446744073709551616
      by_cases hj : j < zs.length
      · have := hB j hj; omega
      · have : zs.getD j 0 = 0 := by rw [List.getD_eq_getElem?_getD, List.getElem?_eq_none (by omega)]; rfl
        rw [this]; decide
    · obtain ⟨b, off, rfl, hc⟩ := ints_at hcell (by omega)
      refine ⟨b, off, rfl, World.block_lt_of_cell? w ⟨b, off + 0, none⟩ (hc 0 (by omega)), fun j hj => ?_⟩
      rw [hc j (by omega)]
      have := hB j (by omega)
      show _ = some (Value.int .u64 (((zs.getD j 0).toNat : Nat) : Int))
      rw [Int.toNat_of_nonneg this.1]

end Go.Proofs.YtehmeccjgjhidaaDoor

/-
  Facts on what a memory is behind an access.
-/
namespace Go.Proofs.YtehmeccjgjhidaaDoor
open Go.RowKit

theorem inM_nat (s : MSt) (j : Nat) : inM s (j : Int) = decide (j < s.ws.length) := by
  unfold inM; rw [Bool.eq_iff_iff]; simp
theorem inM_out {s : MSt} {a : Int} (h : ¬ (0 ≤ a ∧ a < s.ws.length)) : inM s a = false := by
  unfold inM; rw [Bool.and_eq_false_iff]; simp; omega
theorem put_ws {s : MSt} {j : Nat} {x : Nat} (h : j < s.ws.length) : (s.put (j : Int) x).ws = s.ws.set j x := by simp [MSt.put, inM_nat, h]
theorem rd_nat {s : MSt} {j : Nat} (h : j < s.ws.length) : s.rd (j : Int) = s.ws.getD j 0 := by simp [MSt.rd, inM_nat, h]
theorem begun_in {s : MSt} {k a : Int} (h : inM s a = true) : (s.begun k a).faults = s.faults := by simp [MSt.begun, h]
theorem begun_out {s : MSt} {k a : Int} (h : inM s a = false) : (s.begun k a).faults = s.faults + 1 := by simp [MSt.begun, h]
theorem inM_begun (s : MSt) (k a b : Int) : inM (s.begun k a) b = inM s b := rfl
theorem swung_out {s : MSt} {a : Int} {old x : Nat} (h : inM s a = false) : s.swings a old = false ∧ s.swung a old x = s.begun 4 a := by
  have h1 : s.swings a old = false := by unfold MSt.swings; rw [h]; rfl
  exact ⟨h1, by unfold MSt.swung; rw [h1]; rfl⟩

end Go.Proofs.YtehmeccjgjhidaaDoor

/-
  Contracts of a Frame's methods: where a hall's words lie.
-/
namespace Go.Proofs.YtehmeccjgjhidaaDoor
open Go.RowKit Go.Sort

theorem box1 (w : World) (o : Obj) : Below w.heap.size w (w.alloc o) := (Below.refl _ _).alloc (Nat.le_refl _) o
theorem box_then {w w' : World} {o : Obj} (h : Below (w.alloc o).heap.size (w.alloc o) w') : Below w.heap.size w w' := (box1 w o).trans (h.mono (box1 w o).size)
/-- A frame in its block. -/
structure Fr (w : World) (g : Nat) (B W K : Nat) : Prop where
  c0 : w.cell? ⟨g, 0, none⟩ = some (.int .i64 B)
  c1 : w.cell? ⟨g, 1, none⟩ = some (.int .i64 W)
  c2 : w.cell? ⟨g, 2, none⟩ = some (.int .i64 K)
theorem Fr.lt {w : World} {g B W K : Nat} (h : Fr w g B W K) : g < w.heap.size := World.block_lt_of_cell? w ⟨g, 0, none⟩ h.c0
theorem Fr.next {w w' : World} {g B W K : Nat} (h : Fr w g B W K) (hb : Below w.heap.size w w') : Fr w' g B W K :=
  ⟨(hb.cell (p := ⟨g, 0, none⟩) h.lt).trans h.c0, (hb.cell (p := ⟨g, 1, none⟩) h.lt).trans h.c1, (hb.cell (p := ⟨g, 2, none⟩) h.lt).trans h.c2⟩
theorem Fr.box (w : World) (B W K : Nat) (T : TypeId) : Fr (w.alloc (.cells #[.int .i64 B, .int .i64 W, .int .i64 K] T)) w.heap.size B W K := ⟨by simp, by simp, by simp⟩

/-- Where a record begins. -/
def atN (B W K v s : Nat) : Nat := B + 1 + 4 * K + (2 * v + s) * (W + 3 * K)
theorem at_lt {W K v s : Nat} (hW : W ≤ 1048576) (hK : K ≤ 1048576) (hv : v ≤ 1048576) (hs : s ≤ 1) : (2 * v + s) * (W + 3 * K) ≤ 8796101410816 := by
  have h : (2 * v + s) * (W + 3 * K) ≤ 2097153 * 4194304 := Nat.mul_le_mul (by omega) (by omega)
  omega
end Go.Proofs.YtehmeccjgjhidaaDoor

/-
  Contract of the statements' own 'speaks' of layer 8.
-/
namespace Go.Proofs.YtehmeccjgjhidaaDoor
open Go.RowKit Go.Sort

theorem below_two {w w1 w2 : World} (h : Below w.heap.size w w1) (h2 : Below w1.heap.size w1 w2) : Below w.heap.size w w2 := h.trans (h2.mono h.size)
end Go.Proofs.YtehmeccjgjhidaaDoor

/-
  What turns and what stands; a row of words that grows; a copy of words (slot's fresh).
-/
namespace Go.Proofs.YtehmeccjgjhidaaDoor
open Go.RowKit Go.Sort

/-- Nothing but the blocks of l has turned, of what was there. -/
structure Only (l : List Nat) (w w' : World) : Prop where
  os : w'.os = w.os
  tape : w'.tape = w.tape
  output : w'.output = w.output
  size : w.heap.size ≤ w'.heap.size
  block : ∀ k, k < w.heap.size → k ∉ l → w'.heap[k]? = w.heap[k]?
theorem Only.refl (l : List Nat) (w : World) : Only l w w := ⟨rfl, rfl, rfl, Nat.le_refl _, fun _ _ _ => rfl⟩
theorem Only.trans' {l l' : List Nat} {a b c : World} (x : Only l a b) (y : Only l' b c) (h : ∀ k ∈ l', k ∈ l ∨ a.heap.size ≤ k) : Only l a c :=
  ⟨y.os.trans x.os, y.tape.trans x.tape, y.output.trans x.output, Nat.le_trans x.size y.size, fun k h1 h2 => (y.block k (Nat.lt_of_lt_of_le h1 x.size) (fun hm => by
    rcases h k hm with h3 | h3
    · exact h2 h3
    · omega)).trans (x.block k h1 h2)⟩
theorem Only.trans {l : List Nat} {a b c : World} (x : Only l a b) (y : Only l b c) : Only l a c := x.trans' y fun _ h => .inl h
theorem Only.of_below {l : List Nat} {w w' : World} (x : Below w.heap.size w w') : Only l w w' := ⟨x.os, x.tape, x.output, x.size, fun k hk _ => x.block k hk⟩
theorem Only.of_else {l : List Nat} {g h : Nat} {w w' : World} (x : Else g h w w') (hg : g ∈ l) (hh : h ∈ l) : Only l w w' :=
  ⟨x.os, x.tape, x.output, x.size, fun k hk hn => x.block k hk (fun e => hn (e ▸ hg)) (fun e => hn (e ▸ hh))⟩
theorem Only.of_grown {l : List Nat} {r : Option Nat} {w w' : World} (x : w.grownBy w' r) (hr : ∀ k, r = some k → k ∈ l) : Only l w w' :=
  ⟨x.os, x.tape, x.output, x.size, fun k hk hn => x.block k hk (fun e => hn (hr k e.symm))⟩
theorem Only.of_set {l : List Nat} {g j : Nat} {w : World} (hg : g ∈ l) (v : Value) : Only l w (w.setCell ⟨g, j, none⟩ v) :=
  ⟨rfl, rfl, rfl, by simp [World.setCell], fun k _ hn => set_other (fun (e : k = g) => hn (by rw [e]; exact hg)) v⟩
theorem Only.mono {l l' : List Nat} {w w' : World} (x : Only l w w') (h : ∀ k ∈ l, k ∈ l' ∨ w.heap.size ≤ k) : Only l' w w' := ((Only.refl l' w).trans' x h)
theorem Only.below {l : List Nat} {B : Nat} {w w' : World} (x : Only l w w') (h : ∀ k ∈ l, B ≤ k) (hB : B ≤ w.heap.size) : Below B w w' :=
  ⟨x.os, x.tape, x.output, x.size, fun k hk => x.block k (by omega) (fun hm => by have := h k hm; omega)⟩
theorem Only.at {l : List Nat} {w w' : World} (x : Only l w w') {k : Nat} {o : Obj} (h : w.heap[k]? = some o) (hn : k ∉ l) : w'.heap[k]? = some o := (x.block k (heap_lt h) hn).trans h
/-- A row of words of the program's own. -/
def vals (ws : List Nat) : List Value := ws.map fun x : Nat => Value.int .u64 (x : Int)
theorem vals_len (ws : List Nat) : (vals ws).length = ws.length := by simp [vals]
theorem vals_app (a b : List Nat) : vals (a ++ b) = vals a ++ vals b := by simp [vals]
theorem vals_one (ws : List Nat) : ∀ v ∈ vals ws, v.oneCell' = true := by
  intro v hv
  simp [vals] at hv
  obtain ⟨x, _, rfl⟩ := hv
  rfl
def WRw (w : World) (v : Value) (ws : List Nat) : Prop := w.ownsRow 0 34 1 v ws.length (vals ws)
theorem WRw.nil (w : World) : WRw w (.slice none 0 0) [] := ⟨rfl, .inl ⟨rfl, rfl⟩⟩
theorem WRw.cases {w : World} {v : Value} {ws : List Nat} (h : WRw w v ws) : (v = .slice none 0 0 ∧ ws = []) ∨ ∃ b cap cur, v = .slice (some ⟨b, 0, none⟩) ws.length cap ∧ w.heap[b]? = some (.cells cur 34 (0, 0)) ∧ ws.length ≤ cap ∧ cap ≤ maxLen ∧ cur.toList.take ws.length = vals ws := by
  rcases h.2 with ⟨h1, h2⟩ | ⟨b, cap, cur, h1, _, h3, h4, h5, h6, h7⟩
  · have : ws = [] := by simpa [vals] using h2
    exact .inl ⟨h1, this⟩
  · exact .inr ⟨b, cap, cur, h1, h3, h4, h5, by simpa using h7⟩
theorem WRw.lt {w : World} {v : Value} {ws : List Nat} (h : WRw w v ws) {k : Nat} (hk : v.ownBlock = some k) : k < w.heap.size := by
  rcases h.cases with ⟨rfl, _⟩ | ⟨b, cap, cur, rfl, hb, _⟩
  · cases hk
  · cases hk; exact heap_lt hb
theorem WRw.form {w : World} {v : Value} {ws : List Nat} (h : WRw w v ws) : ∃ a c, v = .slice a ws.length c := by
  rcases h.cases with ⟨rfl, rfl⟩ | ⟨b, cap, cur, rfl, _⟩
  · exact ⟨_, _, rfl⟩
  · exact ⟨_, _, rfl⟩
theorem WRw.stay {l : List Nat} {w w' : World} {v : Value} {ws : List Nat} (h : WRw w v ws) (x : Only l w w') (hn : ∀ k, v.ownBlock = some k → k ∉ l) : WRw w' v ws := by
  refine ⟨h.1, ?_⟩
  rcases h.2 with h1 | ⟨b, cap, cur, h1, h2, h3, h4⟩
  · exact .inl h1
  · exact .inr ⟨b, cap, cur, h1, h2, x.at h3 (hn b (by rw [h1]; rfl)), h4⟩
theorem WRw.row {w : World} {v : Value} {ws : List Nat} (h : WRw w v ws) (hw : ∀ x ∈ ws, x < 18446744073709551616) : ∃ a c, v = .slice a ws.length c ∧ Row64 w a ws.length (fun j => ws.getD j 0) := by
  have hB : ∀ j, ws.getD j 0 < 18446744073709551616 := fun j => by
    by_cases hj : j < ws.length
    · rw [List.getD_eq_getElem?_getD, List.getElem?_eq_getElem hj]; exact hw _ (List.getElem_mem _)
    · rw [List.getD_eq_getElem?_getD, List.getElem?_eq_none (by omega)]; decide
  rcases h.cases with ⟨rfl, rfl⟩ | ⟨b, cap, cur, rfl, hb, h1, h2, h3⟩
  · exact ⟨_, _, rfl, hB, fun h => absurd h (by simp)⟩
  · refine ⟨_, _, rfl, hB, fun _ => ⟨b, 0, rfl, heap_lt hb, fun j hj => ?_⟩⟩
    rw [cell_of hb, Nat.zero_add]
    have e : cur.toList[j]? = (vals ws)[j]? := by rw [← h3, List.getElem?_take, if_pos hj]
    rw [← Array.getElem?_toList, e]
    simp [vals, hj]

theorem info64' : ∃ i, Tryd.prog.info? 34 = some i ∧ i.size = 1 ∧ i.zero = some (.int .u64 0) ∧ i.bytes = 8 := by
  obtain ⟨i0, hi, hz0, hz1, hz2⟩ := info_parts info64
  exact ⟨i0, hi, hz1, hz0, hz2⟩
theorem one_news {w : World} {vb x : Nat} (hv : w.heap[vb]? = some (.cells #[.int .u64 (x : Int)] 34 (0, 0))) (j : Nat) (u : Value) (hu : (vals [x])[j]? = some u) : w.cell? ((⟨vb, 0, none⟩ : Addr).add j) = some u := by
  rw [Addr.add_lit, Nat.zero_add, cell_of hv]
  simpa [vals] using hu
/-- The words of a row as a list. -/
def listOf (f : Nat → Nat) (n : Nat) : List Nat := (List.range n).map f
theorem listOf_len (f : Nat → Nat) (n : Nat) : (listOf f n).length = n := by simp [listOf]
theorem listOf_src {w : World} {ao : Option Addr} {n : Nat} {f : Nat → Nat} (h : Row64 w ao n f) (h0 : 0 < n) : ∃ ad, ao = some ad ∧ ∀ j v, (wordsOf (listOf f n)).toList[j]? = some v → w.cell? (ad.add j) = some v := by
  obtain ⟨b, off, e, _, hc⟩ := h.2 h0
  refine ⟨_, e, fun j v hv => ?_⟩
  have hj : j < n := by
    have := (List.getElem?_eq_some_iff.1 hv).1
    simpa [wordsOf, listOf] using this
  rw [Addr.add_lit, hc j hj, ← hv]
  simp [wordsOf, listOf, hj]
end Go.Proofs.YtehmeccjgjhidaaDoor
