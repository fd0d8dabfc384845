/-
  Contracts of a memory's accesses: Load, Store, Swap, Swing, Add; and of Peek, Last.
-/
import Derived.Test.YtchkgmknhndccaaDoorMem1
namespace Go.Proofs.YtchkgmknhndccaaDoor
open Go.RowKit

theorem ret_val {a b : Value} (h : a = b) : Ending.returned a = .returned b := by rw [h]
/-- The word at a place; 0, where there is none. -/
def MSt.rd (s : MSt) (a : Int) : Nat := if inM s a then s.ws.getD a.toNat 0 else 0
/-- The memory with another word at a place, where there is one. -/
def MSt.put (s : MSt) (a : Int) (x : Nat) : MSt := { s with ws := if inM s a then s.ws.set a.toNat x else s.ws }
theorem inM_cases {s : MSt} {a : Int} (h : inM s a = true) : ∃ j : Nat, a = (j : Int) ∧ j < s.ws.length := by
  simp [inM] at h; exact ⟨a.toNat, by omega, by omega⟩
theorem rd_yes {s : MSt} {j : Nat} (h : inM s (j : Int) = true) : s.rd (j : Int) = s.ws.getD j 0 := by simp [MSt.rd, h]
theorem rd_no {s : MSt} {a : Int} (h : inM s a = false) : s.rd a = 0 := by simp [MSt.rd, h]
theorem mput_no {s : MSt} {a : Int} {x : Nat} (h : inM s a = false) : s.put a x = s := by simp [MSt.put, h]
/-- The memory behind a swing. -/
def MSt.swings (s : MSt) (a : Int) (old : Nat) : Bool := inM s a && s.rd a == old
def MSt.swung (s : MSt) (a : Int) (old x : Nat) : MSt := if s.swings a old then (s.begun 4 a).put a x else s.begun 4 a
theorem MemAt.put {w : World} {g h : Nat} {s : MSt} {j : Nat} (m : MemAt w g h s) (hi : inM s (j : Int) = true) (x : Nat) : MemAt (w.setCell ⟨h, j, none⟩ (.int .u64 (x : Int))) g h (s.put (j : Int) x) := by
  obtain ⟨j', hj, hl⟩ := inM_cases hi
  obtain rfl : j = j' := by omega
  have e : (s.put (j : Int) x).ws = s.ws.set j x := by simp [MSt.put, hi]
  refine ⟨?_, ?_, m.ne, ?_⟩
  · rw [set_other m.ne, m.head, e, List.length_set]; rfl
  · rw [set_of m.body, e]; congr 1; simp [wordsOf]
  · rw [e, List.length_set]; exact m.len

theorem load_any (g h : Nat) (s : MSt) (a : Int) (w : World) (m : MemAt w g h s) (ho : s.ops < 4611686018427387904) (hf : s.faults < 4611686018427387904) :
    Calls Tryd.prog 39 #[.pointer (some ⟨g, 0, none⟩), .int .i64 a] w fun e w' => e = .returned (.int .u64 (s.rd a : Nat)) ∧ MemAt w' g h (s.begun 1 a) ∧ Else g h w w' := by
  go_enter Tryd.func39, Tryd.ntmps39
  go_wp2_with fail
  refine (begin_any g h s 1 a _ m ho hf).mono ?_
  rintro e w1 ⟨rfl, m1, e1⟩
  rcases hi : inM s a with _ | _
  · have HI := Lib.hid hi
    clear hi
    go_wp2
    go_ret
    exact ⟨by rw [rd_no HI.out]; rfl, m1, e1⟩
  · have HI := Lib.hid hi
    obtain ⟨j, rfl, hj⟩ := inM_cases hi
    have hi1 : Hid (inM (s.begun 1 (j : Int)) (j : Int) = true) := hi
    have c0 := m1.c0
    have cj : w1.cell? ⟨h, j, none⟩ = some (.int .u64 ((s.ws.getD j 0 : Nat) : Int)) := m1.word j hj
    have zj := m1.wz j
    have hl := m.len
    have hL : (s.begun 1 (j : Int)).ws.length = s.ws.length := rfl
    rw [hL] at c0
    clear hi hL
    have HR := Lib.hid (rd_yes HI.out)
    generalize s.ws.getD j 0 = v at *
    go_wp2
    go_ret
    exact ⟨by rw [HR.out]; rfl, m1, e1⟩
theorem store_any (g h : Nat) (s : MSt) (a : Int) (x : Nat) (w : World) (m : MemAt w g h s) (ho : s.ops < 4611686018427387904) (hf : s.faults < 4611686018427387904) :
    Calls Tryd.prog 35 #[.pointer (some ⟨g, 0, none⟩), .int .i64 a, .int .u64 (x : Int)] w fun e w' => e = .returned (.tuple #[]) ∧ MemAt w' g h ((s.begun 2 a).put a x) ∧ Else g h w w' := by
  go_enter Tryd.func35, Tryd.ntmps35
  go_wp2_with fail
  refine (begin_any g h s 2 a _ m ho hf).mono ?_
  rintro e w1 ⟨rfl, m1, e1⟩
  rcases hi : inM s a with _ | _
  · have HI := Lib.hid hi
    clear hi
    go_wp2
    go_end0
    exact ⟨rfl, by rw [mput_no (s := s.begun 2 a) HI.out]; exact m1, e1⟩
  · have HI := Lib.hid hi
    obtain ⟨j, rfl, hj⟩ := inM_cases hi
    have hi1 : Hid (inM (s.begun 2 (j : Int)) (j : Int) = true) := hi
    have c0 := m1.c0
    have cj : w1.cell? ⟨h, j, none⟩ = some (.int .u64 ((s.ws.getD j 0 : Nat) : Int)) := m1.word j hj
    have zj := m1.wz j
    have hl := m.len
    have hL : (s.begun 2 (j : Int)).ws.length = s.ws.length := rfl
    rw [hL] at c0
    clear hi hL
    generalize s.ws.getD j 0 = v at *
    go_wp2
    go_end0
    exact ⟨rfl, m1.put hi1.out x, e1.set (.inr rfl) _⟩
theorem swap_any (g h : Nat) (s : MSt) (a : Int) (x : Nat) (w : World) (m : MemAt w g h s) (ho : s.ops < 4611686018427387904) (hf : s.faults < 4611686018427387904) :
    Calls Tryd.prog 38 #[.pointer (some ⟨g, 0, none⟩), .int .i64 a, .int .u64 (x : Int)] w fun e w' => e = .returned (.int .u64 (s.rd a : Nat)) ∧ MemAt w' g h ((s.begun 3 a).put a x) ∧ Else g h w w' := by
  go_enter Tryd.func38, Tryd.ntmps38
  go_wp2_with fail
  refine (begin_any g h s 3 a _ m ho hf).mono ?_
  rintro e w1 ⟨rfl, m1, e1⟩
  rcases hi : inM s a with _ | _
  · have HI := Lib.hid hi
    clear hi
    go_wp2
    go_ret
    exact ⟨by rw [rd_no HI.out]; rfl, by rw [mput_no (s := s.begun 3 a) HI.out]; exact m1, e1⟩
  · have HI := Lib.hid hi
    obtain ⟨j, rfl, hj⟩ := inM_cases hi
    have hi1 : Hid (inM (s.begun 3 (j : Int)) (j : Int) = true) := hi
    have c0 := m1.c0
    have cj : w1.cell? ⟨h, j, none⟩ = some (.int .u64 ((s.ws.getD j 0 : Nat) : Int)) := m1.word j hj
    have zj := m1.wz j
    have hl := m.len
    have hL : (s.begun 3 (j : Int)).ws.length = s.ws.length := rfl
    rw [hL] at c0
    clear hi hL
    have HR := Lib.hid (rd_yes HI.out)
    generalize s.ws.getD j 0 = v at *
    go_wp2
    go_ret
    exact ⟨by rw [HR.out]; rfl, m1.put hi1.out x, e1.set (.inr rfl) _⟩
theorem peek_any (g h : Nat) (s : MSt) (a : Int) (w : World) (m : MemAt w g h s) :
    Calls Tryd.prog 25 #[.pointer (some ⟨g, 0, none⟩), .int .i64 a] w fun e w' => e = .returned (.int .u64 (s.rd a : Nat)) ∧ w = w' := by
  go_enter Tryd.func25, Tryd.ntmps25
  go_wp2_with fail
  refine (has_any' g h s a _ m).mono ?_
  rintro e w1 ⟨rfl, rfl⟩
  rcases hi : inM s a with _ | _
  · have HI := Lib.hid hi
    clear hi
    go_wp2
    go_ret
    exact ⟨by rw [rd_no HI.out]; rfl, rfl⟩
  · have HI := Lib.hid hi
    obtain ⟨j, rfl, hj⟩ := inM_cases hi
    have c0 := m.c0
    have cj := m.word j hj
    have hl := m.len
    have HR := Lib.hid (rd_yes HI.out)
    clear hi m
    generalize s.ws.getD j 0 = v at *
    go_wp2
    go_ret
    exact ⟨by rw [HR.out]; rfl, rfl⟩

end Go.Proofs.YtchkgmknhndccaaDoor
