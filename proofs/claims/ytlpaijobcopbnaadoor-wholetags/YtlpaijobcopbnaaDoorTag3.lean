/-
  Contract of tag.Least over a list of numbers; of the statements' own 'speaks' of layer 7.
-/
import Derived.Test.YtlpaijobcopbnaaDoorTag2
namespace Go.Proofs.YtlpaijobcopbnaaDoor
open Go.RowKit Go.Sort Go.Maps

/-- A row of numbers, by the function that gives them. -/
structure RowZ (w : World) (a : Option Addr) (len : Nat) (f : Nat → Int) : Prop where
  wf : ∀ j, j < len → (Lit.int .i64 (f j)).wf = true
  row : 0 < len → ∃ b off, a = some ⟨b, off, none⟩ ∧ b < w.heap.size ∧ ∀ j, j < len → w.cell? ⟨b, off + j, none⟩ = some (.int .i64 (f j))
theorem RowZ.next {w w' : World} {a : Option Addr} {len : Nat} {f : Nat → Int} (h : RowZ w a len f) (hb : Below w.heap.size w w') : RowZ w' a len f :=
  ⟨h.wf, fun h0 => by
    obtain ⟨b, off, e, hl, hc⟩ := h.row h0
    exact ⟨b, off, e, Nat.lt_of_lt_of_le hl hb.size, fun j hj => (hb.cell (p := ⟨b, off + j, none⟩) hl).trans (hc j hj)⟩⟩
theorem RowZ.at {w : World} {a : Option Addr} {len j : Nat} {f : Nat → Int} (h : RowZ w a len f) (hj : j < len) : ∃ b off, a = some ⟨b, off, none⟩ ∧ w.cell? ⟨b, off + j, none⟩ = some (.int .i64 (f j)) := by
  obtain ⟨b, off, e, _, hc⟩ := h.row (by omega)
  exact ⟨b, off, e, hc j hj⟩
/-- The first i numbers, the last one first. -/
def pre (f : Nat → Int) : Nat → List Int
  | 0 => []
  | i + 1 => f i :: pre f i
theorem pre_len (f : Nat → Int) : ∀ i, (pre f i).length = i
  | 0 => rfl
  | i + 1 => by simp [pre, pre_len f i]
theorem pre_mem (f : Nat → Int) (x : Int) : ∀ i, x ∈ pre f i ↔ ∃ j, j < i ∧ f j = x
  | 0 => by simp [pre]
  | i + 1 => by
    simp only [pre, List.mem_cons, pre_mem f x i]
    constructor
    · rintro (h | ⟨j, h1, h2⟩)
      · exact ⟨i, by omega, h.symm⟩
      · exact ⟨j, by omega, h2⟩
    · rintro ⟨j, h1, h2⟩
      by_cases e : j = i
      · subst e; exact .inl h2.symm
      · exact .inr ⟨j, by omega, h2⟩

set_option maxHeartbeats 1000000 in
theorem leastl_any (ad : Option Addr) (n cap : Nat) (f : Nat → Int) (w : World) (hr : Hid (RowZ w ad n f)) (hn : n ≤ 1000) :
    Calls Tryd.prog 10 #[.slice ad n cap] w fun e w' => e = .returned (.int .i64 (mex (pre f n) : Nat)) ∧ Below w.heap.size w w' := by
  have hmm := @run_makeMap Tryd.prog
  have S0 := Lib.hid (SetAt.made w)
  have B0 := Lib.hid (box1 w (.map #[] 0))
  go_enter Tryd.func10, Tryd.ntmps10
  go_wp2_with fail
  generalize w.alloc (.map #[] 0) = w0 at *
  generalize hmb : w.heap.size = mb at *
  have HMB : Hid (w.heap.size ≤ mb) := by show _ ≤ _; omega
  go_loopw [9] (fun u wr => ∃ i : Nat, i ≤ n ∧ u = .int .i64 i ∧ SetAt wr mb i (pre f i) ∧ Below w.heap.size w wr) (fun u _ => n - (intOf u).toNat)
  case atStart => exact ⟨0, Nat.zero_le _, rfl, S0.out, by rw [hmb]; exact B0.out⟩
  case round =>
    obtain ⟨i, hi, rfl, hs, hb⟩ := hrel
    have SR := Lib.hid hs
    have BR := Lib.hid hb
    clear hs hb
    by_cases hl : i < n
    · obtain ⟨b, off, rfl, hcell⟩ := (hr.out.next BR.out).at hl
      have l2 : (i : Int) < (n : Int) := by omega
      obtain ⟨w2, hrun, hs2, hg2⟩ := SR.out.put (f i) (hr.out.wf i hl) (by omega)
      have S2 : Hid (SetAt w2 mb (i + 1) (pre f (i + 1))) := hs2
      have B2 := Lib.hid (BR.out.grown hg2 BR.out.size (fun k hk => by cases hk; exact HMB.out))
      clear hs2 hg2
      generalize f i = x at *
      go_wp2_with fail
      go_roundw
      case rel => exact ⟨i + 1, by omega, by go_num, S2.out, B2.out⟩
      case measure => simp [intOf]; omega
    · obtain rfl : i = n := by omega
      go_wp2_with fail
      refine (least_any mb i _ _ SR (by rw [pre_len]; omega)).mono ?_
      rintro e w3 ⟨rfl, rfl⟩
      go_wp2_with fail
      go_ret
      exact ⟨rfl, BR.out⟩

end Go.Proofs.YtlpaijobcopbnaaDoor
