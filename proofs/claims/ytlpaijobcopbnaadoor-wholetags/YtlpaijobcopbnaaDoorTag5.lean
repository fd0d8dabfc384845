/-
  Scans over one memory: what stands while one of them makes a step.
-/
import Derived.Test.YtlpaijobcopbnaaDoorTag4
namespace Go.Proofs.YtlpaijobcopbnaaDoor
open Go.RowKit Go.Sort Go.Maps

/-- A scan of the n words from A on, i of them seen. -/
def Sc (wr : World) (g mb mg mh A n i : Nat) (W K : Int) (ms : List Nat) (op : Nat) (kd a : Int) (f : Nat → Nat) : Prop :=
  ScV wr g mg mh mb ((A + i : Nat) : Int) ((n - i : Nat) : Int) W K ⟨ms, op, 0, kd, a⟩ i (seen W K f i)
theorem Sc.next {wr w' : World} {g mb mg mh A n i : Nat} {W K : Int} {ms : List Nat} {op : Nat} {kd a : Int} {f : Nat → Nat} (h : Sc wr g mb mg mh A n i W K ms op kd a f) (hb : Below wr.heap.size wr w') : Sc w' g mb mg mh A n i W K ms op kd a f := ScV.next h hb
theorem Sc.share {l : List Nat} {wr w' : World} {g mb mg mh A n i : Nat} {W K : Int} {ms ms' : List Nat} {op op' : Nat} {kd a kd' a' : Int} {f : Nat → Nat} (h : Sc wr g mb mg mh A n i W K ms op kd a f) (m : MemAt w' mg mh ⟨ms', op', 0, kd', a'⟩) (x : Only l wr w') (hg : g ∉ l) (hb : mb ∉ l) : Sc w' g mb mg mh A n i W K ms' op' kd' a' f := ScV.share h m x hg hb
theorem Sc.mem {wr : World} {g mb mg mh A n i : Nat} {W K : Int} {ms : List Nat} {op : Nat} {kd a : Int} {f : Nat → Nat} (h : Sc wr g mb mg mh A n i W K ms op kd a f) : MemAt wr mg mh ⟨ms, op, 0, kd, a⟩ := ScV.mem h
/-- A new scan. -/
theorem sc_new {mg mh A n : Nat} {W K : Int} {ms : List Nat} {op : Nat} {kd a : Int} (f : Nat → Nat) {w : World} (m : MemAt w mg mh ⟨ms, op, 0, kd, a⟩) (hn : n ≤ 100000) :
    Calls Tryd.prog 15 #[.pointer (some ⟨mg, 0, none⟩), .int .i64 A, .int .i64 n, .int .i64 W, .int .i64 K] w fun e w' => ∃ g mb, e = .returned (.pointer (some ⟨g, 0, none⟩)) ∧ Sc w' g mb mg mh A n 0 W K ms op kd a f ∧ w.heap.size ≤ g ∧ w.heap.size ≤ mb ∧ g < w'.heap.size ∧ mb < w'.heap.size ∧ g ≠ mb ∧ Below w.heap.size w w' := by
  refine (tnew_any mg mh _ A n W K w m (by omega)).mono ?_
  rintro e w' ⟨g, mb, rfl, h1, h2, h3, h4⟩
  exact ⟨g, mb, rfl, h1, h2, h3, h1.lt.1, h1.lt.2, h1.bg.symm, h4⟩
theorem sc_done {g mb mg mh A n i : Nat} {W K : Int} {ms : List Nat} {op : Nat} {kd a : Int} {f : Nat → Nat} {w : World} (h : Sc w g mb mg mh A n i W K ms op kd a f) (hi : i = n) :
    Calls Tryd.prog 16 #[.pointer (some ⟨g, 0, none⟩)] w fun e w' => e = .returned (.bool true) ∧ w = w' := by
  unfold Sc at h
  rw [show ((n - i : Nat) : Int) = 0 by omega] at h
  exact tstep_done g mg mh mb _ W K _ _ _ w h
theorem sc_ref {g mb mg mh A n i : Nat} {W K : Int} {ms : List Nat} {op : Nat} {kd a : Int} {f : Nat → Nat} {w : World} (h : Sc w g mb mg mh A n i W K ms op kd a f) (hi : i ≤ 100000) :
    Calls Tryd.prog 17 #[.pointer (some ⟨g, 0, none⟩)] w fun e w' => e = .returned (.agg #[.int .i64 W, .int .i64 K, .int .i64 (mex (seen W K f i) : Nat)]) ∧ Below w.heap.size w w' :=
  tref_any g mg mh mb _ _ W K _ i _ w h (by omega)
/-- What a step wants: the scan is within the memory; the table of the fields; the memory is the call's own. -/
structure Ok7 (w0 wr : World) (mg mh A n : Nat) (ms : List Nat) (f : Nat → Nat) : Prop where
  n1 : n ≤ 100000
  am : A + n ≤ ms.length
  m1 : ms.length ≤ 100000
  ff : ∀ j, j < n → f j = ms.getD (A + j) 0
  aw : AllW ms
  r0 : RefAt w0
  bl : Below w0.heap.size w0 wr
  g0 : w0.heap.size ≤ mg
  h0 : w0.heap.size ≤ mh
theorem sc_step {w0 w : World} {g mb mg mh A n i : Nat} {W K : Int} {ms : List Nat} {op : Nat} {kd a : Int} {f : Nat → Nat} (h : Hid (Sc w g mb mg mh A n i W K ms op kd a f)) (hi : i < n) (hop : op < 1000000) (ok : Ok7 w0 w mg mh A n ms f) :
    Calls Tryd.prog 16 #[.pointer (some ⟨g, 0, none⟩)] w fun e w' => e = .returned (.bool (decide (i + 1 = n))) ∧ Sc w' g mb mg mh A n (i + 1) W K ms (op + 1) 1 ((A + i : Nat) : Int) f ∧ Only [g, mg, mh, mb] w w' :=
  scan_step h hi ok.n1 ok.am ok.m1 hop ok.ff ok.aw ok.r0 ok.bl ok.g0 ok.h0
theorem Ok7.move {w0 wr w' : World} {mg mh A n : Nat} {ms : List Nat} {f : Nat → Nat} (h : Ok7 w0 wr mg mh A n ms f) (hb : Below w0.heap.size w0 w') : Ok7 w0 w' mg mh A n ms f := { h with bl := hb }

end Go.Proofs.YtlpaijobcopbnaaDoor
