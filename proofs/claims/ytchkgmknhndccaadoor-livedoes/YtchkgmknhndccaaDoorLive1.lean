/-
  Package live: a thing in a word; a table's box; what stands at a grain.
-/
import Derived.Test.YtchkgmknhndccaaDoorAsk1
import Derived.Test.YtchkgmknhndccaaDoorWord1
import Derived.Test.YtchkgmknhndccaaDoorConf6
import Derived.Test.YtchkgmknhndccaaDoorSlot3
import Derived.Test.YtchkgmknhndccaaDoorQuiet5
import Derived.Deep.RegionHeld3
import Derived.StillTailTactics
namespace Go.Proofs.YtchkgmknhndccaaDoor
open Go.RowKit Go.Sort

/-- Package live's two fields, as the program lays them. -/
structure FldL (w : World) : Prop where
  k0 : w.cell? ⟨1, 0, none⟩ = some (.int .i64 0)
  k1 : w.cell? ⟨1, 1, none⟩ = some (.int .i64 8)
  n0 : w.cell? ⟨0, 0, none⟩ = some (.int .i64 8)
  n1 : w.cell? ⟨0, 1, none⟩ = some (.int .i64 32)
theorem FldL.next {w w' : World} (h : FldL w) (hb : Below w.heap.size w w') : FldL w' :=
  ⟨(hb.cell (World.block_lt_of_cell? _ _ h.k0)).trans h.k0, (hb.cell (World.block_lt_of_cell? _ _ h.k1)).trans h.k1, (hb.cell (World.block_lt_of_cell? _ _ h.n0)).trans h.n0, (hb.cell (World.block_lt_of_cell? _ _ h.n1)).trans h.n1⟩
theorem FldL.lt {w : World} (h : FldL w) : 1 < w.heap.size ∧ 0 < w.heap.size := ⟨World.block_lt_of_cell? w ⟨1, 0, none⟩ h.k0, World.block_lt_of_cell? w ⟨0, 0, none⟩ h.n0⟩
theorem lcell_stay {q : List Nat} {w w' : World} {b j : Nat} {v : Value} (h : w.cell? ⟨b, j, none⟩ = some v) (x : Only q w w') (hn : b ∉ q) : w'.cell? ⟨b, j, none⟩ = some v := by
  have hb := x.block b (World.block_lt_of_cell? w ⟨b, j, none⟩ h) hn
  rw [← h]
  unfold World.cell?
  rw [hb]
theorem FldL.stay {q : List Nat} {w0 w w' : World} (h : FldL w) (x : Only q w w') (h0 : FldL w0) (hq : ∀ k ∈ q, w0.heap.size ≤ k) : FldL w' := by
  have l1 : 1 ∉ q := fun hm => by have := hq _ hm; have := h0.lt.1; omega
  have l2 : 0 ∉ q := fun hm => by have := hq _ hm; have := h0.lt.2; omega
  exact ⟨lcell_stay h.k0 x l1, lcell_stay h.k1 x l1, lcell_stay h.n0 x l2, lcell_stay h.n1 x l2⟩

theorem ljoin (k n : Nat) (hk : k < 256) : Ma.putN k n 8 32 = k + 256 * n := by
  have h1 : Ma.andNotN k (Ma.lowN 32 <<< 8) = k := by
    refine Ma.word_ext (Ma.andNotN_lt _ (by omega)) (by omega) fun i hi => ?_
    rw [Ma.testBit_andNotN (by omega) (by decide), Nat.testBit_shiftLeft]
    by_cases h : 8 ≤ i
    · rw [Nat.testBit_lt_two_pow (x := k) (i := i) (Nat.lt_of_lt_of_le (show k < 2 ^ 8 from hk) (Nat.pow_le_pow_right (by decide) h))]; rfl
    · simp [h]
  unfold Ma.putN
  rw [h1, Nat.or_comm, Nat.shiftLeft_eq, Nat.mul_comm n, ← Nat.two_pow_add_eq_or_of_lt (show k < 2 ^ 8 from hk)]
  omega

/-- A thing that may be; the word that stands for it. -/
def MayT (S : Int) (len : Nat) (x y : Int) : Prop := x = -1 ∧ 1 ≤ y ∧ y ≤ S ∨ y = 0 ∧ 0 ≤ x ∧ x < len
theorem szT_zero {S : Int} {len : Nat} {f : Nat → Int} {x y : Int} (ok : ClsOk len f) : szT S len f x y = 0 ↔ ¬ MayT S len x y := by
  unfold MayT
  constructor
  · intro h hm
    rcases hm with ⟨rfl, h1, h2⟩ | ⟨rfl, h1, h2⟩
    · rw [szT_run h1 h2] at h; omega
    · obtain ⟨n, rfl⟩ := Int.eq_ofNat_of_zero_le h1
      rw [szT_of (by omega)] at h
      have := ok.lo n (by omega)
      omega
  · intro h
    exact szT_no (by omega) (by omega)
def wordT (x y : Int) : Nat := if x = -1 then 2 + 256 * y.toNat else 1 + 256 * x.toNat
theorem wordT_run (n : Nat) : wordT (-1) (n : Int) = 2 + 256 * n := by simp [wordT]
theorem wordT_of (n : Nat) : wordT (n : Int) 0 = 1 + 256 * n := by unfold wordT; rw [if_neg (by omega)]; simp

set_option maxHeartbeats 2000000 in
theorem lword_run (n : Nat) (w : World) (hn : n < 4294967296) (hF : Hid (FldL w)) :
    Calls Tryd.prog 36 #[.agg #[.int .i64 (-1), .int .i64 (n : Nat)]] w fun e w' => e = .returned (.int .u64 ((2 + 256 * n : Nat) : Int)) ∧ Below w.heap.size w w' := by
  have hb := below_alloc w (.cells #[.int .i64 (-1), .int .i64 (n : Nat)] 35)
  have B0 := Lib.hid hb
  have F0 := Lib.hid (hF.out.next hb)
  have D0 := Lib.hid (Two5.new w 35 (-1) (n : Nat))
  have P := Lib.hid fun w => put_yes 2 n 8 32 w (by omega) (by unfold okF; omega) hn
  rw [ljoin 2 n (by decide)] at P
  have e1 := Ma.wrap_nat n (by omega)
  clear hb
  generalize 2 + 256 * n = X at *
  go_enter Tryd.func36, Tryd.ntmps36
  go_wp2_with fail
  generalize w.alloc (.cells #[.int .i64 (-1), .int .i64 (n : Nat)] 35) = w0 at *
  obtain ⟨b0, b1⟩ := D0.out.cells
  have k0 := cell_regrown b0
  have k1 := cell_regrown b1
  clear b0 b1
  refine wp_region_quiet_below (by kernel_rfl) (by kernel_rfl) ?_
  repeat (go_big_quiet_step (fail))
  refine wpQuiet_nil ?_
  intro _ hw'
  obtain ⟨⟨dq, osq⟩, hw''⟩ := hw'
  subst hw''
  have B1 := Lib.hid (B0.out.trans ((below_regrown w0 dq osq).mono B0.out.size))
  have F1 := Lib.hid (F0.out.next (below_regrown w0 dq osq))
  have D1 := Lib.hid (D0.out.next (below_regrown w0 dq osq))
  generalize Sort.grow (redrawn w0 dq) osq = w1 at *
  clear k0 k1 B0 F0 D0
  obtain ⟨b0, b1⟩ := D1.out.cells
  go_wp2_with fail
  have k0 := cell_regrown b0
  have k1 := cell_regrown b1
  clear b0 b1
  refine wp_region_quiet_below (by kernel_rfl) (by kernel_rfl) ?_
  repeat (go_big_quiet_step (fail))
  refine wpQuiet_nil ?_
  intro _ hw'
  obtain ⟨⟨dq, osq⟩, hw''⟩ := hw'
  subst hw''
  have B2 := Lib.hid (B1.out.trans ((below_regrown w1 dq osq).mono B1.out.size))
  have F2 := Lib.hid (F1.out.next (below_regrown w1 dq osq))
  generalize Sort.grow (redrawn w1 dq) osq = w2 at *
  clear k0 k1 B1 F1 D1
  have c0 := F2.out.n0
  have c1 := F2.out.n1
  go_wp2_with (go_at_call 52; refine (P.out _).mono ?_; rintro e w' ⟨rfl, hb⟩)
  go_ret
  exact ⟨rfl, B2.out.trans (hb.mono B2.out.size)⟩
set_option maxHeartbeats 2000000 in
theorem lword_of (n : Nat) (w : World) (hn : n < 4294967296) (hF : Hid (FldL w)) :
    Calls Tryd.prog 36 #[.agg #[.int .i64 (n : Nat), .int .i64 0]] w fun e w' => e = .returned (.int .u64 ((1 + 256 * n : Nat) : Int)) ∧ Below w.heap.size w w' := by
  have hb := below_alloc w (.cells #[.int .i64 (n : Nat), .int .i64 0] 35)
  have B0 := Lib.hid hb
  have F0 := Lib.hid (hF.out.next hb)
  have D0 := Lib.hid (Two5.new w 35 (n : Nat) 0)
  have P := Lib.hid fun w => put_yes 1 n 8 32 w (by omega) (by unfold okF; omega) hn
  rw [ljoin 1 n (by decide)] at P
  have e1 := Ma.wrap_nat n (by omega)
  have e2 : ((n : Int) == -1) = false := by simp
  clear hb
  generalize 1 + 256 * n = X at *
  go_enter Tryd.func36, Tryd.ntmps36
  go_wp2_with fail
  generalize w.alloc (.cells #[.int .i64 (n : Nat), .int .i64 0] 35) = w0 at *
  obtain ⟨b0, b1⟩ := D0.out.cells
  have k0 := cell_regrown b0
  have k1 := cell_regrown b1
  clear b0 b1
  refine wp_region_quiet_below (by kernel_rfl) (by kernel_rfl) ?_
  repeat (go_big_quiet_step (fail))
  refine wpQuiet_nil ?_
  intro _ hw'
  obtain ⟨⟨dq, osq⟩, hw''⟩ := hw'
  subst hw''
  have B1 := Lib.hid (B0.out.trans ((below_regrown w0 dq osq).mono B0.out.size))
  have F1 := Lib.hid (F0.out.next (below_regrown w0 dq osq))
  have D1 := Lib.hid (D0.out.next (below_regrown w0 dq osq))
  generalize Sort.grow (redrawn w0 dq) osq = w1 at *
  clear k0 k1 B0 F0 D0
  obtain ⟨b0, b1⟩ := D1.out.cells
  have c0 := F1.out.n0
  have c1 := F1.out.n1
  go_wp2_with (go_at_call 52; refine (P.out _).mono ?_; rintro e w' ⟨rfl, hb⟩)
  go_ret
  exact ⟨rfl, B1.out.trans (hb.mono B1.out.size)⟩
theorem lword_any (S : Int) (len : Nat) (x y : Int) (w : World) (hm : MayT S len x y) (hS : S ≤ 1000) (hl : len ≤ 1000) (hF : Hid (FldL w)) :
    Calls Tryd.prog 36 #[.agg #[.int .i64 x, .int .i64 y]] w fun e w' => e = .returned (.int .u64 ((wordT x y : Nat) : Int)) ∧ Below w.heap.size w w' := by
  rcases hm with ⟨rfl, h1, h2⟩ | ⟨rfl, h1, h2⟩
  · obtain ⟨n, rfl⟩ := Int.eq_ofNat_of_zero_le (show 0 ≤ y by omega)
    rw [show wordT (-1) (n : Int) = 2 + 256 * n from wordT_run n]
    exact lword_run n w (by omega) hF
  · obtain ⟨n, rfl⟩ := Int.eq_ofNat_of_zero_le h1
    rw [show wordT (n : Int) 0 = 1 + 256 * n from wordT_of n]
    exact lword_of n w (by omega) hF
end Go.Proofs.YtchkgmknhndccaaDoor
