/-
  Contract of package word's To.
-/
import Derived.Test.YtlpaijobcopbnaaDoorWord2
namespace Go.Proofs.YtlpaijobcopbnaaDoor
open Go.RowKit

/-- Three ints at the head of a block that may be written. -/
def Three (w : World) (g : Nat) (v0 v1 v2 : Int) : Prop :=
  w.cell? ⟨g, 0, none⟩ = some (.int .i64 v0) ∧ w.cell? ⟨g, 1, none⟩ = some (.int .i64 v1) ∧ w.cell? ⟨g, 2, none⟩ = some (.int .i64 v2) ∧
  w.frozen? ⟨g, 0, none⟩ = false ∧ w.frozen? ⟨g, 1, none⟩ = false ∧ w.frozen? ⟨g, 2, none⟩ = false
theorem Three.next {B : Nat} {w w' : World} {g : Nat} {v0 v1 v2 : Int} (h : Three w g v0 v1 v2) (hb : Below B w w') (hg : g < B) : Three w' g v0 v1 v2 := by
  obtain ⟨h0, h1, h2, h3, h4, h5⟩ := h
  exact ⟨(hb.cell (p := ⟨g, 0, none⟩) hg).trans h0, (hb.cell (p := ⟨g, 1, none⟩) hg).trans h1, (hb.cell (p := ⟨g, 2, none⟩) hg).trans h2, (hb.frozen (p := ⟨g, 0, none⟩) hg).trans h3, (hb.frozen (p := ⟨g, 1, none⟩) hg).trans h4, (hb.frozen (p := ⟨g, 2, none⟩) hg).trans h5⟩
theorem Three.lt {w : World} {g : Nat} {v0 v1 v2 : Int} (h : Three w g v0 v1 v2) : g < w.heap.size := World.block_lt_of_cell? w ⟨g, 0, none⟩ h.1
theorem Three.new (w : World) (v0 v1 v2 : Int) (T : TypeId) : Three (w.alloc (.cells #[.int .i64 v0, .int .i64 v1, .int .i64 v2] T)) w.heap.size v0 v1 v2 := by
  refine ⟨by simp, by simp, by simp, ?_, ?_, ?_⟩ <;> exact World.frozen?_alloc_at _ _ _ _ rfl
theorem Three.far {w : World} {g : Nat} {v0 v1 v2 : Int} (h : Three w g v0 v1 v2) {b o : Nat} (hb : b ≠ g) (v : Value) : Three (w.setCell ⟨b, o, none⟩ v) g v0 v1 v2 := by
  obtain ⟨h0, h1, h2, h3, h4, h5⟩ := h
  have q : ∀ j, (w.setCell ⟨b, o, none⟩ v).cell? ⟨g, j, none⟩ = w.cell? ⟨g, j, none⟩ := fun j => World.cell?_setCell_other _ _ _ _ (fun e => hb (congrArg Addr.block e))
  exact ⟨(q 0).trans h0, (q 1).trans h1, (q 2).trans h2, by rw [World.frozen?_setCell]; exact h3, by rw [World.frozen?_setCell]; exact h4, by rw [World.frozen?_setCell]; exact h5⟩
theorem Three.set0 {w : World} {g : Nat} {v0 v1 v2 : Int} (h : Three w g v0 v1 v2) (v : Int) : Three (w.setCell ⟨g, 0, none⟩ (.int .i64 v)) g v v1 v2 := by
  obtain ⟨h0, h1, h2, h3, h4, h5⟩ := h
  exact ⟨World.cell?_setCell_same _ _ _ h0, (World.cell?_setCell_other _ _ _ _ (by simp)).trans h1, (World.cell?_setCell_other _ _ _ _ (by simp)).trans h2, by rw [World.frozen?_setCell]; exact h3, by rw [World.frozen?_setCell]; exact h4, by rw [World.frozen?_setCell]; exact h5⟩
theorem Three.set1 {w : World} {g : Nat} {v0 v1 v2 : Int} (h : Three w g v0 v1 v2) (v : Int) : Three (w.setCell ⟨g, 1, none⟩ (.int .i64 v)) g v0 v v2 := by
  obtain ⟨h0, h1, h2, h3, h4, h5⟩ := h
  exact ⟨(World.cell?_setCell_other _ _ _ _ (by simp)).trans h0, World.cell?_setCell_same _ _ _ h1, (World.cell?_setCell_other _ _ _ _ (by simp)).trans h2, by rw [World.frozen?_setCell]; exact h3, by rw [World.frozen?_setCell]; exact h4, by rw [World.frozen?_setCell]; exact h5⟩
theorem Three.set2 {w : World} {g : Nat} {v0 v1 v2 : Int} (h : Three w g v0 v1 v2) (v : Int) : Three (w.setCell ⟨g, 2, none⟩ (.int .i64 v)) g v0 v1 v := by
  obtain ⟨h0, h1, h2, h3, h4, h5⟩ := h
  exact ⟨(World.cell?_setCell_other _ _ _ _ (by simp)).trans h0, (World.cell?_setCell_other _ _ _ _ (by simp)).trans h1, World.cell?_setCell_same _ _ _ h2, by rw [World.frozen?_setCell]; exact h3, by rw [World.frozen?_setCell]; exact h4, by rw [World.frozen?_setCell]; exact h5⟩

/-- What To keeps: its result's cells, its list of numbers, and all that was there. -/
def ToInv (w wr : World) (v0 v1 v2 : Int) : Prop := Three wr w.heap.size 0 0 0 ∧ Three wr (w.heap.size + 1) v0 v1 v2 ∧ Below w.heap.size w wr
theorem ToInv.start (w : World) (T T' : TypeId) : ToInv w ((w.alloc (.cells #[.int .i64 0, .int .i64 0, .int .i64 0] T)).alloc (.cells #[.int .i64 0, .int .i64 0, .int .i64 0] T')) 0 0 0 := by
  have h2 := Three.new (w.alloc (.cells #[.int .i64 0, .int .i64 0, .int .i64 0] T)) 0 0 0 T'
  have h1 := Three.new w 0 0 0 T
  have e : (w.alloc (.cells #[.int .i64 0, .int .i64 0, .int .i64 0] T)).heap.size = w.heap.size + 1 := by simp
  rw [e] at h2
  exact ⟨h1.next (belowBox _ _) (by rw [e]; omega), h2, ((Below.refl _ _).alloc (Nat.le_refl _) _).alloc (by rw [e]; omega) _⟩
theorem ToInv.next {w wr w2 : World} {v0 v1 v2 : Int} (h : ToInv w wr v0 v1 v2) (hb : Below wr.heap.size wr w2) : ToInv w w2 v0 v1 v2 :=
  ⟨h.1.next hb h.1.lt, h.2.1.next hb h.2.1.lt, h.2.2.trans (hb.mono (Nat.le_of_lt h.1.lt))⟩
theorem ToInv.box {w wr w2 : World} {v0 v1 v2 : Int} {o : Obj} (h : ToInv w wr v0 v1 v2) (hb : Below (wr.alloc o).heap.size (wr.alloc o) w2) : ToInv w w2 v0 v1 v2 :=
  h.next ((belowBox wr o).trans (hb.mono (by simp)))
theorem ToInv.set0 {w wr : World} {v0 v1 v2 : Int} (h : ToInv w wr v0 v1 v2) (v : Int) : ToInv w (wr.setCell ⟨w.heap.size + 1, 0, none⟩ (.int .i64 v)) v v1 v2 :=
  ⟨h.1.far (by omega) _, h.2.1.set0 v, h.2.2.setCell (by simp) _⟩
theorem ToInv.set1 {w wr : World} {v0 v1 v2 : Int} (h : ToInv w wr v0 v1 v2) (v : Int) : ToInv w (wr.setCell ⟨w.heap.size + 1, 1, none⟩ (.int .i64 v)) v0 v v2 :=
  ⟨h.1.far (by omega) _, h.2.1.set1 v, h.2.2.setCell (by simp) _⟩
theorem ToInv.set2 {w wr : World} {v0 v1 v2 : Int} (h : ToInv w wr v0 v1 v2) (v : Int) : ToInv w (wr.setCell ⟨w.heap.size + 1, 2, none⟩ (.int .i64 v)) v0 v1 v :=
  ⟨h.1.far (by omega) _, h.2.1.set2 v, h.2.2.setCell (by simp) _⟩

/-- The three numbers of a word. -/
def toX (m : Nat) : Nat := Ma.getN m 0 8
def toY (m : Nat) : Nat := Ma.getN m 8 8
def toZ (m : Nat) : Nat := Ma.getN m 16 32
theorem toX_lt (m : Nat) : toX m < 256 := Ma.getN_lt_pow m 0 8
theorem toY_lt (m : Nat) : toY m < 256 := Ma.getN_lt_pow m 8 8
theorem toZ_lt (m : Nat) : toZ m < 4294967296 := Ma.getN_lt_pow m 16 32

def pick (k j : Nat) (v : Nat) : Int := if j < k then (v : Int) else 0

def ToSays (m : Nat) (w : World) (e : Ending) (w' : World) : Prop :=
  (ofR (toX m) (toY m) (toZ m) = m → e = .returned (.tuple #[.agg #[.int .i64 (toX m : Nat), .int .i64 (toY m : Nat), .int .i64 (toZ m : Nat)], .bool true])) ∧
  (ofR (toX m) (toY m) (toZ m) ≠ m → e = .returned (.tuple #[.agg #[.int .i64 0, .int .i64 0, .int .i64 0], .bool false])) ∧ Below w.heap.size w w'

set_option maxHeartbeats 1000000 in
theorem to_any (m : Nat) (w : World) (hm : m < 18446744073709551616) (hR : Hid (RefAt w)) :
    Calls Tryd.prog 24 #[.int .u64 m] w (ToSays m w) := by
  have i0 : ∀ w, (Instr.index 64 (.agg #[.int .i64 0, .int .i64 8, .int .i64 8, .int .i64 8, .int .i64 16, .int .i64 32]) (.int .i64 0)).run Tryd.prog w = .ok (.agg #[.int .i64 0, .int .i64 8]) w := fun _ => by kernel_rfl
  have i1 : ∀ w, (Instr.index 64 (.agg #[.int .i64 0, .int .i64 8, .int .i64 8, .int .i64 8, .int .i64 16, .int .i64 32]) (.int .i64 1)).run Tryd.prog w = .ok (.agg #[.int .i64 8, .int .i64 8]) w := fun _ => by kernel_rfl
  have i2 : ∀ w, (Instr.index 64 (.agg #[.int .i64 0, .int .i64 8, .int .i64 8, .int .i64 8, .int .i64 16, .int .i64 32]) (.int .i64 2)).run Tryd.prog w = .ok (.agg #[.int .i64 16, .int .i64 32]) w := fun _ => by kernel_rfl
  have hl := hR.out.lt
  have hR2 := hR.out
  obtain ⟨c0, c1, c2, c3, c4, c5⟩ := hR2
  go_enter Tryd.func24, Tryd.ntmps24
  go_wp2_with fail
  clear c0 c1 c2 c3 c4 c5
  go_loopw [9] (fun t wr => ∃ k : Nat, k ≤ 3 ∧ t = .int .i64 k ∧ ToInv w wr (pick k 0 (toX m)) (pick k 1 (toY m)) (pick k 2 (toZ m))) (fun t _ => 3 - (intOf t).toNat)
  case atStart => exact ⟨0, by omega, rfl, ToInv.start w _ _⟩
  case round =>
    obtain ⟨k, hk, rfl, hI⟩ := hrel
    have HI := Lib.hid hI
    clear hI
    rcases (by omega : k = 0 ∨ k = 1 ∨ k = 2 ∨ k = 3) with rfl | rfl | rfl | rfl
    · have hv := toX_lt m
      go_wp2_with fail
      refine (get0_yes _ _ hm).mono ?_
      rintro e w2 ⟨rfl, hb⟩
      have hI2 := HI.out.box hb
      have HI2 := Lib.hid hI2
      obtain ⟨_, ⟨d0, d1, d2, z0, z1, z2⟩, _⟩ := hI2
      clear hb
      change Ma.getN m 0 8 < 256 at hv
      go_wp2_with fail
      go_roundw
      case rel => exact ⟨1, by omega, by go_num, HI2.out.set0 _⟩
      case measure => simp [intOf]
    · have hv := toY_lt m
      go_wp2_with fail
      refine (get8_yes _ _ hm).mono ?_
      rintro e w2 ⟨rfl, hb⟩
      have hI2 := HI.out.box hb
      have HI2 := Lib.hid hI2
      obtain ⟨_, ⟨d0, d1, d2, z0, z1, z2⟩, _⟩ := hI2
      clear hb
      change Ma.getN m 8 8 < 256 at hv
      go_wp2_with fail
      go_roundw
      case rel => exact ⟨2, by omega, by go_num, HI2.out.set1 _⟩
      case measure => simp [intOf]
    · have hv := toZ_lt m
      go_wp2_with fail
      refine (get16_yes _ _ hm).mono ?_
      rintro e w2 ⟨rfl, hb⟩
      have hI2 := HI.out.box hb
      have HI2 := Lib.hid hI2
      obtain ⟨_, ⟨d0, d1, d2, z0, z1, z2⟩, _⟩ := hI2
      clear hb
      change Ma.getN m 16 32 < 4294967296 at hv
      go_wp2_with fail
      go_roundw
      case rel => exact ⟨3, by omega, by go_num, HI2.out.set2 _⟩
      case measure => simp [intOf]
    · have hI2 : ToInv w wr (toX m) (toY m) (toZ m) := HI.out
      have HI2 := Lib.hid hI2
      have hRr : Hid (RefAt (wr.alloc (.cells #[.int .i64 (toX m), .int .i64 (toY m), .int .i64 (toZ m)] 33))) := (hR.out.next (Below.mono hI2.2.2 (Nat.le_refl _))).next (belowBox _ _)
      obtain ⟨_, ⟨d0, d1, d2, z0, z1, z2⟩, _⟩ := hI2
      clear HI
      go_wp2_with fail
      refine (of_any _ _ _ _ hRr).mono ?_
      rintro e w2 ⟨rfl, hb⟩
      have hT3 := (Three.new wr (toX m) (toY m) (toZ m) 33).next hb (by simp)
      have hI3 := HI2.out.box hb
      have HBF := Lib.hid hI3.2.2
      obtain ⟨⟨e0, e1, e2, y0, y1, y2⟩, _, _⟩ := hI3
      obtain ⟨q0, q1, q2, _, _, _⟩ := hT3
      clear hb z0 z1 z2 d0 d1 d2 HI2
      by_cases hq : ofR (toX m) (toY m) (toZ m) = m
      · have b1 : (((ofR (toX m) (toY m) (toZ m) : Nat) : Int) != (m : Int)) = false := by rw [hq]; simp
        have b2 : ((ofR (toX m) (toY m) (toZ m)) != m) = false := by rw [hq]; simp
        have HQ := Lib.hid hq
        clear hq
        go_wp2_with fail
        have hT0 : Three w2 w.heap.size 0 0 0 := ⟨e0, e1, e2, y0, y1, y2⟩
        have hW := Three.set2 (Three.set1 (Three.set0 hT0 (toX m)) (toY m)) (toZ m)
        obtain ⟨r0, r1, r2, _, _, _⟩ := hW
        exact bodyPost_ret (v := .tuple #[.agg #[.int .i64 (toX m : Nat), .int .i64 (toY m : Nat), .int .i64 (toZ m : Nat)], .bool true]) (by simp [results, Tryd.results24, go_sem, r0, r1, r2]) rfl ⟨fun _ => rfl, fun h => absurd HQ.out h, ((HBF.out.setCell (Nat.le_refl _) _).setCell (Nat.le_refl _) _).setCell (Nat.le_refl _) _⟩
      · have b1 : (((ofR (toX m) (toY m) (toZ m) : Nat) : Int) != (m : Int)) = true := by simp; omega
        have b2 : ((ofR (toX m) (toY m) (toZ m)) != m) = true := by simp; omega
        have HQ := Lib.hid hq
        clear hq
        go_wp2_with fail
        have hT0 : Three w2 w.heap.size 0 0 0 := ⟨e0, e1, e2, y0, y1, y2⟩
        have hW := Three.set2 (Three.set1 (Three.set0 hT0 0) 0) 0
        obtain ⟨r0, r1, r2, _, _, _⟩ := hW
        exact bodyPost_ret (v := .tuple #[.agg #[.int .i64 0, .int .i64 0, .int .i64 0], .bool false]) (by simp [results, Tryd.results24, go_sem, r0, r1, r2]) rfl ⟨fun h => absurd h HQ.out, fun _ => rfl, ((HBF.out.setCell (Nat.le_refl _) _).setCell (Nat.le_refl _) _).setCell (Nat.le_refl _) _⟩

end Go.Proofs.YtlpaijobcopbnaaDoor
