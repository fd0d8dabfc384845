/-
  Contract of mask's List: a new list of the set's members, rising.
-/
import Derived.Test.YtkogeeaoppkhkaaDoorMask4
namespace Go.Proofs.YtkogeeaoppkhkaaDoor
open Go.RowKit

theorem TabAt.lt {w : World} (h : TabAt w) : 2 < w.heap.size := World.block_lt_of_cell? w ⟨2, 0, none⟩ (h 0 (by decide))
theorem TabAt.below {B : Nat} {w w' : World} (h : TabAt w) (hb : Below B w w') (hB : 2 < B) : TabAt w' := fun j hj => (hb.cell (p := ⟨2, j, none⟩) hB).trans (h j hj)
theorem TabAt.next {w w' : World} (h : TabAt w) (hb : Below w.heap.size w w') : TabAt w' := h.below hb h.lt

/-- The numbers of a list as the machine's ints. -/
def ints (l : List Nat) : List Value := l.map fun i => Value.int .i64 (i : Nat)
theorem ints_length (l : List Nat) : (ints l).length = l.length := by simp [ints]

/-- A call answered a new list of these numbers, and touched nothing that was there. -/
def Listed (l : List Nat) (w : World) (e : Ending) (w' : World) : Prop :=
  ∃ v, e = .returned v ∧ w'.ownsRow w.heap.size 3 1 v l.length (ints l) ∧ Below w.heap.size w w'

theorem info_int : (Tryd.prog.info? 3).map (fun i => (i.zero, i.size, i.bytes)) = some (some (.int .i64 0), 1, 8) := by kernel_rfl

theorem list_step {B k : Nat} {m : Nat} {w wr w1 : World} {v v' : Value} (o : Obj) (hk : k < (Ma.mem m).length) (hc : Ma.mem m = (Ma.mem m).take k ++ Go.Lib.ctz 64 (Ma.restN m k) :: (Ma.mem m).drop (k + 1))
    (hB : B ≤ wr.heap.size) (hown : wr.ownsRow B 3 1 v k (ints ((Ma.mem m).take k))) (hnx : Below B w wr)
    (hown' : w1.ownsRow B 3 1 v' (k + 1) (ints ((Ma.mem m).take k) ++ [.int .i64 (Go.Lib.ctz 64 (Ma.restN m k) : Nat)])) (hg : (wr.alloc o).grownBy w1 v.ownBlock) :
    w1.ownsRow B 3 1 v' (k + 1) (ints ((Ma.mem m).take (k + 1))) ∧ Below B w w1 := by
  refine ⟨?_, (hnx.alloc hB o).grown hg (by simp; omega) (fun j hj => (World.ownsRow.lt hown j hj).1)⟩
  have e : (Ma.mem m).take (k + 1) = (Ma.mem m).take k ++ [Go.Lib.ctz 64 (Ma.restN m k)] := by
    have hl : ((Ma.mem m).take k).length = k := by simp; omega
    rw [List.take_add_one, show (Ma.mem m)[k]? = some (Go.Lib.ctz 64 (Ma.restN m k)) from by
      rw [hc, List.getElem?_append_right (by omega), hl]; simp]
    rfl
  rw [e]
  simpa [ints] using hown'

theorem mem_at (m k : Nat) (hm : m < 18446744073709551616) (hk : k < (Ma.mem m).length) : Ma.mem m = (Ma.mem m).take k ++ Go.Lib.ctz 64 (Ma.restN m k) :: (Ma.mem m).drop (k + 1) := by
  have h := Ma.mem_restN m hm k (by omega)
  have h0 : Ma.restN m k ≠ 0 := fun e => by have := (Ma.restN_zero m k hm (by omega)).1 e; omega
  have hc := Ma.mem_cons _ (Ma.restN_lt m hm k) h0
  have h2 := Ma.mem_restN m hm (k + 1) (by omega)
  rw [h] at hc
  rw [← h2]
  show Ma.mem m = (Ma.mem m).take k ++ Go.Lib.ctz 64 (Ma.restN m k) :: Ma.mem (Ma.withoutN (Ma.restN m k) (Go.Lib.ctz 64 (Ma.restN m k)))
  rw [← hc, List.take_append_drop]

set_option maxHeartbeats 1000000 in
theorem list_any (m : Nat) (w : World) (hm : m < 18446744073709551616) (hT : Hid (TabAt w)) :
    Calls Tryd.prog 36 #[.int .u64 m] w (Listed (Ma.mem m) w) := by
  obtain ⟨i0, hi, hz0, hz1, hz2⟩ := info_parts info_int
  have hlen : Ma.popF 64 m ≤ 64 := Ma.popF_le 64 m
  have HL := Lib.hid (Ma.mem_length m)
  have hl64 : (Ma.mem m).length ≤ 64 := by rw [HL.out]; exact hlen
  go_enter Tryd.func36, Tryd.ntmps36
  go_wp2_with fail
  refine (count_any _ _ hm).mono ?_
  rintro e w' ⟨rfl, rfl⟩
  go_wp2_with (at_make; refine wpList_make_own _ rfl _ _ 22 rfl w.heap.size 3 i0 (.int .i64 0) 1 Tryd.underlying22 hi hz0 hz1 _ _ _ (Ma.popF 64 m) rfl rfl rfl ?b2 ?b3 (Nat.le_refl _) ?_)
  case b2 => rw [hz2]; omega
  case b3 => unfold maxLen; omega
  intro w0 hown0 hgrow0
  have hb0 : Below w.heap.size w w0 := (Below.refl _ _).grown hgrow0 (Nat.le_refl _) (fun k h => by cases h)
  have hown0' : Hid (w0.ownsRow w.heap.size 3 1 (.slice (some ⟨w.heap.size, 0, none⟩) 0 (Ma.popF 64 m)) 0 (ints ((Ma.mem m).take 0))) := hown0
  clear hown0 hgrow0
  go_wp2
  go_loopw [3, 4] (fun l r wr => ∃ k : Nat, k ≤ (Ma.mem m).length ∧ r = .int .u64 (Ma.restN m k : Nat) ∧ wr.ownsRow w.heap.size 3 1 l k (ints ((Ma.mem m).take k)) ∧ Below w.heap.size w wr) (fun _ r _ => (intOf r).toNat)
  case atStart => exact ⟨0, Nat.zero_le _, rfl, hown0', hb0⟩
  case round =>
    obtain ⟨k, hk, rfl, hown, hnx⟩ := hrel
    have hl := Ma.restN_lt m hm k
    have hz := Lib.hid (Ma.restN_zero m k hm hk)
    have hTr : Hid (TabAt wr) := hT.out.next hnx
    have hBz := hnx.size
    by_cases h2 : Ma.restN m k = 0
    · have e : k = (Ma.mem m).length := hz.out.1 h2
      have b : (((Ma.restN m k : Nat) : Int) != 0) = false := by simp [h2]
      have hown2 : Hid (wr.ownsRow w.heap.size 3 1 u3 (Ma.mem m).length (ints (Ma.mem m))) := by
        have := hown
        rw [e, List.take_of_length_le (Nat.le_refl _)] at this
        exact this
      have hnx2 := Lib.hid hnx
      clear h2 hz e hown hnx
      go_wp2
      go_ret
      exact ⟨_, rfl, hown2.out, hnx2.out⟩
    · have b : (((Ma.restN m k : Nat) : Int) != 0) = true := by simp; omega
      have hc := (Ma.ctz_spec (Ma.restN m k) hl h2).1
      have hk' : k < (Ma.mem m).length := by
        have : k ≠ (Ma.mem m).length := fun h => h2 (hz.out.2 h)
        omega
      have HD := Lib.hid (Ma.without_first_lt (Ma.restN m k) hl h2)
      have HA := Lib.hid (mem_at m k hm hk')
      have HR : Hid (Ma.restN m (k + 1) = Ma.withoutN (Ma.restN m k) (Go.Lib.ctz 64 (Ma.restN m k))) := rfl
      clear h2 hz
      go_wp2_with fail
      refine (first_any _ _ hl hTr).mono ?_
      rintro e w' ⟨rfl, rfl⟩
      go_wp2_with (at_builtin; refine wpList_append_own _ rfl _ _ 22 rfl w.heap.size 3 i0 (.int .i64 0) 1 8 Tryd.underlying22 hi hz0 hz1 hz2 rfl (by decide) _ _ _ rfl (hown.alloc _) ⟨wr.heap.size, 0, none⟩ 1 1 [.int .i64 (Go.Lib.ctz 64 (Ma.restN m k) : Nat)] rfl rfl ?c1 ?c2 ?c3 ?c4 ?c5 ?_)
      case c1 => exact cell_one_new _ _ _
      case c2 => intro u hu; simp at hu; subst hu; rfl
      case c3 => unfold maxLen; omega
      case c4 => omega
      case c5 => simp; omega
      intro v' w1 hown' hgrow _
      have R := list_step _ hk' HA.out hBz hown hnx hown' hgrow
      have R1 := Lib.hid R.1
      have R2 := Lib.hid R.2
      have hT1 : Hid (TabAt w1) := hT.out.next R.2
      clear hown' hgrow hown hnx R
      go_wp2_with fail
      refine (first_any _ _ hl hT1).mono ?_
      rintro e w' ⟨rfl, rfl⟩
      go_wp2_with fail
      refine (without_yes _ _ _ hl (by omega) (by omega)).mono ?_
      rintro e w' ⟨rfl, rfl⟩
      go_wp2_with fail
      go_roundw
      case rel => exact ⟨k + 1, hk', by rw [HR.out], R1.out, R2.out⟩
      case measure => have := HD.out; simp [intOf]; omega

end Go.Proofs.YtkogeeaoppkhkaaDoor
