/-
  Contract of mask's List: a new list of the set's members, rising.
-/
import Derived.Test.YtjlklkaaonfpdaaMask4
namespace Go.Proofs.Ytjlklkaaonfpdaa
open Go.RowKit

/-- The numbers of a list as the machine's ints. -/
def ints (l : List Nat) : List Value := l.map fun i => Value.int .i64 (i : Nat)
theorem ints_length (l : List Nat) : (ints l).length = l.length := by simp [ints]

/-- A call answered a new list of these numbers, and touched nothing that was there. -/
def Listed (l : List Nat) (w : World) (e : Ending) (w' : World) : Prop :=
  ∃ v, e = .returned v ∧ w'.ownsRow w.heap.size 3 1 v l.length (ints l) ∧ Below w.heap.size w w'

theorem info_int : (Try.prog.info? 3).map (fun i => (i.zero, i.size, i.bytes)) = some (some (.int .i64 0), 1, 8) := by kernel_rfl

theorem list_step {B k : Nat} {m : Nat} {w wr w1 : World} {v v' : Value} (o : Obj) (hk : k < (Ma.mem m).length) (hc : Ma.mem m = (Ma.mem m).take k ++ Go.Lib.ctz 64 (Ma.restN m k) :: (Ma.mem m).drop (k + 1))
    (hB : B ≤ wr.heap.size) (hown : wr.ownsRow B 3 1 v k (ints ((Ma.mem m).take k))) (hnx : Below B w wr)
    (hown' : w1.ownsRow B 3 1 v' (k + 1) (ints ((Ma.mem m).take k) ++ [.int .i64 (Go.Lib.ctz 64 (Ma.restN m k) : Nat)])) (hg : (wr.alloc o).grownBy w1 v.ownBlock) :
    w1.ownsRow B 3 1 v' (k + 1) (ints ((Ma.mem m).take (k + 1))) ∧ Below B w w1 := by
  refine ⟨?_, (hnx.alloc hB o).grown hg (by simp; omega) (fun j hj => (World.ownsRow.lt hown j hj).1)⟩
  have e : (Ma.mem m).take (k + 1) = (Ma.mem m).take k ++ [Go.Lib.ctz 64 (Ma.restN m k)] := by
    have hl : ((Ma.mem m).take k).length = k := by simp; omega
    rw [List.take_add_one, show (Ma.mem m)[k]? = some (Go.Lib.ctz 64 (Ma.restN m k)) from by
      rw [hc, List.getElem?_append_right (by omega), hl]; simp]
    rfl
  rw [e]
  simpa [ints] using hown'

theorem mem_at (m k : Nat) (hm : m < 18446744073709551616) (hk : k < (Ma.mem m).length) : Ma.mem m = (Ma.mem m).take k ++ Go.Lib.ctz 64 (Ma.restN m k) :: (Ma.mem m).drop (k + 1) := by
  have h := Ma.mem_restN m hm k (by omega)
  have h0 : Ma.restN m k ≠ 0 := fun e => by have := (Ma.restN_zero m k hm (by omega)).1 e; omega
  have hc := Ma.mem_cons _ (Ma.restN_lt m hm k) h0
  have h2 := Ma.mem_restN m hm (k + 1) (by omega)
  rw [h] at hc
  rw [← h2]
  show Ma.mem m = (Ma.mem m).take k ++ Go.Lib.ctz 64 (Ma.restN m k) :: Ma.mem (Ma.withoutN (Ma.restN m k) (Go.Lib.ctz 64 (Ma.restN m k)))
  rw [← hc, List.take_append_drop]

end Go.Proofs.Ytjlklkaaonfpdaa
