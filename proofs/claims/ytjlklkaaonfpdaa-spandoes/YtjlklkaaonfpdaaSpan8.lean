/-
  Contracts of package span: Drop, Get, Bytes, All.
-/
import Derived.Test.YtjlklkaaonfpdaaSpan7
namespace Go.Proofs.Ytjlklkaaonfpdaa
open Go.RowKit Go.Sort

/-- The interval that begins there, or none, as it is answered. -/
def getV : Option Iv → Value
  | some x => .tuple #[.agg #[.int .i64 x.1, .int .i64 x.2], .bool true]
  | none => .tuple #[.agg #[.int .i64 0, .int .i64 0], .bool false]
/-- Two numbers in a block. -/
def Duo6 (w : World) (N : Nat) (a b : Int) : Prop := w.heap[N]? = some (.cells #[.int .i64 a, .int .i64 b] 56 (0, 0))
theorem Duo6.lt {w : World} {N : Nat} {a b : Int} (h : Duo6 w N a b) : N < w.heap.size := (Array.getElem?_eq_some_iff.1 h).1
theorem Duo6.next {w w' : World} {N : Nat} {a b : Int} (h : Duo6 w N a b) (hb : Below w.heap.size w w') : Duo6 w' N a b := (hb.block N h.lt).trans h
theorem Duo6.new (w : World) (a b : Int) : Duo6 (w.alloc (.cells #[.int .i64 a, .int .i64 b] 56)) w.heap.size a b := heap_at _ _
theorem Duo6.cells {w : World} {N : Nat} {a b : Int} (h : Duo6 w N a b) : w.cell? ⟨N, 0, none⟩ = some (.int .i64 a) ∧ w.cell? ⟨N, 1, none⟩ = some (.int .i64 b) := by
  unfold Duo6 at h
  refine ⟨?_, ?_⟩ <;> simp [World.cell?, h]
theorem Duo6.fz {w : World} {N : Nat} {a b : Int} (h : Duo6 w N a b) (j : Nat) : w.frozen? ⟨N, j, none⟩ = false := by
  unfold Duo6 at h; simp [World.frozen?, h]
theorem Duo6.set {w : World} {N : Nat} {a b : Int} (h : Duo6 w N a b) (c d : Int) : Duo6 ((w.setCell ⟨N, 0, none⟩ (.int .i64 c)).setCell ⟨N, 1, none⟩ (.int .i64 d)) N c d := by
  have := h.lt
  unfold Duo6 at *
  simp [World.setCell, Array.getElem?_modify, h]

set_option maxHeartbeats 1000000 in
theorem get_any (g : Nat) (v : Value) (l : List Iv) (a : Int) (w : World) (m : Hid (MapAt w g v l)) (gd : Hid (Good l)) :
    Calls Try.prog 40 #[.pointer (some ⟨g, 0, none⟩), .int .i64 a] w fun e w' => e = .returned (getV (getO l a)) ∧ Below w.heap.size w w' := by
  have b1 := below_alloc w (.cells #[.int .i64 0, .int .i64 0] 56)
  have M1 := Lib.hid (m.out.next b1)
  have D1 := Lib.hid (Duo6.new w 0 0)
  have B1 := Lib.hid b1
  have HG := Lib.hid (get_at gd.out a)
  have HL := begN_le l a
  clear b1
  go_enter Try.func40, Try.ntmps40
  go_wp2_with fail
  generalize w.alloc (.cells #[.int .i64 0, .int .i64 0] 56) = w1 at *
  generalize hN : w.heap.size = N at *
  refine (begins_at g v l a _ M1 gd).mono ?_
  rintro e w2 ⟨rfl, hb⟩
  have M2 := Lib.hid (M1.out.next hb)
  have D2 := Lib.hid (D1.out.next hb)
  have B2 := Lib.hid (Below.trans B1.out (hb.mono (by rw [← hN]; exact B1.out.size)))
  clear hb M1 B1 D1
  obtain ⟨e0, e1⟩ := D2.out.cells
  have z0 := D2.out.fz 0
  have z1 := D2.out.fz 1
  rcases ho : getO l a with _ | x
  · have HO := Lib.hid ho
    clear ho
    obtain ⟨r0, r1⟩ := (D2.out.set 0 0).cells
    have HB := Lib.hid ((B2.out.setCell (p := ⟨N, 0, none⟩) (Nat.le_refl _) (.int .i64 0)).setCell (p := ⟨N, 1, none⟩) (Nat.le_refl _) (.int .i64 0))
    go_wp2_with fail
    exact bodyPost_ret (v := .tuple #[.agg #[.int .i64 0, .int .i64 0], .bool false]) (by simp [results, Try.results40, go_sem, r0, r1]) rfl ⟨by rw [HO.out]; rfl, by first | exact HB.out | (rw [hN]; exact HB.out)⟩
  · have HO := Lib.hid ho
    rw [ho] at HG
    obtain ⟨r0, r1⟩ := (D2.out.set x.1 x.2).cells
    have HB := Lib.hid ((B2.out.setCell (p := ⟨N, 0, none⟩) (Nat.le_refl _) (.int .i64 x.1)).setCell (p := ⟨N, 1, none⟩) (Nat.le_refl _) (.int .i64 x.2))
    have hx : l[begN l a]? = some x := by
      have h := HG.out
      split at h
      · rename_i y hy
        split at h
        · cases h; exact hy
        · cases h
      · cases h
    have hlt : begN l a < l.length := (List.getElem?_eq_some_iff.1 hx).1
    have l2 : (begN l a : Int) < (l.length : Int) := by omega
    rcases M2.out.row.cases with ⟨rfl, rfl⟩ | ⟨b, cap, cur, rfl, hB⟩
    · cases hx
    · obtain ⟨x0, x1⟩ := hB.two hx
      have c0 := M2.out.c0
      clear hB HG hx ho
      generalize begN l a = n at *
      generalize l.length = L at *
      go_wp2_with fail
      exact bodyPost_ret (v := .tuple #[.agg #[.int .i64 x.1, .int .i64 x.2], .bool true]) (by simp [results, Try.results40, go_sem, r0, r1]) rfl ⟨by rw [HO.out]; rfl, by first | exact HB.out | (rw [hN]; exact HB.out)⟩

theorem sum_take {l : List Iv} {i : Nat} {x : Iv} (h : l[i]? = some x) : sumL (l.take (i + 1)) = sumL (l.take i) + x.2 := by
  rw [List.take_add_one, h]; simp [sumL]
theorem Good.take {l : List Iv} (g : Good l) (i : Nat) : Good (l.take i) := ⟨fun x hx => g.ok x (List.mem_of_mem_take hx), g.up.sublist (List.take_sublist i l)⟩

set_option maxHeartbeats 1000000 in
theorem bytes_any (g : Nat) (v : Value) (l : List Iv) (w : World) (m : Hid (MapAt w g v l)) (gd : Hid (Good l)) :
    Calls Try.prog 44 #[.pointer (some ⟨g, 0, none⟩)] w fun e w' => e = .returned (.int .i64 (sumL l)) ∧ Below w.heap.size w w' := by
  have few := m.out.few
  go_enter Try.func44, Try.ntmps44
  go_wp2_with fail
  refine (inter_any g v l _ m.out).mono ?_
  rintro e w' ⟨rfl, rfl⟩
  rcases m.out.row.cases with ⟨rfl, rfl⟩ | ⟨b, cap, cur, rfl, hB⟩
  · go_wp2_with fail
    go_loop [3, 9] (fun s u => s = .int .i64 0 ∧ u = .int .i64 0) (fun _ _ => 0)
    case atStart => exact ⟨rfl, rfl⟩
    case round =>
      obtain ⟨rfl, rfl⟩ := hrel
      go_wp2_with fail
      go_ret
      exact ⟨rfl, Below.refl _ _⟩
  · have HB := Lib.hid hB
    clear hB
    go_wp2_with fail
    go_loopw [3, 9] (fun s u wx => ∃ i : Nat, i ≤ l.length ∧ s = .int .i64 (sumL (l.take i)) ∧ u = .int .i64 i ∧ Below w.heap.size w wx) (fun _ u _ => l.length - (intOf u).toNat)
    case atStart => exact ⟨0, Nat.zero_le _, by simp [sumL], rfl, Below.refl _ _⟩
    case round =>
      obtain ⟨i, hi, rfl, rfl, hb⟩ := hrel
      have BX := Lib.hid hb
      by_cases h : i < l.length
      · obtain ⟨x, hx⟩ : ∃ x, l[i]? = some x := ⟨l[i], List.getElem?_eq_getElem h⟩
        have l2 : (i : Int) < (l.length : Int) := by omega
        obtain ⟨x0, x1⟩ := (HB.out.next (hb.block b HB.out.lt)).two hx
        have hs := sum_bd (gd.out.take i)
        have hx2 := gd.out.ok x (List.mem_of_getElem? hx)
        have HS := Lib.hid (sum_take hx)
        have hlen : (l.take i).length = i := by rw [List.length_take]; omega
        rw [hlen] at hs
        clear hb hx hlen
        generalize sumL (l.take i) = s at *
        go_wp2_with fail
        go_roundw
        case rel => exact ⟨i + 1, by omega, by rw [HS.out], rfl, below_after BX.out (below_alloc _ _)⟩
        case measure => simp [intOf]; omega
      · obtain rfl : i = l.length := by omega
        have HT := Lib.hid (List.take_length (l := l))
        rw [HT.out]
        clear hb
        go_wp2_with fail
        go_ret
        exact ⟨rfl, BX.out⟩

end Go.Proofs.Ytjlklkaaonfpdaa
