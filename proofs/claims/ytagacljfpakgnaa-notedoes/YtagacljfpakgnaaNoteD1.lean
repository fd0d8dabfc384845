/-
  What the document says of events: where a worker's stands that didn't end, and what another one in its place makes.
-/
import Derived.Test.YtagacljfpakgnaaNoteSp
namespace Go.Proofs.Ytagacljfpakgnaa
open Go.RowKit Go.Sort Go.Maps
attribute [local go_sem] Oper.semAt_some

theorem EvRow.put9 {w : World} {b n cap i : Nat} {l : List Ev} {x : Ev} (y : Ev) (h : EvRow w (.slice (some ⟨b, 0, none⟩) n cap) l) (hx : l[i]? = some x) : EvRow (((((((((w.setCell ⟨b, i * 9, none⟩ (.int .i64 y.w)).setCell ⟨b, i * 9 + 1, none⟩ (.int .i64 y.k)).setCell ⟨b, i * 9 + 2, none⟩ (.int .i64 y.n)).setCell ⟨b, i * 9 + 3, none⟩ (.int .i64 y.c)).setCell ⟨b, i * 9 + 4, none⟩ (.int .i64 y.a)).setCell ⟨b, i * 9 + 5, none⟩ (.int .i64 y.s)).setCell ⟨b, i * 9 + 6, none⟩ (.int .i64 y.b)).setCell ⟨b, i * 9 + 7, none⟩ (.int .i64 y.p)).setCell ⟨b, i * 9 + 8, none⟩ (.int .i64 y.e)) (.slice (some ⟨b, 0, none⟩) n cap) (l.set i y) ∧ Only [b] w (((((((((w.setCell ⟨b, i * 9, none⟩ (.int .i64 y.w)).setCell ⟨b, i * 9 + 1, none⟩ (.int .i64 y.k)).setCell ⟨b, i * 9 + 2, none⟩ (.int .i64 y.n)).setCell ⟨b, i * 9 + 3, none⟩ (.int .i64 y.c)).setCell ⟨b, i * 9 + 4, none⟩ (.int .i64 y.a)).setCell ⟨b, i * 9 + 5, none⟩ (.int .i64 y.s)).setCell ⟨b, i * 9 + 6, none⟩ (.int .i64 y.b)).setCell ⟨b, i * 9 + 7, none⟩ (.int .i64 y.p)).setCell ⟨b, i * 9 + 8, none⟩ (.int .i64 y.e)) := by
  have hl := (List.getElem?_eq_some_iff.1 hx).1
  have r1 : EvRow (w.setCell ⟨b, i * 9, none⟩ (.int .i64 y.w)) (.slice (some ⟨b, 0, none⟩) n cap) (l.set i (⟨y.w, x.k, x.n, x.c, x.a, x.s, x.b, x.p, x.e⟩ : Ev)) := ORow.set (j := 0) evEnc h hx (by omega) rfl
  have g1 : (l.set i (⟨y.w, x.k, x.n, x.c, x.a, x.s, x.b, x.p, x.e⟩ : Ev))[i]? = some ⟨y.w, x.k, x.n, x.c, x.a, x.s, x.b, x.p, x.e⟩ := by rw [List.getElem?_set, if_pos rfl, if_pos hl]
  have r2 : EvRow ((w.setCell ⟨b, i * 9, none⟩ (.int .i64 y.w)).setCell ⟨b, i * 9 + 1, none⟩ (.int .i64 y.k)) (.slice (some ⟨b, 0, none⟩) n cap) ((l.set i (⟨y.w, x.k, x.n, x.c, x.a, x.s, x.b, x.p, x.e⟩ : Ev)).set i (⟨y.w, y.k, x.n, x.c, x.a, x.s, x.b, x.p, x.e⟩ : Ev)) := ORow.set (j := 1) evEnc r1 g1 (by omega) rfl
  rw [List.set_set] at r2
  have g2 : (l.set i (⟨y.w, y.k, x.n, x.c, x.a, x.s, x.b, x.p, x.e⟩ : Ev))[i]? = some ⟨y.w, y.k, x.n, x.c, x.a, x.s, x.b, x.p, x.e⟩ := by rw [List.getElem?_set, if_pos rfl, if_pos hl]
  have r3 : EvRow (((w.setCell ⟨b, i * 9, none⟩ (.int .i64 y.w)).setCell ⟨b, i * 9 + 1, none⟩ (.int .i64 y.k)).setCell ⟨b, i * 9 + 2, none⟩ (.int .i64 y.n)) (.slice (some ⟨b, 0, none⟩) n cap) ((l.set i (⟨y.w, y.k, x.n, x.c, x.a, x.s, x.b, x.p, x.e⟩ : Ev)).set i (⟨y.w, y.k, y.n, x.c, x.a, x.s, x.b, x.p, x.e⟩ : Ev)) := ORow.set (j := 2) evEnc r2 g2 (by omega) rfl
  rw [List.set_set] at r3
  have g3 : (l.set i (⟨y.w, y.k, y.n, x.c, x.a, x.s, x.b, x.p, x.e⟩ : Ev))[i]? = some ⟨y.w, y.k, y.n, x.c, x.a, x.s, x.b, x.p, x.e⟩ := by rw [List.getElem?_set, if_pos rfl, if_pos hl]
  have r4 : EvRow ((((w.setCell ⟨b, i * 9, none⟩ (.int .i64 y.w)).setCell ⟨b, i * 9 + 1, none⟩ (.int .i64 y.k)).setCell ⟨b, i * 9 + 2, none⟩ (.int .i64 y.n)).setCell ⟨b, i * 9 + 3, none⟩ (.int .i64 y.c)) (.slice (some ⟨b, 0, none⟩) n cap) ((l.set i (⟨y.w, y.k, y.n, x.c, x.a, x.s, x.b, x.p, x.e⟩ : Ev)).set i (⟨y.w, y.k, y.n, y.c, x.a, x.s, x.b, x.p, x.e⟩ : Ev)) := ORow.set (j := 3) evEnc r3 g3 (by omega) rfl
  rw [List.set_set] at r4
  have g4 : (l.set i (⟨y.w, y.k, y.n, y.c, x.a, x.s, x.b, x.p, x.e⟩ : Ev))[i]? = some ⟨y.w, y.k, y.n, y.c, x.a, x.s, x.b, x.p, x.e⟩ := by rw [List.getElem?_set, if_pos rfl, if_pos hl]
  have r5 : EvRow (((((w.setCell ⟨b, i * 9, none⟩ (.int .i64 y.w)).setCell ⟨b, i * 9 + 1, none⟩ (.int .i64 y.k)).setCell ⟨b, i * 9 + 2, none⟩ (.int .i64 y.n)).setCell ⟨b, i * 9 + 3, none⟩ (.int .i64 y.c)).setCell ⟨b, i * 9 + 4, none⟩ (.int .i64 y.a)) (.slice (some ⟨b, 0, none⟩) n cap) ((l.set i (⟨y.w, y.k, y.n, y.c, x.a, x.s, x.b, x.p, x.e⟩ : Ev)).set i (⟨y.w, y.k, y.n, y.c, y.a, x.s, x.b, x.p, x.e⟩ : Ev)) := ORow.set (j := 4) evEnc r4 g4 (by omega) rfl
  rw [List.set_set] at r5
  have g5 : (l.set i (⟨y.w, y.k, y.n, y.c, y.a, x.s, x.b, x.p, x.e⟩ : Ev))[i]? = some ⟨y.w, y.k, y.n, y.c, y.a, x.s, x.b, x.p, x.e⟩ := by rw [List.getElem?_set, if_pos rfl, if_pos hl]
  have r6 : EvRow ((((((w.setCell ⟨b, i * 9, none⟩ (.int .i64 y.w)).setCell ⟨b, i * 9 + 1, none⟩ (.int .i64 y.k)).setCell ⟨b, i * 9 + 2, none⟩ (.int .i64 y.n)).setCell ⟨b, i * 9 + 3, none⟩ (.int .i64 y.c)).setCell ⟨b, i * 9 + 4, none⟩ (.int .i64 y.a)).setCell ⟨b, i * 9 + 5, none⟩ (.int .i64 y.s)) (.slice (some ⟨b, 0, none⟩) n cap) ((l.set i (⟨y.w, y.k, y.n, y.c, y.a, x.s, x.b, x.p, x.e⟩ : Ev)).set i (⟨y.w, y.k, y.n, y.c, y.a, y.s, x.b, x.p, x.e⟩ : Ev)) := ORow.set (j := 5) evEnc r5 g5 (by omega) rfl
  rw [List.set_set] at r6
  have g6 : (l.set i (⟨y.w, y.k, y.n, y.c, y.a, y.s, x.b, x.p, x.e⟩ : Ev))[i]? = some ⟨y.w, y.k, y.n, y.c, y.a, y.s, x.b, x.p, x.e⟩ := by rw [List.getElem?_set, if_pos rfl, if_pos hl]
  have r7 : EvRow (((((((w.setCell ⟨b, i * 9, none⟩ (.int .i64 y.w)).setCell ⟨b, i * 9 + 1, none⟩ (.int .i64 y.k)).setCell ⟨b, i * 9 + 2, none⟩ (.int .i64 y.n)).setCell ⟨b, i * 9 + 3, none⟩ (.int .i64 y.c)).setCell ⟨b, i * 9 + 4, none⟩ (.int .i64 y.a)).setCell ⟨b, i * 9 + 5, none⟩ (.int .i64 y.s)).setCell ⟨b, i * 9 + 6, none⟩ (.int .i64 y.b)) (.slice (some ⟨b, 0, none⟩) n cap) ((l.set i (⟨y.w, y.k, y.n, y.c, y.a, y.s, x.b, x.p, x.e⟩ : Ev)).set i (⟨y.w, y.k, y.n, y.c, y.a, y.s, y.b, x.p, x.e⟩ : Ev)) := ORow.set (j := 6) evEnc r6 g6 (by omega) rfl
  rw [List.set_set] at r7
  have g7 : (l.set i (⟨y.w, y.k, y.n, y.c, y.a, y.s, y.b, x.p, x.e⟩ : Ev))[i]? = some ⟨y.w, y.k, y.n, y.c, y.a, y.s, y.b, x.p, x.e⟩ := by rw [List.getElem?_set, if_pos rfl, if_pos hl]
  have r8 : EvRow ((((((((w.setCell ⟨b, i * 9, none⟩ (.int .i64 y.w)).setCell ⟨b, i * 9 + 1, none⟩ (.int .i64 y.k)).setCell ⟨b, i * 9 + 2, none⟩ (.int .i64 y.n)).setCell ⟨b, i * 9 + 3, none⟩ (.int .i64 y.c)).setCell ⟨b, i * 9 + 4, none⟩ (.int .i64 y.a)).setCell ⟨b, i * 9 + 5, none⟩ (.int .i64 y.s)).setCell ⟨b, i * 9 + 6, none⟩ (.int .i64 y.b)).setCell ⟨b, i * 9 + 7, none⟩ (.int .i64 y.p)) (.slice (some ⟨b, 0, none⟩) n cap) ((l.set i (⟨y.w, y.k, y.n, y.c, y.a, y.s, y.b, x.p, x.e⟩ : Ev)).set i (⟨y.w, y.k, y.n, y.c, y.a, y.s, y.b, y.p, x.e⟩ : Ev)) := ORow.set (j := 7) evEnc r7 g7 (by omega) rfl
  rw [List.set_set] at r8
  have g8 : (l.set i (⟨y.w, y.k, y.n, y.c, y.a, y.s, y.b, y.p, x.e⟩ : Ev))[i]? = some ⟨y.w, y.k, y.n, y.c, y.a, y.s, y.b, y.p, x.e⟩ := by rw [List.getElem?_set, if_pos rfl, if_pos hl]
  have r9 : EvRow (((((((((w.setCell ⟨b, i * 9, none⟩ (.int .i64 y.w)).setCell ⟨b, i * 9 + 1, none⟩ (.int .i64 y.k)).setCell ⟨b, i * 9 + 2, none⟩ (.int .i64 y.n)).setCell ⟨b, i * 9 + 3, none⟩ (.int .i64 y.c)).setCell ⟨b, i * 9 + 4, none⟩ (.int .i64 y.a)).setCell ⟨b, i * 9 + 5, none⟩ (.int .i64 y.s)).setCell ⟨b, i * 9 + 6, none⟩ (.int .i64 y.b)).setCell ⟨b, i * 9 + 7, none⟩ (.int .i64 y.p)).setCell ⟨b, i * 9 + 8, none⟩ (.int .i64 y.e)) (.slice (some ⟨b, 0, none⟩) n cap) ((l.set i (⟨y.w, y.k, y.n, y.c, y.a, y.s, y.b, y.p, x.e⟩ : Ev)).set i (⟨y.w, y.k, y.n, y.c, y.a, y.s, y.b, y.p, y.e⟩ : Ev)) := ORow.set (j := 8) evEnc r8 g8 (by omega) rfl
  rw [List.set_set] at r9
  refine ⟨r9, ?_⟩
  exact ((((((((Only.of_set (by simp) _).trans (Only.of_set (by simp) _)).trans (Only.of_set (by simp) _)).trans (Only.of_set (by simp) _)).trans (Only.of_set (by simp) _)).trans (Only.of_set (by simp) _)).trans (Only.of_set (by simp) _)).trans (Only.of_set (by simp) _)).trans (Only.of_set (by simp) _)
def rfI (o : Option Nat) : Int := match o with
  | some j => (j : Int)
  | none => -1
set_option maxRecDepth 20000 in
set_option maxHeartbeats 4000000 in
theorem rfind_any (v : Value) (l : List Ev) (i : Int) (w : World) (h : Hid (EvRow w v l)) (few : l.length ≤ 1000000) :
    Calls Try.prog 14 #[v, .int .i64 i] w fun e w' => e = .returned (.int .i64 (rfI (findI l i))) ∧ w = w' := by
  obtain ⟨va, vc, rfl⟩ := ORow.form h.out
  have w0 : IntKind.i64.wrap ((l.length : Int) - 1) = (l.length : Int) - 1 := by rw [IntKind.wrap_i64]; omega
  go_enter Try.func14, Try.ntmps14
  go_wp2_with fail
  go_loop [5] (fun u5 => ∃ k : Nat, k ≤ l.length ∧ u5 = .int .i64 ((k : Int) - 1) ∧ Hid (findI l i = findTo l i k)) (fun u5 => (intOf u5 + 1).toNat)
  case atStart => exact ⟨l.length, by omega, by first | rfl | rw [w0], Lib.hid rfl⟩
  case round =>
    obtain ⟨k, hk, rfl, HF⟩ := hrel
    cases k with
    | zero =>
      go_wp2_with fail
      go_ret
      exact ⟨by rw [HF.out]; rfl, rfl⟩
    | succ k =>
      have ek : (((k + 1 : Nat) : Int) - 1) = (k : Int) := by omega
      rw [ek]
      have gk : decide (0 ≤ (k : Int)) = true := by simp
      have l3 : (k : Int) < (l.length : Int) := by omega
      have wk : IntKind.i64.wrap ((k : Int) - 1) = (k : Int) - 1 := by rw [IntKind.wrap_i64]; omega
      obtain ⟨x, hx⟩ : ∃ x, l[k]? = some x := ⟨_, List.getElem?_eq_getElem (by omega)⟩
      obtain ⟨lb, cp, hv2, y0, y1, y2, y3, y4, y5, y6, y7, y8, _⟩ := EvRow.cells h.out hx
      simp only [Value.slice.injEq, true_and] at hv2
      obtain ⟨rfl, rfl⟩ := hv2
      have FT : Hid (findTo l i (k + 1) = if x.w = i then (if x.e = 0 then some k else none) else findTo l i k) := Lib.hid (by
        conv => lhs; unfold findTo
        rw [hx])
      clear hx
      by_cases hw : x.w = i
      · have gw : (x.w == i) = true := by simpa using hw
        have HW := Lib.hid hw
        clear hw
        by_cases he : x.e = 0
        · have ge : (x.e == 0) = true := by simpa using he
          have HE := Lib.hid he
          clear he
          go_wp2_with fail
          go_ret
          exact ⟨by rw [HF.out, FT.out, if_pos HW.out, if_pos HE.out]; rfl, rfl⟩
        · have ge : (x.e == 0) = false := by simpa using he
          go_wp2_with fail
          go_ret
          exact ⟨by rw [HF.out, FT.out, if_pos HW.out, if_neg he]; rfl, rfl⟩
      · have gw : (x.w == i) = false := by simpa using hw
        have HN : Hid (findI l i = findTo l i k) := Lib.hid (by rw [HF.out, FT.out, if_neg hw])
        go_wp2_with fail
        go_round
        case rel => exact ⟨k, by omega, by first | rfl | rw [wk], HN⟩
        case measure => simp [intOf]
set_option maxRecDepth 20000 in
set_option maxHeartbeats 4000000 in
theorem rwith_any (v : Value) (l : List Ev) (i : Nat) (y : Ev) (w : World) (h : Hid (EvRow w v l)) (hi : i < l.length) (few : l.length ≤ 1000000) :
    Calls Try.prog 18 #[v, .int .i64 (i : Nat), .agg #[.int .i64 y.w, .int .i64 y.k, .int .i64 y.n, .int .i64 y.c, .int .i64 y.a, .int .i64 y.s, .int .i64 y.b, .int .i64 y.p, .int .i64 y.e]] w fun e w' => ∃ v', e = .returned v' ∧ EvRow w' v' (l.set i y) ∧ Below w.heap.size w w' ∧ ∀ b, v'.ownBlock = some b → w.heap.size ≤ b := by
  obtain ⟨va, vc, rfl⟩ := ORow.form h.out
  have hb1 := box1 w (.cells #[.int .i64 y.w, .int .i64 y.k, .int .i64 y.n, .int .i64 y.c, .int .i64 y.a, .int .i64 y.s, .int .i64 y.b, .int .i64 y.p, .int .i64 y.e] 43)
  have YB : Hid ((w.alloc (.cells #[.int .i64 y.w, .int .i64 y.k, .int .i64 y.n, .int .i64 y.c, .int .i64 y.a, .int .i64 y.s, .int .i64 y.b, .int .i64 y.p, .int .i64 y.e] 43)).heap[w.heap.size]? = some (.cells #[.int .i64 y.w, .int .i64 y.k, .int .i64 y.n, .int .i64 y.c, .int .i64 y.a, .int .i64 y.s, .int .i64 y.b, .int .i64 y.p, .int .i64 y.e] 43 (0, 0))) := heap_new w _
  have R1 := ORow.next h.out hb1
  go_enter Try.func18, Try.ntmps18
  go_upto_region 1 with fail
  generalize w.alloc (.cells #[.int .i64 y.w, .int .i64 y.k, .int .i64 y.n, .int .i64 y.c, .int .i64 y.a, .int .i64 y.s, .int .i64 y.b, .int .i64 y.p, .int .i64 y.e] 43) = w1 at *
  have hb2 := box1 w1 (.cells #[] 43)
  have EM := EvRow.empty w1
  obtain ⟨v', wa, hrun, r1, r2, r3⟩ := EvRow.cat EM (ORow.next R1 hb2) (by omega) 24
  have o := Only.of_grown (l := (Value.slice (some ⟨w1.heap.size, 0, none⟩) 0 0).ownBlock.toList) r2 (fun b hb => by simp [hb])
  have B1 := hb1.trans (hb2.mono hb1.size)
  have B2 : Below w.heap.size w wa := B1.trans (o.below (fun b hb => by simp [Value.ownBlock] at hb; subst hb; exact hb1.size) B1.size)
  have O2 : Hid (∀ b, v'.ownBlock = some b → w1.heap.size ≤ b) := Lib.hid (fun b e => by
    rcases r3 with q | q
    · rw [q] at e; simp [Value.ownBlock] at e; omega
    · rw [q] at e; simp at e; have := hb2.size; omega)
  have YL : w.heap.size < w1.heap.size := heap_lt YB.out
  have YA := o.at ((hb2.block _ (heap_lt YB.out)).trans YB.out) (by simp [Value.ownBlock]; omega)
  obtain ⟨x, hx⟩ : ∃ x, l[i]? = some x := ⟨_, List.getElem?_eq_getElem hi⟩
  obtain ⟨lb, cp, rfl, z0, z1, z2, z3, z4, z5, z6, z7, z8, zf⟩ := EvRow.cells r1 hx
  have P9 := EvRow.put9 y r1 hx
  have PR := Lib.hid P9.1
  have PO := Lib.hid P9.2
  have BF := Lib.hid (B2.trans (PO.out.below (fun b hb => by simp at hb; rw [hb]; exact Nat.le_trans (Nat.le_of_lt YL) (O2.out _ rfl)) B2.size))
  have f0 := zf (i * 9)
  have f1 := zf (i * 9 + 1)
  have f2 := zf (i * 9 + 2)
  have f3 := zf (i * 9 + 3)
  have f4 := zf (i * 9 + 4)
  have f5 := zf (i * 9 + 5)
  have f6 := zf (i * 9 + 6)
  have f7 := zf (i * 9 + 7)
  have f8 := zf (i * 9 + 8)
  have a0 : wa.cell? ⟨w.heap.size, 0, none⟩ = some (.int .i64 y.w) := by rw [cell_of YA]; rfl
  have a1 : wa.cell? ⟨w.heap.size, 1, none⟩ = some (.int .i64 y.k) := by rw [cell_of YA]; rfl
  have a2 : wa.cell? ⟨w.heap.size, 2, none⟩ = some (.int .i64 y.n) := by rw [cell_of YA]; rfl
  have a3 : wa.cell? ⟨w.heap.size, 3, none⟩ = some (.int .i64 y.c) := by rw [cell_of YA]; rfl
  have a4 : wa.cell? ⟨w.heap.size, 4, none⟩ = some (.int .i64 y.a) := by rw [cell_of YA]; rfl
  have a5 : wa.cell? ⟨w.heap.size, 5, none⟩ = some (.int .i64 y.s) := by rw [cell_of YA]; rfl
  have a6 : wa.cell? ⟨w.heap.size, 6, none⟩ = some (.int .i64 y.b) := by rw [cell_of YA]; rfl
  have a7 : wa.cell? ⟨w.heap.size, 7, none⟩ = some (.int .i64 y.p) := by rw [cell_of YA]; rfl
  have a8 : wa.cell? ⟨w.heap.size, 8, none⟩ = some (.int .i64 y.e) := by rw [cell_of YA]; rfl
  have l3 : (i : Int) < (l.length : Int) := by omega
  have HR := Lib.hid hrun
  have OF : Hid (∀ b, (Value.slice (some ⟨lb, 0, none⟩) l.length cp).ownBlock = some b → w.heap.size ≤ b) := Lib.hid (fun b e => by have := O2.out b e; omega)
  clear zf P9 hrun r1 r2 r3 o B1 B2 YA YB EM R1 hb1 hb2 hx O2 YL
  go_wp2_with (at_builtin; refine wpList_append_by rfl _ _ 24 24 rfl (.slice (some ⟨w1.heap.size, 0, none⟩) 0 0) (.slice va l.length vc) (by rfl) (by rfl) HR.out ?_)
  go_ret
  exact ⟨_, rfl, PR.out, BF.out, OF.out⟩
set_option maxRecDepth 20000 in
set_option maxHeartbeats 4000000 in
theorem rstep_any (v : Value) (l : List Ev) (i : Int) (w : World) (h : Hid (EvRow w v l)) (few : l.length ≤ 1000000) :
    Calls Try.prog 7 #[v, .int .i64 i] w fun e w' => ∃ v', e = .returned (.tuple #[v', .bool ((findI l i).isSome)]) ∧ EvRow w' v' (stL l i) ∧ Below w.heap.size w w' ∧ (v' = v ∨ ∀ b, v'.ownBlock = some b → w.heap.size ≤ b) := by
  obtain ⟨va, vc, rfl⟩ := ORow.form h.out
  have R1 := h
  have B1 := Lib.hid (Below.refl w.heap.size w)
  unfold stL
  cases hf : findI l i with
  | none =>
    have HF := Lib.hid hf
    clear hf
    go_enter Try.func7, Try.ntmps7
    go_wp2_with fail
    have FI := rfind_any _ l i w R1 few
    rw [HF.out] at FI
    simp only [rfI] at FI
    refine FI.mono ?_
    rintro e w2 ⟨rfl, rfl⟩
    clear FI
    go_wp2_with fail
    exact bodyPost_ret (v := .tuple #[.slice va l.length vc, .bool false]) (by simp [results, Try.results7, go_sem]) rfl ⟨_, rfl, R1.out, B1.out, .inl rfl⟩
  | some j =>
    obtain ⟨x, hx, -, -, hj, -⟩ := findI_some hf
    simp only [hx]
    have HF := Lib.hid hf
    clear hf
    have l3 : (j : Int) < (l.length : Int) := by omega
    have l4 : ¬ (j : Int) < 0 := by omega
    go_enter Try.func7, Try.ntmps7
    go_wp2_with fail
    have FI := rfind_any _ l i w R1 few
    rw [HF.out] at FI
    simp only [rfI] at FI
    refine FI.mono ?_
    rintro e w2 ⟨rfl, rfl⟩
    clear FI
    obtain ⟨lb, cp, hv2, y0, y1, y2, y3, y4, y5, y6, y7, y8, _⟩ := EvRow.cells R1.out hx
    simp only [Value.slice.injEq, true_and] at hv2
    obtain ⟨rfl, rfl⟩ := hv2
    clear hx
    have hb2 := box1 w (.cells #[.int .i64 x.w, .int .i64 x.k, .int .i64 x.n, .int .i64 x.c, .int .i64 x.a, .int .i64 (wrap64 (x.s + 1)), .int .i64 x.b, .int .i64 x.p, .int .i64 x.e] 43)
    have WI := Lib.hid (rwith_any (.slice (some ⟨lb, 0, none⟩) l.length vc) l j { x with s := wrap64 (x.s + 1) } (w.alloc (.cells #[.int .i64 x.w, .int .i64 x.k, .int .i64 x.n, .int .i64 x.c, .int .i64 x.a, .int .i64 (wrap64 (x.s + 1)), .int .i64 x.b, .int .i64 x.p, .int .i64 x.e] 43)) (Lib.hid (ORow.next R1.out hb2)) hj few)
    have B2 := Lib.hid (B1.out.trans (hb2.mono B1.out.size))
    clear hb2
    go_wp2_with fail
    refine WI.out.mono ?_
    rintro e w3 ⟨v', rfl, r1, r2, r3⟩
    have R3 := Lib.hid r1
    have B3 := Lib.hid (B2.out.trans (r2.mono B2.out.size))
    have O3 : Hid (∀ b, v'.ownBlock = some b → w.heap.size ≤ b) := Lib.hid (fun b e => by have := r3 b e; have := B2.out.size; omega)
    clear r1 r2 r3 WI
    go_wp2_with fail
    exact bodyPost_ret (v := .tuple #[v', .bool true]) (by simp [results, Try.results7, go_sem]) rfl ⟨_, rfl, R3.out, B3.out, .inr O3.out⟩
set_option maxRecDepth 20000 in
set_option maxHeartbeats 4000000 in
theorem rcount_any (v : Value) (l : List Ev) (i c a t : Int) (w : World) (h : Hid (EvRow w v l)) (few : l.length ≤ 1000000) (pp : ∀ x ∈ l, 0 ≤ x.p) :
    Calls Try.prog 9 #[v, .int .i64 i, .agg #[.int .i64 c, .int .i64 a], .int .i64 t] w fun e w' => ∃ v', e = .returned (.tuple #[v', .bool (cnB l i)]) ∧ EvRow w' v' (cnL l i c a t) ∧ Below w.heap.size w w' ∧ (v' = v ∨ ∀ b, v'.ownBlock = some b → w.heap.size ≤ b) := by
  obtain ⟨va, vc, rfl⟩ := ORow.form h.out
  have hb1 := box1 w (.cells #[.int .i64 c, .int .i64 a] 32)
  have XB : Hid ((w.alloc (.cells #[.int .i64 c, .int .i64 a] 32)).heap[w.heap.size]? = some (.cells #[.int .i64 c, .int .i64 a] 32 (0, 0))) := heap_new w _
  have R1 := Lib.hid (ORow.next h.out hb1)
  have B1 := Lib.hid hb1
  clear hb1
  unfold cnL cnB
  cases hf : findI l i with
  | none =>
    have HF := Lib.hid hf
    clear hf
    go_enter Try.func9, Try.ntmps9
    go_wp2_with fail
    generalize w.alloc (.cells #[.int .i64 c, .int .i64 a] 32) = w1 at *
    have x0 : w1.cell? ⟨w.heap.size, 0, none⟩ = some (.int .i64 c) := by rw [cell_of XB.out]; rfl
    have x1 : w1.cell? ⟨w.heap.size, 1, none⟩ = some (.int .i64 a) := by rw [cell_of XB.out]; rfl
    have FI := rfind_any _ l i w1 R1 few
    rw [HF.out] at FI
    simp only [rfI] at FI
    refine FI.mono ?_
    rintro e w2 ⟨rfl, rfl⟩
    clear FI
    go_wp2_with fail
    exact bodyPost_ret (v := .tuple #[.slice va l.length vc, .bool false]) (by simp [results, Try.results9, go_sem]) rfl ⟨_, rfl, R1.out, B1.out, .inl rfl⟩
  | some j =>
    obtain ⟨x, hx, -, -, hj, -⟩ := findI_some hf
    simp only [hx]
    have HF := Lib.hid hf
    clear hf
    have l3 : (j : Int) < (l.length : Int) := by omega
    have l4 : ¬ (j : Int) < 0 := by omega
    have HP := Lib.hid (pp x (List.mem_of_getElem? hx))
    by_cases hp : x.p = 0
    · have gp : decide (0 < x.p) = false := by simp; omega
      rw [if_pos hp, decide_eq_true hp]
      clear hp
      go_enter Try.func9, Try.ntmps9
      go_wp2_with fail
      generalize w.alloc (.cells #[.int .i64 c, .int .i64 a] 32) = w1 at *
      have x0 : w1.cell? ⟨w.heap.size, 0, none⟩ = some (.int .i64 c) := by rw [cell_of XB.out]; rfl
      have x1 : w1.cell? ⟨w.heap.size, 1, none⟩ = some (.int .i64 a) := by rw [cell_of XB.out]; rfl
      have FI := rfind_any _ l i w1 R1 few
      rw [HF.out] at FI
      simp only [rfI] at FI
      refine FI.mono ?_
      rintro e w2 ⟨rfl, rfl⟩
      clear FI
      obtain ⟨lb, cp, hv2, y0, y1, y2, y3, y4, y5, y6, y7, y8, _⟩ := EvRow.cells R1.out hx
      simp only [Value.slice.injEq, true_and] at hv2
      obtain ⟨rfl, rfl⟩ := hv2
      have XBo := ((box1 w1 (.cells #[.int .i64 x.w, .int .i64 x.k, .int .i64 x.n, .int .i64 x.c, .int .i64 x.a, .int .i64 x.s, .int .i64 x.b, .int .i64 x.p, .int .i64 x.e] 43)).block _ (heap_lt XB.out)).trans XB.out
      have u0 : (w1.alloc (.cells #[.int .i64 x.w, .int .i64 x.k, .int .i64 x.n, .int .i64 x.c, .int .i64 x.a, .int .i64 x.s, .int .i64 x.b, .int .i64 x.p, .int .i64 x.e] 43)).cell? ⟨w.heap.size, 0, none⟩ = some (.int .i64 c) := by rw [cell_of XBo]; rfl
      have u1 : (w1.alloc (.cells #[.int .i64 x.w, .int .i64 x.k, .int .i64 x.n, .int .i64 x.c, .int .i64 x.a, .int .i64 x.s, .int .i64 x.b, .int .i64 x.p, .int .i64 x.e] 43)).cell? ⟨w.heap.size, 1, none⟩ = some (.int .i64 a) := by rw [cell_of XBo]; rfl
      clear XBo
      clear hx
      have hb2 := box1 w1 (.cells #[.int .i64 x.w, .int .i64 x.k, .int .i64 x.n, .int .i64 c, .int .i64 a, .int .i64 x.s, .int .i64 x.b, .int .i64 t, .int .i64 x.e] 43)
      have WI := Lib.hid (rwith_any (.slice (some ⟨lb, 0, none⟩) l.length vc) l j { x with c := c, a := a, p := t } (w1.alloc (.cells #[.int .i64 x.w, .int .i64 x.k, .int .i64 x.n, .int .i64 c, .int .i64 a, .int .i64 x.s, .int .i64 x.b, .int .i64 t, .int .i64 x.e] 43)) (Lib.hid (ORow.next R1.out hb2)) hj few)
      have B2 := Lib.hid (B1.out.trans (hb2.mono B1.out.size))
      clear hb2
      go_wp2_with fail
      refine WI.out.mono ?_
      rintro e w3 ⟨v', rfl, r1, r2, r3⟩
      have R3 := Lib.hid r1
      have B3 := Lib.hid (B2.out.trans (r2.mono B2.out.size))
      have O3 : Hid (∀ b, v'.ownBlock = some b → w.heap.size ≤ b) := Lib.hid (fun b e => by have := r3 b e; have := B2.out.size; omega)
      clear r1 r2 r3 WI
      go_wp2_with fail
      exact bodyPost_ret (v := .tuple #[v', .bool true]) (by simp [results, Try.results9, go_sem]) rfl ⟨_, rfl, R3.out, B3.out, .inr O3.out⟩
    · have gp : decide (0 < x.p) = true := by simp; have := HP.out; omega
      rw [if_neg hp, decide_eq_false hp]
      go_enter Try.func9, Try.ntmps9
      go_wp2_with fail
      generalize w.alloc (.cells #[.int .i64 c, .int .i64 a] 32) = w1 at *
      have x0 : w1.cell? ⟨w.heap.size, 0, none⟩ = some (.int .i64 c) := by rw [cell_of XB.out]; rfl
      have x1 : w1.cell? ⟨w.heap.size, 1, none⟩ = some (.int .i64 a) := by rw [cell_of XB.out]; rfl
      have FI := rfind_any _ l i w1 R1 few
      rw [HF.out] at FI
      simp only [rfI] at FI
      refine FI.mono ?_
      rintro e w2 ⟨rfl, rfl⟩
      clear FI
      obtain ⟨lb, cp, hv2, y0, y1, y2, y3, y4, y5, y6, y7, y8, _⟩ := EvRow.cells R1.out hx
      simp only [Value.slice.injEq, true_and] at hv2
      obtain ⟨rfl, rfl⟩ := hv2
      clear hx
      go_wp2_with fail
      exact bodyPost_ret (v := .tuple #[.slice (some ⟨lb, 0, none⟩) l.length vc, .bool false]) (by simp [results, Try.results9, go_sem]) rfl ⟨_, rfl, R1.out, B1.out, .inl rfl⟩
set_option maxRecDepth 20000 in
set_option maxHeartbeats 4000000 in
theorem rend_any (v : Value) (l : List Ev) (i c a t : Int) (w : World) (h : Hid (EvRow w v l)) (few : l.length ≤ 1000000) :
    Calls Try.prog 11 #[v, .int .i64 i, .agg #[.int .i64 c, .int .i64 a], .int .i64 t] w fun e w' => ∃ v', e = .returned (.tuple #[v', .bool ((findI l i).isSome)]) ∧ EvRow w' v' (enL l i c a t) ∧ Below w.heap.size w w' ∧ (v' = v ∨ ∀ b, v'.ownBlock = some b → w.heap.size ≤ b) := by
  obtain ⟨va, vc, rfl⟩ := ORow.form h.out
  have hb1 := box1 w (.cells #[.int .i64 c, .int .i64 a] 32)
  have XB : Hid ((w.alloc (.cells #[.int .i64 c, .int .i64 a] 32)).heap[w.heap.size]? = some (.cells #[.int .i64 c, .int .i64 a] 32 (0, 0))) := heap_new w _
  have R1 := Lib.hid (ORow.next h.out hb1)
  have B1 := Lib.hid hb1
  clear hb1
  unfold enL
  cases hf : findI l i with
  | none =>
    have HF := Lib.hid hf
    clear hf
    go_enter Try.func11, Try.ntmps11
    go_wp2_with fail
    generalize w.alloc (.cells #[.int .i64 c, .int .i64 a] 32) = w1 at *
    have x0 : w1.cell? ⟨w.heap.size, 0, none⟩ = some (.int .i64 c) := by rw [cell_of XB.out]; rfl
    have x1 : w1.cell? ⟨w.heap.size, 1, none⟩ = some (.int .i64 a) := by rw [cell_of XB.out]; rfl
    have FI := rfind_any _ l i w1 R1 few
    rw [HF.out] at FI
    simp only [rfI] at FI
    refine FI.mono ?_
    rintro e w2 ⟨rfl, rfl⟩
    clear FI
    go_wp2_with fail
    exact bodyPost_ret (v := .tuple #[.slice va l.length vc, .bool false]) (by simp [results, Try.results11, go_sem]) rfl ⟨_, rfl, R1.out, B1.out, .inl rfl⟩
  | some j =>
    obtain ⟨x, hx, -, -, hj, -⟩ := findI_some hf
    simp only [hx]
    have HF := Lib.hid hf
    clear hf
    have l3 : (j : Int) < (l.length : Int) := by omega
    have l4 : ¬ (j : Int) < 0 := by omega
    go_enter Try.func11, Try.ntmps11
    go_wp2_with fail
    generalize w.alloc (.cells #[.int .i64 c, .int .i64 a] 32) = w1 at *
    have x0 : w1.cell? ⟨w.heap.size, 0, none⟩ = some (.int .i64 c) := by rw [cell_of XB.out]; rfl
    have x1 : w1.cell? ⟨w.heap.size, 1, none⟩ = some (.int .i64 a) := by rw [cell_of XB.out]; rfl
    have FI := rfind_any _ l i w1 R1 few
    rw [HF.out] at FI
    simp only [rfI] at FI
    refine FI.mono ?_
    rintro e w2 ⟨rfl, rfl⟩
    clear FI
    obtain ⟨lb, cp, hv2, y0, y1, y2, y3, y4, y5, y6, y7, y8, _⟩ := EvRow.cells R1.out hx
    simp only [Value.slice.injEq, true_and] at hv2
    obtain ⟨rfl, rfl⟩ := hv2
    have XBo := ((box1 w1 (.cells #[.int .i64 x.w, .int .i64 x.k, .int .i64 x.n, .int .i64 x.c, .int .i64 x.a, .int .i64 x.s, .int .i64 x.b, .int .i64 x.p, .int .i64 x.e] 43)).block _ (heap_lt XB.out)).trans XB.out
    have u0 : (w1.alloc (.cells #[.int .i64 x.w, .int .i64 x.k, .int .i64 x.n, .int .i64 x.c, .int .i64 x.a, .int .i64 x.s, .int .i64 x.b, .int .i64 x.p, .int .i64 x.e] 43)).cell? ⟨w.heap.size, 0, none⟩ = some (.int .i64 c) := by rw [cell_of XBo]; rfl
    have u1 : (w1.alloc (.cells #[.int .i64 x.w, .int .i64 x.k, .int .i64 x.n, .int .i64 x.c, .int .i64 x.a, .int .i64 x.s, .int .i64 x.b, .int .i64 x.p, .int .i64 x.e] 43)).cell? ⟨w.heap.size, 1, none⟩ = some (.int .i64 a) := by rw [cell_of XBo]; rfl
    clear XBo
    clear hx
    have hb2 := box1 w1 (.cells #[.int .i64 x.w, .int .i64 x.k, .int .i64 x.n, .int .i64 c, .int .i64 a, .int .i64 x.s, .int .i64 x.b, .int .i64 x.p, .int .i64 t] 43)
    have WI := Lib.hid (rwith_any (.slice (some ⟨lb, 0, none⟩) l.length vc) l j { x with c := c, a := a, e := t } (w1.alloc (.cells #[.int .i64 x.w, .int .i64 x.k, .int .i64 x.n, .int .i64 c, .int .i64 a, .int .i64 x.s, .int .i64 x.b, .int .i64 x.p, .int .i64 t] 43)) (Lib.hid (ORow.next R1.out hb2)) hj few)
    have B2 := Lib.hid (B1.out.trans (hb2.mono B1.out.size))
    clear hb2
    go_wp2_with fail
    refine WI.out.mono ?_
    rintro e w3 ⟨v', rfl, r1, r2, r3⟩
    have R3 := Lib.hid r1
    have B3 := Lib.hid (B2.out.trans (r2.mono B2.out.size))
    have O3 : Hid (∀ b, v'.ownBlock = some b → w.heap.size ≤ b) := Lib.hid (fun b e => by have := r3 b e; have := B2.out.size; omega)
    clear r1 r2 r3 WI
    go_wp2_with fail
    exact bodyPost_ret (v := .tuple #[v', .bool true]) (by simp [results, Try.results11, go_sem]) rfl ⟨_, rfl, R3.out, B3.out, .inr O3.out⟩
end Go.Proofs.Ytagacljfpakgnaa
