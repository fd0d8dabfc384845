/-
  Contracts of the document's own answers of layer 3: In, New, Do.
-/
import Derived.Test.YtnjgajkcoahefaaWMemOwn
import Derived.Deep.RegionHeld3
import Derived.Deep.AppendLies
import Derived.Deep.RegionLaw
import Derived.Deep.DeepCutAuto
namespace Go.Proofs.Ytnjgajkcoahefaa
open Go.RowKit

/-- A row of words that someone made, whatever room lies behind it. -/
def WRow (w : World) (v : Value) (ws : List Nat) : Prop := w.ownsRow 0 30 1 v ws.length (wordsOf ws).toList

theorem own_empty (w : World) (B : Nat) (hB : w.heap.size = B) : (w.alloc (.cells #[] 30)).ownsRow 0 30 1 (.slice (some ⟨B, 0, none⟩) 0 0) 0 [] :=
  ⟨rfl, .inr ⟨B, 0, #[], rfl, Nat.zero_le _, by rw [← hB]; exact heap_new w _, Nat.le_refl _, Nat.zero_le _, rfl, rfl⟩⟩
theorem own_block {w : World} {b n cap : Nat} {xs : List Value} (hr : w.ownsRow 0 30 1 (.slice (some ⟨b, 0, none⟩) n cap) n xs) : ∃ cur : Array Value, w.heap[b]? = some (.cells cur 30 (0, 0)) ∧ n ≤ cap ∧ cap ≤ maxLen ∧ cur.size = cap ∧ cur.toList.take n = xs := by
  rcases hr.2 with ⟨h', _⟩ | ⟨g', cap', cur, h', hb, hg, hnc, hcm, hcs, htake⟩
  · simp at h'
  · simp only [Value.slice.injEq, Option.some.injEq, Addr.mk.injEq, and_true, true_and] at h'
    obtain ⟨rfl, rfl⟩ := h'
    exact ⟨cur, hg, hnc, hcm, by omega, by rwa [Nat.mul_one] at htake⟩
theorem src_of {w w' : World} {b n cap : Nat} {ws : List Nat} (hn : n = ws.length) (hr : WRow w (.slice (some ⟨b, 0, none⟩) n cap) ws) (hB : Below w.heap.size w w') : ∀ j u, (wordsOf ws).toList[j]? = some u → w'.cell? ((⟨b, 0, none⟩ : Addr).add j) = some u := by
  intro j u hu
  subst hn
  obtain ⟨cur, hg, _, _, _, htake⟩ := own_block hr
  rw [Addr.add_lit, Nat.zero_add, cell_of ((hB.block b (heap_lt hg)).trans hg), ← hu, ← htake]
  have hj : j < ws.length := by have := (List.getElem?_eq_some_iff.1 hu).1; rwa [words_len] at this
  simp [hj]
theorem WRow.next {w w' : World} {v : Value} {ws : List Nat} (hr : WRow w v ws) (hB : Below w.heap.size w w') : WRow w' v ws := by
  obtain ⟨h1, h2⟩ := hr
  refine ⟨h1, ?_⟩
  rcases h2 with h2 | ⟨g, cap, cur, h', hb, hg, r⟩
  · exact .inl h2
  · exact .inr ⟨g, cap, cur, h', hb, (hB.block g (heap_lt hg)).trans hg, r⟩
theorem WRow.at {w : World} {b n cap j : Nat} {ws : List Nat} (hr : WRow w (.slice (some ⟨b, 0, none⟩) n cap) ws) (hn : n = ws.length) (hj : j < n) : w.cell? ⟨b, j, none⟩ = some (.int .u64 ((ws.getD j 0 : Nat) : Int)) := by
  have := src_of hn hr (Below.refl _ _) j (.int .u64 ((ws.getD j 0 : Nat) : Int)) (by subst hn; simp [wordsOf, hj])
  rwa [Addr.add_lit, Nat.zero_add] at this

/-- A block of three cells. -/
def Blk3 (w : World) (B : Nat) (t : TypeId) (x y z : Value) : Prop := w.heap[B]? = some (.cells #[x, y, z] t (0, 0))
theorem Blk3.cells {w : World} {B : Nat} {t : TypeId} {x y z : Value} (h : Blk3 w B t x y z) : w.cell? ⟨B, 0, none⟩ = some x ∧ w.cell? ⟨B, 1, none⟩ = some y ∧ w.cell? ⟨B, 2, none⟩ = some z ∧ (∀ j, w.frozen? ⟨B, j, none⟩ = false) :=
  ⟨cell_of h, cell_of h, cell_of h, fun _ => frozen_of h⟩
theorem Blk3.set {w : World} {B : Nat} {t : TypeId} {x y z : Value} (h : Blk3 w B t x y z) (x' y' z' : Value) : Blk3 (((w.setCell ⟨B, 0, none⟩ x').setCell ⟨B, 1, none⟩ y').setCell ⟨B, 2, none⟩ z') B t x' y' z' := by
  unfold Blk3; rw [set_of (set_of (set_of h _) _) _]; rfl
theorem Blk3.lt {w : World} {B : Nat} {t : TypeId} {x y z : Value} (h : Blk3 w B t x y z) : B < w.heap.size := heap_lt h
theorem Blk3.next {w w' : World} {B : Nat} {t : TypeId} {x y z : Value} (h : Blk3 w B t x y z) {N : Nat} (hb : Below N w w') (hN : B < N) : Blk3 w' B t x y z := (hb.block B hN).trans h
theorem Blk3.grown {w w' : World} {B : Nat} {t : TypeId} {x y z : Value} {row : Option Nat} (h : Blk3 w B t x y z) (hg : w.grownBy w' row) (hr : some B ≠ row) : Blk3 w' B t x y z := (hg.block B h.lt hr).trans h
theorem Blk3.new (w : World) (t : TypeId) (x y z : Value) : Blk3 (w.alloc (.cells #[x, y, z] t)) w.heap.size t x y z := heap_new w _
theorem set3_other {w : World} {B k : Nat} (hk : k ≠ B) (x y z : Value) : (((w.setCell ⟨B, 0, none⟩ x).setCell ⟨B, 1, none⟩ y).setCell ⟨B, 2, none⟩ z).heap[k]? = w.heap[k]? := by
  rw [set_other hk, set_other hk, set_other hk]
theorem below_set3 {N B : Nat} {a w : World} (h : Below N a w) (hB : N ≤ B) (x y z : Value) : Below N a (((w.setCell ⟨B, 0, none⟩ x).setCell ⟨B, 1, none⟩ y).setCell ⟨B, 2, none⟩ z) := ((h.setCell hB _).setCell hB _).setCell hB _
theorem WRow.far {w w' : World} {b n cap : Nat} {ws : List Nat} (hn : n = ws.length) (hr : WRow w (.slice (some ⟨b, 0, none⟩) n cap) ws) (hb : w'.heap[b]? = w.heap[b]?) : WRow w' (.slice (some ⟨b, 0, none⟩) n cap) ws := by
  subst hn
  obtain ⟨cur, hg, h1, h2, h3, h4⟩ := own_block hr
  exact ⟨hr.1, .inr ⟨b, cap, cur, rfl, Nat.zero_le _, hb.trans hg, h1, h2, by omega, by rwa [Nat.mul_one]⟩⟩
theorem grown_alloc {w w1 : World} {o : Obj} (hg : (w.alloc o).grownBy w1 none) : Below (w.heap.size + 1) (w.alloc o) w1 :=
  (Below.refl _ _).grown hg (by simp) (fun k e => by cases e)

theorem rin_any (v : Value) (n cap : Nat) (ad : Option Addr) (o f a : Int) (w : World) (hv : v = .slice ad n cap) :
    Calls Try.prog 42 #[.agg #[v, .int .i64 o, .int .i64 f], .int .i64 a] w fun e w' => e = .returned (.bool (decide (0 ≤ a) && decide (a < n))) ∧ Below w.heap.size w w' := by
  subst hv
  by_cases h0 : 0 ≤ a
  · have e0 : decide (0 ≤ a) = true := by simpa using h0
    go_enter Try.func42, Try.ntmps42
    go_wp2
    go_ret
    exact ⟨by rw [e0]; rfl, (Below.refl _ _).alloc (Nat.le_refl _) _⟩
  · have e0 : decide (0 ≤ a) = false := by simpa using h0
    go_enter Try.func42, Try.ntmps42
    go_wp2
    go_ret
    exact ⟨rfl, (Below.refl _ _).alloc (Nat.le_refl _) _⟩

theorem rnew_any (N : Nat) (w : World) (hN : N ≤ 65536) :
    Calls Try.prog 17 #[.int .i64 N] w fun e w' => ∃ b, e = .returned (.agg #[.slice (some ⟨b, 0, none⟩) N N, .int .i64 0, .int .i64 0]) ∧ WRow w' (.slice (some ⟨b, 0, none⟩) N N) (List.replicate N 0) ∧ w.heap.size ≤ b ∧ Below w.heap.size w w' := by
  obtain ⟨i0, hi, hz0, hz1, hz2⟩ := info_parts info64
  have hB0 := Lib.hid ((Below.refl w.heap.size w).alloc (Nat.le_refl _) (.cells #[.slice none 0 0, .int .i64 0, .int .i64 0] 28))
  go_enter Try.func17, Try.ntmps17
  go_wp2_with (at_make; refine wpList_make_full _ rfl _ _ 26 rfl 0 30 i0 (.int .u64 0) 1 Try.underlying26 hi hz0 hz1 .i64 .i64 _ _ N rfl rfl (by omega) (by omega) (by rw [hz2]; omega) (by unfold maxLen; omega) (Nat.zero_le _) ?_)
  intro w1 ho hg
  have hb1 := grown_alloc hg
  have hk := (Blk3.new w 28 (.slice none 0 0) (.int .i64 0) (.int .i64 0)).next hb1 (by omega)
  have hW : WRow w1 (.slice (some ⟨w.heap.size + 1, 0, none⟩) N N) (List.replicate N 0) := by
    unfold WRow; rw [made_words'] at ho; simpa using ho
  have HF := Lib.hid (hk.set (.slice (some ⟨w.heap.size + 1, 0, none⟩) N N) (.int .i64 0) (.int .i64 0))
  have HW := Lib.hid (hW.far (w' := ((w1.setCell ⟨w.heap.size, 0, none⟩ (.slice (some ⟨w.heap.size + 1, 0, none⟩) N N)).setCell ⟨w.heap.size, 1, none⟩ (.int .i64 0)).setCell ⟨w.heap.size, 2, none⟩ (.int .i64 0)) (by simp) (set3_other (by omega) _ _ _))
  have HB := Lib.hid (below_set3 (B := w.heap.size) (hB0.out.trans (hb1.mono (Nat.le_succ _))) (Nat.le_refl _) (.slice (some ⟨w.heap.size + 1, 0, none⟩) N N) (.int .i64 0) (.int .i64 0))
  obtain ⟨c0, c1, c2, z⟩ := hk.cells
  clear ho hg hb1 hk hW
  go_wp2_with fail
  obtain ⟨r0, r1, r2, _⟩ := HF.out.cells
  exact bodyPost_ret (v := .agg #[.slice (some ⟨w.heap.size + 1, 0, none⟩) N N, .int .i64 0, .int .i64 0]) (by simp [results, Try.results17, go_sem, r0, r1, r2]) rfl ⟨_, rfl, HW.out, Nat.le_succ _, HB.out⟩

/-- What lies behind the first statement of Do: the variable 'out', with words of its own. -/
structure OutAt (w wx : World) (N B gg n cap : Nat) (ws : List Nat) (o f : Int) : Prop where
  out : Blk3 wx B 28 (.slice (some ⟨gg, 0, none⟩) n cap) (.int .i64 o) (.int .i64 f)
  row : WRow wx (.slice (some ⟨gg, 0, none⟩) n cap) ws
  ne : B ≠ gg
  hB : N ≤ B
  hg : N ≤ gg
  bel : Below N w wx
theorem wrow_of {w1 : World} {gg n cap : Nat} {ws : List Nat} (h : w1.ownsRow 0 30 1 (.slice (some ⟨gg, 0, none⟩) (0 + n) cap) (0 + n) ([] ++ (wordsOf ws).toList)) (hn : n = ws.length) : WRow w1 (.slice (some ⟨gg, 0, none⟩) n cap) ws := by
  subst hn; simpa [WRow] using h
theorem out_one {w0 w1 : World} {gg n cap : Nat} {ws : List Nat} {o f : Int} (hn : n = ws.length) (hr : WRow w1 (.slice (some ⟨gg, 0, none⟩) n cap) ws) (hlt : gg < w1.heap.size) (hb : Below w0.heap.size w0 w1) (hg : w0.heap.size ≤ gg) :
    OutAt w0 (w1.alloc (.cells #[.slice (some ⟨gg, 0, none⟩) n cap, .int .i64 o, .int .i64 f] 28)) w0.heap.size w1.heap.size gg n cap ws o f :=
  ⟨Blk3.new w1 _ _ _ _, hr.far hn (Below.heap_alloc _ _ _ hlt), by omega, hb.size, hg, hb.alloc hb.size _⟩
theorem out_two {w0 w1 : World} {B gg n cap : Nat} {ws : List Nat} {o f : Int} {x y z : Value} (hn : n = ws.length) (hr : WRow w1 (.slice (some ⟨gg, 0, none⟩) n cap) ws) (k : Blk3 w1 B 28 x y z) (hb : Below w0.heap.size w0 w1) (hg : w0.heap.size ≤ gg) (hB : w0.heap.size ≤ B) (hne : B ≠ gg) :
    OutAt w0 (((w1.setCell ⟨B, 0, none⟩ (.slice (some ⟨gg, 0, none⟩) n cap)).setCell ⟨B, 1, none⟩ (.int .i64 o)).setCell ⟨B, 2, none⟩ (.int .i64 f)) w0.heap.size B gg n cap ws o f :=
  ⟨k.set _ _ _, hr.far hn (set3_other hne.symm _ _ _), hne, hB, hg, below_set3 hb hB _ _ _⟩
theorem set3_cell {w : World} {B k j : Nat} (hk : k ≠ B) (x y z : Value) : (((w.setCell ⟨B, 0, none⟩ x).setCell ⟨B, 1, none⟩ y).setCell ⟨B, 2, none⟩ z).cell? ⟨k, j, none⟩ = w.cell? ⟨k, j, none⟩ := World.cell?_of_block (w := w) (set3_other hk x y z)

theorem blk_second (w : World) (e : Obj) (t : TypeId) (x y z : Value) : Blk3 ((w.alloc e).alloc (.cells #[x, y, z] t)).drew (w.heap.size + 1) t x y z := by
  have := Blk3.new (w.alloc e) t x y z
  rw [show (w.alloc e).heap.size = w.heap.size + 1 from by simp] at this
  exact this
theorem blk_first (w : World) (e : Obj) (t : TypeId) (x y z : Value) : Blk3 ((w.alloc (.cells #[x, y, z] t)).alloc e).drew w.heap.size t x y z :=
  (Blk3.new w t x y z).next (w' := (w.alloc (.cells #[x, y, z] t)).alloc e) ((Below.refl _ (w.alloc (.cells #[x, y, z] t))).alloc (Nat.le_refl _) e) (by simp)
theorem app_below {N : Nat} {a w w1 : World} {row : Option Nat} (hB : Below N a w) (hN : N ≤ w.heap.size) (hg : w.grownBy w1 row) (hr : ∀ k, row = some k → N ≤ k) : Below N a w1 := hB.grown hg hN hr

/-- An append of whatever many onto a slice without room. -/
theorem step_append_any {P : Program} (w : World) {ops : Array Oper} {o : Oper} {a : Act} {K : Act → World → Prop} {Q : Exit → Act → World → Prop} {E : Prop} (hgd : o.guard = none) (s x : Operand) (t : TypeId)
    (ho : o.op = .call { callee := .builtin .append, args := #[s, x], argTypes := #[t, t] })
    (e : TypeId) (i : TypeInfo) (z : Value) (bytes : Nat) (ht : P.underlying t = some (.slice e)) (hi : P.info? e = some i) (hz : i.zero = some z)
    (hsize : i.size = 1) (hby : i.bytes = bytes) (hzs : z.cells.size = 1)
    (g0 : Nat) (hs : a.eval s = .slice (some ⟨g0, 0, none⟩) 0 0) (hown : w.ownsRow 0 e 1 (.slice (some ⟨g0, 0, none⟩) 0 0) 0 [])
    (ad : Addr) (m c : Nat) (news : List Value) (hx : a.eval x = .slice (some ad) m c) (hl : news.length = m * 1) (hnews : ∀ j u, news[j]? = some u → w.cell? (ad.add j) = some u) (h1 : ∀ u ∈ news, u.oneCell' = true)
    (h63 : 0 + m ≤ maxLen) (hbytes : (0 + m) * bytes ≤ 140737488355328) (H : Nat) (hH : w.heap.size = H)
    (h : ∀ g cap w', w'.ownsRow 0 e 1 (.slice (some ⟨g, 0, none⟩) (0 + m) cap) (0 + m) ([] ++ news) → w.grownBy w' (some g0) → (g = g0 ∨ g = H) → g < w'.heap.size → K (a.put o.dst (.slice (some ⟨g, 0, none⟩) (0 + m) cap)) w') :
    if Region.wanted o (yielded ops a.tmps) = true then Oper.wp P o a w K Q else E := by
  by_cases hm : m = 0
  · subst hm
    obtain rfl : news = [] := List.eq_nil_of_length_eq_zero (by simpa using hl)
    refine step_append_room hgd s x t ho e i 1 ht hi hsize g0 0 0 0 hs ad 0 c [] hx rfl (by intro j u hu; simp at hu) (by intro u hu; simp at hu) (by omega) (by intro j hj; simp at hj) ?_
    exact h g0 0 w hown (World.grownBy.refl _ _) (.inl rfl) (by
      rcases hown.2 with ⟨h', _⟩ | ⟨g', cap', cur, h', hb, hg, _⟩
      · simp at h'
      · simp only [Value.slice.injEq, Option.some.injEq, Addr.mk.injEq, and_true, true_and] at h'
        obtain ⟨rfl, rfl⟩ := h'
        exact heap_lt hg)
  · refine step_append_lies w hgd s x t ho 0 e i z 1 bytes ht hi hz hsize hby hzs (by omega) (.slice (some ⟨g0, 0, none⟩) 0 0) 0 [] hs hown ad m c news hx hl hnews h1 (by omega) h63 hbytes (Nat.zero_le _) H hH ?_
    intro g cap w' h2 h3 h4 h5
    refine h g cap w' h2 h3 ?_ h5
    rcases h4 with h4 | h4
    · exact .inl (Option.some.inj (show some g0 = some g from h4)).symm
    · exact .inr h4

/-- The blocks of a call of Do: its argument, its result's cell, the variable 'out', and the words of 'out'. -/
structure D3 (w00 w : World) (N5 B gg n cap : Nat) (vin : Value) (oi fi : Int) (ws : List Nat) (o f : Int) : Prop where
  inp : Blk3 w N5 28 vin (.int .i64 oi) (.int .i64 fi)
  res : Blk3 w (N5 + 1) 28 (.slice none 0 0) (.int .i64 0) (.int .i64 0)
  out : Blk3 w B 28 (.slice (some ⟨gg, 0, none⟩) n cap) (.int .i64 o) (.int .i64 f)
  row : WRow w (.slice (some ⟨gg, 0, none⟩) n cap) ws
  len : n = ws.length
  n1 : N5 + 1 < B
  n2 : N5 + 1 < gg
  n3 : B ≠ gg
  bel : Below N5 w00 w
theorem D3.next {w00 w w' : World} {N5 B gg n cap : Nat} {vin : Value} {oi fi : Int} {ws : List Nat} {o f : Int} (d : D3 w00 w N5 B gg n cap vin oi fi ws o f) (b : Below w.heap.size w w') (hN : N5 ≤ w.heap.size) : D3 w00 w' N5 B gg n cap vin oi fi ws o f :=
  ⟨d.inp.next b d.inp.lt, d.res.next b d.res.lt, d.out.next b d.out.lt, d.row.next b, d.len, d.n1, d.n2, d.n3, d.bel.trans (b.mono hN)⟩
theorem D3.fault {w00 w : World} {N5 B gg n cap : Nat} {vin : Value} {oi fi : Int} {ws : List Nat} {o f : Int} (d : D3 w00 w N5 B gg n cap vin oi fi ws o f) (f' : Int) : D3 w00 (w.setCell ⟨B, 2, none⟩ (.int .i64 f')) N5 B gg n cap vin oi fi ws o f' :=
  ⟨(set_other (by have := d.n1; omega) _).trans d.inp, (set_other (by have := d.n1; omega) _).trans d.res, by unfold Blk3; rw [set_of d.out]; rfl, d.row.far d.len (set_other d.n3.symm _), d.len, d.n1, d.n2, d.n3, d.bel.setCell (by have := d.n1; show N5 ≤ B; omega) _⟩
theorem WRow.write {w : World} {b n cap j : Nat} {ws : List Nat} (hn : n = ws.length) (hr : WRow w (.slice (some ⟨b, 0, none⟩) n cap) ws) (x : Nat) : WRow (w.setCell ⟨b, j, none⟩ (.int .u64 (x : Int))) (.slice (some ⟨b, 0, none⟩) n cap) (ws.set j x) := by
  subst hn
  have := (World.ownsRow.stored hr j (.int .u64 (x : Int))).1
  unfold WRow
  rw [List.length_set]
  have e : (wordsOf ws).toList.set j (.int .u64 (x : Int)) = (wordsOf (ws.set j x)).toList := by simp [wordsOf]
  rw [e] at this
  exact this
theorem WRow.fz {w : World} {b n cap : Nat} {ws : List Nat} (hn : n = ws.length) (hr : WRow w (.slice (some ⟨b, 0, none⟩) n cap) ws) (j : Nat) : w.frozen? ⟨b, j, none⟩ = false := by
  subst hn
  exact World.ownsRow.frozenAt hr j
theorem D3.write {w00 w : World} {N5 B gg n cap : Nat} {vin : Value} {oi fi : Int} {ws : List Nat} {o f : Int} (d : D3 w00 w N5 B gg n cap vin oi fi ws o f) (j x : Nat) : D3 w00 (w.setCell ⟨gg, j, none⟩ (.int .u64 (x : Int))) N5 B gg n cap vin oi fi (ws.set j x) o f :=
  ⟨(set_other (by have := d.n2; omega) _).trans d.inp, (set_other (by have := d.n2; omega) _).trans d.res, (set_other d.n3 _).trans d.out, d.row.write d.len x, by rw [List.length_set]; exact d.len, d.n1, d.n2, d.n3, d.bel.setCell (by have := d.n2; show N5 ≤ gg; omega) _⟩
theorem D3.done {w00 w : World} {N5 B gg n cap : Nat} {vin : Value} {oi fi : Int} {ws : List Nat} {o f : Int} (d : D3 w00 w N5 B gg n cap vin oi fi ws o f) (x y z : Value) :
    Blk3 (((w.setCell ⟨N5 + 1, 0, none⟩ x).setCell ⟨N5 + 1, 1, none⟩ y).setCell ⟨N5 + 1, 2, none⟩ z) (N5 + 1) 28 x y z ∧ WRow (((w.setCell ⟨N5 + 1, 0, none⟩ x).setCell ⟨N5 + 1, 1, none⟩ y).setCell ⟨N5 + 1, 2, none⟩ z) (.slice (some ⟨gg, 0, none⟩) n cap) ws ∧
    Below N5 w00 (((w.setCell ⟨N5 + 1, 0, none⟩ x).setCell ⟨N5 + 1, 1, none⟩ y).setCell ⟨N5 + 1, 2, none⟩ z) :=
  ⟨d.res.set _ _ _, d.row.far d.len (set3_other (by have := d.n2; omega) _ _ _), below_set3 d.bel (Nat.le_succ _) _ _ _⟩

/-- An access to a memory of kind k (1 to 5): the memory behind it, and its answers. -/
def doSt (s : MSt) (k a : Int) (x old : Nat) : MSt :=
  if k = 4 then s.swung a old x else if k = 5 then (s.begun 5 a).put a ((s.rd a + x) % 18446744073709551616) else if k = 2 ∨ k = 3 then (s.begun k a).put a x else s.begun k a
def doX (s : MSt) (k a : Int) : Nat := if k = 2 ∨ k = 4 then 0 else s.rd a
def doB (s : MSt) (k a : Int) (old : Nat) : Bool := if k = 4 then s.swings a old else false

/-- What Do answers. -/
def RDone (w w' : World) (n : Nat) (s : MSt) (k a : Int) (x old : Nat) (e : Ending) : Prop :=
  ∃ b cap, e = .returned (.tuple #[.agg #[.slice (some ⟨b, 0, none⟩) n cap, .int .i64 (doSt s k a x old).ops, .int .i64 (doSt s k a x old).faults], .int .u64 (doX s k a : Nat), .bool (doB s k a old)]) ∧ WRow w' (.slice (some ⟨b, 0, none⟩) n cap) (doSt s k a x old).ws ∧ w.heap.size ≤ b ∧ Below w.heap.size w w'
theorem rdone {w w' : World} {n : Nat} {s : MSt} {k a : Int} {x old b cap : Nat} {o f : Int} {y : Nat} {z : Bool} {ws : List Nat} (ho : o = (doSt s k a x old).ops) (hf : f = (doSt s k a x old).faults) (hy : y = doX s k a) (hz : z = doB s k a old) (hws : ws = (doSt s k a x old).ws) (hW : WRow w' (.slice (some ⟨b, 0, none⟩) n cap) ws) (hbb : w.heap.size ≤ b) (hb : Below w.heap.size w w') :
    RDone w w' n s k a x old (.returned (.tuple #[.agg #[.slice (some ⟨b, 0, none⟩) n cap, .int .i64 o, .int .i64 f], .int .u64 (y : Int), .bool z])) := by
  subst ho hf hy hz hws
  exact ⟨b, cap, rfl, hW, hbb, hb⟩


end Go.Proofs.Ytnjgajkcoahefaa
