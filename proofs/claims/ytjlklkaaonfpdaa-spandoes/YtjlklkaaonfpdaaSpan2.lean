/-
  The contract of sort.Search over this program (the library's, laid here).
-/
import Derived.Test.YtjlklkaaonfpdaaSpan1
import Derived.Shelf.SlSorted.Search
import Derived.Deep.RegionHeld3
import Derived.StillTailTactics
namespace Go.Proofs.Ytjlklkaaonfpdaa
open Go.RowKit Go.Shelf Go.Sort

def rhoS : Ren := { f := fun k => if k = 16 then 67 else 0, t := fun k => if k = 3 then 3 else if k = 4 then 4 else if k = 35 then 49 else if k = 38 then 91 else 0, g := fun k => k }
theorem laysS : SlLaysO.n16 Try.prog rhoS :=
  ⟨by kernel_rfl, Try.func67, Try.underlying3, Try.isAgg3, Try.sizeOf3, Try.zeroValue3, Try.underlying4, Try.isAgg4, Try.sizeOf4, Try.zeroValue4,
   Try.underlying49, Try.isAgg49, Try.sizeOf49, Try.zeroValue49, Try.underlying91, Try.isAgg91, Try.sizeOf91, Try.zeroValue91⟩

/-- 'does it end behind the address?' -/
theorem ends_any (x y a : Int) (pb : Nat) (w : World) (hx : -2199023255552 ≤ x) (hx2 : x ≤ 2199023255552) (hy : -2199023255552 ≤ y) (hy2 : y ≤ 2199023255552) (hc : w.cell? ⟨pb, 0, none⟩ = some (.int .i64 a)) :
    Calls Try.prog 62 #[.agg #[.int .i64 x, .int .i64 y], .pointer (some ⟨pb, 0, none⟩)] w fun e w' => e = .returned (.bool (decide (a < x + y))) ∧ ∃ q os, w' = grow (w.drewN q) os := by
  have hc2 : (w.alloc (.cells #[.int .i64 x, .int .i64 y] 56)).cell? ⟨pb, 0, none⟩ = some (.int .i64 a) := cell_alloc_sl _ hc
  go_enter Try.func62, Try.ntmps62
  go_wp2
  go_ret
  exact ⟨rfl, 0, #[.cells #[.int .i64 x, .int .i64 y] 56], by rw [alloc_eq_grow]; rfl⟩
theorem begins_any (x y a : Int) (pb : Nat) (w : World) (hc : w.cell? ⟨pb, 0, none⟩ = some (.int .i64 a)) :
    Calls Try.prog 63 #[.agg #[.int .i64 x, .int .i64 y], .pointer (some ⟨pb, 0, none⟩)] w fun e w' => e = .returned (.bool (decide (a ≤ x))) ∧ ∃ q os, w' = grow (w.drewN q) os := by
  have hc2 : (w.alloc (.cells #[.int .i64 x, .int .i64 y] 56)).cell? ⟨pb, 0, none⟩ = some (.int .i64 a) := cell_alloc_sl _ hc
  go_enter Try.func63, Try.ntmps63
  go_wp2
  go_ret
  exact ⟨rfl, 0, #[.cells #[.int .i64 x, .int .i64 y] 56], by rw [alloc_eq_grow]; rfl⟩

set_option maxHeartbeats 1000000 in
theorem look_any (K : Nat) (eg : ∀ args w, (callFunc K args).run Try.prog w = .ok (.enter K args) w) (cb : Array Value) (r : Bool) (x y : Int) (p q b n cap i : Nat) (w : World) (hi : i < n)
    (cp : w.cell? ⟨p, 0, none⟩ = some (.func (.func K) #[] cb)) (cq : w.cell? ⟨q, 0, none⟩ = some (.slice (some ⟨b, 0, none⟩) n cap)) (cx : w.cell? ⟨b, i * 2, none⟩ = some (.int .i64 x)) (cy : w.cell? ⟨b, i * 2 + 1, none⟩ = some (.int .i64 y))
    (hk : Hid (∀ m, Calls Try.prog K (#[.agg #[.int .i64 x, .int .i64 y]] ++ cb) (w.drewN m) fun e w' => e = .returned (.bool r) ∧ ∃ q os, w' = grow ((w.drewN m).drewN q) os)) :
    Calls Try.prog 68 #[.int .i64 i, .pointer (some ⟨p, 0, none⟩), .pointer (some ⟨q, 0, none⟩)] w fun e w' => e = .returned (.bool r) ∧ ∃ q os, w' = grow (w.drewN q) os := by
  have l2 : (i : Int) < (n : Int) := by omega
  go_enter Try.func68, Try.ntmps68
  go_wp2
  have hkd := Lib.hid (show Calls Try.prog K (#[.agg #[.int .i64 x, .int .i64 y]] ++ cb) w.drew fun e w' => e = .returned (.bool r) ∧ ∃ q os, w' = grow ((w.drewN 1).drewN q) os from hk.out 1)
  go_region_held3 (fun w' => w'.cell? ⟨p, 0, none⟩ = some (.func (.func K) #[] cb) ∧ w'.cell? ⟨q, 0, none⟩ = some (.slice (some ⟨b, 0, none⟩) n cap) ∧ w'.cell? ⟨b, i * 2, none⟩ = some (.int .i64 x) ∧ w'.cell? ⟨b, i * 2 + 1, none⟩ = some (.int .i64 y)) (first | (go_keep; done) | with_reducible exact ⟨k0, k1, k2, k3⟩) ((first | (go_at_fn K; refine hkd.out.mono ?_; rintro e w3 ⟨rfl, nq, os, rfl⟩; have k0 := cell_grown (World.block_lt_of_cell? _ _ cp) cp (1 + nq) os; have k1 := cell_grown (World.block_lt_of_cell? _ _ cq) cq (1 + nq) os; have k2 := cell_grown (World.block_lt_of_cell? _ _ cx) cx (1 + nq) os; have k3 := cell_grown (World.block_lt_of_cell? _ _ cy) cy (1 + nq) os)))
  go_wp2
  go_ret
  exact ⟨rfl, _, _, rfl⟩

/-- A map of intervals in block g. -/
structure MapAt (w : World) (g : Nat) (v : Value) (l : List Iv) : Prop where
  head : w.heap[g]? = some (.cells #[v] 54 (0, 0))
  row : IvRow w v l
  ne : v.ownBlock ≠ some g
  few : l.length ≤ 100000
theorem MapAt.lt {w : World} {g : Nat} {v : Value} {l : List Iv} (m : MapAt w g v l) : g < w.heap.size := (Array.getElem?_eq_some_iff.1 m.head).1
theorem MapAt.c0 {w : World} {g : Nat} {v : Value} {l : List Iv} (m : MapAt w g v l) : w.cell? ⟨g, 0, none⟩ = some v := by simp [World.cell?, m.head]
theorem MapAt.fz {w : World} {g : Nat} {v : Value} {l : List Iv} (m : MapAt w g v l) : w.frozen? ⟨g, 0, none⟩ = false := by simp [World.frozen?, m.head]
theorem IvRow.next {w w' : World} {v : Value} {l : List Iv} (h : IvRow w v l) (hb : ∀ k, v.ownBlock = some k → w'.heap[k]? = w.heap[k]?) : IvRow w' v l := by
  rcases h.cases with ⟨rfl, rfl⟩ | ⟨b, cap, cur, rfl, hB⟩
  · exact ivRow_nil w'
  · exact (hB.next (hb b rfl)).row
theorem IvRow.lt {w : World} {v : Value} {l : List Iv} (h : IvRow w v l) {k : Nat} (hk : v.ownBlock = some k) : k < w.heap.size := by
  rcases h.cases with ⟨rfl, rfl⟩ | ⟨b, cap, cur, rfl, hB⟩
  · cases hk
  · simp [Value.ownBlock] at hk; subst hk; exact hB.lt
theorem IvRow.below {w w' : World} {v : Value} {l : List Iv} (h : IvRow w v l) (hb : Below w.heap.size w w') : IvRow w' v l := h.next fun k hk => hb.block k (h.lt hk)
theorem MapAt.next {w w' : World} {g : Nat} {v : Value} {l : List Iv} (m : MapAt w g v l) (hb : Below w.heap.size w w') : MapAt w' g v l := ⟨(hb.block g m.lt).trans m.head, m.row.below hb, m.ne, m.few⟩

theorem inter_any (g : Nat) (v : Value) (l : List Iv) (w : World) (m : MapAt w g v l) :
    Calls Try.prog 55 #[.pointer (some ⟨g, 0, none⟩)] w fun e w' => e = .returned v ∧ w = w' := by
  have c0 := m.c0
  clear m
  go_enter Try.func55, Try.ntmps55
  go_wp2
  go_ret
  exact ⟨rfl, rfl⟩

def pAt (p : Iv → Bool) (l : List Iv) (i : Nat) : Bool := (l[i]?.map p).getD true
theorem pAt_of {p : Iv → Bool} {l : List Iv} {i : Nat} {x : Iv} (h : l[i]? = some x) : pAt p l i = p x := by simp [pAt, h]
theorem count_idx (p : Iv → Bool) (l : List Iv) : (List.range l.length).countP (fun i => !pAt p l i) = l.countP (fun x => !p x) := by
  have h : l.map p = (List.range l.length).map (pAt p l) := by
    apply List.ext_getElem
    · simp
    · intro i h1 h2
      have : i < l.length := by simpa using h1
      simp [pAt, this]
  have h3 := congrArg (List.countP (fun b : Bool => !b)) h
  rw [List.countP_map, List.countP_map] at h3
  exact h3.symm
theorem enters68 : ∀ args w, (callFunc 68 args).run Try.prog w = .ok (.enter 68 args) w := enters_of Try.func68 (by kernel_rfl) rfl

set_option maxHeartbeats 1000000 in
theorem search_any (K : Nat) (eg : ∀ args w, (callFunc K args).run Try.prog w = .ok (.enter K args) w) (pb : Nat) (u : Value) (p : Iv → Bool) (b cap P Q : Nat) (l : List Iv) (cur : Array Value) (w : World) (hB : 0 < l.length → IvBlk w b cap l cur) (hn : l.length ≤ 100000)
    (cp : w.cell? ⟨P, 0, none⟩ = some (.func (.func K) #[] #[.pointer (some ⟨pb, 0, none⟩)])) (cq : w.cell? ⟨Q, 0, none⟩ = some (.slice (some ⟨b, 0, none⟩) l.length cap) ∨ l.length = 0)
    (cu : w.cell? ⟨pb, 0, none⟩ = some u)
    (hk : Hid (∀ W x, x ∈ l → W.cell? ⟨pb, 0, none⟩ = some u → Calls Try.prog K #[.agg #[.int .i64 x.1, .int .i64 x.2], .pointer (some ⟨pb, 0, none⟩)] W fun e w' => e = .returned (.bool (p x)) ∧ ∃ q os, w' = grow (W.drewN q) os))
    (hmono : Hid (∀ (a b : Nat) x y, a ≤ b → l[a]? = some x → l[b]? = some y → p x = true → p y = true)) :
    Calls Try.prog 67 #[.int .i64 l.length, .func (.func 68) #[] #[.pointer (some ⟨P, 0, none⟩), .pointer (some ⟨Q, 0, none⟩)]] w fun e w' => e = .returned (.int .i64 (l.countP (fun x => !p x) : Nat)) ∧ Below w.heap.size w w' := by
  have hS := Any.sort_Search laysS 68 #[.pointer (some ⟨P, 0, none⟩), .pointer (some ⟨Q, 0, none⟩)] l.length (pAt p l) w enters68 (by omega)
    (fun m os i hi => by
      obtain ⟨x, hx⟩ : ∃ x, l[i]? = some x := ⟨l[i], List.getElem?_eq_getElem hi⟩
      have hq := cq.resolve_right (by omega)
      have hb2 := (hB (by omega)).two hx
      have hg : ∀ {a : Addr} {z : Value}, w.cell? a = some z → (grow (w.drewN m) os).cell? a = some z := fun h => cell_grown (World.block_lt_of_cell? _ _ h) h m os
      rw [pAt_of hx]
      exact look_any K eg #[.pointer (some ⟨pb, 0, none⟩)] (p x) x.1 x.2 P Q b l.length cap i _ hi (hg cp) (hg hq) (hg hb2.1) (hg hb2.2) (fun m' => hk.out _ x (List.mem_of_getElem? hx) (hg cu)))
    (fun a c hac hc h => by
      obtain ⟨x, hx⟩ : ∃ x, l[a]? = some x := ⟨l[a], List.getElem?_eq_getElem (by omega)⟩
      obtain ⟨y, hy⟩ : ∃ y, l[c]? = some y := ⟨l[c], List.getElem?_eq_getElem hc⟩
      rw [pAt_of hx] at h
      rw [pAt_of hy]
      exact hmono.out a c x y hac hx hy h)
  rw [count_idx] at hS
  refine hS.mono ?_
  rintro e w' ⟨rfl, q, os, rfl⟩
  exact ⟨rfl, below_grown_sl w.heap.size w q os (Nat.le_refl _)⟩

set_option maxHeartbeats 1000000 in
theorem first_any (K : Nat) (eg : ∀ args w, (callFunc K args).run Try.prog w = .ok (.enter K args) w) (pb : Nat) (u : Value) (p : Iv → Bool) (g : Nat) (v : Value) (l : List Iv) (w : World) (m : Hid (MapAt w g v l)) (cu : w.cell? ⟨pb, 0, none⟩ = some u)
    (hk : Hid (∀ W x, x ∈ l → W.cell? ⟨pb, 0, none⟩ = some u → Calls Try.prog K #[.agg #[.int .i64 x.1, .int .i64 x.2], .pointer (some ⟨pb, 0, none⟩)] W fun e w' => e = .returned (.bool (p x)) ∧ ∃ q os, w' = grow (W.drewN q) os))
    (hmono : Hid (∀ (a b : Nat) x y, a ≤ b → l[a]? = some x → l[b]? = some y → p x = true → p y = true)) :
    Calls Try.prog 61 #[.pointer (some ⟨g, 0, none⟩), .func (.func K) #[] #[.pointer (some ⟨pb, 0, none⟩)]] w fun e w' => e = .returned (.int .i64 (l.countP (fun x => !p x) : Nat)) ∧ Below w.heap.size w w' := by
  have b1 := below_alloc w (.cells #[.func (.func K) #[] #[.pointer (some ⟨pb, 0, none⟩)]] 59)
  have M1 := Lib.hid (m.out.next b1)
  have cp1 := cell_new_sl w (.func (.func K) #[] #[.pointer (some ⟨pb, 0, none⟩)]) 59
  have cu1 := cell_alloc_sl (.cells #[.func (.func K) #[] #[.pointer (some ⟨pb, 0, none⟩)]] 59) cu
  have B1 := Lib.hid b1
  clear b1 cu
  have hs1 : (w.alloc (.cells #[.func (.func K) #[] #[.pointer (some ⟨pb, 0, none⟩)]] 59)).heap.size = w.heap.size + 1 := by simp
  go_enter Try.func61, Try.ntmps61
  go_wp2_with fail
  generalize w.alloc (.cells #[.func (.func K) #[] #[.pointer (some ⟨pb, 0, none⟩)]] 59) = w1 at *
  refine (inter_any g v l _ M1.out).mono ?_
  rintro e w' ⟨rfl, rfl⟩
  have few := m.out.few
  have b2 := below_alloc w1 (.cells #[v] 52)
  have R2 := Lib.hid (M1.out.row.below b2)
  have cq2 := cell_new_sl w1 v 52
  have cp2 := cell_alloc_sl (.cells #[v] 52) cp1
  have cu2 := cell_alloc_sl (.cells #[v] 52) cu1
  have HB := Lib.hid (Below.trans B1.out (b2.mono B1.out.size))
  clear b2 cp1 cu1 M1 m
  rw [hs1] at cq2
  rcases R2.out.cases with ⟨rfl, rfl⟩ | ⟨b, cap, cur, rfl, hB⟩
  · have HS := Lib.hid (search_any K eg pb u p 0 0 w.heap.size (w.heap.size + 1) [] #[] _ (fun h => absurd h (by simp)) (by simp) cp2 (.inr rfl) cu2 hk hmono)
    go_wp2_with fail
    refine HS.out.mono ?_
    rintro e w3 ⟨rfl, hb⟩
    have HE := Lib.hid (Below.trans HB.out (hb.mono HB.out.size))
    clear hb
    go_wp2_with fail
    go_ret
    exact ⟨rfl, HE.out⟩
  · have HS := Lib.hid (search_any K eg pb u p b cap w.heap.size (w.heap.size + 1) l cur _ (fun _ => hB) few cp2 (.inl cq2) cu2 hk hmono)
    clear hB
    go_wp2_with fail
    refine HS.out.mono ?_
    rintro e w3 ⟨rfl, hb⟩
    have HE := Lib.hid (Below.trans HB.out (hb.mono HB.out.size))
    clear hb
    go_wp2_with fail
    go_ret
    exact ⟨rfl, HE.out⟩

/-- Intervals that lie apart, rising. -/
structure Good (l : List Iv) : Prop where
  ok : ∀ x ∈ l, 0 ≤ x.1 ∧ x.1 ≤ 1099511627776 ∧ 1 ≤ x.2 ∧ x.2 ≤ 1099511627776
  up : l.Pairwise fun a b => a.1 + a.2 ≤ b.1
theorem Good.lt {l : List Iv} (h : Good l) {a b : Nat} {x y : Iv} (hab : a < b) (hx : l[a]? = some x) (hy : l[b]? = some y) : x.1 + x.2 ≤ y.1 := by
  obtain ⟨h1, rfl⟩ := List.getElem?_eq_some_iff.1 hx
  obtain ⟨h2, rfl⟩ := List.getElem?_eq_some_iff.1 hy
  exact List.pairwise_iff_getElem.1 h.up a b h1 h2 hab
def endN (l : List Iv) (a : Int) : Nat := l.countP fun x => !decide (a < x.1 + x.2)
def begN (l : List Iv) (a : Int) : Nat := l.countP fun x => !decide (a ≤ x.1)
theorem enters62 : ∀ args w, (callFunc 62 args).run Try.prog w = .ok (.enter 62 args) w := enters_of Try.func62 (by kernel_rfl) rfl
theorem enters63 : ∀ args w, (callFunc 63 args).run Try.prog w = .ok (.enter 63 args) w := enters_of Try.func63 (by kernel_rfl) rfl

set_option maxHeartbeats 1000000 in
theorem ends_behind (g : Nat) (v : Value) (l : List Iv) (a : Int) (w : World) (m : Hid (MapAt w g v l)) (gd : Hid (Good l)) :
    Calls Try.prog 52 #[.pointer (some ⟨g, 0, none⟩), .int .i64 a] w fun e w' => e = .returned (.int .i64 (endN l a : Nat)) ∧ Below w.heap.size w w' := by
  have b1 := below_alloc w (.cells #[.int .i64 a] 3)
  have M1 := Lib.hid (m.out.next b1)
  have cu1 := cell_new_sl w (.int .i64 a) 3
  have HS := Lib.hid (first_any 62 enters62 w.heap.size (.int .i64 a) (fun x => decide (a < x.1 + x.2)) g v l _ M1 cu1
    (fun W x hx hc => by have h1 := gd.out.ok x hx; exact ends_any x.1 x.2 a w.heap.size W (by omega) (by omega) (by omega) (by omega) hc)
    (fun i j x y hij hx hy h => by
      by_cases e : i = j
      · subst e; rw [hx] at hy; cases hy; exact h
      · have h1 := gd.out.lt (show i < j by omega) hx hy
        have h2 := gd.out.ok y (List.mem_of_getElem? hy)
        simp at h ⊢; omega))
  have B1 := Lib.hid b1
  clear b1
  go_enter Try.func52, Try.ntmps52
  go_wp2_with fail
  refine HS.out.mono ?_
  rintro e w3 ⟨rfl, hb⟩
  have HE := Lib.hid (Below.trans B1.out (hb.mono B1.out.size))
  clear hb
  go_wp2_with fail
  go_ret
  exact ⟨rfl, HE.out⟩

end Go.Proofs.Ytjlklkaaonfpdaa
