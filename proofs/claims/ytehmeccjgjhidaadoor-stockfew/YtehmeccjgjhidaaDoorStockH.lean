/-
  takeOut: a superblock's blocks go out of a pile; the others stay in their order.
-/
import Derived.Test.YtehmeccjgjhidaaDoorStockG
namespace Go.Proofs.YtehmeccjgjhidaaDoor
open Go.RowKit Go.Maps Go.Sort

/-- An int in its box. -/
def In1 (w : World) (N : Nat) (s : Int) : Prop := w.heap[N]? = some (.cells #[.int .i64 s] 3 (0, 0))
theorem In1.c0 {w : World} {N : Nat} {s : Int} (h : In1 w N s) : w.cell? ⟨N, 0, none⟩ = some (.int .i64 s) := by rw [cell_of h]; rfl
theorem In1.next {w w' : World} {N : Nat} {s : Int} (h : In1 w N s) (hb : Below w.heap.size w w') : In1 w' N s := (hb.block N (heap_lt h)).trans h
set_option maxHeartbeats 1000000 in
theorem of_super (x : Int × Int) (s : Int) (sp : Nat) (w : World) (h : Hid (In1 w sp s)) :
    Calls Tryd.prog 21 #[.agg #[.int .i64 x.1, .int .i64 x.2], .pointer (some ⟨sp, 0, none⟩)] w fun e w' => e = .returned (.bool (x.1 == s)) ∧ Below w.heap.size w w' := by
  have X0 : Hid (Two5 (w.alloc (.cells #[.int .i64 x.1, .int .i64 x.2] 32)) w.heap.size 32 x.1 x.2) := Two5.new w _ _ _
  have B0 := Lib.hid (box1 w (.cells #[.int .i64 x.1, .int .i64 x.2] 32))
  have H0 := Lib.hid (h.out.next B0.out)
  go_enter Tryd.func21, Tryd.ntmps21
  go_upto_region 1 with fail
  generalize w.alloc (.cells #[.int .i64 x.1, .int .i64 x.2] 32) = w0 at *
  generalize hN : w.heap.size = N at *
  have x0 := two_c0 X0.out
  have h0 := H0.out.c0
  go_wp2_with fail
  go_ret
  exact ⟨rfl, by rw [hN]; exact B0.out⟩
/-- What goes, and what stays. -/
def goes (s : Int) (l : List (Int × Int)) : List (Int × Int) := l.filter fun x => x.1 == s
def stays (s : Int) (l : List (Int × Int)) : List (Int × Int) := l.filter fun x => !(x.1 == s)
theorem goes_app (s : Int) (l : List (Int × Int)) (x : Int × Int) : goes s (l ++ [x]) = if (x.1 == s) = true then goes s l ++ [x] else goes s l := by
  unfold goes; rw [List.filter_append]; by_cases h : (x.1 == s) = true <;> simp [h]
theorem stays_app (s : Int) (l : List (Int × Int)) (x : Int × Int) : stays s (l ++ [x]) = if (x.1 == s) = true then stays s l else stays s l ++ [x] := by
  unfold stays; rw [List.filter_append]; by_cases h : (x.1 == s) = true <;> simp [h]
theorem goes_len (s : Int) (l : List (Int × Int)) : (goes s l).length ≤ l.length := List.length_filter_le _ _
theorem stays_len (s : Int) (l : List (Int × Int)) : (stays s l).length ≤ l.length := List.length_filter_le _ _
/-- What the map still has behind the first i. -/
def mapAt (s : Int) (l : List (Int × Int)) (i : Nat) : List (Int × Int) := stays s (l.take i) ++ l.drop i
structure Tk (w0 w : World) (sb clb pb : Nat) (W S B T : Int) (len : Nat) (f : Nat → Int) (n : Nat) (P : Nat → List (Int × Int)) (L : Nat → Value) (M : Nat → Nat) (k sp : Nat) (s : Int) (o r : Value) (i : Nat) : Prop where
  sp : In1 w sp s
  pil : w.heap[pb]? = some (.cells (pilesOf L M len).toArray 53 (0, 0))
  row : BkRow w (L k) (P k)
  set : BSet w (M k) n (mapAt s (P k) i)
  ou : BkRow w o (goes s ((P k).take i))
  re : BkRow w r (stays s ((P k).take i))
  far : ∀ b, o.ownBlock = some b ∨ r.ownBlock = some b → w0.heap.size ≤ b
  ap : ∀ b, o.ownBlock = some b → r.ownBlock ≠ some b
  on : Only [M k] w0 w
section
variable {w0 w w' : World} {sb clb pb : Nat} {W S B T : Int} {len : Nat} {f : Nat → Int} {n : Nat} {P : Nat → List (Int × Int)} {L : Nat → Value} {M : Nat → Nat} {k sp : Nat} {s : Int} {o r : Value} {i : Nat}
theorem Tk.next (h : Tk w0 w sb clb pb W S B T len f n P L M k sp s o r i) (x : Below w.heap.size w w') : Tk w0 w' sb clb pb W S B T len f n P L M k sp s o r i :=
  ⟨h.sp.next x, (x.block pb (heap_lt h.pil)).trans h.pil, ORow.next h.row x, h.set.next x, ORow.next h.ou x, ORow.next h.re x, h.far, h.ap, h.on.trans (Only.of_below x)⟩
theorem Tk.cells (h : Tk w0 w sb clb pb W S B T len f n P L M k sp s o r i) (hk : k < len) : w.cell? ⟨pb, k * 2, none⟩ = some (L k) ∧ w.cell? ⟨pb, k * 2 + 1, none⟩ = some (.map (some (M k))) := by
  obtain ⟨h1, h2⟩ := piles_at (L := L) (M := M) hk
  rw [cell_of h.pil, cell_of h.pil]
  exact ⟨by simpa using h1, by simpa using h2⟩
/-- One that stays. -/
theorem Tk.keep {x : Int × Int} {vb : Nat} (h : Tk w0 w sb clb pb W S B T len f n P L M k sp s o r i) (hx : (P k)[i]? = some x) (hs : (x.1 == s) = false) (hv : w.heap[vb]? = some (.cells (bkE x).toArray 32 (0, 0))) (few : (P k).length ≤ 1048576) (hl : (L k).ownBlock ≠ none → ∀ b, (L k).ownBlock = some b → b < w0.heap.size) (hsp : sp < w0.heap.size) (hpb : pb < w0.heap.size) (hM : M k < w0.heap.size) (ty : TypeId) :
    ∃ r' w', (Builtin.append_ #[25, 25] ty #[r, .slice (some ⟨vb, 0, none⟩) 1 1]).run Tryd.prog w = .ok r' w' ∧ Tk w0 w' sb clb pb W S B T len f n P L M k sp s o r' (i + 1) ∧ Only r.ownBlock.toList w w' := by
  have hi : i < (P k).length := (List.getElem?_eq_some_iff.1 hx).1
  have ht : (P k).take (i + 1) = (P k).take i ++ [x] := by rw [List.take_add_one, hx]; rfl
  have hd : (P k).drop i = x :: (P k).drop (i + 1) := by
    rw [List.drop_eq_getElem_cons hi]
    congr 1
    rw [List.getElem?_eq_getElem hi] at hx
    exact Option.some.inj hx
  obtain ⟨r', w', h1, h2, h3, h4, _⟩ := BkRow.app (x := x) h.re hv (by have := stays_len s ((P k).take i); simp at this ⊢; omega) ty
  have O : Only r.ownBlock.toList w w' := Only.of_grown h3 (fun b hb => by simp [hb])
  have nf : ∀ b, b < w0.heap.size → b ∉ r.ownBlock.toList := fun b hb hm => by
    simp at hm
    have := h.far b (.inr hm)
    omega
  refine ⟨r', w', h1, ⟨O.at h.sp (nf _ hsp), O.at h.pil (nf _ hpb), ORow.stay h.row O (fun b hb => nf b (hl (by simp [hb]) b hb)), ?_, ?_, ?_, fun b hb => ?_, fun b hb => ?_, ?_⟩, O⟩
  · have : mapAt s (P k) (i + 1) = mapAt s (P k) i := by
      unfold mapAt
      rw [ht, stays_app, if_neg (by simp [hs]), hd]
      simp
    rw [this]
    exact h.set.stay O (nf _ hM)
  · rw [ht, goes_app, if_neg (by simp [hs])]
    exact ORow.stay h.ou O (fun b hb hm => by simp at hm; exact h.ap b hb hm)
  · rw [ht, stays_app, if_neg (by simp [hs])]
    exact h2
  · rcases hb with hb | hb
    · exact h.far b (.inl hb)
    · rcases h4 with e | e
      · exact h.far b (.inr (by rw [← e]; exact hb))
      · rw [e] at hb; cases hb; exact h.on.size
  · intro e
    rcases h4 with e2 | e2
    · exact h.ap b hb (by rw [← e2]; exact e)
    · rw [e2] at e
      cases e
      have := h.ou.lt' hb
      omega
  · exact h.on.trans' O (fun b hm => by simp at hm; exact .inr (h.far b (.inr hm)))
/-- One that goes: first into the row. -/
theorem Tk.go1 {x : Int × Int} {vb : Nat} (h : Tk w0 w sb clb pb W S B T len f n P L M k sp s o r i) (hx : (P k)[i]? = some x) (hv : w.heap[vb]? = some (.cells (bkE x).toArray 32 (0, 0))) (few : (P k).length ≤ 1048576) (ty : TypeId) :
    ∃ o' w', (Builtin.append_ #[25, 25] ty #[o, .slice (some ⟨vb, 0, none⟩) 1 1]).run Tryd.prog w = .ok o' w' ∧ BkRow w' o' (goes s ((P k).take i) ++ [x]) ∧ Only o.ownBlock.toList w w' ∧ (o'.ownBlock = o.ownBlock ∨ o'.ownBlock = some w.heap.size) := by
  have hi : i < (P k).length := (List.getElem?_eq_some_iff.1 hx).1
  obtain ⟨o', w', h1, h2, h3, h4, _⟩ := BkRow.app (x := x) h.ou hv (by have := goes_len s ((P k).take i); simp at this ⊢; omega) ty
  exact ⟨o', w', h1, h2, Only.of_grown h3 (fun b hb => by simp [hb]), h4⟩
/-- Then out of the map. -/
theorem Tk.go2 {x : Int × Int} {w2 w3 : World} {o' : Value} (h : Tk w0 w sb clb pb W S B T len f n P L M k sp s o r i) (hx : (P k)[i]? = some x) (hs : (x.1 == s) = true) (nd : (P k).Nodup) (hl : ∀ b, (L k).ownBlock = some b → b < w0.heap.size) (hsp : sp < w0.heap.size) (hpb : pb < w0.heap.size) (hM : M k < w0.heap.size)
    (h1 : BkRow w2 o' (goes s ((P k).take i) ++ [x])) (h2 : Only o.ownBlock.toList w w2) (h3 : o'.ownBlock = o.ownBlock ∨ o'.ownBlock = some w.heap.size) (h4 : BSet w3 (M k) n ((mapAt s (P k) i).filter (· ≠ x))) (h5 : Only [M k] w2 w3) :
    Tk w0 w3 sb clb pb W S B T len f n P L M k sp s o' r (i + 1) := by
  have hi : i < (P k).length := (List.getElem?_eq_some_iff.1 hx).1
  have ht : (P k).take (i + 1) = (P k).take i ++ [x] := by rw [List.take_add_one, hx]; rfl
  have hd : (P k).drop i = x :: (P k).drop (i + 1) := by
    rw [List.drop_eq_getElem_cons hi]
    congr 1
    rw [List.getElem?_eq_getElem hi] at hx
    exact Option.some.inj hx
  have nf : ∀ b, b < w0.heap.size → b ∉ o.ownBlock.toList := fun b hb hm => by
    simp at hm
    have := h.far b (.inl hm)
    omega
  obtain ⟨es, c, hm⟩ := h.set.obj
  have hmo : ∀ b v (l : List (Int × Int)), BkRow w v l → v.ownBlock = some b → b ∉ [M k] := fun b v l hr hb => by
    obtain ⟨cur, hc⟩ := hr.obj hb
    simp
    intro e
    rw [e] at hc
    have := hc.symm.trans hm
    simp at this
  have nM : ∀ (b : Nat) (ob : Array Value × TypeId), w.heap[b]? = some (.cells ob.1 ob.2 (0, 0)) → b ∉ [M k] := fun b ob hb => by
    simp
    intro e
    rw [e] at hb
    have := hb.symm.trans hm
    simp at this
  refine ⟨h5.at (h2.at h.sp (nf _ hsp)) (nM sp (_, _) h.sp), h5.at (h2.at h.pil (nf _ hpb)) (nM pb (_, _) h.pil), ORow.stay (ORow.stay h.row h2 (fun b hb => nf b (hl b hb))) h5 (fun b hb => hmo b _ _ h.row hb), ?_, ?_, ?_, fun b hb => ?_, fun b hb => ?_, ?_⟩
  · refine h4.congr (fun y => ?_)
    unfold mapAt
    rw [ht, stays_app, if_pos hs, hd]
    have hnd := nd
    rw [← List.take_append_drop i (P k), hd] at hnd
    have hx1 : x ∉ (P k).take i := fun hm => by
      have := List.nodup_append.1 hnd
      exact this.2.2 x hm x (by simp) rfl
    have hx2 : x ∉ (P k).drop (i + 1) := fun hm => by
      have := (List.nodup_append.1 hnd).2.1
      exact (List.nodup_cons.1 this).1 hm
    simp only [List.mem_filter, List.mem_append, List.mem_cons, decide_eq_true_eq, ne_eq]
    constructor
    · rintro ⟨h1 | h1 | h1, h2⟩
      · exact .inl h1
      · exact absurd h1 h2
      · exact .inr h1
    · rintro (h1 | h1)
      · exact ⟨.inl h1, fun e => hx1 (by rw [← e]; exact (List.mem_filter.1 h1).1)⟩
      · exact ⟨.inr (.inr h1), fun e => hx2 (by rw [← e]; exact h1)⟩
  · rw [ht, goes_app, if_pos hs]
    refine ORow.stay h1 h5 (fun b hb => ?_)
    obtain ⟨cur, hc⟩ := h1.obj hb
    simp
    intro e
    rw [e] at hc
    have := hc.symm.trans (h2.at hm (nf _ hM))
    simp at this
  · rw [ht, stays_app, if_pos hs]
    refine ORow.stay (ORow.stay h.re h2 (fun b hb hm => by simp at hm; exact h.ap b hm hb)) h5 (fun b hb => hmo b _ _ h.re hb)
  · rcases hb with hb | hb
    · rcases h3 with e | e
      · exact h.far b (.inl (by rw [← e]; exact hb))
      · rw [e] at hb; cases hb; exact h.on.size
    · exact h.far b (.inr hb)
  · intro e
    rcases h3 with e2 | e2
    · exact h.ap b (by rw [← e2]; exact hb) e
    · rw [e2] at hb
      cases hb
      have := h.re.lt' e
      omega
  · exact (h.on.trans' h2 (fun b hm => by simp at hm; exact .inr (h.far b (.inl hm)))).trans h5
end
end Go.Proofs.YtehmeccjgjhidaaDoor
