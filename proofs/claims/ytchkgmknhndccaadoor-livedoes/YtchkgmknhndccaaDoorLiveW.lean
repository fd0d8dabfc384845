/-
  A table's words, as they change: what is marked, taken and looked at.
-/
import Derived.Test.YtchkgmknhndccaaDoorLive5
namespace Go.Proofs.YtchkgmknhndccaaDoor
open Go.RowKit Go.Sort

theorem lrd_nat {s : MSt} {j : Nat} (h : j < s.ws.length) : s.rd (j : Int) = s.ws.getD j 0 := by
  unfold MSt.rd inM
  rw [if_pos (by simp; omega)]
  simp
theorem lrd_begun (s : MSt) (k a b : Int) : (s.begun k a).rd b = s.rd b := rfl
theorem lput_len (s : MSt) (k a p : Int) (x : Nat) : ((s.begun k a).put p x).ws.length = s.ws.length := by
  unfold MSt.put
  simp only []
  split <;> simp [MSt.begun]
theorem lput_rd {s : MSt} {k a : Int} {p i x : Nat} (hp : p < s.ws.length) (hi : i < s.ws.length) : ((s.begun k a).put (p : Int) x).rd (i : Int) = if i = p then x else s.rd (i : Int) := by
  have hin : inM (s.begun k a) (p : Int) = true := by unfold inM; simp [MSt.begun]; omega
  have e : ((s.begun k a).put (p : Int) x).ws = s.ws.set p x := by
    unfold MSt.put
    rw [if_pos hin]
    simp [MSt.begun]
  rw [lrd_nat (by rw [e, List.length_set]; exact hi), lrd_nat hi, e]
  simp only [List.getD_eq_getElem?_getD, List.getElem?_set]
  by_cases h : p = i
  · subst h; simp [hp]
  · rw [if_neg h, if_neg (fun e => h e.symm)]
/-- A table's words, how many accesses there were. -/
structure Tw (s : MSt) (base n : Nat) (S : Int) (len : Nat) (L : Nat → Option (Int × Int)) (o : Nat) : Prop where
  lw : LW s base n S len L
  le : base + n ≤ s.ws.length
  ops : s.ops = o
  fl : s.faults = 0
theorem Tw.fresh {N base n : Nat} {S : Int} {len : Nat} (h : base + n ≤ N) : Tw (MSt.fresh N) base n S len (fun _ => none) 0 :=
  ⟨fun j hj => ⟨by rw [lrd_nat (by simp [MSt.fresh]; omega)]; simp [MSt.fresh, encT, List.getD_eq_getElem?_getD, List.getElem?_replicate]; split <;> rfl, fun _ _ e => by cases e⟩, by simp [MSt.fresh]; omega, rfl, rfl⟩
theorem lbegun_in {s : MSt} {k : Int} {p : Nat} (h : p < s.ws.length) : (s.begun k (p : Int)).faults = s.faults ∧ (s.begun k (p : Int)).ops = s.ops + 1 := by
  constructor
  · unfold MSt.begun inM
    simp only []
    rw [if_pos (by simp; omega)]
  · rfl
def setL (L : Nat → Option (Int × Int)) (j : Nat) (q : Option (Int × Int)) : Nat → Option (Int × Int) := fun i => if i = j then q else L i
theorem Tw.put {s : MSt} {base n : Nat} {S : Int} {len : Nat} {L : Nat → Option (Int × Int)} {o j : Nat} {q : Option (Int × Int)} (h : Tw s base n S len L o) (k : Int) (hj : j < n) (hq : MayO S len q) :
    Tw ((s.begun k ((base + j : Nat) : Int)).put ((base + j : Nat) : Int) (encT q)) base n S len (setL L j q) (o + 1) := by
  have hp : base + j < s.ws.length := by have := h.le; omega
  have hb := lbegun_in (s := s) (k := k) hp
  refine ⟨fun i hi => ?_, by rw [lput_len]; exact h.le, ?_, ?_⟩
  · rw [lput_rd hp (by have := h.le; omega)]
    unfold setL
    by_cases e : i = j
    · subst e; simp; exact hq
    · rw [if_neg (by omega), if_neg e]; exact h.lw i hi
  · show (MSt.begun s k ((base + j : Nat) : Int)).ops = _; rw [hb.2, h.ops]
  · show (MSt.begun s k ((base + j : Nat) : Int)).faults = _; rw [hb.1, h.fl]
theorem Tw.look {s : MSt} {base n : Nat} {S : Int} {len : Nat} {L : Nat → Option (Int × Int)} {o p : Nat} (h : Tw s base n S len L o) (k : Int) (hp : p < s.ws.length) :
    Tw (s.begun k (p : Int)) base n S len L (o + 1) := by
  have hb := lbegun_in (s := s) (k := k) hp
  exact ⟨fun i hi => h.lw i hi, h.le, by rw [hb.2, h.ops], by rw [hb.1, h.fl]⟩
theorem Tw.other {s : MSt} {base n : Nat} {S : Int} {len : Nat} {L : Nat → Option (Int × Int)} {o p : Nat} (h : Tw s base n S len L o) (k : Int) (x : Nat) (hp : p < s.ws.length) (ho : p < base ∨ base + n ≤ p) :
    Tw ((s.begun k (p : Int)).put (p : Int) x) base n S len L (o + 1) := by
  have hb := lbegun_in (s := s) (k := k) hp
  refine ⟨fun i hi => ?_, by rw [lput_len]; exact h.le, ?_, ?_⟩
  · rw [lput_rd hp (by have := h.le; omega), if_neg (by omega)]; exact h.lw i hi
  · show (MSt.begun s k (p : Int)).ops = _; rw [hb.2, h.ops]
  · show (MSt.begun s k (p : Int)).faults = _; rw [hb.1, h.fl]
theorem Tw.rd {s : MSt} {base n : Nat} {S : Int} {len : Nat} {L : Nat → Option (Int × Int)} {o j : Nat} (h : Tw s base n S len L o) (hj : j < n) : s.rd ((base + j : Nat) : Int) = encT (L j) := (h.lw j hj).1
theorem Tw.may {s : MSt} {base n : Nat} {S : Int} {len : Nat} {L : Nat → Option (Int × Int)} {o j : Nat} (h : Tw s base n S len L o) (hj : j < n) : MayO S len (L j) := (h.lw j hj).2
theorem mayO_some {S : Int} {len : Nat} {x y : Int} (h : MayT S len x y) : MayO S len (some (x, y)) := fun _ _ e => by cases e; exact h
theorem mayO_none {S : Int} {len : Nat} : MayO S len none := fun _ _ e => by cases e
theorem allL_none {S : Int} {len : Nat} {f : Nat → Int} {L : Nat → Option (Int × Int)} : ∀ {k : Nat}, (∀ i, i < k → L i = none) → allL S len f L k = []
  | 0, _ => rfl
  | k + 1, h => by rw [allL, allL_none (fun i hi => h i (by omega)), h k (by omega)]; rfl
theorem allL_one {S : Int} {len : Nat} {f : Nat → Int} {L : Nat → Option (Int × Int)} {j : Nat} {q : Int × Int} (hq : L j = some q) : ∀ {k : Nat}, j < k → (∀ i, i < k → i ≠ j → L i = none) → (allL S len f L k).length = 1
  | 0, h, _ => by omega
  | k + 1, h, hn => by
    rw [allL, List.length_append]
    by_cases e : j = k
    · subst e
      rw [allL_none (fun i hi => hn i (by omega) (by omega)), hq]
      rfl
    · rw [allL_one hq (show j < k by omega) (fun i hi => hn i (by omega)), hn k (by omega) (fun h => e h.symm)]
      rfl
end Go.Proofs.YtchkgmknhndccaaDoor
