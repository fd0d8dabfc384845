/-
  One table: whatever is done to it at any address, grain or not.
-/
import Derived.Test.YtchkgmknhndccaaDoorLiveA
import Derived.Test.YtchkgmknhndccaaDoorMapT
namespace Go.Proofs.YtchkgmknhndccaaDoor
open Go.RowKit Go.Sort

/-- What stands at an address. -/
def qA (S : Int) (L : Nat → Option (Int × Int)) (a : Int) : Option (Int × Int) := if isGr S a then L ((a - 65536) / 16).toNat else none
def grN (S a : Int) : Nat := if isGr S a then 1 else 0
theorem qA_upd (S : Int) (L : Nat → Option (Int × Int)) (a b : Int) (q : Option (Int × Int)) (hg : isGr S a) : qA S (updA S L a q) b = if b = a then q else qA S L b := by
  unfold qA updA
  rw [if_pos hg]
  by_cases e : b = a
  · subst e; rw [if_pos hg, if_pos rfl]; simp [setL]
  · rw [if_neg e]
    by_cases hb : isGr S b
    · rw [if_pos hb, if_pos hb]
      have : ((b - 65536) / 16).toNat ≠ ((a - 65536) / 16).toNat := by
        obtain ⟨h1, h2, h3⟩ := hg
        obtain ⟨h4, h5, h6⟩ := hb
        omega
      simp [setL, this]
    · rw [if_neg hb, if_neg hb]
theorem qA_no {S : Int} {L : Nat → Option (Int × Int)} {a : Int} (hg : ¬ isGr S a) : qA S L a = none := if_neg hg
theorem updA_no {S : Int} {L : Nat → Option (Int × Int)} {a : Int} {q : Option (Int × Int)} (hg : ¬ isGr S a) : updA S L a q = L := if_neg hg
/-- A system, its table and memory, and what is live. -/
structure Sd (w0 w : World) (N : Nat) (W S B T : Int) (ad : Option Addr) (len cap : Nat) (f : Nat → Int) (n t g h cb : Nat) (s : MSt) (L : Nat → Option (Int × Int)) (oo : Nat) : Prop where
  a : Ls w0 w N W S B T ad len cap f t g h cb 3 s
  wa : Tw s 3 n S len L oo
  lim : (n : Int) = S * 64 ∧ 1 ≤ S ∧ S ≤ 64 ∧ len ≤ 16
  ok : ClsOk len f
  few : oo ≤ 1000000
section
variable {w0 w w' : World} {N : Nat} {W S B T : Int} {ad : Option Addr} {len cap : Nat} {f : Nat → Int} {n t g h cb : Nat} {s : MSt} {L : Nat → Option (Int × Int)} {oo : Nat}
theorem Sd.next (x : Sd w0 w N W S B T ad len cap f n t g h cb s L oo) (hb : Below w.heap.size w w') : Sd w0 w' N W S B T ad len cap f n t g h cb s L oo := ⟨x.a.next hb, x.wa, x.lim, x.ok, x.few⟩
theorem Sd.other (x : Sd w0 w N W S B T ad len cap f n t g h cb s L oo) {q : List Nat} (o : Only q w w') (hq : ∀ k ∈ q, w0.heap.size ≤ k ∧ k ≠ N ∧ k ≠ t ∧ k ≠ g ∧ k ≠ h ∧ k ≠ cb) : Sd w0 w' N W S B T ad len cap f n t g h cb s L oo := ⟨x.a.other o hq, x.wa, x.lim, x.ok, x.few⟩
theorem Sd.mark (x : Sd w0 w N W S B T ad len cap f n t g h cb s L oo) (hf : oo < 1000000) (a p q : Int) (hm : MayT S len p q) :
    Calls Tryd.prog 17 #[.pointer (some ⟨t, 0, none⟩), .int .i64 a, .agg #[.int .i64 p, .int .i64 q]] w fun e w' => e = .returned (.bool (decide (isGr S a))) ∧ Only [g, h] w w' ∧ ∃ s', Sd w0 w' N W S B T ad len cap f n t g h cb s' (updA S L a (some (p, q))) (oo + grN S a) := by
  obtain ⟨hn, h1', h2, h3⟩ := x.lim
  obtain ⟨m1, m2⟩ := tw_lim x.wa x.few
  by_cases hg : isGr S a
  · obtain ⟨j, hj0, hj, hjS, ha⟩ := gr_at hg hn
    refine (x.a.mark (by omega) (by omega) (by omega) x.ok m1 m2 (by omega) hjS ha hm).mono ?_
    rintro e w' ⟨rfl, l, o⟩
    refine ⟨by rw [decide_eq_true hg], o, (s.begun 2 ((3 + j : Nat) : Int)).put ((3 + j : Nat) : Int) (wordT p q), ?_⟩
    rw [show updA S L a (some (p, q)) = setL L j (some (p, q)) from by unfold updA; rw [if_pos hg, hj0], show grN S a = 1 from if_pos hg]
    exact ⟨l, x.wa.put 2 hj (mayO_some hm), x.lim, x.ok, by omega⟩
  · refine (mark_no t g cb 3 W S B T len f a p q w (Lib.hid x.a.tb) (by omega) (by omega) (Lib.hid (not_gr hg))).mono ?_
    rintro e w' ⟨rfl, hb⟩
    refine ⟨by rw [decide_eq_false hg], Only.of_below hb, s, ?_⟩
    rw [updA_no hg, show grN S a = 0 from if_neg hg]
    exact x.next hb
theorem Sd.take (x : Sd w0 w N W S B T ad len cap f n t g h cb s L oo) (hf : oo < 1000000) (a : Int) :
    Calls Tryd.prog 18 #[.pointer (some ⟨t, 0, none⟩), .int .i64 a] w fun e w' => e = .returned (.tuple #[.agg #[.int .i64 (oxT (qA S L a)), .int .i64 (oyT (qA S L a))], .bool (obT (qA S L a))]) ∧ Only [g, h] w w' ∧ ∃ s', Sd w0 w' N W S B T ad len cap f n t g h cb s' (updA S L a none) (oo + grN S a) := by
  obtain ⟨hn, h1', h2, h3⟩ := x.lim
  obtain ⟨m1, m2⟩ := tw_lim x.wa x.few
  by_cases hg : isGr S a
  · obtain ⟨j, hj0, hj, hjS, ha⟩ := gr_at hg hn
    refine (x.a.take (by omega) (by omega) (by omega) x.ok m1 m2 (by omega) hjS ha (x.wa.rd hj) (x.wa.may hj)).mono ?_
    rintro e w' ⟨rfl, l, o⟩
    refine ⟨by rw [show qA S L a = L j from by unfold qA; rw [if_pos hg, hj0]], o, (s.begun 3 ((3 + j : Nat) : Int)).put ((3 + j : Nat) : Int) 0, ?_⟩
    rw [show updA S L a none = setL L j none from by unfold updA; rw [if_pos hg, hj0], show grN S a = 1 from if_pos hg]
    exact ⟨l, x.wa.put 3 hj mayO_none, x.lim, x.ok, by omega⟩
  · refine (take_no t g cb 3 W S B T len f a w (Lib.hid x.a.tb) (by omega) (by omega) (Lib.hid (not_gr hg))).mono ?_
    rintro e w' ⟨rfl, hb⟩
    refine ⟨by rw [qA_no hg]; rfl, Only.of_below hb, s, ?_⟩
    rw [updA_no hg, show grN S a = 0 from if_neg hg]
    exact x.next hb
theorem Sd.look (x : Sd w0 w N W S B T ad len cap f n t g h cb s L oo) (hf : oo < 1000000) (a : Int) :
    Calls Tryd.prog 19 #[.pointer (some ⟨t, 0, none⟩), .int .i64 a] w fun e w' => e = .returned (.tuple #[.agg #[.int .i64 (oxT (qA S L a)), .int .i64 (oyT (qA S L a))], .bool (obT (qA S L a))]) ∧ Only [g, h] w w' ∧ ∃ s', Sd w0 w' N W S B T ad len cap f n t g h cb s' L (oo + grN S a) := by
  obtain ⟨hn, h1', h2, h3⟩ := x.lim
  obtain ⟨m1, m2⟩ := tw_lim x.wa x.few
  by_cases hg : isGr S a
  · obtain ⟨j, hj0, hj, hjS, ha⟩ := gr_at hg hn
    refine (x.a.look (by omega) (by omega) (by omega) x.ok m1 m2 (by omega) hjS ha (x.wa.rd hj) (x.wa.may hj)).mono ?_
    rintro e w' ⟨rfl, l, o⟩
    have hp : 3 + j < s.ws.length := by have := x.wa.le; omega
    refine ⟨by rw [show qA S L a = L j from by unfold qA; rw [if_pos hg, hj0]], o, s.begun 1 ((3 + j : Nat) : Int), ?_⟩
    rw [show grN S a = 1 from if_pos hg]
    exact ⟨l, x.wa.look 1 hp, x.lim, x.ok, by omega⟩
  · refine (look_no t g cb 3 W S B T len f a w (Lib.hid x.a.tb) (by omega) (by omega) (Lib.hid (not_gr hg))).mono ?_
    rintro e w' ⟨rfl, hb⟩
    refine ⟨by rw [qA_no hg]; rfl, Only.of_below hb, s, ?_⟩
    rw [show grN S a = 0 from if_neg hg]
    exact x.next hb
theorem Sd.count (x : Sd w0 w N W S B T ad len cap f n t g h cb s L oo) : Calls Tryd.prog 15 #[.pointer (some ⟨g, 0, none⟩)] w fun e w' => e = .returned (.int .i64 (oo : Nat)) ∧ w = w' := by
  have := ops_any g h s w x.a.m
  rw [x.wa.ops] at this
  exact this
theorem Sd.fault (x : Sd w0 w N W S B T ad len cap f n t g h cb s L oo) : Calls Tryd.prog 21 #[.pointer (some ⟨g, 0, none⟩)] w fun e w' => e = .returned (.int .i64 0) ∧ w = w' := by
  have := faults_any g h s w x.a.m
  rw [x.wa.fl] at this
  exact this
theorem Sd.all (x : Sd w0 w N W S B T ad len cap f n t g h cb s L oo) : Calls Tryd.prog 20 #[.pointer (some ⟨t, 0, none⟩)] w fun e w' => ∃ v, e = .returned v ∧ IvR w' v (allL S len f L n) ∧ (∀ q, v.ownBlock = some q → w.heap.size ≤ q) ∧ Below w.heap.size w w' := by
  obtain ⟨hn, h1', h2, h3⟩ := x.lim
  exact all13_any t g cb 3 h W S B T len f s n L w (Lib.hid x.a.tb) (Lib.hid x.a.fl) (Lib.hid x.a.m) (by omega) (by omega) (by omega) (Lib.hid x.ok) (by omega) hn (Lib.hid x.wa.lw)
/-- The map is what is live. -/
structure Mp (w : World) (b k : Nat) (S : Int) (len n : Nat) (f : Nat → Int) (L : Nat → Option (Int × Int)) : Prop where
  m : MpT w b k (qA S L) (allL S len f L n).length
theorem Mp.next {b k : Nat} (x : Mp w b k S len n f L) (hb : Below w.heap.size w w') : Mp w' b k S len n f L := ⟨x.m.next hb⟩
theorem Mp.stay {b k : Nat} {q : List Nat} (x : Mp w b k S len n f L) (o : Only q w w') (hq : b ∉ q) : Mp w' b k S len n f L := ⟨x.m.stay o hq⟩
theorem count_upd {a : Int} {q : Option (Int × Int)} (hg : isGr S a) (hn : (n : Int) = S * 64) : (allL S len f (updA S L a q) n).length + (if obT (qA S L a) = true then 1 else 0) = (allL S len f L n).length + (if obT q = true then 1 else 0) := by
  obtain ⟨j, hj0, hj, _, _⟩ := gr_at hg hn
  rw [show updA S L a q = setL L j q from by unfold updA; rw [if_pos hg, hj0], show qA S L a = L j from by unfold qA; rw [if_pos hg, hj0]]
  have := allL_set (S := S) (len := len) (f := f) (L := L) (j := j) (q := q) (k := n)
  simpa [hj] using this
theorem Mp.put {b k : Nat} (x : Mp w b k S len n f L) (a p q : Int) (ha : (Lit.int .i64 a).wf = true) (hk : k < 1048576) (hg : isGr S a) (hn : (n : Int) = S * 64) :
    ∃ w', (Instr.mapUpdate 33 (.map (some b)) (.int .i64 a) (.agg #[.int .i64 p, .int .i64 q])).run Tryd.prog w = .ok () w' ∧ Mp w' b (k + 1) S len n f (updA S L a (some (p, q))) ∧ Only [b] w w' := by
  obtain ⟨w', hrun, h1, h2⟩ := x.m.put a p q ha hk
  refine ⟨w', hrun, ⟨?_⟩, Only.of_grown h2 (fun k hk => by simp at hk; simp [hk])⟩
  have hc := count_upd (S := S) (len := len) (n := n) (f := f) (L := L) (q := some (p, q)) hg hn
  have e1 : (fun j => if j = a then some (p, q) else qA S L j) = qA S (updA S L a (some (p, q))) := by
    funext b
    rw [qA_upd S L a b _ hg]
  have e2 : (if obT (qA S L a) = true then (allL S len f L n).length else (allL S len f L n).length + 1) = (allL S len f (updA S L a (some (p, q))) n).length := by
    rw [show obT (some (p, q)) = true from rfl, if_pos rfl] at hc
    split <;> simp_all <;> omega
  rw [← e1, ← e2]
  exact h1
theorem Mp.del {b k : Nat} (x : Mp w b k S len n f L) (a : Int) (ha : (Lit.int .i64 a).wf = true) (hn : (n : Int) = S * 64) (ty : TypeId) :
    ∃ w', (Builtin.delete_ #[33, 3] ty #[.map (some b), .int .i64 a]).run Tryd.prog w = .ok (.tuple #[]) w' ∧ Mp w' b k S len n f (updA S L a none) ∧ Only [b] w w' := by
  obtain ⟨w', hrun, h1, h2⟩ := x.m.del a ha ty
  refine ⟨w', hrun, ⟨?_⟩, Only.of_grown h2 (fun k hk => by simp at hk; simp [hk])⟩
  by_cases hg : isGr S a
  · have hc := count_upd (S := S) (len := len) (n := n) (f := f) (L := L) (q := none) hg hn
    have e1 : (fun j => if j = a then none else qA S L j) = qA S (updA S L a none) := by
      funext b
      rw [qA_upd S L a b _ hg]
    have e2 : (if obT (qA S L a) = true then (allL S len f L n).length - 1 else (allL S len f L n).length) = (allL S len f (updA S L a none) n).length := by
      rw [show obT none = false from rfl] at hc
      split <;> simp_all <;> omega
    rw [← e1, ← e2]
    exact h1
  · rw [updA_no hg]
    have e1 : (fun j => if j = a then none else qA S L j) = qA S L := by
      funext b
      by_cases e : b = a
      · subst e; rw [if_pos rfl, qA_no hg]
      · rw [if_neg e]
    have e2 : (if obT (qA S L a) = true then (allL S len f L n).length - 1 else (allL S len f L n).length) = (allL S len f L n).length := by rw [qA_no hg]; rfl
    rw [e1, e2] at h1
    exact h1
end
end Go.Proofs.YtchkgmknhndccaaDoor
