/-
  Two tables in one memory, a third one in another: whatever is done to one of the first two, and to the third.
-/
import Derived.Test.YtchkgmknhndccaaDoorLiveW
import Derived.LaidEqlPtr
namespace Go.Proofs.YtchkgmknhndccaaDoor
open Go.RowKit Go.Sort

theorem tabInfo : (Tryd.prog.info? 87).map (·.size) = some 7 := by kernel_rfl
theorem tab_same (w : World) (a : Addr) : (binOp .eql 31 (.pointer (some a)) (.pointer (some a))).run Tryd.prog w = .ok (.bool true) w := by
  obtain ⟨j, hj⟩ : ∃ j, Tryd.prog.info? 87 = some j := by
    have := tabInfo
    cases h : Tryd.prog.info? 87 with
    | none => rw [h] at this; cases this
    | some j => exact ⟨j, rfl⟩
  exact run_eql_ptr_same w a Tryd.underlying31 hj
theorem tab_other (w : World) {x y : Nat} {ca cb : Array Value} {ta tb : TypeId} (hne : x ≠ y) (ha : w.heap[x]? = some (.cells ca ta (0, 0))) (hb : w.heap[y]? = some (.cells cb tb (0, 0))) : (binOp .eql 31 (.pointer (some ⟨x, 0, none⟩)) (.pointer (some ⟨y, 0, none⟩))).run Tryd.prog w = .ok (.bool false) w := by
  obtain ⟨j, hj, hs⟩ : ∃ j, Tryd.prog.info? 87 = some j ∧ j.size = 7 := by
    have := tabInfo
    cases h : Tryd.prog.info? 87 with
    | none => rw [h] at this; cases this
    | some j => rw [h] at this; exact ⟨j, rfl, by simpa using this⟩
  exact run_eql_ptr_other w Tryd.underlying31 hj (by omega) (a := ⟨x, 0, none⟩) (b := ⟨y, 0, none⟩) (fun e => hne (by cases e; rfl)) ha hb
/-- Does a grain begin at an address; what stands there instead. -/
def isGr (S a : Int) : Prop := 65536 ≤ a ∧ a < 65536 + 1024 * S ∧ a % 16 = 0
instance (S a : Int) : Decidable (isGr S a) := by unfold isGr; infer_instance
def updA (S : Int) (L : Nat → Option (Int × Int)) (a : Int) (q : Option (Int × Int)) : Nat → Option (Int × Int) := if isGr S a then setL L ((a - 65536) / 16).toNat q else L
theorem gr_at {S a : Int} {n : Nat} (h : isGr S a) (hn : (n : Int) = S * 64) : ∃ j : Nat, ((a - 65536) / 16).toNat = j ∧ j < n ∧ (j : Int) < 64 * S ∧ a = 65536 + 16 * (j : Int) := by
  obtain ⟨h1, h2, h3⟩ := h
  exact ⟨((a - 65536) / 16).toNat, rfl, by omega, by omega, by omega⟩
theorem not_gr {S a : Int} (h : ¬ isGr S a) : a < 65536 ∨ 65536 + 1024 * S ≤ a ∨ a % 16 ≠ 0 := by unfold isGr at h; omega

/-- A system, two tables in one memory, one in another. -/
structure St (w0 w : World) (N : Nat) (W S B T : Int) (ad : Option Addr) (len cap : Nat) (f : Nat → Int) (n ta ca tb cb g h t1 c1 g1 h1 : Nat) (LA LB L1 : Nat → Option (Int × Int)) (s s1 : MSt) (oo o1 : Nat) : Prop where
  a : Ls w0 w N W S B T ad len cap f ta g h ca 0 s
  b : Ls w0 w N W S B T ad len cap f tb g h cb n s
  c : Ls w0 w N W S B T ad len cap f t1 g1 h1 c1 0 s1
  wa : Tw s 0 n S len LA oo
  wb : Tw s n n S len LB oo
  wc : Tw s1 0 n S len L1 o1
  ab : ta ≠ tb
  x1 : g ≠ t1 ∧ g ≠ c1 ∧ g ≠ g1 ∧ g ≠ h1
  x2 : h ≠ t1 ∧ h ≠ c1 ∧ h ≠ g1 ∧ h ≠ h1
  x3 : ta ≠ g1 ∧ ta ≠ h1 ∧ ca ≠ g1 ∧ ca ≠ h1
  x4 : tb ≠ g1 ∧ tb ≠ h1 ∧ cb ≠ g1 ∧ cb ≠ h1
  lim : (n : Int) = S * 64 ∧ 1 ≤ S ∧ S ≤ 64 ∧ len ≤ 16
  ok : ClsOk len f
  few : oo ≤ 1000000 ∧ o1 ≤ 1000000
section
variable {w0 w w' : World} {N : Nat} {W S B T : Int} {ad : Option Addr} {len cap : Nat} {f : Nat → Int} {n ta ca tb cb g h t1 c1 g1 h1 : Nat} {LA LB L1 : Nat → Option (Int × Int)} {s s1 : MSt} {oo o1 : Nat}
theorem St.next (x : St w0 w N W S B T ad len cap f n ta ca tb cb g h t1 c1 g1 h1 LA LB L1 s s1 oo o1) (hb : Below w.heap.size w w') : St w0 w' N W S B T ad len cap f n ta ca tb cb g h t1 c1 g1 h1 LA LB L1 s s1 oo o1 :=
  ⟨x.a.next hb, x.b.next hb, x.c.next hb, x.wa, x.wb, x.wc, x.ab, x.x1, x.x2, x.x3, x.x4, x.lim, x.ok, x.few⟩
/-- The first two tables' memory has turned. -/
theorem St.turn {LA' LB' : Nat → Option (Int × Int)} {s' : MSt} {oo' : Nat} (x : St w0 w N W S B T ad len cap f n ta ca tb cb g h t1 c1 g1 h1 LA LB L1 s s1 oo o1) (o : Only [g, h] w w') (m : MemAt w' g h s')
    (wa : Tw s' 0 n S len LA' oo') (wb : Tw s' n n S len LB' oo') (hf : oo' ≤ 1000000) : St w0 w' N W S B T ad len cap f n ta ca tb cb g h t1 c1 g1 h1 LA' LB' L1 s' s1 oo' o1 := by
  obtain ⟨l1, l2, l3, l4, l5⟩ := x.a.lo
  obtain ⟨n1, n2, n3, n4, n5, n6⟩ := x.a.ne
  refine ⟨x.a.turn o m, x.b.turn o m, x.c.other o (fun k hk => ?_), wa, wb, x.wc, x.ab, x.x1, x.x2, x.x3, x.x4, x.lim, x.ok, hf, x.few.2⟩
  obtain ⟨p1, p2, p3, p4⟩ := x.x1
  obtain ⟨q1, q2, q3, q4⟩ := x.x2
  simp at hk
  rcases hk with rfl | rfl
  · exact ⟨l4, fun e => n5 e.symm, p1, p3, p4, p2⟩
  · exact ⟨l5, fun e => n6 e.symm, q1, q3, q4, q2⟩
theorem St.turn1 {L1' : Nat → Option (Int × Int)} {s' : MSt} {o1' : Nat} (x : St w0 w N W S B T ad len cap f n ta ca tb cb g h t1 c1 g1 h1 LA LB L1 s s1 oo o1) (o : Only [g1, h1] w w') (m : MemAt w' g1 h1 s')
    (wc : Tw s' 0 n S len L1' o1') (hf : o1' ≤ 1000000) : St w0 w' N W S B T ad len cap f n ta ca tb cb g h t1 c1 g1 h1 LA LB L1' s s' oo o1' := by
  obtain ⟨l1, l2, l3, l4, l5⟩ := x.c.lo
  obtain ⟨n1, n2, n3, n4, n5, n6⟩ := x.c.ne
  obtain ⟨p1, p2, p3, p4⟩ := x.x1
  obtain ⟨q1, q2, q3, q4⟩ := x.x2
  obtain ⟨r1, r2, r3, r4⟩ := x.x3
  obtain ⟨u1, u2, u3, u4⟩ := x.x4
  refine ⟨x.a.other o (fun k hk => ?_), x.b.other o (fun k hk => ?_), x.c.turn o m, x.wa, x.wb, wc, x.ab, x.x1, x.x2, x.x3, x.x4, x.lim, x.ok, x.few.1, hf⟩
  · simp at hk
    rcases hk with rfl | rfl
    · exact ⟨l4, fun e => n5 e.symm, fun e => r1 e.symm, fun e => p3 e.symm, fun e => q3 e.symm, fun e => r3 e.symm⟩
    · exact ⟨l5, fun e => n6 e.symm, fun e => r2 e.symm, fun e => p4 e.symm, fun e => q4 e.symm, fun e => r4 e.symm⟩
  · simp at hk
    rcases hk with rfl | rfl
    · exact ⟨l4, fun e => n5 e.symm, fun e => u1 e.symm, fun e => p3 e.symm, fun e => q3 e.symm, fun e => u3 e.symm⟩
    · exact ⟨l5, fun e => n6 e.symm, fun e => u2 e.symm, fun e => p4 e.symm, fun e => q4 e.symm, fun e => u4 e.symm⟩
theorem tw_lim {s : MSt} {base : Nat} {L : Nat → Option (Int × Int)} {o : Nat} (h : Tw s base n S len L o) (ho : o ≤ 1000000) : s.ops < 4611686018427387904 ∧ s.faults < 4611686018427387904 := ⟨by rw [h.ops]; omega, by rw [h.fl]; omega⟩

/-- A look at one of the first two. -/
theorem St.look (x : St w0 w N W S B T ad len cap f n ta ca tb cb g h t1 c1 g1 h1 LA LB L1 s s1 oo o1) (hf : oo < 1000000) (sd : Bool) (a : Int) :
    Calls Tryd.prog 19 #[.pointer (some ⟨if sd then tb else ta, 0, none⟩), .int .i64 a] w fun e w' => (∃ v, e = .returned v) ∧ Only [g, h] w w' ∧ ∃ s' oo', oo' ≤ oo + 1 ∧ St w0 w' N W S B T ad len cap f n ta ca tb cb g h t1 c1 g1 h1 LA LB L1 s' s1 oo' o1 := by
  obtain ⟨hn, h1', h2, h3⟩ := x.lim
  obtain ⟨m1, m2⟩ := tw_lim x.wa x.few.1
  by_cases hg : isGr S a
  · obtain ⟨j, _, hj, hjS, ha⟩ := gr_at hg hn
    cases sd
    · refine (x.a.look (by omega) (by omega) (by omega) x.ok m1 m2 (by omega) hjS ha (x.wa.rd hj) (x.wa.may hj)).mono ?_
      rintro e w' ⟨rfl, l, o⟩
      have hp : 0 + j < s.ws.length := by have := x.wa.le; omega
      exact ⟨⟨_, rfl⟩, o, _, _, Nat.le_refl _, x.turn o l.m (x.wa.look 1 hp) (x.wb.look 1 hp) (by omega)⟩
    · refine (x.b.look (by omega) (by omega) (by omega) x.ok m1 m2 (by omega) hjS ha (x.wb.rd hj) (x.wb.may hj)).mono ?_
      rintro e w' ⟨rfl, l, o⟩
      have hp : n + j < s.ws.length := by have := x.wb.le; omega
      exact ⟨⟨_, rfl⟩, o, _, _, Nat.le_refl _, x.turn o l.m (x.wa.look 1 hp) (x.wb.look 1 hp) (by omega)⟩
  · have hb : ∀ t c base, Tb w t g c base W S B T len f → Calls Tryd.prog 19 #[.pointer (some ⟨t, 0, none⟩), .int .i64 a] w fun e w' => (∃ v, e = .returned v) ∧ Only [g, h] w w' ∧ ∃ s' oo', oo' ≤ oo + 1 ∧ St w0 w' N W S B T ad len cap f n ta ca tb cb g h t1 c1 g1 h1 LA LB L1 s' s1 oo' o1 := fun t c base hT => by
      refine (look_no t g c base W S B T len f a w (Lib.hid hT) (by omega) (by omega) (Lib.hid (not_gr hg))).mono ?_
      rintro e w' ⟨rfl, hb⟩
      exact ⟨⟨_, rfl⟩, Only.of_below hb, s, oo, by omega, x.next hb⟩
    cases sd
    · exact hb _ _ _ x.a.tb
    · exact hb _ _ _ x.b.tb
/-- One of the first two is marked. -/
theorem St.mark (x : St w0 w N W S B T ad len cap f n ta ca tb cb g h t1 c1 g1 h1 LA LB L1 s s1 oo o1) (hf : oo < 1000000) (sd : Bool) (a p q : Int) (hm : MayT S len p q) :
    Calls Tryd.prog 17 #[.pointer (some ⟨if sd then tb else ta, 0, none⟩), .int .i64 a, .agg #[.int .i64 p, .int .i64 q]] w fun e w' => (∃ v, e = .returned v) ∧ Only [g, h] w w' ∧ ∃ s' oo', oo' ≤ oo + 1 ∧ St w0 w' N W S B T ad len cap f n ta ca tb cb g h t1 c1 g1 h1 (if sd then LA else updA S LA a (some (p, q))) (if sd then updA S LB a (some (p, q)) else LB) L1 s' s1 oo' o1 := by
  obtain ⟨hn, h1', h2, h3⟩ := x.lim
  obtain ⟨m1, m2⟩ := tw_lim x.wa x.few.1
  by_cases hg : isGr S a
  · obtain ⟨j, hj0, hj, hjS, ha⟩ := gr_at hg hn
    have e1 : ∀ L, updA S L a (some (p, q)) = setL L j (some (p, q)) := fun L => by unfold updA; rw [if_pos hg, hj0]
    cases sd
    · refine (x.a.mark (by omega) (by omega) (by omega) x.ok m1 m2 (by omega) hjS ha hm).mono ?_
      rintro e w' ⟨rfl, l, o⟩
      have hp : 0 + j < s.ws.length := by have := x.wa.le; omega
      refine ⟨⟨_, rfl⟩, o, (s.begun 2 ((0 + j : Nat) : Int)).put ((0 + j : Nat) : Int) (wordT p q), oo + 1, Nat.le_refl _, ?_⟩
      rw [if_neg (by simp), if_neg (by simp), e1]
      exact x.turn o l.m (x.wa.put 2 hj (mayO_some hm)) (x.wb.other 2 (wordT p q) hp (by omega)) (by omega)
    · refine (x.b.mark (by omega) (by omega) (by omega) x.ok m1 m2 (by omega) hjS ha hm).mono ?_
      rintro e w' ⟨rfl, l, o⟩
      have hp : n + j < s.ws.length := by have := x.wb.le; omega
      refine ⟨⟨_, rfl⟩, o, (s.begun 2 ((n + j : Nat) : Int)).put ((n + j : Nat) : Int) (wordT p q), oo + 1, Nat.le_refl _, ?_⟩
      rw [if_pos rfl, if_pos rfl, e1]
      exact x.turn o l.m (x.wa.other 2 (wordT p q) hp (by omega)) (x.wb.put 2 hj (mayO_some hm)) (by omega)
  · have e1 : ∀ L, updA S L a (some (p, q)) = L := fun L => by unfold updA; rw [if_neg hg]
    have hb : ∀ t c base, Tb w t g c base W S B T len f → Calls Tryd.prog 17 #[.pointer (some ⟨t, 0, none⟩), .int .i64 a, .agg #[.int .i64 p, .int .i64 q]] w fun e w' => (∃ v, e = .returned v) ∧ Only [g, h] w w' ∧ ∃ s' oo', oo' ≤ oo + 1 ∧ St w0 w' N W S B T ad len cap f n ta ca tb cb g h t1 c1 g1 h1 LA LB L1 s' s1 oo' o1 := fun t c base hT => by
      refine (mark_no t g c base W S B T len f a p q w (Lib.hid hT) (by omega) (by omega) (Lib.hid (not_gr hg))).mono ?_
      rintro e w' ⟨rfl, hb⟩
      exact ⟨⟨_, rfl⟩, Only.of_below hb, s, oo, by omega, x.next hb⟩
    rw [e1, e1, show (if sd = true then LA else LA) = LA from by split <;> rfl, show (if sd = true then LB else LB) = LB from by split <;> rfl]
    cases sd
    · exact hb _ _ _ x.a.tb
    · exact hb _ _ _ x.b.tb
/-- What is live in one of the first two is taken. -/
theorem St.take (x : St w0 w N W S B T ad len cap f n ta ca tb cb g h t1 c1 g1 h1 LA LB L1 s s1 oo o1) (hf : oo < 1000000) (sd : Bool) (a : Int) :
    Calls Tryd.prog 18 #[.pointer (some ⟨if sd then tb else ta, 0, none⟩), .int .i64 a] w fun e w' => (∃ v, e = .returned v) ∧ Only [g, h] w w' ∧ ∃ s' oo', oo' ≤ oo + 1 ∧ St w0 w' N W S B T ad len cap f n ta ca tb cb g h t1 c1 g1 h1 (if sd then LA else updA S LA a none) (if sd then updA S LB a none else LB) L1 s' s1 oo' o1 := by
  obtain ⟨hn, h1', h2, h3⟩ := x.lim
  obtain ⟨m1, m2⟩ := tw_lim x.wa x.few.1
  by_cases hg : isGr S a
  · obtain ⟨j, hj0, hj, hjS, ha⟩ := gr_at hg hn
    have e1 : ∀ L, updA S L a none = setL L j none := fun L => by unfold updA; rw [if_pos hg, hj0]
    cases sd
    · refine (x.a.take (by omega) (by omega) (by omega) x.ok m1 m2 (by omega) hjS ha (x.wa.rd hj) (x.wa.may hj)).mono ?_
      rintro e w' ⟨rfl, l, o⟩
      have hp : 0 + j < s.ws.length := by have := x.wa.le; omega
      refine ⟨⟨_, rfl⟩, o, (s.begun 3 ((0 + j : Nat) : Int)).put ((0 + j : Nat) : Int) 0, oo + 1, Nat.le_refl _, ?_⟩
      rw [if_neg (by simp), if_neg (by simp), e1]
      exact x.turn o l.m (x.wa.put 3 hj mayO_none) (x.wb.other 3 0 hp (by omega)) (by omega)
    · refine (x.b.take (by omega) (by omega) (by omega) x.ok m1 m2 (by omega) hjS ha (x.wb.rd hj) (x.wb.may hj)).mono ?_
      rintro e w' ⟨rfl, l, o⟩
      have hp : n + j < s.ws.length := by have := x.wb.le; omega
      refine ⟨⟨_, rfl⟩, o, (s.begun 3 ((n + j : Nat) : Int)).put ((n + j : Nat) : Int) 0, oo + 1, Nat.le_refl _, ?_⟩
      rw [if_pos rfl, if_pos rfl, e1]
      exact x.turn o l.m (x.wa.other 3 0 hp (by omega)) (x.wb.put 3 hj mayO_none) (by omega)
  · have e1 : ∀ L, updA S L a none = L := fun L => by unfold updA; rw [if_neg hg]
    have hb : ∀ t c base, Tb w t g c base W S B T len f → Calls Tryd.prog 18 #[.pointer (some ⟨t, 0, none⟩), .int .i64 a] w fun e w' => (∃ v, e = .returned v) ∧ Only [g, h] w w' ∧ ∃ s' oo', oo' ≤ oo + 1 ∧ St w0 w' N W S B T ad len cap f n ta ca tb cb g h t1 c1 g1 h1 LA LB L1 s' s1 oo' o1 := fun t c base hT => by
      refine (take_no t g c base W S B T len f a w (Lib.hid hT) (by omega) (by omega) (Lib.hid (not_gr hg))).mono ?_
      rintro e w' ⟨rfl, hb⟩
      exact ⟨⟨_, rfl⟩, Only.of_below hb, s, oo, by omega, x.next hb⟩
    rw [e1, e1, show (if sd = true then LA else LA) = LA from by split <;> rfl, show (if sd = true then LB else LB) = LB from by split <;> rfl]
    cases sd
    · exact hb _ _ _ x.a.tb
    · exact hb _ _ _ x.b.tb
theorem St.mark1 (x : St w0 w N W S B T ad len cap f n ta ca tb cb g h t1 c1 g1 h1 LA LB L1 s s1 oo o1) (hf : o1 < 1000000) (a p q : Int) (hm : MayT S len p q) :
    Calls Tryd.prog 17 #[.pointer (some ⟨t1, 0, none⟩), .int .i64 a, .agg #[.int .i64 p, .int .i64 q]] w fun e w' => (∃ v, e = .returned v) ∧ Only [g1, h1] w w' ∧ ∃ s' o1', o1' ≤ o1 + 1 ∧ St w0 w' N W S B T ad len cap f n ta ca tb cb g h t1 c1 g1 h1 LA LB (updA S L1 a (some (p, q))) s s' oo o1' := by
  obtain ⟨hn, h1', h2, h3⟩ := x.lim
  obtain ⟨m1, m2⟩ := tw_lim x.wc x.few.2
  by_cases hg : isGr S a
  · obtain ⟨j, hj0, hj, hjS, ha⟩ := gr_at hg hn
    have e1 : updA S L1 a (some (p, q)) = setL L1 j (some (p, q)) := by unfold updA; rw [if_pos hg, hj0]
    refine (x.c.mark (by omega) (by omega) (by omega) x.ok m1 m2 (by omega) hjS ha hm).mono ?_
    rintro e w' ⟨rfl, l, o⟩
    refine ⟨⟨_, rfl⟩, o, (s1.begun 2 ((0 + j : Nat) : Int)).put ((0 + j : Nat) : Int) (wordT p q), o1 + 1, Nat.le_refl _, ?_⟩
    rw [e1]
    exact x.turn1 o l.m (x.wc.put 2 hj (mayO_some hm)) (by omega)
  · have e1 : updA S L1 a (some (p, q)) = L1 := by unfold updA; rw [if_neg hg]
    refine (mark_no t1 g1 c1 0 W S B T len f a p q w (Lib.hid x.c.tb) (by omega) (by omega) (Lib.hid (not_gr hg))).mono ?_
    rintro e w' ⟨rfl, hb⟩
    rw [e1]
    exact ⟨⟨_, rfl⟩, Only.of_below hb, s1, o1, by omega, x.next hb⟩
theorem St.take1 (x : St w0 w N W S B T ad len cap f n ta ca tb cb g h t1 c1 g1 h1 LA LB L1 s s1 oo o1) (hf : o1 < 1000000) (a : Int) :
    Calls Tryd.prog 18 #[.pointer (some ⟨t1, 0, none⟩), .int .i64 a] w fun e w' => (∃ v, e = .returned v) ∧ Only [g1, h1] w w' ∧ ∃ s' o1', o1' ≤ o1 + 1 ∧ St w0 w' N W S B T ad len cap f n ta ca tb cb g h t1 c1 g1 h1 LA LB (updA S L1 a none) s s' oo o1' := by
  obtain ⟨hn, h1', h2, h3⟩ := x.lim
  obtain ⟨m1, m2⟩ := tw_lim x.wc x.few.2
  by_cases hg : isGr S a
  · obtain ⟨j, hj0, hj, hjS, ha⟩ := gr_at hg hn
    have e1 : updA S L1 a none = setL L1 j none := by unfold updA; rw [if_pos hg, hj0]
    refine (x.c.take (by omega) (by omega) (by omega) x.ok m1 m2 (by omega) hjS ha (x.wc.rd hj) (x.wc.may hj)).mono ?_
    rintro e w' ⟨rfl, l, o⟩
    refine ⟨⟨_, rfl⟩, o, (s1.begun 3 ((0 + j : Nat) : Int)).put ((0 + j : Nat) : Int) 0, o1 + 1, Nat.le_refl _, ?_⟩
    rw [e1]
    exact x.turn1 o l.m (x.wc.put 3 hj mayO_none) (by omega)
  · have e1 : updA S L1 a none = L1 := by unfold updA; rw [if_neg hg]
    refine (take_no t1 g1 c1 0 W S B T len f a w (Lib.hid x.c.tb) (by omega) (by omega) (Lib.hid (not_gr hg))).mono ?_
    rintro e w' ⟨rfl, hb⟩
    rw [e1]
    exact ⟨⟨_, rfl⟩, Only.of_below hb, s1, o1, by omega, x.next hb⟩
end
end Go.Proofs.YtchkgmknhndccaaDoor
