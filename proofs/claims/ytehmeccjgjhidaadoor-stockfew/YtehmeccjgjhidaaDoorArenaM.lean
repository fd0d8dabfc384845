/-
  Contracts of package arena: Most, End, sizeOf, Cap, Class.
-/
import Derived.Test.YtehmeccjgjhidaaDoorConfM
import Derived.Test.YtehmeccjgjhidaaDoorMaskM
import Derived.Deep.QuietTactic
namespace Go.Proofs.YtehmeccjgjhidaaDoor
open Go.RowKit

theorem ret2_eq {a b c d : Value} (h : a = c) (h2 : b = d) : Ending.returned (.tuple #[a, b]) = .returned (.tuple #[c, d]) := by rw [h, h2]

/-- What is known of the classes of a system that may be. -/
structure ClsOk (len : Nat) (f : Nat → Int) : Prop where
  lo : ∀ i, i < len → 16 ≤ f i
  hi : ∀ i, i < len → f i ≤ 512
  md : ∀ i, i < len → f i % 16 = 0
  up : ∀ i j, i < j → j < len → f i < f j
theorem cls_ok {len : Nat} {f : Nat → Int} (h : clsTo f len = true) : ClsOk len f := by
  have g : ∀ i, i < len → 16 ≤ f i ∧ f i ≤ 512 ∧ f i % 16 = 0 ∧ (i = 0 ∨ f (i - 1) < f i) := fun i hi => by
    have := clsTo_at h hi; simp [clsAt] at this; omega
  refine ⟨fun i hi => (g i hi).1, fun i hi => (g i hi).2.1, fun i hi => (g i hi).2.2.1, fun i j => ?_⟩
  induction j with
  | zero => omega
  | succ j ih =>
    intro h1 h2
    have h3 := (g (j + 1) h2).2.2.2
    simp at h3
    by_cases e : i = j
    · subst e; exact h3
    · have := ih (by omega) (by omega); omega

/-- The size of a class; nought, if there is none. -/
def szI (len : Nat) (f : Nat → Int) (k : Int) : Int := if 0 ≤ k ∧ k < len then f k.toNat else 0
theorem szI_in {len : Nat} {f : Nat → Int} {k : Int} (h0 : 0 ≤ k) (h1 : k < len) : szI len f k = f k.toNat := by simp [szI, h0, h1]
theorem szI_out {len : Nat} {f : Nat → Int} {k : Int} (h : k < 0 ∨ (len : Int) ≤ k) : szI len f k = 0 := by unfold szI; rw [if_neg (by omega)]
theorem szI_nat {len : Nat} {f : Nat → Int} {k : Nat} (h1 : k < len) : szI len f (k : Int) = f k := by rw [szI_in (by omega) (by omega)]; simp
theorem szI_bd {len : Nat} {f : Nat → Int} {k : Int} (h : ClsOk len f) : szI len f k = 0 ∨ 16 ≤ szI len f k ∧ szI len f k ≤ 512 ∧ szI len f k % 16 = 0 ∧ 0 ≤ k ∧ k < len := by
  unfold szI
  split
  · rename_i hk
    have hl : k.toNat < len := by omega
    exact .inr ⟨h.lo _ hl, h.hi _ hl, h.md _ hl, hk.1, hk.2⟩
  · exact .inl rfl

theorem sizeOf_any (W S B T : Int) (ad : Option Addr) (len cap : Nat) (f : Nat → Int) (k : Int) (w : World) (hr : Hid (RowI w ad len f)) :
    Calls Tryd.prog 29 #[.agg #[.int .i64 W, .int .i64 S, .int .i64 B, .int .i64 T, .slice ad len cap], .int .i64 k] w fun e w' => e = .returned (.int .i64 (szI len f k)) ∧ Below w.heap.size w w' := by
  have hb := below_alloc w (.cells #[.int .i64 W, .int .i64 S, .int .i64 B, .int .i64 T, .slice ad len cap] 24)
  have HB := Lib.hid hb
  have HR := Lib.hid (hr.out.next hb)
  clear hb
  by_cases h0 : k < 0
  · have d0 : decide (k < 0) = true := by simpa using h0
    have HZ := Lib.hid (szI_out (len := len) (f := f) (.inl h0))
    go_enter Tryd.func29, Tryd.ntmps29
    go_wp2
    go_ret
    exact ⟨by rw [HZ.out]; first | done | rfl, HB.out⟩
  · have d0 : decide (k < 0) = false := by simpa using h0
    by_cases h1 : (len : Int) ≤ k
    · have d1 : decide ((len : Int) ≤ k) = true := by simpa using h1
      have HZ := Lib.hid (szI_out (len := len) (f := f) (.inr h1))
      go_enter Tryd.func29, Tryd.ntmps29
      go_wp2
      go_ret
      exact ⟨by rw [HZ.out]; first | done | rfl, HB.out⟩
    · have d1 : decide ((len : Int) ≤ k) = false := by simpa using h1
      obtain ⟨n, rfl⟩ := Int.eq_ofNat_of_zero_le (show 0 ≤ k by omega)
      have hn : n < len := by omega
      have l2 : (n : Int) < (len : Int) := by omega
      have HZ := Lib.hid (szI_nat (f := f) hn)
      obtain ⟨b, off, rfl, hc⟩ := HR.out.at hn
      go_enter Tryd.func29, Tryd.ntmps29
      go_wp2
      go_ret
      exact ⟨by rw [HZ.out]; first | done | rfl, HB.out⟩

def capI (len : Nat) (f : Nat → Int) (k : Int) : Int := if szI len f k < 1 then 0 else 1024 / szI len f k
theorem capI_bd {len : Nat} {f : Nat → Int} {k : Int} (h : ClsOk len f) : 0 ≤ capI len f k ∧ capI len f k ≤ 64 := by
  unfold capI
  rcases szI_bd (k := k) h with h | h
  · rw [h]; simp
  · rw [if_neg (by omega)]
    refine ⟨Int.ediv_nonneg (by omega) (by omega), ?_⟩
    have := Int.ediv_lt_of_lt_mul (a := 1024) (b := 65) (c := szI len f k) (by omega) (by omega)
    omega
theorem cap_any (W S B T : Int) (ad : Option Addr) (len cap : Nat) (f : Nat → Int) (k : Int) (w : World) (hr : Hid (RowI w ad len f)) (ok : Hid (ClsOk len f)) :
    Calls Tryd.prog 28 #[.agg #[.int .i64 W, .int .i64 S, .int .i64 B, .int .i64 T, .slice ad len cap], .int .i64 k] w fun e w' => e = .returned (.int .i64 (capI len f k)) ∧ Below w.heap.size w w' := by
  have hb := below_alloc w (.cells #[.int .i64 W, .int .i64 S, .int .i64 B, .int .i64 T, .slice ad len cap] 24)
  have HB := Lib.hid hb
  have HR := Lib.hid (hr.out.next hb)
  have HC : Hid (capI len f k = if szI len f k < 1 then 0 else 1024 / szI len f k) := rfl
  have hz := szI_bd (k := k) ok.out
  clear hb
  go_enter Tryd.func28, Tryd.ntmps28
  go_wp2_with fail
  refine (sizeOf_any W S B T ad len cap f k _ HR).mono ?_
  rintro e w1 ⟨rfl, hb⟩
  have HB2 := Lib.hid (below_after HB.out hb)
  clear hb
  generalize szI len f k = z at *
  by_cases h1 : z < 1
  · have d1 : decide (z < 1) = true := by simpa using h1
    have HE : Hid (capI len f k = 0) := by show capI len f k = 0; rw [HC.out, if_pos h1]
    clear HC hz
    go_wp2
    go_ret
    exact ⟨by rw [HE.out]; first | done | rfl, HB2.out⟩
  · have d1 : decide (z < 1) = false := by simpa using h1
    have HE : Hid (capI len f k = 1024 / z) := by show capI len f k = _; rw [HC.out, if_neg h1]
    have z0 : 0 < z := by omega
    have z1 : z ≤ 512 := by omega
    clear HC hz
    go_wp2
    go_ret
    exact ⟨by rw [HE.out]; first | done | rfl, HB2.out⟩

/-- The first class that is great enough, or none. -/
theorem class_case (f : Nat → Int) (size : Int) : ∀ n : Nat, (∀ j, j < n → f j < size) ∨ ∃ i, i < n ∧ size ≤ f i ∧ ∀ j, j < i → f j < size
  | 0 => .inl fun j h => by omega
  | n + 1 => by
    rcases class_case f size n with h | ⟨i, h1, h2, h3⟩
    · by_cases e : size ≤ f n
      · exact .inr ⟨n, by omega, e, h⟩
      · refine .inl fun j hj => ?_
        by_cases k : j = n
        · subst k; omega
        · exact h j (by omega)
    · exact .inr ⟨i, by omega, h2, h3⟩

end Go.Proofs.YtehmeccjgjhidaaDoor

/-
  Contracts of package arena: Run, Place, All, Address.
-/
namespace Go.Proofs.YtehmeccjgjhidaaDoor
open Go.RowKit

def runI (S size : Int) : Int := if 1024 * S < size then 0 else (size - 1) / 1024 + 1
/-- Where a block begins. -/
def adrI (S : Int) (len : Nat) (f : Nat → Int) (k s i : Int) : Int := if s < 0 ∨ S ≤ s ∨ i < 0 ∨ capI len f k ≤ i then 0 else 65536 + 1024 * s + i * szI len f k

/-- Two numbers in a block. -/
def Two5 (w : World) (N : Nat) (t : TypeId) (a b : Int) : Prop := w.heap[N]? = some (.cells #[.int .i64 a, .int .i64 b] t (0, 0))
theorem Two5.lt {w : World} {N : Nat} {t : TypeId} {a b : Int} (h : Two5 w N t a b) : N < w.heap.size := (Array.getElem?_eq_some_iff.1 h).1
theorem Two5.next {w w' : World} {N : Nat} {t : TypeId} {a b : Int} (h : Two5 w N t a b) (hb : Below w.heap.size w w') : Two5 w' N t a b := (hb.block N h.lt).trans h
theorem Two5.new (w : World) (t : TypeId) (a b : Int) : Two5 (w.alloc (.cells #[.int .i64 a, .int .i64 b] t)) w.heap.size t a b := by
  show (w.heap.push _)[w.heap.size]? = _
  rw [Array.getElem?_push, if_pos rfl]
theorem Two5.cells {w : World} {N : Nat} {t : TypeId} {a b : Int} (h : Two5 w N t a b) : w.cell? ⟨N, 0, none⟩ = some (.int .i64 a) ∧ w.cell? ⟨N, 1, none⟩ = some (.int .i64 b) := by
  unfold Two5 at h
  refine ⟨?_, ?_⟩ <;> simp [World.cell?, h]

theorem below_d {N : Nat} {w w1 : World} (h : Below N w w1) (n : Nat) : Below N w (w1.drewN n) := ⟨h.os, h.tape, h.output, h.size, h.block⟩

set_option maxHeartbeats 1000000 in
theorem address_any (W S B T : Int) (ad : Option Addr) (len cap : Nat) (f : Nat → Int) (k s i : Int) (w : World) (hr : Hid (RowI w ad len f)) (ok : Hid (ClsOk len f)) (s0 : 0 ≤ S) (s1 : S ≤ 1000) :
    Calls Tryd.prog 18 #[.agg #[.int .i64 W, .int .i64 S, .int .i64 B, .int .i64 T, .slice ad len cap], .int .i64 k, .agg #[.int .i64 s, .int .i64 i]] w fun e w' => e = .returned (.int .i64 (adrI S len f k s i)) ∧ Below w.heap.size w w' := by
  have hb1 := below_alloc w (.cells #[.int .i64 W, .int .i64 S, .int .i64 B, .int .i64 T, .slice ad len cap] 24)
  have hb2 := below_alloc (w.alloc (.cells #[.int .i64 W, .int .i64 S, .int .i64 B, .int .i64 T, .slice ad len cap] 24)) (.cells #[.int .i64 s, .int .i64 i] 32)
  have HB := Lib.hid (below_after hb1 hb2)
  have HR := Lib.hid (hr.out.next (below_after hb1 hb2))
  have C0 := Lib.hid (cfg_next (cfg_new w W S B T (.slice ad len cap)) hb2)
  have D0' := Two5.new (w.alloc (.cells #[.int .i64 W, .int .i64 S, .int .i64 B, .int .i64 T, .slice ad len cap] 24)) 32 s i
  rw [show (w.alloc (.cells #[.int .i64 W, .int .i64 S, .int .i64 B, .int .i64 T, .slice ad len cap] 24)).heap.size = w.heap.size + 1 from by simp] at D0'
  have D0 := Lib.hid D0'
  clear hb1 hb2 D0'
  have HA : Hid (adrI S len f k s i = if s < 0 ∨ S ≤ s ∨ i < 0 ∨ capI len f k ≤ i then 0 else 65536 + 1024 * s + i * szI len f k) := rfl
  go_enter Tryd.func18, Tryd.ntmps18
  go_wp2_with fail
  generalize (w.alloc (.cells #[.int .i64 W, .int .i64 S, .int .i64 B, .int .i64 T, .slice ad len cap] 24)).alloc (.cells #[.int .i64 s, .int .i64 i] 32) = w0 at *
  generalize hN : w.heap.size = N at *
  obtain ⟨c0, c1, c2, c3, c4⟩ := cfg_cells C0.out
  obtain ⟨b0, b1⟩ := D0.out.cells
  by_cases h0 : s < 0
  · have d0 : decide (s < 0) = true := by simpa using h0
    go_quiet (fail)
    go_wp2
    go_ret
    exact ⟨by rw [HA.out, if_pos (.inl h0)]; first | done | rfl, by first | exact below_d HB.out _ | (rw [hN]; exact below_d HB.out _)⟩
  · have d0 : decide (s < 0) = false := by simpa using h0
    by_cases h1 : S ≤ s
    · have d1 : decide (S ≤ s) = true := by simpa using h1
      go_quiet (fail)
      go_wp2
      go_ret
      exact ⟨by rw [HA.out, if_pos (.inr (.inl h1))]; first | done | rfl, by first | exact below_d HB.out _ | (rw [hN]; exact below_d HB.out _)⟩
    · have d1 : decide (S ≤ s) = false := by simpa using h1
      by_cases h2 : i < 0
      · have d2 : decide (i < 0) = true := by simpa using h2
        go_quiet (fail)
        go_wp2
        go_ret
        exact ⟨by rw [HA.out, if_pos (.inr (.inr (.inl h2)))]; first | done | rfl, by first | exact below_d HB.out _ | (rw [hN]; exact below_d HB.out _)⟩
      · have d2 : decide (i < 0) = false := by simpa using h2
        have lN : N + 1 < w0.drew.heap.size := D0.out.lt
        have lN' : N < w0.drew.heap.size := by omega
        have HRd : Hid (RowI w0.drew ad len f) := HR.out
        have HCP := Lib.hid (fun w hr => cap_any W S B T ad len cap f k w hr ok)
        have HSZ := Lib.hid (fun w hr => sizeOf_any W S B T ad len cap f k w hr)
        have hcb := capI_bd (k := k) ok.out
        have hzb := szI_bd (k := k) ok.out
        generalize capI len f k = R at *
        generalize szI len f k = z at *
        go_region_held3 (fun w' => w'.cell? ⟨N, 0, none⟩ = some (.int .i64 W) ∧ w'.cell? ⟨N, 1, none⟩ = some (.int .i64 S) ∧ w'.cell? ⟨N, 2, none⟩ = some (.int .i64 B) ∧ w'.cell? ⟨N, 3, none⟩ = some (.int .i64 T) ∧ w'.cell? ⟨N, 4, none⟩ = some (.slice ad len cap) ∧ w'.cell? ⟨N + 1, 0, none⟩ = some (.int .i64 s) ∧ w'.cell? ⟨N + 1, 1, none⟩ = some (.int .i64 i)) (first | (go_keep; done) | with_reducible exact ⟨s0', s1', s2, s3, s4, s5, s6⟩) ((first | (go_at_call 28; refine (HCP.out _ HRd).mono ?_; rintro e w3 ⟨rfl, hb3⟩; have s0' := (hb3.cell (p := ⟨N, 0, none⟩) lN').trans c0; have s1' := (hb3.cell (p := ⟨N, 1, none⟩) lN').trans c1; have s2 := (hb3.cell (p := ⟨N, 2, none⟩) lN').trans c2; have s3 := (hb3.cell (p := ⟨N, 3, none⟩) lN').trans c3; have s4 := (hb3.cell (p := ⟨N, 4, none⟩) lN').trans c4; have s5 := (hb3.cell (p := ⟨N + 1, 0, none⟩) lN).trans b0; have s6 := (hb3.cell (p := ⟨N + 1, 1, none⟩) lN).trans b1)))
        have HB3 : Hid (Below N w w3) := below_drew2 HB.out (Nat.le_of_lt lN') hb3
        have HR3 : Hid (RowI w3 ad len f) := HRd.out.next hb3
        have l3 : N + 1 < w3.drew.heap.size := Nat.lt_of_lt_of_le lN hb3.size
        have l3' : N < w3.drew.heap.size := by omega
        have HR3d : Hid (RowI w3.drew ad len f) := HR3.out
        clear hb3 c0 c1 c2 c3 c4 b0 b1 C0 D0 lN lN' HRd HR HR3
        by_cases h3 : R ≤ i
        · have d3 : decide (R ≤ i) = true := by simpa using h3
          go_wp2
          go_ret
          exact ⟨by rw [HA.out, if_pos (.inr (.inr (.inr h3)))]; first | done | rfl, by first | exact HB3.out | (rw [hN]; exact HB3.out)⟩
        · have d3 : decide (R ≤ i) = false := by simpa using h3
          have i1 : 0 ≤ i := by omega
          have i2 : i ≤ 63 := by omega
          have z1 : 0 ≤ z := by omega
          have z2 : z ≤ 512 := by omega
          have p1 : 0 ≤ i * z := Int.mul_nonneg i1 z1
          have p2 : i * z ≤ 63 * 512 := Int.mul_le_mul i2 z2 z1 (by omega)
          have hw1 : IntKind.i64.wrap (s * 1024) = s * 1024 := by rw [IntKind.wrap_i64]; omega
          have hw2 : IntKind.i64.wrap (65536 + s * 1024) = 65536 + s * 1024 := by rw [IntKind.wrap_i64]; omega
          have hw3 : IntKind.i64.wrap (i * z) = i * z := by rw [IntKind.wrap_i64]; omega
          have hw4 : IntKind.i64.wrap (65536 + s * 1024 + i * z) = 65536 + 1024 * s + i * z := by rw [IntKind.wrap_i64]; omega
          have HE : Hid (adrI S len f k s i = 65536 + 1024 * s + i * z) := by show _ = _; rw [HA.out, if_neg (by omega)]
          clear HA hzb hcb
          go_wp2
          go_region_held3 (fun w' => w'.cell? ⟨N, 0, none⟩ = some (.int .i64 W) ∧ w'.cell? ⟨N, 1, none⟩ = some (.int .i64 S) ∧ w'.cell? ⟨N, 2, none⟩ = some (.int .i64 B) ∧ w'.cell? ⟨N, 3, none⟩ = some (.int .i64 T) ∧ w'.cell? ⟨N, 4, none⟩ = some (.slice ad len cap) ∧ w'.cell? ⟨N + 1, 0, none⟩ = some (.int .i64 s) ∧ w'.cell? ⟨N + 1, 1, none⟩ = some (.int .i64 i)) (first | (go_keep; done) | with_reducible exact ⟨t0, t1, t2, t3, t4, t5, t6⟩) ((first | (go_at_call 29; refine (HSZ.out _ HR3d).mono ?_; rintro e w4 ⟨rfl, hb4⟩; have t0 := (hb4.cell (p := ⟨N, 0, none⟩) l3').trans s0'; have t1 := (hb4.cell (p := ⟨N, 1, none⟩) l3').trans s1'; have t2 := (hb4.cell (p := ⟨N, 2, none⟩) l3').trans s2; have t3 := (hb4.cell (p := ⟨N, 3, none⟩) l3').trans s3; have t4 := (hb4.cell (p := ⟨N, 4, none⟩) l3').trans s4; have t5 := (hb4.cell (p := ⟨N + 1, 0, none⟩) l3).trans s5; have t6 := (hb4.cell (p := ⟨N + 1, 1, none⟩) l3).trans s6)))
          have HB4 : Hid (Below N w w4) := below_drew2 HB3.out (Nat.le_of_lt l3') hb4
          go_wp2
          go_ret
          exact ⟨by rw [HE.out]; first | done | rfl, by first | exact HB4.out | (rw [hN]; exact HB4.out)⟩
end Go.Proofs.YtehmeccjgjhidaaDoor

/-
  Contracts of package arena: Block.
-/
namespace Go.Proofs.YtehmeccjgjhidaaDoor
open Go.RowKit

theorem Two5.fz {w : World} {N : Nat} {t : TypeId} {a b : Int} (h : Two5 w N t a b) (j : Nat) : w.frozen? ⟨N, j, none⟩ = false := by
  unfold Two5 at h; simp [World.frozen?, h]
theorem Two5.set {w : World} {N : Nat} {t : TypeId} {a b : Int} (h : Two5 w N t a b) (c d : Int) : Two5 ((w.setCell ⟨N, 0, none⟩ (.int .i64 c)).setCell ⟨N, 1, none⟩ (.int .i64 d)) N t c d := by
  have := h.lt
  unfold Two5 at *
  simp [World.setCell, Array.getElem?_modify, h]

/-- The block of a class that begins at an address, or none. -/
def blkB (S : Int) (len : Nat) (f : Nat → Int) (k a : Int) : Bool :=
  decide (65536 ≤ a) && decide (a < 65536 + 1024 * S) && decide ((a - 65536) % 1024 % szI len f k = 0) && decide ((a - 65536) % 1024 / szI len f k < capI len f k)
def blkV (z a : Int) (b : Bool) : Value := if b then .tuple #[.agg #[.int .i64 ((a - 65536) / 1024), .int .i64 ((a - 65536) % 1024 / z)], .bool true] else .tuple #[.agg #[.int .i64 0, .int .i64 0], .bool false]
theorem blk_mod {a z : Int} (hz : z % 16 = 0) (h : a % 1024 % z = 0) : a % 16 = 0 := by
  have h1 : (a % 1024) % 16 = 0 := by
    obtain ⟨q, hq⟩ := Int.dvd_of_emod_eq_zero h
    obtain ⟨r, hr⟩ := Int.dvd_of_emod_eq_zero hz
    rw [hq, hr, Int.mul_assoc]; exact Int.mul_emod_right _ _
  omega
theorem blk_no_place {S : Int} {len : Nat} {f : Nat → Int} {k a : Int} (ok : ClsOk len f) (h : a < 65536 ∨ 65536 + 1024 * S ≤ a ∨ a % 16 ≠ 0) : blkB S len f k a = false := by
  rcases hb : blkB S len f k a with _ | _
  · rfl
  · simp only [blkB, Bool.and_eq_true, decide_eq_true_eq] at hb
    obtain ⟨⟨⟨h1, h2⟩, h3⟩, h4⟩ := hb
    rcases h with h | h | h
    · omega
    · omega
    · rcases szI_bd (k := k) ok with hz | hz
      · exfalso
        have : capI len f k = 0 := by unfold capI; rw [if_pos (by omega)]
        rw [this, hz, Int.ediv_zero] at h4; omega
      · have := blk_mod hz.2.2.1 h3; omega
theorem blk_no_cap {S : Int} {len : Nat} {f : Nat → Int} {k a : Int} (ok : ClsOk len f) (h : capI len f k = 0) : blkB S len f k a = false := by
  rcases hb : blkB S len f k a with _ | _
  · rfl
  · simp only [blkB, Bool.and_eq_true, decide_eq_true_eq] at hb
    obtain ⟨⟨⟨h1, h2⟩, h3⟩, h4⟩ := hb
    have : 0 ≤ (a - 65536) % 1024 / szI len f k := Int.ediv_nonneg (by omega) (by have := szI_bd (k := k) ok; omega)
    omega
theorem blk_iff {S : Int} {len : Nat} {f : Nat → Int} {k a : Int} (ok : ClsOk len f) (h0 : 65536 ≤ a) (h1 : a < 65536 + 1024 * S) (hc : capI len f k ≠ 0) :
    blkB S len f k a = (adrI S len f k ((a - 65536) / 1024) ((a - 65536) % 1024 / szI len f k) == a) := by
  have hz := szI_bd (k := k) ok
  have hz0 : szI len f k ≠ 0 := fun e => hc (by unfold capI; rw [if_pos (by omega)])
  rw [Bool.eq_iff_iff]
  simp only [blkB, adrI, Bool.and_eq_true, decide_eq_true_eq, beq_iff_eq]
  generalize capI len f k = R at *
  generalize szI len f k = z at *
  have hd := Int.mul_ediv_add_emod ((a - 65536) % 1024) z
  have hq : 0 ≤ (a - 65536) % 1024 / z := Int.ediv_nonneg (by omega) (by omega)
  rw [Int.mul_comm] at hd
  generalize (a - 65536) % 1024 / z = q at *
  generalize (a - 65536) % 1024 % z = r at *
  constructor
  · rintro ⟨⟨⟨_, _⟩, h3⟩, h4⟩
    rw [if_neg (by omega)]
    generalize q * z = p at *
    omega
  · intro h
    split at h
    · omega
    · rename_i hn
      refine ⟨⟨⟨h0, h1⟩, ?_⟩, by omega⟩
      generalize q * z = p at *
      omega

end Go.Proofs.YtehmeccjgjhidaaDoor

/-
  Contracts of the document's own arena: Class, Run, Cap, Address.
-/
namespace Go.Proofs.YtehmeccjgjhidaaDoor
open Go.RowKit

theorem vint_eq {k : IntKind} {a b : Int} (h : a = b) : Value.int k a = .int k b := by rw [h]

def bestI (len i j : Nat) : Int := if j = len then -1 else if i ≤ j then j else i
theorem cap_div {z n : Int} (hz : 0 < z) (h1 : n * z ≤ 1024) (h2 : 1024 < n * z + z) : 1024 / z = n := by
  have h3 : n ≤ 1024 / z := Int.le_ediv_of_mul_le hz h1
  have h4 : 1024 / z < n + 1 := Int.ediv_lt_of_lt_mul hz (by rw [Int.add_mul, Int.one_mul]; exact h2)
  omega
end Go.Proofs.YtehmeccjgjhidaaDoor

/-
  Contracts of the document's own arena: Address, Block.
-/
namespace Go.Proofs.YtehmeccjgjhidaaDoor
open Go.RowKit

theorem adr_at {S : Int} {len : Nat} {f : Nat → Int} {k a s i : Int} (ok : ClsOk len f) (s0 : 0 ≤ s) (s1 : s < S) (i0 : 0 ≤ i) (i1 : i < capI len f k) :
    adrI S len f k s i = a ↔ (blkB S len f k a = true ∧ s = (a - 65536) / 1024 ∧ i = (a - 65536) % 1024 / szI len f k) := by
  have hz := szI_bd (k := k) ok
  have hz0 : szI len f k ≠ 0 := fun e => by
    have : capI len f k = 0 := by unfold capI; rw [if_pos (by omega)]
    omega
  have hc : capI len f k = 1024 / szI len f k := by unfold capI; rw [if_neg (by omega)]
  simp only [blkB, adrI, Bool.and_eq_true, decide_eq_true_eq]
  rw [if_neg (by omega)]
  generalize hR : capI len f k = R at *
  generalize szI len f k = z at *
  have hz1 : 0 < z := by omega
  have hmul : R * z ≤ 1024 := by rw [hc]; exact Int.ediv_mul_le _ hz0
  have hiz : i * z + z ≤ R * z := by
    have : (i + 1) * z ≤ R * z := Int.mul_le_mul_of_nonneg_right (by omega) (by omega)
    rw [Int.add_mul, Int.one_mul] at this; exact this
  have hi0 : 0 ≤ i * z := Int.mul_nonneg i0 (by omega)
  constructor
  · intro h
    have e1 : (a - 65536) / 1024 = s := by omega
    have e2 : (a - 65536) % 1024 = i * z := by omega
    rw [e1, e2]
    refine ⟨⟨⟨⟨by omega, by omega⟩, Int.mul_emod_left i z⟩, ?_⟩, rfl, ?_⟩
    · rw [Int.mul_ediv_cancel _ hz0]; exact i1
    · rw [Int.mul_ediv_cancel _ hz0]
  · rintro ⟨⟨⟨⟨h1, h2⟩, h3⟩, h4⟩, h5, h6⟩
    have hd := Int.mul_ediv_add_emod ((a - 65536) % 1024) z
    rw [h3, ← h6, Int.mul_comm] at hd
    omega

/-- The state of the search for a block. -/
structure Bk (w0 w : World) (N : Nat) (W S B T : Int) (ad : Option Addr) (len cap : Nat) (f : Nat → Int) : Prop where
  c : Cfg5 w N W S B T (.slice ad len cap)
  d : Two5 w (N + 1) 32 0 0
  r : RowI w ad len f
  b : Below N w0 w
theorem Bk.next {w0 w w' : World} {N : Nat} {W S B T : Int} {ad : Option Addr} {len cap : Nat} {f : Nat → Int} (h : Bk w0 w N W S B T ad len cap f) (hb : Below w.heap.size w w') : Bk w0 w' N W S B T ad len cap f :=
  ⟨cfg_next h.c hb, h.d.next hb, h.r.next hb, h.b.trans (hb.mono (Nat.le_of_lt (cfg_lt h.c)))⟩

end Go.Proofs.YtehmeccjgjhidaaDoor

/-
  The example of layer 5's statements; a system that the walks of layer 5 carry along.
-/
namespace Go.Proofs.YtehmeccjgjhidaaDoor
open Go.RowKit

def fS : Nat → Int := fun j => if j = 0 then 16 else 64
theorem fS_ok : ClsOk 2 fS := by
  refine ⟨?_, ?_, ?_, ?_⟩
  · intro i hi; unfold fS; split <;> decide
  · intro i hi; unfold fS; split <;> decide
  · intro i hi; unfold fS; split <;> decide
  · intro i j h1 h2; obtain ⟨rfl, rfl⟩ : i = 0 ∧ j = 1 := by omega
    decide
theorem row_S {w : World} {b : Nat} (h : w.heap[b]? = some (.cells #[.int .i64 16, .int .i64 64] 3 (0, 0))) : RowI w (some ⟨b, 0, none⟩) 2 fS := fun _ => by
  refine ⟨b, 0, rfl, (Array.getElem?_eq_some_iff.1 h).1, fun j hj => ?_⟩
  rcases (by omega : j = 0 ∨ j = 1) with rfl | rfl
  · simp [World.cell?, h]; rfl
  · simp [World.cell?, h]; rfl
section
variable (b : Nat) (w : World) (hr : RowI w (some ⟨b, 0, none⟩) 2 fS)
include hr
theorem s5_address : Calls Tryd.prog 18 #[.agg #[.int .i64 1, .int .i64 2, .int .i64 1, .int .i64 0, .slice (some ⟨b, 0, none⟩) 2 2], .int .i64 1, .agg #[.int .i64 1, .int .i64 2]] w fun e w' => e = .returned (.int .i64 66688) ∧ Below w.heap.size w w' := by
  have := address_any 1 2 1 0 _ 2 2 fS 1 1 2 w hr fS_ok (by decide) (by decide)
  rw [show adrI 2 2 fS 1 1 2 = 66688 from by decide] at this
  exact this
end
/-- A system in its box, its classes, and what lay there before. -/
structure Ar (w0 w : World) (N : Nat) (W S B T : Int) (ad : Option Addr) (len cap : Nat) (f : Nat → Int) : Prop where
  c : Cfg5 w N W S B T (.slice ad len cap)
  r : RowI w ad len f
  b : Below N w0 w
theorem Ar.next {w0 w w' : World} {N : Nat} {W S B T : Int} {ad : Option Addr} {len cap : Nat} {f : Nat → Int} (h : Ar w0 w N W S B T ad len cap f) (hb : Below w.heap.size w w') : Ar w0 w' N W S B T ad len cap f :=
  ⟨cfg_next h.c hb, h.r.next hb, h.b.trans (hb.mono (Nat.le_of_lt (cfg_lt h.c)))⟩
theorem Ar.drew {w0 w : World} {N : Nat} {W S B T : Int} {ad : Option Addr} {len cap : Nat} {f : Nat → Int} (h : Ar w0 w N W S B T ad len cap f) : Ar w0 w.drew N W S B T ad len cap f := ⟨h.c, h.r, h.b.drew⟩
theorem Ar.start {w : World} {W S B T : Int} {ad : Option Addr} {len cap : Nat} {f : Nat → Int} (h : RowI w ad len f) : Ar w (w.alloc (.cells #[.int .i64 W, .int .i64 S, .int .i64 B, .int .i64 T, .slice ad len cap] 24)) w.heap.size W S B T ad len cap f :=
  ⟨cfg_new w W S B T _, h.next (below_alloc _ _), below_alloc _ _⟩
theorem Ar.lt {w0 w : World} {N : Nat} {W S B T : Int} {ad : Option Addr} {len cap : Nat} {f : Nat → Int} (h : Ar w0 w N W S B T ad len cap f) : N < w.heap.size := cfg_lt h.c

end Go.Proofs.YtehmeccjgjhidaaDoor
