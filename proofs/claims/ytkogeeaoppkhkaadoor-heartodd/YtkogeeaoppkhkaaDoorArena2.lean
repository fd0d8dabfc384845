/-
  Contracts of package arena: Run, Place, All, Address.
-/
import Derived.Test.YtkogeeaoppkhkaaDoorArena1
import Derived.Test.YtkogeeaoppkhkaaDoorMask2
import Derived.Deep.QuietTactic
namespace Go.Proofs.YtkogeeaoppkhkaaDoor
open Go.RowKit

def runI (S size : Int) : Int := if 1024 * S < size then 0 else (size - 1) / 1024 + 1
theorem all5_any (W S B T : Int) (ad : Option Addr) (len cap : Nat) (f : Nat → Int) (k : Int) (w : World) (hr : Hid (RowI w ad len f)) (ok : Hid (ClsOk len f)) :
    Calls Tryd.prog 81 #[.agg #[.int .i64 W, .int .i64 S, .int .i64 B, .int .i64 T, .slice ad len cap], .int .i64 k] w fun e w' => e = .returned (.int .u64 (Ma.lowN (capI len f k).toNat : Nat)) ∧ Below w.heap.size w w' := by
  have hb := below_alloc w (.cells #[.int .i64 W, .int .i64 S, .int .i64 B, .int .i64 T, .slice ad len cap] 24)
  have HB := Lib.hid hb
  have HR := Lib.hid (hr.out.next hb)
  obtain ⟨q0, q1⟩ := capI_bd (k := k) ok.out
  clear hb
  go_enter Tryd.func81, Tryd.ntmps81
  go_wp2_with fail
  refine (cap_any W S B T ad len cap f k _ HR ok).mono ?_
  rintro e w1 ⟨rfl, hb⟩
  have HB2 := Lib.hid (below_after HB.out hb)
  clear hb
  go_wp2_with fail
  refine (low_yes _ _ q0 q1).mono ?_
  rintro e w2 ⟨rfl, rfl⟩
  go_wp2_with fail
  go_ret
  exact ⟨rfl, HB2.out⟩

/-- Where a block begins. -/
def adrI (S : Int) (len : Nat) (f : Nat → Int) (k s i : Int) : Int := if s < 0 ∨ S ≤ s ∨ i < 0 ∨ capI len f k ≤ i then 0 else 65536 + 1024 * s + i * szI len f k

/-- Two numbers in a block. -/
def Two5 (w : World) (N : Nat) (t : TypeId) (a b : Int) : Prop := w.heap[N]? = some (.cells #[.int .i64 a, .int .i64 b] t (0, 0))
theorem Two5.lt {w : World} {N : Nat} {t : TypeId} {a b : Int} (h : Two5 w N t a b) : N < w.heap.size := (Array.getElem?_eq_some_iff.1 h).1
theorem Two5.next {w w' : World} {N : Nat} {t : TypeId} {a b : Int} (h : Two5 w N t a b) (hb : Below w.heap.size w w') : Two5 w' N t a b := (hb.block N h.lt).trans h
theorem Two5.new (w : World) (t : TypeId) (a b : Int) : Two5 (w.alloc (.cells #[.int .i64 a, .int .i64 b] t)) w.heap.size t a b := by
  show (w.heap.push _)[w.heap.size]? = _
  rw [Array.getElem?_push, if_pos rfl]
theorem Two5.cells {w : World} {N : Nat} {t : TypeId} {a b : Int} (h : Two5 w N t a b) : w.cell? ⟨N, 0, none⟩ = some (.int .i64 a) ∧ w.cell? ⟨N, 1, none⟩ = some (.int .i64 b) := by
  unfold Two5 at h
  refine ⟨?_, ?_⟩ <;> simp [World.cell?, h]

theorem below_d {N : Nat} {w w1 : World} (h : Below N w w1) (n : Nat) : Below N w (w1.drewN n) := ⟨h.os, h.tape, h.output, h.size, h.block⟩

set_option maxHeartbeats 1000000 in
theorem address_any (W S B T : Int) (ad : Option Addr) (len cap : Nat) (f : Nat → Int) (k s i : Int) (w : World) (hr : Hid (RowI w ad len f)) (ok : Hid (ClsOk len f)) (s0 : 0 ≤ S) (s1 : S ≤ 1000) :
    Calls Tryd.prog 63 #[.agg #[.int .i64 W, .int .i64 S, .int .i64 B, .int .i64 T, .slice ad len cap], .int .i64 k, .agg #[.int .i64 s, .int .i64 i]] w fun e w' => e = .returned (.int .i64 (adrI S len f k s i)) ∧ Below w.heap.size w w' := by
  have hb1 := below_alloc w (.cells #[.int .i64 W, .int .i64 S, .int .i64 B, .int .i64 T, .slice ad len cap] 24)
  have hb2 := below_alloc (w.alloc (.cells #[.int .i64 W, .int .i64 S, .int .i64 B, .int .i64 T, .slice ad len cap] 24)) (.cells #[.int .i64 s, .int .i64 i] 61)
  have HB := Lib.hid (below_after hb1 hb2)
  have HR := Lib.hid (hr.out.next (below_after hb1 hb2))
  have C0 := Lib.hid (cfg_next (cfg_new w W S B T (.slice ad len cap)) hb2)
  have D0' := Two5.new (w.alloc (.cells #[.int .i64 W, .int .i64 S, .int .i64 B, .int .i64 T, .slice ad len cap] 24)) 61 s i
  rw [show (w.alloc (.cells #[.int .i64 W, .int .i64 S, .int .i64 B, .int .i64 T, .slice ad len cap] 24)).heap.size = w.heap.size + 1 from by simp] at D0'
  have D0 := Lib.hid D0'
  clear hb1 hb2 D0'
  have HA : Hid (adrI S len f k s i = if s < 0 ∨ S ≤ s ∨ i < 0 ∨ capI len f k ≤ i then 0 else 65536 + 1024 * s + i * szI len f k) := rfl
  go_enter Tryd.func63, Tryd.ntmps63
  go_wp2_with fail
  generalize (w.alloc (.cells #[.int .i64 W, .int .i64 S, .int .i64 B, .int .i64 T, .slice ad len cap] 24)).alloc (.cells #[.int .i64 s, .int .i64 i] 61) = w0 at *
  generalize hN : w.heap.size = N at *
  obtain ⟨c0, c1, c2, c3, c4⟩ := cfg_cells C0.out
  obtain ⟨b0, b1⟩ := D0.out.cells
  by_cases h0 : s < 0
  · have d0 : decide (s < 0) = true := by simpa using h0
    go_quiet (fail)
    go_wp2
    go_ret
    exact ⟨by rw [HA.out, if_pos (.inl h0)]; first | done | rfl, by first | exact below_d HB.out _ | (rw [hN]; exact below_d HB.out _)⟩
  · have d0 : decide (s < 0) = false := by simpa using h0
    by_cases h1 : S ≤ s
    · have d1 : decide (S ≤ s) = true := by simpa using h1
      go_quiet (fail)
      go_wp2
      go_ret
      exact ⟨by rw [HA.out, if_pos (.inr (.inl h1))]; first | done | rfl, by first | exact below_d HB.out _ | (rw [hN]; exact below_d HB.out _)⟩
    · have d1 : decide (S ≤ s) = false := by simpa using h1
      by_cases h2 : i < 0
      · have d2 : decide (i < 0) = true := by simpa using h2
        go_quiet (fail)
        go_wp2
        go_ret
        exact ⟨by rw [HA.out, if_pos (.inr (.inr (.inl h2)))]; first | done | rfl, by first | exact below_d HB.out _ | (rw [hN]; exact below_d HB.out _)⟩
      · have d2 : decide (i < 0) = false := by simpa using h2
        have lN : N + 1 < w0.drew.heap.size := D0.out.lt
        have lN' : N < w0.drew.heap.size := by omega
        have HRd : Hid (RowI w0.drew ad len f) := HR.out
        have HCP := Lib.hid (fun w hr => cap_any W S B T ad len cap f k w hr ok)
        have HSZ := Lib.hid (fun w hr => sizeOf_any W S B T ad len cap f k w hr)
        have hcb := capI_bd (k := k) ok.out
        have hzb := szI_bd (k := k) ok.out
        generalize capI len f k = R at *
        generalize szI len f k = z at *
        go_region_held3 (fun w' => w'.cell? ⟨N, 0, none⟩ = some (.int .i64 W) ∧ w'.cell? ⟨N, 1, none⟩ = some (.int .i64 S) ∧ w'.cell? ⟨N, 2, none⟩ = some (.int .i64 B) ∧ w'.cell? ⟨N, 3, none⟩ = some (.int .i64 T) ∧ w'.cell? ⟨N, 4, none⟩ = some (.slice ad len cap) ∧ w'.cell? ⟨N + 1, 0, none⟩ = some (.int .i64 s) ∧ w'.cell? ⟨N + 1, 1, none⟩ = some (.int .i64 i)) (first | (go_keep; done) | with_reducible exact ⟨s0', s1', s2, s3, s4, s5, s6⟩) ((first | (go_at_call 77; refine (HCP.out _ HRd).mono ?_; rintro e w3 ⟨rfl, hb3⟩; have s0' := (hb3.cell (p := ⟨N, 0, none⟩) lN').trans c0; have s1' := (hb3.cell (p := ⟨N, 1, none⟩) lN').trans c1; have s2 := (hb3.cell (p := ⟨N, 2, none⟩) lN').trans c2; have s3 := (hb3.cell (p := ⟨N, 3, none⟩) lN').trans c3; have s4 := (hb3.cell (p := ⟨N, 4, none⟩) lN').trans c4; have s5 := (hb3.cell (p := ⟨N + 1, 0, none⟩) lN).trans b0; have s6 := (hb3.cell (p := ⟨N + 1, 1, none⟩) lN).trans b1)))
        have HB3 : Hid (Below N w w3) := below_drew2 HB.out (Nat.le_of_lt lN') hb3
        have HR3 : Hid (RowI w3 ad len f) := HRd.out.next hb3
        have l3 : N + 1 < w3.drew.heap.size := Nat.lt_of_lt_of_le lN hb3.size
        have l3' : N < w3.drew.heap.size := by omega
        have HR3d : Hid (RowI w3.drew ad len f) := HR3.out
        clear hb3 c0 c1 c2 c3 c4 b0 b1 C0 D0 lN lN' HRd HR HR3
        by_cases h3 : R ≤ i
        · have d3 : decide (R ≤ i) = true := by simpa using h3
          go_wp2
          go_ret
          exact ⟨by rw [HA.out, if_pos (.inr (.inr (.inr h3)))]; first | done | rfl, by first | exact HB3.out | (rw [hN]; exact HB3.out)⟩
        · have d3 : decide (R ≤ i) = false := by simpa using h3
          have i1 : 0 ≤ i := by omega
          have i2 : i ≤ 63 := by omega
          have z1 : 0 ≤ z := by omega
          have z2 : z ≤ 512 := by omega
          have p1 : 0 ≤ i * z := Int.mul_nonneg i1 z1
          have p2 : i * z ≤ 63 * 512 := Int.mul_le_mul i2 z2 z1 (by omega)
          have hw1 : IntKind.i64.wrap (s * 1024) = s * 1024 := by rw [IntKind.wrap_i64]; omega
          have hw2 : IntKind.i64.wrap (65536 + s * 1024) = 65536 + s * 1024 := by rw [IntKind.wrap_i64]; omega
          have hw3 : IntKind.i64.wrap (i * z) = i * z := by rw [IntKind.wrap_i64]; omega
          have hw4 : IntKind.i64.wrap (65536 + s * 1024 + i * z) = 65536 + 1024 * s + i * z := by rw [IntKind.wrap_i64]; omega
          have HE : Hid (adrI S len f k s i = 65536 + 1024 * s + i * z) := by show _ = _; rw [HA.out, if_neg (by omega)]
          clear HA hzb hcb
          go_wp2
          go_region_held3 (fun w' => w'.cell? ⟨N, 0, none⟩ = some (.int .i64 W) ∧ w'.cell? ⟨N, 1, none⟩ = some (.int .i64 S) ∧ w'.cell? ⟨N, 2, none⟩ = some (.int .i64 B) ∧ w'.cell? ⟨N, 3, none⟩ = some (.int .i64 T) ∧ w'.cell? ⟨N, 4, none⟩ = some (.slice ad len cap) ∧ w'.cell? ⟨N + 1, 0, none⟩ = some (.int .i64 s) ∧ w'.cell? ⟨N + 1, 1, none⟩ = some (.int .i64 i)) (first | (go_keep; done) | with_reducible exact ⟨t0, t1, t2, t3, t4, t5, t6⟩) ((first | (go_at_call 87; refine (HSZ.out _ HR3d).mono ?_; rintro e w4 ⟨rfl, hb4⟩; have t0 := (hb4.cell (p := ⟨N, 0, none⟩) l3').trans s0'; have t1 := (hb4.cell (p := ⟨N, 1, none⟩) l3').trans s1'; have t2 := (hb4.cell (p := ⟨N, 2, none⟩) l3').trans s2; have t3 := (hb4.cell (p := ⟨N, 3, none⟩) l3').trans s3; have t4 := (hb4.cell (p := ⟨N, 4, none⟩) l3').trans s4; have t5 := (hb4.cell (p := ⟨N + 1, 0, none⟩) l3).trans s5; have t6 := (hb4.cell (p := ⟨N + 1, 1, none⟩) l3).trans s6)))
          have HB4 : Hid (Below N w w4) := below_drew2 HB3.out (Nat.le_of_lt l3') hb4
          go_wp2
          go_ret
          exact ⟨by rw [HE.out]; first | done | rfl, by first | exact HB4.out | (rw [hN]; exact HB4.out)⟩
end Go.Proofs.YtkogeeaoppkhkaaDoor
