/-
  The walk of the statement SpanDoes: whatever calls come, each answers what the document says, and all intervals are its, rising.
-/
import Derived.Test.YtjlklkaaonfpdaaSpan15
import Derived.Test.YtjlklkaaonfpdaaRowOp6
import Derived.Deep.CutRange
namespace Go.Proofs.Ytjlklkaaonfpdaa
open Go.RowKit Go.Sort

/-- A call in its box. -/
def Tr6 (w : World) (N : Nat) (k a b : Int) : Prop := w.heap[N]? = some (.cells #[.int .i64 k, .int .i64 a, .int .i64 b] 58 (0, 0))
theorem Tr6.lt {w : World} {N : Nat} {k a b : Int} (h : Tr6 w N k a b) : N < w.heap.size := (Array.getElem?_eq_some_iff.1 h).1
theorem Tr6.next {w w' : World} {N : Nat} {k a b : Int} (h : Tr6 w N k a b) (hb : Below w.heap.size w w') : Tr6 w' N k a b := (hb.block N h.lt).trans h
theorem Tr6.new (w : World) (k a b : Int) : Tr6 (w.alloc (.cells #[.int .i64 k, .int .i64 a, .int .i64 b] 58)) w.heap.size k a b := heap_at _ _
theorem Tr6.cells {w : World} {N : Nat} {k a b : Int} (h : Tr6 w N k a b) : w.cell? ⟨N, 0, none⟩ = some (.int .i64 k) ∧ w.cell? ⟨N, 1, none⟩ = some (.int .i64 a) ∧ w.cell? ⟨N, 2, none⟩ = some (.int .i64 b) := by
  unfold Tr6 at h
  refine ⟨?_, ?_, ?_⟩ <;> simp [World.cell?, h]
theorem Tr6.kp {F : Nat → Prop} {w w' : World} {N : Nat} {k a b : Int} (h : Tr6 w N k a b) (kp : Kp F w w') (hF : F N) : Tr6 w' N k a b := (kp.block N hF).trans h
/-- What is held against what is answered. -/
def isP (k : Int) (o : Option Iv) : Iv := if k = 1 ∨ k = 2 then o.getD (0, 0) else (0, 0)
theorem duo_two {w : World} {N M : Nat} {a b : Int} (h : Duo6 w N a b) (hne : N ≠ M) (c d : Value) : Duo6 ((w.setCell ⟨M, 0, none⟩ c).setCell ⟨M, 1, none⟩ d) N a b := (two_other hne c d).trans h
theorem tri_two {w : World} {N M : Nat} {k a b : Int} (h : Tr6 w N k a b) (hne : N ≠ M) (c d : Value) : Tr6 ((w.setCell ⟨M, 0, none⟩ c).setCell ⟨M, 1, none⟩ d) N k a b := (two_other hne c d).trans h
theorem Sm.two {w0 w : World} {g b : Nat} {F : Nat → Prop} {l : List Iv} (s : Sm w0 w g F l) (hF : F b) (hb : w0.heap.size ≤ b) (c d : Value) : Sm w0 ((w.setCell ⟨b, 0, none⟩ c).setCell ⟨b, 1, none⟩ d) g F l := (s.set hF hb c).set hF hb d
theorem row_other {w : World} {v : Value} {l : List Iv} {M : Nat} (h : IvRow w v l) (hne : v.ownBlock ≠ some M) (c d : Value) : IvRow ((w.setCell ⟨M, 0, none⟩ c).setCell ⟨M, 1, none⟩ d) v l := h.next fun k hk => two_other (fun e => hne (by rw [hk, e])) c d

set_option maxHeartbeats 1000000 in
theorem does6_out (ad : Option Addr) (len cap : Nat) (w : World) (h : 100 < len) :
    Calls Try.prog 9 #[.slice ad len cap] w fun e w' => e = .returned (.bool true) ∧ Below w.heap.size w w' := by
  have d1 : decide (100 < len) = true := by simpa using h
  have d1' : decide ((100 : Int) < (len : Int)) = true := by simp; omega
  go_enter Try.func9, Try.ntmps9
  go_wp2_with fail
  refine (speaks6 _).mono ?_
  rintro e w2 ⟨rfl, hb⟩
  have B2 := Lib.hid hb
  clear hb
  go_wp2_with fail
  go_ret
  exact ⟨rfl, B2.out⟩

set_option maxRecDepth 20000 in
set_option maxHeartbeats 8000000 in
theorem does6_in (ad : Option Addr) (len cap : Nat) (K A B : Nat → Int) (w : World) (h1 : len ≤ 100) (hr : Hid (RowP w ad len K A B)) :
    Calls Try.prog 9 #[.slice ad len cap] w fun e w' => e = .returned (.bool true) ∧ Below w.heap.size w w' := by
  have d1 : decide (100 < len) = false := by simp; omega
  have d1' : decide ((100 : Int) < (len : Int)) = false := by simp; omega
  have HWN : Hid (∀ w', Below w.heap.size w w' → RowP w' ad len K A B) := fun w' hb => hr.out.next hb
  go_enter Try.func9, Try.ntmps9
  go_wp2_with fail
  refine (speaks6 _).mono ?_
  rintro e w3 ⟨rfl, hb⟩
  have S4 : Hid (Sm w (w3.alloc (.cells #[.slice none 0 0] 54)) w3.heap.size (fun k => (Value.slice none 0 0).ownBlock = some k) []) := Sm.start hb (fun k hk => by cases hk)
  clear hb
  go_wp2_with fail
  generalize w3.alloc (.cells #[.slice none 0 0] 54) = w4 at *
  generalize w3.heap.size = g at *
  go_loopw [4, 24] (fun u t wx => ∃ (j : Nat) (M L : List Iv), j ≤ len ∧ L.length ≤ j ∧ t = .int .i64 j ∧ Sm w wx g (fun k => u.ownBlock = some k) L ∧ IvRow wx u M ∧ M.Perm L) (fun _ t _ => len - (intOf t).toNat)
  case atStart => exact ⟨0, [], [], Nat.zero_le _, Nat.le_refl _, rfl, S4.out, ivRow_nil _, List.Perm.refl _⟩
  case round =>
    obtain ⟨j, M, L, hj, hL, rfl, s, r, pm⟩ := hrel
    have S5 := Lib.hid s
    have R5 := Lib.hid r
    have PM := Lib.hid pm
    have GD := Lib.hid S5.out.gd
    have few : M.length ≤ 100000 := by rw [pm.length_eq]; omega
    clear s r pm S4
    by_cases h : j < len
    · have l2 : (j : Int) < (len : Int) := by omega
      obtain ⟨b, off, rfl, e0, e1, e2⟩ := (HWN.out _ S5.out.b).at h
      generalize K j = kd at *
      generalize A j = a1 at *
      generalize B j = a2 at *
      have b1 := below_alloc wr (.cells #[.int .i64 kd, .int .i64 a1, .int .i64 a2] 58)
      have T1 := Lib.hid (Tr6.new wr kd a1 a2)
      have B1 := Lib.hid b1
      have HLW : Hid (w.heap.size ≤ wr.heap.size) := S5.out.b.size
      obtain ⟨c0, c1, c2⟩ := T1.out.cells
      clear b1
      go_wp2_with fail
      generalize wr.alloc (.cells #[.int .i64 kd, .int .i64 a1, .int .i64 a2] 58) = w1 at *
      generalize hM0 : wr.heap.size = M0 at *
      clear e0 e1 e2
      refine (far_any a1 a2 _).mono ?_
      rintro e w2 ⟨rfl, hb⟩
      have B2 := Lib.hid (Below.trans B1.out (hb.mono (by rw [← hM0]; exact B1.out.size)))
      have T2 := Lib.hid (T1.out.next hb)
      clear hb B1 T1 c0 c1 c2
      obtain ⟨c0, c1, c2⟩ := T2.out.cells
      have HSN : Hid (∀ wx, Below M0 wr wx → Sm w wx g (fun k => u4.ownBlock = some k) L ∧ IvRow wx u4 M) := fun wx hb => ⟨S5.out.next (by rw [hM0]; exact hb), R5.out.below (by rw [hM0]; exact hb)⟩
      rcases hfa : farB a1 with _ | _
      · obtain ⟨x1, x2⟩ := far_no hfa
        clear hfa
        have R2 := Lib.hid (HSN.out _ B2.out).2
        go_wp2_with fail
        refine (rfind_any u4 M a1 _ R2 few).mono ?_
        rintro e w' ⟨rfl, rfl⟩
        -- two boxes
        have b3 := below_alloc w2 (.cells #[.int .i64 0, .int .i64 0] 56)
        have b4 := below_alloc (w2.alloc (.cells #[.int .i64 0, .int .i64 0] 56)) (.cells #[.int .i64 0, .int .i64 0] 56)
        have hs3 : (w2.alloc (.cells #[.int .i64 0, .int .i64 0] 56)).heap.size = w2.heap.size + 1 := by simp
        have X4' := Duo6.new (w2.alloc (.cells #[.int .i64 0, .int .i64 0] 56)) 0 0
        rw [hs3] at X4'
        have X4 := Lib.hid X4'
        have Y4 := Lib.hid ((Duo6.new w2 0 0).next b4)
        have T4 := Lib.hid ((T2.out.next b3).next b4)
        have B4 := Lib.hid (Below.trans B2.out ((below_after b3 b4).mono (by rw [← hM0]; exact B2.out.size)))
        have hM2 : M0 < w2.heap.size := T2.out.lt
        clear b3 b4 hs3 X4' T2 B2 c0 c1 c2
        obtain ⟨kf, HKF⟩ : ∃ kf, Hid (findI M a1 = kf) := ⟨_, rfl⟩
        rw [HKF.out]
        obtain ⟨o, HO⟩ : ∃ o, Hid (getO L a1 = o) := ⟨_, rfl⟩
        have HPF : Hid ((kf = -1 ∧ o = none) ∨ ∃ (k : Nat) (x : Iv), kf = k ∧ M[k]? = some x ∧ o = some x) := by
          rcases perm_find PM.out GD.out a1 with ⟨h1, h2⟩ | ⟨k, x, h1, h2, h3, _⟩
          · exact .inl ⟨by rw [← HKF.out, h1], by rw [← HO.out, h2]⟩
          · exact .inr ⟨k, x, by rw [← HKF.out, h1], h2, by rw [← HO.out, h3]⟩
        obtain ⟨c0, c1, c2⟩ := T4.out.cells
        go_upto_region 13 with fail
        generalize (w2.alloc (.cells #[.int .i64 0, .int .i64 0] 56)).alloc (.cells #[.int .i64 0, .int .i64 0] 56) = w4 at *
        generalize w2.heap.size = g1 at *
        go_cut [47] from 25 to 110 (fun v wx => v = .bool (decide (0 ≤ kf) && (decide (kd = 1) || decide (kd = 2))) ∧ wx = w4)
        case first =>
          by_cases hk0 : 0 ≤ kf
          · have dk : decide (0 ≤ kf) = true := by simpa using hk0
            by_cases hk1 : kd = 1
            · have HB : Hid ((decide (0 ≤ kf) && (decide (kd = 1) || decide (kd = 2))) = true) := by show _ = _; simp [hk0, hk1]
              subst hk1
              go_wp2_with fail
              go_meet
              case rel => exact ⟨by rw [HB.out], rfl⟩
            · have dk1 : (kd == 1) = false := by simpa using hk1
              by_cases hk2 : kd = 2
              · have HB : Hid ((decide (0 ≤ kf) && (decide (kd = 1) || decide (kd = 2))) = true) := by show _ = _; simp [hk0, hk2]
                subst hk2
                go_wp2_with fail
                go_meet
                case rel => exact ⟨by rw [HB.out], rfl⟩
              · have HB : Hid ((decide (0 ≤ kf) && (decide (kd = 1) || decide (kd = 2))) = false) := by show _ = _; simp [hk1, hk2]
                have dk2 : (kd == 2) = false := by simpa using hk2
                clear hk1 hk2
                go_wp2_with fail
                go_meet
                case rel => exact ⟨by rw [HB.out], rfl⟩
          · have HB : Hid ((decide (0 ≤ kf) && (decide (kd = 1) || decide (kd = 2))) = false) := by show _ = _; simp [hk0]
            have dk : decide (0 ≤ kf) = false := by simpa using hk0
            clear hk0
            go_wp2_with fail
            go_meet
            case rel => exact ⟨by rw [HB.out], rfl⟩
        case rest =>
        obtain ⟨rfl, hwx⟩ := hcut
        obtain rfl : w4 = wc := hwx.symm
        obtain ⟨bq, HBQ⟩ : ∃ bq, Hid ((decide (0 ≤ kf) && (decide (kd = 1) || decide (kd = 2))) = bq) := ⟨_, rfl⟩
        rw [HBQ.out]
        go_upto_if 47 with fail
        go_cut [8] from 25 to 110 (fun v wx => v = .bool true ∧ Below M0 wr wx ∧ Tr6 wx M0 kd a1 a2 ∧ Duo6 wx g1 0 0 ∧ Duo6 wx (g1 + 1) (isP kd o).1 (isP kd o).2)
        case first =>
          cases bq
          · have HI : Hid (isP kd o = (0, 0)) := by
              show _ = _
              have hq := HBQ.out
              unfold isP
              rcases HPF.out with ⟨_, rfl⟩ | ⟨k, x, rfl, _⟩
              · split <;> rfl
              · rw [if_neg]
                simp at hq
                omega
            go_wp2_with fail
            go_meet
            case rel => exact ⟨rfl, B4.out, T4.out, Y4.out, by rw [HI.out]; exact X4.out⟩
          · have hq : 0 ≤ kf ∧ (kd = 1 ∨ kd = 2) := by have := HBQ.out; simpa using this
            obtain ⟨k, z, hk, hz, ho⟩ : ∃ (k : Nat) (x : Iv), kf = k ∧ M[k]? = some x ∧ o = some x := HPF.out.resolve_left (fun h => by omega)
            subst hk ho
            have HI : Hid (isP kd (some z) = z) := by show _ = _; unfold isP; rw [if_pos hq.2]; rfl
            have hkl : k < M.length := (List.getElem?_eq_some_iff.1 hz).1
            have lk : (k : Int) < (M.length : Int) := by omega
            obtain ⟨bu, cu, hu, f0, f1⟩ := row_two (HSN.out _ B4.out).2 hz
            have hbu : bu ≠ g1 + 1 := by have := R5.out.lt (k := bu) (by rw [hu]; rfl); omega
            obtain ⟨z1, z2⟩ := z
            simp only at f0 f1
            obtain ⟨y0, y1⟩ := X4.out.cells
            have yz0 := X4.out.fz 0
            have yz1 := X4.out.fz 1
            have X5 := Lib.hid (X4.out.set z1 z2)
            have Y5 := Lib.hid (duo_two Y4.out (show g1 ≠ g1 + 1 by omega) (.int .i64 z1) (.int .i64 z2))
            have T5 := Lib.hid (tri_two T4.out (show M0 ≠ g1 + 1 by omega) (.int .i64 z1) (.int .i64 z2))
            have B5 := Lib.hid ((B4.out.setCell (p := ⟨g1 + 1, 0, none⟩) (show M0 ≤ g1 + 1 by omega) (.int .i64 z1)).setCell (p := ⟨g1 + 1, 1, none⟩) (show M0 ≤ g1 + 1 by omega) (.int .i64 z2))
            clear hq hz
            subst hu
            go_wp2_with fail
            go_meet
            case rel => exact ⟨rfl, B5.out, T5.out, Y5.out, by rw [HI.out]; exact X5.out⟩
        case rest =>
          obtain ⟨rfl, hbc, ht, hy, hx⟩ := hcut
          have S6 : Hid (Sm w wc g (fun k => u4.ownBlock = some k ∨ k = M0 ∨ k = g1 ∨ k = g1 + 1) L) := S5.out.more (by rw [hM0]; exact hbc) (fun k hk => by
            have h1 := ht.lt; have h2 := hy.lt; have h3 := hx.lt
            rcases hk with hk | rfl | rfl | rfl
            · exact .inl hk
            · exact .inr ⟨by omega, h1⟩
            · exact .inr ⟨by omega, h2⟩
            · exact .inr ⟨by omega, h3⟩)
          have R6 := Lib.hid (HSN.out _ hbc).2
          have T6 := Lib.hid ht
          have Y6 := Lib.hid hy
          have X6 := Lib.hid hx
          have HOB : Hid (u4.ownBlock ≠ some g1) := fun hk => by have := R5.out.lt hk; omega
          have HG1 : Hid (w.heap.size ≤ g1) := by show _ ≤ g1; have := HLW.out; omega
          clear hbc ht hy hx T4 B4 X4 Y4 c0 c1 c2 HSN
          obtain ⟨c0, c1, c2⟩ := T6.out.cells
          obtain ⟨y0, y1⟩ := Y6.out.cells
          obtain ⟨q0, q1⟩ := X6.out.cells
          have HPI : Hid (∀ z : Iv, isP kd o = z → z.1 = (isP kd o).1) := fun z h => by rw [h]
          by_cases hk0 : kd = 0
          · subst hk0
            have HI : Hid (isP 0 o = (0, 0)) := rfl
            rw [HI.out] at q0 q1
            go_wp2_with fail
            refine (sm_put S6 a1 a2 (by omega)).mono ?_
            rintro e w7 ⟨rfl, s, k⟩
            have S7 := Lib.hid s
            have R7 := Lib.hid (row_kp R6.out k (fun j hj => .inl hj))
            have T7 := Lib.hid (T6.out.kp k (.inr (.inl rfl)))
            have Y7 := Lib.hid (duo_kp Y6.out k (.inr (.inr (.inl rfl))))
            have X7 := Lib.hid (duo_kp X6.out k (.inr (.inr (.inr rfl))))
            have hln : (putL L (a1, a2)).length ≤ L.length + 1 := len_put L (a1, a2)
            clear s k c0 c1 c2 y0 y1 q0 q1 S6 R6 T6 Y6 X6
            rw [HI.out] at X7
            obtain ⟨c0, c1, c2⟩ := T7.out.cells
            go_wp2_with fail
            refine (rput_any u4 M a1 a2 _ R7 few (perm_ok PM.out GD.out)).mono ?_
            rintro e w8 ⟨u', he, hyes, hno⟩
            have HPP := Lib.hid (perm_put PM.out GD.out (a1, a2))
            rw [HPP.out] at he hyes hno
            clear c0 c1 c2
            rcases hp : putB L (a1, a2) with _ | _
            · obtain ⟨rfl, hb⟩ := hno hp
              rw [hp] at he
              subst he
              have S8 := Lib.hid (S7.out.next hb)
              have R8 := Lib.hid (R7.out.below hb)
              obtain ⟨y0, y1⟩ := (Y7.out.next hb).cells
              obtain ⟨q0, q1⟩ := (X7.out.next hb).cells
              have HPL := Lib.hid (put_false hp)
              rw [HPL.out] at S8
              have S9 := Lib.hid (S8.out.weak (G := fun k => u'.ownBlock = some k) (fun k hk => .inl hk))
              clear hb hyes hno hp
              go_wp2_with fail
              go_roundw
              case rel => exact ⟨j + 1, M, L, by omega, by omega, rfl, S9.out, R8.out, PM.out⟩
              case measure => simp [intOf]; omega
            · obtain ⟨hrw, hfr, hb⟩ := hyes hp
              rw [hp] at he
              subst he
              have S8 : Hid (Sm w w8 g (fun k => u'.ownBlock = some k) (putL L (a1, a2))) := S7.out.more hb (fun k hk => .inr ⟨hfr k hk, hrw.lt hk⟩)
              have R8 := Lib.hid hrw
              obtain ⟨y0, y1⟩ := (Y7.out.next hb).cells
              obtain ⟨q0, q1⟩ := (X7.out.next hb).cells
              have HPL := Lib.hid (put_true hp)
              have P8 := Lib.hid (perm_ins2 PM.out (a1, a2))
              rw [HPL.out] at S8 hln
              clear hb hyes hno hp hrw hfr
              go_wp2_with fail
              go_roundw
              case rel => exact ⟨j + 1, M ++ [(a1, a2)], insL (a1, a2) L, by omega, by omega, rfl, S8.out, R8.out, P8.out⟩
              case measure => simp [intOf]; omega
          · have dk0 : (kd == 0) = false := by simpa using hk0
            by_cases hk1 : kd = 1
            · subst hk1
              go_wp2_with fail
              refine (sm_drop S6 a1).mono ?_
              rintro e w7 ⟨he, s, k⟩
              rw [HO.out] at he
              have S7 := Lib.hid s
              have R7 := Lib.hid (row_kp R6.out k (fun j hj => .inl hj))
              have T7 := Lib.hid (T6.out.kp k (.inr (.inl rfl)))
              have Y7 := Lib.hid (duo_kp Y6.out k (.inr (.inr (.inl rfl))))
              have X7 := Lib.hid (duo_kp X6.out k (.inr (.inr (.inr rfl))))
              have hln : (dropL L a1).length ≤ L.length := len_drop L a1
              have P7 := Lib.hid (perm_drop PM.out a1)
              clear s k c0 c1 c2 y0 y1 q0 q1 S6 R6 T6 Y6 X6
              rcases HPF.out with ⟨hkf, ho⟩ | ⟨k, z, hkf, hz, ho⟩
              · subst hkf ho
                obtain rfl : e = .returned (.tuple #[.agg #[.int .i64 0, .int .i64 0], .bool false]) := he
                have HI : Hid (isP 1 none = (0, 0)) := rfl
                rw [HI.out] at X7
                obtain ⟨y0, y1⟩ := Y7.out.cells
                have z0 := Y7.out.fz 0
                have z1' := Y7.out.fz 1
                have Y8 := Lib.hid (Y7.out.set 0 0)
                have X8 := Lib.hid (duo_two X7.out (show g1 + 1 ≠ g1 by omega) (.int .i64 0) (.int .i64 0))
                have S8 := Lib.hid (S7.out.two (b := g1) (.inr (.inr (.inl rfl))) HG1.out (.int .i64 0) (.int .i64 0))
                have R8 := Lib.hid (row_other R7.out HOB.out (.int .i64 0) (.int .i64 0))
                have T8 := Lib.hid (tri_two T7.out (show M0 ≠ g1 by omega) (.int .i64 0) (.int .i64 0))
                obtain ⟨c0, c1, c2⟩ := T8.out.cells
                obtain ⟨y2, y3⟩ := Y8.out.cells
                obtain ⟨q2, q3⟩ := X8.out.cells
                go_wp2_with fail
                generalize (w7.setCell ⟨g1, 0, none⟩ (.int .i64 0)).setCell ⟨g1, 1, none⟩ (.int .i64 0) = w8 at *
                refine (rdrop_any u4 M a1 _ R8 few).mono ?_
                rintro e w9 ⟨u', rfl, hrw, hfr, hb⟩
                have S9 : Hid (Sm w w9 g (fun k => u'.ownBlock = some k) (dropL L a1)) := S8.out.more hb (fun k hk => .inr ⟨hfr k hk, hrw.lt hk⟩)
                have R9 := Lib.hid hrw
                obtain ⟨y4, y5⟩ := (Y8.out.next hb).cells
                obtain ⟨q4, q5⟩ := (X8.out.next hb).cells
                clear hb hrw hfr y0 y1 y2 y3 q2 q3 c0 c1 c2
                go_wp2_with fail
                go_roundw
                case rel => exact ⟨j + 1, keepL M a1, dropL L a1, by omega, by omega, rfl, S9.out, R9.out, P7.out⟩
                case measure => simp [intOf]; omega
              · obtain ⟨z1, z2⟩ := z
                clear hz
                subst hkf ho
                obtain rfl : e = .returned (.tuple #[.agg #[.int .i64 z1, .int .i64 z2], .bool true]) := he
                have dk : decide (0 ≤ (k : Int)) = true := by simp
                have HI : Hid (isP 1 (some (z1, z2)) = (z1, z2)) := rfl
                rw [HI.out] at X7
                obtain ⟨y0, y1⟩ := Y7.out.cells
                have z0 := Y7.out.fz 0
                have z1' := Y7.out.fz 1
                have Y8 := Lib.hid (Y7.out.set z1 z2)
                have X8 := Lib.hid (duo_two X7.out (show g1 + 1 ≠ g1 by omega) (.int .i64 z1) (.int .i64 z2))
                have S8 := Lib.hid (S7.out.two (b := g1) (.inr (.inr (.inl rfl))) HG1.out (.int .i64 z1) (.int .i64 z2))
                have R8 := Lib.hid (row_other R7.out HOB.out (.int .i64 z1) (.int .i64 z2))
                have T8 := Lib.hid (tri_two T7.out (show M0 ≠ g1 by omega) (.int .i64 z1) (.int .i64 z2))
                obtain ⟨c0, c1, c2⟩ := T8.out.cells
                obtain ⟨y2, y3⟩ := Y8.out.cells
                obtain ⟨q2, q3⟩ := X8.out.cells
                go_wp2_with fail
                generalize (w7.setCell ⟨g1, 0, none⟩ (.int .i64 z1)).setCell ⟨g1, 1, none⟩ (.int .i64 z2) = w8 at *
                refine (rdrop_any u4 M a1 _ R8 few).mono ?_
                rintro e w9 ⟨u', rfl, hrw, hfr, hb⟩
                have S9 : Hid (Sm w w9 g (fun k => u'.ownBlock = some k) (dropL L a1)) := S8.out.more hb (fun k hk => .inr ⟨hfr k hk, hrw.lt hk⟩)
                have R9 := Lib.hid hrw
                obtain ⟨y4, y5⟩ := (Y8.out.next hb).cells
                obtain ⟨q4, q5⟩ := (X8.out.next hb).cells
                clear hb hrw hfr y0 y1 y2 y3 q2 q3 c0 c1 c2
                go_wp2_with fail
                go_roundw
                case rel => exact ⟨j + 1, keepL M a1, dropL L a1, by omega, by omega, rfl, S9.out, R9.out, P7.out⟩
                case measure => simp [intOf]; omega
            · have dk1 : (kd == 1) = false := by simpa using hk1
              by_cases hk2 : kd = 2
              · subst hk2
                go_wp2_with fail
                refine (sm_get S6 a1).mono ?_
                rintro e w7 ⟨he, hb⟩
                rw [HO.out] at he
                have S7 := Lib.hid (S6.out.next hb)
                have R7 := Lib.hid (R6.out.below hb)
                have Y7 := Lib.hid (Y6.out.next hb)
                have X7 := Lib.hid (X6.out.next hb)
                clear hb c0 c1 c2 y0 y1 q0 q1 S6 R6 T6 Y6 X6
                rcases HPF.out with ⟨hkf, ho⟩ | ⟨k, z, hkf, hz, ho⟩
                · subst hkf ho
                  obtain rfl : e = .returned (.tuple #[.agg #[.int .i64 0, .int .i64 0], .bool false]) := he
                  have HI : Hid (isP 2 none = (0, 0)) := rfl
                  rw [HI.out] at X7
                  obtain ⟨y0, y1⟩ := Y7.out.cells
                  have z0 := Y7.out.fz 0
                  have z1' := Y7.out.fz 1
                  have Y8 := Lib.hid (Y7.out.set 0 0)
                  have X8 := Lib.hid (duo_two X7.out (show g1 + 1 ≠ g1 by omega) (.int .i64 0) (.int .i64 0))
                  have S8 := Lib.hid (S7.out.two (b := g1) (.inr (.inr (.inl rfl))) HG1.out (.int .i64 0) (.int .i64 0))
                  have R8 := Lib.hid (row_other R7.out HOB.out (.int .i64 0) (.int .i64 0))
                  obtain ⟨y2, y3⟩ := Y8.out.cells
                  obtain ⟨q2, q3⟩ := X8.out.cells
                  go_wp2_with fail
                  have S9 := Lib.hid (S8.out.weak (G := fun k => u4.ownBlock = some k) (fun k hk => .inl hk))
                  go_roundw
                  case rel => exact ⟨j + 1, M, L, by omega, by omega, rfl, S9.out, R8.out, PM.out⟩
                  case measure => simp [intOf]; omega
                · obtain ⟨z1, z2⟩ := z
                  clear hz
                  subst hkf ho
                  obtain rfl : e = .returned (.tuple #[.agg #[.int .i64 z1, .int .i64 z2], .bool true]) := he
                  have dk : decide (0 ≤ (k : Int)) = true := by simp
                  have HI : Hid (isP 2 (some (z1, z2)) = (z1, z2)) := rfl
                  rw [HI.out] at X7
                  obtain ⟨y0, y1⟩ := Y7.out.cells
                  have z0 := Y7.out.fz 0
                  have z1' := Y7.out.fz 1
                  have Y8 := Lib.hid (Y7.out.set z1 z2)
                  have X8 := Lib.hid (duo_two X7.out (show g1 + 1 ≠ g1 by omega) (.int .i64 z1) (.int .i64 z2))
                  have S8 := Lib.hid (S7.out.two (b := g1) (.inr (.inr (.inl rfl))) HG1.out (.int .i64 z1) (.int .i64 z2))
                  have R8 := Lib.hid (row_other R7.out HOB.out (.int .i64 z1) (.int .i64 z2))
                  obtain ⟨y2, y3⟩ := Y8.out.cells
                  obtain ⟨q2, q3⟩ := X8.out.cells
                  go_wp2_with fail
                  have S9 := Lib.hid (S8.out.weak (G := fun k => u4.ownBlock = some k) (fun k hk => .inl hk))
                  go_roundw
                  case rel => exact ⟨j + 1, M, L, by omega, by omega, rfl, S9.out, R8.out, PM.out⟩
                  case measure => simp [intOf]; omega
              · have dk2 : (kd == 2) = false := by simpa using hk2
                have HI : Hid (isP kd o = (0, 0)) := by show _ = _; unfold isP; rw [if_neg (by omega)]
                rw [HI.out] at q0 q1 X6
                by_cases hk3 : kd = 3
                · subst hk3
                  have a1' := fun d os => Calls.regrown_of (sm_over (S6.out.grown d os) a1 a2 x1 x2)
                  have a2' : ∀ d os, Calls Try.prog 42 #[u4, .agg #[.int .i64 a1, .int .i64 a2]] (grow (redrawn wc d) os) fun e w'' => e = .returned (.bool (overB L (a1, a2))) ∧ ∃ p : Regrown, w'' = grow (redrawn wc p.d) p.os := fun d os => by
                    have h := Calls.regrown_of (w := wc) (d := d) (os := os) (rany_any u4 M a1 a2 (grow (redrawn wc d) os) (R6.out.below (below_regrown wc d os)) few (perm_ok PM.out GD.out) x1 x2)
                    rw [perm_any PM.out GD.out] at h; exact h
                  have k0 := cell_regrown c0
                  have k1 := cell_regrown c1
                  have k2 := cell_regrown c2
                  generalize overB L (a1, a2) = ov at *
                  go_wp2_with fail
                  refine wp_region_quiet_below (by kernel_rfl) (by kernel_rfl) ?_
                  repeat (go_big_quiet_step (first | exact a1' _ _ | exact a2' _ _))
                  refine wpQuiet_nil ?_
                  intro _ hw'
                  obtain ⟨⟨dq, osq⟩, hw''⟩ := hw'
                  subst hw''
                  have b7 := below_regrown wc dq osq
                  have S7 := Lib.hid (S6.out.next b7)
                  have R7 := Lib.hid (R6.out.below b7)
                  obtain ⟨y0', y1'⟩ := (Y6.out.next b7).cells
                  obtain ⟨q0', q1'⟩ := (X6.out.next b7).cells
                  clear b7 k0 k1 k2 a1' a2' c0 c1 c2 y0 y1 q0 q1
                  generalize Sort.grow (redrawn wc dq) osq = w7 at *
                  have S8 := Lib.hid (S7.out.weak (G := fun k => u4.ownBlock = some k) (fun k hk => .inl hk))
                  go_wp2_with fail
                  go_roundw
                  case rel => exact ⟨j + 1, M, L, by omega, by omega, rfl, S8.out, R7.out, PM.out⟩
                  case measure => simp [intOf]; omega
                · have dk3 : (kd == 3) = false := by simpa using hk3
                  have S8 := Lib.hid (S6.out.weak (G := fun k => u4.ownBlock = some k) (fun k hk => .inl hk))
                  go_wp2_with fail
                  go_roundw
                  case rel => exact ⟨j + 1, M, L, by omega, by omega, rfl, S8.out, R6.out, PM.out⟩
                  case measure => simp [intOf]; omega
      · clear hfa
        have HS2 := Lib.hid (HSN.out _ B2.out)
        go_wp2_with fail
        go_roundw
        case rel => exact ⟨j + 1, M, L, by omega, by omega, rfl, HS2.out.1, HS2.out.2, PM.out⟩
        case measure => simp [intOf]; omega
    · obtain rfl : len = j := by omega
      have HLEN : Hid (L.length = M.length) := PM.out.length_eq.symm
      clear HWN hr
      go_wp2_with fail
      refine (sm_all S5).mono ?_
      rintro e w5 ⟨v2, rfl, hrw, hb, _⟩
      have S6 := Lib.hid (S5.out.next hb)
      have R6 := Lib.hid (R5.out.below hb)
      have Q6 := Lib.hid hrw
      obtain ⟨p2, c2, hv2, hp2, hp2'⟩ := row_len hrw
      have hc63 : c2 ≤ 9223372036854775807 := by unfold maxLen at hp2'; omega
      subst hv2
      clear hb hrw S5 R5 hp2'
      obtain ⟨p4, c4, hu4, _, _⟩ := row_len R6.out
      subst hu4
      go_wp2_with fail
      go_loopw [13, 114] (fun s t wx => ∃ i : Nat, i ≤ L.length ∧ s = .int .i64 (sumL (L.take i)) ∧ t = .int .i64 i ∧ Below w5.heap.size w5 wx) (fun _ t _ => L.length - (intOf t).toNat)
      case atStart => exact ⟨0, Nat.zero_le _, rfl, rfl, Below.refl _ _⟩
      case round =>
        obtain ⟨i, hi, rfl, rfl, hbx⟩ := hrel
        have BX := Lib.hid hbx
        clear hbx
        by_cases hil : i < L.length
        · have l3 : (i : Int) < (L.length : Int) := by omega
          obtain ⟨x, hx⟩ : ∃ x, L[i]? = some x := ⟨L[i], List.getElem?_eq_getElem hil⟩
          obtain ⟨b, c, hv, e0, e1⟩ := row_two (Q6.out.below BX.out) hx
          obtain ⟨rfl, rfl⟩ : p2 = some ⟨b, 0, none⟩ ∧ c2 = c := by simp at hv; exact hv
          clear hv
          obtain ⟨k, z, hkf, hz, hgo, _⟩ : ∃ (k : Nat) (z : Iv), findI M x.1 = k ∧ M[k]? = some z ∧ getO L x.1 = some z ∧ z.1 = x.1 := (perm_find PM.out GD.out x.1).resolve_left (fun h => by rw [get_mem GD.out (List.mem_of_getElem? hx)] at h; exact absurd h.2 (by simp))
          obtain rfl : x = z := by rw [get_mem GD.out (List.mem_of_getElem? hx)] at hgo; exact Option.some.inj hgo
          have hkl : k < M.length := (List.getElem?_eq_some_iff.1 hz).1
          have lk : (k : Int) < (M.length : Int) := by omega
          obtain ⟨bu, cu, hu, f0, f1⟩ := row_two (R6.out.below BX.out) hz
          obtain ⟨rfl, rfl⟩ : p4 = some ⟨bu, 0, none⟩ ∧ c4 = cu := by simp at hu; exact hu
          clear hu
          have hs := sum_bd (GD.out.take i)
          have okx := GD.out.ok x (List.mem_of_getElem? hx)
          have HST := Lib.hid (sum_take hx)
          have hlt : (L.take i).length = i := by rw [List.length_take]; omega
          rw [hlt] at hs
          have HPV : Hid (∀ y, L[i - 1]? = some y → 0 < i → y.1 < x.1) := fun y hy h0 => by have h3 := GD.out.lt (show i - 1 < i by omega) hy hx; have h4 := GD.out.ok y (List.mem_of_getElem? hy); omega
          obtain ⟨x1, x2⟩ := x
          simp only at e0 e1 f0 f1 okx hkf HPV HST
          have HKF := Lib.hid hkf
          have b7 := below_alloc wr (.cells #[.int .i64 x1, .int .i64 x2] 56)
          have B7 := Lib.hid (below_after BX.out b7)
          have D7 := Lib.hid (Duo6.new wr x1 x2)
          have R7 := Lib.hid ((R6.out.below BX.out).below b7)
          have f0' := (b7.cell (p := ⟨bu, k * 2, none⟩) (World.block_lt_of_cell? _ _ f0)).trans f0
          have f1' := (b7.cell (p := ⟨bu, k * 2 + 1, none⟩) (World.block_lt_of_cell? _ _ f1)).trans f1
          have HPC : Hid (0 < i → ∃ y1 : Int, y1 < x1 ∧ (wr.alloc (.cells #[.int .i64 x1, .int .i64 x2] 56)).cell? ⟨b, (i - 1) * 2, none⟩ = some (.int .i64 y1)) := fun h0 => by
            obtain ⟨y, hy⟩ : ∃ y, L[i - 1]? = some y := ⟨L[i - 1], List.getElem?_eq_getElem (by omega)⟩
            obtain ⟨b9, c9, hv9, g0, _⟩ := row_two ((Q6.out.below BX.out).below b7) hy
            obtain ⟨rfl, rfl⟩ : b = b9 ∧ c2 = c9 := by simp at hv9; exact hv9
            exact ⟨y.1, HPV.out y hy h0, g0⟩
          obtain ⟨g0, g1⟩ := D7.out.cells
          generalize hsi : sumL (L.take i) = si at *
          clear hsi b7 hx hz hgo hkf f0 f1 hlt
          go_wp2_with fail
          generalize wr.alloc (.cells #[.int .i64 x1, .int .i64 x2] 56) = w7 at *
          generalize wr.heap.size = nb at *
          refine (rfind_any _ M x1 _ R7 few).mono ?_
          rintro e w' ⟨he, rfl⟩
          rw [HKF.out] at he
          subst he
          have k0 := cell_regrown f0'
          have k1 := cell_regrown f1'
          have k2 := cell_regrown g0
          have k3 := cell_regrown g1
          have dkn : decide ((k : Int) < 0) = false := by simp
          by_cases hi0 : i = 0
          · subst hi0
            go_wp2_with fail
            refine wp_region_quiet_below (by kernel_rfl) (by kernel_rfl) ?_
            repeat (go_big_quiet_step (fail))
            refine wpQuiet_nil ?_
            intro _ hw'
            obtain ⟨⟨dq, osq⟩, hw''⟩ := hw'
            subst hw''
            have b8 := below_regrown w7 dq osq
            have B8 := Lib.hid (below_after B7.out b8)
            obtain ⟨g2, g3⟩ := (D7.out.next b8).cells
            clear b8
            generalize Sort.grow (redrawn w7 dq) osq = w8 at *
            go_wp2_with fail
            go_roundw
            case rel => exact ⟨_, hil, by rw [HST.out], rfl, B8.out⟩
            case measure => simp [intOf]; omega
          · obtain ⟨y1, hy1, hcy⟩ := HPC.out (by omega)
            obtain ⟨i', rfl⟩ : ∃ i', i = i' + 1 := ⟨i - 1, by omega⟩
            rw [show i' + 1 - 1 = i' by omega] at hcy
            have k4 := cell_regrown hcy
            have di : decide ((0 : Int) < (((i' + 1 : Nat)) : Int)) = true := by simp
            have dge : decide (x1 ≤ y1) = false := by simp; omega
            have li : (i' : Int) < (L.length : Int) := by omega
            have hii : (((i' + 1 : Nat)) : Int) - 1 = (i' : Int) := by omega
            go_wp2_with fail
            refine wp_region_quiet_below (by kernel_rfl) (by kernel_rfl) ?_
            repeat (go_big_quiet_step (fail))
            refine wpQuiet_nil ?_
            intro _ hw'
            obtain ⟨⟨dq, osq⟩, hw''⟩ := hw'
            subst hw''
            have b8 := below_regrown w7 dq osq
            have B8 := Lib.hid (below_after B7.out b8)
            obtain ⟨g2, g3⟩ := (D7.out.next b8).cells
            clear b8
            generalize Sort.grow (redrawn w7 dq) osq = w8 at *
            go_wp2_with fail
            go_roundw
            case rel => exact ⟨_, hil, by rw [HST.out], rfl, B8.out⟩
            case measure => simp [intOf]; omega
        · obtain rfl : i = L.length := by omega
          rw [List.take_length]
          have S7 := Lib.hid (S6.out.next BX.out)
          have hll : ((L.length : Int) == (M.length : Int)) = true := by simp [HLEN.out]
          have hll' : (L.length == M.length) = true := by simp [HLEN.out]
          go_wp2_with fail
          refine (sm_bytes S7).mono ?_
          rintro e w9 ⟨rfl, hb⟩
          have HE := Lib.hid (S7.out.next hb).b
          clear hb
          go_wp2_with fail
          go_ret
          exact ⟨rfl, HE.out⟩

theorem does6_walk (ad : Option Addr) (len cap : Nat) (K A B : Nat → Int) (w : World) (hr : RowP w ad len K A B) :
    Calls Try.prog 9 #[.slice ad len cap] w fun e w' => e = .returned (.bool true) ∧ Below w.heap.size w w' := by
  by_cases h : 100 < len
  · exact does6_out ad len cap w h
  · exact does6_in ad len cap K A B w (by omega) hr

end Go.Proofs.Ytjlklkaaonfpdaa
