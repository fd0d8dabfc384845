/-
  The walk of the statement SpanBack: one that could be put, and goes again, leaves all as it was; what is answered is apart.
-/
import Derived.Test.YtjlklkaaonfpdaaWSpanAsks
namespace Go.Proofs.Ytjlklkaaonfpdaa
open Go.RowKit Go.Sort

theorem put_apart {l : List Iv} (g : Good l) {x : Iv} (h : putB l x = true) : ∀ y ∈ l, y.1 ≠ x.1 := fun y hy e => by
  have hm := put_may h
  have ok := g.ok y hy
  have ho : overB l x = false := by simp [putB] at h; exact h.2
  simp only [overB, show decide (1 ≤ x.2) = true from by simp; omega, Bool.true_and] at ho
  have := (List.any_eq_false.1 ho) y hy
  simp [shB] at this
  omega
theorem drop_ins {l : List Iv} (g : Good l) {x : Iv} (h : putB l x = true) : dropL (insL x l) x.1 = l := by
  have hne := put_apart g h
  clear g h
  unfold dropL
  induction l with
  | nil => simp [insL]
  | cons y t ih =>
    have hy := hne y (by simp)
    have hy' : (y.1 != x.1) = true := by simpa using hy
    rw [insL]
    split
    · rw [List.filter_cons, if_pos hy', ih (fun z hz => hne z (List.mem_cons_of_mem _ hz))]
    · rw [List.filter_cons, if_neg (by simp), List.filter_eq_self]
      intro z hz
      simpa using hne z hz
theorem get_ins {l : List Iv} (g : Good l) {x : Iv} (h : putB l x = true) : getO (insL x l) x.1 = some x := get_mem (good_ins g h) (mem_ins.2 (.inl rfl))

/-- A row whose first ones may have turned. -/
def Nw (w : World) (b i : Nat) (l : List Iv) : Prop := ∃ cur, w.heap[b]? = some (.cells cur 56 (0, 0)) ∧ ∀ j x, i ≤ j → l[j]? = some x → cur[j * 2]? = some (.int .i64 x.1) ∧ cur[j * 2 + 1]? = some (.int .i64 x.2)
theorem Nw.of {w : World} {b cap : Nat} {l : List Iv} {cur : Array Value} (h : IvBlk w b cap l cur) : Nw w b 0 l :=
  ⟨cur, h.at_, fun j x _ hx => by
    have h2 := h.two hx
    simp [World.cell?, h.at_] at h2
    exact h2⟩
theorem Nw.lt {w : World} {b i : Nat} {l : List Iv} (h : Nw w b i l) : b < w.heap.size := by obtain ⟨c, h, _⟩ := h; exact (Array.getElem?_eq_some_iff.1 h).1
theorem Nw.next {w w' : World} {b i : Nat} {l : List Iv} (h : Nw w b i l) (hb : w'.heap[b]? = w.heap[b]?) : Nw w' b i l := by obtain ⟨c, h1, h2⟩ := h; exact ⟨c, hb.trans h1, h2⟩
theorem Nw.at {w : World} {b i : Nat} {l : List Iv} {x : Iv} (h : Nw w b i l) (hx : l[i]? = some x) : w.cell? ⟨b, i * 2, none⟩ = some (.int .i64 x.1) ∧ w.cell? ⟨b, i * 2 + 1, none⟩ = some (.int .i64 x.2) ∧ w.frozen? ⟨b, i * 2, none⟩ = false := by
  obtain ⟨c, h1, h2⟩ := h
  obtain ⟨h3, h4⟩ := h2 i x (Nat.le_refl _) hx
  refine ⟨?_, ?_, ?_⟩
  · simp [World.cell?, h1, h3]
  · simp [World.cell?, h1, h4]
  · simp [World.frozen?, h1]
theorem Nw.set {w : World} {b i : Nat} {l : List Iv} (h : Nw w b i l) (u : Value) : Nw (w.setCell ⟨b, i * 2, none⟩ u) b (i + 1) l := by
  have hl := h.lt
  obtain ⟨c, h1, h2⟩ := h
  refine ⟨c.setIfInBounds (i * 2) u, ?_, fun j x hj hx => ?_⟩
  · simp [World.setCell, Array.getElem?_modify, h1]
  · obtain ⟨h3, h4⟩ := h2 j x (by omega) hx
    refine ⟨?_, ?_⟩
    · rw [Array.getElem?_setIfInBounds_ne (by omega)]; exact h3
    · rw [Array.getElem?_setIfInBounds_ne (by omega)]; exact h4
theorem Sm.set {w0 w : World} {g b j : Nat} {F : Nat → Prop} {l : List Iv} (s : Sm w0 w g F l) (hF : F b) (hb : w0.heap.size ≤ b) (u : Value) : Sm w0 (w.setCell ⟨b, j, none⟩ u) g F l := by
  obtain ⟨v, m, h1, h2⟩ := s.ex
  obtain ⟨h3, h4, h5⟩ := h2 b hF
  refine ⟨⟨v, m.keep (set_other7 (fun e => h4 e.symm) u) (fun k hk => set_other7 (fun e => h5 (by rw [hk, e])) u), h1, fun k hk => ⟨by simpa using (h2 k hk).1, (h2 k hk).2⟩⟩, s.gd, s.hg, s.b.setCell hb u⟩
/-- An interval of a row, in whatever world has the row. -/
theorem row_two {w : World} {v : Value} {l : List Iv} {i : Nat} {x : Iv} (h : IvRow w v l) (hx : l[i]? = some x) : ∃ b c, v = .slice (some ⟨b, 0, none⟩) l.length c ∧ w.cell? ⟨b, i * 2, none⟩ = some (.int .i64 x.1) ∧ w.cell? ⟨b, i * 2 + 1, none⟩ = some (.int .i64 x.2) := by
  rcases h.cases with ⟨rfl, rfl⟩ | ⟨b, cap, cur, rfl, hB⟩
  · cases hx
  · exact ⟨b, cap, rfl, hB.two hx⟩
theorem row_kp {F : Nat → Prop} {w w' : World} {v : Value} {l : List Iv} (h : IvRow w v l) (k : Kp F w w') (hF : ∀ j, v.ownBlock = some j → F j) : IvRow w' v l := h.next fun j hj => k.block j (hF j hj)

set_option maxHeartbeats 1000000 in
theorem back_out (ad : Option Addr) (len cap : Nat) (x y : Int) (w : World) (h : 60 < len ∨ farB x = true) (hl : len < 9223372036854775808) :
    Calls Try.prog 11 #[.slice ad len cap, .agg #[.int .i64 x, .int .i64 y]] w fun e w' => e = .returned (.bool true) ∧ Below w.heap.size w w' := by
  have B0 := Lib.hid (below_alloc w (.cells #[.int .i64 x, .int .i64 y] 56))
  have D0 := Lib.hid (Duo6.new w x y)
  have HH := Lib.hid h
  clear h
  go_enter Try.func11, Try.ntmps11
  go_wp2_with fail
  generalize w.alloc (.cells #[.int .i64 x, .int .i64 y] 56) = w1 at *
  generalize hN : w.heap.size = N at *
  refine (speaks6 _).mono ?_
  rintro e w2 ⟨rfl, hb⟩
  have B2 := Lib.hid (Below.trans B0.out (hb.mono (by rw [← hN]; exact B0.out.size)))
  have D2 := Lib.hid (D0.out.next hb)
  clear hb B0 D0
  obtain ⟨c0, c1⟩ := D2.out.cells
  by_cases h1 : 60 < len
  · have d1 : decide (60 < len) = true := by simpa using h1
    have d1' : decide ((60 : Int) < (len : Int)) = true := by simp; omega
    go_wp2_with fail
    go_ret
    exact ⟨rfl, by first | exact B2.out | (rw [hN]; exact B2.out)⟩
  · have d1 : decide (60 < len) = false := by simpa using h1
    have d1' : decide ((60 : Int) < (len : Int)) = false := by simp; omega
    have hf : farB x = true := HH.out.resolve_left h1
    have HF := Lib.hid hf
    clear hf
    go_wp2_with fail
    refine (far_any x y _).mono ?_
    rintro e w3 ⟨he, hb⟩
    obtain rfl : e = .returned (.bool true) := by rw [he, HF.out]
    have B3 := Lib.hid (Below.trans B2.out (hb.mono (by rw [← hN]; exact B2.out.size)))
    clear hb he
    go_wp2_with fail
    go_ret
    exact ⟨rfl, by first | exact B3.out | (rw [hN]; exact B3.out)⟩

set_option maxRecDepth 20000 in
set_option maxHeartbeats 4000000 in
theorem back_in (ad : Option Addr) (len cap : Nat) (A B : Nat → Int) (x y : Int) (w : World) (h1 : len ≤ 60) (hf : Hid (farB x = false)) (hr : Hid (RowIv w ad len A B)) :
    Calls Try.prog 11 #[.slice ad len cap, .agg #[.int .i64 x, .int .i64 y]] w fun e w' => e = .returned (.bool true) ∧ Below w.heap.size w w' := by
  have B0 := Lib.hid (below_alloc w (.cells #[.int .i64 x, .int .i64 y] 56))
  have D0 := Lib.hid (Duo6.new w x y)
  have d1 : decide (60 < len) = false := by simp; omega
  have d1' : decide ((60 : Int) < (len : Int)) = false := by simp; omega
  obtain ⟨x1, x2⟩ := far_no hf.out
  have HWN : Hid (∀ w', Below w.heap.size w w' → RowIv w' ad len A B) := fun w' hb => hr.out.next hb
  go_enter Try.func11, Try.ntmps11
  go_wp2_with fail
  generalize w.alloc (.cells #[.int .i64 x, .int .i64 y] 56) = w1 at *
  generalize hN : w.heap.size = N at *
  refine (speaks6 _).mono ?_
  rintro e w2 ⟨rfl, hb⟩
  have B2 := Lib.hid (Below.trans B0.out (hb.mono (by rw [← hN]; exact B0.out.size)))
  have D2 := Lib.hid (D0.out.next hb)
  clear hb B0 D0
  obtain ⟨c0, c1⟩ := D2.out.cells
  go_wp2_with fail
  refine (far_any x y _).mono ?_
  rintro e w3 ⟨he, hb⟩
  obtain rfl : e = .returned (.bool false) := by rw [he, hf.out]
  have B3 := Lib.hid (Below.trans B2.out (hb.mono (by rw [← hN]; exact B2.out.size)))
  have D3 := Lib.hid (D2.out.next hb)
  clear hb he B2 D2 c0 c1
  have lN := D3.out.lt
  have b4 := below_alloc w3 (.cells #[.slice none 0 0] 54)
  have D4 := Lib.hid (D3.out.next b4)
  have S4 : Hid (Sm w (w3.alloc (.cells #[.slice none 0 0] 54)) w3.heap.size (fun k => k = N) []) := Sm.start (by rw [hN]; exact B3.out) (fun k hk => by rw [hk]; exact lN)
  clear b4 B3 D3 lN
  go_wp2_with fail
  generalize w3.alloc (.cells #[.slice none 0 0] 54) = w4 at *
  generalize w3.heap.size = g at *
  go_loopw [26] (fun u wx => ∃ (j : Nat) (L : List Iv), j ≤ len ∧ L.length ≤ j ∧ u = .int .i64 j ∧ Sm w wx g (fun k => k = N) L ∧ Duo6 wx N x y) (fun u _ => len - (intOf u).toNat)
  case atStart => exact ⟨0, [], Nat.zero_le _, Nat.le_refl _, rfl, S4.out, D4.out⟩
  case round =>
    obtain ⟨j, L, hj, hL, rfl, s, d⟩ := hrel
    have S5 := Lib.hid s
    have D5 := Lib.hid d
    clear s d S4 D4
    by_cases h : j < len
    · have l2 : (j : Int) < (len : Int) := by omega
      have HR := Lib.hid (HWN.out _ (by rw [← hN]; exact S5.out.b))
      obtain ⟨b, off, rfl, e0, e1⟩ := HR.out.at h
      obtain ⟨a1, HA1⟩ : ∃ a1, Hid (A j = a1) := ⟨_, rfl⟩
      obtain ⟨a2, HA2⟩ : ∃ a2, Hid (B j = a2) := ⟨_, rfl⟩
      rw [HA1.out] at e0
      rw [HA2.out] at e1
      have S6 := Lib.hid (S5.out.alloc (.cells #[.int .i64 a1, .int .i64 a2] 56))
      have E6 := Lib.hid (Duo6.new wr a1 a2)
      have D6 := Lib.hid (D5.out.next (below_alloc wr (.cells #[.int .i64 a1, .int .i64 a2] 56)))
      go_wp2_with fail
      generalize wr.alloc (.cells #[.int .i64 a1, .int .i64 a2] 56) = w6 at *
      generalize wr.heap.size = M at *
      clear e0 e1
      obtain ⟨e0, e1⟩ := E6.out.cells
      refine (far_any a1 a2 _).mono ?_
      rintro e w7 ⟨rfl, hb⟩
      have S7 := Lib.hid (S6.out.next hb)
      have E7 := Lib.hid (E6.out.next hb)
      have D7 := Lib.hid (D6.out.next hb)
      clear hb S6 E6 D6 e0 e1 S5 D5
      obtain ⟨e0, e1⟩ := E7.out.cells
      rcases hfa : farB a1 with _ | _
      · clear hfa
        go_wp2_with fail
        refine (sm_put S7 a1 a2 (by omega)).mono ?_
        rintro e w8 ⟨rfl, s, k⟩
        have D8 := Lib.hid (duo_kp D7.out k (.inl rfl))
        have S8 := Lib.hid (s.weak (G := fun k => k = N) (fun k h => .inl h))
        have hln := len_put L (a1, a2)
        clear s k S7 E7 D7 e0 e1
        go_wp2_with fail
        go_roundw
        case rel => exact ⟨j + 1, _, by omega, by omega, rfl, S8.out, D8.out⟩
        case measure => simp [intOf]; omega
      · clear hfa
        have S8 := Lib.hid (S7.out.weak (G := fun k => k = N) (fun k h => .inl h))
        go_wp2_with fail
        go_roundw
        case rel => exact ⟨j + 1, L, by omega, by omega, rfl, S8.out, D7.out⟩
        case measure => simp [intOf]; omega
    · obtain rfl : j = len := by omega
      clear HWN hr
      have HGD := Lib.hid S5.out.gd
      have HNW : Hid (w.heap.size ≤ wr.heap.size) := S5.out.b.size
      go_wp2_with fail
      refine (sm_all S5).mono ?_
      rintro e w5 ⟨v1, rfl, hrw, hb, hf1⟩
      have S6 : Hid (Sm w w5 g (fun k => k = N ∨ v1.ownBlock = some k) L) := S5.out.more hb (fun k hk => hk.imp id (fun h => ⟨hf1 k h, hrw.lt h⟩))
      have D6 := Lib.hid (D5.out.next hb)
      have R6 := Lib.hid hrw
      clear hb hrw hf1 S5 D5
      obtain ⟨c0, c1⟩ := D6.out.cells
      go_wp2_with fail
      refine (sm_put S6 x y (by omega)).mono ?_
      rintro e w6 ⟨rfl, s, k⟩
      have S7 := Lib.hid s
      have D7 := Lib.hid (duo_kp D6.out k (.inl rfl))
      have R7 := Lib.hid (row_kp R6.out k (fun j hj => .inr hj))
      clear s k S6 D6 R6 c0 c1
      obtain ⟨c0, c1⟩ := D7.out.cells
      go_upto_if 38 with fail
      go_cut [4] (fun v wx => v = .bool false ∧ Sm w wx g (fun k => k = N ∨ v1.ownBlock = some k) L ∧ IvRow wx v1 L)
      case first =>
        rcases hp : putB L (x, y) with _ | _
        · have HPL := Lib.hid (put_false hp)
          clear hp
          go_wp2_with fail
          go_meet
          case rel => exact ⟨rfl, by have := S7.out; rw [HPL.out] at this; exact this, R7.out⟩
        · have HPL := Lib.hid (put_true hp)
          have HDI := Lib.hid (drop_ins HGD.out hp)
          have HGI := Lib.hid (get_ins HGD.out hp)
          clear hp
          go_wp2_with fail
          refine (sm_drop S7 x).mono ?_
          rintro e w7 ⟨he, s, k⟩
          rw [HPL.out, HGI.out] at he
          rw [HPL.out, HDI.out] at s
          obtain rfl : e = .returned (.tuple #[.agg #[.int .i64 x, .int .i64 y], .bool true]) := he
          have S8 := Lib.hid s
          have D8 := Lib.hid (duo_kp D7.out k (.inl rfl))
          have R8 := Lib.hid (row_kp R7.out k (fun j hj => .inr hj))
          clear s k
          have b9 := below_alloc w7 (.cells #[.int .i64 x, .int .i64 y] 56)
          have S9 := Lib.hid (S8.out.next b9)
          have R9 := Lib.hid (R8.out.below b9)
          obtain ⟨g0, g1⟩ := (D8.out.next b9).cells
          obtain ⟨g2, g3⟩ := (Duo6.new w7 x y).cells
          clear b9
          go_wp2_with fail
          go_meet
          case rel => exact ⟨rfl, S9.out, R9.out⟩
      case rest =>
        obtain ⟨rfl, s, r⟩ := hcut
        have S8 := Lib.hid s
        have R8 := Lib.hid r
        have HNC : Hid (w.heap.size ≤ wc.heap.size) := S8.out.b.size
        clear s r S7 R7 D7 c0 c1
        go_wp2_with fail
        refine (sm_all S8).mono ?_
        rintro e w8 ⟨v2, rfl, hrw, hb, hf2⟩
        have S9 : Hid (Sm w w8 g (fun k => v1.ownBlock = some k ∨ v2.ownBlock = some k) L) := S8.out.more hb (fun k hk => hk.imp (fun h => .inr h) (fun h => ⟨hf2 k h, hrw.lt h⟩))
        have R9 := Lib.hid (R8.out.below hb)
        have HNE : Hid (∀ k1 k2, v1.ownBlock = some k1 → v2.ownBlock = some k2 → k1 ≠ k2) := fun k1 k2 h1 h2 => by have := R8.out.lt h1; have := hf2 k2 h2; omega
        have HW2 : Hid (∀ k, v2.ownBlock = some k → w.heap.size ≤ k) := fun k hk => Nat.le_trans HNC.out (hf2 k hk)
        have Q9 := Lib.hid hrw
        clear hb hrw hf2 S8 R8
        obtain ⟨p1, q1, hv1, hq1, hq1'⟩ := row_len R9.out
        obtain ⟨p2, q2, hv2, hq2, hq2'⟩ := row_len Q9.out
        clear hq1 hq1' hq2 hq2'
        subst hv1 hv2
        have enn : (L.length != L.length) = false := by simp
        go_wp2_with fail
        go_loopw [60] (fun u wx => ∃ i : Nat, i ≤ L.length ∧ u = .int .i64 i ∧ Sm w wx g (fun k => (Value.slice p1 L.length q1).ownBlock = some k ∨ (Value.slice p2 L.length q2).ownBlock = some k) L ∧ IvRow wx (.slice p1 L.length q1) L ∧ ∀ b, p2 = some ⟨b, 0, none⟩ → Nw wx b i L) (fun u _ => L.length - (intOf u).toNat)
        case atStart =>
          refine ⟨0, Nat.zero_le _, rfl, S9.out, R9.out, fun b hb => ?_⟩
          rcases Q9.out.cases with ⟨h, _⟩ | ⟨b', c', cur, h, hB⟩
          · have hp : p2 = none := by simp at h; exact h.1
            rw [hp] at hb; cases hb
          · have hp : p2 = some ⟨b', 0, none⟩ := by simp at h; exact h.1
            rw [hp] at hb; cases hb; exact Nw.of hB
        case round =>
          obtain ⟨i, hi, rfl, s, r, n⟩ := hrel
          have S10 := Lib.hid s
          have R10 := Lib.hid r
          have N10 := Lib.hid n
          clear s r n S9 R9
          by_cases hil : i < L.length
          · have l3 : (i : Int) < (L.length : Int) := by omega
            obtain ⟨z, hz⟩ : ∃ z, L[i]? = some z := ⟨L[i], List.getElem?_eq_getElem hil⟩
            obtain ⟨bq, cq, hvq, _, _⟩ := row_two Q9.out hz
            obtain ⟨br, cr, hvr, e0, e1⟩ := row_two R10.out hz
            obtain ⟨rfl, rfl⟩ : p2 = some ⟨bq, 0, none⟩ ∧ q2 = cq := by simp at hvq; exact hvq
            obtain ⟨rfl, rfl⟩ : p1 = some ⟨br, 0, none⟩ ∧ q1 = cr := by simp at hvr; exact hvr
            clear hvq hvr
            have N11 := Lib.hid (N10.out bq rfl)
            obtain ⟨f0, f1, f2⟩ := N11.out.at hz
            have okz := HGD.out.ok z (List.mem_of_getElem? hz)
            have hbr : br ≠ bq := HNE.out br bq rfl rfl
            obtain ⟨z1, z2⟩ := z
            simp only at e0 e1 f0 f1 okz
            have hz1 : z1 ≤ 1099511627776 := okz.2.1
            have hz0 : 0 ≤ z1 := okz.1
            clear hz okz
            have ke0 := cell_regrown e0
            have ke1 := cell_regrown e1
            have kf0 := cell_regrown f0
            have kf1 := cell_regrown f1
            go_wp2_with fail
            refine wp_region_quiet_below (by kernel_rfl) (by kernel_rfl) ?_
            repeat (go_big_quiet_step (fail))
            refine wpQuiet_nil ?_
            intro _ hw'
            obtain ⟨⟨dq, osq⟩, hw''⟩ := hw'
            subst hw''
            have b11 := below_regrown wr dq osq
            have S12 := Lib.hid (S10.out.next b11)
            have R12 := Lib.hid (R10.out.below b11)
            have N12 := Lib.hid (N11.out.next (b11.block bq N11.out.lt))
            have f2' : (Sort.grow (redrawn wr dq) osq).frozen? ⟨bq, i * 2, none⟩ = false := (World.frozen?_of_block (b11.block bq N11.out.lt)).trans f2
            have f0' := kf0 dq osq
            clear b11 ke0 ke1 kf0 kf1 e0 e1 f0 f1 f2
            generalize Sort.grow (redrawn wr dq) osq = w12 at *
            have S13 := Lib.hid (S12.out.set (b := bq) (j := i * 2) (.inr rfl) (HW2.out bq rfl) (.int .i64 (z1 + 1)))
            have R13 := Lib.hid (R12.out.next (w' := w12.setCell ⟨bq, i * 2, none⟩ (.int .i64 (z1 + 1))) (fun k hk => set_other7 (by simp [Value.ownBlock] at hk; omega) _))
            have N13 := Lib.hid (N12.out.set (.int .i64 (z1 + 1)))
            go_wp2_with fail
            go_roundw
            case rel => exact ⟨i + 1, by omega, rfl, S13.out, R13.out, fun b hb => by cases hb; exact N13.out⟩
            case measure => simp [intOf]; omega
          · obtain rfl : i = L.length := by omega
            have S11 := Lib.hid (S10.out.weak (G := fun k => (Value.slice p1 L.length q1).ownBlock = some k) (fun k h => .inl h))
            clear S10 N10 HNE HW2 Q9
            go_wp2_with fail
            refine (sm_all S11).mono ?_
            rintro e w14 ⟨v3, rfl, hrw, hb, _⟩
            have S14 := Lib.hid (S11.out.next hb)
            have R14 := Lib.hid (R10.out.below hb)
            have Q14 := Lib.hid hrw
            obtain ⟨p3, q3, hv3, _, _⟩ := row_len hrw
            subst hv3
            clear hb hrw S11 R10
            go_wp2_with fail
            go_loopw [83] (fun u wx => ∃ i : Nat, i ≤ L.length ∧ u = .int .i64 i ∧ Below w14.heap.size w14 wx) (fun u _ => L.length - (intOf u).toNat)
            case atStart => exact ⟨0, Nat.zero_le _, rfl, Below.refl _ _⟩
            case round =>
              obtain ⟨i, hi, rfl, hbx⟩ := hrel
              have BX := Lib.hid hbx
              clear hbx
              by_cases hil : i < L.length
              · have l3 : (i : Int) < (L.length : Int) := by omega
                obtain ⟨z, hz⟩ : ∃ z, L[i]? = some z := ⟨L[i], List.getElem?_eq_getElem hil⟩
                obtain ⟨bq, cq, hvq, f0, f1⟩ := row_two (Q14.out.below BX.out) hz
                obtain ⟨br, cr, hvr, e0, e1⟩ := row_two (R14.out.below BX.out) hz
                obtain ⟨rfl, rfl⟩ : p3 = some ⟨bq, 0, none⟩ ∧ q3 = cq := by simp at hvq; exact hvq
                obtain ⟨rfl, rfl⟩ : p1 = some ⟨br, 0, none⟩ ∧ q1 = cr := by simp at hvr; exact hvr
                clear hvq hvr hz
                obtain ⟨z1, z2⟩ := z
                simp only at e0 e1 f0 f1
                have b15 := below_alloc wr (.cells #[.int .i64 z1, .int .i64 z2] 56)
                have B15 := Lib.hid (below_after BX.out b15)
                obtain ⟨g0, g1⟩ := (Duo6.new wr z1 z2).cells
                have e0' := (b15.cell (p := ⟨br, i * 2, none⟩) (World.block_lt_of_cell? _ _ e0)).trans e0
                have e1' := (b15.cell (p := ⟨br, i * 2 + 1, none⟩) (World.block_lt_of_cell? _ _ e1)).trans e1
                clear b15
                go_wp2_with fail
                generalize wr.alloc (.cells #[.int .i64 z1, .int .i64 z2] 56) = w15 at *
                have k0 := cell_regrown g0
                have k1 := cell_regrown g1
                have k2 := cell_regrown e0'
                have k3 := cell_regrown e1'
                refine wp_region_quiet_below (by kernel_rfl) (by kernel_rfl) ?_
                repeat (go_big_quiet_step (fail))
                refine wpQuiet_nil ?_
                intro _ hw'
                obtain ⟨⟨dq, osq⟩, hw''⟩ := hw'
                subst hw''
                have B16 := Lib.hid (below_after B15.out (below_regrown w15 dq osq))
                clear k0 k1 k2 k3 g0 g1 e0 e1 e0' e1' f0 f1
                generalize Sort.grow (redrawn w15 dq) osq = w16 at *
                go_wp2_with fail
                go_roundw
                case rel => exact ⟨i + 1, by omega, rfl, B16.out⟩
                case measure => simp [intOf]; omega
              · obtain rfl : i = L.length := by omega
                have HE := Lib.hid (S14.out.next BX.out).b
                go_wp2_with fail
                go_ret
                exact ⟨rfl, by first | exact HE.out | (rw [hN]; exact HE.out) | simpa [hN] using HE.out⟩

theorem back_walk (ad : Option Addr) (len cap : Nat) (A B : Nat → Int) (x y : Int) (w : World) (hr : RowIv w ad len A B) :
    Calls Try.prog 11 #[.slice ad len cap, .agg #[.int .i64 x, .int .i64 y]] w fun e w' => e = .returned (.bool true) ∧ Below w.heap.size w w' := by
  have hl : len < 9223372036854775808 := by have := hr.1; unfold maxLen at this; omega
  by_cases h : 60 < len ∨ farB x = true
  · exact back_out ad len cap x y w h hl
  · exact back_in ad len cap A B x y w (by omega) (by show farB x = false; cases hf : farB x <;> simp_all) hr

end Go.Proofs.Ytjlklkaaonfpdaa
