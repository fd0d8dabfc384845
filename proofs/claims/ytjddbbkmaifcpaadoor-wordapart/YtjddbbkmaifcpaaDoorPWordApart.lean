/-
  WordApart: for every word, number and two fields: what is put into a field is there; another field, apart from it, has what it had. The statement returns true, whatever the input.
  Conditions: the variable refFields of package word holds what the program text lays there (the card ties it).
-/
import Derived.Test.YtjddbbkmaifcpaaDoorTie
import Derived.Test.YtjddbbkmaifcpaaDoorCards
import Derived.Test.YtjddbbkmaifcpaaDoorLWord
import Derived.Test.YtjddbbkmaifcpaaDoorOpenCase
import Derived.Test.YtjddbbkmaifcpaaDoorWWordApart
import Derived.Lib.SmallJoins
namespace Go.Proofs.YtjddbbkmaifcpaaDoor.PWordApart
open Go.ChangeShapes Go.WideShapes Go.ChangeAt Go.RowKit

open Go.Proofs.YtjddbbkmaifcpaaDoor.LW

set_option maxRecDepth 100000 in
theorem lifted (os : Os) (started : os.Started) (H : Type) (enc : TypeId × Value → H) :
    ReturnsInHanded {} Tryd.checked os 5 .any (fun w args => (Rows.wordApartSpec.pre enc Tryd.prog Tryd.f5 [] false w args ∧ laidMetH Tryd.prog laidR w) ∧ sizedMet enc Tryd.prog Tryd.f5 (OpenSpec.ofChange Rows.wordApartSpec) false w args)
      (Rows.wordApartSpec.post enc Tryd.prog Tryd.f5 false true false false) := by
  refine returnsInHanded_of_change_and (C := Tryd.checked) (X := fun w _ => laidMetH Tryd.prog laidR w) (fun _ _ _ hh h => h.of_heap hh) own started (by kernel_rfl) Tryd.func5
    (ChangeSpec.witness_shaped (enc := enc) (C := Tryd.checked) (os := os) (X := fun w _ => laidMetH Tryd.prog laidR w) false (World.doorLaid Tryd.prog doorSteps os) #[.agg #[.int .u64 0, .int .u64 0, .int .i64 0, .int .i64 0, .int .i64 0, .int .i64 0]] 8 rfl (World.shaped_of_RefB (by kernel_rfl) (by kernel_rfl)) (by kernel_rfl) (by kernel_rfl) (by kernel_rfl) (doorR_met os _)) ?_
  intro W base args ds gs before hval0 hW _ _ hL _
  have hval : ∀ (j : Nat) t v, Tryd.f5.params[j]? = some t → args[j]? = some v → Value.okWide Tryd.prog W .any base t v := hval0
  have hW' := hW
  obtain ⟨p, q, hA0, hV, rfl, hfz, hnd⟩ := hW
  have hA : DataW.TrodAll enc Tryd.prog W 0 (fun _ => true) true Tryd.f5.params.toList args.toList ds p := hA0
  rw [Tryd.params5] at hA hval
  obtain ⟨v0, vs0, d0, ds0, p0, q0, hargs, rfl, rfl, h0, r0⟩ := trodAll_cons hA
  obtain ⟨rfl, rfl, rfl⟩ := trodAll_nil r0
  obtain rfl : args = #[v0] := by cases args; simp_all
  obtain ⟨rfl, rfl⟩ := trodVars_none hV
  have k0 := h0
  have lt0 : ∀ x ∈ p0, x.block < W.heap.size := by obtain ⟨m, hm⟩ := k0; exact DataW.trod_lt m _ _ _ hm
  obtain ⟨c0, c1, c2, c3, c4, c5, y0, y1, y2, y3, y4, y5, n0, n1, n2, rfl, hy0, hy1, hy2, hy3, hy4, hy5⟩ := open_case Tryd.underlying37 (by kernel_rfl) (by rfl) (by rfl) (by rfl) (by rfl) (by kernel_rfl) (by kernel_rfl) (by kernel_rfl) (by kernel_rfl) Tryd.underlying24 (by kernel_rfl) Tryd.underlying24 (by kernel_rfl) (hval 0 37 v0 rfl rfl) h0
  obtain ⟨x00, e00, _, w00⟩ := DataW.trod_int Tryd.underlying22 hy0
  obtain ⟨x01, e01, _, w01⟩ := DataW.trod_int Tryd.underlying22 hy1
  obtain ⟨x02, e02, _, w02⟩ := DataW.trod_int Tryd.underlying3 hy2
  obtain ⟨x03, e03, _, w03⟩ := DataW.trod_int Tryd.underlying3 hy3
  obtain ⟨x04, e04, _, w04⟩ := DataW.trod_int Tryd.underlying3 hy4
  obtain ⟨x05, e05, _, w05⟩ := DataW.trod_int Tryd.underlying3 hy5
  simp at e00 e01 e02 e03 e04 e05
  subst e00 e01 e02 e03 e04 e05
  have b00 := bounds_u64 w00
  obtain ⟨m00, rfl⟩ := Int.eq_ofNat_of_zero_le b00.1
  have b01 := bounds_u64 w01
  obtain ⟨m01, rfl⟩ := Int.eq_ofNat_of_zero_le b01.1
  have hR := ref_of_laid hL
  clear hA0 hval0
  refine (apart_walk m00 m01 x02 x03 x04 x05 W (by omega) hR).mono fun e W' ⟨he, bel⟩ => ?_
  subst he
  exact ⟨_, rfl, _, _, _, [], _, [], hW', trodAll_mk1 (shut_bool Tryd.underlying4 _), (trodAll_cons_mk (Below.trod laidOut (by kernel_rfl) (of_decide_eq_true (by kernel_rfl)) k0 bel lt0) trodAll_mk0), rfl, bel.frame _, fun h => by cases h⟩

theorem over : Rows.WordApartSaid :=
  OpenClaim.holds_of_wide 5 Tryd.f5 rfl rfl rfl rfl rfl rfl rfl ⟨rfl, rfl, rfl, rfl, rfl⟩ rfl rfl rfl rfl rfl (by kernel_rfl) Tryd.func5 (by kernel_rfl)
    (of_decide_eq_true (by kernel_rfl)) (by unfold Func.isWrapper; first | (rw [if_pos (by decide +kernel)]; kernel_rfl) | (rw [if_neg (by decide +kernel)]; exact ⟨rfl, rfl⟩))
    (fun os started H enc _ => lifted os started H enc)

theorem proved : Rows.WordApartCardSaid :=
  Claim7.holds_tied_plain_at .later [] [.wider] true Rows.wordApartCard.stood.harness false
    over (fun _ h => by cases h) (by kernel_rfl) (fun _ h => by cases h) wordApart_row_tie rfl ⟨rfl, rfl⟩ (by kernel_rfl) rfl
    (fun f fn hf hfn => by
      obtain rfl : f = 5 := Option.some.inj ((show Tryd.prog.funcNamed Rows.wordApartRow.func = some 5 by kernel_rfl).symm.trans hf) |>.symm
      obtain rfl : fn = Tryd.f5 := (Option.some.inj (Tryd.func5.symm.trans hfn)).symm
      exact ⟨by kernel_rfl, fun j t ht => by
        rw [Tryd.params5] at ht
        have hm : t ∈ [37] := by simpa using Array.mem_of_getElem? ht
        have hall : ([37].all fun u => !Tryd.prog.wantsStandIn u) = true := by kernel_rfl
        exact (show Tryd.prog.wantsStandIn t = false by simpa using List.all_eq_true.1 hall t hm)⟩)
    (by kernel_rfl)
#print axioms proved
end Go.Proofs.YtjddbbkmaifcpaaDoor.PWordApart
