/- 'passkeylaw1.CborDecodes', the row and its tied card, proved: the law returns true for every []byte, every []int, every int and every byte, and the arguments read behind the call as before it. Conditions: the row's own alone (the four listed tables of Go's library read as the row says, which the card ties to the program's text). -/
import Derived.Test.YtepinmeidjlmmaaDoorN20
import Derived.Test.YtepinmeidjlmmaaDoorTie
import Derived.Test.YtepinmeidjlmmaaDoorCards
namespace Go.Proofs.YtepinmeidjlmmaaDoor
open Go.ChangeShapes Go.WideShapes Go.ChangeAt Go.RowKit
open Go.ChangeMaps (open_string)
set_option maxRecDepth 100000

theorem cborDecodes_lifted (os : Os) (started : os.Started) (H : Type) (enc : TypeId × Value → H) :
    ReturnsInHanded {} Tryd.checked os 5 .any (fun w args => (Rows.cborDecodesSpec.pre enc Tryd.prog Tryd.f5 Rows.cborDecodesRow.domain false w args ∧ laidMetH Tryd.prog laid4 w) ∧ sizedMet enc Tryd.prog Tryd.f5 (OpenSpec.ofChange Rows.cborDecodesSpec) false w args)
      (Rows.cborDecodesSpec.post enc Tryd.prog Tryd.f5 false true false false) := by
  refine returnsInHanded_of_change_and (C := Tryd.checked) (X := fun w _ => laidMetH Tryd.prog laid4 w) (fun _ _ _ hh h => h.of_heap hh) tryd_own started (by kernel_rfl) Tryd.func5
    (ChangeSpec.witness_shaped (enc := enc) (C := Tryd.checked) (os := os) (X := fun w _ => laidMetH Tryd.prog laid4 w) false (World.laidAll Tryd.prog os laid4) #[.slice none 0 0, .slice none 0 0, .int .i64 0, .int .u8 0] 8 (World.laidAll_os _ _ _)
      (World.shaped_of_ZipB (by kernel_rfl) (by kernel_rfl)) (by kernel_rfl) (by kernel_rfl) (by kernel_rfl)
      (by rw [MakeChecks.laidMetH_plain _ _ _ (by kernel_rfl)]; exact laidMet_laidAll _ (by kernel_rfl) (by kernel_rfl))) ?_
  intro W base args ds gs before hval0 hW _ _ hL _
  have hval : ∀ (j : Nat) t v, Tryd.f5.params[j]? = some t → args[j]? = some v → Value.okWide Tryd.prog W .any base t v := hval0
  have hW' := hW
  obtain ⟨p, q, hA0, hV, rfl, _, _⟩ := hW
  have hA : DataW.TrodAll enc Tryd.prog W 0 (fun _ => true) true Tryd.f5.params.toList args.toList ds p := hA0
  have hA2 := hA
  rw [Tryd.params5] at hA hval
  obtain ⟨rfl, rfl⟩ := trodVars_none hV
  obtain ⟨v0, v1, v2, v3, d0, d1, d2, d3, p0, p1, p2, p3, rfl, rfl, rfl, h0, h1, h2, h3⟩ := trodAll_four hA
  obtain ⟨A, n, cap, bs, rfl, hc, hcm, hby0⟩ := open_bysC (hval 0 25 v0 rfl rfl) h0
  obtain ⟨a, len, cap2, zs, rfl, hm, hby⟩ := open_nums (hval 1 30 v1 rfl rfl) h1
  obtain ⟨z, rfl, rfl, rfl, _⟩ := open_int Tryd.underlying3 (hval 2 3 v2 rfl rfl) h2
  obtain ⟨y, rfl, rfl, rfl, _⟩ := open_int Tryd.underlying5 (hval 3 5 v3 rfl rfl) h3
  simp only [List.append_nil] at hW' hA2
  have ht := tabs_of_laid hL
  refine (decodes_any A a n cap len cap2 bs zs z y W hby0 hc hcm hby hm ht).mono fun e W' ⟨he, hb⟩ => ?_
  subst he
  exact ⟨_, rfl, post_true hW' rfl hb hA2 (by rw [Tryd.params5]; exact of_decide_eq_true (by kernel_rfl)) rfl rfl rfl⟩

theorem cborDecodes_holds : Rows.CborDecodesSaid :=
  OpenClaim.holds_of_wide 5 Tryd.f5 rfl rfl rfl rfl rfl rfl rfl ⟨rfl, rfl, rfl, rfl, rfl⟩ rfl rfl rfl rfl rfl (by kernel_rfl) Tryd.func5 (by kernel_rfl)
    (of_decide_eq_true (by kernel_rfl)) (by unfold Func.isWrapper; first | (rw [if_pos (by decide +kernel)]; kernel_rfl) | (rw [if_neg (by decide +kernel)]; exact ⟨rfl, rfl⟩))
    (fun os started H enc _ => cborDecodes_lifted os started H enc)

theorem cborDecodes_card_holds : Rows.CborDecodesCardSaid :=
  Claim7.holds_tied_plain_at .later [] [.data, .data, .data, .pinned] true (true, "0849b7a91052141a0c7f6a5a92ae57d5c002d25b3db4d05e71f1355f5f60a500") false cborDecodes_holds (fun _ h => by cases h) (by kernel_rfl) (fun _ h => by cases h) cborDecodes_row_tie rfl ⟨rfl, rfl⟩ (by kernel_rfl) rfl
    (fun f fn hf hfn => by
      obtain rfl : f = 5 := Option.some.inj ((show Tryd.prog.funcNamed "passkey/passkeylaw1.CborDecodes" = some 5 by kernel_rfl).symm.trans hf) |>.symm
      obtain rfl : fn = Tryd.f5 := (Option.some.inj (Tryd.func5.symm.trans hfn)).symm
      exact ⟨by kernel_rfl, fun j t ht => by
        rw [Tryd.params5] at ht
        have hm : t ∈ [25, 30, 3, 5] := by simpa using Array.mem_of_getElem? ht
        have hall : ([25, 30, 3, 5].all fun u => !Tryd.prog.wantsStandIn u) = true := by kernel_rfl
        exact (show Tryd.prog.wantsStandIn t = false by simpa using List.all_eq_true.1 hall t hm)⟩)
    (by kernel_rfl)
#print axioms cborDecodes_card_holds
end Go.Proofs.YtepinmeidjlmmaaDoor
