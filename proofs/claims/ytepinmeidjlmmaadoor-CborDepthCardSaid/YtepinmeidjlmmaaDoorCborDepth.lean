/- 'passkeylaw1.CborDepth', the row and its tied card, proved: the law returns true for every byte n and every uint16 m, and each argument reads behind the call as before it. Conditions: the row's own alone (the four listed tables of Go's library read as the row says, which the card ties to the program's text). -/
import Derived.Test.YtepinmeidjlmmaaDoorG2
import Derived.Test.YtepinmeidjlmmaaDoorTie
import Derived.Test.YtepinmeidjlmmaaDoorCards
namespace Go.Proofs.YtepinmeidjlmmaaDoor
open Go.ChangeShapes Go.WideShapes Go.ChangeAt Go.RowKit
open Go.ChangeMaps (open_string)
set_option maxRecDepth 100000

theorem cborDepth_lifted (os : Os) (started : os.Started) (H : Type) (enc : TypeId × Value → H) :
    ReturnsInHanded {} Tryd.checked os 13 .any (fun w args => (Rows.cborDepthSpec.pre enc Tryd.prog Tryd.f13 Rows.cborDepthRow.domain false w args ∧ laidMetH Tryd.prog laid4 w) ∧ sizedMet enc Tryd.prog Tryd.f13 (OpenSpec.ofChange Rows.cborDepthSpec) false w args)
      (Rows.cborDepthSpec.post enc Tryd.prog Tryd.f13 false true false false) := by
  refine returnsInHanded_of_change_and (C := Tryd.checked) (X := fun w _ => laidMetH Tryd.prog laid4 w) (fun _ _ _ hh h => h.of_heap hh) tryd_own started (by kernel_rfl) Tryd.func13
    (ChangeSpec.witness_shaped (enc := enc) (C := Tryd.checked) (os := os) (X := fun w _ => laidMetH Tryd.prog laid4 w) false (World.laidAll Tryd.prog os laid4) #[.int .u8 0, .int .u16 0] 8 (World.laidAll_os _ _ _)
      (World.shaped_of_ZipB (by kernel_rfl) (by kernel_rfl)) (by kernel_rfl) (by kernel_rfl) (by kernel_rfl)
      (by rw [MakeChecks.laidMetH_plain _ _ _ (by kernel_rfl)]; exact laidMet_laidAll _ (by kernel_rfl) (by kernel_rfl))) ?_
  intro W base args ds gs before hval0 hW _ _ hL _
  have hval : ∀ (j : Nat) t v, Tryd.f13.params[j]? = some t → args[j]? = some v → Value.okWide Tryd.prog W .any base t v := hval0
  have hW' := hW
  obtain ⟨p, q, hA0, hV, rfl, _, _⟩ := hW
  have hA : DataW.TrodAll enc Tryd.prog W 0 (fun _ => true) true Tryd.f13.params.toList args.toList ds p := hA0
  have hA2 := hA
  rw [Tryd.params13] at hA hval
  obtain ⟨rfl, rfl⟩ := trodVars_none hV
  obtain ⟨v0, v1, d0, d1, p0, p1, rfl, rfl, rfl, h0, h1⟩ := trodAll_two hA
  obtain ⟨n, rfl, rfl, rfl, wn⟩ := open_int Tryd.underlying5 (hval 0 5 v0 rfl rfl) h0
  obtain ⟨m, rfl, rfl, rfl, wm⟩ := open_int Tryd.underlying62 (hval 1 62 v1 rfl rfl) h1
  simp only [List.append_nil] at hW' hA2
  have ht := tabs_of_laid hL
  have hn := u8_of_wf wn
  have hm : 0 ≤ m ∧ m ≤ 65535 := by
    have h1 : (decide (IntKind.u16.min ≤ m) && decide (m ≤ IntKind.u16.max)) = true := wm
    simp only [Bool.and_eq_true, decide_eq_true_eq] at h1
    exact ⟨h1.1, h1.2⟩
  obtain ⟨n, rfl⟩ : ∃ k : Nat, n = k := ⟨n.toNat, by omega⟩
  obtain ⟨m, rfl⟩ : ∃ k : Nat, m = k := ⟨m.toNat, by omega⟩
  have law : Calls Tryd.prog 13 #[.int .u8 n, .int .u16 m] W fun e W' => e = .returned (.bool true) ∧ Below W.heap.size W W' := by
    refine depth_walk n m (n % 12) (500 + m % 20) W ht (by omega) (by omega) (by omega) (by omega) (by omega) (by omega) (propext ?_) (propext ?_)
    · rw [← deep_is (by omega)]; omega
    · rw [← wide_is (by omega) (by omega)]; omega
  refine law.mono fun e W' ⟨he, hb⟩ => ?_
  subst he
  exact ⟨_, rfl, post_true hW' rfl hb hA2 (by rw [Tryd.params13]; exact of_decide_eq_true (by kernel_rfl)) rfl rfl rfl⟩

theorem cborDepth_holds : Rows.CborDepthSaid :=
  OpenClaim.holds_of_wide 13 Tryd.f13 rfl rfl rfl rfl rfl rfl rfl ⟨rfl, rfl, rfl, rfl, rfl⟩ rfl rfl rfl rfl rfl (by kernel_rfl) Tryd.func13 (by kernel_rfl)
    (of_decide_eq_true (by kernel_rfl)) (by unfold Func.isWrapper; first | (rw [if_pos (by decide +kernel)]; kernel_rfl) | (rw [if_neg (by decide +kernel)]; exact ⟨rfl, rfl⟩))
    (fun os started H enc _ => cborDepth_lifted os started H enc)

theorem cborDepth_card_holds : Rows.CborDepthCardSaid :=
  Claim7.holds_tied_plain_at .later [] [.data, .data, .data, .pinned] true (true, "0849b7a91052141a0c7f6a5a92ae57d5c002d25b3db4d05e71f1355f5f60a500") false cborDepth_holds (fun _ h => by cases h) (by kernel_rfl) (fun _ h => by cases h) cborDepth_row_tie rfl ⟨rfl, rfl⟩ (by kernel_rfl) rfl
    (fun f fn hf hfn => by
      obtain rfl : f = 13 := Option.some.inj ((show Tryd.prog.funcNamed "passkey/passkeylaw1.CborDepth" = some 13 by kernel_rfl).symm.trans hf) |>.symm
      obtain rfl : fn = Tryd.f13 := (Option.some.inj (Tryd.func13.symm.trans hfn)).symm
      exact ⟨by kernel_rfl, fun j t ht => by
        rw [Tryd.params13] at ht
        have hm : t ∈ [5, 62] := by simpa using Array.mem_of_getElem? ht
        have hall : ([5, 62].all fun u => !Tryd.prog.wantsStandIn u) = true := by kernel_rfl
        exact (show Tryd.prog.wantsStandIn t = false by simpa using List.all_eq_true.1 hall t hm)⟩)
    (by kernel_rfl)
#print axioms cborDepth_card_holds
end Go.Proofs.YtepinmeidjlmmaaDoor
