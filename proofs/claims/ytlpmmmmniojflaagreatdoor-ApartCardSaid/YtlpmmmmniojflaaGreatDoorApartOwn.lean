/- What is proved: sheetskeep.Apart returns true, whatever the input (the card, tied). -/
import Derived.Test.YtlpmmmmniojflaaGreatDoorCards
import Derived.Test.YtlpmmmmniojflaaGreatDoorTie
import Derived.Test.YtlpmmmmniojflaaGreatDoorAb
import Derived.Test.YtlpmmmmniojflaaGreatDoorQ52
import Derived.ProofKit
import Derived.OpenShut
import Derived.ShutString
import Derived.Deep.DeepHandedRow
import Derived.Lib.LaidTab
import Derived.Lay
namespace Go.Proofs.YtlpmmmmniojflaaGreatDoor
open Go.ChangeShapes Go.WideShapes Go.ChangeAt Go.RowKit
open Go.ChangeMaps (open_string shut_string)
theorem Tryz.ownC : ownKnob Tryz.prog.godebug = none := by kernel_rfl
theorem gPowC : Tryz.prog.globalNamed "internal/strconv.uint64pow10" = some 0 := by kernel_rfl
theorem gPowTypeC : (Tryz.prog.globals[0]?).map (·.type) = some 238 := by kernel_rfl
theorem cells119C : Tryz.prog.cellsOf 238 = 20 := by kernel_rfl
theorem gErrC : Tryz.prog.globalNamed "strconv.ErrRange" = some 2 := by kernel_rfl
theorem gErrTypeC : (Tryz.prog.globals[2]?).map (·.type) = some 125 := by kernel_rfl
theorem gSynC : Tryz.prog.globalNamed "strconv.ErrSyntax" = some 1 := by kernel_rfl
theorem gSynTypeC : (Tryz.prog.globals[1]?).map (·.type) = some 125 := by kernel_rfl
theorem amb_ofC {W : World} (h : laidMetH Tryz.prog Rows.apartRow.laid W) : Amb W := by
  rw [MakeChecks.laidMetH_plain _ _ _ (by kernel_rfl)] at h
  obtain ⟨ps, ⟨g0, t0, cs0, f0, p0, q0, hg0, ht0, hv0, hd0, ⟨g1, t1, cs1, f1, p1, q1, hg1, ht1, hv1, hd1, ⟨g2, t2, cs2, f2, p2, q2, hg2, ht2, hv2, hd2, ⟨g3, t3, cs3, f3, p3, q3, hg3, ht3, hv3, hd3, ⟨g4, t4, cs4, f4, p4, q4, hg4, ht4, hv4, hd4, ⟨g5, t5, cs5, f5, p5, q5, hg5, ht5, hv5, hd5, _, _⟩, _⟩, _⟩, _⟩, _⟩, _⟩, _⟩ := h
  obtain rfl := Option.some.inj (gPowC.symm.trans hg2)
  obtain rfl := Option.some.inj (gPowTypeC.symm.trans ht2)
  obtain rfl := Option.some.inj (gErrC.symm.trans hg4)
  obtain rfl := Option.some.inj (gErrTypeC.symm.trans ht4)
  obtain rfl := Option.some.inj (gSynC.symm.trans hg5)
  obtain rfl := Option.some.inj (gSynTypeC.symm.trans ht5)
  refine ⟨?_, ?_, ?_⟩
  · obtain ⟨_, u, v, hcs, _⟩ := iface_of_trod Tryz.underlying125 hd4
    refine ⟨u, v, ?_⟩
    rw [hv4]
    congr 1
    obtain ⟨l⟩ := cs4
    simp only at hcs
    rw [hcs]
  · unfold Lib.TabIs
    rw [hv2, ← Lib.cells_of_tab (zs := Lib.pow10Tab) Tryz.underlying238 Tryz.underlying209 (by kernel_rfl) cells119C hd2]
  · obtain ⟨_, u, v, hcs, _⟩ := iface_of_trod Tryz.underlying125 hd5
    refine ⟨u, v, ?_⟩
    rw [hv5]
    congr 1
    obtain ⟨l⟩ := cs5
    simp only at hcs
    rw [hcs]
theorem i64_wf {n : Int} (h : (Lit.int .i64 n).wf = true) : I64 n := by
  simp [Lit.wf] at h
  have e : IntKind.i64.min = -9223372036854775808 := by decide
  rw [e] at h
  exact h
theorem Tryz.laidOutO : laidOutB Tryz.prog = true := by kernel_rfl
set_option maxRecDepth 100000 in
theorem apart_contract (H : Type) (enc : TypeId × Value → H) (W : World) (base : Nat) (args : Array Value) (ds gs : List (DataW H)) (before : List MemPlace)
    (hval : ∀ (j : Nat) t v, Tryz.f14.params[j]? = some t → args[j]? = some v → Value.okWide Tryz.prog W .any base t v)
    (hW : DataW.Whole enc Tryz.prog Tryz.f14.params.toList Rows.apartSpec.vars false W args.toList ds gs before) (hL : laidMetH Tryz.prog Rows.apartRow.laid W)
    (hsz : (DataW.weightsEach Tryz.prog (Tryz.f14.params.toList ++ Rows.apartSpec.plain.varTypes Tryz.prog) (ds ++ gs)).all (· ≤ reachBytes) = true) :
    Calls Tryz.prog 14 args W fun e W' => ∃ v, e = .returned v ∧ Rows.apartSpec.post enc Tryz.prog Tryz.f14 false true false false W args v W' := by
  have hW' := hW
  obtain ⟨p, q, hA0, hV, rfl, hfz, hnd⟩ := hW
  have hA : DataW.TrodAll enc Tryz.prog W 0 (fun _ => true) true Tryz.f14.params.toList args.toList ds p := hA0
  rw [Tryz.params14] at hA hval hsz
  obtain ⟨v0, vs0, d0, ds0, p0, q0, hargs0, rfl, rfl, h0, r0⟩ := trodAll_cons hA
  obtain ⟨v1, vs1, d1, ds1, p1, q1, hargs1, rfl, rfl, h1, r1⟩ := trodAll_cons r0
  obtain ⟨v2, vs2, d2, ds2, p2, q2, hargs2, rfl, rfl, h2, r2⟩ := trodAll_cons r1
  obtain ⟨v3, vs3, d3, ds3, p3, q3, hargs3, rfl, rfl, h3, r3⟩ := trodAll_cons r2
  obtain ⟨rfl, rfl, rfl⟩ := trodAll_nil r3
  obtain rfl : args = #[v0, v1, v2, v3] := by cases args; simp_all
  obtain ⟨rfl, rfl⟩ := trodVars_none hV
  have sl0 := okWide_slice Tryz.underlying47 (hval 0 47 v0 rfl rfl)
  obtain ⟨l0, hr0⟩ := raw_open sl0 h0 (fun n hn => by simpa using List.all_eq_true.1 hsz n (DataW.weights_mem_each (j := 0) (t := 47) (d := d0) rfl rfl n hn))
  have sl1 := okWide_slice Tryz.underlying47 (hval 1 47 v1 rfl rfl)
  obtain ⟨l1, hr1⟩ := raw_open sl1 h1 (fun n hn => by simpa using List.all_eq_true.1 hsz n (DataW.weights_mem_each (j := 1) (t := 47) (d := d1) rfl rfl n hn))
  have sl2 := okWide_slice Tryz.underlying56 (hval 2 56 v2 rfl rfl)
  obtain ⟨l2, hr2⟩ := how_open sl2 h2
  obtain ⟨a3, rfl, rfl, rfl, w3⟩ := open_int Tryz.underlying3 (hval 3 3 v3 rfl rfl) h3
  clear hA0
  simp only [List.append_nil] at hW'
  refine (apart_w v0 l0 v1 l1 v2 l2 a3 (i64_wf w3) W hr0 hr1 hr2 (amb_ofC hL)).mono fun e W' ⟨he, hb⟩ => ?_
  subst he
  refine ⟨_, rfl, _, _, _, [], (p0 ++ (p1 ++ (p2 ++ ([] ++ [])))), [], hW', ?_, ?_, ?_, hb.frame _, fun h => by cases h⟩
  · exact trodAll_cons_mk (shut_bool Tryz.underlying4 _) trodAll_mk0
  · exact trodAll_cons_mk (Below.trod Tryz.laidOutO (by kernel_rfl) (of_decide_eq_true (by kernel_rfl)) h0 hb (fun x hx => by simpa using hW'.lt x (by simp [hx]))) (trodAll_cons_mk (Below.trod Tryz.laidOutO (by kernel_rfl) (of_decide_eq_true (by kernel_rfl)) h1 hb (fun x hx => by simpa using hW'.lt x (by simp [hx]))) (trodAll_cons_mk (Below.trod Tryz.laidOutO (by kernel_rfl) (of_decide_eq_true (by kernel_rfl)) h2 hb (fun x hx => by simpa using hW'.lt x (by simp [hx]))) (trodAll_cons_mk (shut_int Tryz.underlying3 w3) trodAll_mk0)))
  · exact rfl
theorem apart_laid (os : Os) : laidMet Tryz.prog Rows.apartRow.laid ((World.laidAll Tryz.prog os Rows.apartRow.laid).forCall (fun _ _ => 0) ⟨#[], #[.slice none 0 0, .slice none 0 0, .slice none 0 0, .int .i64 0], []⟩).memory :=
  laidMet_laidAll _ (by kernel_rfl) (by kernel_rfl)
theorem apart_reads (os : Os) {H : Type} (enc : TypeId × Value → H) : ∃ places, DataW.whole enc Tryz.prog ((World.laidAll Tryz.prog os Rows.apartRow.laid).forCall (fun _ _ => 0) ⟨#[], #[.slice none 0 0, .slice none 0 0, .slice none 0 0, .int .i64 0], []⟩).memory Tryz.f14.params.toList Rows.apartSpec.vars false #[Value.slice none 0 0, .slice none 0 0, .slice none 0 0, .int .i64 0].toList 8 = some ([.nil, .nil, .nil, .lit (.int .i64 0)], [], places) :=
  ⟨[], by kernel_rfl⟩
set_option maxRecDepth 100000 in
theorem apart_lifted (os : Os) (started : os.Started) (H : Type) (enc : TypeId × Value → H) (F : Stop.Interp) :
    ReturnsInHanded {} Tryz.checked os 14 .any ((OpenSpec.ofChange Rows.apartSpec).preRow enc Tryz.prog Tryz.f14 Rows.apartRow.domain false Rows.apartRow.laid) (((OpenSpec.ofChange Rows.apartSpec).at F).post enc Tryz.prog Tryz.f14 false true false false) := by
  obtain ⟨places, hx⟩ := apart_reads os enc
  refine returnsInHanded_of_row (C := Tryz.checked) (s := OpenSpec.ofChange Rows.apartSpec) Tryz.ownC started (by kernel_rfl) Tryz.func14
    ⟨World.laidAll Tryz.prog os Rows.apartRow.laid, fun _ _ => 0, ⟨#[], #[.slice none 0 0, .slice none 0 0, .slice none 0 0, .int .i64 0], []⟩, World.laidAll_os _ _ _, World.shaped_of_ZipB (by kernel_rfl) (by kernel_rfl), rfl,
      (Input.okWide_of_okWideB (base := (World.laidAll Tryz.prog os Rows.apartRow.laid).heap.size) (by kernel_rfl)).2,
      OpenSpec.preRow_of_cond 8 hx (by kernel_rfl) (fun k hk => by cases hk) (by kernel_rfl) (apart_laid os),
      ⟨(by intro h; cases h), (by intro h; cases h), (by intro h; cases h), (by intro d h; cases h), (by intro d h; cases h), (by intro h; cases h)⟩⟩ ?_
  intro W base args ds gs before hval hW _ _ hsz hL _ _
  exact apart_contract H enc W base args ds gs before hval hW hL hsz
theorem apart_prog : Tryz.pinned.checked.prog = Tryz.prog := rfl
theorem apart_closed2 : joinedFacts Tryz.pinned.checked.prog 14 Tryz.f14 (OpenSpec.ofChange Rows.apartSpec).bare Rows.apartRow = true := by
  rw [apart_prog]; exact apart_closed
theorem apart_said : Rows.ApartSaid :=
  OpenClaim.holds_of_cond 14 Tryz.f14 rfl rfl rfl rfl rfl rfl rfl ⟨rfl, rfl, rfl, rfl, rfl⟩ rfl rfl rfl rfl rfl (by kernel_rfl) Tryz.func14 apart_closed2
    (of_decide_eq_true (by kernel_rfl)) (by unfold Func.isWrapper; first | (rw [if_pos (by decide +kernel)]; kernel_rfl) | (rw [if_neg (by decide +kernel)]; exact ⟨rfl, rfl⟩))
    (fun os started H enc _ F => by rw [OpenClaim.pre_eq_preRow]; exact apart_lifted os started H enc F)
theorem apart_standIns (f : FuncId) (fn : Func) (hf : Tryz.pinned.checked.prog.funcNamed "sheets/sheetskeep.Apart" = some f) (hfn : Tryz.pinned.checked.prog.funcs[f]? = some fn) :
    Rows.apartCard.stood.looks = Tryz.pinned.checked.prog.looks [] ∧ ∀ (j : Nat) t, fn.params[j]? = some t → Tryz.pinned.checked.prog.wantsStandIn t = false := by
  obtain rfl : f = 14 := Option.some.inj ((show Tryz.prog.funcNamed "sheets/sheetskeep.Apart" = some 14 by kernel_rfl).symm.trans hf) |>.symm
  obtain rfl : fn = Tryz.f14 := (Option.some.inj (Tryz.func14.symm.trans hfn)).symm
  refine ⟨by kernel_rfl, fun j t ht => ?_⟩
  rw [Tryz.params14] at ht
  have hm := Array.mem_of_getElem? ht
  have hall : (#[47, 47, 56, 3] : Array TypeId).all (fun t => Tryz.prog.wantsStandIn t == false) = true := by kernel_rfl
  have := Array.all_eq_true_iff_forall_mem.1 hall t hm
  exact (show Tryz.prog.wantsStandIn t = false by simpa using this)
theorem apart_card : Rows.ApartCardSaid :=
  Claim7.holds_tied_plain_at .later [] _ _ _ _ apart_said (fun _ h => by cases h) (by kernel_rfl) (fun _ h => by cases h) apart_row_tie rfl ⟨rfl, rfl⟩ (by kernel_rfl) rfl apart_standIns (by kernel_rfl)
end Go.Proofs.YtlpmmmmniojflaaGreatDoor
