import PyProof.Rows.All
import Wide.All
import OpenK.AllK
import Wide.FinOn
import KE.KStateDown
import Lean
import HandS.ForMost
import HandS.Exc
import HandS.ExcInit
import HandS.ExcIs
import HandS.IsInst
import HandS.Defaults
import HandS.Head0
import HandS.Head1
import HandS.Head2
import HandS.HeadEnd
import HandS.HeadHook1
import HandS.HeadHook2
import HandS.HeadHook3
import HandS.HeadHook4
import HandS.MakeKw
import KE.KIsAll
import KE.KTryMore
import HandS.ExcValue
import PyProof.Rows.NestFoldShow
import PyProof.StrLawsRepr
import HandS.WideBits
import HandS.Wide
import HandS.Flow
import PySem.Challenge.RW_truestops_k01_errors_made
set_option Elab.async false
set_option linter.all false
set_option maxRecDepth 100000
set_option maxHeartbeats 0
namespace L2
namespace Eo
open PySem PySem.Spec PyProof.Rows
abbrev Pw : Program := PySem.Challenge.pw_truestops_k01_errors_made
def topS (i : Nat) : Stmt := Pw.main.body.getD i (.Pass ⟨0, 0, 0, 0⟩)
/-- the first statement of a class -/
def initOf : Stmt → Stmt
  | .ClassDef (body := b) .. => b.getD 0 (.Pass ⟨0, 0, 0, 0⟩)
  | s => s
/-- the classes with a field, in the order of the table -/
def kindsA : List Str := [("InvalidPrime" : Str), ("InvalidNumber" : Str), ("InvalidSum" : Str), ("InvalidVectors" : Str), ("InvalidText" : Str), ("Fault" : Str), ("InvalidProgram" : Str), ("InvalidRows" : Str), ("Unsound" : Str), ("InvalidUnits" : Str), ("InvalidInputs" : Str), ("InvalidEngine" : Str), ("NotAlike" : Str), ("UnlikePrimes" : Str), ("InvalidBench" : Str), ("UnknownMark" : Str), ("UnknownStop" : Str), ("UnknownHolder" : Str), ("NeverPassed" : Str), ("Stray" : Str)]
def kindsB : List Str := [("Uneven" : Str), ("OutOfOrder" : Str), ("InvalidReadings" : Str), ("InvalidLines" : Str), ("InvalidBook" : Str), ("InvalidRule" : Str), ("InvalidChange" : Str), ("InvalidAmounts" : Str), ("InvalidDump" : Str), ("InvalidSession" : Str), ("InvalidScript" : Str), ("InvalidLog" : Str), ("InvalidCount" : Str), ("Refused" : Str), ("InvalidSeat" : Str), ("InvalidState" : Str), ("InvalidLinks" : Str), ("NotHere" : Str), ("InvalidLetter" : Str), ("Unlike" : Str)]
def kinds : List Str := kindsA ++ kindsB
def bareKinds : List Str := [("NothingToUndo" : Str), ("NothingToRedo" : Str)]
def helpers : List Str := [("_law_purse" : Str), ("_law_mixed" : Str), ("_law_draw" : Str), ("_law_purses" : Str), ("_law_one_of" : Str), ("_law_word" : Str), ("_law_first" : Str), ("_law_called" : Str), ("_law_bare" : Str), ("_law_code" : Str), ("_law_is_error" : Str), ("_law_right" : Str)]
def loose1 : List Str := [("InvalidPrime" : Str), ("InvalidNumber" : Str), ("InvalidSum" : Str), ("InvalidVectors" : Str), ("InvalidText" : Str), ("Fault" : Str), ("InvalidProgram" : Str), ("InvalidRows" : Str), ("Unsound" : Str), ("InvalidUnits" : Str), ("InvalidInputs" : Str), ("InvalidEngine" : Str), ("NotAlike" : Str), ("UnlikePrimes" : Str), ("InvalidBench" : Str), ("UnknownMark" : Str), ("UnknownStop" : Str), ("UnknownHolder" : Str), ("NeverPassed" : Str), ("Stray" : Str)]
def loose2 : List Str := [("Uneven" : Str), ("OutOfOrder" : Str), ("InvalidReadings" : Str), ("InvalidLines" : Str), ("InvalidBook" : Str), ("InvalidRule" : Str), ("InvalidChange" : Str), ("InvalidAmounts" : Str), ("InvalidDump" : Str), ("InvalidSession" : Str), ("InvalidScript" : Str), ("InvalidLog" : Str), ("InvalidCount" : Str), ("Refused" : Str), ("InvalidSeat" : Str), ("InvalidState" : Str), ("InvalidLinks" : Str), ("NotHere" : Str), ("InvalidLetter" : Str), ("Unlike" : Str), ("NothingToUndo" : Str), ("NothingToRedo" : Str), ("StopError" : Str)]
abbrev loose : List Str := loose1 ++ (loose2 ++ helpers)
def dG (x : Str) (i : Nat) : He.DefD := ⟨(x, none), x, x, defArgs (topS i), defBody (topS i), defScope (topS i), [], []⟩
def dI (x q : Str) (i : Nat) : He.DefD := ⟨(x, some "__init__"), "__init__", q, defArgs (initOf (topS i)), defBody (initOf (topS i)), defScope (initOf (topS i)), [.non], []⟩
def fn1 : List He.DefD := [dG "_law_purse" 45, dG "_law_mixed" 46, dG "_law_draw" 47, dG "_law_purses" 48, dG "_law_one_of" 49, dG "_law_word" 50, dG "_law_first" 51, dG "_law_called" 52, dG "_law_bare" 53, dG "_law_code" 54, dG "_law_is_error" 55, dG "_law_right" 56, dG "law" 57]
def fn2 : List He.DefD := [dI "InvalidPrime" "InvalidPrime.__init__" 2, dI "InvalidNumber" "InvalidNumber.__init__" 3, dI "InvalidSum" "InvalidSum.__init__" 4, dI "InvalidVectors" "InvalidVectors.__init__" 5, dI "InvalidText" "InvalidText.__init__" 6, dI "Fault" "Fault.__init__" 7, dI "InvalidProgram" "InvalidProgram.__init__" 8, dI "InvalidRows" "InvalidRows.__init__" 9, dI "Unsound" "Unsound.__init__" 10, dI "InvalidUnits" "InvalidUnits.__init__" 11, dI "InvalidInputs" "InvalidInputs.__init__" 12, dI "InvalidEngine" "InvalidEngine.__init__" 13, dI "NotAlike" "NotAlike.__init__" 14, dI "UnlikePrimes" "UnlikePrimes.__init__" 15, dI "InvalidBench" "InvalidBench.__init__" 16, dI "UnknownMark" "UnknownMark.__init__" 17, dI "UnknownStop" "UnknownStop.__init__" 18, dI "UnknownHolder" "UnknownHolder.__init__" 19, dI "NeverPassed" "NeverPassed.__init__" 20, dI "Stray" "Stray.__init__" 21]
def fn3 : List He.DefD := [dI "Uneven" "Uneven.__init__" 22, dI "OutOfOrder" "OutOfOrder.__init__" 23, dI "InvalidReadings" "InvalidReadings.__init__" 24, dI "InvalidLines" "InvalidLines.__init__" 25, dI "InvalidBook" "InvalidBook.__init__" 26, dI "InvalidRule" "InvalidRule.__init__" 27, dI "InvalidChange" "InvalidChange.__init__" 28, dI "InvalidAmounts" "InvalidAmounts.__init__" 29, dI "InvalidDump" "InvalidDump.__init__" 30, dI "InvalidSession" "InvalidSession.__init__" 31, dI "InvalidScript" "InvalidScript.__init__" 32, dI "InvalidLog" "InvalidLog.__init__" 33, dI "InvalidCount" "InvalidCount.__init__" 34, dI "Refused" "Refused.__init__" 35, dI "InvalidSeat" "InvalidSeat.__init__" 36, dI "InvalidState" "InvalidState.__init__" 37, dI "InvalidLinks" "InvalidLinks.__init__" 38, dI "NotHere" "NotHere.__init__" 39, dI "InvalidLetter" "InvalidLetter.__init__" 40, dI "Unlike" "Unlike.__init__" 41]
def fn : List He.DefD := fn1 ++ (fn2 ++ fn3)
def fa : List He.Fa := [("len" : Str), ("range" : Str), ("max" : Str), ("min" : Str), ("sum" : Str), ("isinstance" : Str), ("repr" : Str), ("dict" : Str), ("list" : Str), ("ValueError" : Str)].map He.Fa.free ++ (helpers ++ ([("law" : Str), ("StopError" : Str)] ++ (kinds ++ bareKinds))).map He.Fa.glo
def veT : List Value := [.type "ValueError", .type "Exception", .type "BaseException", .type "object"]
def tailOf (K : PySem.W.Frag) : List Value := .ref (He.ga K "StopError") :: veT
/-- the class object stands as it should: tl is what its bases bring -/
def clsOk (K : PySem.W.Frag) (tl : List Value) (x : Str) : Bool := (match K.lookup (He.ga K x) with
  | some ⟨.type "type", _, .cls cd, sl⟩ => (match sl.toList with
    | [_, _, _, _, some (.builtin n), _] => n == "ValueError.__new__" && (cd.mro == (.ref (He.ga K x) :: tl) && (cd.hasDict && !cd.hasDel))
    | _ => false)
  | _ => false)
def clsMore (K : PySem.W.Frag) (x : Str) : Bool :=
  He.eqO (PySem.W.findIn K (.ref (He.ga K x)) "__setattr__") (some (some (.builtin "object.__setattr__"))) &&
  (He.eqO (PySem.W.findIn K (.ref (He.ga K x)) "__getattribute__") (some (some (.builtin "BaseException.__getattribute__"))) &&
  (He.eqO (PySem.W.findIn K (.ref (He.ga K x)) "__getattr__") (some none) &&
  (He.eqO (PySem.W.findIn K (.ref (He.ga K x)) "__class__") (some (some (.builtin "object.__class__"))) &&
  (He.eqO (PySem.W.findIn K (.ref (He.ga K x)) "value") (some none) &&
  (PySem.W.keepIn K (.ref (He.ga K x)))))))
def initOk (K : PySem.W.Frag) (x : Str) : Bool :=
  He.eqO (PySem.W.findIn K (.ref (He.ga K x)) "__init__") (some (some (.ref (He.ma K (He.ga K x) "__init__")))) && PySem.W.isFn K (.ref (He.ma K (He.ga K x) "__init__"))
def nodupB : List Nat → Bool
  | [] => true
  | a :: r => !(r.contains a) && nodupB r
def bares3 : List Str := [("StopError" : Str), ("NothingToUndo" : Str), ("NothingToRedo" : Str)]
def exA (K : PySem.W.Frag) : Bool := kinds.all fun x => clsOk K (tailOf K) x && (clsMore K x && initOk K x)
def exB (K : PySem.W.Frag) : Bool := (bareKinds.all fun x => clsOk K (tailOf K) x && clsMore K x) && ((clsOk K veT "StopError" && clsMore K "StopError") &&
  ((bares3.all fun x => PySem.W.excIn K (He.ga K x) veT "ValueError.__new__") && nodupB (((([("StopError" : Str)] : List Str) ++ (kinds ++ bareKinds)).map (He.ga K)))))
def ex (K : PySem.W.Frag) : Bool := exA K && exB K
abbrev R : PySem.W.OpenRow := PySem.W.OpenLaw.row PySem.Challenge.rw_truestops_k01_errors_made
abbrev hk : PySem.W.Hook := He.hookX 5 fa fn [] [] ex
def ob (s : PySem.W.SharedT) : He.AlX := He.obsX 5 fa fn [] [] ex (HandSHeadRun.getT s)
theorem ob_eq (s : PySem.W.SharedT) : ob s = hk.obs s.abs := He.obsX_eq (HandSHeadRun.getT_eq s)
open HandSHeadRun PySem.W in
theorem run_a (w : World) (os : OsState) : (endF (stepQ (denQ tabQ) R.prog w) 40000 R.prog w os).map (fun s => looksF R.prog (boot_heap w.params) s.abs) = some true := by kernel_rfl
open HandSHeadRun PySem.W in
theorem run_b (w : World) (os : OsState) : (endF (stepQ (denQ tabQ) R.prog w) 40000 R.prog w os).map (fun s => seenQ (view R.prog [57]) loose (importedModules R.prog.main.body) (fun s => xlAt (view R.prog [57]) [] s && recOk R.toRowW.records s) s.abs) = some (openGood (view R.prog [57]) loose) := by kernel_rfl
abbrev frS (s : PySem.W.SharedT) : PySem.W.Frag := He.frT (HandSHeadRun.getT s) (He.asD (HandSHeadRun.getT s) 5)
open HandSHeadRun PySem.W in
theorem run_c1 (w : World) (os : OsState) : (endF (stepQ (denQ tabQ) R.prog w) 40000 R.prog w os).map (fun s => exA (frS s)) = some true := by kernel_rfl
open HandSHeadRun PySem.W in
theorem run_c2 (w : World) (os : OsState) : (endF (stepQ (denQ tabQ) R.prog w) 40000 R.prog w os).map (fun s => exB (frS s)) = some true := by kernel_rfl
theorem two {α : Type} {o : Option α} {f g : α → Bool} (hf : o.map f = some true) (hg : o.map g = some true) : o.map (fun s => (f s && g s) && true) = some true := by
  cases o with
  | none => cases hf
  | some x =>
    have a : f x = true := Option.some.inj hf
    have b : g x = true := Option.some.inj hg
    show some ((f x && g x) && true) = some true
    rw [a, b]
    rfl
open HandSHeadRun PySem.W in
theorem run_c (w : World) (os : OsState) : (endF (stepQ (denQ tabQ) R.prog w) 40000 R.prog w os).map (fun s => (ob s).2) = some true := two (run_c1 w os) (run_c2 w os)
open HandSHeadRun PySem.W in
theorem run_d (w : World) (os : OsState) : (endF (stepQ (denQ tabQ) R.prog w) 40000 R.prog w os).map (fun s => (ob s).1) = some (He.valT fn [] w) := by kernel_rfl
/-- four looks at one end are one look -/
theorem four {α β γ δ ε : Type} {o : Option α} {f : α → β} {g : α → γ} {h : α → δ} {k : α → ε} {b : β} {c : γ} {d : δ} {e : ε} (hf : o.map f = some b) (hg : o.map g = some c) (hh : o.map h = some d) (hk : o.map k = some e) :
    o.map (fun s => (f s, g s, (h s, k s))) = some (b, c, (d, e)) := by
  cases o with
  | none => cases hf
  | some x =>
    cases hf
    cases hg
    cases hh
    cases hk
    rfl
theorem run (w : World) : HandSHeadRun.RunEq R (PySem.W.view R.prog [57]) hk ob 40000 loose w := by
  intro os
  have z := four (run_a w os) (run_b w os) (run_d w os) (run_c w os)
  exact z
end Eo
end L2
set_option Elab.async false
set_option linter.all false
set_option maxRecDepth 100000
set_option maxHeartbeats 4000000
/-! Eo, part 1: an own error class over ValueError with an own __init__, called with one keyword. -/
namespace EoM
open PySem PySem.W PySem.Calls PyProof.Rows PySem.HandSPX
section
variable {M : Model} {A : Around} {E : Value → Shared → Prop} {hh : Heap} {gg : Array GenState} {dd : Drawn} {tk : Nat} {oo : OsState}
variable {nm qn : Str} {C N : Addr} {bs bm : List Value} {sn : List Str} {sub : List Value} {ab : Bool} {col : Option Bool} {dc : Option Addr} {k0 k1 k2 k3 k5 : Option Value}
/-- the class object of such a class -/
abbrev ErrObj (nm qn : Str) (C N : Addr) (bs bm : List Value) (sn : List Str) (sub : List Value) (ab : Bool) (col : Option Bool) (dc : Option Addr) (k0 k1 k2 k3 k5 : Option Value) : Obj :=
  excClassObj nm qn C N bs bm true sn sub ab col dc k0 k1 k2 k3 k5 "ValueError.__new__"
theorem mro_ve (hb : refsVE bm = true) (X : String) : bm.contains (.type X) = veTail.contains (.type X) := refsVE_contains X bm hb
theorem kwcheck {name : Str} {v : Value} {Q : Unit → Shared → Prop} (hb : refsVE bm = true) (hC : hh.get? C = some (ErrObj nm qn C N bs bm sn sub ab col dc k0 k1 k2 k3 k5)) (fin : Q () ⟨hh, gg, dd, tk, oo⟩) :
    wpAny M A (checkBuiltinCall "ValueError.__new__" ⟨[.ref C], [(name, v)]⟩) Q E ⟨hh, gg, dd, tk, oo⟩ := by
  have F := F.excBase_ValueError
  have isVE : (Value.ref C :: bm).contains (.type "ValueError") = true := by rw [List.contains_cons, mro_ve hb]; rfl
  simp only [checkBuiltinCall, F.newKind, F.newSplit, F.newRow]
  repeat (first | refine wpAny_loadPart_at hC ?_ | (refine wpAny_isSubtype_exc hC ?_; rw [isVE]) | refine wpAny_staticBase_exc hC ?_ | refine wpAny_madeBy_exc hC ?_ | simp only [bne_self_eq_false, Bool.false_eq_true, if_false] | wp_step)
  exact fin
end
section
variable {prog : Program} {w : World} {A : Around} {E : Value → Shared → Prop} {R : Result → Shared → Prop} {hh : Heap} {gg : Array GenState} {dd : Drawn} {tk : Nat} {oo : OsState}
variable {nm qn : Str} {C N : Addr} {bs bm : List Value} {sn : List Str} {sub : List Value} {ab : Bool} {col : Option Bool} {dc : Option Addr} {k0 k1 k2 k3 k5 : Option Value}
/-- the heap with a fresh error of the class at C behind it -/
abbrev withErr (hh : Heap) (C : Addr) : Heap := (hh.push (W.kdv_tup [])).push (excO C hh.objs.size)
theorem kwnew {name : Str} {v : Value} (hb : refsVE bm = true) (hC : hh.get? C = some (ErrObj nm qn C N bs bm sn sub ab col dc k0 k1 k2 k3 k5))
    (fin : R (.ok (.ret (.ref (hh.objs.size + 1)))) ⟨withErr hh C, gg, dd, tk, oo⟩) : codeAny (model prog w) A (.builtin "ValueError.__new__" ⟨[.ref C], [(name, v)]⟩) R ⟨hh, gg, dd, tk, oo⟩ := by
  have F := F.excBase_ValueError
  have ends := F.ends
  have isVE : (Value.ref C :: bm).contains (.type "ValueError") = true := by rw [List.contains_cons, mro_ve hb]; rfl
  have noA : (Value.ref C :: bm).contains (.type "AttributeError") = false := by rw [List.contains_cons, mro_ve hb]; rfl
  have noN : (Value.ref C :: bm).contains (.type "NameError") = false := by rw [List.contains_cons, mro_ve hb]; rfl
  have room : ([] : List Value).length ≤ sizeLine := Nat.zero_le _
  refine codeAny_builtinAt F.entry ?_
  unfold Builtin.«BaseException.__new__»
  refine PySem.wpAt_bind ?_
  show PySem.wpAt _ _ _ (stack >>= _) _ _ _
  refine PySem.wpAt_bind (PySem.wpAt_stack fun p below => PySem.wpAt_of_wpAny ?_)
  wp_walk
  refine PySem.wpAt_of_wpAny ?_
  rw [F.owner]
  repeat (first | with_reducible refine wpAny_madeHere_exc F.canon hC ?_ | with_reducible refine wpAny_loadPart_at hC ?_ | (with_reducible refine wpAny_isSubtype_exc hC ?_; first | rw [isVE] | rw [noA] | rw [noN]) | wp_step)
  show R _ _
  rw [Heap.size_push]
  exact fin
theorem kwtype {name : Str} {v : Value} {fI : Addr} {Q : Fin → Shared → Prop} (hb : refsVE bm = true) (hC : hh.get? C = some (ErrObj nm qn C N bs bm sn sub ab col dc k0 k1 k2 k3 k5))
    (hi : W.Looks (model prog w) hh (typeLookup (.ref C) "__init__") (some (.ref fI))) (hs : ∀ self, W.Looks (model prog w) hh (bindSpecial (.ref fI) self) (.ref fI, [self]))
    (fin : codeAny (model prog w) A (.call (.ref fI) ⟨[.ref (hh.objs.size + 1)], [(name, v)]⟩)
      (fun r s' => match r with | .ok (.ret u) => u = .none ∧ Q (.done (.ret (.ref (hh.objs.size + 1)))) s' | .ok _ => False | .error e => E e s') ⟨withErr hh C, gg, dd, tk, oo⟩) :
    wpAny (model prog w) A (Builtin.«type.__call__» ⟨[.ref C], [(name, v)]⟩) Q E ⟨hh, gg, dd, tk, oo⟩ := by
  repeat (first | with_reducible refine wpAny_loadPart_at hC ?_ | with_reducible refine wpAny_madeBy_exc hC ?_ | wp_step)
  refine codeAny_call_builtin_code (Code.quiet_builtin _ F.excBase_ValueError.quiet) (kwcheck hb hC ?_)
  refine kwnew hb hC ?_
  show wpAny _ _ _ _ _ _
  have old : ∀ b o, hh.get? b = some o → (withErr hh C).get? b = some o := fun b o e => Heap.get?_push_of_some _ (Heap.get?_push_of_some _ e)
  have atC := old _ _ hC
  have atE : (withErr hh C).get? (hh.objs.size + 1) = some (excO C hh.objs.size) := by heap_get
  have self_in : (Value.ref C :: bm).contains (.ref C) = true := by simp
  have lk := hi.keeps old
  have bd := (hs (.ref (hh.objs.size + 1))).keeps old
  unfold isInstance
  repeat (first | with_reducible refine wpAny_loadPart_at atE ?_ | (with_reducible refine wpAny_isSubtype_exc atC ?_; rw [self_in]) | wp_step)
  show wpAny _ _ (typeLookup (.ref C) _) _ _ _
  refine lk.at ?_
  refine wpAny_holding (wpAny_bind (bd.at ?_))
  refine wpAny_bind (wpAny_call (codeAny_mono fin fun r s' z => ?_))
  rcases r with e | (u | _ | _ | _) <;> first | exact z | exact z.elim | skip
  obtain ⟨rfl, z⟩ := z
  first
    | exact wpAny_pure (wpAny_pure z)
    | (wp_walk; exact z)
theorem kwcall {name : Str} {v : Value} {fI : Addr} (hb : refsVE bm = true) (hC : hh.get? C = some (ErrObj nm qn C N bs bm sn sub ab col dc k0 k1 k2 k3 k5))
    (hi : W.Looks (model prog w) hh (typeLookup (.ref C) "__init__") (some (.ref fI))) (hs : ∀ self, W.Looks (model prog w) hh (bindSpecial (.ref fI) self) (.ref fI, [self]))
    (fin : codeAny (model prog w) (A.under (.builtin "type.__call__" ⟨[.ref C], [(name, v)]⟩)) (.call (.ref fI) ⟨[.ref (hh.objs.size + 1)], [(name, v)]⟩) (W.InitBack (hh.objs.size + 1) R) ⟨withErr hh C, gg, dd, tk, oo⟩) :
    codeAny (model prog w) A (.call (.ref C) ⟨[], [(name, v)]⟩) R ⟨hh, gg, dd, tk, oo⟩ := by
  have f1 := tc_lookup
  have f2 := tc_bind (.ref C)
  have ty : (⟨hh, gg, dd, tk, oo⟩ : Shared).TypeIs (.ref C) "type" := ⟨_, hC, rfl⟩
  refine codeAny_of_tree ?_
  show wpAny _ _ (callAny (.ref C) _) _ _ _
  repeat (any_goals (first | assumption | with_reducible refine wpAny_loadPart_at hC ?_ | wp_step))
  refine ⟨rfl, ?_⟩
  refine codeAny_call_builtin_at (Code.quiet_builtin _ (by decide +kernel)) entry_typeCall (wpAny_check_type_call_sub hC (kwtype hb hC hi hs ?_))
  refine codeAny_mono fin fun r s' z => ?_
  rcases r with e | (u | _ | _ | _) <;> exact z
end
end EoM
set_option Elab.async false
set_option linter.all false
set_option maxRecDepth 100000
set_option maxHeartbeats 4000000
/-! Eo, part 2: errors with a field, made and kept. -/
namespace L2
namespace Eo
open PySem PySem.Spec PyProof.Rows
/-- the heap with an error of the class at C: its object at a, its dict at d -/
def errH (H : Hp) (a d C : Addr) (v : V) : Hp := upd (upd H d (exd d [(("value" : Str), v)])) a (exo a C (some d))
/-- what the written part says of a class of errors with a field -/
structure ErC (K : PySem.W.Frag) (C fI : Addr) : Prop where
  ox : OexC K C
  iC : PySem.W.findIn K (.ref C) "__init__" = some (some (.ref fI))
  tI : PySem.W.typeIn K (.ref fI) = some (.type "function")
  noV : PySem.W.findIn K (.ref C) "value" = some none
def spInit (C : Addr) : Sp := fun vs H Q _ => ∃ (a : Addr) (v : V), vs = [.ref a, v] ∧ H a = some (exo a C none) ∧ ∀ d, H d = none → d ≠ a → Q .non (errH H a d C v)
section
variable {X : Cx} {pins : List (Addr × Obj)} {σ : St} {H : Hp} {s : Shared} {C fI : Addr} {fd : FuncData} {ps : List Str} {k : Nat} {Q : VK}
theorem err_end {hp : Heap} {g : Array GenState} {dr : Drawn} {tk : Nat} {os : OsState} {us : List Value} {kw : List (Str × Value)} {us' : List Value} {v : V}
    (F1 : FnOk X.prog X.w X.K X.mg X.base CX0 k fI fd ps (spInit C)) (hr : Room (k + 1) X.A) (I : Inv X pins σ H ⟨hp, g, dr, tk, os⟩)
    (atE : ((hp.push (PySem.W.kdv_tup us)).push (PySem.HandSPX.excO C hp.objs.size)).get? (hp.objs.size + 1) = some (PySem.HandSPX.excO C hp.objs.size))
    (hb : ∀ s' : Shared, X.K.In s'.heap → BindsTo s' fd ⟨.ref (hp.objs.size + 1) :: us, kw⟩ (ps.zip us')) (rv : Vals [V.ref (hp.objs.size + 1), v] us')
    (h : ∀ a d, H a = none → H d = none → d ≠ a → Q (.ref a) (errH H a d C v)) :
    codeAny (model X.prog X.w) (X.A.under (.builtin "type.__call__" ⟨.ref C :: us, kw⟩)) (.call (.ref fI) ⟨.ref (hp.objs.size + 1) :: us, kw⟩)
      (PySem.W.InitBack (hp.objs.size + 1) (fun r s' => match r with | .ok (.ret u) => EP X pins σ Q u s' | .ok _ => False | .error e => X.xe e s'))
      ⟨(hp.push (PySem.W.kdv_tup us)).push (PySem.HandSPX.excO C hp.objs.size), g, dr, tk, os⟩ := by
  have le : hp.objs.size ≤ hp.objs.size + 1 := Nat.le_succ _
  have fr : H (hp.objs.size + 1) = none := I.hok.fresh le
  have old : ∀ b o, hp.get? b = some o → ((hp.push (PySem.W.kdv_tup us)).push (PySem.HandSPX.excO C hp.objs.size)).get? b = some o := fun b o e => Heap.get?_push_of_some _ (Heap.get?_push_of_some _ e)
  have J : Inv X pins σ (upd H (hp.objs.size + 1) (exo (hp.objs.size + 1) C none)) ⟨(hp.push (PySem.W.kdv_tup us)).push (PySem.HandSPX.excO C hp.objs.size), g, dr, tk, os⟩ :=
    I.laid (t' := tk) (a := hp.objs.size + 1) (o := exo (hp.objs.size + 1) C none) old le (exo_ok atE)
  refine codeAny_mono (F1.run _ X.stack _ _ _ us' [V.ref (hp.objs.size + 1), v] (fun u H2 => u = .non ∧ Q (.ref (hp.objs.size + 1)) H2) (fun _ _ _ => False) (hr.make C us kw) (J.env0.make C us kw) (hb _ J.kIn) rv ?_) fun r s' z => ?_
  · refine ⟨_, v, rfl, upd_same, fun d nd ne => ⟨rfl, ?_⟩⟩
    have nd' : H d = none := by
      rw [upd_ne ne] at nd
      exact nd
    have e : errH (upd H (hp.objs.size + 1) (exo (hp.objs.size + 1) C none)) (hp.objs.size + 1) d C v = errH H (hp.objs.size + 1) d C v := by
      funext b
      unfold errH upd
      by_cases q : b = hp.objs.size + 1
      · simp [q]
      · simp [q]
    rw [e]
    exact h _ d fr nd' ne
  · cases r with
    | error e => exact False.elim z
    | ok fl =>
      cases fl with
      | ret u =>
        obtain ⟨v2, H2, J2, r2, e2, q2⟩ := J.after z
        subst e2
        exact ⟨r2, V.ref (hp.objs.size + 1), H2, J2, rfl, q2⟩
      | next => exact False.elim z
      | brk => exact False.elim z
      | cont => exact False.elim z
/-- C(..) with positional arguments, defaults behind them -/
theorem run_errP {us : List Value} {vs dvs : List V} {ds : List Value} {v : V} (T : ErC X.K C fI) (F1 : FnOk X.prog X.w X.K X.mg X.base CX0 k fI fd ps (spInit C)) (hr : Room (k + 1) X.A) (hb : Binds X.K fd ps ds) (hd : Vals dvs ds)
    (I : Inv X pins σ H s) (r : Vals vs us) (hv : vs ++ dvs = [v]) (hl : ps.length = 2) (h : ∀ a d, H a = none → H d = none → d ≠ a → Q (.ref a) (errH H a d C v)) :
    wpAny (model X.prog X.w) X.A (call (.ref C) us) (EP X pins σ Q) X.xe s := by
  obtain ⟨nm, q, N, bs, bm, sn, sub, ab, col, dc, k0, k1, k2, k3, k5, hC, hbm⟩ := T.ox.cls
  obtain ⟨hp, g, dr, tk, os⟩ := s
  have at1 : ((hp.push (PySem.W.kdv_tup us)).push (PySem.HandSPX.excO C hp.objs.size)).get? (hp.objs.size + 1) = some (PySem.HandSPX.excO C hp.objs.size) := by heap_get
  have r2 : Vals [V.ref (hp.objs.size + 1), v] (Value.ref (hp.objs.size + 1) :: (us ++ ds)) := .cons rfl (by rw [← hv]; exact r.append hd)
  have len2 : (Value.ref (hp.objs.size + 1) :: us ++ ds).length = ps.length := by
    rw [hl]
    exact r2.length.symm
  have lu : us.length ≤ sizeLine := by
    have z := r2.length
    simp only [List.length_cons, List.length_append, List.length_nil] at z
    have z2 : us.length ≤ 1 := by omega
    exact Nat.le_trans z2 (by rw [sizeLine_eq]; decide)
  exact wpAny_call (PySem.HandSPX.call_own F.excBase_ValueError (EoM.mro_ve hbm) (I.kIn _ _ hC) (PySem.W.looks_findIn I.kIn T.iC) (fun self => PySem.W.bind_fn I.kIn self T.tI) lu
    (codeAny_mono (err_end (us := us) (kw := []) F1 hr I at1 (fun s' X' => hb s' _ X' len2) r2 h) fun r s' z => by
      rcases r with e | (u | _ | _ | _) <;> exact z))
/-- C(value=..) -/
theorem run_errK {u : Value} {v : V} {g2 : List Value → List Value → List Value} {gV : List V → List V → List V} (T : ErC X.K C fI) (F1 : FnOk X.prog X.w X.K X.mg X.base CX0 k fI fd ps (spInit C)) (hr : Room (k + 1) X.A) (hb : KBn X.K fd ps 1 ["value"] g2 gV)
    (I : Inv X pins σ H s) (r : RelV v u) (hg : ∀ x y, gV [x] [y] = [x, y]) (h : ∀ a d, H a = none → H d = none → d ≠ a → Q (.ref a) (errH H a d C v)) :
    wpAny (model X.prog X.w) X.A (call (.ref C) [] [(("value" : Str), u)]) (EP X pins σ Q) X.xe s := by
  obtain ⟨nm, q, N, bs, bm, sn, sub, ab, col, dc, k0, k1, k2, k3, k5, hC, hbm⟩ := T.ox.cls
  obtain ⟨hp, g, dr, tk, os⟩ := s
  have at1 : ((hp.push (PySem.W.kdv_tup [])).push (PySem.HandSPX.excO C hp.objs.size)).get? (hp.objs.size + 1) = some (PySem.HandSPX.excO C hp.objs.size) := by heap_get
  have r2 : Vals [V.ref (hp.objs.size + 1), v] (g2 [Value.ref (hp.objs.size + 1)] [u]) := by
    have z := hb.rel (vs := [V.ref (hp.objs.size + 1)]) (us := [Value.ref (hp.objs.size + 1)]) (zs := [v]) (ws := [u]) (.cons rfl .nil) (.cons r .nil)
    rw [hg] at z
    exact z
  exact wpAny_call (EoM.kwcall hbm (I.kIn _ _ hC) (PySem.W.looks_findIn I.kIn T.iC) (fun self => PySem.W.bind_fn I.kIn self T.tI)
    (codeAny_mono (err_end (us := []) (kw := [(("value" : Str), u)]) F1 hr I at1 (fun s' X' => hb.to s' [_] [u] X' rfl rfl) r2 h) fun r s' z => by
      rcases r with e | (u | _ | _ | _) <;> exact z))
end
/-! ### the three calls as expressions -/
/-- what is wanted of a list of one argument -/
def one1 (F : V → Hp → Prop) : List V → Hp → Prop
  | [v], H => F v H
  | _, _ => False
theorem one1_of {F : V → Hp → Prop} : ∀ {vs : List V} {H : Hp}, one1 F vs H → ∃ v, vs = [v] ∧ F v H
  | [v], _, h => ⟨v, rfl, h⟩
  | [], _, h => h.elim
  | _ :: _ :: _, _, h => h.elim
def tErr (C : Addr) (te : TE) : TE := fun σ H Q => te σ H fun v H1 => ∀ a d, H1 a = none → H1 d = none → d ≠ a → Q (.ref a) (errH H1 a d C v)
def tErr0 (C : Addr) : TE := fun _ H Q => ∀ a d, H a = none → H d = none → d ≠ a → Q (.ref a) (errH H a d C .non)
section
variable {X : Cx} {C fI : Addr} {fd : FuncData} {ps : List Str} {k : Nat} {x : Str} {p pos kp : Pos} {e : Expr} {te : TE} {ds : List Value}
theorem pe_errP (T : ErC X.K C fI) (F1 : FnOk X.prog X.w X.K X.mg X.base CX0 k fI fd ps (spInit C)) (hr : Room (k + 1) X.A) (hb : Binds X.K fd ps []) (hl : ps.length = 2) (hg : Gl X x) (hm : X.mg x = some (.ref C)) (he : PE X e te)
    (hdb : (x == ("__debug__" : Str)) = false := by decide) (hs : starEach [e] X.env = (false, eval e X.env) :: starEach [] X.env := by rfl) (hpl : (backTo pos (starEach [] X.env)).any (·.1) = false := by rfl) :
    PE X (.Call (.Name x p) [e] [] pos) (tErr C te) := by
  refine ⟨fun pins s σ H Q I h => ?_⟩
  refine wpAny_Call_Name_kw (ld_glob I hg hm ?_ hdb)
  refine PySem.W.callWith_K (h₀ := X.base) I.ok.mod.kin T.ox.kC (thn ((pa_cons he pa_nil hs).run pos pins s σ H (one1 fun v H1 => ∀ a d, H1 a = none → H1 d = none → d ≠ a → Q (.ref a) (errH H1 a d C v)) I h) fun us s1 ⟨vs, H1, I1, r, q⟩ => ⟨I1.kIn, ?_⟩) hs hpl
  obtain ⟨v, rfl, q⟩ := one1_of q
  exact run_errP (dvs := []) T F1 hr hb .nil I1 r (List.append_nil _) hl q
theorem pe_err0 (T : ErC X.K C fI) (F1 : FnOk X.prog X.w X.K X.mg X.base CX0 k fI fd ps (spInit C)) (hr : Room (k + 1) X.A) (hb : Binds X.K fd ps ds) (hd : Vals [V.non] ds) (hl : ps.length = 2) (hg : Gl X x) (hm : X.mg x = some (.ref C))
    (hdb : (x == ("__debug__" : Str)) = false := by decide) : PE X (.Call (.Name x p) [] [] pos) (tErr0 C) := by
  refine ⟨fun pins s σ H Q I h => ?_⟩
  refine wpAny_Call_Name_kw (ld_glob I hg hm ?_ hdb)
  exact PySem.W.callWith_K0 I.kIn T.ox.kC (run_errP (us := []) (vs := []) T F1 hr hb hd I .nil rfl hl h)
theorem pe_errK {g2 : List Value → List Value → List Value} {gV : List V → List V → List V} (T : ErC X.K C fI) (F1 : FnOk X.prog X.w X.K X.mg X.base CX0 k fI fd ps (spInit C)) (hr : Room (k + 1) X.A) (hb : KBn X.K fd ps 1 ["value"] g2 gV)
    (hgV : ∀ x y, gV [x] [y] = [x, y]) (hg : Gl X x) (hm : X.mg x = some (.ref C)) (he : PE X e te) (hdb : (x == ("__debug__" : Str)) = false := by decide) :
    PE X (.Call (.Name x p) [] [⟨some "value", e, kp⟩] pos) (tErr C te) := by
  refine ⟨fun pins s σ H Q I h => ?_⟩
  refine wpAny_Call_Name_kw (ld_glob I hg hm ?_ hdb)
  refine PySem.W.callWith_KW0 (h₀ := X.base) I.ok.mod.kin T.ox.kC (by rfl) (thn ((pk_cons he pk_nil).run pos pins s σ H (one1 fun v H1 => ∀ a d, H1 a = none → H1 d = none → d ≠ a → Q (.ref a) (errH H1 a d C v)) I h) fun us s1 ⟨vs, H1, I1, r, q⟩ => ⟨I1.kIn, ?_⟩) (by rfl)
  obtain ⟨v, rfl, q⟩ := one1_of q
  cases r with
  | cons r1 r2 =>
    cases r2
    exact run_errK T F1 hr hb I1 r1 hgV q
end
end Eo
end L2
set_option Elab.async false
set_option linter.all false
set_option maxRecDepth 100000
set_option maxHeartbeats 4000000
/-! Eo, part 3: isinstance of errors that are kept, with a dict of their own or without; their fields. -/
namespace EoM
open PySem PySem.Spec PySem.Calls PyProof.Rows PySem.W
section
variable {prog : Program} {w : World} {A : Around} {E : Value → Shared → Prop} {s : Shared} {K : Frag} {x C : Addr} {ox : Obj} {od : Option Obj}
/-- what the written part says of a class of errors, so that its objects are asked rightly -/
structure ErA (K : Frag) (C : Addr) : Prop where
  ga : findIn K (.ref C) "__getattribute__" = some (some (.builtin "BaseException.__getattribute__"))
  gt : findIn K (.ref C) "__getattr__" = some none
  sub : subIn K (.ref C) (.type "BaseException") = some true
  dct : hasDictIn K C = true
  cl : findIn K (.ref C) "__class__" = some (some (.builtin "object.__class__"))
  ob : mroIn K C (.type "object") = some true
theorem cls_get : specialIn K (.builtin "object.__class__") "__get__" = some (some (.builtin "getset_descriptor.__get__")) := by first | rfl | kernel_rfl
theorem cls_takes : takesIn K (.builtin "object.__class__") = some true := by first | rfl | kernel_rfl
theorem cls_found (T : ErA K C) : findObj K C od "__class__" = some (.bind (.builtin "getset_descriptor.__get__") (.builtin "object.__class__")) := by
  obtain ⟨cd, hc, _⟩ := any_some T.dct
  unfold findObj
  rw [hc, Option.bind_some, T.cl, Option.bind_some]
  simp [cls_get, cls_takes]
theorem class_of {Q : Option Value → Shared → Prop} (T : ErA K C) (X : K.In s.heap) (I : InstAt s.heap x ox C od) (fin : Q (some (.ref C)) { s with toks := s.toks + 1 }) : wpAny (model prog w) A (getAttr? (.ref x) "__class__") Q E s := by
  have found := cls_found (od := od) T
  obtain ⟨hp, g, d, t, os⟩ := s
  have ty := I.type (M := model prog w)
  have l1 := looks_findIn (M := model prog w) X T.ga
  have l2 := looks_findIn (M := model prog w) X T.gt
  have l3 := looks_find (M := model prog w) X I found
  have isB : Looks (model prog w) hp (isInstance (.ref x) (.type "BaseException")) true := ty.andThen (looks_subIn X T.sub)
  have n0 : (false && onTheHeap (Value.builtin "BaseException.__getattribute__")) = false := rfl
  have n2 : (Value.builtin "BaseException.__getattribute__" == Value.builtin "object.__getattribute__") = false := by decide +kernel
  have n1 : (onTheHeap (Value.ref C) && Value.builtin "BaseException.__getattribute__" == Value.builtin "object.__getattribute__") = false := by rw [n2]; rfl
  unfold getAttr? getAttrBy? getAttrBy
  refine wpAny_bind (wpAny_mkText (wpAny_bind (wpAny_attempt (wpAny_holding (wpAny_bind (ty.at (wpAny_bind (l1.at ?_))))))))
  show wpAny _ _ (if (onTheHeap (Value.ref C) && Value.builtin "BaseException.__getattribute__" == Value.builtin "object.__getattribute__") = true then _ else _) _ _ _
  rw [n1, if_neg Bool.false_ne_true]
  unfold getAttrByItsOwn hookBefore
  refine wpAny_bind ?_
  rw [if_pos (show onTheHeap (Value.ref C) = true from rfl)]
  refine l2.at ?_
  refine wpAny_bind (wpAny_attempt (wpAny_holding ?_))
  unfold callGetattribute
  rw [n0, if_neg Bool.false_ne_true]
  unfold boundAndCalled
  rw [PySem.F.excAttr_ValueError.ga.bind (.ref x)]
  refine wpAny_bind (wpAny_pure ?_)
  show wpAny _ _ (call (.builtin "BaseException.__getattribute__") [.ref x, .str "__class__" t]) _ _ _
  refine wpAny_call (codeAny_call_builtin PySem.F.excAttr_ValueError.ga.plain PySem.F.entry_bexc_ga ?_)
  refine @check_slot (model prog w) _ _ ⟨hp, g, d, t + 1, os⟩ "BaseException.__getattribute__" "BaseException" "__getattribute__" (.ref x) [.str "__class__" t] [] _ (by decide +kernel) (by decide +kernel) isB (PySem.F.args_bexc_ga (.ref x) (.str "__class__" t)) ?_
  unfold Builtin.«object.__getattribute__»
  refine wpAny_bind (wpAny_of_eq (a := ((Value.ref x : Value), [Value.str "__class__" t])) (by first | rfl | (simp only [slotArgs]; rfl)) ?_)
  refine wpAny_bind (wpAny_pure (wpAny_bind (ty.at (wpAny_bind (l3.at ?_)))))
  show wpAny _ _ (holding [Value.builtin "object.__class__"] (call (.builtin "getset_descriptor.__get__") [.builtin "object.__class__", .ref x, .ref C]) >>= ret) _ _ _
  refine wpAny_bind (wpAny_holding (wpAny_call (class_get (s := ⟨hp, g, d, t + 1, os⟩) (ox := ox) (od := od) X I T.ob ?_)))
  refine wpAny_pure ?_
  show wpAny _ _ (handedOut (.ref C)) _ _ _
  rw [handedOut_of (v := .ref C) rfl]
  first
    | exact wpAny_pure (wpAny_pure fin)
    | exact wpAny_pure fin
    | exact wpAny_pure (wpAny_bind (wpAny_pure (wpAny_pure fin)))
theorem kit_err (T : ErA K C) : KitX K (.ref x) (.ref C) (fun h => InstAt h x ox C od) where
  ty := fun _ _ _ I => I.type
  it := fun _ _ X _ => by
    obtain ⟨cd, hc, _⟩ := any_some T.dct
    unfold clsIn at hc
    split at hc
    · rename_i c' d' cd' sl' ho
      intro A' Q' E' s' k q
      unfold isType loadHead
      exact wpAny_bind (wpAny_loadPart (k _ _ (X _ _ ho)) (wpAny_pure q))
    · cases hc
  ne := fun h tp dd its n sl X htp => by
    obtain ⟨cd, hc, _⟩ := any_some T.dct
    refine Bool.eq_false_iff.mpr fun q => ?_
    have e : C = tp := Value.ref.inj (beq_iff_eq.mp q)
    subst e
    unfold clsIn at hc
    split at hc
    · rename_i c' d' cd' sl' ho
      have z := (X _ _ ho).symm.trans htp
      cases z
    · cases hc
  ca := fun X I k => class_of T X I k
end
end EoM
namespace L2
namespace Eo
open PySem PySem.Spec PyProof.Rows
/-- at a: an error of the class at C, with a field or bare -/
def ErrAt (H : Hp) (a C : Addr) : Prop := (∃ d v, H a = some (exo a C (some d)) ∧ H d = some (exd d [(("value" : Str), v)])) ∨ H a = some (ExO (.ref C) a)
theorem inst_of {P : Program} {w : World} {H : Hp} {h : Heap} {a C : Addr} (ok : HOk P w H h) (e : ErrAt H a C) : ∃ ox od, PySem.W.InstAt h a ox C od := by
  rcases e with ⟨d, v, ea, ed⟩ | ea
  · obtain ⟨t1, ho⟩ := exo_at ok ea
    obtain ⟨mA, ⟨oD, _, _, hd, _⟩, _⟩ := exd_at ok ed
    exact ⟨_, some oD, ho, rfl, rfl, hd⟩
  · obtain ⟨⟨oe, vs, ho, ⟨hz1, hz2⟩, hdt, _⟩, _, _⟩ := ok a _ ea
    obtain ⟨oc, odd, oda, osl⟩ := oe
    dsimp only at hz1 hz2 hdt
    subst hz1 hz2 hdt
    exact ⟨_, none, ho, rfl, rfl, trivial⟩
/-- isinstance(e, c) of such an error -/
def rIsErr (K : PySem.W.Frag) : List V → Hp → VK → Prop := fun xs H Q => ∃ (a C : Addr) (c : V) (cv : Value) (b : Bool), xs = [.ref a, c] ∧ EoM.ErA K C ∧ ErrAt H a C ∧ ClsV c cv ∧ PySem.W.kitOne K (.ref C) cv = some b ∧ Q (.bl b) H
theorem call_isErr {X : Cx} : CallR X (.builtin "isinstance") (rIsErr X.K) := by
  intro pins s σ H xs us Q I r h
  obtain ⟨a, C, c, cv, b, rfl, T, ea, k, e, q⟩ := h
  obtain ⟨u1, u2, rfl, r1, r2⟩ := vals2 r
  have e2 := k.eq r2
  subst e2
  cases (show u1 = Value.ref a from r1)
  obtain ⟨ox, od, J⟩ := inst_of I.hok ea
  exact PySem.W.kia_one (EoM.kit_err T) I.kIn J e (fun z => nomatch z) fun tk => ⟨.bl b, H, I.tok tk, rfl, q⟩
/-- e.value -/
def tVal (K : PySem.W.Frag) (te : TE) : TE := fun σ H Q => te σ H fun x H1 => ∃ (a C d : Addr) (v : V), x = .ref a ∧ EoM.ErA K C ∧ PySem.W.findIn K (.ref C) "value" = some none ∧ H1 a = some (exo a C (some d)) ∧ H1 d = some (exd d [(("value" : Str), v)]) ∧ Q v H1
theorem pe_val {X : Cx} {e : Expr} {te : TE} {pos : Pos} (he : PE X e te) (hb : attributeBase e "value" X.env (eval e X.env) = eval e X.env := by rfl) : PE X (.Attribute e "value" pos) (tVal X.K te) := by
  refine ⟨fun pins s σ H Q I h => ?_⟩
  refine attr_of hb (thn (he.run pins s σ H _ I h) fun u s1 hh => ?_)
  obtain ⟨x, H1, I1, rx, a, C, d, v, rfl, T, noV, ea, ed, q⟩ := hh
  obtain rfl : u = Value.ref a := rx
  obtain ⟨t1, ho⟩ := exo_at I1.hok ea
  obtain ⟨mA, hns, rel⟩ := exd_at I1.hok ed
  obtain ⟨oD, hd, hl⟩ := lookIn_ns hns
  have l : List.lookup ("value" : Str) [(("value" : Str), v)] = some v := by simp [List.lookup]
  obtain ⟨u, hu, ru⟩ := RelO.some_of (v := v) (o := mA "value") (by rw [← l]; exact rel "value")
  have J : PySem.W.InstAt s1.heap a _ C (some oD) := ⟨ho, rfl, rfl, hd⟩
  exact PySem.HandSPX.exc_get I1.kIn J T.ga T.gt T.sub (PySem.W.findObj_own T.dct noV rfl (by rw [hl, hu])) (handed_of ru) ⟨v, H1, I1.tok _, ru, q⟩
end Eo
end L2
set_option Elab.async false
set_option linter.all false
set_option maxRecDepth 100000
set_option maxHeartbeats 4000000
/-! Eo, part 4: promises that hold where no repr is under way (a def that asks for repr wants to know it). -/
namespace L2
namespace Eo
open PySem PySem.Spec PyProof.Rows
/-- a def's promise, kept where no repr is under way and no exception leaves -/
structure FnG (P : Program) (w : World) (K : PySem.W.Frag) (mg : Str → Option Value) (base : Heap) (k : Nat) (f : Addr) (fd : FuncData) (ps : List Str) (sp : Sp) : Prop where
  len : ∀ vs H Q, sp vs H Q E0 → vs.length = ps.length
  run : ∀ (A : Around) (below : List Env) (s : Shared) (H : Hp) (args : Args) (us : List Value) (vs : List V) (Q : VK), A.guards = some [] → Room k A → Env0 P w K mg base A below s H → BindsTo s fd args (ps.zip us) → Vals vs us → sp vs H Q E0 →
    codeAny (model P w) A (.call (.ref f) args) (CR CX0 below P w H s Q E0) s
section
variable {P : Program} {w : World} {K : PySem.W.Frag} {mg : Str → Option Value} {base : Heap} {k : Nat} {f : Addr} {fd : FuncData} {sp : Sp}
theorem guards_deeper {A : Around} {env : Env} (g : A.guards = some []) : (A.deeper env).guards = some [] := g
/-- a def of the text, by its body -/
theorem fnG_of {x qual : Str} {st : Stmt} {names ps : List Str} (F : Fun K x qual st f fd) (S : FnScope names ps (defScope st)) (len : ∀ vs H Q, sp vs H Q E0 → vs.length = ps.length)
    (body : ∀ (cdv : Value) (A : Around) (below : List Env) (s : Shared) (H : Hp) (vs : List V) (Q : VK), (A.deeper (envOfC qual (defScope st) s.heap.objs.size f cdv)).guards = some [] → Room k (A.deeper (envOfC qual (defScope st) s.heap.objs.size f cdv)) → sp vs H Q E0 →
      ∃ t, PSs (cxOf CX0 P w K mg base names qual (defScope st) f cdv A below s H E0).nox (defBody st) t ∧ t { nx := fun _ H' => Q .non H', rt := Q } (start names vs) H) : FnG P w K mg base (k + 1) f fd ps sp := by
  obtain ⟨oc, od, kV, doc, pm, an, cdv, ct, osl, rfl, lk, hcd⟩ := F.ex
  constructor
  · exact len
  · intro A below s H args us vs Q hgd hroom e0 hbinds rel want
    have n2 := len _ _ _ want
    have KX : K.In s.heap := e0.mod.kin.keeps fun b o e => (e0.bs b o e).1
    have lim : s.heap.NoLimit := e0.mod.nolimit.keeps fun b o e => (e0.bs b o e).1
    have kinds : ∀ y ∈ ps.zip us, (defScope st).names.lookup y.1 = some .local ∨ ((defScope st).names.lookup y.1 = some .cell ∧ ((cellsFrom (s.heap.objs.size + 1) (defScope st).names []).lookup y.1).isSome = true) := by
      rintro ⟨y, u⟩ hy
      have z := S.par y (List.of_mem_zip hy).1
      exact z.elim .inl fun q => .inr ⟨q, PySem.W.cellsFrom_some _ _ _ (.inl q)⟩
    refine codeAny_call_function hroom.depth (KX _ _ lk) rfl S.co S.gen rfl (PySem.W.codeRec_of KX hcd) (hbinds _ _ _ _ ?_)
    refine wpAny_newFunctionEnv_cells S.kind kinds fun env he s1 inc => ?_
    subst he
    refine ⟨lim.keeps inc.toInCall.keep, codeAny_func ?_⟩
    obtain ⟨t, ht, hq⟩ := body cdv A below s H vs Q (guards_deeper hgd) (hroom.deeper _) want
    have I0 : Inv (cxOf CX0 P w K mg base names qual (defScope st) f cdv A below s H E0) [] (start names vs) H s1 := inv_start S hroom.hd e0 n2 rel inc
    refine wpAny_mono (ht.nox.run [] s1 (start names vs) H _ I0 hq) (fun fl s' out => ?_) fun e s' out => out
    cases fl with
    | ret u =>
      obtain ⟨v, σ2, H2, J, rv, q⟩ := out
      exact ⟨v, H2, J.os, J.bare, J.base, J.hok, rv, q⟩
    | next =>
      obtain ⟨σ2, H2, J, q⟩ := out
      exact ⟨V.non, H2, J.os, J.bare, J.base, J.hok, rfl, q⟩
    | brk => exact out.elim fun _ z => z.elim fun _ z => z.2.elim
    | cont => exact out.elim fun _ z => z.elim fun _ z => z.2.elim
end
section
variable {X : Cx} {k : Nat} {f : Addr} {fd : FuncData} {ps : List Str} {sp : Sp} {x : Str} {p pos : Pos} {e : Expr} {es : List Expr} {t : TA}
/-- f(e, ..) of such a def -/
theorem pe_callG (F : FnG X.prog X.w X.K X.mg X.base k f fd ps sp) (hgd : X.A.guards = some []) (hr : Room k X.A) (hg : Gl X x) (hm : X.mg x = some (.ref f)) (hk : PySem.W.keepIn X.K (.ref f) = true) (hb : Binds X.K fd ps [])
    (ha : PA X (e :: es) t) (hdb : (x == ("__debug__" : Str)) = false := by decide) (hs : starEach (e :: es) X.env = (false, eval e X.env) :: starEach es X.env := by rfl) (hpl : (backTo pos (starEach es X.env)).any (·.1) = false := by rfl) :
    PE X (.Call (.Name x p) (e :: es) [] pos) (tCall sp [] E0 t) := by
  refine ⟨fun pins s σ H Q I h => ?_⟩
  refine wpAny_Call_Name_kw (ld_glob I hg hm ?_ hdb)
  refine PySem.W.callWith_K (h₀ := X.base) I.ok.mod.kin hk (thn (ha.run pos pins s σ H _ I h) fun us s1 ⟨vs, H1, I1, r, q⟩ => ⟨I1.kIn, ?_⟩) hs hpl
  have q1 : sp vs H1 Q E0 := by
    have z : sp (vs ++ []) H1 Q E0 := q
    rw [List.append_nil] at z
    exact z
  have n1 : (us ++ []).length = ps.length := by rw [List.append_nil, ← r.length, F.len _ _ _ q1]
  have b1 := hb s1 us I1.kIn n1
  rw [List.append_nil] at b1
  refine wpAny_call (codeAny_mono (F.run X.A X.stack s1 H1 ⟨us, []⟩ us vs Q hgd hr I1.env0 b1 r q1) fun r s' z => ?_)
  cases r with
  | error er => exact False.elim z
  | ok fl =>
    cases fl with
    | ret u => exact I1.after z
    | next => exact z.elim
    | brk => exact z.elim
    | cont => exact z.elim
end
/-- the law's call behind the top, by such a promise -/
theorem topG {P : Program} {w : World} {K : PySem.W.Frag} {mg mb : Str → Option Value} {k : Nat} {fa a : Addr} {fd : FuncData} {x : Str} {sp : Sp} {s1 : Shared} {vs : List Value} {ns : List Int}
    (KX : K.In s1.heap) (gm : s1.heap.Ns mainGlobals mg) (gb : s1.heap.Ns builtinsNs mb) (bb : ∀ x : Str, x ≠ "__name__" → mb x = bootBuiltins x) (lim : s1.heap.NoLimit) (gn : s1.gens = #[])
    (ha : s1.heap.get? a = some { cls := .type "list", data := .seq vs.toArray }) (hi : IntsAre vs ns) (hl : ns.length ≤ sizeLine) (hr : Room k callerA)
    (F : ∀ base : Heap, K.In base → base.Ns mainGlobals mg → FnG P w K mg base k fa fd [x] sp) (bind : ∀ (s : Shared) (u : Value), BindsTo s fd ⟨[u], []⟩ [(x, u)])
    (want : ∀ H : Hp, SqL K H a (ns.map V.int) → sp [.ref a] H (fun v _ => v = .bl true) E0) :
    codeAny (model P w) callerA (.call (.ref fa) ⟨[.ref a], []⟩) (fun r s' => r = .ok (.ret (.bool true)) ∧ OldK s1.heap s'.heap ∧ s'.os = s1.os ∧ AllBare s'.gens) s1 := by
  have rints := vals_ints hi
  have nv := hi.length
  obtain ⟨H, hS, hH, hM⟩ : ∃ H : Hp, SqL K H a (ns.map V.int) ∧ (∀ b u, H b = some u → b = a ∧ K.lookup a = none ∧ u = .frz { cls := .type "list", data := .seq vs.toArray } (.lst (ns.map V.int))) ∧ True := by
    cases hk : K.lookup a with
    | some o =>
      have e := (KX a o hk).symm.trans ha
      cases e
      exact ⟨fun _ => none, .inr ⟨_, vs.toArray, _, hk, rfl, rfl, rfl, by rw [List.size_toArray, nv]; exact hl, by simpa using rints⟩, fun b u z => (nomatch z), trivial⟩
    | none =>
      refine ⟨fun b => if b = a then some (.frz { cls := .type "list", data := .seq vs.toArray } (.lst (ns.map V.int))) else none, .inl (.inr ⟨_, if_pos rfl⟩), fun b u z => ?_, trivial⟩
      by_cases q : b = a
      · have z2 : (if b = a then some (HO.frz { cls := .type "list", data := .seq vs.toArray } (.lst (ns.map V.int))) else none) = some u := z
        rw [if_pos q] at z2
        exact ⟨q, rfl, (Option.some.inj z2).symm⟩
      · have z2 : (if b = a then some (HO.frz { cls := .type "list", data := .seq vs.toArray } (.lst (ns.map V.int))) else none) = some u := z
        rw [if_neg q] at z2
        cases z2
  have ok0 : HOk P w H s1.heap := fun b u z => by
    obtain ⟨rfl, _, rfl⟩ := hH b u z
    exact ⟨ha, by rw [List.length_map]; exact hl, vs, _, rints, ha⟩
  have hidden : ∀ {b : Addr} {o : Obj}, s1.heap.get? b = some o → H b = none → (hidT s1.heap H).get? b = some o := fun e n => hidT_get e n
  have dictFree : ∀ {b : Addr} {o : Obj} {es : Array DictEntry} {ep : Nat}, s1.heap.get? b = some o → o.data = .dict es ep → H b = none := fun {b o es ep} e d => by
    cases q : H b with
    | none => rfl
    | some u =>
      obtain ⟨rfl, _⟩ := hH b u q
      have z := ha.symm.trans e
      cases z
      cases d
  have nsk : ∀ {b : Addr} {m : Str → Option Value}, s1.heap.Ns b m → (hidT s1.heap H).Ns b m := fun {b m} ⟨o, es, ep, e, d, r⟩ => ⟨o, es, ep, hidden e (dictFree e d), d, r⟩
  have KB : K.In (hidT s1.heap H) := fun b o e => hidden (KX b o e) (by
    cases q : H b with
    | none => rfl
    | some u =>
      obtain ⟨rfl, z, _⟩ := hH b u q
      rw [z] at e
      cases e)
  obtain ⟨mc, l1, l2⟩ := lim
  have M0 : Mod K mg (hidT s1.heap H) := ⟨KB, nsk gm, ⟨mb, nsk gb, bb⟩, ⟨mc, nsk l1, l2⟩⟩
  have env0 : Env0 P w K mg (hidT s1.heap H) callerA [] s1 H := ⟨rfl, M0, fun b o e => of_hidT e, Nat.le_of_eq (hidT_size _ _), trivial, fun b z => (List.not_mem_nil z).elim, ok0, .of_eq gn⟩
  refine codeAny_mono ((F _ KB (nsk gm)).run callerA [] s1 H ⟨[.ref a], []⟩ [.ref a] [.ref a] _ rfl hr env0 (bind s1 (.ref a)) (.cons rfl .nil) (want H hS)) fun r s' out => ?_
  cases r with
  | error er => exact False.elim out
  | ok fl =>
    cases fl with
    | next => exact out.elim
    | brk => exact out.elim
    | cont => exact out.elim
    | ret u =>
      obtain ⟨v, H2, os2, bare, un, ok2, rv, q⟩ := out
      have q2 : v = .bl true := q
      subst q2
      obtain rfl : u = Value.bool true := rv
      refine ⟨rfl, OldK.of_keep fun b o e => ?_, os2, bare⟩
      cases q : H b with
      | none => exact un.keep b o e q (fun z => (List.not_mem_nil z).elim) (fun z => (List.not_mem_nil z).elim)
      | some u =>
        obtain ⟨rfl, _, rfl⟩ := hH b u q
        have z2 := un.frzs b _ _ q
        have e2 := (ok2 b _ z2).1
        have z3 := ha.symm.trans e
        cases z3
        exact e2
end Eo
end L2
set_option Elab.async false
set_option linter.all false
set_option maxRecDepth 100000
set_option maxHeartbeats 4000000
/-! Eo, part 5: repr of plain data that is tracked. -/
namespace L2
namespace Eo
open PySem PySem.Spec PyProof.Rows
/-- numbers, texts, truth values, None -/
def Flat (v : V) (d : PyData) : Prop := (v = .non ∧ d = .none) ∨ (∃ b, v = .bl b ∧ d = .bool b) ∨ (∃ i, v = .int i ∧ d = .int i) ∨ (∃ x, v = .str x ∧ d = .str x)
/-- v is the data d, at most n lists and tuples deep -/
def Sho : Nat → Hp → V → PyData → Prop
  | 0, _, v, d => Flat v d
  | n + 1, H, v, d => Flat v d ∨ (∃ (a : Addr) (xs : List V) (ds : List PyData), v = .ref a ∧ d = .list ds ∧ H a = some (.lst xs) ∧ PyData.hasDictAll ds = false ∧ Paired (Sho n H) xs ds) ∨
      (∃ (a : Addr) (xs : List V) (ds : List PyData), v = .ref a ∧ d = .tuple ds ∧ H a = some (.tup xs) ∧ PyData.hasDictAll ds = false ∧ Paired (Sho n H) xs ds) ∨
      (∃ (a : Addr), v = .ref a ∧ d = .dict [] ∧ H a = some (.dK []))
theorem Sho.mono {H H' : Hp} (k : ∀ b o, H b = some o → H' b = some o) : ∀ {n : Nat} {v : V} {d : PyData}, Sho n H v d → Sho n H' v d
  | 0, _, _, h => h
  | n + 1, _, _, h => by
    rcases h with h | ⟨a, xs, ds, e1, e2, e3, e4, h⟩ | ⟨a, xs, ds, e1, e2, e3, e4, h⟩ | ⟨a, e1, e2, e3⟩
    · exact .inl h
    · exact .inr (.inl ⟨a, xs, ds, e1, e2, k _ _ e3, e4, L2.Paired.mapP h fun _ _ z => Sho.mono k z⟩)
    · exact .inr (.inr (.inl ⟨a, xs, ds, e1, e2, k _ _ e3, e4, L2.Paired.mapP h fun _ _ z => Sho.mono k z⟩))
    · exact .inr (.inr (.inr ⟨a, e1, e2, k _ _ e3⟩))
theorem flat_reads {h : Heap} {v : V} {u : Value} {d : PyData} (f : Flat v d) (r : RelV v u) : Reads h u d [] ∧ d.hasDict = false := by
  rcases f with ⟨rfl, rfl⟩ | ⟨b, rfl, rfl⟩ | ⟨i, rfl, rfl⟩ | ⟨x, rfl, rfl⟩
  · cases (show u = Value.none from r)
    exact ⟨.none, rfl⟩
  · cases (show u = Value.bool b from r)
    exact ⟨.bool b, rfl⟩
  · obtain ⟨t, rfl⟩ := (show ∃ t, u = Value.int i t from r)
    exact ⟨.int i t, rfl⟩
  · obtain ⟨t, rfl⟩ := (show ∃ t, u = Value.str x t from r)
    exact ⟨.str x t, rfl⟩
theorem pair_reads {h : Heap} {F : V → PyData → Prop} (g : ∀ v u d, F v d → RelV v u → ∃ as, Reads h u d as) : ∀ {xs : List V} {us : List Value} {ds : List PyData}, Paired F xs ds → Vals xs us → ∃ as, ReadsAll h us ds as
  | _, _, _, .nil, .nil => ⟨_, .nil⟩
  | _, _, _, .cons p ps, .cons r rs => by
    obtain ⟨a1, h1⟩ := g _ _ _ p r
    obtain ⟨a2, h2⟩ := pair_reads g ps rs
    exact ⟨_, .cons h1 h2⟩
theorem Sho.reads {P : Program} {w : World} {H : Hp} {h : Heap} (ok : HOk P w H h) : ∀ {n : Nat} {v : V} {u : Value} {d : PyData}, Sho n H v d → RelV v u → ∃ as, Reads h u d as ∧ (d.hasDict = true → sysModules ∉ as)
  | 0, _, _, _, f, r => by
    obtain ⟨a, b⟩ := flat_reads (h := h) f r
    exact ⟨_, a, fun z => by rw [b] at z; cases z⟩
  | n + 1, _, u, _, f, r => by
    have deep : ∀ v u d, Sho n H v d → RelV v u → ∃ as, Reads h u d as := fun v u d f r => by
      obtain ⟨as, z, _⟩ := Sho.reads ok f r
      exact ⟨as, z⟩
    rcases f with f | ⟨a, xs, ds, rfl, rfl, e3, e4, f⟩ | ⟨a, xs, ds, rfl, rfl, e3, e4, f⟩ | ⟨a, rfl, rfl, e3⟩
    · obtain ⟨a, b⟩ := flat_reads (h := h) f r
      exact ⟨_, a, fun z => by rw [b] at z; cases z⟩
    · obtain ⟨_, its, m, rv, e⟩ := (show ObjOk P w H h a (.lst xs) from ok a _ e3)
      obtain ⟨as, z⟩ := pair_reads deep f rv
      cases (show u = Value.ref a from r)
      exact ⟨_, .list e rfl rfl z, fun q => by
        have q2 : PyData.hasDictAll ds = true := q
        rw [e4] at q2
        cases q2⟩
    · obtain ⟨_, its, rv, o, e, ec, m, ed⟩ := (show ObjOk P w H h a (.tup xs) from ok a _ e3)
      obtain ⟨as, z⟩ := pair_reads deep f rv
      cases (show u = Value.ref a from r)
      exact ⟨_, .tuple e ec ed z, fun q => by
        have q2 : PyData.hasDictAll ds = true := q
        rw [e4] at q2
        cases q2⟩
    · obtain ⟨_, ns, vs, kv, o, es, ep, e, ex, ed, ks, prs, _⟩ := (show ObjOk P w H h a (.dK []) from ok a _ e3)
      cases kv
      have e0 : es.toList = [] := by
        cases hz : es.toList with
        | nil => rfl
        | cons y ys =>
          rw [hz] at prs
          cases prs
      cases (show u = Value.ref a from r)
      refine ⟨_, .dict (as := []) (bs := []) (kvs := []) e ex.1 ed (by rw [e0]; exact .nil) (by rw [e0]; exact .nil), fun _ => ?_⟩
      intro hm
      have q : sysModules = a := by simpa using hm
      rw [q] at ns
      simp at ns
/-- repr(v) of such data -/
def rShow : List V → Hp → VK → Prop := fun xs H Q => ∃ (v : V) (d : PyData) (n : Nat), xs = [v] ∧ Sho n H v d ∧ d.showable = true ∧ d.depth ≤ 30 ∧ d.shown.length ≤ sizeLine ∧ Q (.str d.shown) H
theorem call_repr {X : Cx} (hgd : X.A.guards = some []) (hu : X.A.units + 64 < cLine) : CallR X (.builtin "repr") rShow := by
  intro pins s σ H xs us Q I r h
  obtain ⟨v, d, n, rfl, f, hs, hd, hz, q⟩ := h
  obtain ⟨u, rfl, rv⟩ : ∃ u, us = [u] ∧ RelV v u := by
    cases r with
    | cons r1 r2 =>
      cases r2
      exact ⟨_, rfl, r1⟩
  obtain ⟨as, rd, ns⟩ := f.reads I.hok rv
  cases rd with
  | none => exact PySem.P.repr_of_none ⟨.str _, H, I.tok _, ⟨_, rfl⟩, q⟩
  | bool b => exact PySem.P.repr_of_bool ⟨.str _, H, I.tok _, ⟨_, rfl⟩, q⟩
  | int i t => exact PySem.P.repr_of_int (by simpa [PyData.showable] using hs) ⟨.str _, H, I.tok _, ⟨_, rfl⟩, q⟩
  | str x t => exact PySem.P.repr_of_str ⟨.str _, H, I.tok _, ⟨_, rfl⟩, q⟩ hz
  | list h1 h2 h3 h4 => exact repr_of_reads' (.list h1 h2 h3 h4) hs ns hgd (by omega) (fun _ _ e => e) (fun h' t tk k => ⟨.str _, H, I.kept (t' := tk) k, ⟨_, rfl⟩, q⟩) hz
  | tuple h1 h2 h3 h4 => exact repr_of_reads' (.tuple h1 h2 h3 h4) hs ns hgd (by omega) (fun _ _ e => e) (fun h' t tk k => ⟨.str _, H, I.kept (t' := tk) k, ⟨_, rfl⟩, q⟩) hz
  | dict h1 h2 h3 h4 h5 => exact repr_of_reads' (.dict h1 h2 h3 h4 h5) hs ns hgd (by omega) (fun _ _ e => e) (fun h' t tk k => ⟨.str _, H, I.kept (t' := tk) k, ⟨_, rfl⟩, q⟩) hz
end Eo
end L2
set_option Elab.async false
set_option linter.all false
set_option maxRecDepth 100000
set_option maxHeartbeats 4000000
/-! Eo, part 6: the draws. -/
namespace L2
namespace Eo
open PySem PySem.Spec PyProof.Rows
theorem fun_of {K : PySem.W.Frag} {x q : Str} {st : Stmt} {f : Addr} {fd : FuncData} (F : FunD K x q (defArgs st) (defBody st) (defScope st) [] [] f fd) : Fun K x q st f fd := by
  obtain ⟨⟨oc, od, dV, kV, doc, pm, an, cdv, ct, osl, e, lk, hc, hD, _⟩, kp⟩ := F
  rcases hD with ⟨_, rfl⟩ | ⟨z, _⟩
  · exact ⟨⟨oc, od, kV, doc, pm, an, cdv, ct, osl, e, lk, hc⟩, kp⟩
  · exact absurd rfl z
abbrev sMixed : Stmt := topS 46
abbrev sDraw : Stmt := topS 47
abbrev sOneOf : Stmt := topS 49
abbrev sWord : Stmt := topS 50
/-- the purse at a: what is left, the seed, the turns so far, its number -/
def Purse (H : Hp) (a : Addr) (p q t i : Int) : Prop := H a = some (.lst [.int p, .int q, .int t, .int i])
abbrev pursed (H : Hp) (a : Addr) (p q t i : Int) : Hp := upd H a (.lst [.int p, .int q, .int t, .int i])
def spMixed : Sp := fun vs H Q _ => ∃ q t i : Int, vs = [.int q, .int t, .int i] ∧ 0 ≤ t ∧ t < 1000000000000 ∧ ∀ n : Int, Q (.int n) H
section
variable {P : Program} {w : World} {K : PySem.W.Frag} {mg : Str → Option Value} {base : Heap}
theorem scMixed : FnScope ["_law_seed", "_law_turn", "_law_at", "_law_mixed_here"] ["_law_seed", "_law_turn", "_law_at"] (defScope sMixed) := ⟨rfl, rfl, rfl, by decide +kernel, rfl, by decide +kernel, by decide +kernel⟩
theorem ok_mixed {f : Addr} {fd : FuncData} (F : Fun K "_law_mixed" "_law_mixed" sMixed f fd) : FnOk P w K mg base CX0 1 f fd ["_law_seed", "_law_turn", "_law_at"] spMixed := by
  refine F.ok scMixed (fun vs H Q E h => ?_) (fun cdv A outer s H vs Q E hr h => ?_)
  · obtain ⟨q, t, i, rfl, _⟩ := h
    rfl
  · obtain ⟨q, t, i, rfl, t0, t1, want⟩ := h
    refine ⟨_, pss_cons (ps_set (i := 3) scMixed.nd rfl (Or.inl rfl) (pe_op op_add (pe_op op_mul (pv 0) pe_int) (pe_op op_mul (pe_op op_mul pe_int (pv 1)) (pv 1))))
      (pss_cons (ps_set (i := 3) scMixed.nd rfl (Or.inl rfl) (pe_op op_mod (pe_op op_add (pe_op op_add (pv 3) (pe_op op_mul pe_int (pv 2))) (pv 1)) pe_int))
      (pss_cons (ps_set (i := 3) scMixed.nd rfl (Or.inl rfl) (pe_op op_mod (pe_op op_add (pe_op op_mul (pv 3) (pv 3)) pe_int) pe_int))
      (pss_one (ps_ret (pe_op op_mod (pe_op op_mul (pv 3) pe_int) pe_int))))), ?_⟩
    refine ⟨_, rfl, _, _, rfl, rfl, .inr ⟨by decide, by decide⟩, _, rfl, _, _, rfl, rfl, .inl ⟨by decide, by decide⟩, _, rfl, _, _, rfl, rfl, .inr ⟨by omega, by omega⟩, _, _, rfl, rfl, ?_⟩
    refine ⟨_, rfl, _, rfl, _, _, rfl, rfl, .inl ⟨by decide, by decide⟩, _, _, rfl, rfl, _, rfl, _, _, rfl, rfl, _, _, rfl, rfl, (by show (0 : Int) < 2147483647; decide), ?_⟩
    refine ⟨_, rfl, _, rfl, _, _, rfl, rfl, .inl ⟨?_, ?_⟩, _, _, rfl, rfl, _, _, rfl, rfl, (by show (0 : Int) < 2147483629; decide), ?_⟩
    · have z := Int.emod_nonneg (q * 69069 + 104729 * t * t + 7919 * i + t) (show (2147483647 : Int) ≠ 0 by decide)
      omega
    · have z := Int.emod_lt_of_pos (q * 69069 + 104729 * t * t + 7919 * i + t) (show (0 : Int) < 2147483647 by decide)
      omega
    refine ⟨_, rfl, _, _, rfl, rfl, .inr ⟨by decide, by decide⟩, _, _, rfl, rfl, (by show (0 : Int) < 2147483587; decide), ?_⟩
    exact want _
/-- a draw below `many`: what the purse holds behind it, and what is drawn -/
def spDraw : Sp := fun vs H Q _ => ∃ (a : Addr) (m p q t i : Int), vs = [.ref a, .int m] ∧ 0 < m ∧ m < 100000 ∧ Purse H a p q t i ∧ 0 ≤ t ∧ t < 100000000 ∧
  ∀ p' t' d : Int, 0 ≤ d → d < m → t ≤ t' → t' ≤ t + 1 → Q (.int d) (pursed H a p' q t' i)
theorem bits28 {m : Int} (h0 : 0 < m) (h1 : m < 100000) : (1 + ((Builtin.Int.intBits m : Nat) : Int) / 28).toNat = 1 := by
  have e : Builtin.Int.intBits m ≤ 17 := PyProof.Rows.intBits_le (k := 17) (by omega)
  omega
theorem at4 {p q t i : Int} : atI [V.int p, V.int q, V.int t, V.int i] 0 = some (.int p) ∧ atI [V.int p, V.int q, V.int t, V.int i] 1 = some (.int q) ∧ atI [V.int p, V.int q, V.int t, V.int i] 2 = some (.int t) ∧ atI [V.int p, V.int q, V.int t, V.int i] 3 = some (.int i) := ⟨rfl, rfl, rfl, rfl⟩
theorem scDraw : FnScope ["_law_purse_here", "_law_many", "_law_drawn", "_law_found", "_law_piece"] ["_law_purse_here", "_law_many"] (defScope sDraw) := ⟨rfl, rfl, rfl, by decide +kernel, rfl, by decide +kernel, by decide +kernel⟩
theorem ok_draw {f fM : Addr} {fd fdM : FuncData} (F : Fun K "_law_draw" "_law_draw" sDraw f fd) (FM : Fun K "_law_mixed" "_law_mixed" sMixed fM fdM) (gM : mg "_law_mixed" = some (.ref fM)) (gR : mg "range" = none) :
    FnOk P w K mg base CX0 2 f fd ["_law_purse_here", "_law_many"] spDraw := by
  have GM : FnOk P w K mg base CX0 1 fM fdM ["_law_seed", "_law_turn", "_law_at"] spMixed := ok_mixed FM
  have bM : Binds K fdM ["_law_seed", "_law_turn", "_law_at"] [] := FM.binds fun _ _ _ _ _ _ us hl => match us, hl with | [_, _, _], _ => rfl
  refine F.ok scDraw (fun vs H Q E h => ?_) (fun cdv A outer s H vs Q E hr h => ?_)
  · obtain ⟨a, m, p, q, t, i, rfl, _⟩ := h
    rfl
  · obtain ⟨a, m, p, q, t, i, rfl, m0, m1, hp, t0, t1, want⟩ := h
    have hp : H a = some (.lst [.int p, .int q, .int t, .int i]) := hp
    refine ⟨_, pss_cons (ps_if (pt_cmpR op_gt (pe_ix ix_list (pv 0) pe_int (fun _ _ => rfl)) pe_int (nomark _))
        (pss_cons (ps_set (i := 2) scDraw.nd rfl (Or.inl rfl) (pe_op op_mod (pe_ix ix_list (pv 0) pe_int (fun _ _ => rfl)) (pv 1)))
        (pss_cons (ps_asg (pe_op op_fdivW (pe_ix ix_list (pv 0) pe_int (fun _ _ => rfl)) (pv 1)) (pg_sub (pv 0) pe_int set_list))
        (pss_one (ps_ret (pv 2))))) pss_nil)
      (pss_cons (ps_set (i := 3) scDraw.nd rfl (Or.inl rfl) pe_int)
      (pss_cons (ps_for PassesOwn.never rfl (pi_range1 rfl gR (pa_cons (pe_op op_add pe_int (pe_op op_fdiv (pe_bits (pv 1)) pe_int)) pa_nil)) (pg_name (i := 4) scDraw.nd rfl (Or.inl rfl))
        (pss_cons (ps_asg (pe_op op_add (pe_ix ix_list (pv 0) pe_int (fun _ _ => rfl)) pe_int) (pg_sub (pv 0) pe_int set_list))
        (pss_one (ps_set (i := 3) scDraw.nd rfl (Or.inl rfl) (pe_op op_add (pe_op op_mul (pv 3) pe_int)
          (pe_call GM (hr.mono (by decide)) rfl gM FM.kp bM .nil pass0 (pa_cons (pe_ix ix_list (pv 0) pe_int (fun _ _ => rfl)) (pa_cons (pe_ix ix_list (pv 0) pe_int (fun _ _ => rfl)) (pa_cons (pe_ix ix_list (pv 0) pe_int (fun _ _ => rfl)) pa_nil))))))))
      ) (pss_one (ps_ret (pe_op op_mod (pv 3) (pv 1)))))), ?_⟩
    refine ⟨_, rfl, _, _, _, _, rfl, rfl, SqL.of hp, at4.1, _, _, rfl, rfl, _, rfl, ite2 (fun _ => ?_) (fun _ => ?_)⟩
    · refine ⟨_, rfl, _, _, _, _, rfl, rfl, SqL.of hp, at4.1, _, rfl, _, _, rfl, rfl, m0, ?_⟩
      refine ⟨_, rfl, _, _, _, _, rfl, rfl, SqL.of hp, at4.1, _, rfl, _, _, rfl, rfl, wide_div (b := 17) m0 (by omega) (by decide) (by decide), ?_⟩
      refine ⟨_, rfl, _, _, _, 0, rfl, rfl, hp, rfl, ?_⟩
      refine ⟨_, rfl, ?_⟩
      exact want _ t _ (Int.emod_nonneg _ (by omega)) (Int.emod_lt_of_pos _ m0) (Int.le_refl _) (by omega)
    · refine ⟨_, rfl, _, rfl, _, _, rfl, rfl, ⟨by decide, by decide⟩, _, _, rfl, rfl, _, rfl, ?_, ?_, ?_⟩
      · have z : (0 : Int) ≤ ((Builtin.Int.intBits m : Nat) : Int) := Int.natCast_nonneg _
        omega
      · have e : Builtin.Int.intBits m ≤ 17 := PyProof.Rows.intBits_le (k := 17) (by omega)
        omega
      rw [bits28 m0 m1]
      refine for_range (lo := 0) (n := 1) (fun k σ H' => (k = 0 ∧ σ = [some (.ref a), some (.int m), none, some (.int 0), none] ∧ H' = H) ∨ (k = 1 ∧ ∃ (n : Int) (v : Option V), σ = [some (.ref a), some (.int m), none, some (.int n), v] ∧ H' = pursed H a p q (t + 1) i)) (.inl ⟨rfl, rfl, rfl⟩) ?_ ?_
      · rintro k σ H' hk (⟨rfl, rfl, rfl⟩ | ⟨rfl, _⟩)
        · refine ⟨_, rfl, _, _, _, _, rfl, rfl, SqL.of hp, at4.2.2.1, _, _, rfl, rfl, ?_⟩
          refine ⟨_, rfl, _, _, _, 2, rfl, rfl, hp, rfl, ?_⟩
          have hp2 : pursed H' a p q (t + 1) i a = some (.lst [.int p, .int q, .int (t + 1), .int i]) := upd_same
          refine ⟨_, rfl, _, _, rfl, rfl, .inr ⟨by decide, by decide⟩, _, rfl, _, _, _, _, rfl, rfl, SqL.of hp2, at4.2.1, _, rfl, _, _, _, _, rfl, rfl, SqL.of hp2, at4.2.2.1, _, rfl, _, _, _, _, rfl, rfl, SqL.of hp2, at4.2.2.2, ?_⟩
          refine ⟨_, _, _, rfl, by omega, by omega, fun n => ⟨_, _, rfl, rfl, ?_⟩⟩
          exact .inr ⟨rfl, _, _, rfl, rfl⟩
        · omega
      · rintro σ H' (⟨z, _⟩ | ⟨_, n, v, rfl, rfl⟩)
        · omega
        · refine ⟨_, rfl, _, rfl, _, _, rfl, rfl, m0, ?_⟩
          exact want _ _ _ (Int.emod_nonneg _ (by omega)) (Int.emod_lt_of_pos _ m0) (by omega) (Int.le_refl _)
/-- one of a list, drawn -/
def spOneOf : Sp := fun vs H Q _ => ∃ (a l : Addr) (xs : List V) (p q t i : Int), vs = [.ref a, .ref l] ∧ Purse H a p q t i ∧ 0 ≤ t ∧ t < 100000000 ∧ H l = some (.lst xs) ∧ l ≠ a ∧ 0 < xs.length ∧ xs.length < 100000 ∧
  ∀ (j : Nat) (x : V) (p' t' : Int), xs[j]? = some x → t ≤ t' → t' ≤ t + 1 → Q x (pursed H a p' q t' i)
theorem scOneOf : FnScope ["_law_purse_here", "_law_some"] ["_law_purse_here", "_law_some"] (defScope sOneOf) := ⟨rfl, rfl, rfl, by decide +kernel, rfl, by decide +kernel, by decide +kernel⟩
theorem ok_oneOf {f fD fM : Addr} {fd fdD fdM : FuncData} (F : Fun K "_law_one_of" "_law_one_of" sOneOf f fd) (FD : Fun K "_law_draw" "_law_draw" sDraw fD fdD) (FM : Fun K "_law_mixed" "_law_mixed" sMixed fM fdM)
    (gD : mg "_law_draw" = some (.ref fD)) (gM : mg "_law_mixed" = some (.ref fM)) (gR : mg "range" = none) (gL : mg "len" = none) : FnOk P w K mg base CX0 3 f fd ["_law_purse_here", "_law_some"] spOneOf := by
  have GD : FnOk P w K mg base CX0 2 fD fdD ["_law_purse_here", "_law_many"] spDraw := ok_draw FD FM gM gR
  have bD : Binds K fdD ["_law_purse_here", "_law_many"] [] := FD.binds fun _ _ _ _ _ _ us hl => match us, hl with | [_, _], _ => rfl
  refine F.ok scOneOf (fun vs H Q E h => ?_) (fun cdv A outer s H vs Q E hr h => ?_)
  · obtain ⟨a, l, xs, p, q, t, i, rfl, _⟩ := h
    rfl
  · obtain ⟨a, l, xs, p, q, t, i, rfl, hp, t0, t1, hl, la, n0, n1, want⟩ := h
    refine ⟨_, pss_one (ps_ret (pe_ix ix_list (pv 1) (pe_call GD (hr.mono (by decide)) rfl gD FD.kp bD .nil pass0 (pa_cons (pv 0) (pa_cons (pe_callB call_len_seq (by rfl) gL PySem.boot_len (pa_cons (pv 1) pa_nil)) pa_nil))) (fun _ _ => rfl))), ?_⟩
    refine ⟨_, rfl, _, rfl, _, rfl, l, _, rfl, .inl (SqL.of hl), ?_⟩
    refine ⟨a, _, p, q, t, i, rfl, by omega, by omega, hp, t0, t1, fun p' t' d d0 d1 l0 l1 => ?_⟩
    have hl2 : pursed H a p' q t' i l = some (.lst xs) := (upd_ne la).trans hl
    obtain ⟨x, hx⟩ : ∃ x, xs[d.toNat]? = some x := ⟨xs[d.toNat]'(by omega), by rw [List.getElem?_eq_getElem]⟩
    have ed : d = ((d.toNat : Nat) : Int) := by omega
    refine ⟨_, _, _, x, rfl, rfl, SqL.of hl2, by rw [ed]; exact atI_nat hx, ?_⟩
    exact want _ x p' t' hx l0 l1
/-- a text of at most n small letters -/
def Low (n : Nat) (z : Str) : Prop := z.length ≤ n ∧ ∀ c ∈ z.cps.toList, c < 128
def spWord : Sp := fun vs H Q _ => ∃ (a : Addr) (p q t i : Int), vs = [.ref a] ∧ Purse H a p q t i ∧ 0 ≤ t ∧ t < 90000000 ∧ ∀ (z : Str) (p' t' : Int), Low 8 z → t ≤ t' → t' ≤ t + 9 → Q (.str z) (pursed H a p' q t' i)
abbrev alpha : Str := "abcdefghijklmnopqrstuvwxyz"
theorem alpha_low : ∀ c ∈ alpha.cps.toList, c < 128 := by decide +kernel
theorem alpha_len : alpha.cps.toList.length = 26 := by decide +kernel
theorem low_more {n : Nat} {z : Str} {c : Nat} (h : Low n z) (hc : c < 128) : Low (n + 1) (z ++ (⟨#[c]⟩ : Str)) := by
  constructor
  · have e : (z ++ (⟨#[c]⟩ : Str)).length = z.length + 1 := by rw [Str.length_append]; rfl
    have := h.1
    omega
  · intro x hx
    have e : (z ++ (⟨#[c]⟩ : Str)).cps.toList = z.cps.toList ++ [c] := by
      show (z.cps ++ #[c]).toList = _
      simp
    rw [e] at hx
    rcases List.mem_append.mp hx with q | q
    · exact h.2 x q
    · rw [List.mem_singleton.mp q]
      exact hc
theorem low_nil : Low 0 ("" : Str) := ⟨by decide, by decide +kernel⟩
theorem scWord : FnScope ["_law_purse_here", "_law_found", "_law_turn"] ["_law_purse_here"] (defScope sWord) := ⟨rfl, rfl, rfl, by decide +kernel, rfl, by decide +kernel, by decide +kernel⟩
theorem ok_word {f fD fM : Addr} {fd fdD fdM : FuncData} (F : Fun K "_law_word" "_law_word" sWord f fd) (FD : Fun K "_law_draw" "_law_draw" sDraw fD fdD) (FM : Fun K "_law_mixed" "_law_mixed" sMixed fM fdM)
    (gD : mg "_law_draw" = some (.ref fD)) (gM : mg "_law_mixed" = some (.ref fM)) (gR : mg "range" = none) : FnOk P w K mg base CX0 3 f fd ["_law_purse_here"] spWord := by
  have GD : FnOk P w K mg base CX0 2 fD fdD ["_law_purse_here", "_law_many"] spDraw := ok_draw FD FM gM gR
  have bD : Binds K fdD ["_law_purse_here", "_law_many"] [] := FD.binds fun _ _ _ _ _ _ us hl => match us, hl with | [_, _], _ => rfl
  refine F.ok scWord (fun vs H Q E h => ?_) (fun cdv A outer s H vs Q E hr h => ?_)
  · obtain ⟨a, p, q, t, i, rfl, _⟩ := h
    rfl
  · obtain ⟨a, p, q, t, i, rfl, hp, t0, t1, want⟩ := h
    refine ⟨_, pss_cons (ps_set (i := 1) scWord.nd rfl (Or.inl rfl) pe_str)
      (pss_cons (ps_for PassesOwn.never rfl (pi_range1 rfl gR (pa_cons (pe_op op_add pe_int (pe_call GD (hr.mono (by decide)) rfl gD FD.kp bD .nil pass0 (pa_cons (pv 0) (pa_cons pe_int pa_nil)))) pa_nil)) (pg_name (i := 2) scWord.nd rfl (Or.inl rfl))
        (pss_one (ps_set (i := 1) scWord.nd rfl (Or.inl rfl) (pe_op op_add_str (pv 1) (pe_ix ix_str pe_str (pe_call GD (hr.mono (by decide)) rfl gD FD.kp bD .nil pass0 (pa_cons (pv 0) (pa_cons pe_int pa_nil))) (fun _ _ => rfl))))))
      (pss_one (ps_ret (pv 1)))), ?_⟩
    refine ⟨_, rfl, a, 8, p, q, t, i, rfl, by decide, by decide, hp, t0, by omega, fun p1 t1' d d0 d1 l0 l1 => ?_⟩
    refine ⟨_, _, rfl, rfl, _, rfl, by omega, by omega, ?_⟩
    obtain ⟨n, hn, n8⟩ : ∃ n : Nat, (1 + d).toNat = n ∧ n ≤ 8 := ⟨_, rfl, by omega⟩
    rw [hn]
    refine for_range (lo := 0) (n := n) (fun k σ H' => ∃ (z : Str) (p' t' : Int) (v : Option V), σ = [some (.ref a), some (.str z), v] ∧ H' = pursed H a p' q t' i ∧ t ≤ t' ∧ t' ≤ t + 1 + k ∧ Low k z) ⟨"", p1, t1', none, rfl, rfl, l0, by omega, low_nil⟩ ?_ ?_
    · rintro k σ H' hk ⟨z, p', t', v, rfl, rfl, e0, e1, low⟩
      refine ⟨_, rfl, _, rfl, a, 26, p', q, t', i, rfl, by decide, by decide, upd_same, by omega, by omega, fun p2 t2 d2 d20 d21 m0 m1 => ?_⟩
      obtain ⟨c, hc⟩ : ∃ c, alpha.cps.toList[d2.toNat]? = some c := ⟨alpha.cps.toList[d2.toNat]'(by rw [alpha_len]; omega), by rw [List.getElem?_eq_getElem]⟩
      have ed : d2 = ((d2.toNat : Nat) : Int) := by omega
      refine ⟨alpha, d2, c, rfl, rfl, by decide, by rw [ed]; exact atI_nat hc, ?_⟩
      have c128 : c < 128 := alpha_low c (List.mem_of_getElem? hc)
      have low2 := low_more low c128
      refine ⟨_, _, rfl, rfl, ?_, ?_⟩
      · have z8 := low.1
        have e : ((⟨#[c]⟩ : Str)).length = 1 := rfl
        have s1 : 100 ≤ sizeLine := by rw [sizeLine_eq]; decide
        omega
      · refine ⟨_, p2, t2, _, rfl, ?_, by omega, by omega, low2⟩
        show upd (upd H a _) a _ = upd H a _
        rw [upd_upd]
    · rintro σ H' ⟨z, p', t', v, rfl, rfl, e0, e1, low⟩
      refine ⟨_, rfl, ?_⟩
      exact want z p' t' ⟨by have := low.1; omega, low.2⟩ e0 (by omega)
end
end Eo
end L2
set_option Elab.async false
set_option linter.all false
set_option maxRecDepth 100000
set_option maxHeartbeats 4000000
/-! Eo, part 7: the purses. -/
namespace L2
namespace Eo
open PySem PySem.Spec PyProof.Rows
abbrev sPurse : Stmt := topS 45
abbrev sPurses : Stmt := topS 48
/-- a comprehension without a test takes each item -/
theorem tyes {σ : St} {H : Hp} {A B : Hp → Prop} (h : A H) : tYes σ H (fun b H3 => if b = true then A H3 else B H3) := iteT (B := B H) h
/-- ten to the sixty, to the eight -/
def CPowT (i j : Int) : Prop := i = 10 ^ 60 ∧ j = 8
theorem op_powT {X : Cx} : OpR X (binaryOp .Pow) (rI CPowT fun i j => .int (i ^ j.toNat)) := opI fun i j t u s Q E hc q => by
  obtain ⟨rfl, rfl⟩ := hc
  exact PySem.AutoIntOps.pow_4 (by decide) (by decide) (by decide +kernel) (by decide +kernel) (by decide +kernel) q
theorem ten18 : (10 : Int) ^ (18 : Int).toNat = 1000000000000000000 := by decide +kernel
theorem cut_ints (ns : List Int) (lo hi : Option Int) : ∃ ms : List Int, cutV (ns.map V.int) lo hi = ms.map V.int := by
  refine ⟨(ns.drop (HT.sIx (ns.map V.int).length 0 lo)).take (HT.sIx (ns.map V.int).length (ns.map V.int).length hi - HT.sIx (ns.map V.int).length 0 lo), ?_⟩
  unfold cutV
  rw [List.map_take, List.map_drop]
def spPurse (K : PySem.W.Frag) : Sp := fun vs H Q _ => ∃ (s : Addr) (ns : List Int) (i : Int), vs = [.ref s, .int i] ∧ SqL K H s (ns.map V.int) ∧ ∀ (H' : Hp) (a : Addr) (p q : Int), Same H H' → H a = none → Purse H' a p q 0 i → Q (.ref a) H'
def spPurses (K : PySem.W.Frag) : Sp := fun vs H Q _ => ∃ (s : Addr) (ns : List Int) (few : Int), vs = [.ref s, .int few] ∧ SqL K H s (ns.map V.int) ∧ ns.length ≤ 63 ∧ 0 ≤ few ∧ few ≤ 100 ∧
  ∀ (H' : Hp) (l : Addr) (as : List Addr), Same H H' → H l = none → H' l = some (.lst (as.map V.ref)) → as.length ≤ 100 → (∀ a ∈ as, H a = none ∧ a ≠ l ∧ ∃ p q i, Purse H' a p q 0 i) → Q (.ref l) H'
section
variable {P : Program} {w : World} {K : PySem.W.Frag} {mg : Str → Option Value} {base : Heap}
theorem scPurse : FnScope ["_law_script", "_law_at", "_law_seed"] ["_law_script", "_law_at"] (defScope sPurse) := ⟨rfl, rfl, rfl, by decide +kernel, rfl, by decide +kernel, by decide +kernel⟩
theorem ok_purse {f : Addr} {fd : FuncData} (F : Fun K "_law_purse" "_law_purse" sPurse f fd) (gS : mg "sum" = none) (gM : mg "max" = none) : FnOk P w K mg base CX0 1 f fd ["_law_script", "_law_at"] (spPurse K) := by
  refine F.ok scPurse (fun vs H Q E h => ?_) (fun cdv A outer s H vs Q E hr h => ?_)
  · obtain ⟨s, ns, i, rfl, _⟩ := h
    rfl
  · obtain ⟨sc, ns, i, rfl, hs, want⟩ := h
    refine ⟨_, pss_cons (ps_set (i := 2) scPurse.nd rfl (Or.inl rfl) (pe_callB (cr_sum rfl) (by rfl) gS boot_sum (pa_cons (pe_slice sl_list (pv 0) (po_some (pv 1)) (po_some (pe_op op_add (pv 1) pe_int))) pa_nil)))
      (pss_one (ps_ret (pe_lst (pa_cons (pe_op op_mod (pe_callB (call_max2 rfl) (by rfl) gM boot_max (pa_cons (pe_op op_sub (pv 2) (pe_op op_pow pe_int pe_int)) (pa_cons pe_int pa_nil))) (pe_op op_powT (pe_op op_pow pe_int pe_int) pe_int))
        (pa_cons (pe_op op_mod (pv 2) pe_int) (pa_cons pe_int (pa_cons (pv 1) pa_nil))))))), ?_⟩
    refine ⟨_, rfl, _, rfl, i, rfl, _, rfl, _, _, rfl, rfl, i + 1, rfl, sc, _, rfl, hs, fun c hc => ?_⟩
    obtain ⟨ms, em⟩ := cut_ints ns (some i) (some (i + 1))
    have hcm : upd H c (.lst (cutV (ns.map V.int) (some i) (some (i + 1)))) c = some (.lst (ms.map V.int)) := by
      rw [upd_same, em]
    refine ⟨c, ms, rfl, SqL.of hcm, ?_⟩
    refine ⟨_, rfl, _, _, rfl, rfl, ⟨by decide, by decide, by decide⟩, _, _, rfl, rfl, _, _, rfl, _, _, rfl, rfl, ⟨by decide, by decide, by decide⟩, _, _, rfl, rfl, ⟨by decide +kernel, rfl⟩, _, _, rfl, rfl, (by show (0 : Int) < (10 ^ Int.toNat 60) ^ Int.toNat 8; decide +kernel), ?_⟩
    refine ⟨_, rfl, _, _, rfl, rfl, (by show (0 : Int) < 2147483629; decide), _, rfl, (by show 4 ≤ sizeLine; decide), fun a ha => ?_⟩
    have nac : a ≠ c := fun z => by
      rw [z, upd_same] at ha
      cases ha
    have ha0 : H a = none := (upd_ne nac).symm.trans ha
    refine want _ a _ _ (fun b o e => ?_) ha0 upd_same
    rw [upd_ne (ne_of_none e ha0), upd_ne (ne_of_none e hc)]
    exact e
theorem scPurses : FnScope ["_law_script", "_law_few", "_law_at"] ["_law_script", "_law_few"] (defScope sPurses) := ⟨rfl, rfl, rfl, by decide +kernel, rfl, by decide +kernel, by decide +kernel⟩
theorem ok_purses {f fP : Addr} {fd fdP : FuncData} (F : Fun K "_law_purses" "_law_purses" sPurses f fd) (FP : Fun K "_law_purse" "_law_purse" sPurse fP fdP) (gP : mg "_law_purse" = some (.ref fP)) (gS : mg "sum" = none) (gX : mg "max" = none) (gN : mg "min" = none) (gR : mg "range" = none) (gL : mg "len" = none) :
    FnOk P w K mg base CX0 2 f fd ["_law_script", "_law_few"] (spPurses K) := by
  have GP : FnOk P w K mg base CX0 1 fP fdP ["_law_script", "_law_at"] (spPurse K) := ok_purse FP gS gX
  have bP : Binds K fdP ["_law_script", "_law_at"] [] := FP.binds fun _ _ _ _ _ _ us hl => match us, hl with | [_, _], _ => rfl
  refine F.ok scPurses (fun vs H Q E h => ?_) (fun cdv A outer s H vs Q E hr h => ?_)
  · obtain ⟨s, ns, few, rfl, _⟩ := h
    rfl
  · obtain ⟨sc, ns, few, rfl, hs, len63, few0, few1, want⟩ := h
    refine ⟨_, pss_one (ps_ret (pe_lc (own := [("_law_at", 2)]) (g := gName 2) (tt := tYes) rfl scPurses.nd
      (pi_range1 rfl gR (pa_cons (pe_callB (call_max2 rfl) (by rfl) gX boot_max (pa_cons pe_int (pa_cons (pe_callB (call_min2 rfl) (by rfl) gN boot_min (pa_cons (pv 1) (pa_cons (pe_callB call_len_seq (by rfl) gL PySem.boot_len (pa_cons (pv 0) pa_nil)) pa_nil))) pa_nil))) pa_nil))
      (blkOk_by (N := ["_law_script", "_law_few", "_law_at"]) (sc := defScope sPurses) (by decide +kernel)) (fun _ _ _ _ _ => pg_name (i := 2) scPurses.nd rfl (Or.inl rfl)) (fun _ _ _ _ _ => pts_nil)
      (fun _ _ _ _ _ => pe_call GP (hr.mono (by decide)) rfl gP FP.kp bP .nil pass0 (pa_cons (pv 0) (pa_cons (pv 2) pa_nil))))), ?_⟩
    refine ⟨_, rfl, _, rfl, sc, _, rfl, .inl hs, _, _, rfl, _, _, rfl, _, rfl, ?_, ?_, ?_⟩
    · rw [List.length_map]
      split <;> split <;> omega
    · rw [List.length_map]
      split <;> split <;> omega
    intro D hD
    obtain ⟨n, hn, n100⟩ : ∃ n : Nat, (if (if ((ns.map V.int).length : Int) < few then ((ns.map V.int).length : Int) else few) > 1 then (if ((ns.map V.int).length : Int) < few then ((ns.map V.int).length : Int) else few) else 1).toNat = n ∧ n ≤ 100 := ⟨_, rfl, by
      rw [List.length_map]
      split <;> split <;> omega⟩
    rw [hn]
    refine lc_range (lo := 0) (n := n) (fun k H' => Same H H' ∧ ∃ as : List Addr, as.length = k ∧ H' D = some (.lst (as.map V.ref)) ∧ ∀ a ∈ as, H a = none ∧ a ≠ D ∧ ∃ p q i, Purse H' a p q 0 i)
      ⟨fun b o e => by rw [upd_ne (ne_of_none e hD)]; exact e, [], rfl, upd_same, fun a z => (List.not_mem_nil z).elim⟩ ?_ ?_
    · rintro k H' hk ⟨sm, as, la, hDl, hall⟩
      refine ⟨rfl, tyes ?_⟩
      refine ⟨_, rfl, _, rfl, sc, ns, _, rfl, sm.seq hs, fun H2 a p q s2 na pu => ?_⟩
      have hD2 := s2 _ _ hDl
      have naD : a ≠ D := fun z => by
        rw [z, hDl] at na
        cases na
      refine ⟨_, hD2, by rw [List.length_map, la, sizeLine_eq]; omega, ?_⟩
      refine ⟨fun b o e => ?_, as ++ [a], by rw [List.length_append, la]; rfl, ?_, fun x hx => ?_⟩
      · rw [upd_ne (ne_of_none e hD)]
        exact s2 _ _ (sm _ _ e)
      · rw [upd_same, List.map_append]
        rfl
      · rcases List.mem_append.mp hx with z | z
        · obtain ⟨e1, e2, p1, q1, i1, pu1⟩ := hall x z
          refine ⟨e1, e2, p1, q1, i1, ?_⟩
          unfold Purse
          rw [upd_ne e2]
          exact s2 _ _ pu1
        · rw [List.mem_singleton.mp z]
          refine ⟨sm.free na, naD, p, q, 0 + (k : Int), ?_⟩
          unfold Purse
          rw [upd_ne naD]
          exact pu
    · rintro H' ⟨sm, as, la, hDl, hall⟩
      exact want H' D as sm hD hDl (by omega) hall
end
end Eo
end L2
set_option Elab.async false
set_option linter.all false
set_option maxRecDepth 100000
set_option maxHeartbeats 16000000
/-! Eo, part 8: lists of errors, one of each class. -/
namespace L2
namespace Eo
open PySem PySem.Spec PyProof.Rows
abbrev sFirst : Stmt := topS 51
abbrev sCalled : Stmt := topS 52
abbrev sBare : Stmt := topS 53
/-- a class of errors with a field: it stands where it should, its __init__ keeps its promise, its calls bind -/
structure Kind (P : Program) (w : World) (K : PySem.W.Frag) (mg : Str → Option Value) (base : Heap) (x : Str) : Prop where
  gC : mg x = some (.ref (He.ga K x))
  make : ∃ (fI : Addr) (fd : FuncData) (ds : List Value) (g : List Value → List Value → List Value) (gV : List V → List V → List V), ErC K (He.ga K x) fI ∧ FnOk P w K mg base CX0 1 fI fd ["self", "value"] (spInit (He.ga K x)) ∧
    Binds K fd ["self", "value"] [] ∧ Vals [V.non] ds ∧ Binds K fd ["self", "value"] ds ∧ KBn K fd ["self", "value"] 1 ["value"] g gV ∧ ∀ x y, gV [x] [y] = [x, y]
/-- one error a class, all with this field -/
def ErrsAt (H : Hp) (es : List Addr) (Cs : List Addr) (v : V) : Prop := Paired (fun e C => ∃ d, H e = some (exo e C (some d)) ∧ H d = some (exd d [(("value" : Str), v)])) es Cs
theorem ErrsAt.mono {H H' : Hp} {es Cs : List Addr} {v : V} (k : Same H H') (h : ErrsAt H es Cs v) : ErrsAt H' es Cs v := L2.Paired.mapP h fun _ _ ⟨d, a, b⟩ => ⟨d, k _ _ a, k _ _ b⟩
theorem paired_app {α β : Type} {F : α → β → Prop} : ∀ {xs : List α} {ys : List β} {xs' : List α} {ys' : List β}, Paired F xs ys → Paired F xs' ys' → Paired F (xs ++ xs') (ys ++ ys')
  | _, _, _, _, .nil, h => h
  | _, _, _, _, .cons a b, h => .cons a (paired_app b h)
theorem same_err {H : Hp} {a d C : Addr} {v : V} (na : H a = none) (nd : H d = none) : Same H (errH H a d C v) := fun b o e => by
  unfold errH
  rw [upd_ne (ne_of_none e na), upd_ne (ne_of_none e nd)]
  exact e
def callee : Expr → Str
  | .Call (.Name x _) _ _ _ => x
  | _ => ""
def chkP (sc : Scope) : Expr → Bool
  | .Call (.Name x _) [.Name y _] [] _ => (y == ("_law_thing" : Str)) && (!(x == ("__debug__" : Str)) && (kinds.contains x && (sc.names.lookup x == some .globalImplicit)))
  | _ => false
def chkK (sc : Scope) : Expr → Bool
  | .Call (.Name x _) [] [⟨some z, .Name y _, _⟩] _ => (y == ("_law_thing" : Str)) && ((z == ("value" : Str)) && (!(x == ("__debug__" : Str)) && (kinds.contains x && (sc.names.lookup x == some .globalImplicit))))
  | _ => false
def chk0 (sc : Scope) : Expr → Bool
  | .Call (.Name x _) [] [] _ => !(x == ("__debug__" : Str)) && (kinds.contains x && (sc.names.lookup x == some .globalImplicit))
  | _ => false
/-- the items make errors of these classes, all with the field told by R -/
def tErrs (K : PySem.W.Frag) (R : V → St → Prop) (xs : List Str) : TA := fun σ H Q => ∃ v, R v σ ∧ ∀ H' es, Same H H' → ErrsAt H' es (xs.map (He.ga K)) v → Q (es.map V.ref) H'
theorem pa_imp {X : Cx} {es : List Expr} {t t' : TA} (h : PA X es t) (k : ∀ σ H Q, t' σ H Q → t σ H Q) : PA X es t' := ⟨fun pos pins s σ H Q I z => h.run pos pins s σ H Q I (k _ _ _ z)⟩
section
variable {X : Cx}
theorem gl_of {x : Str} (hk : X.env.scope.names.lookup x = some .globalImplicit) : Gl X x := hk
/-- one more error ahead of a list of them -/
theorem errs_cons {K : PySem.W.Frag} {R : V → St → Prop} {x : Str} {xs : List Str} {te : TE} (hte : ∀ (σ : St) (H : Hp) (Q : VK), (∃ v, R v σ ∧ ∀ a d, H a = none → H d = none → d ≠ a → Q (.ref a) (errH H a d (He.ga K x) v)) → te σ H Q) (huniq : ∀ v v' σ, R v σ → R v' σ → v = v')
    (σ : St) (H : Hp) (Q : List V → Hp → Prop) (h : tErrs K R (x :: xs) σ H Q) : tCons te (tErrs K R xs) σ H Q := by
  obtain ⟨v, r, k⟩ := h
  refine hte σ H _ ⟨v, r, fun a d na nd ne => ⟨v, r, fun H' es sm er => ?_⟩⟩
  refine k H' (a :: es) ((same_err na nd).trans sm) (.cons ⟨d, sm _ _ upd_same, sm _ _ ?_⟩ er)
  unfold errH
  rw [upd_ne ne, upd_same]
theorem errs_nil {K : PySem.W.Frag} {R : V → St → Prop} (σ : St) (H : Hp) (Q : List V → Hp → Prop) (h : tErrs K R [] σ H Q) : tNil σ H Q := by
  obtain ⟨v, r, k⟩ := h
  exact k H [] (Same.refl H) .nil
variable {k : Nat} (KF : ∀ x ∈ kinds, Kind X.prog X.w X.K X.mg X.base x) (hr : Room 2 X.A)
include KF hr
theorem pa_errsP (hi : X.N[0]? = some ("_law_thing" : Str)) (hv : X.env.scope.names.lookup ("_law_thing" : Str) = some NameKind.local) : ∀ es : List Expr, (es.all (chkP X.env.scope)) = true → PA X es (tErrs X.K (fun v σ => σ[0]? = some (some v)) (es.map callee))
  | [], _ => pa_imp pa_nil fun σ H Q h => errs_nil σ H Q h
  | e :: es, h => by
    rw [List.all_cons, Bool.and_eq_true] at h
    obtain ⟨h1, h2⟩ := h
    unfold chkP at h1
    split at h1
    · rename_i x p y p2 p3
      simp only [Bool.and_eq_true, beq_iff_eq, Bool.not_eq_true', List.contains_iff_mem] at h1
      obtain ⟨rfl, hd, hm, hg⟩ := h1
      obtain ⟨gC, fI, fd, ds, g, gV, T, F1, b2, vd, b1, bk, hgV⟩ := KF x hm
      refine pa_imp (pa_cons (pe_errP T F1 hr b2 rfl hg gC (pe_var hi (Or.inl hv) (by decide) (by decide)) hd) (pa_errsP hi hv es h2)) fun σ H Q z => ?_
      refine errs_cons (fun σ H Q q => ?_) (fun v v' σ a b => by rw [a] at b; cases b; rfl) σ H Q z
      obtain ⟨v, r, q⟩ := q
      exact ⟨v, r, q⟩
    · cases h1
theorem pa_errsK (hi : X.N[0]? = some ("_law_thing" : Str)) (hv : X.env.scope.names.lookup ("_law_thing" : Str) = some NameKind.local) : ∀ es : List Expr, (es.all (chkK X.env.scope)) = true → PA X es (tErrs X.K (fun v σ => σ[0]? = some (some v)) (es.map callee))
  | [], _ => pa_imp pa_nil fun σ H Q h => errs_nil σ H Q h
  | e :: es, h => by
    rw [List.all_cons, Bool.and_eq_true] at h
    obtain ⟨h1, h2⟩ := h
    unfold chkK at h1
    split at h1
    · rename_i x p z y p2 kp p3
      simp only [Bool.and_eq_true, beq_iff_eq, Bool.not_eq_true', List.contains_iff_mem] at h1
      obtain ⟨rfl, rfl, hd, hm, hg⟩ := h1
      obtain ⟨gC, fI, fd, ds, g, gV, T, F1, b2, vd, b1, bk, hgV⟩ := KF x hm
      refine pa_imp (pa_cons (pe_errK T F1 hr bk hgV hg gC (pe_var hi (Or.inl hv) (by decide) (by decide)) hd) (pa_errsK hi hv es h2)) fun σ H Q z => ?_
      refine errs_cons (fun σ H Q q => ?_) (fun v v' σ a b => by rw [a] at b; cases b; rfl) σ H Q z
      obtain ⟨v, r, q⟩ := q
      exact ⟨v, r, q⟩
    · cases h1
theorem pa_errs0 : ∀ es : List Expr, (es.all (chk0 X.env.scope)) = true → PA X es (tErrs X.K (fun v _ => v = .non) (es.map callee))
  | [], _ => pa_imp pa_nil fun σ H Q h => errs_nil σ H Q h
  | e :: es, h => by
    rw [List.all_cons, Bool.and_eq_true] at h
    obtain ⟨h1, h2⟩ := h
    unfold chk0 at h1
    split at h1
    · rename_i x p p3
      simp only [Bool.and_eq_true, beq_iff_eq, Bool.not_eq_true', List.contains_iff_mem] at h1
      obtain ⟨hd, hm, hg⟩ := h1
      obtain ⟨gC, fI, fd, ds, g, gV, T, F1, b2, vd, b1, bk, hgV⟩ := KF x hm
      refine pa_imp (pa_cons (pe_err0 T F1 hr b1 vd rfl hg gC hd) (pa_errs0 es h2)) fun σ H Q z => ?_
      refine errs_cons (fun σ H Q q => ?_) (fun v v' σ a b => by rw [a, b]) σ H Q z
      obtain ⟨v, rfl, q⟩ := q
      exact q
    · cases h1
end
/-- what is made so far: the list at l -/
structure Got (K : PySem.W.Frag) (H0 H : Hp) (l : Addr) (es : List Addr) (xs : List Str) (v : V) : Prop where
  same : Same H0 H
  new : H0 l = none
  lst : H l = some (.lst (es.map V.ref))
  errs : ErrsAt H es (xs.map (He.ga K)) v
theorem Got.first {K : PySem.W.Frag} {H0 H : Hp} {l : Addr} {es : List Addr} {xs : List Str} {v : V} (sm : Same H0 H) (er : ErrsAt H es (xs.map (He.ga K)) v) (hl : H l = none) : Got K H0 (upd H l (.lst (es.map V.ref))) l es xs v :=
  have k : Same H (upd H l (.lst (es.map V.ref))) := fun b o e => by rw [upd_ne (ne_of_none e hl)]; exact e
  ⟨sm.trans k, sm.free hl, upd_same, er.mono k⟩
theorem Got.more {K : PySem.W.Frag} {H0 H H1 : Hp} {l m l2 : Addr} {es es1 : List Addr} {xs xs1 : List Str} {v : V} (G : Got K H0 H l es xs v) (sm : Same H H1) (er : ErrsAt H1 es1 (xs1.map (He.ga K)) v) (hm : H1 m = none) (h2 : upd H1 m (.lst (es1.map V.ref)) l2 = none) :
    Got K H0 (upd (upd H1 m (.lst (es1.map V.ref))) l2 (.lst (es.map V.ref ++ es1.map V.ref))) l2 (es ++ es1) (xs ++ xs1) v := by
  have k1 : Same H1 (upd H1 m (.lst (es1.map V.ref))) := fun b o e => by rw [upd_ne (ne_of_none e hm)]; exact e
  have k2 : Same (upd H1 m (.lst (es1.map V.ref))) (upd (upd H1 m (.lst (es1.map V.ref))) l2 (.lst (es.map V.ref ++ es1.map V.ref))) := fun b o e => by rw [upd_ne (ne_of_none e h2)]; exact e
  have k := k1.trans k2
  refine ⟨G.same.trans (sm.trans k), (G.same.trans (sm.trans k1)).free h2, by rw [upd_same, List.map_append], ?_⟩
  unfold ErrsAt
  rw [List.map_append]
  exact paired_app ((G.errs.mono sm).mono k) (er.mono k)
/-- two lists of few items together -/
theorem few {xs ys : List V} {n m : Nat} (h1 : xs.length = n) (h2 : ys.length = m) (h : n + m ≤ 1000) : xs.length + ys.length ≤ sizeLine := by
  have e : 1000 ≤ sizeLine := by rw [sizeLine_eq]; decide
  omega
theorem few1 {xs : List V} {n : Nat} (h1 : xs.length = n) (h : n ≤ 1000) : xs.length ≤ sizeLine := by
  have e : 1000 ≤ sizeLine := by rw [sizeLine_eq]; decide
  omega
theorem paired_len {α β : Type} {F : α → β → Prop} : ∀ {xs : List α} {ys : List β}, Paired F xs ys → xs.length = ys.length
  | _, _, .nil => rfl
  | _, _, .cons _ b => congrArg Nat.succ (paired_len b)
theorem errs_len {K : PySem.W.Frag} {H : Hp} {es : List Addr} {xs : List Str} {v : V} (h : ErrsAt H es (xs.map (He.ga K)) v) : (es.map V.ref).length = xs.length := by
  rw [List.length_map]
  exact (paired_len h).trans (List.length_map _)
def spErrs (K : PySem.W.Frag) : Sp := fun vs H Q _ => ∃ v, vs = [v] ∧ ∀ (H' : Hp) (l : Addr) (es : List Addr), Got K H H' l es kinds v → Q (.ref l) H'
def spBare (K : PySem.W.Frag) : Sp := fun vs H Q _ => vs = [] ∧ ∀ (H' : Hp) (l : Addr) (es : List Addr), Got K H H' l es kinds .non → Q (.ref l) H'
section
variable {P : Program} {w : World} {K : PySem.W.Frag} {mg : Str → Option Value} {base : Heap}
theorem scFirst : FnScope ["_law_thing", "_law_found"] ["_law_thing"] (defScope sFirst) := ⟨rfl, rfl, rfl, by decide +kernel, rfl, by decide +kernel, by decide +kernel⟩
theorem ok_first {f : Addr} {fd : FuncData} (F : Fun K "_law_first" "_law_first" sFirst f fd) (KF : ∀ x ∈ kinds, Kind P w K mg base x) : FnOk P w K mg base CX0 3 f fd ["_law_thing"] (spErrs K) := by
  refine F.ok scFirst (fun vs H Q E h => ?_) (fun cdv A outer s H vs Q E hr h => ?_)
  · obtain ⟨v, rfl, _⟩ := h
    rfl
  · obtain ⟨v, rfl, want⟩ := h
    have KF0 : ∀ x ∈ kinds, Kind (cxOf CX0 P w K mg base ["_law_thing", "_law_found"] "_law_first" (defScope sFirst) f cdv A outer s H E).nox.prog (cxOf CX0 P w K mg base ["_law_thing", "_law_found"] "_law_first" (defScope sFirst) f cdv A outer s H E).nox.w (cxOf CX0 P w K mg base ["_law_thing", "_law_found"] "_law_first" (defScope sFirst) f cdv A outer s H E).nox.K (cxOf CX0 P w K mg base ["_law_thing", "_law_found"] "_law_first" (defScope sFirst) f cdv A outer s H E).nox.mg (cxOf CX0 P w K mg base ["_law_thing", "_law_found"] "_law_first" (defScope sFirst) f cdv A outer s H E).nox.base x := KF
    refine ⟨_, pss_cons (ps_set (i := 1) scFirst.nd rfl (Or.inl rfl) (pe_lst (pa_errsP KF0 (hr.mono (by decide)) rfl rfl _ (by rfl))))
      (pss_cons (ps_set (i := 1) scFirst.nd rfl (Or.inl rfl) (pe_op op_cat (pv 1) (pe_lst (pa_errsP KF0 (hr.mono (by decide)) rfl rfl _ (by rfl)))))
      (pss_cons (ps_set (i := 1) scFirst.nd rfl (Or.inl rfl) (pe_op op_cat (pv 1) (pe_lst (pa_errsP KF0 (hr.mono (by decide)) rfl rfl _ (by rfl)))))
      (pss_cons (ps_set (i := 1) scFirst.nd rfl (Or.inl rfl) (pe_op op_cat (pv 1) (pe_lst (pa_errsP KF0 (hr.mono (by decide)) rfl rfl _ (by rfl)))))
      (pss_cons (ps_set (i := 1) scFirst.nd rfl (Or.inl rfl) (pe_op op_cat (pv 1) (pe_lst (pa_errsP KF0 (hr.mono (by decide)) rfl rfl _ (by rfl)))))
      (pss_cons (ps_set (i := 1) scFirst.nd rfl (Or.inl rfl) (pe_op op_cat (pv 1) (pe_lst (pa_errsP KF0 (hr.mono (by decide)) rfl rfl _ (by rfl)))))
      (pss_cons (ps_set (i := 1) scFirst.nd rfl (Or.inl rfl) (pe_op op_cat (pv 1) (pe_lst (pa_errsP KF0 (hr.mono (by decide)) rfl rfl _ (by rfl)))))
      (pss_cons (ps_set (i := 1) scFirst.nd rfl (Or.inl rfl) (pe_op op_cat (pv 1) (pe_lst (pa_errsP KF0 (hr.mono (by decide)) rfl rfl _ (by rfl)))))
      (pss_cons (ps_set (i := 1) scFirst.nd rfl (Or.inl rfl) (pe_op op_cat (pv 1) (pe_lst (pa_errsP KF0 (hr.mono (by decide)) rfl rfl _ (by rfl)))))
      (pss_cons (ps_set (i := 1) scFirst.nd rfl (Or.inl rfl) (pe_op op_cat (pv 1) (pe_lst (pa_errsP KF0 (hr.mono (by decide)) rfl rfl _ (by rfl)))))
      (pss_one (ps_ret (pv 1)))))))))))), ?_⟩
    refine ⟨v, rfl, fun H1 es1 sm1 er1 => ⟨few1 (errs_len er1) (by decide), fun l1 hl1 => ?_⟩⟩
    have G1 := Got.first sm1 er1 hl1
    refine ⟨_, rfl, v, rfl, fun H2 es2 sm2 er2 => ⟨few1 (errs_len er2) (by decide), fun m2 hm2 => ⟨_, _, _, _, rfl, rfl, (upd_ne (ne_of_none (sm2 _ _ G1.lst) hm2)).trans (sm2 _ _ G1.lst), upd_same, few (errs_len G1.errs) (errs_len er2) (by decide), fun l2 hl2 => ?_⟩⟩⟩
    have G2 := G1.more sm2 er2 hm2 hl2
    refine ⟨_, rfl, v, rfl, fun H3 es3 sm3 er3 => ⟨few1 (errs_len er3) (by decide), fun m3 hm3 => ⟨_, _, _, _, rfl, rfl, (upd_ne (ne_of_none (sm3 _ _ G2.lst) hm3)).trans (sm3 _ _ G2.lst), upd_same, few (errs_len G2.errs) (errs_len er3) (by decide), fun l3 hl3 => ?_⟩⟩⟩
    have G3 := G2.more sm3 er3 hm3 hl3
    refine ⟨_, rfl, v, rfl, fun H4 es4 sm4 er4 => ⟨few1 (errs_len er4) (by decide), fun m4 hm4 => ⟨_, _, _, _, rfl, rfl, (upd_ne (ne_of_none (sm4 _ _ G3.lst) hm4)).trans (sm4 _ _ G3.lst), upd_same, few (errs_len G3.errs) (errs_len er4) (by decide), fun l4 hl4 => ?_⟩⟩⟩
    have G4 := G3.more sm4 er4 hm4 hl4
    refine ⟨_, rfl, v, rfl, fun H5 es5 sm5 er5 => ⟨few1 (errs_len er5) (by decide), fun m5 hm5 => ⟨_, _, _, _, rfl, rfl, (upd_ne (ne_of_none (sm5 _ _ G4.lst) hm5)).trans (sm5 _ _ G4.lst), upd_same, few (errs_len G4.errs) (errs_len er5) (by decide), fun l5 hl5 => ?_⟩⟩⟩
    have G5 := G4.more sm5 er5 hm5 hl5
    refine ⟨_, rfl, v, rfl, fun H6 es6 sm6 er6 => ⟨few1 (errs_len er6) (by decide), fun m6 hm6 => ⟨_, _, _, _, rfl, rfl, (upd_ne (ne_of_none (sm6 _ _ G5.lst) hm6)).trans (sm6 _ _ G5.lst), upd_same, few (errs_len G5.errs) (errs_len er6) (by decide), fun l6 hl6 => ?_⟩⟩⟩
    have G6 := G5.more sm6 er6 hm6 hl6
    refine ⟨_, rfl, v, rfl, fun H7 es7 sm7 er7 => ⟨few1 (errs_len er7) (by decide), fun m7 hm7 => ⟨_, _, _, _, rfl, rfl, (upd_ne (ne_of_none (sm7 _ _ G6.lst) hm7)).trans (sm7 _ _ G6.lst), upd_same, few (errs_len G6.errs) (errs_len er7) (by decide), fun l7 hl7 => ?_⟩⟩⟩
    have G7 := G6.more sm7 er7 hm7 hl7
    refine ⟨_, rfl, v, rfl, fun H8 es8 sm8 er8 => ⟨few1 (errs_len er8) (by decide), fun m8 hm8 => ⟨_, _, _, _, rfl, rfl, (upd_ne (ne_of_none (sm8 _ _ G7.lst) hm8)).trans (sm8 _ _ G7.lst), upd_same, few (errs_len G7.errs) (errs_len er8) (by decide), fun l8 hl8 => ?_⟩⟩⟩
    have G8 := G7.more sm8 er8 hm8 hl8
    refine ⟨_, rfl, v, rfl, fun H9 es9 sm9 er9 => ⟨few1 (errs_len er9) (by decide), fun m9 hm9 => ⟨_, _, _, _, rfl, rfl, (upd_ne (ne_of_none (sm9 _ _ G8.lst) hm9)).trans (sm9 _ _ G8.lst), upd_same, few (errs_len G8.errs) (errs_len er9) (by decide), fun l9 hl9 => ?_⟩⟩⟩
    have G9 := G8.more sm9 er9 hm9 hl9
    refine ⟨_, rfl, v, rfl, fun H10 es10 sm10 er10 => ⟨few1 (errs_len er10) (by decide), fun m10 hm10 => ⟨_, _, _, _, rfl, rfl, (upd_ne (ne_of_none (sm10 _ _ G9.lst) hm10)).trans (sm10 _ _ G9.lst), upd_same, few (errs_len G9.errs) (errs_len er10) (by decide), fun l10 hl10 => ?_⟩⟩⟩
    have G10 := G9.more sm10 er10 hm10 hl10
    exact ⟨_, rfl, want _ _ _ G10⟩
end
end Eo
end L2
set_option Elab.async false
set_option linter.all false
set_option maxRecDepth 100000
set_option maxHeartbeats 16000000
namespace L2
namespace Eo
open PySem PySem.Spec PyProof.Rows
section
variable {P : Program} {w : World} {K : PySem.W.Frag} {mg : Str → Option Value} {base : Heap}
theorem scCalled : FnScope ["_law_thing", "_law_found"] ["_law_thing"] (defScope sCalled) := ⟨rfl, rfl, rfl, by decide +kernel, rfl, by decide +kernel, by decide +kernel⟩
theorem ok_called {f : Addr} {fd : FuncData} (F : Fun K "_law_called" "_law_called" sCalled f fd) (KF : ∀ x ∈ kinds, Kind P w K mg base x) : FnOk P w K mg base CX0 3 f fd ["_law_thing"] (spErrs K) := by
  refine F.ok scCalled (fun vs H Q E h => ?_) (fun cdv A outer s H vs Q E hr h => ?_)
  · obtain ⟨v, rfl, _⟩ := h
    rfl
  · obtain ⟨v, rfl, want⟩ := h
    have KF0 : ∀ x ∈ kinds, Kind (cxOf CX0 P w K mg base ["_law_thing", "_law_found"] "_law_called" (defScope sCalled) f cdv A outer s H E).nox.prog (cxOf CX0 P w K mg base ["_law_thing", "_law_found"] "_law_called" (defScope sCalled) f cdv A outer s H E).nox.w (cxOf CX0 P w K mg base ["_law_thing", "_law_found"] "_law_called" (defScope sCalled) f cdv A outer s H E).nox.K (cxOf CX0 P w K mg base ["_law_thing", "_law_found"] "_law_called" (defScope sCalled) f cdv A outer s H E).nox.mg (cxOf CX0 P w K mg base ["_law_thing", "_law_found"] "_law_called" (defScope sCalled) f cdv A outer s H E).nox.base x := KF
    refine ⟨_, pss_cons (ps_set (i := 1) scCalled.nd rfl (Or.inl rfl) (pe_lst (pa_errsK KF0 (hr.mono (by decide)) rfl rfl _ (by rfl))))
      (pss_cons (ps_set (i := 1) scCalled.nd rfl (Or.inl rfl) (pe_op op_cat (pv 1) (pe_lst (pa_errsK KF0 (hr.mono (by decide)) rfl rfl _ (by rfl)))))
      (pss_cons (ps_set (i := 1) scCalled.nd rfl (Or.inl rfl) (pe_op op_cat (pv 1) (pe_lst (pa_errsK KF0 (hr.mono (by decide)) rfl rfl _ (by rfl)))))
      (pss_cons (ps_set (i := 1) scCalled.nd rfl (Or.inl rfl) (pe_op op_cat (pv 1) (pe_lst (pa_errsK KF0 (hr.mono (by decide)) rfl rfl _ (by rfl)))))
      (pss_cons (ps_set (i := 1) scCalled.nd rfl (Or.inl rfl) (pe_op op_cat (pv 1) (pe_lst (pa_errsK KF0 (hr.mono (by decide)) rfl rfl _ (by rfl)))))
      (pss_cons (ps_set (i := 1) scCalled.nd rfl (Or.inl rfl) (pe_op op_cat (pv 1) (pe_lst (pa_errsK KF0 (hr.mono (by decide)) rfl rfl _ (by rfl)))))
      (pss_cons (ps_set (i := 1) scCalled.nd rfl (Or.inl rfl) (pe_op op_cat (pv 1) (pe_lst (pa_errsK KF0 (hr.mono (by decide)) rfl rfl _ (by rfl)))))
      (pss_cons (ps_set (i := 1) scCalled.nd rfl (Or.inl rfl) (pe_op op_cat (pv 1) (pe_lst (pa_errsK KF0 (hr.mono (by decide)) rfl rfl _ (by rfl)))))
      (pss_cons (ps_set (i := 1) scCalled.nd rfl (Or.inl rfl) (pe_op op_cat (pv 1) (pe_lst (pa_errsK KF0 (hr.mono (by decide)) rfl rfl _ (by rfl)))))
      (pss_cons (ps_set (i := 1) scCalled.nd rfl (Or.inl rfl) (pe_op op_cat (pv 1) (pe_lst (pa_errsK KF0 (hr.mono (by decide)) rfl rfl _ (by rfl)))))
      (pss_cons (ps_set (i := 1) scCalled.nd rfl (Or.inl rfl) (pe_op op_cat (pv 1) (pe_lst (pa_errsK KF0 (hr.mono (by decide)) rfl rfl _ (by rfl)))))
      (pss_cons (ps_set (i := 1) scCalled.nd rfl (Or.inl rfl) (pe_op op_cat (pv 1) (pe_lst (pa_errsK KF0 (hr.mono (by decide)) rfl rfl _ (by rfl)))))
      (pss_cons (ps_set (i := 1) scCalled.nd rfl (Or.inl rfl) (pe_op op_cat (pv 1) (pe_lst (pa_errsK KF0 (hr.mono (by decide)) rfl rfl _ (by rfl)))))
      (pss_cons (ps_set (i := 1) scCalled.nd rfl (Or.inl rfl) (pe_op op_cat (pv 1) (pe_lst (pa_errsK KF0 (hr.mono (by decide)) rfl rfl _ (by rfl)))))
      (pss_one (ps_ret (pv 1)))))))))))))))), ?_⟩
    refine ⟨v, rfl, fun H1 es1 sm1 er1 => ⟨few1 (errs_len er1) (by decide), fun l1 hl1 => ?_⟩⟩
    have G1 := Got.first sm1 er1 hl1
    refine ⟨_, rfl, v, rfl, fun H2 es2 sm2 er2 => ⟨few1 (errs_len er2) (by decide), fun m2 hm2 => ⟨_, _, _, _, rfl, rfl, (upd_ne (ne_of_none (sm2 _ _ G1.lst) hm2)).trans (sm2 _ _ G1.lst), upd_same, few (errs_len G1.errs) (errs_len er2) (by decide), fun l2 hl2 => ?_⟩⟩⟩
    have G2 := G1.more sm2 er2 hm2 hl2
    refine ⟨_, rfl, v, rfl, fun H3 es3 sm3 er3 => ⟨few1 (errs_len er3) (by decide), fun m3 hm3 => ⟨_, _, _, _, rfl, rfl, (upd_ne (ne_of_none (sm3 _ _ G2.lst) hm3)).trans (sm3 _ _ G2.lst), upd_same, few (errs_len G2.errs) (errs_len er3) (by decide), fun l3 hl3 => ?_⟩⟩⟩
    have G3 := G2.more sm3 er3 hm3 hl3
    refine ⟨_, rfl, v, rfl, fun H4 es4 sm4 er4 => ⟨few1 (errs_len er4) (by decide), fun m4 hm4 => ⟨_, _, _, _, rfl, rfl, (upd_ne (ne_of_none (sm4 _ _ G3.lst) hm4)).trans (sm4 _ _ G3.lst), upd_same, few (errs_len G3.errs) (errs_len er4) (by decide), fun l4 hl4 => ?_⟩⟩⟩
    have G4 := G3.more sm4 er4 hm4 hl4
    refine ⟨_, rfl, v, rfl, fun H5 es5 sm5 er5 => ⟨few1 (errs_len er5) (by decide), fun m5 hm5 => ⟨_, _, _, _, rfl, rfl, (upd_ne (ne_of_none (sm5 _ _ G4.lst) hm5)).trans (sm5 _ _ G4.lst), upd_same, few (errs_len G4.errs) (errs_len er5) (by decide), fun l5 hl5 => ?_⟩⟩⟩
    have G5 := G4.more sm5 er5 hm5 hl5
    refine ⟨_, rfl, v, rfl, fun H6 es6 sm6 er6 => ⟨few1 (errs_len er6) (by decide), fun m6 hm6 => ⟨_, _, _, _, rfl, rfl, (upd_ne (ne_of_none (sm6 _ _ G5.lst) hm6)).trans (sm6 _ _ G5.lst), upd_same, few (errs_len G5.errs) (errs_len er6) (by decide), fun l6 hl6 => ?_⟩⟩⟩
    have G6 := G5.more sm6 er6 hm6 hl6
    refine ⟨_, rfl, v, rfl, fun H7 es7 sm7 er7 => ⟨few1 (errs_len er7) (by decide), fun m7 hm7 => ⟨_, _, _, _, rfl, rfl, (upd_ne (ne_of_none (sm7 _ _ G6.lst) hm7)).trans (sm7 _ _ G6.lst), upd_same, few (errs_len G6.errs) (errs_len er7) (by decide), fun l7 hl7 => ?_⟩⟩⟩
    have G7 := G6.more sm7 er7 hm7 hl7
    refine ⟨_, rfl, v, rfl, fun H8 es8 sm8 er8 => ⟨few1 (errs_len er8) (by decide), fun m8 hm8 => ⟨_, _, _, _, rfl, rfl, (upd_ne (ne_of_none (sm8 _ _ G7.lst) hm8)).trans (sm8 _ _ G7.lst), upd_same, few (errs_len G7.errs) (errs_len er8) (by decide), fun l8 hl8 => ?_⟩⟩⟩
    have G8 := G7.more sm8 er8 hm8 hl8
    refine ⟨_, rfl, v, rfl, fun H9 es9 sm9 er9 => ⟨few1 (errs_len er9) (by decide), fun m9 hm9 => ⟨_, _, _, _, rfl, rfl, (upd_ne (ne_of_none (sm9 _ _ G8.lst) hm9)).trans (sm9 _ _ G8.lst), upd_same, few (errs_len G8.errs) (errs_len er9) (by decide), fun l9 hl9 => ?_⟩⟩⟩
    have G9 := G8.more sm9 er9 hm9 hl9
    refine ⟨_, rfl, v, rfl, fun H10 es10 sm10 er10 => ⟨few1 (errs_len er10) (by decide), fun m10 hm10 => ⟨_, _, _, _, rfl, rfl, (upd_ne (ne_of_none (sm10 _ _ G9.lst) hm10)).trans (sm10 _ _ G9.lst), upd_same, few (errs_len G9.errs) (errs_len er10) (by decide), fun l10 hl10 => ?_⟩⟩⟩
    have G10 := G9.more sm10 er10 hm10 hl10
    refine ⟨_, rfl, v, rfl, fun H11 es11 sm11 er11 => ⟨few1 (errs_len er11) (by decide), fun m11 hm11 => ⟨_, _, _, _, rfl, rfl, (upd_ne (ne_of_none (sm11 _ _ G10.lst) hm11)).trans (sm11 _ _ G10.lst), upd_same, few (errs_len G10.errs) (errs_len er11) (by decide), fun l11 hl11 => ?_⟩⟩⟩
    have G11 := G10.more sm11 er11 hm11 hl11
    refine ⟨_, rfl, v, rfl, fun H12 es12 sm12 er12 => ⟨few1 (errs_len er12) (by decide), fun m12 hm12 => ⟨_, _, _, _, rfl, rfl, (upd_ne (ne_of_none (sm12 _ _ G11.lst) hm12)).trans (sm12 _ _ G11.lst), upd_same, few (errs_len G11.errs) (errs_len er12) (by decide), fun l12 hl12 => ?_⟩⟩⟩
    have G12 := G11.more sm12 er12 hm12 hl12
    refine ⟨_, rfl, v, rfl, fun H13 es13 sm13 er13 => ⟨few1 (errs_len er13) (by decide), fun m13 hm13 => ⟨_, _, _, _, rfl, rfl, (upd_ne (ne_of_none (sm13 _ _ G12.lst) hm13)).trans (sm13 _ _ G12.lst), upd_same, few (errs_len G12.errs) (errs_len er13) (by decide), fun l13 hl13 => ?_⟩⟩⟩
    have G13 := G12.more sm13 er13 hm13 hl13
    refine ⟨_, rfl, v, rfl, fun H14 es14 sm14 er14 => ⟨few1 (errs_len er14) (by decide), fun m14 hm14 => ⟨_, _, _, _, rfl, rfl, (upd_ne (ne_of_none (sm14 _ _ G13.lst) hm14)).trans (sm14 _ _ G13.lst), upd_same, few (errs_len G13.errs) (errs_len er14) (by decide), fun l14 hl14 => ?_⟩⟩⟩
    have G14 := G13.more sm14 er14 hm14 hl14
    exact ⟨_, rfl, want _ _ _ G14⟩
theorem scBare : FnScope ["_law_found"] [] (defScope sBare) := ⟨rfl, rfl, rfl, by decide +kernel, rfl, by decide +kernel, by decide +kernel⟩
theorem ok_bare {f : Addr} {fd : FuncData} (F : Fun K "_law_bare" "_law_bare" sBare f fd) (KF : ∀ x ∈ kinds, Kind P w K mg base x) : FnOk P w K mg base CX0 3 f fd [] (spBare K) := by
  refine F.ok scBare (fun vs H Q E h => ?_) (fun cdv A outer s H vs Q E hr h => ?_)
  · obtain ⟨rfl, _⟩ := h
    rfl
  · obtain ⟨rfl, want⟩ := h
    have KF0 : ∀ x ∈ kinds, Kind (cxOf CX0 P w K mg base ["_law_found"] "_law_bare" (defScope sBare) f cdv A outer s H E).nox.prog (cxOf CX0 P w K mg base ["_law_found"] "_law_bare" (defScope sBare) f cdv A outer s H E).nox.w (cxOf CX0 P w K mg base ["_law_found"] "_law_bare" (defScope sBare) f cdv A outer s H E).nox.K (cxOf CX0 P w K mg base ["_law_found"] "_law_bare" (defScope sBare) f cdv A outer s H E).nox.mg (cxOf CX0 P w K mg base ["_law_found"] "_law_bare" (defScope sBare) f cdv A outer s H E).nox.base x := KF
    refine ⟨_, pss_cons (ps_set (i := 0) scBare.nd rfl (Or.inl rfl) (pe_lst (pa_errs0 KF0 (hr.mono (by decide)) _ (by rfl))))
      (pss_cons (ps_set (i := 0) scBare.nd rfl (Or.inl rfl) (pe_op op_cat (pv 0) (pe_lst (pa_errs0 KF0 (hr.mono (by decide)) _ (by rfl)))))
      (pss_cons (ps_set (i := 0) scBare.nd rfl (Or.inl rfl) (pe_op op_cat (pv 0) (pe_lst (pa_errs0 KF0 (hr.mono (by decide)) _ (by rfl)))))
      (pss_cons (ps_set (i := 0) scBare.nd rfl (Or.inl rfl) (pe_op op_cat (pv 0) (pe_lst (pa_errs0 KF0 (hr.mono (by decide)) _ (by rfl)))))
      (pss_cons (ps_set (i := 0) scBare.nd rfl (Or.inl rfl) (pe_op op_cat (pv 0) (pe_lst (pa_errs0 KF0 (hr.mono (by decide)) _ (by rfl)))))
      (pss_cons (ps_set (i := 0) scBare.nd rfl (Or.inl rfl) (pe_op op_cat (pv 0) (pe_lst (pa_errs0 KF0 (hr.mono (by decide)) _ (by rfl)))))
      (pss_cons (ps_set (i := 0) scBare.nd rfl (Or.inl rfl) (pe_op op_cat (pv 0) (pe_lst (pa_errs0 KF0 (hr.mono (by decide)) _ (by rfl)))))
      (pss_cons (ps_set (i := 0) scBare.nd rfl (Or.inl rfl) (pe_op op_cat (pv 0) (pe_lst (pa_errs0 KF0 (hr.mono (by decide)) _ (by rfl)))))
      (pss_cons (ps_set (i := 0) scBare.nd rfl (Or.inl rfl) (pe_op op_cat (pv 0) (pe_lst (pa_errs0 KF0 (hr.mono (by decide)) _ (by rfl)))))
      (pss_cons (ps_set (i := 0) scBare.nd rfl (Or.inl rfl) (pe_op op_cat (pv 0) (pe_lst (pa_errs0 KF0 (hr.mono (by decide)) _ (by rfl)))))
      (pss_one (ps_ret (pv 0)))))))))))), ?_⟩
    refine ⟨V.non, rfl, fun H1 es1 sm1 er1 => ⟨few1 (errs_len er1) (by decide), fun l1 hl1 => ?_⟩⟩
    have G1 := Got.first sm1 er1 hl1
    refine ⟨_, rfl, V.non, rfl, fun H2 es2 sm2 er2 => ⟨few1 (errs_len er2) (by decide), fun m2 hm2 => ⟨_, _, _, _, rfl, rfl, (upd_ne (ne_of_none (sm2 _ _ G1.lst) hm2)).trans (sm2 _ _ G1.lst), upd_same, few (errs_len G1.errs) (errs_len er2) (by decide), fun l2 hl2 => ?_⟩⟩⟩
    have G2 := G1.more sm2 er2 hm2 hl2
    refine ⟨_, rfl, V.non, rfl, fun H3 es3 sm3 er3 => ⟨few1 (errs_len er3) (by decide), fun m3 hm3 => ⟨_, _, _, _, rfl, rfl, (upd_ne (ne_of_none (sm3 _ _ G2.lst) hm3)).trans (sm3 _ _ G2.lst), upd_same, few (errs_len G2.errs) (errs_len er3) (by decide), fun l3 hl3 => ?_⟩⟩⟩
    have G3 := G2.more sm3 er3 hm3 hl3
    refine ⟨_, rfl, V.non, rfl, fun H4 es4 sm4 er4 => ⟨few1 (errs_len er4) (by decide), fun m4 hm4 => ⟨_, _, _, _, rfl, rfl, (upd_ne (ne_of_none (sm4 _ _ G3.lst) hm4)).trans (sm4 _ _ G3.lst), upd_same, few (errs_len G3.errs) (errs_len er4) (by decide), fun l4 hl4 => ?_⟩⟩⟩
    have G4 := G3.more sm4 er4 hm4 hl4
    refine ⟨_, rfl, V.non, rfl, fun H5 es5 sm5 er5 => ⟨few1 (errs_len er5) (by decide), fun m5 hm5 => ⟨_, _, _, _, rfl, rfl, (upd_ne (ne_of_none (sm5 _ _ G4.lst) hm5)).trans (sm5 _ _ G4.lst), upd_same, few (errs_len G4.errs) (errs_len er5) (by decide), fun l5 hl5 => ?_⟩⟩⟩
    have G5 := G4.more sm5 er5 hm5 hl5
    refine ⟨_, rfl, V.non, rfl, fun H6 es6 sm6 er6 => ⟨few1 (errs_len er6) (by decide), fun m6 hm6 => ⟨_, _, _, _, rfl, rfl, (upd_ne (ne_of_none (sm6 _ _ G5.lst) hm6)).trans (sm6 _ _ G5.lst), upd_same, few (errs_len G5.errs) (errs_len er6) (by decide), fun l6 hl6 => ?_⟩⟩⟩
    have G6 := G5.more sm6 er6 hm6 hl6
    refine ⟨_, rfl, V.non, rfl, fun H7 es7 sm7 er7 => ⟨few1 (errs_len er7) (by decide), fun m7 hm7 => ⟨_, _, _, _, rfl, rfl, (upd_ne (ne_of_none (sm7 _ _ G6.lst) hm7)).trans (sm7 _ _ G6.lst), upd_same, few (errs_len G6.errs) (errs_len er7) (by decide), fun l7 hl7 => ?_⟩⟩⟩
    have G7 := G6.more sm7 er7 hm7 hl7
    refine ⟨_, rfl, V.non, rfl, fun H8 es8 sm8 er8 => ⟨few1 (errs_len er8) (by decide), fun m8 hm8 => ⟨_, _, _, _, rfl, rfl, (upd_ne (ne_of_none (sm8 _ _ G7.lst) hm8)).trans (sm8 _ _ G7.lst), upd_same, few (errs_len G7.errs) (errs_len er8) (by decide), fun l8 hl8 => ?_⟩⟩⟩
    have G8 := G7.more sm8 er8 hm8 hl8
    refine ⟨_, rfl, V.non, rfl, fun H9 es9 sm9 er9 => ⟨few1 (errs_len er9) (by decide), fun m9 hm9 => ⟨_, _, _, _, rfl, rfl, (upd_ne (ne_of_none (sm9 _ _ G8.lst) hm9)).trans (sm9 _ _ G8.lst), upd_same, few (errs_len G8.errs) (errs_len er9) (by decide), fun l9 hl9 => ?_⟩⟩⟩
    have G9 := G8.more sm9 er9 hm9 hl9
    refine ⟨_, rfl, V.non, rfl, fun H10 es10 sm10 er10 => ⟨few1 (errs_len er10) (by decide), fun m10 hm10 => ⟨_, _, _, _, rfl, rfl, (upd_ne (ne_of_none (sm10 _ _ G9.lst) hm10)).trans (sm10 _ _ G9.lst), upd_same, few (errs_len G9.errs) (errs_len er10) (by decide), fun l10 hl10 => ?_⟩⟩⟩
    have G10 := G9.more sm10 er10 hm10 hl10
    exact ⟨_, rfl, want _ _ _ G10⟩
end
end Eo
end L2
set_option Elab.async false
set_option linter.all false
set_option maxRecDepth 100000
set_option maxHeartbeats 16000000
/-! Eo, part 9: what an error is. -/
namespace L2
namespace Eo
open PySem PySem.Spec PyProof.Rows
abbrev sCode : Stmt := topS 54
abbrev sIsError : Stmt := topS 55
/-- all classes of the table -/
def names42 : List Str := kinds ++ bareKinds
def asked : Expr → Str
  | .Call _ [_, .Name x _] _ _ => x
  | _ => ""
def chkI (sc : Scope) : Expr → Bool
  | .Call (.Name z _) [.Name y _, .Name x _] [] _ => (z == ("isinstance" : Str)) && ((y == ("_law_error" : Str)) && (!(x == ("__debug__" : Str)) && (names42.contains x && (sc.names.lookup x == some .globalImplicit))))
  | _ => false
/-- the items ask of the error in slot 0 whether it is of these classes -/
def tAsk (K : PySem.W.Frag) (xs : List Str) : TA := fun σ H Q => ∃ (e C : Addr) (b : Str → Bool), σ[0]? = some (some (.ref e)) ∧ EoM.ErA K C ∧ ErrAt H e C ∧ (∀ x ∈ names42, PySem.W.kitOne K (.ref C) (.ref (He.ga K x)) = some (b x)) ∧ Q (xs.map fun x => V.bl (b x)) H
section
variable {X : Cx} (gI : Gl X "isinstance") (mI : X.mg "isinstance" = none) (KN : ∀ x ∈ names42, X.mg x = some (.ref (He.ga X.K x)))
include gI mI KN
theorem pa_ask (hi : X.N[0]? = some ("_law_error" : Str)) (hv : X.env.scope.names.lookup ("_law_error" : Str) = some NameKind.local) : ∀ es : List Expr, (es.all (chkI X.env.scope)) = true → PA X es (tAsk X.K (es.map asked))
  | [], _ => pa_imp pa_nil fun σ H Q h => by
    obtain ⟨e, C, b, r, A, ea, kk, q⟩ := h
    exact q
  | e :: es, h => by
    rw [List.all_cons, Bool.and_eq_true] at h
    obtain ⟨h1, h2⟩ := h
    unfold chkI at h1
    split at h1
    · rename_i z p y p1 x p2 p3
      simp only [Bool.and_eq_true, beq_iff_eq, Bool.not_eq_true', List.contains_iff_mem] at h1
      obtain ⟨rfl, rfl, hd, hm, hg⟩ := h1
      refine pa_imp (pa_cons (pe_callB call_isErr gI mI boot_isinstance (pa_cons (pe_var hi (Or.inl hv) (by decide) (by decide)) (pa_cons (pe_glob (v := .ref (He.ga X.K x)) hg (KN x hm) rfl hd) pa_nil))) (pa_ask hi hv es h2)) fun σ H Q w => ?_
      obtain ⟨e, C, b, r, A, ea, kk, q⟩ := w
      refine ⟨.ref e, r, e, C, _, _, b x, rfl, A, ea, .own _, kk x hm, ?_⟩
      exact ⟨e, C, b, r, A, ea, kk, q⟩
    · cases h1
end
/-- what is told so far: the list at l -/
structure Told (H0 H : Hp) (l : Addr) (xs : List Str) (b : Str → Bool) : Prop where
  same : Same H0 H
  new : H0 l = none
  lst : H l = some (.lst (xs.map fun x => V.bl (b x)))
theorem Told.first {H0 : Hp} {l : Addr} {xs : List Str} {b : Str → Bool} (hl : H0 l = none) : Told H0 (upd H0 l (.lst (xs.map fun x => V.bl (b x)))) l xs b :=
  ⟨fun c o e => by rw [upd_ne (ne_of_none e hl)]; exact e, hl, upd_same⟩
theorem Told.more {H0 H : Hp} {l m l2 : Addr} {xs xs1 : List Str} {b : Str → Bool} (G : Told H0 H l xs b) (hm : H m = none) (h2 : upd H m (.lst (xs1.map fun x => V.bl (b x))) l2 = none) :
    Told H0 (upd (upd H m (.lst (xs1.map fun x => V.bl (b x)))) l2 (.lst ((xs.map fun x => V.bl (b x)) ++ xs1.map fun x => V.bl (b x)))) l2 (xs ++ xs1) b := by
  have k1 : Same H (upd H m (.lst (xs1.map fun x => V.bl (b x)))) := fun c o e => by rw [upd_ne (ne_of_none e hm)]; exact e
  have k2 : Same (upd H m (.lst (xs1.map fun x => V.bl (b x)))) (upd (upd H m (.lst (xs1.map fun x => V.bl (b x)))) l2 (.lst ((xs.map fun x => V.bl (b x)) ++ xs1.map fun x => V.bl (b x)))) := fun c o e => by rw [upd_ne (ne_of_none e h2)]; exact e
  exact ⟨G.same.trans (k1.trans k2), (G.same.trans k1).free h2, by rw [upd_same, List.map_append]⟩
theorem ErrAt.mono {H H' : Hp} {e C : Addr} (k : Same H H') (h : ErrAt H e C) : ErrAt H' e C := by
  rcases h with ⟨d, v, a, b⟩ | a
  · exact .inl ⟨d, v, k _ _ a, k _ _ b⟩
  · exact .inr (k _ _ a)
theorem len_b {xs : List Str} {b : Str → Bool} {n : Nat} (h : xs.length = n) : (xs.map fun x => V.bl (b x)).length = n := by rw [List.length_map]; exact h
/-- the places at which a list of truth values holds True -/
def hits (bs : List Bool) (k : Nat) : List Nat := (List.range k).filter fun j => bs.getD j false
theorem hits_succ (bs : List Bool) (k : Nat) : hits bs (k + 1) = hits bs k ++ (if bs.getD k false = true then [k] else []) := by
  unfold hits
  rw [List.range_succ, List.filter_append]
  congr 1
  by_cases c : bs.getD k false = true
  · rw [if_pos c, List.filter_cons_of_pos (by exact c)]
    rfl
  · rw [if_neg c, List.filter_cons_of_neg (by exact c)]
    rfl
theorem hits_len (bs : List Bool) : ∀ k, (hits bs k).length ≤ k
  | 0 => Nat.le_refl _
  | k + 1 => by
    rw [hits_succ, List.length_append]
    have := hits_len bs k
    split
    · simp; omega
    · simp; omega
/-- found = found + [..] -/
theorem ask_more {K : PySem.W.Frag} {D : Ends} {rest : TS} {H0 H : Hp} {l e C : Addr} {b : Str → Bool} {xs xs1 : List Str} (A1 : EoM.ErA K C) (ea : ErrAt H0 e C) (kk : ∀ x ∈ names42, PySem.W.kitOne K (.ref C) (.ref (He.ga K x)) = some (b x)) (G : Told H0 H l xs b)
    (h1 : xs.length ≤ 500) (h2 : xs1.length ≤ 400) (h : ∀ (H' : Hp) (l' : Addr), Told H0 H' l' (xs ++ xs1) b → rest D [some (.ref e), some (.ref l'), none] H') :
    tSeq (tAsg (tOp rCat (tVar 1) (tLst (tAsk K xs1))) (gName 1)) rest D [some (.ref e), some (.ref l), none] H := by
  have e1 : 1000 ≤ sizeLine := by rw [sizeLine_eq]; decide
  refine ⟨_, rfl, e, C, b, rfl, A1, ea.mono G.same, kk, by rw [List.length_map]; omega, fun m hm => ⟨_, _, _, _, rfl, rfl, (upd_ne (ne_of_none G.lst hm)).trans G.lst, upd_same, by rw [List.length_map, List.length_map]; omega, fun l2 hl2 => ?_⟩⟩
  exact h _ l2 (G.more hm hl2)
/-- found = [..] -/
theorem ask_first {K : PySem.W.Frag} {D : Ends} {rest : TS} {H0 : Hp} {e C : Addr} {b : Str → Bool} {xs1 : List Str} (A1 : EoM.ErA K C) (ea : ErrAt H0 e C) (kk : ∀ x ∈ names42, PySem.W.kitOne K (.ref C) (.ref (He.ga K x)) = some (b x))
    (h2 : xs1.length ≤ 400) (h : ∀ (H' : Hp) (l' : Addr), Told H0 H' l' xs1 b → rest D [some (.ref e), some (.ref l'), none] H') :
    tSeq (tAsg (tLst (tAsk K xs1)) (gName 1)) rest D [some (.ref e), none, none] H0 := by
  have e1 : 1000 ≤ sizeLine := by rw [sizeLine_eq]; decide
  exact ⟨e, C, b, rfl, A1, ea, kk, by rw [List.length_map]; omega, fun l2 hl2 => h _ l2 (Told.first hl2)⟩
/-- the number at which an error stands: what is told of it -/
def spCode (K : PySem.W.Frag) : Sp := fun vs H Q _ => ∃ (e C : Addr) (b : Str → Bool), vs = [.ref e] ∧ EoM.ErA K C ∧ ErrAt H e C ∧ (∀ x ∈ names42, PySem.W.kitOne K (.ref C) (.ref (He.ga K x)) = some (b x)) ∧
  ∀ (H' : Hp) (l : Addr), Same H H' → H l = none → H' l = some (.lst ((hits (names42.map b) 42).map fun n : Nat => V.int (n : Int))) → Q (.ref l) H'
def spIsError (K : PySem.W.Frag) : Sp := fun vs H Q _ => ∃ (e C : Addr), vs = [.ref e] ∧ EoM.ErA K C ∧ ErrAt H e C ∧ PySem.W.kitOne K (.ref C) (.ref (He.ga K "StopError")) = some true ∧ PySem.W.kitOne K (.ref C) (.type "ValueError") = some true ∧ Q (.bl true) H
section
variable {P : Program} {w : World} {K : PySem.W.Frag} {mg : Str → Option Value} {base : Heap}
theorem scIsError : FnScope ["_law_error"] ["_law_error"] (defScope sIsError) := ⟨rfl, rfl, rfl, by decide +kernel, rfl, by decide +kernel, by decide +kernel⟩
theorem ok_isError {f : Addr} {fd : FuncData} (F : Fun K "_law_is_error" "_law_is_error" sIsError f fd) (gS : mg "StopError" = some (.ref (He.ga K "StopError"))) (gI : mg "isinstance" = none) (gV : mg "ValueError" = none) :
    FnOk P w K mg base CX0 1 f fd ["_law_error"] (spIsError K) := by
  refine F.ok scIsError (fun vs H Q E h => ?_) (fun cdv A outer s H vs Q E hr h => ?_)
  · obtain ⟨e, C, rfl, _⟩ := h
    rfl
  · obtain ⟨e, C, rfl, A1, ea, k1, k2, want⟩ := h
    refine ⟨_, pss_one (ps_ret (pe_andT (pe_callB call_isErr (by rfl) gI boot_isinstance (pa_cons (pv 0) (pa_cons (pe_glob (v := .ref (He.ga K "StopError")) (by rfl) gS rfl) pa_nil)))
      (pe_one (pe_callB call_isErr (by rfl) gI boot_isinstance (pa_cons (pv 0) (pa_cons (pe_bltn (v := .ty "ValueError") (by rfl) gV (by decide +kernel) rfl) pa_nil)))))), ?_⟩
    refine ⟨_, rfl, e, C, _, _, true, rfl, A1, ea, .own _, k1, true, rfl, iteT ?_⟩
    exact ⟨_, rfl, e, C, _, _, true, rfl, A1, ea, .ty _, k2, want⟩
theorem scCode : FnScope ["_law_error", "_law_found", "_law_at"] ["_law_error"] (defScope sCode) := ⟨rfl, rfl, rfl, by decide +kernel, rfl, by decide +kernel, by decide +kernel⟩
theorem ok_code {f : Addr} {fd : FuncData} (F : Fun K "_law_code" "_law_code" sCode f fd) (KN : ∀ x ∈ names42, mg x = some (.ref (He.ga K x))) (gI : mg "isinstance" = none) (gR : mg "range" = none) (gL : mg "len" = none) :
    FnOk P w K mg base CX0 1 f fd ["_law_error"] (spCode K) := by
  refine F.ok scCode (fun vs H Q E h => ?_) (fun cdv A outer s H vs Q E hr h => ?_)
  · obtain ⟨e, C, b, rfl, _⟩ := h
    rfl
  · obtain ⟨e, C, b, rfl, A1, ea, kk, want⟩ := h
    have KN0 : ∀ x ∈ names42, (cxOf CX0 P w K mg base ["_law_error", "_law_found", "_law_at"] "_law_code" (defScope sCode) f cdv A outer s H E).nox.mg x = some (.ref (He.ga (cxOf CX0 P w K mg base ["_law_error", "_law_found", "_law_at"] "_law_code" (defScope sCode) f cdv A outer s H E).nox.K x)) := KN
    refine ⟨_, pss_cons (ps_set (i := 1) scCode.nd rfl (Or.inr rfl) (pe_lst (pa_ask (by rfl) gI KN0 rfl rfl _ (by rfl))))
      (pss_cons (ps_set (i := 1) scCode.nd rfl (Or.inr rfl) (pe_op op_cat (pv 1) (pe_lst (pa_ask (by rfl) gI KN0 rfl rfl _ (by rfl)))))
      (pss_cons (ps_set (i := 1) scCode.nd rfl (Or.inr rfl) (pe_op op_cat (pv 1) (pe_lst (pa_ask (by rfl) gI KN0 rfl rfl _ (by rfl)))))
      (pss_cons (ps_set (i := 1) scCode.nd rfl (Or.inr rfl) (pe_op op_cat (pv 1) (pe_lst (pa_ask (by rfl) gI KN0 rfl rfl _ (by rfl)))))
      (pss_cons (ps_set (i := 1) scCode.nd rfl (Or.inr rfl) (pe_op op_cat (pv 1) (pe_lst (pa_ask (by rfl) gI KN0 rfl rfl _ (by rfl)))))
      (pss_cons (ps_set (i := 1) scCode.nd rfl (Or.inr rfl) (pe_op op_cat (pv 1) (pe_lst (pa_ask (by rfl) gI KN0 rfl rfl _ (by rfl)))))
      (pss_cons (ps_set (i := 1) scCode.nd rfl (Or.inr rfl) (pe_op op_cat (pv 1) (pe_lst (pa_ask (by rfl) gI KN0 rfl rfl _ (by rfl)))))
      (pss_cons (ps_set (i := 1) scCode.nd rfl (Or.inr rfl) (pe_op op_cat (pv 1) (pe_lst (pa_ask (by rfl) gI KN0 rfl rfl _ (by rfl)))))
      (pss_cons (ps_set (i := 1) scCode.nd rfl (Or.inr rfl) (pe_op op_cat (pv 1) (pe_lst (pa_ask (by rfl) gI KN0 rfl rfl _ (by rfl)))))
      (pss_cons (ps_set (i := 1) scCode.nd rfl (Or.inr rfl) (pe_op op_cat (pv 1) (pe_lst (pa_ask (by rfl) gI KN0 rfl rfl _ (by rfl)))))
      (pss_cons (ps_set (i := 1) scCode.nd rfl (Or.inr rfl) (pe_op op_cat (pv 1) (pe_lst (pa_ask (by rfl) gI KN0 rfl rfl _ (by rfl)))))
      (pss_cons (ps_set (i := 1) scCode.nd rfl (Or.inr rfl) (pe_op op_cat (pv 1) (pe_lst (pa_ask (by rfl) gI KN0 rfl rfl _ (by rfl)))))
      (pss_cons (ps_set (i := 1) scCode.nd rfl (Or.inr rfl) (pe_op op_cat (pv 1) (pe_lst (pa_ask (by rfl) gI KN0 rfl rfl _ (by rfl)))))
      (pss_cons (ps_set (i := 1) scCode.nd rfl (Or.inr rfl) (pe_op op_cat (pv 1) (pe_lst (pa_ask (by rfl) gI KN0 rfl rfl _ (by rfl)))))
      (pss_cons (ps_set (i := 1) scCode.nd rfl (Or.inr rfl) (pe_op op_cat (pv 1) (pe_lst (pa_ask (by rfl) gI KN0 rfl rfl _ (by rfl)))))
      (pss_cons (ps_set (i := 1) scCode.nd rfl (Or.inr rfl) (pe_op op_cat (pv 1) (pe_lst (pa_ask (by rfl) gI KN0 rfl rfl _ (by rfl)))))
      (pss_cons (ps_set (i := 1) scCode.nd rfl (Or.inr rfl) (pe_op op_cat (pv 1) (pe_lst (pa_ask (by rfl) gI KN0 rfl rfl _ (by rfl)))))
      (pss_cons (ps_set (i := 1) scCode.nd rfl (Or.inr rfl) (pe_op op_cat (pv 1) (pe_lst (pa_ask (by rfl) gI KN0 rfl rfl _ (by rfl)))))
      (pss_cons (ps_set (i := 1) scCode.nd rfl (Or.inr rfl) (pe_op op_cat (pv 1) (pe_lst (pa_ask (by rfl) gI KN0 rfl rfl _ (by rfl)))))
      (pss_cons (ps_set (i := 1) scCode.nd rfl (Or.inr rfl) (pe_op op_cat (pv 1) (pe_lst (pa_ask (by rfl) gI KN0 rfl rfl _ (by rfl)))))
      (pss_cons (ps_set (i := 1) scCode.nd rfl (Or.inr rfl) (pe_op op_cat (pv 1) (pe_lst (pa_ask (by rfl) gI KN0 rfl rfl _ (by rfl)))))
      (pss_cons (ps_set (i := 1) scCode.nd rfl (Or.inr rfl) (pe_op op_cat (pv 1) (pe_lst (pa_ask (by rfl) gI KN0 rfl rfl _ (by rfl)))))
      (pss_cons (ps_set (i := 1) scCode.nd rfl (Or.inr rfl) (pe_op op_cat (pv 1) (pe_lst (pa_ask (by rfl) gI KN0 rfl rfl _ (by rfl)))))
      (pss_cons (ps_set (i := 1) scCode.nd rfl (Or.inr rfl) (pe_op op_cat (pv 1) (pe_lst (pa_ask (by rfl) gI KN0 rfl rfl _ (by rfl)))))
      (pss_cons (ps_set (i := 1) scCode.nd rfl (Or.inr rfl) (pe_op op_cat (pv 1) (pe_lst (pa_ask (by rfl) gI KN0 rfl rfl _ (by rfl)))))
      (pss_cons (ps_set (i := 1) scCode.nd rfl (Or.inr rfl) (pe_op op_cat (pv 1) (pe_lst (pa_ask (by rfl) gI KN0 rfl rfl _ (by rfl)))))
      (pss_one (ps_ret (pe_lc (own := [("_law_at", 2)]) (g := gName 2) (tt := tB (tOp (rIxL K) (tVar 1) (tVar 2))) rfl scCode.nd
      (pi_range1 rfl gR (pa_cons (pe_callB call_len_seq (by rfl) gL PySem.boot_len (pa_cons (pv 1) pa_nil)) pa_nil))
      (blkOk_by (N := ["_law_error", "_law_found", "_law_at"]) (sc := defScope sCode) (by decide +kernel)) (fun _ _ _ _ _ => pg_name (i := 2) scCode.nd rfl (Or.inl rfl)) (fun _ _ _ _ _ => pts_one (pt_val (pe_ix ix_list (pv 1) (pv 2) (fun _ _ => rfl))))
      (fun _ _ _ _ _ => pv 2))))))))))))))))))))))))))))), ?_⟩
    refine ask_first A1 ea kk (by decide) fun H1 l1 G1 => ?_
    refine ask_more A1 ea kk (xs := [("InvalidPrime" : Str), ("InvalidNumber" : Str), ("InvalidSum" : Str)]) (xs1 := [("InvalidVectors" : Str), ("InvalidText" : Str)]) G1 (by decide) (by decide) fun H2 l2 G2 => ?_
    refine ask_more A1 ea kk (xs := [("InvalidPrime" : Str), ("InvalidNumber" : Str), ("InvalidSum" : Str), ("InvalidVectors" : Str), ("InvalidText" : Str)]) (xs1 := [("Fault" : Str)]) G2 (by decide) (by decide) fun H3 l3 G3 => ?_
    refine ask_more A1 ea kk (xs := [("InvalidPrime" : Str), ("InvalidNumber" : Str), ("InvalidSum" : Str), ("InvalidVectors" : Str), ("InvalidText" : Str), ("Fault" : Str)]) (xs1 := [("InvalidProgram" : Str), ("InvalidRows" : Str)]) G3 (by decide) (by decide) fun H4 l4 G4 => ?_
    refine ask_more A1 ea kk (xs := [("InvalidPrime" : Str), ("InvalidNumber" : Str), ("InvalidSum" : Str), ("InvalidVectors" : Str), ("InvalidText" : Str), ("Fault" : Str), ("InvalidProgram" : Str), ("InvalidRows" : Str)]) (xs1 := [("Unsound" : Str)]) G4 (by decide) (by decide) fun H5 l5 G5 => ?_
    refine ask_more A1 ea kk (xs := [("InvalidPrime" : Str), ("InvalidNumber" : Str), ("InvalidSum" : Str), ("InvalidVectors" : Str), ("InvalidText" : Str), ("Fault" : Str), ("InvalidProgram" : Str), ("InvalidRows" : Str), ("Unsound" : Str)]) (xs1 := [("InvalidUnits" : Str), ("InvalidInputs" : Str)]) G5 (by decide) (by decide) fun H6 l6 G6 => ?_
    refine ask_more A1 ea kk (xs := [("InvalidPrime" : Str), ("InvalidNumber" : Str), ("InvalidSum" : Str), ("InvalidVectors" : Str), ("InvalidText" : Str), ("Fault" : Str), ("InvalidProgram" : Str), ("InvalidRows" : Str), ("Unsound" : Str), ("InvalidUnits" : Str), ("InvalidInputs" : Str)]) (xs1 := [("InvalidEngine" : Str)]) G6 (by decide) (by decide) fun H7 l7 G7 => ?_
    refine ask_more A1 ea kk (xs := [("InvalidPrime" : Str), ("InvalidNumber" : Str), ("InvalidSum" : Str), ("InvalidVectors" : Str), ("InvalidText" : Str), ("Fault" : Str), ("InvalidProgram" : Str), ("InvalidRows" : Str), ("Unsound" : Str), ("InvalidUnits" : Str), ("InvalidInputs" : Str), ("InvalidEngine" : Str)]) (xs1 := [("NotAlike" : Str), ("UnlikePrimes" : Str)]) G7 (by decide) (by decide) fun H8 l8 G8 => ?_
    refine ask_more A1 ea kk (xs := [("InvalidPrime" : Str), ("InvalidNumber" : Str), ("InvalidSum" : Str), ("InvalidVectors" : Str), ("InvalidText" : Str), ("Fault" : Str), ("InvalidProgram" : Str), ("InvalidRows" : Str), ("Unsound" : Str), ("InvalidUnits" : Str), ("InvalidInputs" : Str), ("InvalidEngine" : Str), ("NotAlike" : Str), ("UnlikePrimes" : Str)]) (xs1 := [("InvalidBench" : Str)]) G8 (by decide) (by decide) fun H9 l9 G9 => ?_
    refine ask_more A1 ea kk (xs := [("InvalidPrime" : Str), ("InvalidNumber" : Str), ("InvalidSum" : Str), ("InvalidVectors" : Str), ("InvalidText" : Str), ("Fault" : Str), ("InvalidProgram" : Str), ("InvalidRows" : Str), ("Unsound" : Str), ("InvalidUnits" : Str), ("InvalidInputs" : Str), ("InvalidEngine" : Str), ("NotAlike" : Str), ("UnlikePrimes" : Str), ("InvalidBench" : Str)]) (xs1 := [("UnknownMark" : Str), ("UnknownStop" : Str)]) G9 (by decide) (by decide) fun H10 l10 G10 => ?_
    refine ask_more A1 ea kk (xs := [("InvalidPrime" : Str), ("InvalidNumber" : Str), ("InvalidSum" : Str), ("InvalidVectors" : Str), ("InvalidText" : Str), ("Fault" : Str), ("InvalidProgram" : Str), ("InvalidRows" : Str), ("Unsound" : Str), ("InvalidUnits" : Str), ("InvalidInputs" : Str), ("InvalidEngine" : Str), ("NotAlike" : Str), ("UnlikePrimes" : Str), ("InvalidBench" : Str), ("UnknownMark" : Str), ("UnknownStop" : Str)]) (xs1 := [("UnknownHolder" : Str)]) G10 (by decide) (by decide) fun H11 l11 G11 => ?_
    refine ask_more A1 ea kk (xs := [("InvalidPrime" : Str), ("InvalidNumber" : Str), ("InvalidSum" : Str), ("InvalidVectors" : Str), ("InvalidText" : Str), ("Fault" : Str), ("InvalidProgram" : Str), ("InvalidRows" : Str), ("Unsound" : Str), ("InvalidUnits" : Str), ("InvalidInputs" : Str), ("InvalidEngine" : Str), ("NotAlike" : Str), ("UnlikePrimes" : Str), ("InvalidBench" : Str), ("UnknownMark" : Str), ("UnknownStop" : Str), ("UnknownHolder" : Str)]) (xs1 := [("NeverPassed" : Str), ("Stray" : Str), ("Uneven" : Str)]) G11 (by decide) (by decide) fun H12 l12 G12 => ?_
    refine ask_more A1 ea kk (xs := [("InvalidPrime" : Str), ("InvalidNumber" : Str), ("InvalidSum" : Str), ("InvalidVectors" : Str), ("InvalidText" : Str), ("Fault" : Str), ("InvalidProgram" : Str), ("InvalidRows" : Str), ("Unsound" : Str), ("InvalidUnits" : Str), ("InvalidInputs" : Str), ("InvalidEngine" : Str), ("NotAlike" : Str), ("UnlikePrimes" : Str), ("InvalidBench" : Str), ("UnknownMark" : Str), ("UnknownStop" : Str), ("UnknownHolder" : Str), ("NeverPassed" : Str), ("Stray" : Str), ("Uneven" : Str)]) (xs1 := [("OutOfOrder" : Str), ("InvalidReadings" : Str)]) G12 (by decide) (by decide) fun H13 l13 G13 => ?_
    refine ask_more A1 ea kk (xs := [("InvalidPrime" : Str), ("InvalidNumber" : Str), ("InvalidSum" : Str), ("InvalidVectors" : Str), ("InvalidText" : Str), ("Fault" : Str), ("InvalidProgram" : Str), ("InvalidRows" : Str), ("Unsound" : Str), ("InvalidUnits" : Str), ("InvalidInputs" : Str), ("InvalidEngine" : Str), ("NotAlike" : Str), ("UnlikePrimes" : Str), ("InvalidBench" : Str), ("UnknownMark" : Str), ("UnknownStop" : Str), ("UnknownHolder" : Str), ("NeverPassed" : Str), ("Stray" : Str), ("Uneven" : Str), ("OutOfOrder" : Str), ("InvalidReadings" : Str)]) (xs1 := [("InvalidLines" : Str)]) G13 (by decide) (by decide) fun H14 l14 G14 => ?_
    refine ask_more A1 ea kk (xs := [("InvalidPrime" : Str), ("InvalidNumber" : Str), ("InvalidSum" : Str), ("InvalidVectors" : Str), ("InvalidText" : Str), ("Fault" : Str), ("InvalidProgram" : Str), ("InvalidRows" : Str), ("Unsound" : Str), ("InvalidUnits" : Str), ("InvalidInputs" : Str), ("InvalidEngine" : Str), ("NotAlike" : Str), ("UnlikePrimes" : Str), ("InvalidBench" : Str), ("UnknownMark" : Str), ("UnknownStop" : Str), ("UnknownHolder" : Str), ("NeverPassed" : Str), ("Stray" : Str), ("Uneven" : Str), ("OutOfOrder" : Str), ("InvalidReadings" : Str), ("InvalidLines" : Str)]) (xs1 := [("InvalidBook" : Str), ("InvalidRule" : Str)]) G14 (by decide) (by decide) fun H15 l15 G15 => ?_
    refine ask_more A1 ea kk (xs := [("InvalidPrime" : Str), ("InvalidNumber" : Str), ("InvalidSum" : Str), ("InvalidVectors" : Str), ("InvalidText" : Str), ("Fault" : Str), ("InvalidProgram" : Str), ("InvalidRows" : Str), ("Unsound" : Str), ("InvalidUnits" : Str), ("InvalidInputs" : Str), ("InvalidEngine" : Str), ("NotAlike" : Str), ("UnlikePrimes" : Str), ("InvalidBench" : Str), ("UnknownMark" : Str), ("UnknownStop" : Str), ("UnknownHolder" : Str), ("NeverPassed" : Str), ("Stray" : Str), ("Uneven" : Str), ("OutOfOrder" : Str), ("InvalidReadings" : Str), ("InvalidLines" : Str), ("InvalidBook" : Str), ("InvalidRule" : Str)]) (xs1 := [("InvalidChange" : Str)]) G15 (by decide) (by decide) fun H16 l16 G16 => ?_
    refine ask_more A1 ea kk (xs := [("InvalidPrime" : Str), ("InvalidNumber" : Str), ("InvalidSum" : Str), ("InvalidVectors" : Str), ("InvalidText" : Str), ("Fault" : Str), ("InvalidProgram" : Str), ("InvalidRows" : Str), ("Unsound" : Str), ("InvalidUnits" : Str), ("InvalidInputs" : Str), ("InvalidEngine" : Str), ("NotAlike" : Str), ("UnlikePrimes" : Str), ("InvalidBench" : Str), ("UnknownMark" : Str), ("UnknownStop" : Str), ("UnknownHolder" : Str), ("NeverPassed" : Str), ("Stray" : Str), ("Uneven" : Str), ("OutOfOrder" : Str), ("InvalidReadings" : Str), ("InvalidLines" : Str), ("InvalidBook" : Str), ("InvalidRule" : Str), ("InvalidChange" : Str)]) (xs1 := [("InvalidAmounts" : Str), ("InvalidDump" : Str)]) G16 (by decide) (by decide) fun H17 l17 G17 => ?_
    refine ask_more A1 ea kk (xs := [("InvalidPrime" : Str), ("InvalidNumber" : Str), ("InvalidSum" : Str), ("InvalidVectors" : Str), ("InvalidText" : Str), ("Fault" : Str), ("InvalidProgram" : Str), ("InvalidRows" : Str), ("Unsound" : Str), ("InvalidUnits" : Str), ("InvalidInputs" : Str), ("InvalidEngine" : Str), ("NotAlike" : Str), ("UnlikePrimes" : Str), ("InvalidBench" : Str), ("UnknownMark" : Str), ("UnknownStop" : Str), ("UnknownHolder" : Str), ("NeverPassed" : Str), ("Stray" : Str), ("Uneven" : Str), ("OutOfOrder" : Str), ("InvalidReadings" : Str), ("InvalidLines" : Str), ("InvalidBook" : Str), ("InvalidRule" : Str), ("InvalidChange" : Str), ("InvalidAmounts" : Str), ("InvalidDump" : Str)]) (xs1 := [("InvalidSession" : Str)]) G17 (by decide) (by decide) fun H18 l18 G18 => ?_
    refine ask_more A1 ea kk (xs := [("InvalidPrime" : Str), ("InvalidNumber" : Str), ("InvalidSum" : Str), ("InvalidVectors" : Str), ("InvalidText" : Str), ("Fault" : Str), ("InvalidProgram" : Str), ("InvalidRows" : Str), ("Unsound" : Str), ("InvalidUnits" : Str), ("InvalidInputs" : Str), ("InvalidEngine" : Str), ("NotAlike" : Str), ("UnlikePrimes" : Str), ("InvalidBench" : Str), ("UnknownMark" : Str), ("UnknownStop" : Str), ("UnknownHolder" : Str), ("NeverPassed" : Str), ("Stray" : Str), ("Uneven" : Str), ("OutOfOrder" : Str), ("InvalidReadings" : Str), ("InvalidLines" : Str), ("InvalidBook" : Str), ("InvalidRule" : Str), ("InvalidChange" : Str), ("InvalidAmounts" : Str), ("InvalidDump" : Str), ("InvalidSession" : Str)]) (xs1 := [("InvalidScript" : Str), ("InvalidLog" : Str)]) G18 (by decide) (by decide) fun H19 l19 G19 => ?_
    refine ask_more A1 ea kk (xs := [("InvalidPrime" : Str), ("InvalidNumber" : Str), ("InvalidSum" : Str), ("InvalidVectors" : Str), ("InvalidText" : Str), ("Fault" : Str), ("InvalidProgram" : Str), ("InvalidRows" : Str), ("Unsound" : Str), ("InvalidUnits" : Str), ("InvalidInputs" : Str), ("InvalidEngine" : Str), ("NotAlike" : Str), ("UnlikePrimes" : Str), ("InvalidBench" : Str), ("UnknownMark" : Str), ("UnknownStop" : Str), ("UnknownHolder" : Str), ("NeverPassed" : Str), ("Stray" : Str), ("Uneven" : Str), ("OutOfOrder" : Str), ("InvalidReadings" : Str), ("InvalidLines" : Str), ("InvalidBook" : Str), ("InvalidRule" : Str), ("InvalidChange" : Str), ("InvalidAmounts" : Str), ("InvalidDump" : Str), ("InvalidSession" : Str), ("InvalidScript" : Str), ("InvalidLog" : Str)]) (xs1 := [("InvalidCount" : Str)]) G19 (by decide) (by decide) fun H20 l20 G20 => ?_
    refine ask_more A1 ea kk (xs := [("InvalidPrime" : Str), ("InvalidNumber" : Str), ("InvalidSum" : Str), ("InvalidVectors" : Str), ("InvalidText" : Str), ("Fault" : Str), ("InvalidProgram" : Str), ("InvalidRows" : Str), ("Unsound" : Str), ("InvalidUnits" : Str), ("InvalidInputs" : Str), ("InvalidEngine" : Str), ("NotAlike" : Str), ("UnlikePrimes" : Str), ("InvalidBench" : Str), ("UnknownMark" : Str), ("UnknownStop" : Str), ("UnknownHolder" : Str), ("NeverPassed" : Str), ("Stray" : Str), ("Uneven" : Str), ("OutOfOrder" : Str), ("InvalidReadings" : Str), ("InvalidLines" : Str), ("InvalidBook" : Str), ("InvalidRule" : Str), ("InvalidChange" : Str), ("InvalidAmounts" : Str), ("InvalidDump" : Str), ("InvalidSession" : Str), ("InvalidScript" : Str), ("InvalidLog" : Str), ("InvalidCount" : Str)]) (xs1 := [("Refused" : Str), ("InvalidSeat" : Str)]) G20 (by decide) (by decide) fun H21 l21 G21 => ?_
    refine ask_more A1 ea kk (xs := [("InvalidPrime" : Str), ("InvalidNumber" : Str), ("InvalidSum" : Str), ("InvalidVectors" : Str), ("InvalidText" : Str), ("Fault" : Str), ("InvalidProgram" : Str), ("InvalidRows" : Str), ("Unsound" : Str), ("InvalidUnits" : Str), ("InvalidInputs" : Str), ("InvalidEngine" : Str), ("NotAlike" : Str), ("UnlikePrimes" : Str), ("InvalidBench" : Str), ("UnknownMark" : Str), ("UnknownStop" : Str), ("UnknownHolder" : Str), ("NeverPassed" : Str), ("Stray" : Str), ("Uneven" : Str), ("OutOfOrder" : Str), ("InvalidReadings" : Str), ("InvalidLines" : Str), ("InvalidBook" : Str), ("InvalidRule" : Str), ("InvalidChange" : Str), ("InvalidAmounts" : Str), ("InvalidDump" : Str), ("InvalidSession" : Str), ("InvalidScript" : Str), ("InvalidLog" : Str), ("InvalidCount" : Str), ("Refused" : Str), ("InvalidSeat" : Str)]) (xs1 := [("InvalidState" : Str)]) G21 (by decide) (by decide) fun H22 l22 G22 => ?_
    refine ask_more A1 ea kk (xs := [("InvalidPrime" : Str), ("InvalidNumber" : Str), ("InvalidSum" : Str), ("InvalidVectors" : Str), ("InvalidText" : Str), ("Fault" : Str), ("InvalidProgram" : Str), ("InvalidRows" : Str), ("Unsound" : Str), ("InvalidUnits" : Str), ("InvalidInputs" : Str), ("InvalidEngine" : Str), ("NotAlike" : Str), ("UnlikePrimes" : Str), ("InvalidBench" : Str), ("UnknownMark" : Str), ("UnknownStop" : Str), ("UnknownHolder" : Str), ("NeverPassed" : Str), ("Stray" : Str), ("Uneven" : Str), ("OutOfOrder" : Str), ("InvalidReadings" : Str), ("InvalidLines" : Str), ("InvalidBook" : Str), ("InvalidRule" : Str), ("InvalidChange" : Str), ("InvalidAmounts" : Str), ("InvalidDump" : Str), ("InvalidSession" : Str), ("InvalidScript" : Str), ("InvalidLog" : Str), ("InvalidCount" : Str), ("Refused" : Str), ("InvalidSeat" : Str), ("InvalidState" : Str)]) (xs1 := [("InvalidLinks" : Str), ("NotHere" : Str)]) G22 (by decide) (by decide) fun H23 l23 G23 => ?_
    refine ask_more A1 ea kk (xs := [("InvalidPrime" : Str), ("InvalidNumber" : Str), ("InvalidSum" : Str), ("InvalidVectors" : Str), ("InvalidText" : Str), ("Fault" : Str), ("InvalidProgram" : Str), ("InvalidRows" : Str), ("Unsound" : Str), ("InvalidUnits" : Str), ("InvalidInputs" : Str), ("InvalidEngine" : Str), ("NotAlike" : Str), ("UnlikePrimes" : Str), ("InvalidBench" : Str), ("UnknownMark" : Str), ("UnknownStop" : Str), ("UnknownHolder" : Str), ("NeverPassed" : Str), ("Stray" : Str), ("Uneven" : Str), ("OutOfOrder" : Str), ("InvalidReadings" : Str), ("InvalidLines" : Str), ("InvalidBook" : Str), ("InvalidRule" : Str), ("InvalidChange" : Str), ("InvalidAmounts" : Str), ("InvalidDump" : Str), ("InvalidSession" : Str), ("InvalidScript" : Str), ("InvalidLog" : Str), ("InvalidCount" : Str), ("Refused" : Str), ("InvalidSeat" : Str), ("InvalidState" : Str), ("InvalidLinks" : Str), ("NotHere" : Str)]) (xs1 := [("InvalidLetter" : Str)]) G23 (by decide) (by decide) fun H24 l24 G24 => ?_
    refine ask_more A1 ea kk (xs := [("InvalidPrime" : Str), ("InvalidNumber" : Str), ("InvalidSum" : Str), ("InvalidVectors" : Str), ("InvalidText" : Str), ("Fault" : Str), ("InvalidProgram" : Str), ("InvalidRows" : Str), ("Unsound" : Str), ("InvalidUnits" : Str), ("InvalidInputs" : Str), ("InvalidEngine" : Str), ("NotAlike" : Str), ("UnlikePrimes" : Str), ("InvalidBench" : Str), ("UnknownMark" : Str), ("UnknownStop" : Str), ("UnknownHolder" : Str), ("NeverPassed" : Str), ("Stray" : Str), ("Uneven" : Str), ("OutOfOrder" : Str), ("InvalidReadings" : Str), ("InvalidLines" : Str), ("InvalidBook" : Str), ("InvalidRule" : Str), ("InvalidChange" : Str), ("InvalidAmounts" : Str), ("InvalidDump" : Str), ("InvalidSession" : Str), ("InvalidScript" : Str), ("InvalidLog" : Str), ("InvalidCount" : Str), ("Refused" : Str), ("InvalidSeat" : Str), ("InvalidState" : Str), ("InvalidLinks" : Str), ("NotHere" : Str), ("InvalidLetter" : Str)]) (xs1 := [("Unlike" : Str), ("NothingToUndo" : Str)]) G24 (by decide) (by decide) fun H25 l25 G25 => ?_
    refine ask_more A1 ea kk (xs := [("InvalidPrime" : Str), ("InvalidNumber" : Str), ("InvalidSum" : Str), ("InvalidVectors" : Str), ("InvalidText" : Str), ("Fault" : Str), ("InvalidProgram" : Str), ("InvalidRows" : Str), ("Unsound" : Str), ("InvalidUnits" : Str), ("InvalidInputs" : Str), ("InvalidEngine" : Str), ("NotAlike" : Str), ("UnlikePrimes" : Str), ("InvalidBench" : Str), ("UnknownMark" : Str), ("UnknownStop" : Str), ("UnknownHolder" : Str), ("NeverPassed" : Str), ("Stray" : Str), ("Uneven" : Str), ("OutOfOrder" : Str), ("InvalidReadings" : Str), ("InvalidLines" : Str), ("InvalidBook" : Str), ("InvalidRule" : Str), ("InvalidChange" : Str), ("InvalidAmounts" : Str), ("InvalidDump" : Str), ("InvalidSession" : Str), ("InvalidScript" : Str), ("InvalidLog" : Str), ("InvalidCount" : Str), ("Refused" : Str), ("InvalidSeat" : Str), ("InvalidState" : Str), ("InvalidLinks" : Str), ("NotHere" : Str), ("InvalidLetter" : Str), ("Unlike" : Str), ("NothingToUndo" : Str)]) (xs1 := [("NothingToRedo" : Str)]) G25 (by decide) (by decide) fun H26 l26 G26 => ?_
    have Z : Told H _ l26 names42 b := G26
    have lb : (names42.map fun x => V.bl (b x)).length = 42 := len_b rfl
    refine ⟨_, rfl, l26, _, rfl, .inl (SqL.of Z.lst), _, rfl, ?_, ?_, fun D hD => ?_⟩
    · rw [lb]; decide
    · rw [lb]; decide
    rw [lb]
    have nD : ∀ {k : Nat}, H D = none := fun {_} => Z.same.free hD
    refine lc_range (lo := 0) (n := 42) (fun k H' => Same _ H' ∧ H' l26 = some (.lst (names42.map fun x => V.bl (b x))) ∧ H' D = some (.lst ((hits (names42.map b) k).map fun n : Nat => V.int (n : Int)))) ⟨Z.same.trans (fun c o z => by rw [upd_ne (ne_of_none z hD)]; exact z), (upd_ne (ne_of_none Z.lst hD)).trans Z.lst, upd_same⟩ ?_ ?_
    · rintro k H' hk ⟨sm, hl, hDl⟩
      have nl : l26 ≠ D := ne_of_none Z.lst hD
      have atk : atI (names42.map fun x => V.bl (b x)) ((k : Nat) : Int) = some (.bl ((names42.map b).getD k false)) := by
        refine atI_nat ?_
        have hk2 : k < names42.length := hk
        rw [List.getElem?_map, List.getElem?_eq_getElem hk2]
        simp [List.getD, List.getElem?_map, List.getElem?_eq_getElem hk2]
      refine ⟨rfl, _, rfl, _, rfl, l26, _, _, _, rfl, rfl, SqL.of hl, (show atI _ (0 + ((k : Nat) : Int)) = _ by rw [Int.zero_add]; exact atk), _, rfl, ite2 (fun c => ?_) (fun c => ?_)⟩
      · refine ⟨_, rfl, _, hDl, ?_, fun c o z => ?_, ?_, ?_⟩
        · rw [List.length_map]
          have := hits_len (names42.map b) k
          rw [sizeLine_eq]
          omega
        · rw [upd_ne (ne_of_none z (Z.same.free hD))]
          exact sm _ _ z
        · rw [upd_ne nl]
          exact hl
        · rw [upd_same, hits_succ, if_pos c, List.map_append]
          simp
      · refine ⟨sm, hl, ?_⟩
        rw [hits_succ, if_neg c, List.append_nil]
        exact hDl
    · rintro H' ⟨sm, hl, hDl⟩
      exact want H' D sm (Z.same.free hD) hDl
end
end Eo
end L2
set_option Elab.async false
set_option linter.all false
set_option maxRecDepth 100000
set_option maxHeartbeats 8000000
/-! Eo, part 10: the look at a list of errors. -/
namespace L2
namespace Eo
open PySem PySem.Spec PyProof.Rows
abbrev sRight : Stmt := topS 56
/-- what is known of the classes -/
structure Facts (K : PySem.W.Frag) : Prop where
  ea : ∀ x ∈ ("StopError" : Str) :: names42, EoM.ErA K (He.ga K x)
  noV : ∀ x ∈ kinds, PySem.W.findIn K (.ref (He.ga K x)) "value" = some none
  kit : ∀ x ∈ names42, ∀ y ∈ names42, PySem.W.kitOne K (.ref (He.ga K x)) (.ref (He.ga K y)) = some (decide (y = x))
  stop : ∀ x ∈ ("StopError" : Str) :: names42, PySem.W.kitOne K (.ref (He.ga K x)) (.ref (He.ga K "StopError")) = some true
  ve : ∀ x ∈ ("StopError" : Str) :: names42, PySem.W.kitOne K (.ref (He.ga K x)) (.type "ValueError") = some true
  bare : ∀ y ∈ names42, PySem.W.kitOne K (.ref (He.ga K "StopError")) (.ref (He.ga K y)) = some false
theorem kinds_len : kinds.length = 40 := by decide +kernel
theorem kinds_in {x : Str} (h : x ∈ kinds) : x ∈ names42 := List.mem_append_left _ h
/-- the k-th class is asked for at its own place alone -/
def hitOk (k : Nat) : Bool := decide (hits (names42.map fun y => decide (y = kinds.getD k "")) 42 = [k])
theorem hits_all : (List.range 40).all hitOk = true := by decide +kernel
theorem hits_one {k : Nat} (hk : k < 40) {x : Str} (hx : kinds[k]? = some x) : hits (names42.map fun y => decide (y = x)) 42 = [k] := by
  have z := List.all_eq_true.mp hits_all k (List.mem_range.mpr hk)
  have e : kinds.getD k "" = x := by simp [List.getD, hx]
  unfold hitOk at z
  rw [e] at z
  exact of_decide_eq_true z
theorem paired_get {α β : Type} {F : α → β → Prop} : ∀ {xs : List α} {ys : List β} {i : Nat} {x : α}, Paired F xs ys → xs[i]? = some x → ∃ y, ys[i]? = some y ∧ F x y
  | _, _, _, _, .nil, e => by simp at e
  | _, _, 0, _, .cons r _, e => by simp at e; subst e; exact ⟨_, rfl, r⟩
  | _, _, i + 1, x, .cons _ t, e => by
    obtain ⟨u, h1, h2⟩ := paired_get (i := i) (x := x) t (by simpa using e)
    exact ⟨u, by simpa using h1, h2⟩
/-- the i-th error of such a list -/
theorem errs_get {K : PySem.W.Frag} {H : Hp} {es : List Addr} {v : V} (h : ErrsAt H es (kinds.map (He.ga K)) v) {i : Nat} {e : Addr} (he : es[i]? = some e) :
    ∃ (x : Str) (d : Addr), kinds[i]? = some x ∧ x ∈ kinds ∧ i < 40 ∧ H e = some (exo e (He.ga K x) (some d)) ∧ H d = some (exd d [(("value" : Str), v)]) := by
  obtain ⟨C, hC, d, a, b⟩ := paired_get h he
  rw [List.getElem?_map] at hC
  cases hx : kinds[i]? with
  | none =>
    rw [hx] at hC
    cases hC
  | some x =>
    rw [hx] at hC
    cases hC
    have lt : i < kinds.length := (List.getElem?_eq_some_iff.mp hx).1
    exact ⟨x, d, rfl, List.mem_of_getElem? hx, by rw [kinds_len] at lt; exact lt, a, b⟩
theorem errs_get' {K : PySem.W.Frag} {es : List Addr} {i : Nat} {y : V} (h : (es.map V.ref)[i]? = some y) : ∃ e, es[i]? = some e ∧ y = .ref e := by
  rw [List.getElem?_map] at h
  cases q : es[i]? with
  | none =>
    rw [q] at h
    cases h
  | some e =>
    rw [q] at h
    exact ⟨e, rfl, (Option.some.inj h).symm⟩
/-- lists of one number each, counted from 0 -/
def Ones (H : Hp) (ls : List Addr) : Prop := ∀ (i : Nat) (l : Addr), ls[i]? = some l → H l = some (.lst [.int (i : Int)])
theorem Ones.mono {H H' : Hp} {ls : List Addr} (k : Same H H') (h : Ones H ls) : Ones H' ls := fun i l e => k _ _ (h i l e)
theorem Ones.snoc {H : Hp} {ls : List Addr} {l : Addr} (h : Ones H ls) (hl : H l = some (.lst [.int (ls.length : Int)])) : Ones H (ls ++ [l]) := fun i m e => by
  by_cases q : i < ls.length
  · rw [List.getElem?_append_left q] at e
    exact h i m e
  · rw [List.getElem?_append_right (by omega)] at e
    have z : i = ls.length := by
      cases hz : i - ls.length with
      | zero => omega
      | succ n =>
        rw [hz] at e
        simp at e
    subst z
    simp at e
    subst e
    exact hl
def onesD (a n : Nat) : List PyData := (List.range' a n).map fun i : Nat => .list [.int (i : Int)]
theorem ones_dp {K : PySem.W.Frag} {H : Hp} : ∀ (ls : List Addr) (a : Nat), (∀ (i : Nat) (l : Addr), ls[i]? = some l → H l = some (.lst [.int ((a + i : Nat) : Int)])) → DpAll K H (ls.map V.ref) (onesD a ls.length)
  | [], _, _ => .nil
  | l :: ls, a, h => .cons (.lst (SqL.of (by have z := h 0 l rfl; rw [Nat.add_zero] at z; exact z)) (.cons (.int _) .nil)) (ones_dp ls (a + 1) fun i m e => by
      have z := h (i + 1) m (by simpa using e)
      have q : a + 1 + i = a + (i + 1) := by omega
      rw [q]
      exact z)
theorem ones40 : SeqAt.shaped (.list (onesD 0 40)) = true ∧ PyData.eqv (.list (onesD 0 40)) (.list (onesD 0 40)) = true := by decide +kernel
theorem nil_shaped : SeqAt.shaped (.list []) = true ∧ PyData.eqv (.list []) (.list []) = true := by decide +kernel
theorem Ones.dp {K : PySem.W.Frag} {H : Hp} {D : Addr} {ls : List Addr} (hD : H D = some (.lst (ls.map V.ref))) (h : Ones H ls) (n : ls.length = 40) : Dp K H (.ref D) (.list (onesD 0 40)) := by
  have z := ones_dp (K := K) ls 0 fun i l e => by
    rw [Nat.zero_add]
    exact h i l e
  rw [n] at z
  exact .lst (SqL.of hD) z
theorem same_upd {H : Hp} {a : Addr} {o : HO} (n : H a = none) : Same H (upd H a o) := fun b u e => by
  rw [upd_ne (ne_of_none e n)]
  exact e
def spRight (K : PySem.W.Frag) : Sp := fun vs H Q _ => ∃ (l : Addr) (es : List Addr) (v : V) (d : PyData) (n : Nat), vs = [.ref l, .str d.shown] ∧ H l = some (.lst (es.map V.ref)) ∧ ErrsAt H es (kinds.map (He.ga K)) v ∧
  Sho n H v d ∧ d.showable = true ∧ d.depth ≤ 30 ∧ d.shown.length ≤ sizeLine ∧ ∀ H', Same H H' → Q (.bl true) H'
section
variable {P : Program} {w : World} {K : PySem.W.Frag} {mg : Str → Option Value} {base : Heap}
theorem scRight : FnScope ["_law_some", "_law_noted", "_law_error", "_law_at"] ["_law_some", "_law_noted"] (defScope sRight) := ⟨rfl, rfl, rfl, by decide +kernel, rfl, by decide +kernel, by decide +kernel⟩
theorem ok_right {f fC fE : Addr} {fd fdC fdE : FuncData} (T : Facts K) (F : Fun K "_law_right" "_law_right" sRight f fd) (FC : Fun K "_law_code" "_law_code" sCode fC fdC) (FE : Fun K "_law_is_error" "_law_is_error" sIsError fE fdE)
    (KN : ∀ x ∈ names42, mg x = some (.ref (He.ga K x))) (gS : mg "StopError" = some (.ref (He.ga K "StopError"))) (gC : mg "_law_code" = some (.ref fC)) (gE : mg "_law_is_error" = some (.ref fE))
    (gI : mg "isinstance" = none) (gR : mg "range" = none) (gL : mg "len" = none) (gV : mg "ValueError" = none) (gP : mg "repr" = none) : FnG P w K mg base 2 f fd ["_law_some", "_law_noted"] (spRight K) := by
  have GC : FnOk P w K mg base CX0 1 fC fdC ["_law_error"] (spCode K) := ok_code FC KN gI gR gL
  have bC : Binds K fdC ["_law_error"] [] := FC.binds fun _ _ _ _ _ _ us hl => match us, hl with | [_], _ => rfl
  have GE : FnOk P w K mg base CX0 1 fE fdE ["_law_error"] (spIsError K) := ok_isError FE gS gI gV
  have bE : Binds K fdE ["_law_error"] [] := FE.binds fun _ _ _ _ _ _ us hl => match us, hl with | [_], _ => rfl
  refine fnG_of F scRight (fun vs H Q h => ?_) (fun cdv A below s H vs Q hgd hr h => ?_)
  · obtain ⟨l, es, v, d, n, rfl, _⟩ := h
    rfl
  · obtain ⟨l, es, v, d, n, rfl, hl, her, hsho, hs1, hs2, hs3, want⟩ := h
    have n40 : es.length = 40 := (paired_len her).trans (by rw [List.length_map]; exact kinds_len)
    refine ⟨_, pss_cons (ps_if (pt_cmpR (op_neD hr.units) (pe_lc (own := [("_law_error", 2)]) (g := gName 2) (tt := tYes) (te := tCall (spCode K) [] E0 (tCons (tVar 2) tNil)) rfl scRight.nd (pi_list (pv 0))
          (blkOk_by (N := ["_law_some", "_law_noted", "_law_error", "_law_at"]) (sc := defScope sRight) (by decide +kernel)) (fun _ _ _ _ _ => pg_name (i := 2) scRight.nd rfl (Or.inl rfl)) (fun _ _ _ _ _ => pts_nil)
          (fun _ _ _ _ _ => pe_call GC hr rfl gC FC.kp bC .nil pass0 (pa_cons (pv 2) pa_nil)))
        (pe_lc (own := [("_law_at", 3)]) (g := gName 3) (tt := tYes) (te := tLst (tCons (tVar 3) tNil)) rfl scRight.nd (pi_range1 rfl gR (pa_cons pe_int pa_nil))
          (blkOk_by (N := ["_law_some", "_law_noted", "_law_error", "_law_at"]) (sc := defScope sRight) (by decide +kernel)) (fun _ _ _ _ _ => pg_name (i := 3) scRight.nd rfl (Or.inl rfl)) (fun _ _ _ _ _ => pts_nil)
          (fun _ _ _ _ _ => pe_lst (pa_cons (pv 3) pa_nil))) (nomark _)) (pss_one (ps_ret pe_bl)) pss_nil)
      (pss_one (ps_ret (pe_cmpR (op_eqD hr.units) (pe_lc (own := [("_law_error", 2)]) (g := gName 2) (te := tVar 2)
          (tt := tOr (tNot (tB (tCall (spIsError K) [] E0 (tCons (tVar 2) tNil)))) (tTest (tOp rNe (tCB rShow (tCons (tVal K (tVar 2)) tNil)) (tVar 1)))) rfl scRight.nd (pi_list (pv 0))
          (blkOk_by (N := ["_law_some", "_law_noted", "_law_error", "_law_at"]) (sc := defScope sRight) (by decide +kernel)) (fun _ _ _ _ _ => pg_name (i := 2) scRight.nd rfl (Or.inl rfl))
          (fun _ _ _ _ _ => pts_one (PW.pt (pw_or (pt_not (pt_val (pe_call GE hr rfl gE FE.kp bE .nil pass0 (pa_cons (pv 2) pa_nil)))) (pw_or1 (pt_cmpR op_ne (pe_callB (call_repr hgd hr.units) (by rfl) gP boot_repr (pa_cons (pe_val (pv 2)) pa_nil)) (pv 1) (nomark _))))))
          (fun _ _ _ _ _ => pv 2)) (pe_lst pa_nil) (nomark _)))), ?_⟩
    refine ⟨_, rfl, l, rfl, ⟨_, SqL.of hl⟩, fun D hD => ?_⟩
    refine lc_list (K := K) (a := l) (xs := es.map V.ref) (fun k H' => Same H H' ∧ ∃ ls : List Addr, ls.length = k ∧ H' D = some (.lst (ls.map V.ref)) ∧ Ones H' ls ∧ D ∉ ls) ⟨same_upd hD, [], rfl, upd_same, fun i l z => by simp at z, List.not_mem_nil⟩ (fun k H' _ z => SqL.of (z.1 _ _ hl)) ?_ ?_
    · rintro k y H' hy ⟨sm, ls, hn, hDl, hon, nin⟩
      obtain ⟨e, he, rfl⟩ := errs_get' (K := K) hy
      obtain ⟨x, dd, hx, xk, k40, ae, ad⟩ := errs_get her he
      refine ⟨rfl, tyes ?_⟩
      refine ⟨_, rfl, e, He.ga K x, fun y => decide (y = x), rfl, T.ea x (List.mem_cons_of_mem _ (kinds_in xk)), .inl ⟨dd, v, sm _ _ ae, sm _ _ ad⟩, T.kit x (kinds_in xk), fun H2 m s2 hm hml => ?_⟩
      rw [hits_one k40 hx] at hml
      have hD2 := s2 _ _ hDl
      have mD : m ≠ D := fun z => by
        rw [z, hDl] at hm
        cases hm
      refine ⟨_, hD2, by rw [List.length_map, sizeLine_eq]; omega, fun b o z => ?_, ls ++ [m], by rw [List.length_append, hn]; rfl, by rw [upd_same, List.map_append]; rfl, ?_, ?_⟩
      · rw [upd_ne (ne_of_none z hD)]
        exact s2 _ _ (sm _ _ z)
      · have z : Ones H2 (ls ++ [m]) := (hon.mono s2).snoc (by rw [hml, hn]; rfl)
        intro i q hq
        have qD : q ≠ D := fun w => by
          rcases List.mem_append.mp (List.mem_of_getElem? hq) with a | a
          · exact nin (w ▸ a)
          · exact mD ((List.mem_singleton.mp a).symm.trans w)
        rw [upd_ne qD]
        exact z i q hq
      · intro z
        rcases List.mem_append.mp z with a | a
        · exact nin a
        · exact mD (List.mem_singleton.mp a).symm
    · rintro H1 ⟨sm1, ls, hn, hDl, hon, nin⟩
      rw [List.length_map, n40] at hn
      refine ⟨_, rfl, by decide, by decide, fun D2 hD2 => ?_⟩
      refine lc_range (lo := 0) (n := 40) (fun k H' => Same H1 H' ∧ ∃ ms : List Addr, ms.length = k ∧ H' D2 = some (.lst (ms.map V.ref)) ∧ Ones H' ms ∧ D2 ∉ ms) ⟨same_upd hD2, [], rfl, upd_same, fun i l z => by simp at z, List.not_mem_nil⟩ ?_ ?_
      · rintro k H' hk ⟨sm, ms, hm, hDm, hom, nin2⟩
        refine ⟨rfl, tyes ?_⟩
        refine ⟨_, rfl, by show 1 ≤ sizeLine; decide, fun m hmn => ?_⟩
        have mD : m ≠ D2 := fun z => by
          rw [z, hDm] at hmn
          cases hmn
        have hD3 : upd H' m (.lst [.int (0 + (k : Int))]) D2 = some (.lst (ms.map V.ref)) := (upd_ne mD.symm).trans hDm
        refine ⟨_, hD3, by rw [List.length_map, sizeLine_eq]; omega, fun b o z => ?_, ms ++ [m], by rw [List.length_append, hm]; rfl, by rw [upd_same, List.map_append]; rfl, ?_, ?_⟩
        · rw [upd_ne (ne_of_none z hD2), upd_ne (ne_of_none (sm _ _ z) hmn)]
          exact sm _ _ z
        · have z : Ones (upd H' m (.lst [.int (0 + (k : Int))])) (ms ++ [m]) := (hom.mono (same_upd hmn)).snoc (by rw [upd_same, hm, Int.zero_add])
          intro i q hq
          have qD : q ≠ D2 := fun w => by
            rcases List.mem_append.mp (List.mem_of_getElem? hq) with a | a
            · exact nin2 (w ▸ a)
            · exact mD ((List.mem_singleton.mp a).symm.trans w)
          rw [upd_ne qD]
          exact z i q hq
        · intro z
          rcases List.mem_append.mp z with a | a
          · exact nin2 a
          · exact mD (List.mem_singleton.mp a).symm
      · rintro H2 ⟨sm2, ms, hm, hDm, hom, nin2⟩
        refine ⟨.list (onesD 0 40), .list (onesD 0 40), Ones.dp (sm2 _ _ hDl) (hon.mono sm2) hn, Ones.dp hDm hom hm, ones40.1, ones40.1, _, rfl, ?_⟩
        rw [ones40.2]
        refine iteF ?_
        have s02 := sm1.trans sm2
        refine ⟨_, rfl, l, rfl, ⟨_, SqL.of (s02 _ _ hl)⟩, fun D3 hD3 => ?_⟩
        refine lc_list (K := K) (a := l) (xs := es.map V.ref) (fun k H' => Same H2 H' ∧ H' D3 = some (.lst [])) ⟨same_upd hD3, upd_same⟩ (fun k H' _ z => SqL.of (z.1 _ _ (s02 _ _ hl))) ?_ ?_
        · rintro k y H' hy ⟨sm, hDl3⟩
          obtain ⟨e, he, rfl⟩ := errs_get' (K := K) hy
          obtain ⟨x, dd, hx, xk, k40, ae, ad⟩ := errs_get her he
          have s3 := s02.trans sm
          have x1 := List.mem_cons_of_mem ("StopError" : Str) (kinds_in xk)
          refine ⟨rfl, _, rfl, e, He.ga K x, rfl, T.ea x x1, .inl ⟨dd, v, s3 _ _ ae, s3 _ _ ad⟩, T.stop x x1, T.ve x x1, true, rfl, ?_⟩
          refine iteF ?_
          refine ⟨_, rfl, e, He.ga K x, dd, v, rfl, T.ea x x1, T.noV x xk, s3 _ _ ae, s3 _ _ ad, ?_⟩
          refine ⟨v, d, n, rfl, hsho.mono s3, hs1, hs2, hs3, _, rfl, rfl, _, rfl, ?_⟩
          have e2 : (!decide (V.str d.shown = V.str d.shown)) = false := by simp
          rw [e2]
          refine iteF ?_
          exact ⟨sm, hDl3⟩
        · rintro H3 ⟨sm3, hDl3⟩
          refine ⟨Nat.zero_le _, fun p hp => ?_⟩
          refine ⟨.list [], .list [], .lst (SqL.of ((upd_ne (ne_of_none hDl3 hp)).trans hDl3)) .nil, .lst (SqL.of upd_same) .nil, nil_shaped.1, nil_shaped.1, ?_⟩
          rw [nil_shaped.2]
          exact want _ ((s02.trans sm3).trans (same_upd hp))
end
end Eo
end L2
set_option Elab.async false
set_option linter.all false
set_option maxRecDepth 100000
set_option maxHeartbeats 4000000
/-! Eo, part 11: the things that errors are made with. -/
namespace L2
namespace Eo
open PySem PySem.Spec PyProof.Rows
/-- an error without a field, made -/
theorem pe_bareE {X : Cx} {x : Str} {p pos : Pos} {C : Addr} (q : PySem.W.excIn X.K C [.type "ValueError", .type "Exception", .type "BaseException", .type "object"] "ValueError.__new__" = true) (gC : X.mg x = some (.ref C)) (kC : PySem.W.keepIn X.K (.ref C) = true) (hg : Gl X x)
    (hd : (x == ("__debug__" : Str)) = false := by decide) : PE X (.Call (.Name x p) [] [] pos) (fun _ H Q => ∀ a, H a = none → Q (.ref a) (upd H a (ExO (.ref C) a))) := by
  refine ⟨fun pins s σ H Q I h => ?_⟩
  refine wpAny_Call_Name_kw (ld_glob I hg gC ?_ hd)
  obtain ⟨bm, N, nm, qn, bs, hdct, sn, sub, ab, col, dd, k0, k1, k2, k3, k5, mN, hC, hN, hni, T⟩ := exc_obj I.kIn q
  refine PySem.W.callWith_K0 I.kIn kC (wpAny_call_exc_subT F.excBase_ValueError T hC hN hni (fun h' a hm => ?_) (Nat.zero_le _))
  have hn : H a = none := I.hok.gone hm.new
  obtain ⟨t, ht, _, _⟩ := hm.there
  exact ⟨.ref a, upd H a (ExO (.ref C) a), I.laidN hm.keeps hm.new hn (exO_ok ht ⟨rfl, rfl⟩ rfl rfl rfl (show 4 < 6 by decide)), rfl, h a hn⟩
/-- data that repr can show -/
def Fits (d : PyData) : Prop := d.showable = true ∧ d.depth ≤ 30 ∧ d.shown.length ≤ 1000
theorem Fits.size {d : PyData} (h : Fits d) : d.shown.length ≤ sizeLine := Nat.le_trans h.2.2 (by rw [sizeLine_eq]; decide)
/-- the heap without the object at a -/
def hideH (H : Hp) (a : Addr) : Hp := fun b => if b = a then none else H b
theorem hide_to {H H' : Hp} {a : Addr} (k : ∀ b o, b ≠ a → H b = some o → H' b = some o) : ∀ b o, hideH H a b = some o → H' b = some o := fun b o e => by
  unfold hideH at e
  by_cases q : b = a
  · rw [if_pos q] at e
    cases e
  · rw [if_neg q] at e
    exact k b o q e
/-- what is no list -/
def NoList (H : Hp) (v : V) : Prop := v = .non ∨ (∃ b, v = .bl b) ∨ (∃ i, v = .int i) ∨ (∃ x, v = .str x) ∨ (∃ a xs, v = .ref a ∧ H a = some (.tup xs)) ∨ (∃ a, v = .ref a ∧ H a = some (.dK []))
theorem NoList.ty {K : PySem.W.Frag} {H : Hp} {v : V} (h : NoList H v) : ∃ t, TyX K H v t ∧ PySem.W.kitOne K t (.type "list") = some false := by
  rcases h with rfl | ⟨b, rfl⟩ | ⟨i, rfl⟩ | ⟨x, rfl⟩ | ⟨a, xs, rfl, e⟩ | ⟨a, rfl, e⟩
  · exact ⟨_, .base .non, kit_ty (by decide +kernel)⟩
  · exact ⟨_, .base (.bl b), kit_ty (by decide +kernel)⟩
  · exact ⟨_, .base (.int i), kit_ty (by decide +kernel)⟩
  · exact ⟨_, .base (.str x), kit_ty (by decide +kernel)⟩
  · exact ⟨_, .base (.tup e), kit_ty (by decide +kernel)⟩
  · exact ⟨_, .base (.dK e), kit_ty (by decide +kernel)⟩
/-- a thing: a list, whose items stand apart from it, or no list -/
def Thing (H : Hp) (v : V) : Prop :=
  (∃ (a : Addr) (xs : List V) (ds : List PyData) (n : Nat), v = .ref a ∧ H a = some (.lst xs) ∧ xs.length ≤ 100 ∧ PyData.hasDictAll ds = false ∧ Paired (Sho n (hideH H a)) xs ds ∧ Fits (.list ds) ∧ Fits (.list (ds ++ [.str "later"]))) ∨
  (∃ (d : PyData) (n : Nat), Sho n H v d ∧ Fits d ∧ NoList H v)
theorem Thing.shown {H : Hp} {v : V} (h : Thing H v) : ∃ (d : PyData) (n : Nat), Sho n H v d ∧ Fits d := by
  rcases h with ⟨a, xs, ds, n, rfl, e, _, nd, ps, f, _⟩ | ⟨d, n, s, f, _⟩
  · exact ⟨.list ds, n + 1, .inr (.inl ⟨a, xs, ds, rfl, rfl, e, nd, L2.Paired.mapP ps fun _ _ z => z.mono (hide_to fun _ _ _ q => q)⟩), f⟩
  · exact ⟨d, n, s, f⟩
theorem NoList.mono {H H' : Hp} {v : V} (k : Same H H') (h : NoList H v) : NoList H' v := by
  rcases h with h | h | h | h | ⟨a, xs, e1, e2⟩ | ⟨a, e1, e2⟩
  · exact .inl h
  · exact .inr (.inl h)
  · exact .inr (.inr (.inl h))
  · exact .inr (.inr (.inr (.inl h)))
  · exact .inr (.inr (.inr (.inr (.inl ⟨a, xs, e1, k _ _ e2⟩))))
  · exact .inr (.inr (.inr (.inr (.inr ⟨a, e1, k _ _ e2⟩))))
theorem hide_same {H H' : Hp} {a : Addr} (k : Same H H') : Same (hideH H a) (hideH H' a) := fun b o e => by
  unfold hideH at e ⊢
  by_cases q : b = a
  · rw [if_pos q] at e
    cases e
  · rw [if_neg q] at e ⊢
    exact k _ _ e
theorem Thing.mono {H H' : Hp} {v : V} (k : Same H H') (h : Thing H v) : Thing H' v := by
  rcases h with ⟨a, xs, ds, n, e1, e2, l, nd, ps, f, f2⟩ | ⟨d, n, s, f, nl⟩
  · exact .inl ⟨a, xs, ds, n, e1, k _ _ e2, l, nd, L2.Paired.mapP ps fun _ _ z => z.mono (hide_same k), f, f2⟩
  · exact .inr ⟨d, n, s.mono k, f, nl.mono k⟩
/-! ### how long they are shown -/
theorem lt1 (x : Str) : (listText [x]).length = x.length + 2 := by
  have e : listText [x] = ((Str.ofString "[" ++ Str.ofString "") ++ x) ++ Str.ofString "]" := rfl
  rw [e, Str.length_append, Str.length_append, Str.length_append]
  have e1 : (Str.ofString "[").length = 1 := by decide
  have e2 : (Str.ofString "").length = 0 := by decide
  have e3 : (Str.ofString "]").length = 1 := by decide
  omega
theorem lt2 (x y : Str) : (listText [x, y]).length = x.length + y.length + 4 := by
  have e : listText [x, y] = ((((Str.ofString "[" ++ Str.ofString "") ++ x) ++ Str.ofString ", ") ++ y) ++ Str.ofString "]" := rfl
  rw [e, Str.length_append, Str.length_append, Str.length_append, Str.length_append, Str.length_append]
  have e1 : (Str.ofString "[").length = 1 := by decide
  have e2 : (Str.ofString "").length = 0 := by decide
  have e3 : (Str.ofString "]").length = 1 := by decide
  have e4 : (Str.ofString ", ").length = 2 := by decide
  omega
theorem tt2 (x y : Str) : (tupleText [x, y]).length = x.length + y.length + 4 := by
  have e : tupleText [x, y] = (Str.ofString "(" ++ ((x ++ Str.ofString ", ") ++ y)) ++ Str.ofString ")" := rfl
  rw [e, Str.length_append, Str.length_append, Str.length_append, Str.length_append]
  have e1 : (Str.ofString "(").length = 1 := by decide
  have e3 : (Str.ofString ")").length = 1 := by decide
  have e4 : (Str.ofString ", ").length = 2 := by decide
  omega
end Eo
end L2
set_option Elab.async false
set_option linter.all false
set_option maxRecDepth 100000
set_option maxHeartbeats 4000000
/-! Eo, part 12: the thirteen things. -/
namespace L2
namespace Eo
open PySem PySem.Spec PyProof.Rows
theorem low_shown {w : Str} (h : Low 8 w) : (reprText w).length ≤ 82 := by
  have z := PySem.StrLaws.reprText_len w fun c hc => Nat.lt_of_lt_of_le (h.2 c hc) (by decide)
  have := h.1
  omega
theorem later_shown : (reprText ("later" : Str)).length ≤ 20 := by decide +kernel
theorem one_shown : (Str.ofString (toString (1 : Int))).length ≤ 20 := by decide +kernel
theorem nilL : (listText []).length ≤ 20 := by decide +kernel
theorem nilT : (tupleText []).length ≤ 20 := by decide +kernel
theorem nilD : (dictText []).length ≤ 20 := by decide +kernel
section
variable {H : Hp} {w : Str}
theorem fit_list1 {d : PyData} (h : d.showable = true) (h2 : d.depth ≤ 20) (h3 : d.shown.length ≤ 300) : Fits (.list [d]) := by
  refine ⟨?_, ?_, ?_⟩
  · show (d.showable && true) = true
    rw [h]; rfl
  · simp [PyData.depth, PyData.depthAll]; omega
  · show (listText [d.shown]).length ≤ 1000
    rw [lt1]; omega
theorem fit_list2 {d e : PyData} (h : d.showable = true) (h2 : d.depth ≤ 20) (h3 : d.shown.length ≤ 300) (k : e.showable = true) (k2 : e.depth ≤ 20) (k3 : e.shown.length ≤ 300) : Fits (.list [d, e]) := by
  refine ⟨?_, ?_, ?_⟩
  · show (d.showable && (e.showable && true)) = true
    rw [h, k]; rfl
  · simp [PyData.depth, PyData.depthAll]; omega
  · show (listText [d.shown, e.shown]).length ≤ 1000
    rw [lt2]; omega
theorem fit_tup2 {d e : PyData} (h : d.showable = true) (h2 : d.depth ≤ 20) (h3 : d.shown.length ≤ 200) (k : e.showable = true) (k2 : e.depth ≤ 20) (k3 : e.shown.length ≤ 90) : Fits (.tuple [d, e]) ∧ (PyData.tuple [d, e]).depth ≤ 21 ∧ (PyData.tuple [d, e]).shown.length ≤ 294 := by
  refine ⟨⟨?_, ?_, ?_⟩, ?_, ?_⟩
  · show (d.showable && (e.showable && true)) = true
    rw [h, k]; rfl
  · simp [PyData.depth, PyData.depthAll]; omega
  · show (tupleText [d.shown, e.shown]).length ≤ 1000
    rw [tt2]; omega
  · simp [PyData.depth, PyData.depthAll]; omega
  · show (tupleText [d.shown, e.shown]).length ≤ 294
    rw [tt2]; omega
theorem thing_w (h : Low 8 w) : Thing H (.str w) := .inr ⟨.str w, 0, .inr (.inr (.inr ⟨w, rfl, rfl⟩)), ⟨rfl, by simp [PyData.depth], by
  show (reprText w).length ≤ 1000
  have := low_shown h
  omega⟩, .inr (.inr (.inr (.inl ⟨w, rfl⟩)))⟩
theorem thing_non : Thing H .non := .inr ⟨.none, 0, .inl ⟨rfl, rfl⟩, ⟨rfl, by decide, by decide +kernel⟩, .inl rfl⟩
theorem thing_bl (b : Bool) : Thing H (.bl b) := .inr ⟨.bool b, 0, .inr (.inl ⟨b, rfl, rfl⟩), ⟨rfl, by simp [PyData.depth], by cases b <;> decide +kernel⟩, .inr (.inl ⟨b, rfl⟩)⟩
theorem thing_0 : Thing H (.int 0) := .inr ⟨.int 0, 0, .inr (.inr (.inl ⟨0, rfl, rfl⟩)), ⟨by decide +kernel, by decide, by decide +kernel⟩, .inr (.inr (.inl ⟨0, rfl⟩))⟩
theorem low_e : Low 8 ("" : Str) := ⟨by decide, by decide +kernel⟩
theorem thing_tup0 {a : Addr} (h : H a = some (.tup [])) : Thing H (.ref a) := .inr ⟨.tuple [], 1, .inr (.inr (.inl ⟨a, [], [], rfl, rfl, h, rfl, .nil⟩)), ⟨rfl, by decide, by decide +kernel⟩, .inr (.inr (.inr (.inr (.inl ⟨a, [], rfl, h⟩))))⟩
theorem thing_dict {a : Addr} (h : H a = some (.dK [])) : Thing H (.ref a) := .inr ⟨.dict [], 1, .inr (.inr (.inr ⟨a, rfl, rfl, h⟩)), ⟨rfl, by decide, by decide +kernel⟩, .inr (.inr (.inr (.inr (.inr ⟨a, rfl, h⟩))))⟩
theorem sho_str {n : Nat} {x : Str} : Sho n H (.str x) (.str x) := by
  cases n with
  | zero => exact .inr (.inr (.inr ⟨x, rfl, rfl⟩))
  | succ n => exact .inl (.inr (.inr (.inr ⟨x, rfl, rfl⟩)))
theorem thing_lst0 {a : Addr} (h : H a = some (.lst [])) : Thing H (.ref a) := .inl ⟨a, [], [], 0, rfl, h, Nat.zero_le _, rfl, .nil, ⟨rfl, by decide, by decide +kernel⟩, fit_list1 rfl (by decide) (by have := later_shown; show (reprText _).length ≤ 300; omega)⟩
theorem thing_wl {a : Addr} (hw : Low 8 w) (h : H a = some (.lst [.str w])) : Thing H (.ref a) := by
  have z := low_shown hw
  have y := later_shown
  exact .inl ⟨a, [.str w], [.str w], 0, rfl, h, (show 1 ≤ 100 by decide), rfl, .cons sho_str .nil, fit_list1 rfl (by simp [PyData.depth, PyData.depthAll]) (by show (reprText _).length ≤ 300; omega), fit_list2 rfl (by simp [PyData.depth, PyData.depthAll]) (by show (reprText _).length ≤ 300; omega) rfl (by simp [PyData.depth, PyData.depthAll]) (by show (reprText _).length ≤ 300; omega)⟩
theorem thing_wt {a : Addr} (hw : Low 8 w) (h : H a = some (.tup [.str w, .int 1])) : Thing H (.ref a) := by
  have z := low_shown hw
  exact .inr ⟨.tuple [.str w, .int 1], 1, .inr (.inr (.inl ⟨a, _, [.str w, .int 1], rfl, rfl, h, rfl, .cons sho_str (.cons (.inr (.inr (.inl ⟨1, rfl, rfl⟩))) .nil)⟩)),
    (fit_tup2 (d := .str w) (e := .int 1) rfl (by simp [PyData.depth, PyData.depthAll]) (by show (reprText _).length ≤ 200; omega) (by decide +kernel) (by simp [PyData.depth, PyData.depthAll]) (by decide +kernel)).1, .inr (.inr (.inr (.inr (.inl ⟨a, _, rfl, h⟩))))⟩
theorem hide_at {a b : Addr} {o : HO} (n : b ≠ a) (h : H b = some o) : hideH H a b = some o := by
  unfold hideH
  rw [if_neg n]
  exact h
theorem thing_wtl {a t q : Addr} (hw : Low 8 w) (h : H a = some (.lst [.ref t])) (ht : H t = some (.tup [.str w, .ref q])) (hq : H q = some (.lst [])) (n1 : t ≠ a) (n2 : q ≠ a) : Thing H (.ref a) := by
  have z := low_shown hw
  have y := later_shown
  have f := fit_tup2 (d := .str w) (e := .list []) rfl (by simp [PyData.depth, PyData.depthAll]) (by show (reprText _).length ≤ 200; omega) rfl (by simp [PyData.depth, PyData.depthAll]) (by decide +kernel)
  refine .inl ⟨a, [.ref t], [.tuple [.str w, .list []]], 2, rfl, h, (by decide : 1 ≤ 100), rfl, .cons (.inr (.inr (.inl ⟨t, _, [.str w, .list []], rfl, rfl, hide_at n1 ht, rfl, .cons sho_str (.cons (.inr (.inl ⟨q, [], [], rfl, rfl, hide_at n2 hq, rfl, .nil⟩)) .nil)⟩))) .nil, fit_list1 f.1.1 (by simp [PyData.depth, PyData.depthAll]) (by omega), ?_⟩
  exact fit_list2 f.1.1 (by simp [PyData.depth, PyData.depthAll]) (by omega) rfl (by simp [PyData.depth, PyData.depthAll]) (by show (reprText _).length ≤ 300; omega)
theorem thing_wll {a t q : Addr} (hw : Low 8 w) (h : H a = some (.lst [.ref t])) (ht : H t = some (.lst [.str w, .ref q])) (hq : H q = some (.tup [])) (n1 : t ≠ a) (n2 : q ≠ a) : Thing H (.ref a) := by
  have z := low_shown hw
  have y := later_shown
  have y0 := nilT
  have fl : (PyData.list [.str w, .tuple []]).shown.length ≤ 110 := by
    show (listText [reprText w, tupleText []]).length ≤ 110
    rw [lt2]
    omega
  refine .inl ⟨a, [.ref t], [.list [.str w, .tuple []]], 2, rfl, h, (by decide : 1 ≤ 100), rfl, .cons (.inr (.inl ⟨t, _, [.str w, .tuple []], rfl, rfl, hide_at n1 ht, rfl, .cons sho_str (.cons (.inr (.inr (.inl ⟨q, [], [], rfl, rfl, hide_at n2 hq, rfl, .nil⟩))) .nil)⟩)) .nil, fit_list1 rfl (by simp [PyData.depth, PyData.depthAll]) (by omega), ?_⟩
  exact fit_list2 rfl (by simp [PyData.depth, PyData.depthAll]) (by omega) rfl (by simp [PyData.depth, PyData.depthAll]) (by show (reprText _).length ≤ 300; omega)
end
end Eo
end L2
set_option Elab.async false
set_option linter.all false
set_option maxRecDepth 100000
set_option maxHeartbeats 8000000
/-! Eo, part 13: the law. -/
namespace L2
namespace Eo
open PySem PySem.Spec PyProof.Rows
abbrev sLaw : Stmt := topS 57
theorem scLaw : FnScope ["_law_script", "_law_purse_here", "_law_word_here", "_law_falses", "_law_thing", "_law_some", "_law_rest", "_law_error"] ["_law_script"] (defScope sLaw) := ⟨rfl, rfl, rfl, by decide +kernel, rfl, by decide +kernel, by decide +kernel⟩
/-- what the classes without a field are made by -/
structure Bares (K : PySem.W.Frag) (mg : Str → Option Value) : Prop where
  ex : ∀ x ∈ [("StopError" : Str), "NothingToUndo", "NothingToRedo"], PySem.W.excIn K (He.ga K x) [.type "ValueError", .type "Exception", .type "BaseException", .type "object"] "ValueError.__new__" = true
  kp : ∀ x ∈ [("StopError" : Str), "NothingToUndo", "NothingToRedo"], PySem.W.keepIn K (.ref (He.ga K x)) = true
  mgs : ∀ x ∈ [("StopError" : Str), "NothingToUndo", "NothingToRedo"], mg x = some (.ref (He.ga K x))
/-- where all stands -/
structure Stands (P : Program) (w : World) (K : PySem.W.Frag) (mg : Str → Option Value) (base : Heap) : Prop where
  fn : ∀ x i, (x, i) ∈ [(("_law_purse" : Str), 45), ("_law_mixed", 46), ("_law_draw", 47), ("_law_purses", 48), ("_law_one_of", 49), ("_law_word", 50), ("_law_first", 51), ("_law_called", 52), ("_law_bare", 53), ("_law_code", 54), ("_law_is_error", 55), ("_law_right", 56)] → (∃ fd, Fun K x x (topS i) (He.ga K x) fd) ∧ mg x = some (.ref (He.ga K x))
  free : ∀ x ∈ [("len" : Str), "range", "max", "min", "sum", "isinstance", "repr", "dict", "list", "ValueError"], mg x = none
  facts : Facts K
  bares : Bares K mg
  kinds : ∀ x ∈ kinds, Kind P w K mg base x
  names : ∀ x ∈ names42, mg x = some (.ref (He.ga K x))
def spLaw (K : PySem.W.Frag) : Sp := fun vs H Q _ => ∃ (sc : Addr) (ns : List Int), vs = [.ref sc] ∧ SqL K H sc (ns.map V.int) ∧ ns.length ≤ 63 ∧ ∀ H', Q (.bl true) H'
theorem dicts_app {x : Str} : ∀ {ds : List PyData}, PyData.hasDictAll ds = false → PyData.hasDictAll (ds ++ [.str x]) = false
  | [], _ => rfl
  | d :: ds, h => by
    have h1 : (d.hasDict || PyData.hasDictAll ds) = false := h
    obtain ⟨a, b⟩ := Bool.or_eq_false_iff.mp h1
    show (d.hasDict || PyData.hasDictAll (ds ++ [.str x])) = false
    rw [a, dicts_app b]
    rfl
theorem hits_undo : hits (names42.map fun y => decide (y = ("NothingToUndo" : Str))) 42 = [40] := by decide +kernel
theorem hits_redo : hits (names42.map fun y => decide (y = ("NothingToRedo" : Str))) 42 = [41] := by decide +kernel
theorem hits_none : hits (names42.map fun _ => false) 42 = [] := by decide +kernel
def restD : PyData := .list [.list [.int 40], .list [.int 41]]
theorem rest_ok : SeqAt.shaped restD = true ∧ PyData.eqv restD restD = true := by decide +kernel
section
variable {P : Program} {w : World} {K : PySem.W.Frag} {mg : Str → Option Value} {base : Heap}
theorem ok_law {f : Addr} {fd : FuncData} (S : Stands P w K mg base) (F : Fun K "law" "law" sLaw f fd) : FnG P w K mg base 4 f fd ["_law_script"] (spLaw K) := by
  have T := S.facts
  have gL := S.free "len" (by decide)
  have gR := S.free "range" (by decide)
  have gMx := S.free "max" (by decide)
  have gMn := S.free "min" (by decide)
  have gSm := S.free "sum" (by decide)
  have gI := S.free "isinstance" (by decide)
  have gP := S.free "repr" (by decide)
  have gDi := S.free "dict" (by decide)
  have gLi := S.free "list" (by decide)
  have gVE := S.free "ValueError" (by decide)
  obtain ⟨⟨_, F45⟩, g45⟩ := S.fn "_law_purse" 45 (by decide)
  obtain ⟨⟨_, F46⟩, g46⟩ := S.fn "_law_mixed" 46 (by decide)
  obtain ⟨⟨_, F47⟩, g47⟩ := S.fn "_law_draw" 47 (by decide)
  obtain ⟨⟨_, F48⟩, g48⟩ := S.fn "_law_purses" 48 (by decide)
  obtain ⟨⟨_, F49⟩, g49⟩ := S.fn "_law_one_of" 49 (by decide)
  obtain ⟨⟨_, F50⟩, g50⟩ := S.fn "_law_word" 50 (by decide)
  obtain ⟨⟨_, F51⟩, g51⟩ := S.fn "_law_first" 51 (by decide)
  obtain ⟨⟨_, F52⟩, g52⟩ := S.fn "_law_called" 52 (by decide)
  obtain ⟨⟨_, F53⟩, g53⟩ := S.fn "_law_bare" 53 (by decide)
  obtain ⟨⟨_, F54⟩, g54⟩ := S.fn "_law_code" 54 (by decide)
  obtain ⟨⟨_, F55⟩, g55⟩ := S.fn "_law_is_error" 55 (by decide)
  obtain ⟨⟨_, F56⟩, g56⟩ := S.fn "_law_right" 56 (by decide)
  have gS := S.bares.mgs "StopError" (by decide)
  have gU := S.bares.mgs "NothingToUndo" (by decide)
  have gRe := S.bares.mgs "NothingToRedo" (by decide)
  have xS := S.bares.ex "StopError" (by decide)
  have xU := S.bares.ex "NothingToUndo" (by decide)
  have xRe := S.bares.ex "NothingToRedo" (by decide)
  have kS := S.bares.kp "StopError" (by decide)
  have kU := S.bares.kp "NothingToUndo" (by decide)
  have kRe := S.bares.kp "NothingToRedo" (by decide)
  have G48 : FnOk P w K mg base CX0 2 _ _ ["_law_script", "_law_few"] (spPurses K) := ok_purses F48 F45 g45 gSm gMx gMn gR gL
  have b48 : Binds K _ ["_law_script", "_law_few"] [] := F48.binds fun _ _ _ _ _ _ us hl => match us, hl with | [_, _], _ => rfl
  have G49 : FnOk P w K mg base CX0 3 _ _ ["_law_purse_here", "_law_some"] spOneOf := ok_oneOf F49 F47 F46 g47 g46 gR gL
  have b49 : Binds K _ ["_law_purse_here", "_law_some"] [] := F49.binds fun _ _ _ _ _ _ us hl => match us, hl with | [_, _], _ => rfl
  have G50 : FnOk P w K mg base CX0 3 _ _ ["_law_purse_here"] spWord := ok_word F50 F47 F46 g47 g46 gR
  have b50 : Binds K _ ["_law_purse_here"] [] := F50.binds fun _ _ _ _ _ _ us hl => match us, hl with | [_], _ => rfl
  have G51 : FnOk P w K mg base CX0 3 _ _ ["_law_thing"] (spErrs K) := ok_first F51 S.kinds
  have b51 : Binds K _ ["_law_thing"] [] := F51.binds fun _ _ _ _ _ _ us hl => match us, hl with | [_], _ => rfl
  have G52 : FnOk P w K mg base CX0 3 _ _ ["_law_thing"] (spErrs K) := ok_called F52 S.kinds
  have b52 : Binds K _ ["_law_thing"] [] := F52.binds fun _ _ _ _ _ _ us hl => match us, hl with | [_], _ => rfl
  have G53 : FnOk P w K mg base CX0 3 _ _ [] (spBare K) := ok_bare F53 S.kinds
  have b53 : Binds K _ [] [] := F53.binds fun _ _ _ _ _ _ us hl => match us, hl with | [], _ => rfl
  have G54 : FnOk P w K mg base CX0 1 _ _ ["_law_error"] (spCode K) := ok_code F54 S.names gI gR gL
  have b54 : Binds K _ ["_law_error"] [] := F54.binds fun _ _ _ _ _ _ us hl => match us, hl with | [_], _ => rfl
  have G55 : FnOk P w K mg base CX0 1 _ _ ["_law_error"] (spIsError K) := ok_isError F55 gS gI gVE
  have b55 : Binds K _ ["_law_error"] [] := F55.binds fun _ _ _ _ _ _ us hl => match us, hl with | [_], _ => rfl
  have G56 : FnG P w K mg base 2 _ _ ["_law_some", "_law_noted"] (spRight K) := ok_right T F56 F54 F55 S.names gS g54 g55 gI gR gL gVE gP
  have b56 : Binds K _ ["_law_some", "_law_noted"] [] := F56.binds fun _ _ _ _ _ _ us hl => match us, hl with | [_, _], _ => rfl
  refine fnG_of F scLaw (fun vs H Q h => ?_) (fun cdv A below s H vs Q hgd hr h => ?_)
  · obtain ⟨sc, ns, rfl, _⟩ := h
    rfl
  · obtain ⟨sc, ns, rfl, hs, hl63, want⟩ := h
    refine ⟨_, (pss_cons (ps_for PassesOwn.never rfl (pi_list (pe_call G48 (hr.mono (by decide)) rfl g48 F48.kp b48 .nil pass0 (pa_cons (pv 0) (pa_cons pe_int pa_nil)))) (pg_name (i := 1) scLaw.nd rfl (Or.inl rfl))
      (pss_cons (ps_set (i := 2) scLaw.nd rfl (Or.inl rfl) (pe_call G50 (hr.mono (by decide)) rfl g50 F50.kp b50 .nil pass0 (pa_cons (pv 1) pa_nil)))
      (pss_cons (ps_set (i := 3) scLaw.nd rfl (Or.inl rfl) (pe_lst (pa_cons pe_int (pa_cons pe_str (pa_cons (pe_lst pa_nil) (pa_cons pe_bl (pa_cons (pe_tup pa_nil) (pa_cons (pe_callTy (call_dictP rfl) (by rfl) gDi (by decide +kernel) (pa_cons (pe_lst pa_nil) pa_nil)) pa_nil))))))))
      (pss_cons (ps_set (i := 4) scLaw.nd rfl (Or.inr rfl) (pe_call G49 (hr.mono (by decide)) rfl g49 F49.kp b49 .nil pass0 (pa_cons (pv 1) (pa_cons (pe_op op_cat (pe_lst (pa_cons (pe_lst (pa_cons (pv 2) pa_nil)) (pa_cons (pe_tup (pa_cons (pv 2) (pa_cons pe_int pa_nil))) (pa_cons (pv 2) (pa_cons pe_non (pa_cons pe_bl (pa_cons (pe_lst (pa_cons (pe_tup (pa_cons (pv 2) (pa_cons (pe_lst pa_nil) pa_nil))) pa_nil)) (pa_cons (pe_lst (pa_cons (pe_lst (pa_cons (pv 2) (pa_cons (pe_tup pa_nil) pa_nil))) pa_nil)) pa_nil)))))))) (pv 3)) pa_nil))))
      (pss_one (ps_for PassesOwn.never rfl (pi_tup (pe_tup (pa_cons (pe_call G51 (hr.mono (by decide)) rfl g51 F51.kp b51 .nil pass0 (pa_cons (pv 4) pa_nil)) (pa_cons (pe_call G52 (hr.mono (by decide)) rfl g52 F52.kp b52 .nil pass0 (pa_cons (pv 4) pa_nil)) pa_nil)))) (pg_name (i := 5) scLaw.nd rfl (Or.inl rfl))
      (pss_cons (ps_if (pt_not (pt_val (pe_callG G56 hgd (hr.mono (by decide)) rfl g56 F56.kp b56 (pa_cons (pv 5) (pa_cons (pe_callB (call_repr hgd hr.units) (by rfl) gP boot_repr (pa_cons (pv 4) pa_nil)) pa_nil))))) (pss_one (ps_ret pe_bl)) pss_nil)
      (pss_one (ps_if (pt_val (pe_callB call_isi (by rfl) gI boot_isinstance (pa_cons (pv 4) (pa_cons (pe_bltn (v := .ty "list") (by rfl) gLi (by decide +kernel) rfl) pa_nil)))) (pss_cons (ps_expr (pe_bm PySem.F.plainAttrs_list PySem.F.slot_list_append PySem.F.type_list_append mt_append (pv 4) (pa_cons pe_str pa_nil)))
      (pss_cons (ps_if (pt_cmpR (op_neD hr.units) (pe_lc (own := [("_law_error", 7)]) (g := gName 7) (te := tVar 7) (tt := tTest (tOp rNe (tCB rShow (tCons (tVal K (tVar 7)) tNil)) (tCB rShow (tCons (tVar 4) tNil)))) rfl scLaw.nd (pi_list (pv 5)) (blkOk_by (N := ["_law_script", "_law_purse_here", "_law_word_here", "_law_falses", "_law_thing", "_law_some", "_law_rest", "_law_error"]) (sc := defScope sLaw) (by decide +kernel)) (fun _ _ _ _ _ => pg_name (i := 7) scLaw.nd rfl (Or.inl rfl))
          (fun _ _ _ _ _ => pts_one (pt_cmpR op_ne (pe_callB (call_repr hgd hr.units) (by rfl) gP boot_repr (pa_cons (pe_val (pv 7)) pa_nil)) (pe_callB (call_repr hgd hr.units) (by rfl) gP boot_repr (pa_cons (pv 4) pa_nil)) (nomark _))) (fun _ _ _ _ _ => pv 7)) (pe_lst pa_nil) (nomark _)) (pss_one (ps_ret pe_bl)) pss_nil)
      (pss_one (ps_expr (pe_bm0 PySem.F.plainAttrs_list PySem.F.slot_list_pop PySem.F.type_list_pop mt_pop (pv 4)))))) pss_nil)))))))))
      (pss_cons (ps_for PassesOwn.never rfl (pi_tup (pe_tup (pa_cons pe_int (pa_cons pe_str (pa_cons pe_bl (pa_cons (pe_tup pa_nil) pa_nil)))))) (pg_name (i := 4) scLaw.nd rfl (Or.inr rfl))
      (pss_one (ps_if (PW.pt (pw_or (pt_not (pt_val (pe_callG G56 hgd (hr.mono (by decide)) rfl g56 F56.kp b56 (pa_cons (pe_call G51 (hr.mono (by decide)) rfl g51 F51.kp b51 .nil pass0 (pa_cons (pv 4) pa_nil)) (pa_cons (pe_callB (call_repr hgd hr.units) (by rfl) gP boot_repr (pa_cons (pv 4) pa_nil)) pa_nil))))) (pw_or1 (pt_not (pt_val (pe_callG G56 hgd (hr.mono (by decide)) rfl g56 F56.kp b56 (pa_cons (pe_call G52 (hr.mono (by decide)) rfl g52 F52.kp b52 .nil pass0 (pa_cons (pv 4) pa_nil)) (pa_cons (pe_callB (call_repr hgd hr.units) (by rfl) gP boot_repr (pa_cons (pv 4) pa_nil)) pa_nil)))))))) (pss_one (ps_ret pe_bl)) pss_nil)))
      (pss_cons (ps_if (pt_not (pt_val (pe_callG G56 hgd (hr.mono (by decide)) rfl g56 F56.kp b56 (pa_cons (pe_call0 G53 (hr.mono (by decide)) rfl g53 F53.kp b53 .nil pass0) (pa_cons pe_str pa_nil))))) (pss_one (ps_ret pe_bl)) pss_nil)
      (pss_cons (ps_set (i := 6) scLaw.nd rfl (Or.inl rfl) (pe_lst (pa_cons (pe_bareE xU gU kU (by rfl)) (pa_cons (pe_bareE xRe gRe kRe (by rfl)) pa_nil))))
      (pss_cons (ps_if (PW.pt (pw_or (pt_cmpR (op_neD hr.units) (pe_lc (own := [("_law_error", 7)]) (g := gName 7) (te := tCall (spCode K) [] E0 (tCons (tVar 7) tNil)) (tt := tYes) rfl scLaw.nd (pi_list (pv 6)) (blkOk_by (N := ["_law_script", "_law_purse_here", "_law_word_here", "_law_falses", "_law_thing", "_law_some", "_law_rest", "_law_error"]) (sc := defScope sLaw) (by decide +kernel)) (fun _ _ _ _ _ => pg_name (i := 7) scLaw.nd rfl (Or.inl rfl))
          (fun _ _ _ _ _ => pts_nil) (fun _ _ _ _ _ => (pe_call G54 (hr.mono (by decide)) rfl g54 F54.kp b54 .nil pass0 (pa_cons (pv 7) pa_nil)))) (pe_lst (pa_cons (pe_lst (pa_cons pe_int pa_nil)) (pa_cons (pe_lst (pa_cons pe_int pa_nil)) pa_nil))) (nomark _)) (pw_or (pt_not (pt_val (pe_call G55 (hr.mono (by decide)) rfl g55 F55.kp b55 .nil pass0 (pa_cons (pe_ix ix_list (pv 6) pe_int (fun _ _ => rfl)) pa_nil)))) (pw_or1 (pt_not (pt_val (pe_call G55 (hr.mono (by decide)) rfl g55 F55.kp b55 .nil pass0 (pa_cons (pe_ix ix_list (pv 6) pe_int (fun _ _ => rfl)) pa_nil)))))))) (pss_one (ps_ret pe_bl)) pss_nil)
      (pss_one (ps_ret (pe_andT (pe_call G55 (hr.mono (by decide)) rfl g55 F55.kp b55 .nil pass0 (pa_cons (pe_bareE xS gS kS (by rfl)) pa_nil)) (pe_one (pe_cmpR (op_eqD hr.units) (pe_call G54 (hr.mono (by decide)) rfl g54 F54.kp b54 .nil pass0 (pa_cons (pe_bareE xS gS kS (by rfl)) pa_nil)) (pe_lst pa_nil) (nomark _))))))))))), ?_⟩
    -- for _law_purse_here in _law_purses(_law_script, 3)
    refine ⟨_, rfl, sc, ns, 3, rfl, hs, hl63, by decide, by decide, fun H1 lp as sm1 nlp hlp las hall => ?_⟩
    have lpn : lp ∉ as := fun z => (hall lp z).2.1 rfl
    refine ⟨lp, rfl, ⟨_, SqL.of hlp⟩, for_list (K := K) (a := lp) (xs := as.map V.ref) (fun k σ H' => (∃ x1 x2 x3 x4 x5, σ = [some (.ref sc), x1, x2, x3, x4, x5, none, none]) ∧ (∀ b o, b ∉ as → H1 b = some o → H' b = some o) ∧ ∀ a ∈ as, ∃ p q t i, Purse H' a p q t i ∧ 0 ≤ t ∧ t ≤ 20 * (k : Int))
      ⟨⟨_, _, _, _, _, rfl⟩, fun b o _ e => e, fun a ha => ?_⟩ (fun k σ H' _ z => SqL.of (z.2.1 _ _ lpn hlp)) ?_ ?_⟩
    · obtain ⟨_, _, p, q, i, pu⟩ := hall a ha
      exact ⟨p, q, 0, i, pu, Int.le_refl _, by omega⟩
    · rintro k y σ H' hy ⟨⟨x1, x2, x3, x4, x5, rfl⟩, keep, pur⟩
      obtain ⟨a, ha, rfl⟩ := errs_get' (K := K) hy
      have ka : k < as.length := (List.getElem?_eq_some_iff.mp ha).1
      have ain : a ∈ as := List.mem_of_getElem? ha
      obtain ⟨p, q, t, i, pu, t0, t1⟩ := pur a ain
      refine ⟨_, rfl, a, p, q, t, i, rfl, pu, t0, by omega, fun z p' t' low l0 l1 => ?_⟩
      -- _law_falses
      refine ⟨Nat.zero_le _, fun f1 h1 => ?_⟩
      refine ⟨Nat.zero_le _, fun f2 h2 => ?_⟩
      refine ⟨Nat.zero_le _, fun f3 h3 => ?_⟩
      refine ⟨f3, [], [], rfl, SqL.of upd_same, .nil, fun f4 h4 => ?_⟩
      refine ⟨by show 6 ≤ sizeLine; decide, fun f5 h5 => ?_⟩
      -- the choice
      refine ⟨_, rfl, _, rfl, Nat.le_of_lt (by show 1 < sizeLine; decide), fun p1 g1 => ?_⟩
      refine ⟨_, rfl, by show 2 ≤ sizeLine; decide, fun p2 g2 => ?_⟩
      refine ⟨_, rfl, _, rfl, Nat.zero_le _, fun p3 g3 => ?_⟩
      refine ⟨by show 2 ≤ sizeLine; decide, fun p4 g4 => ?_⟩
      refine ⟨by show 1 ≤ sizeLine; decide, fun p5 g5 => ?_⟩
      refine ⟨_, rfl, Nat.zero_le _, fun p6 g6 => ?_⟩
      refine ⟨by show 2 ≤ sizeLine; decide, fun p7 g7 => ?_⟩
      refine ⟨by show 1 ≤ sizeLine; decide, fun p8 g8 => ?_⟩
      refine ⟨by show 7 ≤ sizeLine; decide, fun p9 g9 => ?_⟩
      have s9 := same_upd (o := .lst [.ref p1, .ref p2, .str z, .non, .bl true, .ref p5, .ref p8]) g9
      have u8 := (same_upd (o := .lst [.ref p7]) g8).trans s9
      have u7 := (same_upd (o := .lst [.str z, .ref p6]) g7).trans u8
      have u6 := (same_upd (o := .tup []) g6).trans u7
      have u5 := (same_upd (o := .lst [.ref p4]) g5).trans u6
      have u4 := (same_upd (o := .tup [.str z, .ref p3]) g4).trans u5
      have u3 := (same_upd (o := .lst []) g3).trans u4
      have u2 := (same_upd (o := .tup [.str z, .int 1]) g2).trans u3
      have u1 := (same_upd (o := .lst [.str z]) g1).trans u2
      have v5 := (same_upd (o := .lst [.int 0, .str "", .ref f1, .bl false, .ref f2, .ref f4]) h5).trans u1
      have v4 := (same_upd (o := .dK []) h4).trans v5
      have v3 := (same_upd (o := .lst []) h3).trans v4
      have v2 := (same_upd (o := .tup []) h2).trans v3
      have v1 := (same_upd (o := .lst []) h1).trans v2
      refine ⟨_, rfl, p9, f5, _, _, rfl, rfl, upd_same, u1 _ _ upd_same, by show 7 + 6 ≤ sizeLine; decide, fun p10 g10 => ?_⟩
      have s10 := same_upd (o := .lst ([.ref p1, .ref p2, .str z, .non, .bl true, .ref p5, .ref p8] ++ [.int 0, .str "", .ref f1, .bl false, .ref f2, .ref f4])) g10
      have hpB := (v1.trans s10) a _ upd_same
      have ef1 := (v2.trans s10) f1 _ upd_same
      have ef2 := (v3.trans s10) f2 _ upd_same
      have ef4 := (v5.trans s10) f4 _ upd_same
      have ep1 := (u2.trans s10) p1 _ upd_same
      have ep2 := (u3.trans s10) p2 _ upd_same
      have ep3 := (u4.trans s10) p3 _ upd_same
      have ep4 := (u5.trans s10) p4 _ upd_same
      have ep5 := (u6.trans s10) p5 _ upd_same
      have ep6 := (u7.trans s10) p6 _ upd_same
      have ep7 := (u8.trans s10) p7 _ upd_same
      have ep8 := (s9.trans s10) p8 _ upd_same
      have n10 : p10 ≠ a := (ne_of_none (v1 a _ upd_same) g10).symm
      have hB : ∀ b o, b ≠ a → H' b = some o → _ := fun b o n e => (v1.trans s10) b o ((upd_ne n).trans e)
      clear h1 h2 h3 h4 h5 g1 g2 g3 g4 g5 g6 g7 g8 g9 s9 u8 u7 u6 u5 u4 u3 u2 u1 v5 v4 v3 v2 v1
      refine ⟨a, p10, _, p', q, t', i, rfl, hpB, by omega, by omega, upd_same, n10, by show 0 < 13; decide, by show 13 < 100000; decide, fun j x p'' t'' hj l2 l3 => ?_⟩
      generalize eHB : upd _ p10 (HO.lst _) = HB at hpB ef1 ef2 ef4 ep1 ep2 ep3 ep4 ep5 ep6 ep7 ep8 hB ⊢
      clear eHB s10 g10
      have up : ∀ {b : Addr} {o : HO}, b ≠ a → HB b = some o → pursed HB a p'' q t'' i b = some o := fun n e => (upd_ne n).trans e
      have th : Thing (pursed HB a p'' q t'' i) x := by
        have c1 := up (ne_of ep1 hpB (by intro w; cases w)) ep1
        have c2 := up (ne_of ep2 hpB (by intro w; cases w)) ep2
        have c3 := up (ne_of ep3 hpB (by intro w; cases w)) ep3
        have c4 := up (ne_of ep4 hpB (by intro w; cases w)) ep4
        have c5 := up (ne_of ep5 hpB (by intro w; cases w)) ep5
        have c6 := up (ne_of ep6 hpB (by intro w; cases w)) ep6
        have c7 := up (ne_of ep7 hpB (by intro w; cases w)) ep7
        have c8 := up (ne_of ep8 hpB (by intro w; cases w)) ep8
        have d1 := up (ne_of ef1 hpB (by intro w; cases w)) ef1
        have d2 := up (ne_of ef2 hpB (by intro w; cases w)) ef2
        have d4 := up (ne_of ef4 hpB (by intro w; cases w)) ef4
        have mem := List.mem_of_getElem? hj
        simp only [List.mem_append, List.mem_cons, List.not_mem_nil, or_false] at mem
        rcases mem with (rfl | rfl | rfl | rfl | rfl | rfl | rfl) | (rfl | rfl | rfl | rfl | rfl | rfl)
        · exact thing_wl low c1
        · exact thing_wt low c2
        · exact thing_w low
        · exact thing_non
        · exact thing_bl true
        · exact thing_wtl low c5 c4 c3 (ne_of c4 c5 (by intro w; cases w)) (ne_of c3 c5 (by intro w; cases w))
        · exact thing_wll low c8 c7 c6 (ne_of c7 c8 (by intro w; cases w)) (ne_of c6 c8 (by intro w; cases w))
        · exact thing_0
        · exact thing_w low_e
        · exact thing_lst0 d1
        · exact thing_bl false
        · exact thing_tup0 d2
        · exact thing_dict d4
      have hC : ∀ b o, b ≠ a → H' b = some o → pursed HB a p'' q t'' i b = some o := fun b o n e => up n (hB b o n e)
      have hCa : pursed HB a p'' q t'' i a = some (.lst [.int p'', .int q, .int t'', .int i]) := upd_same
      generalize pursed HB a p'' q t'' i = HC at th hC hCa ⊢
      clear up hj ep1 ep2 ep3 ep4 ep5 ep6 ep7 ep8 ef1 ef2 ef4 hpB hB
      -- for _law_some in (_law_first(..), _law_called(..))
      refine ⟨_, rfl, x, rfl, fun G1 l1 es1 got1 => ?_⟩
      refine ⟨_, rfl, x, rfl, fun G2 l2 es2 got2 => ?_⟩
      refine ⟨by show 2 ≤ sizeLine; decide, fun Tt hT => ?_⟩
      have sT := same_upd (o := .tup [.ref l1, .ref l2]) hT
      have eT : upd G2 Tt (.tup [.ref l1, .ref l2]) Tt = some (.tup [.ref l1, .ref l2]) := upd_same
      have lists : ∀ y ∈ [V.ref l1, V.ref l2], ∃ l es, y = .ref l ∧ upd G2 Tt (.tup [.ref l1, .ref l2]) l = some (.lst (es.map V.ref)) ∧ ErrsAt (upd G2 Tt (.tup [.ref l1, .ref l2])) es (kinds.map (He.ga K)) x ∧ ∀ c o, HC c = some o → c ≠ l := by
        intro y hy
        simp only [List.mem_cons, List.not_mem_nil, or_false] at hy
        rcases hy with rfl | rfl
        · exact ⟨l1, es1, rfl, sT _ _ (got2.same _ _ got1.lst), (got1.errs.mono got2.same).mono sT, fun c o e => ne_of_none e got1.new⟩
        · exact ⟨l2, es2, rfl, sT _ _ got2.lst, got2.errs.mono sT, fun c o e => ne_of_none (got1.same _ _ e) got2.new⟩
      have s3 : Same HC (upd G2 Tt (.tup [.ref l1, .ref l2])) := got1.same.trans (got2.same.trans sT)
      refine ⟨Tt, rfl, ⟨_, SqT.of eT⟩, ?_⟩
      generalize upd G2 Tt (.tup [.ref l1, .ref l2]) = H3 at lists s3 eT ⊢
      refine for_tup (K := K) (a := Tt) (xs := [.ref l1, .ref l2]) (fun m σ G => (∃ y5, σ = [some (.ref sc), some (.ref a), some (.str z), some (.ref f5), some x, y5, none, none]) ∧ Same H3 G) ⟨⟨_, rfl⟩, Same.refl _⟩ (fun m σ G _ u => SqT.of (u.2 _ _ eT)) ?_ ?_
      · rintro m y σ G hy ⟨⟨y5, rfl⟩, sm⟩
        obtain ⟨l, es, rfl, hl, her, lne⟩ := lists y (List.mem_of_getElem? hy)
        obtain ⟨d, n, sho, fit⟩ := ((th.mono s3).mono sm).shown
        refine ⟨_, rfl, _, rfl, x, d, n, rfl, sho, fit.1, fit.2.1, fit.size, l, es, x, d, n, rfl, sm _ _ hl, her.mono sm, sho, fit.1, fit.2.1, fit.size, fun H4 s4 => ⟨true, rfl, iteF ?_⟩⟩
        have s34 := sm.trans s4
        rcases th with ⟨b, xs, ds, n2, rfl, eb, lb, nd, ps, ft, ft2⟩ | ⟨d2, n2, sho2, fit2, nl⟩
        · have eb4 := s34 _ _ (s3 _ _ eb)
          refine ⟨_, rfl, .ref b, .ty "list", .type "list", .type "list", true, rfl, .ty _, .base (.lst eb4), kit_ty (by decide +kernel), true, rfl, iteT ?_⟩
          refine ⟨_, rfl, .inl ⟨rfl, _, SqL.of eb4⟩, b, xs, .str "later", rfl, rfl, eb4, by rw [sizeLine_eq]; omega, ?_⟩
          have lb5 : l ≠ b := (lne b _ eb).symm
          have hl5 : upd H4 b (.lst (xs ++ [.str "later"])) l = some (.lst (es.map V.ref)) := (upd_ne lb5).trans (s34 _ _ hl)
          have her5 : ErrsAt (upd H4 b (.lst (xs ++ [.str "later"]))) es (kinds.map (He.ga K)) (.ref b) := L2.Paired.mapP (her.mono s34) fun e C ⟨dd, a1, a2⟩ =>
            ⟨dd, (upd_ne (ne_of a1 eb4 (by intro w; cases w))).trans a1, (upd_ne (ne_of a2 eb4 (by intro w; cases w))).trans a2⟩
          have eb5 : upd H4 b (.lst (xs ++ [.str "later"])) b = some (.lst (xs ++ [.str "later"])) := upd_same
          have hid5 : ∀ c o, hideH HC b c = some o → upd H4 b (.lst (xs ++ [.str "later"])) c = some o := hide_to fun c o nc e => (upd_ne nc).trans (s34 _ _ (s3 _ _ e))
          have out5 : ∀ c o, c ≠ b → H4 c = some o → upd H4 b (.lst (xs ++ [.str "later"])) c = some o := fun c o nc e => (upd_ne nc).trans e
          generalize upd H4 b (.lst (xs ++ [.str "later"])) = H5 at hl5 her5 eb5 hid5 out5 ⊢
          refine ⟨_, rfl, l, rfl, ⟨_, SqL.of hl5⟩, fun D hD => ?_⟩
          refine lc_list (K := K) (a := l) (xs := es.map V.ref) (fun k H' => Same H5 H' ∧ H' D = some (.lst [])) ⟨same_upd hD, upd_same⟩ (fun k H' _ u => SqL.of (u.1 _ _ hl5)) ?_ ?_
          · rintro k2 y2 H6 hy2 ⟨s6, hD6⟩
            obtain ⟨e, he, rfl⟩ := errs_get' (K := K) hy2
            obtain ⟨xk, dd, hx, xin, k40, ae, ad⟩ := errs_get her5 he
            have sho6 : Sho (n2 + 1) H6 (.ref b) (.list (ds ++ [.str "later"])) := .inr (.inl ⟨b, xs ++ [.str "later"], ds ++ [.str "later"], rfl, rfl, s6 _ _ eb5, dicts_app nd, paired_app (L2.Paired.mapP ps fun _ _ u => (u.mono hid5).mono s6) (.cons sho_str .nil)⟩)
            refine ⟨rfl, _, rfl, e, He.ga K xk, dd, .ref b, rfl, T.ea xk (List.mem_cons_of_mem _ (kinds_in xin)), T.noV xk xin, s6 _ _ ae, s6 _ _ ad, .ref b, _, n2 + 1, rfl, sho6, ft2.1, ft2.2.1, ft2.size, _, rfl, .ref b, _, n2 + 1, rfl, sho6, ft2.1, ft2.2.1, ft2.size, rfl, _, rfl, ?_⟩
            have e2 : (!decide (V.str (PyData.list (ds ++ [.str "later"])).shown = V.str (PyData.list (ds ++ [.str "later"])).shown)) = false := by simp
            rw [e2]
            refine iteF ?_
            exact ⟨s6, hD6⟩
          · rintro H6 ⟨s6, hD6⟩
            refine ⟨Nat.zero_le _, fun pp hpp => ?_⟩
            refine ⟨.list [], .list [], .lst (SqL.of ((upd_ne (ne_of_none hD6 hpp)).trans hD6)) .nil, .lst (SqL.of upd_same) .nil, nil_shaped.1, nil_shaped.1, _, rfl, ?_⟩
            rw [nil_shaped.2]
            refine iteF ?_
            have s7 := s6.trans (same_upd (o := .lst []) hpp)
            have e7 := s7 _ _ eb5
            generalize upd H6 pp (HO.lst []) = H7 at s7 e7 ⊢
            refine ⟨_, rfl, .inl ⟨rfl, _, SqL.of e7⟩, b, xs ++ [.str "later"], .str "later", rfl, rfl, e7, by simp, ?_⟩
            rw [List.dropLast_concat]
            refine ⟨⟨_, rfl⟩, fun c o u => ?_⟩
            by_cases cb : c = b
            · subst cb
              have u2 : o = .lst xs := Option.some.inj (u.symm.trans (s3 _ _ eb))
              rw [upd_same, u2]
            · rw [upd_ne cb]
              exact s7 _ _ (out5 _ _ cb (s34 _ _ u))
        · obtain ⟨t2, ty, kt⟩ := NoList.ty (K := K) ((nl.mono s3).mono s34)
          refine ⟨_, rfl, x, .ty "list", t2, .type "list", false, rfl, .ty _, ty, kt, false, rfl, iteF ?_⟩
          exact ⟨⟨_, rfl⟩, s34⟩
      · rintro σ G ⟨⟨y5, rfl⟩, sm⟩
        have all := s3.trans sm
        refine ⟨⟨_, _, _, _, _, rfl⟩, fun b o nb eb => ?_, fun a2 ha2 => ?_⟩
        · exact all _ _ (hC b o (fun q => nb (q ▸ ain)) (keep b o nb eb))
        · by_cases q2 : a2 = a
          · subst q2
            exact ⟨p'', q, t'', i, all _ _ hCa, by omega, by push_cast; omega⟩
          · obtain ⟨p3, q3, t3, i3, pu3, b1, b2⟩ := pur a2 ha2
            exact ⟨p3, q3, t3, i3, all _ _ (hC _ _ q2 pu3), b1, by push_cast; omega⟩
    · rintro σ H2 ⟨⟨x1, x2, x3, x4, x5, rfl⟩, _, _⟩
      clear hall lpn hlp las nlp sm1 hs
      -- for _law_thing in (0, '', False, ())
      refine ⟨Nat.zero_le _, fun u1 hu1 => ?_⟩
      refine ⟨by show 4 ≤ sizeLine; decide, fun T2 hT2 => ?_⟩
      have eT2 : upd (upd H2 u1 (.tup [])) T2 (.tup [.int 0, .str "", .bl false, .ref u1]) T2 = some (.tup [.int 0, .str "", .bl false, .ref u1]) := upd_same
      have eu1 : upd (upd H2 u1 (.tup [])) T2 (.tup [.int 0, .str "", .bl false, .ref u1]) u1 = some (.tup []) := (same_upd hT2) _ _ upd_same
      refine ⟨T2, rfl, ⟨_, SqT.of eT2⟩, ?_⟩
      generalize upd (upd H2 u1 (.tup [])) T2 (.tup [.int 0, .str "", .bl false, .ref u1]) = HB at eT2 eu1 ⊢
      have th2 : ∀ y ∈ [V.int 0, V.str "", V.bl false, V.ref u1], Thing HB y := by
        intro y hy
        simp only [List.mem_cons, List.not_mem_nil, or_false] at hy
        rcases hy with rfl | rfl | rfl | rfl
        · exact thing_0
        · exact thing_w low_e
        · exact thing_bl false
        · exact thing_tup0 eu1
      refine for_tup (K := K) (a := T2) (xs := [V.int 0, V.str "", V.bl false, V.ref u1]) (fun m σ G => (∃ y1 y2 y3 y4 y5, σ = [some (.ref sc), y1, y2, y3, y4, y5, none, none]) ∧ Same HB G) ⟨⟨_, _, _, _, _, rfl⟩, Same.refl _⟩ (fun m σ G _ u => SqT.of (u.2 _ _ eT2)) ?_ ?_
      · rintro m y σ G hy ⟨⟨y1, y2, y3, y4, y5, rfl⟩, sm⟩
        obtain ⟨d, n, sho, fit⟩ := ((th2 y (List.mem_of_getElem? hy)).mono sm).shown
        refine ⟨_, rfl, y, rfl, fun G1 l1 es1 got1 => ?_⟩
        refine ⟨_, rfl, y, d, n, rfl, sho.mono got1.same, fit.1, fit.2.1, fit.size, l1, es1, y, d, n, rfl, got1.lst, got1.errs, sho.mono got1.same, fit.1, fit.2.1, fit.size, fun G2 s2 => ⟨true, rfl, iteF ?_⟩⟩
        have s12 := got1.same.trans s2
        refine ⟨_, rfl, y, rfl, fun G3 l3 es3 got3 => ?_⟩
        have s13 := s12.trans got3.same
        refine ⟨_, rfl, y, d, n, rfl, sho.mono s13, fit.1, fit.2.1, fit.size, l3, es3, y, d, n, rfl, got3.lst, got3.errs, sho.mono s13, fit.1, fit.2.1, fit.size, fun G4 s4 => ⟨true, rfl, iteF ?_⟩⟩
        exact ⟨⟨_, _, _, _, _, rfl⟩, sm.trans (s13.trans s4)⟩
      · rintro σ H3 ⟨⟨y1, y2, y3, y4, y5, rfl⟩, _⟩
        clear th2 eT2 eu1
        -- _law_bare()
        refine ⟨rfl, fun G1 l1 es1 got1 => ?_⟩
        refine ⟨l1, es1, .non, .none, 0, rfl, got1.lst, got1.errs, .inl ⟨rfl, rfl⟩, rfl, by decide, by decide +kernel, fun G2 s2 => ⟨true, rfl, iteF ?_⟩⟩
        -- _law_rest
        intro r1 hr1 r2 hr2
        refine ⟨by show 2 ≤ sizeLine; decide, fun lr hlr => ?_⟩
        have er2 := (same_upd (o := .lst [.ref r1, .ref r2]) hlr) r2 _ upd_same
        have er1 := ((same_upd (o := ExO (.ref (He.ga K "NothingToRedo")) r2) hr2).trans (same_upd (o := .lst [.ref r1, .ref r2]) hlr)) r1 _ upd_same
        have elr : upd _ lr (.lst [.ref r1, .ref r2]) lr = some (.lst [.ref r1, .ref r2]) := upd_same (H := upd (upd G2 r1 (ExO (.ref (He.ga K "NothingToUndo")) r1)) r2 (ExO (.ref (He.ga K "NothingToRedo")) r2))
        refine ⟨_, rfl, lr, rfl, ⟨_, SqL.of elr⟩, fun D hD => ?_⟩
        generalize upd (upd (upd G2 r1 (ExO (.ref (He.ga K "NothingToUndo")) r1)) r2 (ExO (.ref (He.ga K "NothingToRedo")) r2)) lr (.lst [.ref r1, .ref r2]) = HR at er1 er2 elr hD ⊢
        have mU : ("NothingToUndo" : Str) ∈ names42 := by decide +kernel
        have mR : ("NothingToRedo" : Str) ∈ names42 := by decide +kernel
        refine lc_list (K := K) (a := lr) (xs := [V.ref r1, V.ref r2]) (fun k G => Same HR G ∧ ((k = 0 ∧ G D = some (.lst [])) ∨ (k = 1 ∧ ∃ m1, G D = some (.lst [.ref m1]) ∧ G m1 = some (.lst [.int 40])) ∨ (k = 2 ∧ ∃ m1 m2, G D = some (.lst [.ref m1, .ref m2]) ∧ G m1 = some (.lst [.int 40]) ∧ G m2 = some (.lst [.int 41]))))
          ⟨same_upd hD, .inl ⟨rfl, upd_same⟩⟩ (fun k G _ u => SqL.of (u.1 _ _ elr)) ?_ ?_
        · rintro k y G hy ⟨sm, ⟨rfl, hD0⟩ | ⟨rfl, m1, hD1, hm1⟩ | ⟨rfl, _⟩⟩
          · have ey : y = .ref r1 := (Option.some.inj hy).symm
            subst ey
            refine ⟨rfl, tyes ?_⟩
            refine ⟨_, rfl, r1, _, fun y => decide (y = ("NothingToUndo" : Str)), rfl, T.ea "NothingToUndo" (List.mem_cons_of_mem _ mU), .inr (sm _ _ er1), T.kit _ mU, fun H5 m s5 hm hml => ?_⟩
            rw [hits_undo] at hml
            have mD : m ≠ D := (ne_of_none hD0 hm).symm
            refine ⟨_, s5 _ _ hD0, by show 0 < sizeLine; decide, fun b o u => ?_, .inr (.inl ⟨rfl, m, upd_same, (upd_ne mD).trans hml⟩)⟩
            rw [upd_ne (ne_of_none u hD)]
            exact s5 _ _ (sm _ _ u)
          · have ey : y = .ref r2 := (Option.some.inj hy).symm
            subst ey
            refine ⟨rfl, tyes ?_⟩
            refine ⟨_, rfl, r2, _, fun y => decide (y = ("NothingToRedo" : Str)), rfl, T.ea "NothingToRedo" (List.mem_cons_of_mem _ mR), .inr (sm _ _ er2), T.kit _ mR, fun H5 m s5 hm hml => ?_⟩
            rw [hits_redo] at hml
            have mD : m ≠ D := (ne_of_none hD1 hm).symm
            have m1D : m1 ≠ D := ne_of hm1 hD1 (by intro w; cases w)
            refine ⟨_, s5 _ _ hD1, by show 1 < sizeLine; decide, fun b o u => ?_, .inr (.inr ⟨rfl, m1, m, upd_same, (upd_ne m1D).trans (s5 _ _ hm1), (upd_ne mD).trans hml⟩)⟩
            rw [upd_ne (ne_of_none u hD)]
            exact s5 _ _ (sm _ _ u)
          · cases hy
        · rintro G ⟨sm, ⟨k0, _⟩ | ⟨k1, _⟩ | ⟨_, m1, m2, hD2, hm1, hm2⟩⟩
          · cases k0
          · cases k1
          refine ⟨by show 1 ≤ sizeLine; decide, fun q1 hq1 => ?_⟩
          refine ⟨by show 1 ≤ sizeLine; decide, fun q2 hq2 => ?_⟩
          refine ⟨by show 2 ≤ sizeLine; decide, fun q3 hq3 => ?_⟩
          have w3 := same_upd (o := .lst [.ref q1, .ref q2]) hq3
          have w2 := (same_upd (o := .lst [.int 41]) hq2).trans w3
          have w1 := (same_upd (o := .lst [.int 40]) hq1).trans w2
          have x1 := w2 q1 _ upd_same
          have x2 := w3 q2 _ upd_same
          have x3 : upd (upd (upd G q1 (.lst [.int 40])) q2 (.lst [.int 41])) q3 (.lst [.ref q1, .ref q2]) q3 = some (.lst [.ref q1, .ref q2]) := upd_same
          generalize upd (upd (upd G q1 (.lst [.int 40])) q2 (.lst [.int 41])) q3 (.lst [.ref q1, .ref q2]) = G5 at w1 x1 x2 x3 ⊢
          refine ⟨restD, restD, .lst (SqL.of (w1 _ _ hD2)) (.cons (.lst (SqL.of (w1 _ _ hm1)) (.cons (.int 40) .nil)) (.cons (.lst (SqL.of (w1 _ _ hm2)) (.cons (.int 41) .nil)) .nil)),
            .lst (SqL.of x3) (.cons (.lst (SqL.of x1) (.cons (.int 40) .nil)) (.cons (.lst (SqL.of x2) (.cons (.int 41) .nil)) .nil)), rest_ok.1, rest_ok.1, _, rfl, ?_⟩
          rw [rest_ok.2]
          refine iteF ?_
          have sR := sm.trans w1
          have mU1 := List.mem_cons_of_mem ("StopError" : Str) mU
          have mR1 := List.mem_cons_of_mem ("StopError" : Str) mR
          refine ⟨_, rfl, lr, _, 0, .ref r1, rfl, rfl, SqL.of (sR _ _ elr), rfl, r1, _, rfl, T.ea "NothingToUndo" mU1, .inr (sR _ _ er1), T.stop _ mU1, T.ve _ mU1, true, rfl, iteF ?_⟩
          refine ⟨_, rfl, lr, _, 1, .ref r2, rfl, rfl, SqL.of (sR _ _ elr), rfl, r2, _, rfl, T.ea "NothingToRedo" mR1, .inr (sR _ _ er2), T.stop _ mR1, T.ve _ mR1, true, rfl, iteF ?_⟩
          -- the end
          have mS : ("StopError" : Str) ∈ ("StopError" : Str) :: names42 := List.mem_cons_self
          intro e1 he1
          refine ⟨e1, _, rfl, T.ea "StopError" mS, .inr upd_same, T.stop _ mS, T.ve _ mS, true, rfl, iteT ?_⟩
          intro e2 he2
          refine ⟨e2, _, fun _ => false, rfl, T.ea "StopError" mS, .inr upd_same, T.bare, fun H9 l9 s9 hl9 hll => ?_⟩
          rw [hits_none] at hll
          refine ⟨Nat.zero_le _, fun q hq => ?_⟩
          refine ⟨.list [], .list [], .lst (SqL.of ((upd_ne (ne_of_none hll hq)).trans hll)) .nil, .lst (SqL.of upd_same) .nil, nil_shaped.1, nil_shaped.1, ?_⟩
          rw [nil_shaped.2]
          exact want _
end
end Eo
end L2
set_option Elab.async false
set_option linter.all false
set_option maxRecDepth 100000
set_option maxHeartbeats 8000000
/-! Eo, part 14: from the head's facts. -/
namespace L2
namespace Eo
open PySem PySem.Spec PyProof.Rows
/-! ### the __init__ of a class of errors -/
def initsA : List (Str × Str × Nat) := [(("InvalidPrime" : Str), ("InvalidPrime.__init__" : Str), 2), (("InvalidNumber" : Str), ("InvalidNumber.__init__" : Str), 3), (("InvalidSum" : Str), ("InvalidSum.__init__" : Str), 4), (("InvalidVectors" : Str), ("InvalidVectors.__init__" : Str), 5), (("InvalidText" : Str), ("InvalidText.__init__" : Str), 6), (("Fault" : Str), ("Fault.__init__" : Str), 7), (("InvalidProgram" : Str), ("InvalidProgram.__init__" : Str), 8), (("InvalidRows" : Str), ("InvalidRows.__init__" : Str), 9), (("Unsound" : Str), ("Unsound.__init__" : Str), 10), (("InvalidUnits" : Str), ("InvalidUnits.__init__" : Str), 11), (("InvalidInputs" : Str), ("InvalidInputs.__init__" : Str), 12), (("InvalidEngine" : Str), ("InvalidEngine.__init__" : Str), 13), (("NotAlike" : Str), ("NotAlike.__init__" : Str), 14), (("UnlikePrimes" : Str), ("UnlikePrimes.__init__" : Str), 15), (("InvalidBench" : Str), ("InvalidBench.__init__" : Str), 16), (("UnknownMark" : Str), ("UnknownMark.__init__" : Str), 17), (("UnknownStop" : Str), ("UnknownStop.__init__" : Str), 18), (("UnknownHolder" : Str), ("UnknownHolder.__init__" : Str), 19), (("NeverPassed" : Str), ("NeverPassed.__init__" : Str), 20), (("Stray" : Str), ("Stray.__init__" : Str), 21)]
def initsB : List (Str × Str × Nat) := [(("Uneven" : Str), ("Uneven.__init__" : Str), 22), (("OutOfOrder" : Str), ("OutOfOrder.__init__" : Str), 23), (("InvalidReadings" : Str), ("InvalidReadings.__init__" : Str), 24), (("InvalidLines" : Str), ("InvalidLines.__init__" : Str), 25), (("InvalidBook" : Str), ("InvalidBook.__init__" : Str), 26), (("InvalidRule" : Str), ("InvalidRule.__init__" : Str), 27), (("InvalidChange" : Str), ("InvalidChange.__init__" : Str), 28), (("InvalidAmounts" : Str), ("InvalidAmounts.__init__" : Str), 29), (("InvalidDump" : Str), ("InvalidDump.__init__" : Str), 30), (("InvalidSession" : Str), ("InvalidSession.__init__" : Str), 31), (("InvalidScript" : Str), ("InvalidScript.__init__" : Str), 32), (("InvalidLog" : Str), ("InvalidLog.__init__" : Str), 33), (("InvalidCount" : Str), ("InvalidCount.__init__" : Str), 34), (("Refused" : Str), ("Refused.__init__" : Str), 35), (("InvalidSeat" : Str), ("InvalidSeat.__init__" : Str), 36), (("InvalidState" : Str), ("InvalidState.__init__" : Str), 37), (("InvalidLinks" : Str), ("InvalidLinks.__init__" : Str), 38), (("NotHere" : Str), ("NotHere.__init__" : Str), 39), (("InvalidLetter" : Str), ("InvalidLetter.__init__" : Str), 40), (("Unlike" : Str), ("Unlike.__init__" : Str), 41)]
theorem fn_inits : fn2 ++ fn3 = (initsA ++ initsB).map fun z => dI z.1 z.2.1 z.2.2 := rfl
theorem kinds_inits : kinds = (initsA ++ initsB).map (·.1) := rfl
def iArgs (p1 p2 p3 : Pos) : Arguments := { posonlyargs := [], args := [{ arg := "self", annotation := none, pos := p1 }, { arg := "value", annotation := none, pos := p2 }], vararg := none, kwonlyargs := [], kw_defaults := [], kwarg := none, defaults := [.Constant .none 0 p3] }
def iBody (q1 q2 q3 q4 : Pos) : List Stmt := [.Assign [.Attribute (.Name "self" q1) "value" q2] (.Name "value" q3) q4]
def iScope : Scope := { kind := .function, names := [(Str.ofString "self", .local), (Str.ofString "value", .local)], isGenerator := false, isCoroutine := false, more := [] }
def InitShape (st : Stmt) : Prop := ∃ p1 p2 p3 q1 q2 q3 q4, defArgs st = iArgs p1 p2 p3 ∧ defBody st = iBody q1 q2 q3 q4 ∧ defScope st = iScope
theorem shapesA : ∀ z ∈ initsA, InitShape (initOf (topS z.2.2)) := by
  intro z hz
  simp only [initsA, List.mem_cons, List.not_mem_nil, or_false] at hz
  rcases hz with rfl | rfl | rfl | rfl | rfl | rfl | rfl | rfl | rfl | rfl | rfl | rfl | rfl | rfl | rfl | rfl | rfl | rfl | rfl | rfl
  all_goals exact ⟨_, _, _, _, _, _, _, rfl, rfl, rfl⟩
theorem shapesB : ∀ z ∈ initsB, InitShape (initOf (topS z.2.2)) := by
  intro z hz
  simp only [initsB, List.mem_cons, List.not_mem_nil, or_false] at hz
  rcases hz with rfl | rfl | rfl | rfl | rfl | rfl | rfl | rfl | rfl | rfl | rfl | rfl | rfl | rfl | rfl | rfl | rfl | rfl | rfl | rfl
  all_goals exact ⟨_, _, _, _, _, _, _, rfl, rfl, rfl⟩
section
variable {P : Program} {w : World} {K : PySem.W.Frag} {mg : Str → Option Value} {base : Heap}
theorem scInit : FnScope ["self", "value"] ["self", "value"] iScope := ⟨rfl, rfl, rfl, by decide +kernel, rfl, by decide +kernel, by decide +kernel⟩
theorem ok_init {q : Str} {C fI : Addr} {fd : FuncData} {p1 p2 p3 q1 q2 q3 q4 : Pos} (T : ErC K C fI) (F : FunD K "__init__" q (iArgs p1 p2 p3) (iBody q1 q2 q3 q4) iScope [.non] [] fI fd) : FnOk P w K mg base CX0 1 fI fd ["self", "value"] (spInit C) := by
  refine F.ok scInit (fun vs H Q E h => ?_) (fun cdv A outer s H vs Q E hr h => ?_)
  · obtain ⟨a, v, rfl, _⟩ := h
    rfl
  · obtain ⟨a, v, rfl, ha, want⟩ := h
    refine ⟨_, PSs.nox (pss_one (ps_ost (pv 0) (pv 1))), ?_⟩
    exact ⟨_, rfl, _, rfl, a, C, rfl, T.ox, T.noV, .inl ⟨ha, fun d nd ne => want d nd ne⟩⟩
theorem kind_of {x q : Str} {fd : FuncData} {p1 p2 p3 q1 q2 q3 q4 : Pos} (gC : mg x = some (.ref (He.ga K x))) (T : ErC K (He.ga K x) (He.ma K (He.ga K x) "__init__"))
    (F : FunD K "__init__" q (iArgs p1 p2 p3) (iBody q1 q2 q3 q4) iScope [.non] [] (He.ma K (He.ga K x) "__init__") fd) : Kind P w K mg base x := by
  obtain ⟨ds, vd, b1⟩ := FunD.binds1 (ps := ["self", "value"]) F 1 0 (by simp) rfl fun T kV doc pm an cdv ct us its l1 l2 => by
    match us, its, l1, l2 with
    | [a], [d], _, _ => exact ⟨_, rfl, rfl⟩
  obtain ⟨ds2, vd2, b2⟩ := FunD.binds1 (ps := ["self", "value"]) F 2 1 (by simp) rfl fun T kV doc pm an cdv ct us its l1 l2 => by
    match us, its, l1, l2 with
    | [a, b], [d], _, _ => exact ⟨_, rfl, rfl⟩
  have e2 : ds2 = [] := by
    cases vd2
    rfl
  subst e2
  obtain ⟨its, bk⟩ := FunD.kbindsD (ps := ["self", "value"]) F 1 ["value"] (fun us _ ws => us ++ ws) (by simp) (fun r1 _ r3 => r1.append r3) fun T kV doc pm an cdv ct us its ws l1 l2 l3 => by
    match us, its, ws, l1, l2, l3 with
    | [a], [d], [b], _, _, _ => exact ⟨_, rfl, rfl⟩
  exact ⟨gC, _, fd, ds, _, _, T, ok_init T F, b2, vd, b1, bk, fun _ _ => rfl⟩
/-! ### the classes -/
theorem cls_of {x : Str} {tl : List Value} (h : clsOk K tl x = true) : ∃ nm q N bs sn sub ab col dd k0 k1 k2 k3 k5, K.lookup (He.ga K x) = some (excClassObj nm q (He.ga K x) N bs tl true sn sub ab col dd k0 k1 k2 k3 k5 "ValueError.__new__") := by
  unfold clsOk at h
  split at h
  · rename_i dd cd sl ho
    split at h
    · rename_i k0 k1 k2 k3 n k5 hsl
      simp only [Bool.and_eq_true, beq_iff_eq, Bool.not_eq_true'] at h
      obtain ⟨rfl, hm, hd, hdel⟩ := h
      obtain ⟨nm, bs, mro, ns, qn, hdct, sn, sub, ab, col, del⟩ := cd
      dsimp only at hm hd hdel
      subst hm hd hdel
      have e : sl = #[k0, k1, k2, k3, some (.builtin "ValueError.__new__"), k5] := by
        rw [← hsl]
      exact ⟨nm, qn, ns, bs, sn, sub, ab, col, dd, k0, k1, k2, k3, k5, by rw [ho, e]⟩
    · cases h
  · cases h
/-- what its class object says -/
structure Cl (K : PySem.W.Frag) (x : Str) (tl : List Value) : Prop where
  ob : ∃ nm q N bs sn sub ab col dd k0 k1 k2 k3 k5, K.lookup (He.ga K x) = some (excClassObj nm q (He.ga K x) N bs tl true sn sub ab col dd k0 k1 k2 k3 k5 "ValueError.__new__")
  isC : (PySem.W.clsIn K (He.ga K x)).isSome = true
  ty : PySem.W.typeIn K (.ref (He.ga K x)) = some (.type "type")
  dct : PySem.W.hasDictIn K (He.ga K x) = true
  mro : ∀ v : Value, PySem.W.mroIn K (He.ga K x) v = some ((Value.ref (He.ga K x) :: tl).contains v)
theorem cl_of {x : Str} {tl : List Value} (h : clsOk K tl x = true) : Cl K x tl := by
  obtain ⟨nm, q, N, bs, sn, sub, ab, col, dd, k0, k1, k2, k3, k5, e⟩ := cls_of h
  have ec : PySem.W.clsIn K (He.ga K x) = some { name := nm, bases := bs, mro := .ref (He.ga K x) :: tl, ns := N, qualname := q, hasDict := true, slotNames := sn, subclasses := sub, abstract := ab, collection := col, hasDel := false } := by
    unfold PySem.W.clsIn
    rw [e]
  refine ⟨⟨nm, q, N, bs, sn, sub, ab, col, dd, k0, k1, k2, k3, k5, e⟩, by rw [ec]; rfl, ?_, ?_, fun v => ?_⟩
  · show (K.lookup (He.ga K x)).map (·.cls) = _
    rw [e]
    rfl
  · unfold PySem.W.hasDictIn
    rw [ec]
    rfl
  · unfold PySem.W.mroIn
    rw [ec]
    rfl
theorem more_of {x : Str} (h : clsMore K x = true) : PySem.W.findIn K (.ref (He.ga K x)) "__setattr__" = some (some (.builtin "object.__setattr__")) ∧ PySem.W.findIn K (.ref (He.ga K x)) "__getattribute__" = some (some (.builtin "BaseException.__getattribute__")) ∧
    PySem.W.findIn K (.ref (He.ga K x)) "__getattr__" = some none ∧ PySem.W.findIn K (.ref (He.ga K x)) "__class__" = some (some (.builtin "object.__class__")) ∧ PySem.W.findIn K (.ref (He.ga K x)) "value" = some none ∧ PySem.W.keepIn K (.ref (He.ga K x)) = true := by
  unfold clsMore at h
  obtain ⟨a, h⟩ := He.ba h
  obtain ⟨b, h⟩ := He.ba h
  obtain ⟨c, h⟩ := He.ba h
  obtain ⟨d, h⟩ := He.ba h
  obtain ⟨e, h⟩ := He.ba h
  exact ⟨He.eqO_ok a, He.eqO_ok b, He.eqO_ok c, He.eqO_ok d, He.eqO_ok e, h⟩
theorem erA_of {x : Str} {tl : List Value} (c : Cl K x tl) (m : clsMore K x = true) (hb : (Value.ref (He.ga K x) :: tl).contains (.type "BaseException") = true) (ho : (Value.ref (He.ga K x) :: tl).contains (.type "object") = true) : EoM.ErA K (He.ga K x) := by
  obtain ⟨_, b, d, e, _, _⟩ := more_of m
  exact ⟨b, d, (c.mro _).trans (congrArg some hb), c.dct, e, (c.mro _).trans (congrArg some ho)⟩
theorem has_tail (a s : Addr) : (Value.ref a :: Value.ref s :: veT).contains (.type "BaseException") = true ∧ (Value.ref a :: Value.ref s :: veT).contains (.type "object") = true ∧ (Value.ref a :: Value.ref s :: veT).contains (.type "ValueError") = true := by
  refine ⟨?_, ?_, ?_⟩ <;> rfl
theorem has_ve (s : Addr) : (Value.ref s :: veT).contains (.type "BaseException") = true ∧ (Value.ref s :: veT).contains (.type "object") = true ∧ (Value.ref s :: veT).contains (.type "ValueError") = true := by
  refine ⟨?_, ?_, ?_⟩ <;> rfl
theorem ref_beq (a b : Addr) : (Value.ref a == Value.ref b) = decide (a = b) := by
  by_cases h : a = b
  · rw [h, decide_eq_true rfl]
    exact beq_self_eq_true _
  · rw [decide_eq_false h]
    exact beq_eq_false_iff_ne.mpr fun e => h (Value.ref.inj e)
theorem veT_ref (b : Addr) : veT.contains (.ref b) = false := rfl
theorem nodup_inj {f : Str → Addr} : ∀ {l : List Str}, nodupB (l.map f) = true → ∀ x ∈ l, ∀ y ∈ l, f x = f y → x = y
  | [], _, x, hx, _, _, _ => (List.not_mem_nil hx).elim
  | a :: r, h, x, hx, y, hy, e => by
    have h2 : (!((r.map f).contains (f a)) && nodupB (r.map f)) = true := h
    obtain ⟨h3, h4⟩ := He.ba h2
    have no : ∀ z ∈ r, f z ≠ f a := fun z hz q => by
      have w : (r.map f).contains (f a) = true := List.contains_iff_mem.mpr (q ▸ List.mem_map_of_mem hz)
      rw [w] at h3
      cases h3
    rcases List.mem_cons.mp hx with qx | qx
    · rcases List.mem_cons.mp hy with qy | qy
      · exact qx.trans qy.symm
      · subst qx
        exact absurd e.symm (no y qy)
    · rcases List.mem_cons.mp hy with qy | qy
      · subst qy
        exact absurd e (no x qx)
      · exact nodup_inj h4 x qx y qy e
theorem kit_ref {x y : Str} {tl tl2 : List Value} (c : Cl K x tl) (d : Cl K y tl2) (ne : He.ga K x ≠ He.ga K y) : PySem.W.kitOne K (.ref (He.ga K x)) (.ref (He.ga K y)) = some (tl.contains (.ref (He.ga K y))) := by
  unfold PySem.W.kitOne
  rw [ref_beq, decide_eq_false ne, if_neg (by decide)]
  show (if ((PySem.W.clsIn K (He.ga K y)).isSome && PySem.W.typeIn K (.ref (He.ga K y)) == some (.type "type")) = true then PySem.W.mroIn K (He.ga K x) (.ref (He.ga K y)) else none) = _
  rw [d.isC, d.ty, if_pos (by rfl), c.mro, List.contains_cons, ref_beq, decide_eq_false (Ne.symm ne), Bool.false_or]
theorem kit_self {a : Addr} : PySem.W.kitOne K (.ref a) (.ref a) = some true := by
  unfold PySem.W.kitOne
  rw [ref_beq, decide_eq_true rfl, if_pos rfl]
theorem kit_ve {x : Str} {tl : List Value} (c : Cl K x tl) (h : (Value.ref (He.ga K x) :: tl).contains (.type "ValueError") = true) : PySem.W.kitOne K (.ref (He.ga K x)) (.type "ValueError") = some true := by
  unfold PySem.W.kitOne
  rw [if_neg (by intro h; cases eq_of_beq h)]
  show (if PySem.W.kitMeta "ValueError" = true then PySem.W.mroIn K (He.ga K x) (.type "ValueError") else none) = _
  rw [if_pos (by decide +kernel), c.mro, h]
theorem facts_of (h : ex K = true) : Facts K ∧ (∀ x ∈ kinds, ErC K (He.ga K x) (He.ma K (He.ga K x) "__init__")) ∧ ∀ x ∈ bares3, PySem.W.excIn K (He.ga K x) veT "ValueError.__new__" = true ∧ PySem.W.keepIn K (.ref (He.ga K x)) = true := by
  unfold ex at h
  obtain ⟨h1, h⟩ := He.ba h
  obtain ⟨h2, h⟩ := He.ba h
  obtain ⟨h3, h⟩ := He.ba h
  obtain ⟨h4, h5⟩ := He.ba h
  obtain ⟨s1, s2⟩ := He.ba h3
  have S := cl_of s1
  have k1 : ∀ x ∈ kinds, Cl K x (tailOf K) ∧ clsMore K x = true ∧ initOk K x = true := fun x hx => by
    obtain ⟨a, b⟩ := He.ba (List.all_eq_true.mp h1 x hx)
    obtain ⟨b, c⟩ := He.ba b
    exact ⟨cl_of a, b, c⟩
  have k2 : ∀ x ∈ bareKinds, Cl K x (tailOf K) ∧ clsMore K x = true := fun x hx => by
    obtain ⟨a, b⟩ := He.ba (List.all_eq_true.mp h2 x hx)
    exact ⟨cl_of a, b⟩
  have k : ∀ x ∈ names42, Cl K x (tailOf K) ∧ clsMore K x = true := fun x hx => by
    rcases List.mem_append.mp hx with q | q
    · exact ⟨(k1 x q).1, (k1 x q).2.1⟩
    · exact k2 x q
  have inj := nodup_inj h5
  have inS : ("StopError" : Str) ∈ ([("StopError" : Str)] : List Str) ++ (kinds ++ bareKinds) := List.mem_append_left _ List.mem_cons_self
  have inN : ∀ x ∈ names42, x ∈ ([("StopError" : Str)] : List Str) ++ (kinds ++ bareKinds) := fun x hx => List.mem_append_right _ hx
  have noS : ("StopError" : Str) ∉ names42 := by decide +kernel
  have neS : ∀ x ∈ names42, He.ga K x ≠ He.ga K "StopError" := fun x hx e => noS (inj x (inN x hx) _ inS e ▸ hx)
  refine ⟨⟨fun x hx => ?_, fun x hx => (more_of (k1 x hx).2.1).2.2.2.2.1, fun x hx y hy => ?_, fun x hx => ?_, fun x hx => ?_, fun y hy => ?_⟩, fun x hx => ?_, fun x hx => ?_⟩
  · rcases List.mem_cons.mp hx with rfl | hx
    · exact erA_of S s2 (has_ve _).1 (has_ve _).2.1
    · exact erA_of (k x hx).1 (k x hx).2 (has_tail _ _).1 (has_tail _ _).2.1
  · by_cases e : y = x
    · rw [e, decide_eq_true rfl]
      exact kit_self
    · have ne : He.ga K x ≠ He.ga K y := fun q => e (inj x (inN x hx) y (inN y hy) q).symm
      rw [kit_ref (k x hx).1 (k y hy).1 ne, decide_eq_false e]
      unfold tailOf
      rw [List.contains_cons, ref_beq, decide_eq_false (neS y hy), veT_ref]
      rfl
  · rcases List.mem_cons.mp hx with rfl | hx
    · exact kit_self
    · rw [kit_ref (k x hx).1 S (neS x hx)]
      unfold tailOf
      rw [List.contains_cons, ref_beq, decide_eq_true rfl]
      rfl
  · rcases List.mem_cons.mp hx with rfl | hx
    · exact kit_ve S (has_ve _).2.2
    · exact kit_ve (k x hx).1 (has_tail _ _).2.2
  · rw [kit_ref S (k y hy).1 (Ne.symm (neS y hy)), veT_ref]
  · obtain ⟨c, m, i⟩ := k1 x hx
    obtain ⟨a1, _, _, _, a5, a6⟩ := more_of m
    obtain ⟨i1, i2⟩ := He.ba i
    obtain ⟨nm, q, N, bs, sn, sub, ab, col, dd, z0, z1, z2, z3, z5, e⟩ := c.ob
    exact ⟨⟨⟨nm, q, N, bs, tailOf K, sn, sub, ab, col, dd, z0, z1, z2, z3, z5, e, rfl⟩, a1, (c.mro _).trans (congrArg some (has_tail _ _).1), c.ty, a6⟩, He.eqO_ok i1, beq_iff_eq.mp i2, a5⟩
  · refine ⟨List.all_eq_true.mp h4 x hx, ?_⟩
    have hx2 : x = "StopError" ∨ x ∈ bareKinds := by
      rcases List.mem_cons.mp hx with q | q
      · exact .inl q
      · exact .inr q
    rcases hx2 with rfl | q
    · exact (more_of s2).2.2.2.2.2
    · exact (more_of (k2 x q).2).2.2.2.2.2
end
end Eo
end L2
set_option Elab.async false
set_option linter.all false
set_option maxRecDepth 100000
set_option maxHeartbeats 8000000
/-! Eo, part 15: the row. -/
namespace L2
namespace Eo
open PySem PySem.Spec PyProof.Rows
theorem helpers_in : ∀ x i, (x, i) ∈ [(("_law_purse" : Str), 45), ("_law_mixed", 46), ("_law_draw", 47), ("_law_purses", 48), ("_law_one_of", 49), ("_law_word", 50), ("_law_first", 51), ("_law_called", 52), ("_law_bare", 53), ("_law_code", 54), ("_law_is_error", 55), ("_law_right", 56)] → dG x i ∈ fn := fun x i h => by
  have e : fn = ([(("_law_purse" : Str), 45), ("_law_mixed", 46), ("_law_draw", 47), ("_law_purses", 48), ("_law_one_of", 49), ("_law_word", 50), ("_law_first", 51), ("_law_called", 52), ("_law_bare", 53), ("_law_code", 54), ("_law_is_error", 55), ("_law_right", 56)].map fun z => dG z.1 z.2) ++ (dG "law" 57 :: (fn2 ++ fn3)) := rfl
  rw [e]
  exact List.mem_append_left _ (List.mem_map_of_mem (f := fun z : Str × Nat => dG z.1 z.2) h)
def gloNames : List Str := helpers ++ ([("law" : Str), ("StopError" : Str)] ++ (kinds ++ bareKinds))
theorem glo_in : ∀ x ∈ gloNames, He.Fa.glo x ∈ fa := fun x h => List.mem_append_right _ (List.mem_map_of_mem (f := He.Fa.glo) h)
theorem helper_names : ∀ z ∈ [(("_law_purse" : Str), 45), ("_law_mixed", 46), ("_law_draw", 47), ("_law_purses", 48), ("_law_one_of", 49), ("_law_word", 50), ("_law_first", 51), ("_law_called", 52), ("_law_bare", 53), ("_law_code", 54), ("_law_is_error", 55), ("_law_right", 56)], z.1 ∈ gloNames := by decide +kernel
theorem glo42 : ∀ x ∈ names42, x ∈ gloNames := fun x h => List.mem_append_right _ (List.mem_append_right _ h)
theorem glo3 : ∀ x ∈ bares3, x ∈ gloNames := by decide +kernel
theorem init_in : ∀ x ∈ kinds, ∃ q i, dI x q i ∈ fn ∧ InitShape (initOf (topS i)) := fun x h => by
  rw [kinds_inits] at h
  obtain ⟨z, hz, e⟩ := List.mem_map.mp h
  subst e
  refine ⟨z.2.1, z.2.2, ?_, ?_⟩
  · refine List.mem_append_right _ ?_
    rw [fn_inits]
    exact List.mem_map_of_mem (f := fun z : Str × Str × Nat => dI z.1 z.2.1 z.2.2) hz
  · rcases List.mem_append.mp hz with q | q
    · exact shapesA z q
    · exact shapesB z q
section
variable {P : Program} {w : World} {K : PySem.W.Frag} {mg : Str → Option Value} {h base : Heap}
theorem stands_of (G : h.Ns mainGlobals mg) (KX : K.In h) (c : He.SaysX fa fn [] [] ex w h K) : Stands P w K mg base := by
  have cd : He.SaysD fa fn K := c.t.d
  obtain ⟨f1, f2, f3⟩ := facts_of c.more
  have glo : ∀ x ∈ gloNames, mg x = some (.ref (He.ga K x)) := fun x hx => He.glo_ok KX G (cd.facts (glo_in x hx))
  refine ⟨fun x i hx => ⟨?_, glo x (helper_names (x, i) hx)⟩, fun x hx => He.free_ok KX G (cd.facts (List.mem_append_left _ (List.mem_map_of_mem (f := He.Fa.free) hx))), f1, ⟨fun x hx => (f3 x hx).1, fun x hx => (f3 x hx).2, fun x hx => glo x (glo3 x hx)⟩, fun x hx => ?_, fun x hx => glo x (glo42 x hx)⟩
  · obtain ⟨fd, F⟩ := cd.defs (helpers_in x i hx)
    exact ⟨fd, fun_of F⟩
  · obtain ⟨q, i, hi, p1, p2, p3, q1, q2, q3, q4, e1, e2, e3⟩ := init_in x hx
    obtain ⟨fd, F⟩ := cd.defs hi
    have F2 : FunD K "__init__" q (defArgs (initOf (topS i))) (defBody (initOf (topS i))) (defScope (initOf (topS i))) [.non] [] (He.ma K (He.ga K x) "__init__") fd := F
    rw [e1, e2, e3] at F2
    exact kind_of (glo x (glo42 x (kinds_in hx))) (f2 x hx) F2
end
theorem law_end {P : Program} {w : World} {mg mb : Str → Option Value} {fa a : Addr} {s1 : Shared} {vs : List Value} {ns : List Int} (Y : hk.says w s1.heap) (hmg : mg ("law" : Str) = some (.ref fa))
    (gm : s1.heap.Ns mainGlobals mg) (gb : s1.heap.Ns builtinsNs mb) (bb : ∀ x : Str, x ≠ "__name__" → mb x = bootBuiltins x) (lim : s1.heap.NoLimit) (gn : s1.gens = #[])
    (ha : s1.heap.get? a = some { cls := .type "list", data := .seq vs.toArray }) (hi : IntsAre vs ns) (hl : ns.length ≤ 63) :
    codeAny (model P w) callerA (.call (.ref fa) ⟨[.ref a], []⟩) (fun r s' => r = .ok (.ret (.bool true)) ∧ OldK s1.heap s'.heap ∧ s'.os = s1.os ∧ AllBare s'.gens) s1 := by
  obtain ⟨K, KX, c⟩ := Y
  have cd : He.SaysD Eo.fa fn K := c.t.d
  have e := hmg.symm.trans (He.glo_ok KX gm (cd.facts (glo_in "law" (List.mem_append_right _ List.mem_cons_self))))
  obtain rfl : fa = He.ga K "law" := by
    cases e
    rfl
  obtain ⟨fd, F⟩ := cd.defs (d := dG "law" 57) (List.mem_append_left _ (by simp [fn1]))
  have b := FunD.bindsA (ps := ["_law_script"]) F fun _ _ _ _ _ _ us hl => match us, hl with | [_], _ => rfl
  exact topG (k := 4) (sp := spLaw K) KX gm gb bb lim gn ha hi (Nat.le_trans hl (by decide)) ⟨rfl, by decide, by decide⟩ (fun base _ _ => ok_law (stands_of gm KX c) (fun_of F)) (fun s v => b s [v] rfl) fun H hS => ⟨a, ns, rfl, hS, hl, fun _ => rfl⟩
end Eo
end L2
open PySem PySem.W PySem.Calls PyProof.Rows
theorem PySem.Challenge.cw_truestops_k01_errors_made_holds : PySem.Challenge.rw_truestops_k01_errors_made.Holds := by
  w_on; o_law
  refine HandSHeadRun.head_any (r := OpenLaw.row PySem.Challenge.rw_truestops_k01_errors_made) (q := view (OpenLaw.row PySem.Challenge.rw_truestops_k01_errors_made).prog [57]) (H := L2.Eo.hk) (ob := L2.Eo.ob) (M := 40000) (loose := L2.Eo.loose) (d := HandSHeadRun.topDef (OpenLaw.row PySem.Challenge.rw_truestops_k01_errors_made).prog 57) (kwd := []) L2.Eo.ob_eq
    (by kernel_rfl) (fun s => by kernel_rfl) L2.Eo.run (by kernel_rfl) (by kernel_rfl) (by kernel_rfl) (by rfl) (by first | assumption | decide +kernel) (by decide +kernel) ⟨rfl, rfl, rfl, rfl, rfl, by decide +kernel⟩ ?hw ?hc
  case hw => w_witness2
  case hc =>
    refine Att.attach_call (l := PySem.Challenge.rw_truestops_k01_errors_made) (n := 63) rfl (by kernel_rfl) fun w s₀ s₁ mg mb fa o pm cd doc a vs ns G Y ho hd hcd hmg hobj hints hlen hg => ?_
    have e : (HandSHeadRun.topDef (OpenLaw.row PySem.Challenge.rw_truestops_k01_errors_made).prog 57).name = ("law" : PySem.Str) := by kernel_rfl
    rw [e] at hmg
    exact L2.Eo.law_end Y hmg G.T.g G.T.b G.T.builtins G.T.nolimit hg hobj hints hlen
