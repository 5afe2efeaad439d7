import PyProof.Rows.All
import Wide.All
import OpenK.AllK
import Wide.FinOn
import KE.KStateDown
import Lean
import HandS.ForMost
import HandS.Exc
import HandS.ExcInit
import HandS.ExcIs
import HandS.IsInst
import HandS.Defaults
import HandS.Head0
import HandS.Head1
import HandS.Head2
import HandS.Head3
import HandS.HeadEnd
import HandS.HeadHook1
import HandS.HeadHook2
import HandS.HeadHook3
import HandS.HeadHook4
import PySem.Challenge.RW_truestops_k30_whole_straight_rows
import KE.SortData
import HandS.SortInts
import KE.KMathG
import HandS.WideBits
import HandS.Wide
import HandS.Flow
import HandS.More
import HandS.Codes
import HandS.Text
import HandS.Walk
import HandS.FStr
import HandS.Deep
import HandS.Dict
import HandS.DictComp
import HandS.Steps
import PyProof.ZipIter
import HandS.Star
import KE.KStar
import PyProof.StrLawsRepr
import PyProof.Rows.NestFoldShow
import PyProof.NeKinds
import HandS.MakeKw
import KE.KIsAll
import KE.KTryMore
import HandS.ExcValue
import HandS.WordsExc
import KE.Datum
import HandS.DictSub
import HandS.StrMore
import HandS.Zip
import HandS.Conv
import KE.KDictList
import KE.KItemsList
import KE.KDictPairs
import KE.KDictZip
import KE.KRevIter
import PyProof.DictValues
import PyProof.DictItems
import HandS.Rev
import HandS.Style
import HandS.TupLe
import PyProof.P3Eq
set_option Elab.async false
set_option linter.all false
set_option maxRecDepth 100000
set_option maxHeartbeats 0
/-! Vb, part 1: the head. -/
namespace L2
namespace Vb
open PySem PySem.Spec PyProof.Rows
abbrev Pw : Program := PySem.Challenge.pw_truestops_k30_whole_straight_rows
def topS (i : Nat) : Stmt := Pw.main.body.getD i (.Pass ⟨0, 0, 0, 0⟩)
def dG (x : Str) (i : Nat) : He.DefD := ⟨(x, none), x, x, defArgs (topS i), defBody (topS i), defScope (topS i), [], []⟩
def defs : List (Str × Nat) := [(("unit_vector" : Str), (7 : Nat)), (("is_count" : Str), (13 : Nat)), (("is_name" : Str), (14 : Nat)), (("is_prime" : Str), (15 : Nat)), (("require_prime" : Str), (16 : Nat)), (("is_number" : Str), (17 : Nat)), (("is_factor" : Str), (18 : Nat)), (("is_sum" : Str), (19 : Nat)), (("are_ats" : Str), (25 : Nat)), (("are_labels" : Str), (26 : Nat)), (("are_stops" : Str), (27 : Nat)), (("is_other_part" : Str), (29 : Nat)), (("name_of_box" : Str), (32 : Nat)), (("name_of_cell" : Str), (33 : Nat)), (("without_noughts" : Str), (34 : Nat)), (("change_of" : Str), (35 : Nat)), (("added_up" : Str), (37 : Nat)), (("is_known_sum" : Str), (39 : Nat)), (("vector_of" : Str), (40 : Nat)), (("reckoning" : Str), (42 : Nat)), (("keys_of_cells" : Str), (46 : Nat)), (("require_straight" : Str), (47 : Nat)), (("straight" : Str), (48 : Nat)), (("are_straight" : Str), (49 : Nat)), (("_law_purse" : Str), (51 : Nat)), (("_law_mixed" : Str), (52 : Nat)), (("_law_draw" : Str), (53 : Nat)), (("_law_purses" : Str), (54 : Nat)), (("_law_one_of" : Str), (55 : Nat)), (("_law_shuffled" : Str), (56 : Nat)), (("_law_prime" : Str), (57 : Nat)), (("_law_ended" : Str), (58 : Nat)), (("_law_is_number" : Str), (59 : Nat)), (("_law_is_row" : Str), (60 : Nat)), (("_law_due" : Str), (61 : Nat)), (("_law_bent" : Str), (62 : Nat)), (("_law_drawn_rows" : Str), (63 : Nat)), (("_law_right" : Str), (64 : Nat)), (("law" : Str), (65 : Nat))]
/-- the i-th statement of a class -/
def stOf (i : Nat) : Stmt → Stmt
  | .ClassDef (body := b) .. => b.getD i (.Pass ⟨0, 0, 0, 0⟩)
  | s => s
/-- a method: the j-th statement of the class at i -/
def dM (x m q : Str) (i j : Nat) : He.DefD := ⟨(x, some m), m, q, defArgs (stOf j (topS i)), defBody (stOf j (topS i)), defScope (stOf j (topS i)), [], []⟩
def meths : List (Str × Str × Nat) := [("__init__", "Sizes.__init__", 0), ("is_row", "Sizes.is_row", 1)]
def fn : List He.DefD := (defs.map fun z => dG z.1 z.2) ++ meths.map fun z => dM "Sizes" z.1 z.2.1 28 z.2.2
def frees : List Str := [("ValueError" : Str), ("all" : Str), ("bool" : Str), ("dict" : Str), ("enumerate" : Str), ("int" : Str), ("isinstance" : Str), ("len" : Str), ("list" : Str), ("max" : Str), ("min" : Str), ("range" : Str), ("repr" : Str), ("reversed" : Str), ("sorted" : Str), ("str" : Str), ("sum" : Str), ("tuple" : Str), ("type" : Str), ("zip" : Str)]
def fa : List He.Fa := frees.map He.Fa.free ++ ([He.Fa.int "GREATEST_PRIME" 65537, He.Fa.int "LONGEST_NAME" 8, He.Fa.int "SMALL_PRODUCT" 64266330917908644872330635228106713310880186591609208114244758680898150367880703152525200743234420230, He.Fa.int "MOST_CELLS" 8, He.Fa.int "FEWEST_WAYS" 2, He.Fa.int "MOST_WAYS" 4, He.Fa.int "STRAIGHT_BOXES" 2] ++ ((defs.map fun z => He.Fa.glo z.1) ++ [He.Fa.glo "SMALL_PRIMES", He.Fa.glo "BOXES", He.Fa.glo "STRAIGHT", He.Fa.glo "PARTS_OF_ROWS", He.Fa.glo "Sizes", He.Fa.cls "Sizes", He.Fa.mkr "Sizes", He.Fa.meth "Sizes" "is_row", He.Fa.noat "Sizes" "limits"]))
def loose : List Str := [("GREATEST_PRIME" : Str), ("LONGEST_NAME" : Str), ("SMALL_PRIMES" : Str), ("SMALL_PRODUCT" : Str), ("MOST_CELLS" : Str), ("FEWEST_WAYS" : Str), ("MOST_WAYS" : Str), ("PARTS_OF_ROWS" : Str), ("BOXES" : Str), ("STRAIGHT" : Str), ("STRAIGHT_BOXES" : Str), ("StopError" : Str), ("InvalidPrime" : Str), ("InvalidSum" : Str), ("InvalidCount" : Str), ("Sizes" : Str), ("unit_vector" : Str), ("is_count" : Str), ("is_name" : Str), ("is_prime" : Str), ("require_prime" : Str), ("is_number" : Str), ("is_factor" : Str), ("is_sum" : Str), ("are_ats" : Str), ("are_labels" : Str), ("are_stops" : Str), ("is_other_part" : Str), ("name_of_box" : Str), ("name_of_cell" : Str), ("without_noughts" : Str), ("change_of" : Str), ("added_up" : Str), ("is_known_sum" : Str), ("vector_of" : Str), ("reckoning" : Str), ("keys_of_cells" : Str), ("require_straight" : Str), ("straight" : Str), ("are_straight" : Str), ("_law_purse" : Str), ("_law_mixed" : Str), ("_law_draw" : Str), ("_law_purses" : Str), ("_law_one_of" : Str), ("_law_shuffled" : Str), ("_law_prime" : Str), ("_law_ended" : Str), ("_law_is_number" : Str), ("_law_is_row" : Str), ("_law_due" : Str), ("_law_bent" : Str), ("_law_drawn_rows" : Str), ("_law_right" : Str)]
def sysB (K : PySem.W.Frag) : Bool := match K.lookup PySem.sysModules with
  | some o => (match o.data with
    | .dict _ _ => true
    | _ => false)
  | none => false
def SMALL_PRIMES_L : List Int := [2, 3, 5, 7, 11, 13, 17, 19, 23, 29, 31, 37, 41, 43, 47, 53, 59, 61, 67, 71, 73, 79, 83, 89, 97, 101, 103, 107, 109, 113, 127, 131, 137, 139, 149, 151, 157, 163, 167, 173, 179, 181, 191, 193, 197, 199, 211, 223, 227, 229, 233, 239, 241, 251]
def BOXES_S : List Str := [("#0" : Str), ("#1" : Str), ("#2" : Str), ("#3" : Str)]
def STRAIGHT_S : List Str := [("set" : Str), ("copy" : Str), ("times" : Str), ("more" : Str), ("add" : Str), ("take" : Str)]
def PARTS_OF_ROWS_D : List (Str × List Str) := [(("set" : Str), [("box" : Str), ("number" : Str)]), (("copy" : Str), [("box" : Str), ("box" : Str)]), (("times" : Str), [("box" : Str), ("number" : Str)]), (("more" : Str), [("box" : Str), ("number" : Str)]), (("add" : Str), [("box" : Str), ("box" : Str)]), (("take" : Str), [("box" : Str), ("cell" : Str)]), (("keep" : Str), [("cell" : Str), ("box" : Str)]), (("fetch" : Str), [("box" : Str), ("global" : Str)]), (("store" : Str), [("global" : Str), ("box" : Str)]), (("read" : Str), [("box" : Str)]), (("print" : Str), [("box" : Str)]), (("pick" : Str), [("ats" : Str)]), (("go" : Str), [("at" : Str)]), (("call" : Str), [("name" : Str), ("name" : Str)]), (("back" : Str), []), (("mark" : Str), [("name" : Str), ("stops" : Str)]), (("end" : Str), [])]
/-- a tuple of texts stands there -/
def tupA (K : PySem.W.Frag) (a : Addr) (ws : List Str) : Bool := match K.lookup a with
  | none => false
  | some o => (decide (o.cls = .type "tuple")) && (match o.data with
    | .seq its _ => (decide (its.size ≤ sizeLine)) && He.relAll (ws.map V.str) its.toList
    | _ => false)
def partsB (K : PySem.W.Frag) : Bool := PARTS_OF_ROWS_D.all fun q => match PySem.W.nsIn K (He.ga K "PARTS_OF_ROWS") q.1 with
  | some (some (.ref a)) => tupA K a q.2
  | _ => false
def parts_T : He.Tab := (fun K => He.ga K "PARTS_OF_ROWS", PARTS_OF_ROWS_D.map (·.1))
def exB (K : PySem.W.Frag) : Bool := He.eqO (PySem.W.nsIn K mainGlobals "gcd") (some (some (.builtin "math.gcd"))) && (He.tupB K "SMALL_PRIMES" (SMALL_PRIMES_L.map He.Dv.int) && (He.tupB K "BOXES" (BOXES_S.map He.Dv.str) && (He.tupB K "STRAIGHT" (STRAIGHT_S.map He.Dv.str))))
def ex (K : PySem.W.Frag) : Bool := exB K && (partsB K && sysB K)
abbrev R : PySem.W.OpenRow := PySem.W.OpenLaw.row PySem.Challenge.rw_truestops_k30_whole_straight_rows
/-! the Hook, with one address more -/
def asY (g : Addr → Option Obj) : List Addr := PySem.sysModules :: He.asD g 5
abbrev frY (g : Addr → Option Obj) : PySem.W.Frag := He.frT g (asY g)
abbrev AlY : Type := He.AlT × Bool
def obY (g : Addr → Option Obj) : AlY := (He.obsT fa fn [parts_T] (frY g), ex (frY g))
def valY (w : World) : AlY := (He.valT fn [parts_T] w, true)
structure Says (w : World) (K : PySem.W.Frag) : Prop where
  t : He.SaysT fa fn [parts_T] w K
  more : ex K = true
def hk : PySem.W.Hook where
  α := AlY
  obs := fun s => obY s.heap.get?
  val := fun w => valY w
  says := fun w h => ∃ K : PySem.W.Frag, K.In h ∧ Says w K
  of := fun _ _ e => ⟨_, He.frT_in, ⟨congrArg (fun z : AlY => z.1) e, congrArg (fun z : AlY => z.2) e⟩⟩
  keeps := fun _ _ _ ⟨K, hK, c⟩ k => ⟨K, PySem.W.Frag.In.keeps hK k, c⟩
def ob (s : PySem.W.SharedT) : AlY := obY (HandSHeadRun.getT s)
theorem obY_eq {g : Addr → Option Obj} {s : Shared} (h : ∀ a, g a = s.heap.get? a) : obY g = hk.obs s := by
  have e : g = s.heap.get? := funext h
  rw [e] <;> rfl
theorem ob_eq (s : PySem.W.SharedT) : ob s = hk.obs s.abs := obY_eq (HandSHeadRun.getT_eq s)
/-- the world, its one asked answer written out -/
def wB (b : Bool) (w : World) : World := { w with params := { w.params with followText := fun x => match decide (x = "special-get-raises") with
  | true => b
  | false => w.params.followText x } }
theorem wB_eq (w : World) : wB (w.params.followText "special-get-raises") w = w := by
  obtain ⟨d, P⟩ := w
  obtain ⟨p1, p2, p3, p4, p5, f, p7, p8, p9, p10, p11, p12, p13, p14, p15, p16, p17, p18, p19, p20, p21, p22, p23, p24, p25⟩ := P
  have e : (fun x => match decide (x = "special-get-raises") with
    | true => f "special-get-raises"
    | false => f x) = f := by
    funext x
    by_cases h : x = "special-get-raises"
    · rw [decide_eq_true h, h]
    · rw [decide_eq_false h]
  unfold wB
  simp only
  rw [e]
/-- what holds both ways holds -/
theorem both {Q : World → Prop} (h1 : ∀ w, Q (wB true w)) (h0 : ∀ w, Q (wB false w)) (w : World) : Q w := by
  have z : Q (wB (w.params.followText "special-get-raises") w) := by
    cases w.params.followText "special-get-raises" with
    | true => exact h1 w
    | false => exact h0 w
  rw [wB_eq] at z
  exact z
open HandSHeadRun PySem.W in
theorem run_aT (w : World) : (wholeF (fun p => stepQ (denQ tabQ) p (wB true w)) fenceQ 40000 R.prog).map (fun x => looksF R.prog x.1.heap x.2.abs) = some true := by kernel_rfl
open HandSHeadRun PySem.W in
theorem run_aF (w : World) : (wholeF (fun p => stepQ (denQ tabQ) p (wB false w)) fenceQ 40000 R.prog).map (fun x => looksF R.prog x.1.heap x.2.abs) = some true := by kernel_rfl
open HandSHeadRun PySem.W in
theorem run_a (w : World) : (wholeF (fun p => stepQ (denQ tabQ) p w) fenceQ 40000 R.prog).map (fun x => looksF R.prog x.1.heap x.2.abs) = some true := both (Q := fun w => (wholeF (fun p => stepQ (denQ tabQ) p w) fenceQ 40000 R.prog).map (fun x => looksF R.prog x.1.heap x.2.abs) = some true) run_aT run_aF w
open HandSHeadRun PySem.W in
theorem run_bT (w : World) : (wholeF (fun p => stepQ (denQ tabQ) p (wB true w)) fenceQ 40000 R.prog).map (fun x => seenQ (view R.prog [0, 65]) loose (importedModules R.prog.main.body) (fun s => xlAt (view R.prog [0, 65]) [] s && recOk R.toRowW.records s) x.2.abs) = some (openGood (view R.prog [0, 65]) loose) := by kernel_rfl
open HandSHeadRun PySem.W in
theorem run_bF (w : World) : (wholeF (fun p => stepQ (denQ tabQ) p (wB false w)) fenceQ 40000 R.prog).map (fun x => seenQ (view R.prog [0, 65]) loose (importedModules R.prog.main.body) (fun s => xlAt (view R.prog [0, 65]) [] s && recOk R.toRowW.records s) x.2.abs) = some (openGood (view R.prog [0, 65]) loose) := by kernel_rfl
open HandSHeadRun PySem.W in
theorem run_b (w : World) : (wholeF (fun p => stepQ (denQ tabQ) p w) fenceQ 40000 R.prog).map (fun x => seenQ (view R.prog [0, 65]) loose (importedModules R.prog.main.body) (fun s => xlAt (view R.prog [0, 65]) [] s && recOk R.toRowW.records s) x.2.abs) = some (openGood (view R.prog [0, 65]) loose) := both (Q := fun w => (wholeF (fun p => stepQ (denQ tabQ) p w) fenceQ 40000 R.prog).map (fun x => seenQ (view R.prog [0, 65]) loose (importedModules R.prog.main.body) (fun s => xlAt (view R.prog [0, 65]) [] s && recOk R.toRowW.records s) x.2.abs) = some (openGood (view R.prog [0, 65]) loose)) run_bT run_bF w
abbrev frS (s : PySem.W.SharedT) : PySem.W.Frag := frY (HandSHeadRun.getT s)
open HandSHeadRun PySem.W in
theorem run_c1T (w : World) : (wholeF (fun p => stepQ (denQ tabQ) p (wB true w)) fenceQ 40000 R.prog).map (fun x => exB (frS x.2)) = some true := by kernel_rfl
open HandSHeadRun PySem.W in
theorem run_c1F (w : World) : (wholeF (fun p => stepQ (denQ tabQ) p (wB false w)) fenceQ 40000 R.prog).map (fun x => exB (frS x.2)) = some true := by kernel_rfl
open HandSHeadRun PySem.W in
theorem run_c1 (w : World) : (wholeF (fun p => stepQ (denQ tabQ) p w) fenceQ 40000 R.prog).map (fun x => exB (frS x.2)) = some true := both (Q := fun w => (wholeF (fun p => stepQ (denQ tabQ) p w) fenceQ 40000 R.prog).map (fun x => exB (frS x.2)) = some true) run_c1T run_c1F w
open HandSHeadRun PySem.W in
theorem run_c2T (w : World) : (wholeF (fun p => stepQ (denQ tabQ) p (wB true w)) fenceQ 40000 R.prog).map (fun x => partsB (frS x.2)) = some true := by kernel_rfl
open HandSHeadRun PySem.W in
theorem run_c2F (w : World) : (wholeF (fun p => stepQ (denQ tabQ) p (wB false w)) fenceQ 40000 R.prog).map (fun x => partsB (frS x.2)) = some true := by kernel_rfl
open HandSHeadRun PySem.W in
theorem run_c2 (w : World) : (wholeF (fun p => stepQ (denQ tabQ) p w) fenceQ 40000 R.prog).map (fun x => partsB (frS x.2)) = some true := both (Q := fun w => (wholeF (fun p => stepQ (denQ tabQ) p w) fenceQ 40000 R.prog).map (fun x => partsB (frS x.2)) = some true) run_c2T run_c2F w
open HandSHeadRun PySem.W in
theorem run_c3T (w : World) : (wholeF (fun p => stepQ (denQ tabQ) p (wB true w)) fenceQ 40000 R.prog).map (fun x => sysB (frS x.2)) = some true := by kernel_rfl
open HandSHeadRun PySem.W in
theorem run_c3F (w : World) : (wholeF (fun p => stepQ (denQ tabQ) p (wB false w)) fenceQ 40000 R.prog).map (fun x => sysB (frS x.2)) = some true := by kernel_rfl
open HandSHeadRun PySem.W in
theorem run_c3 (w : World) : (wholeF (fun p => stepQ (denQ tabQ) p w) fenceQ 40000 R.prog).map (fun x => sysB (frS x.2)) = some true := both (Q := fun w => (wholeF (fun p => stepQ (denQ tabQ) p w) fenceQ 40000 R.prog).map (fun x => sysB (frS x.2)) = some true) run_c3T run_c3F w
theorem three {α : Type} {o : Option α} {f g h : α → Bool} (hf : o.map f = some true) (hg : o.map g = some true) (hh : o.map h = some true) : o.map (fun s => f s && (g s && h s)) = some true := by
  cases o with
  | none => cases hf
  | some x =>
    have a : f x = true := Option.some.inj hf
    have b : g x = true := Option.some.inj hg
    have c : h x = true := Option.some.inj hh
    show some (f x && (g x && h x)) = some true
    rw [a, b, c]
    rfl
open HandSHeadRun PySem.W in
theorem run_c (w : World) : (wholeF (fun p => stepQ (denQ tabQ) p w) fenceQ 40000 R.prog).map (fun x => (ob x.2).2) = some true := three (run_c1 w) (run_c2 w) (run_c3 w)
open HandSHeadRun PySem.W in
theorem run_dT (w : World) : (wholeF (fun p => stepQ (denQ tabQ) p (wB true w)) fenceQ 40000 R.prog).map (fun x => (ob x.2).1) = some (He.valT fn [parts_T] (wB true w)) := by kernel_rfl
open HandSHeadRun PySem.W in
theorem run_dF (w : World) : (wholeF (fun p => stepQ (denQ tabQ) p (wB false w)) fenceQ 40000 R.prog).map (fun x => (ob x.2).1) = some (He.valT fn [parts_T] (wB false w)) := by kernel_rfl
open HandSHeadRun PySem.W in
theorem run_d (w : World) : (wholeF (fun p => stepQ (denQ tabQ) p w) fenceQ 40000 R.prog).map (fun x => (ob x.2).1) = some (He.valT fn [parts_T] w) := both (Q := fun w => (wholeF (fun p => stepQ (denQ tabQ) p w) fenceQ 40000 R.prog).map (fun x => (ob x.2).1) = some (He.valT fn [parts_T] w)) run_dT run_dF w
/-- four looks at one end are one look -/
theorem four {α β γ δ ε : Type} {o : Option α} {f : α → β} {g : α → γ} {h : α → δ} {k : α → ε} {b : β} {c : γ} {d : δ} {e : ε} (hf : o.map f = some b) (hg : o.map g = some c) (hh : o.map h = some d) (hk : o.map k = some e) :
    o.map (fun s => (f s, g s, (h s, k s))) = some (b, c, (d, e)) := by
  cases o with
  | none => cases hf
  | some x =>
    cases hf
    cases hg
    cases hh
    cases hk
    rfl
theorem run (w : World) : HandSHeadRun.RunEqI R (PySem.W.view R.prog [0, 65]) hk ob 40000 loose w := by
  have z := four (run_a w) (run_b w) (run_d w) (run_c w)
  exact z
end Vb
end L2

set_option Elab.async false
set_option linter.all false
set_option maxRecDepth 100000
set_option maxHeartbeats 4000000
/-! Vb, part 2: lists of lists of numbers; sorted of such. -/
namespace L2
namespace Vb
open PySem PySem.Spec PyProof.Rows
/-- b is the list of these numbers -/
def Rw (H : Hp) (b : Addr) (xs : List Int) : Prop := H b = some (.lst (xs.map V.int))
/-- they stand one by one -/
def Rws (H : Hp) (as : List Addr) (T : List (List Int)) : Prop := Paired (Rw H) as T
theorem Rws.mono {H H' : Hp} {as : List Addr} {T : List (List Int)} (h : Rws H as T) (k : ∀ b ∈ as, ∀ o, H b = some o → H' b = some o) : Rws H' as T := by
  induction h with
  | nil => exact .nil
  | cons p ps ih => exact .cons (k _ List.mem_cons_self _ p) (ih fun b m => k b (List.mem_cons_of_mem _ m))
theorem Rws.len {H : Hp} {as : List Addr} {T : List (List Int)} (h : Rws H as T) : as.length = T.length := by
  induction h with
  | nil => rfl
  | cons _ _ ih => exact congrArg (· + 1) ih
/-- a and its row -/
abbrev AR : Type := Addr × List Int
theorem rws_zip {H : Hp} {as : List Addr} {T : List (List Int)} (h : Rws H as T) : ∀ z ∈ as.zip T, Rw H z.1 z.2 := by
  induction h with
  | nil => exact fun z m => (List.not_mem_nil m).elim
  | cons p _ ih =>
    intro z m
    rcases List.mem_cons.mp m with q | q
    · rw [q]
      exact p
    · exact ih z q
theorem rws_of {H : Hp} : ∀ {zs : List AR}, (∀ z ∈ zs, Rw H z.1 z.2) → Rws H (zs.map (·.1)) (zs.map (·.2))
  | [], _ => .nil
  | z :: zs, h => .cons (h z List.mem_cons_self) (rws_of fun y m => h y (List.mem_cons_of_mem _ m))
def rSortedM (K : PySem.W.Frag) : List V → Hp → VK → Prop := fun vs H Q => ∃ (a : Addr) (as : List Addr) (T : List (List Int)), vs = [V.ref a] ∧ SqL K H a (as.map V.ref) ∧ Rws H as T ∧
  ∀ (as' : List Addr) (T' : List (List Int)) (p : Addr), Rws H as' T' → T'.Perm T → T'.Pairwise (· ≤ ·) → (∀ b ∈ as', b ∈ as) → H p = none → Q (.ref p) (upd H p (.lst (as'.map V.ref)))
theorem each_refs {R : Value → AR → Prop} (hR : ∀ z : AR, R (.ref z.1) z) : ∀ {zs : List AR} {its : List Value}, Vals ((zs.map (·.1)).map V.ref) its → PySem.W.EachIs R its zs
  | [], _, r => by
    cases r
    exact .nil
  | z :: zs, _, r => by
    cases r with
    | cons h t =>
      cases (show _ = Value.ref z.1 from h)
      exact .cons (hR z) (each_refs hR t)
theorem vals_refs {zs : List AR} : ∀ {out : List Value}, PySem.W.EachIs (fun v z => v = Value.ref z.1) out zs → Vals ((zs.map (·.1)).map V.ref) out := by
  induction zs with
  | nil =>
    intro out e
    cases e
    exact .nil
  | cons z zs ih =>
    intro out e
    cases e with
    | cons h t => exact .cons h (ih t)
theorem reads_ints {h : Heap} : ∀ {ts : List Value} {ns : List Int}, IntsAre ts ns → ReadsAll h ts (ns.map PyData.int) []
  | _, _, .nil => .nil
  | _, _, .cons n t r => .cons (.int n t) (reads_ints r)
abbrev rowD (z : AR) : PyData := .list (z.2.map PyData.int)
theorem row_depth (z : AR) : (rowD z).depth ≤ 1 := by
  show PyData.depth (.list (z.2.map PyData.int)) ≤ 1
  unfold PyData.depth
  rw [PySem.W.depth_ints]
  omega
theorem rows_alike (zs : List AR) : PySem.W.AllAlike (zs.map rowD) := .of fun a b => by
  show PySem.W.alike (.list (a.2.map .int)) (.list (b.2.map .int)) = true
  simp only [PySem.W.alike]
  exact PySem.W.alike_ints _ _
theorem rows_sortable (zs : List AR) : PySem.W.Sortable (zs.map rowD) := .others fun b => ⟨fun e => (nomatch e), fun xs e => (nomatch e)⟩
section
variable {X : Cx}
theorem cr_sortedM (hu : X.A.units + 8 < cLine) : CallR X (.builtin "sorted") (rSortedM X.K) := by
  intro pins s σ H vs us Q I r h
  obtain ⟨a, as, T, rfl, hs, hT, q⟩ := h
  obtain ⟨its, rv, hl, hz⟩ := I.list hs
  rw [Vals.ref1 r]
  have ln := hT.len
  have e1 : (as.zip T).map (·.1) = as := List.map_fst_zip (Nat.le_of_eq ln)
  have e2 : (as.zip T).map (·.2) = T := List.map_snd_zip (Nat.le_of_eq ln.symm)
  have hz2 := rws_zip hT
  have rv2 : Vals (((as.zip T).map (·.1)).map V.ref) its := by
    rw [e1]
    exact rv
  have mem : ∀ z ∈ as.zip T, ∃ bs, Reads s.heap (.ref z.1) (rowD z) bs := fun z m => by
    obtain ⟨_, ts, n, rt, e⟩ := (show ObjOk X.prog X.w H s.heap z.1 (.lst (z.2.map V.int)) from I.hok _ _ (hz2 z m))
    exact ⟨_, .list e rfl rfl (reads_ints rt.ints)⟩
  have ee : PySem.W.EachIs (fun v z => v = Value.ref z.1) its (as.zip T) := each_refs (fun _ => rfl) rv2
  have er : PySem.W.EachIs (fun v z => ∃ bs, Reads s.heap v (rowD z) bs) its (as.zip T) := (PySem.W.each_mem ee).mono fun v z ⟨e, m⟩ => by
    rw [e]
    exact mem z m
  have lz : (as.zip T).length = as.length := by rw [List.length_zip]; omega
  refine PySem.W.sorted_data hl.isList ee er (rows_alike _) (rows_sortable _) (by rw [lz]; rw [List.length_map] at hz; exact hz) (fun b m => by have d := row_depth b; omega) fun out lo eo => ?_
  have pm : ((as.zip T).mergeSort (PySem.W.dataLe false rowD)).Perm (as.zip T) := List.mergeSort_perm _ _
  have srt : ((as.zip T).mergeSort (PySem.W.dataLe false rowD)).Pairwise fun x y => x.2 ≤ y.2 := by
    have el : PySem.W.dataLe false rowD = fun p q : AR => decide (p.2 ≤ q.2) := PySem.W.dataLe_rows (fun z : AR => z.2)
    rw [el]
    refine (List.pairwise_mergeSort (le := fun p q : AR => decide (p.2 ≤ q.2)) (fun x y z h1 h2 => ?_) (fun x y => ?_) _).imp fun h => of_decide_eq_true h
    · exact decide_eq_true (List.le_trans (of_decide_eq_true h1) (of_decide_eq_true h2))
    · rcases List.le_total x.2 y.2 with w | w
      · exact Bool.or_eq_true_iff.mpr (.inl (decide_eq_true w))
      · exact Bool.or_eq_true_iff.mpr (.inr (decide_eq_true w))
  obtain ⟨ep, he'⟩ := PyProof.Rows.sortedAll_at s.heap its out.toArray
  have vo := vals_refs eo
  have ll : ((((as.zip T).mergeSort (PySem.W.dataLe false rowD)).map (·.1)).map V.ref).length ≤ sizeLine := by
    rw [List.length_map, List.length_map, pm.length_eq, lz]
    rw [List.length_map] at hz
    exact hz
  refine ⟨.ref _, upd H (s.heap.objs.size + 1) (.lst ((((as.zip T).mergeSort (PySem.W.dataLe false rowD)).map (·.1)).map V.ref)), I.laid (t' := s.toks) (fun _ _ => PyProof.Rows.sortedAll_old) (Nat.le_succ _) ⟨ll, out, ep, vo, he'⟩, rfl, ?_⟩
  refine q _ _ _ (rws_of fun z m => hz2 z (pm.mem_iff.mp m)) ?_ (List.pairwise_map.mpr srt) (fun b mb => ?_) (I.hok.fresh (Nat.le_succ _))
  · have z := pm.map (·.2)
    rw [e2] at z
    exact z
  · obtain ⟨y, my, rfl⟩ := List.mem_map.mp mb
    exact (List.of_mem_zip (a := y.1) (b := y.2) (pm.mem_iff.mp my)).1
end
end Vb
end L2

set_option Elab.async false
set_option linter.all false
set_option maxRecDepth 100000
set_option maxHeartbeats 4000000
/-! Vb, part 3: calls that the layer lacks: a global that is a built-in, isqrt, all of numbers. -/
namespace L2
namespace Vb
open PySem PySem.Spec PyProof.Rows
section
variable {X : Cx} {x : Str} {id : String} {r : List V → Hp → VK → Prop} {p pos : Pos} {e : Expr} {es : List Expr} {t : TA}
/-- f(e, ..), f an imported built-in -/
theorem pe_callImp (hc : CallR X (.builtin id) r) (hg : Gl X x) (hm : X.mg x = some (.builtin id)) (ha : PA X (e :: es) t) (hdb : (x == ("__debug__" : Str)) = false := by decide)
    (he : starEach (e :: es) X.env = (false, eval e X.env) :: starEach es X.env := by rfl) (hpl : (backTo pos (starEach es X.env)).any (·.1) = false := by rfl) : PE X (.Call (.Name x p) (e :: es) [] pos) (tCB r t) := by
  refine ⟨fun pins s σ H Q I h => ?_⟩
  refine wpAny_Call_Name_kw (ld_glob I hg hm ?_ hdb)
  exact PyProof.Rows.callWith_builtin1 (thn (ha.run pos pins s σ H _ I h) fun us s1 ⟨vs, H1, I1, r1, q1⟩ => hc pins s1 σ H1 vs us Q I1 r1 q1) he hpl
def rGcd : List V → Hp → VK → Prop := fun vs H Q => ∃ a b : Int, vs = [V.int a, V.int b] ∧ Q (.int ((a.natAbs.gcd b.natAbs : Nat) : Int)) H
theorem cr_gcd : CallR X (.builtin "math.gcd") rGcd := by
  intro pins s σ H vs us Q I rr h
  obtain ⟨a, b, rfl, q⟩ := h
  obtain ⟨u, v, rfl, ru, rv⟩ := vals2 rr
  obtain ⟨tk, rfl⟩ := (show ∃ tk, u = Value.int a tk from ru)
  obtain ⟨tl, rfl⟩ := (show ∃ tk, v = Value.int b tk from rv)
  exact PySem.W.mg_gcd fun _ => ⟨.int _, H, I.kept (t' := s.toks + 1) fun b o eo => eo, ⟨_, rfl⟩, q⟩
def rIsqrt : List V → Hp → VK → Prop := fun vs H Q => ∃ a : Int, vs = [V.int a] ∧ 0 ≤ a ∧ a < 2 ^ 64 ∧ Q (.int ((Float64.isqrt a.toNat : Nat) : Int)) H
theorem cr_isqrt : CallR X (.builtin "math.isqrt") rIsqrt := by
  intro pins s σ H vs us Q I rr h
  obtain ⟨a, rfl, h0, h1, q⟩ := h
  obtain ⟨u, rfl, ru⟩ := vals1 rr
  obtain ⟨tk, rfl⟩ := (show ∃ tk, u = Value.int a tk from ru)
  exact PySem.W.mg_isqrt h0 h1 ⟨.int _, H, I.kept (t' := s.toks + 1) fun b o eo => eo, ⟨_, rfl⟩, q⟩
theorem truth_ints {prog : Program} {w : World} {A : Around} {its : List Value} {ns : List Int} (e : IntsAre its ns) :
    TruthOf prog w A (fun i v => its.toArray[i]? = some v) (fun i => decide (ns.getD i 0 ≠ 0)) := fun i v s Q E hv hq => by
  have hv' : its[i]? = some v := by simpa using hv
  have key : ∃ n t, v = Value.int n t ∧ ns.getD i 0 = n := by
    clear hq hv
    induction e generalizing i with
    | nil => cases hv'
    | cons n t r ih =>
      cases i with
      | zero =>
        cases hv'
        exact ⟨n, t, rfl, rfl⟩
      | succ i => exact ih i hv'
  obtain ⟨n, t, rfl, en⟩ := key
  have hq' : Q (decide (ns.getD i 0 ≠ 0)) s := hq
  rw [en] at hq'
  have eb : (n != 0) = decide (n ≠ 0) := by
    by_cases h : n = 0
    · rw [h]
      rfl
    · rw [decide_eq_true h]
      exact bne_iff_ne.mpr h
  have hq2 : Q (n != 0) s := by
    rw [eb]
    exact hq'
  first | exact truthy_int hq2 | exact PyProof.Rows.truthy_int hq2 | exact PureInt.truthy_int hq2 | exact PySem.PureInt.truthy_int hq2 | exact PyProof.Rows.RuleU_int.truthy_int hq2
def rAllI (K : PySem.W.Frag) : List V → Hp → VK → Prop := fun vs H Q => ∃ (a : Addr) (ns : List Int), vs = [V.ref a] ∧ SqL K H a (ns.map V.int) ∧ Q (.bl (ns.all fun n => decide (n ≠ 0))) H
theorem all_rangeI : ∀ ns : List Int, (List.range ns.length).all (fun i => decide (ns.getD i 0 ≠ 0)) = ns.all fun n => decide (n ≠ 0)
  | [] => rfl
  | n :: ns => by
    rw [List.length_cons, List.range_succ_eq_map, List.all_cons, List.all_map, List.all_cons, ← all_rangeI ns]
    rfl
theorem cr_allI (hc : X.calm = true) : CallR X (.builtin "all") (rAllI X.K) := by
  intro pins s σ H vs us Q I r h
  obtain ⟨a, ns, rfl, hs, q⟩ := h
  obtain ⟨its, rv, hl, _⟩ := I.list hs
  rw [Vals.ref1 r]
  have hi := rv.ints
  refine call_all_walk (iter_any hl.isList fun s₂ e2 st hne => ?_)
  subst e2
  refine ⟨_, _, _, _, _, _, _, rfl, Walks.list (A := X.A.in1) (I.ok.hd hc) _ a hne its.toArray, st, truth_ints hi, fun h' tk hk => ?_⟩
  refine ⟨.bl _, H, I.kept fun b o eo => hk b o (fun hmem => ?_) (Heap.get?_push_of_some _ eo), ?_, q⟩
  · rcases List.mem_cons.mp hmem with e1 | hmem
    · exact absurd (e1 ▸ Heap.lt_size eo) (Nat.lt_irrefl _)
    · cases hmem
  · show Value.bool _ = Value.bool _
    rw [← all_rangeI, List.size_toArray, hi.length]
end
end Vb
end L2

set_option Elab.async false
set_option linter.all false
set_option maxRecDepth 100000
set_option maxHeartbeats 4000000
/-! Vb, part 4: numbers. -/
namespace L2
namespace Vb
open PySem PySem.Spec PyProof.Rows
theorem fun_of {K : PySem.W.Frag} {x q : Str} {st : Stmt} {f : Addr} {fd : FuncData} (F : FunD K x q (defArgs st) (defBody st) (defScope st) [] [] f fd) : Fun K x q st f fd := by
  obtain ⟨⟨oc, od, dV, kV, doc, pm, an, cdv, ct, osl, e, lk, hc, hD, _⟩, kp⟩ := F
  rcases hD with ⟨_, rfl⟩ | ⟨z, _⟩
  · exact ⟨⟨oc, od, kV, doc, pm, an, cdv, ct, osl, e, lk, hc⟩, kp⟩
  · exact absurd rfl z
abbrev sCount : Stmt := topS 13
abbrev sPrime : Stmt := topS 15
abbrev sReqP : Stmt := topS 16
abbrev sNumber : Stmt := topS 17
abbrev sFactor : Stmt := topS 18
theorem boot_int : bootBuiltins ("int" : Str) = some (.type "int") := by decide +kernel
theorem boot_list : bootBuiltins ("list" : Str) = some (.type "list") := by decide +kernel
theorem rel_int : RelV (.ty "int") (.type "int") := rfl
theorem rel_list : RelV (.ty "list") (.type "list") := rfl
def spCount : Sp := fun vs H Q _ => ∃ i : Int, vs = [.int i] ∧ Q (.bl (decide (0 ≤ i))) H
/-- the primes that the law asks of -/
def goods : List Int := [2, 3, 5, 7, 101, 251, 257, 4099, 65521, 65537]
abbrev smallProduct : Int := 64266330917908644872330635228106713310880186591609208114244758680898150367880703152525200743234420230
/-- what the form asks of a number that is neither too small nor too great -/
def primI (p : Int) : Bool := inV (.int p) (SMALL_PRIMES_L.map V.int) || decide (((p.natAbs.gcd smallProduct.natAbs : Nat) : Int) = 1)
def goodB (p : Int) : Bool := decide (2 ≤ p) && (decide (p ≤ 65537) && primI p)
theorem goods_all : goods.all goodB = true := by decide +kernel
theorem good_facts (p : Int) (h : p ∈ goods) : 2 ≤ p ∧ p ≤ 65537 ∧ primI p = true := by
  have z := List.all_eq_true.mp goods_all p h
  obtain ⟨a, z⟩ := He.ba z
  obtain ⟨b, z⟩ := He.ba z
  exact ⟨of_decide_eq_true a, of_decide_eq_true b, z⟩
abbrev Prm (p : Nat) : Prop := ∀ d, 2 ≤ d → d < p → p % d ≠ 0
theorem prm_of {p : Nat} (hp : p < 257 * 257) (h : ((List.range 257).all fun d => decide (d < 2) || (decide (p ≤ d) || decide (p % d ≠ 0))) = true) : Prm p := fun d d2 dp e => by
  have key : ∀ k, 2 ≤ k → k < 257 → k < p → p % k ≠ 0 := fun k k2 k3 k4 => by
    have z := List.all_eq_true.mp h k (List.mem_range.mpr k3)
    rcases Bool.or_eq_true_iff.mp z with q | q
    · have := of_decide_eq_true q
      omega
    · rcases Bool.or_eq_true_iff.mp q with q | q
      · have := of_decide_eq_true q
        omega
      · exact of_decide_eq_true q
  by_cases q : d < 257
  · exact key d d2 q dp e
  · obtain ⟨c, hc⟩ := Nat.dvd_of_mod_eq_zero e
    have c257 : c < 257 := by
      refine Nat.lt_of_not_le fun z => ?_
      have z2 : 257 * 257 ≤ d * c := Nat.mul_le_mul (by omega) z
      omega
    have c2 : 2 ≤ c := by
      rcases Nat.lt_or_ge c 2 with z | z
      · have z2 : c = 0 ∨ c = 1 := by omega
        rcases z2 with z2 | z2
        · rw [z2, Nat.mul_zero] at hc
          omega
        · rw [z2, Nat.mul_one] at hc
          omega
      · exact z
    refine key c c2 c257 (by omega) ?_
    rw [hc]
    exact Nat.mul_mod_left d c
def goodP (p : Int) : Bool := decide (2 ≤ p) && (decide (p ≤ 65537) && (decide (p.toNat < 257 * 257) && ((List.range 257).all fun d => decide (d < 2) || (decide (p.toNat ≤ d) || decide (p.toNat % d ≠ 0)))))
theorem goodP_all : goods.all goodP = true := by decide +kernel
theorem good_prm {p : Nat} (h : (p : Int) ∈ goods) : 2 ≤ p ∧ p ≤ 65537 ∧ Prm p := by
  have z := List.all_eq_true.mp goodP_all _ h
  obtain ⟨a, z⟩ := He.ba z
  obtain ⟨b, z⟩ := He.ba z
  obtain ⟨c, z⟩ := He.ba z
  have a' := of_decide_eq_true a
  have b' := of_decide_eq_true b
  have c' := of_decide_eq_true c
  rw [Int.toNat_natCast] at c' z
  exact ⟨by omega, by omega, prm_of c' z⟩
theorem small_flat : (SMALL_PRIMES_L.map V.int).all flatV = true := by decide +kernel
theorem same_rfl {H : Hp} : Same H H := fun _ _ e => e
theorem same_trans {H H1 H2 : Hp} (a : Same H H1) (b : Same H1 H2) : Same H H2 := fun x o e => b x o (a x o e)
theorem same_new {H : Hp} {a : Addr} {o : HO} (h : H a = none) : Same H (upd H a o) := fun b u e => by rw [upd_ne (ne_of_none e h)]; exact e
theorem same_set {H H' : Hp} {a : Addr} {o : HO} (x : Same H H') (h : H a = none) : Same H (upd H' a o) := fun b u e => by rw [upd_ne (ne_of_none e h)]; exact x b u e
theorem pe_gint {X : Cx} {x : Str} {i : Int} {p : Pos} (hg : Gl X x) (h : ∃ t, X.mg x = some (.int i t)) (hd : (x == ("__debug__" : Str)) = false := by decide) : PE X (.Name x p) (tC (.int i)) := h.elim fun t e => pe_glob (v := .int i) hg e ⟨t, rfl⟩ hd
theorem tyes {σ : St} {H : Hp} {A B : Hp → Prop} (h : A H) : tYes σ H (fun b H3 => if b = true then A H3 else B H3) := iteT (B := B H) h
def spPrime : Sp := fun vs H Q _ => ∃ p : Int, vs = [.int p] ∧ p ∈ goods ∧ ∀ H', Same H H' → Q (.bl true) H'
section
variable {P : Program} {w : World} {K : PySem.W.Frag} {mg : Str → Option Value} {base : Heap}
theorem scCount : FnScope ["value"] ["value"] (defScope sCount) := ⟨rfl, rfl, rfl, by decide +kernel, rfl, by decide +kernel, by decide +kernel⟩
theorem ok_count {f : Addr} {fd : FuncData} (F : Fun K "is_count" "is_count" sCount f fd) (gT : mg "type" = none) (gI : mg "int" = none) : FnOk P w K mg base CX0 1 f fd ["value"] spCount := by
  refine F.ok scCount (fun vs H Q E h => ?_) (fun cdv A outer s H vs Q E hr h => ?_)
  · obtain ⟨i, rfl, _⟩ := h
    rfl
  · obtain ⟨i, rfl, want⟩ := h
    refine ⟨_, pss_one (ps_ret (pe_and (pe_cmpR op_isTy (pe_typeOf rfl gT (pv 0)) (pe_bltn rfl gI boot_int rel_int) (nomark _)) (pe_one (pe_cmpR op_ge (pv 0) pe_int (nomark _))))), ?_⟩
    refine ⟨_, rfl, _, rfl, _, _, rfl, rfl, _, rfl, iteT ?_⟩
    exact ⟨_, rfl, _, _, rfl, rfl, want⟩
theorem scPrime : FnScope ["value"] ["value"] (defScope sPrime) := ⟨rfl, rfl, rfl, by decide +kernel, rfl, by decide +kernel, by decide +kernel⟩
/-- the globals that the form of primes asks for -/
structure PrimG (K : PySem.W.Frag) (mg : Str → Option Value) : Prop where
  ty : mg "type" = none
  int : mg "int" = none
  great : ∃ t, mg "GREATEST_PRIME" = some (.int 65537 t)
  small : ∃ a, mg "SMALL_PRIMES" = some (.ref a) ∧ ∀ H : Hp, SqT K H a (SMALL_PRIMES_L.map V.int)
  prod : ∃ t, mg "SMALL_PRODUCT" = some (.int smallProduct t)
  gcd : mg "gcd" = some (.builtin "math.gcd")
theorem ok_prime {f : Addr} {fd : FuncData} (F : Fun K "is_prime" "is_prime" sPrime f fd) (g : PrimG K mg) :
    FnOk P w K mg base CX0 1 f fd ["value"] spPrime := by
  obtain ⟨gT, gI, gG, ⟨sa, gS, hS⟩, gP, gC⟩ := g
  refine F.ok scPrime (fun vs H Q E h => ?_) (fun cdv A outer s H vs Q E hr h => ?_)
  · obtain ⟨p, rfl, _⟩ := h
    rfl
  · obtain ⟨p, rfl, mp, want⟩ := h
    obtain ⟨p2, p6, pd⟩ := good_facts p mp
    refine ⟨_, pss_cons (ps_if (PW.pt (pw_or (pt_cmpR op_isNotTy (pe_typeOf rfl gT (pv 0)) (pe_bltn rfl gI boot_int rel_int) (nomark _)) (pw_or1 (pt_not (pt_chain op_le op_le pe_int (pv 0) (pe_gint rfl gG))))))
        (pss_one (ps_ret pe_bl)) pss_nil)
      (pss_one (ps_ret (pe_or (pe_cmpR op_in_seq (pv 0) (pe_glob (v := .ref sa) rfl gS rfl (by decide)) (by rfl)) (pe_one (pe_cmpR op_eq (pe_callImp cr_gcd rfl gC (pa_cons (pv 0) (pa_cons (pe_gint rfl gP) pa_nil))) pe_int (nomark _)))))), ?_⟩
    refine ⟨_, rfl, _, rfl, _, _, rfl, rfl, _, rfl, iteF ?_⟩
    refine ⟨_, rfl, _, _, rfl, rfl, _, rfl, ?_⟩
    rw [decide_eq_true p2]
    refine iteT ⟨_, _, rfl, rfl, _, rfl, ?_⟩
    rw [decide_eq_true p6]
    refine iteF ?_
    refine ⟨_, rfl, sa, _, rfl, .inr (hS _), rfl, small_flat, _, rfl, ?_⟩
    cases e : inV (.int p) (SMALL_PRIMES_L.map V.int) with
    | true => exact iteT (want H same_rfl)
    | false =>
      refine iteF ⟨_, rfl, p, smallProduct, rfl, rfl, ?_⟩
      have z : decide (((p.natAbs.gcd smallProduct.natAbs : Nat) : Int) = 1) = true := by
        unfold primI at pd
        rw [e, Bool.false_or] at pd
        exact pd
      have z2 : decide (V.int ((p.natAbs.gcd smallProduct.natAbs : Nat) : Int) = V.int 1) = true := decide_eq_true (congrArg V.int (of_decide_eq_true z))
      rw [z2]
      exact want H same_rfl
def spReqP : Sp := fun vs H Q _ => ∃ p : Int, vs = [.int p] ∧ p ∈ goods ∧ ∀ H', Same H H' → Q .non H'
theorem scReqP : FnScope ["prime"] ["prime"] (defScope sReqP) := ⟨rfl, rfl, rfl, by decide +kernel, rfl, by decide +kernel, by decide +kernel⟩
theorem ok_reqP {f fP : Addr} {fd fdP : FuncData} (F : Fun K "require_prime" "require_prime" sReqP f fd) (FP : Fun K "is_prime" "is_prime" sPrime fP fdP) (GP : FnOk P w K mg base CX0 1 fP fdP ["value"] spPrime) (gP : mg "is_prime" = some (.ref fP)) :
    FnOk P w K mg base CX0 2 f fd ["prime"] spReqP := by
  have bP : Binds K fdP ["value"] [] := FP.binds fun _ _ _ _ _ _ us hl => match us, hl with | [_], _ => rfl
  refine F.ok scReqP (fun vs H Q E h => ?_) (fun cdv A outer s H vs Q E hr h => ?_)
  · obtain ⟨p, rfl, _⟩ := h
    rfl
  · obtain ⟨p, rfl, mp, want⟩ := h
    refine ⟨_, pss_one (ps_if (pt_not (pt_val (pe_call GP hr rfl gP FP.kp bP .nil pass0 (pa_cons (pv 0) pa_nil)))) pss_never pss_nil), ?_⟩
    exact ⟨_, rfl, p, rfl, mp, fun H' sm => ⟨_, rfl, iteF (want H' sm)⟩⟩
def spNumber : Sp := fun vs H Q _ => ∃ p v : Int, vs = [.int p, .int v] ∧ 0 ≤ v ∧ v < p ∧ Q (.bl true) H
theorem scNumber : FnScope ["prime", "value"] ["prime", "value"] (defScope sNumber) := ⟨rfl, rfl, rfl, by decide +kernel, rfl, by decide +kernel, by decide +kernel⟩
theorem ok_number {f fC : Addr} {fd fdC : FuncData} (F : Fun K "is_number" "is_number" sNumber f fd) (FC : Fun K "is_count" "is_count" sCount fC fdC) (GC : FnOk P w K mg base CX0 1 fC fdC ["value"] spCount) (gC : mg "is_count" = some (.ref fC)) :
    FnOk P w K mg base CX0 2 f fd ["prime", "value"] spNumber := by
  have bC : Binds K fdC ["value"] [] := FC.binds fun _ _ _ _ _ _ us hl => match us, hl with | [_], _ => rfl
  refine F.ok scNumber (fun vs H Q E h => ?_) (fun cdv A outer s H vs Q E hr h => ?_)
  · obtain ⟨p, v, rfl, _⟩ := h
    rfl
  · obtain ⟨p, v, rfl, v0, v1, want⟩ := h
    refine ⟨_, pss_one (ps_ret (pe_and (pe_call GC hr rfl gC FC.kp bC .nil pass0 (pa_cons (pv 1) pa_nil)) (pe_one (pe_cmpR op_lt (pv 1) (pv 0) (nomark _))))), ?_⟩
    refine ⟨_, rfl, v, rfl, _, rfl, ?_⟩
    rw [decide_eq_true v0]
    refine iteT ⟨_, rfl, _, rfl, _, _, rfl, rfl, ?_⟩
    show Q (.bl (decide (v < p))) H
    rw [decide_eq_true v1]
    exact want
def spFactor : Sp := fun vs H Q _ => ∃ p v : Int, vs = [.int p, .int v] ∧ 0 < v ∧ v < p ∧ Q (.bl true) H
theorem scFactor : FnScope ["prime", "value"] ["prime", "value"] (defScope sFactor) := ⟨rfl, rfl, rfl, by decide +kernel, rfl, by decide +kernel, by decide +kernel⟩
theorem ok_factor {f fN : Addr} {fd fdN : FuncData} (F : Fun K "is_factor" "is_factor" sFactor f fd) (FN : Fun K "is_number" "is_number" sNumber fN fdN) (GN : FnOk P w K mg base CX0 2 fN fdN ["prime", "value"] spNumber) (gN : mg "is_number" = some (.ref fN)) :
    FnOk P w K mg base CX0 3 f fd ["prime", "value"] spFactor := by
  have bN : Binds K fdN ["prime", "value"] [] := FN.binds fun _ _ _ _ _ _ us hl => match us, hl with | [_, _], _ => rfl
  refine F.ok scFactor (fun vs H Q E h => ?_) (fun cdv A outer s H vs Q E hr h => ?_)
  · obtain ⟨p, v, rfl, _⟩ := h
    rfl
  · obtain ⟨p, v, rfl, v0, v1, want⟩ := h
    refine ⟨_, pss_one (ps_ret (pe_and (pe_call GN hr rfl gN FN.kp bN .nil pass0 (pa_cons (pv 0) (pa_cons (pv 1) pa_nil))) (pe_one (pe_cmpR op_gt (pv 1) pe_int (nomark _))))), ?_⟩
    refine ⟨_, rfl, _, rfl, p, v, rfl, by omega, v1, _, rfl, iteT ?_⟩
    refine ⟨_, rfl, _, _, rfl, rfl, ?_⟩
    show Q (.bl (decide (0 < v))) H
    rw [decide_eq_true v0]
    exact want
end
end Vb
end L2

set_option Elab.async false
set_option linter.all false
set_option maxRecDepth 100000
set_option maxHeartbeats 4000000
/-! Vb, part 5: what is a vector. -/
namespace L2
namespace Vb
open PySem PySem.Spec PyProof.Rows
/-- L numbers, each below p -/
def Vc (p : Int) (L : Nat) (xs : List Int) : Prop := xs.length = L ∧ ∀ x ∈ xs, 0 ≤ x ∧ x < p
def spVector : Sp := fun vs H Q _ => ∃ (p : Int) (b : Addr) (xs : List Int) (L : Nat), vs = [.int p, .ref b] ∧ Rw H b xs ∧ Vc p L xs ∧ L ≤ 1000 ∧ ∀ H', Same H H' → Q (.bl true) H'
def spVectors : Sp := fun vs H Q _ => ∃ (p : Int) (m : Addr) (as : List Addr) (T : List (List Int)) (L : Nat), vs = [.int p, .ref m] ∧ H m = some (.lst (as.map V.ref)) ∧ Rws H as T ∧ (∀ xs ∈ T, Vc p L xs) ∧ L ≤ 1000 ∧ T.length ≤ 1000 ∧ ∀ H', Same H H' → Q (.bl true) H'
theorem all_true (n : Nat) : (List.replicate n true).all id = true := by simp
theorem trues_succ (n : Nat) : (List.replicate n true).map V.bl ++ [V.bl true] = (List.replicate (n + 1) true).map V.bl := by
  rw [List.replicate_succ', List.map_append]
  rfl
theorem mem_ints {xs : List Int} {i : Nat} {x : V} (h : (xs.map V.int)[i]? = some x) : ∃ n, x = .int n ∧ n ∈ xs ∧ xs[i]? = some n := by
  rw [List.getElem?_map] at h
  obtain ⟨n, hn, e⟩ := Option.map_eq_some_iff.mp h
  exact ⟨n, e.symm, List.mem_of_getElem? hn, hn⟩
section
variable {P : Program} {w : World} {K : PySem.W.Frag} {mg : Str → Option Value} {base : Heap}
def spVectorOf : Sp := fun vs H Q _ => ∃ (p : Int) (b : Addr) (xs : List Int) (L : Nat), vs = [.int p, .ref b, .int (L : Int)] ∧ Rw H b xs ∧ Vc p L xs ∧ L ≤ 1000 ∧ ∀ H', Same H H' → Q (.bl true) H'
def rLenQ (K : PySem.W.Frag) : List V → Hp → VK → Prop := fun xs H Q => ∃ p ys, xs = [.ref p] ∧ (SqL K H p ys ∨ SqT K H p ys) ∧ Q (.int ys.length) H
theorem rws_at {H : Hp} {as : List Addr} {T : List (List Int)} (h : Rws H as T) : ∀ {i : Nat} {x : V}, (as.map V.ref)[i]? = some x → ∃ b xs, x = .ref b ∧ Rw H b xs ∧ xs ∈ T ∧ T[i]? = some xs ∧ as[i]? = some b := by
  induction h with
  | nil =>
    intro i x e
    cases e
  | @cons b xs as T p ps ih =>
    intro i x e
    cases i with
    | zero =>
      cases e
      exact ⟨b, xs, rfl, p, List.mem_cons_self, rfl, rfl⟩
    | succ i =>
      obtain ⟨c, ys, e1, e2, e3, e4, e5⟩ := ih (i := i) (x := x) e
      exact ⟨c, ys, e1, e2, List.mem_cons_of_mem _ e3, e4, e5⟩
end
end Vb
end L2

set_option Elab.async false
set_option linter.all false
/-! LinA: rows over a field, what they span, reduced rows: their shape is one alone. Rows are functions of the place. -/
namespace LinA
open Lean.Grind
universe u
variable {K : Type u} [CommRing K]
abbrev Row (K : Type u) : Type u := Nat → K
def zr : Row K := fun _ => 0
/-- c times v, and w -/
def ax (c : K) (v w : Row K) : Row K := fun j => c * v j + w j
/-- what rows span; the order of the rows doesn't matter -/
inductive Span (S : List (Row K)) : Row K → Prop
  | zero : Span S zr
  | add (c : K) (v w : Row K) : v ∈ S → Span S w → Span S (ax c v w)
theorem Span.mem {S : List (Row K)} {v : Row K} (h : v ∈ S) : Span S v := by
  have e : v = ax 1 v zr := by
    funext j
    show v j = 1 * v j + 0
    grind
  rw [e]
  exact .add 1 v zr h .zero
theorem Span.ax {S : List (Row K)} {v w : Row K} (c : K) (hv : Span S v) (hw : Span S w) : Span S (ax c v w) := by
  induction hv with
  | zero =>
    have e : LinA.ax c zr w = w := by
      funext j
      show c * 0 + w j = w j
      grind
    rw [e]
    exact hw
  | add d v1 w1 m1 h1 ih =>
    have e : LinA.ax c (LinA.ax d v1 w1) w = LinA.ax (c * d) v1 (LinA.ax c w1 w) := by
      funext j
      show c * (d * v1 j + w1 j) + w j = c * d * v1 j + (c * w1 j + w j)
      grind
    rw [e]
    exact .add _ _ _ m1 ih
theorem Span.sub {S T : List (Row K)} (h : ∀ v ∈ S, Span T v) {v : Row K} (hv : Span S v) : Span T v := by
  induction hv with
  | zero => exact .zero
  | add c v w m h1 ih => exact .ax c (h v m) ih
theorem Span.mono {S T : List (Row K)} (h : ∀ v ∈ S, v ∈ T) {v : Row K} (hv : Span S v) : Span T v := hv.sub fun v m => .mem (h v m)
/-- two lists of rows span the same -/
def Same (S T : List (Row K)) : Prop := ∀ v, Span S v ↔ Span T v
theorem Same.of {S T : List (Row K)} (h1 : ∀ v ∈ S, Span T v) (h2 : ∀ v ∈ T, Span S v) : Same S T := fun _ => ⟨fun h => h.sub h1, fun h => h.sub h2⟩
theorem Same.rfl {S : List (Row K)} : Same S S := fun _ => Iff.rfl
theorem Same.symm {S T : List (Row K)} (h : Same S T) : Same T S := fun v => (h v).symm
theorem Same.trans {S T U : List (Row K)} (h : Same S T) (k : Same T U) : Same S U := fun v => (h v).trans (k v)
theorem Same.perm {S T : List (Row K)} (h : S.Perm T) : Same S T := fun _ => ⟨fun z => z.mono fun _ m => h.mem_iff.mp m, fun z => z.mono fun _ m => h.mem_iff.mpr m⟩
/-- more rows out of the span change nothing -/
theorem Same.more {S T : List (Row K)} (h : ∀ v ∈ T, Span S v) : Same (S ++ T) S := .of (fun v m => (List.mem_append.mp m).elim .mem (h v)) fun _ m => .mem (List.mem_append_left _ m)
/-! ### reduced rows, each with its top -/
abbrev Tops (K : Type u) : Type u := List (Row K × Nat)
structure Rref (P : Tops K) : Prop where
  one : ∀ x ∈ P, x.1 x.2 = 1
  low : ∀ x ∈ P, ∀ j, j < x.2 → x.1 j = 0
  two : P.Pairwise fun x y => x.2 < y.2 ∧ x.1 y.2 = 0
abbrev rows (P : Tops K) : List (Row K) := P.map (·.1)
abbrev tops (P : Tops K) : List Nat := P.map (·.2)
theorem Rref.tail {x : Row K × Nat} {P : Tops K} (h : Rref (x :: P)) : Rref P := ⟨fun y m => h.one y (List.mem_cons_of_mem _ m), fun y m => h.low y (List.mem_cons_of_mem _ m), (List.pairwise_cons.mp h.two).2⟩
/-- at another's top a row is 0 -/
theorem Rref.off {P : Tops K} (h : Rref P) : ∀ x ∈ P, ∀ y ∈ P, x.2 ≠ y.2 → x.1 y.2 = 0 := by
  induction P with
  | nil => exact fun x m => (List.not_mem_nil m).elim
  | cons z P ih =>
    intro x mx y my ne
    obtain ⟨h1, h2⟩ := List.pairwise_cons.mp h.two
    rcases List.mem_cons.mp mx with qx | qx
    · rcases List.mem_cons.mp my with qy | qy
      · exact absurd (by rw [qx, qy]) ne
      · rw [qx]
        exact (h1 y qy).2
    · rcases List.mem_cons.mp my with qy | qy
      · rw [qy]
        exact h.low x (List.mem_cons_of_mem _ qx) _ (h1 x qx).1
      · exact ih h.tail x qx y qy ne
/-- the same top, the same row -/
theorem Rref.inj {P : Tops K} (h : Rref P) : ∀ x ∈ P, ∀ y ∈ P, x.2 = y.2 → x = y := by
  induction P with
  | nil => exact fun x m => (List.not_mem_nil m).elim
  | cons z P ih =>
    intro x mx y my e
    obtain ⟨h1, h2⟩ := List.pairwise_cons.mp h.two
    rcases List.mem_cons.mp mx with qx | qx
    · rcases List.mem_cons.mp my with qy | qy
      · rw [qx, qy]
      · have z1 := (h1 y qy).1
        rw [qx] at e
        omega
    · rcases List.mem_cons.mp my with qy | qy
      · have z1 := (h1 x qx).1
        rw [qy] at e
        omega
      · exact ih h.tail x qx y qy e
/-- v's numbers at the tops, put onto the rows -/
def coord (v : Row K) : Tops K → Row K
  | [] => zr
  | x :: P => ax (v x.2) x.1 (coord v P)
theorem coord_zero (P : Tops K) : coord (zr : Row K) P = zr := by
  induction P with
  | nil => rfl
  | cons x P ih =>
    funext j
    show (0 : K) * x.1 j + coord zr P j = 0
    rw [ih]
    show (0 : K) * x.1 j + 0 = 0
    grind
theorem coord_ax (c : K) (v w : Row K) (P : Tops K) : coord (ax c v w) P = ax c (coord v P) (coord w P) := by
  induction P with
  | nil =>
    funext j
    show (0 : K) = c * 0 + 0
    grind
  | cons x P ih =>
    funext j
    show (c * v x.2 + w x.2) * x.1 j + coord (ax c v w) P j = c * (v x.2 * x.1 j + coord v P j) + (w x.2 * x.1 j + coord w P j)
    rw [ih]
    show (c * v x.2 + w x.2) * x.1 j + (c * coord v P j + coord w P j) = _
    grind
/-- only the numbers at the tops count -/
theorem coord_congr {v w : Row K} {P : Tops K} (h : ∀ x ∈ P, v x.2 = w x.2) : coord v P = coord w P := by
  induction P with
  | nil => rfl
  | cons x P ih =>
    show ax (v x.2) x.1 (coord v P) = ax (w x.2) x.1 (coord w P)
    rw [h x List.mem_cons_self, ih fun y m => h y (List.mem_cons_of_mem _ m)]
theorem coord_none {v : Row K} {P : Tops K} (h : ∀ x ∈ P, v x.2 = 0) : coord v P = zr := by
  rw [coord_congr (w := zr) h, coord_zero]
theorem coord_mem {P : Tops K} (h : Rref P) : ∀ x ∈ P, coord x.1 P = x.1 := by
  induction P with
  | nil => exact fun x m => (List.not_mem_nil m).elim
  | cons z P ih =>
    intro x mx
    obtain ⟨h1, h2⟩ := List.pairwise_cons.mp h.two
    rcases List.mem_cons.mp mx with qx | qx
    · rw [qx]
      show ax (z.1 z.2) z.1 (coord z.1 P) = z.1
      rw [coord_none fun y m => (h1 y m).2, h.one z List.mem_cons_self]
      funext j
      show 1 * z.1 j + 0 = z.1 j
      grind
    · show ax (x.1 z.2) z.1 (coord x.1 P) = x.1
      rw [ih h.tail x qx, h.low x mx _ (h1 x qx).1]
      funext j
      show 0 * z.1 j + x.1 j = x.1 j
      grind
/-- what reduced rows span is told by its numbers at the tops -/
theorem span_coord {P : Tops K} (h : Rref P) {v : Row K} (hv : Span (rows P) v) : coord v P = v := by
  induction hv with
  | zero => exact coord_zero P
  | add c v w m hw ih =>
    obtain ⟨x, mx, rfl⟩ := List.mem_map.mp m
    rw [coord_ax, ih, coord_mem h x mx]
theorem coord_span (v : Row K) : ∀ P Q : Tops K, (∀ x ∈ P, x ∈ Q) → Span (rows Q) (coord v P)
  | [], _, _ => .zero
  | x :: P, Q, h => .add _ _ _ (List.mem_map_of_mem (f := fun x : Row K × Nat => x.1) (h x List.mem_cons_self)) (coord_span v P Q fun y m => h y (List.mem_cons_of_mem _ m))
/-- the first place where it isn't 0 -/
def Lead (v : Row K) (t : Nat) : Prop := v t ≠ 0 ∧ ∀ j, j < t → v j = 0
theorem Lead.uniq {v : Row K} {s t : Nat} (h : Lead v s) (k : Lead v t) : s = t := by
  rcases Nat.lt_trichotomy s t with q | q | q
  · exact absurd (k.2 s q) h.1
  · exact q
  · exact absurd (h.2 t q) k.1
theorem coord_low {v : Row K} {j : Nat} : ∀ {P : Tops K}, (∀ x ∈ P, v x.2 = 0 ∨ x.1 j = 0) → coord v P j = 0
  | [], _ => rfl
  | x :: P, h => by
    show v x.2 * x.1 j + coord v P j = 0
    rw [coord_low fun y m => h y (List.mem_cons_of_mem _ m)]
    rcases h x List.mem_cons_self with q | q
    · rw [q]
      grind
    · rw [q]
      grind
/-- the first place of what is spanned is a top -/
theorem lead_top {P : Tops K} (h : Rref P) {v : Row K} (hv : Span (rows P) v) {t : Nat} (l : Lead v t) : t ∈ tops P := by
  have e := span_coord h hv
  refine Classical.byContradiction fun no => l.1 ?_
  rw [← e]
  refine coord_low fun x m => ?_
  rcases Nat.lt_trichotomy x.2 t with q | q | q
  · exact .inl (l.2 _ q)
  · exact absurd (List.mem_map.mpr ⟨x, m, q⟩) no
  · exact .inr (h.low x m t q)
theorem Rref.lead {P : Tops K} (h : Rref P) (h01 : (1 : K) ≠ 0) {x : Row K × Nat} (m : x ∈ P) : Lead x.1 x.2 := ⟨by rw [h.one x m]; exact h01, h.low x m⟩
theorem tops_sub {P Q : Tops K} (hP : Rref P) (hQ : Rref Q) (h01 : (1 : K) ≠ 0) (s : ∀ v, Span (rows P) v → Span (rows Q) v) : ∀ t ∈ tops P, t ∈ tops Q := fun t m => by
  obtain ⟨x, mx, rfl⟩ := List.mem_map.mp m
  exact lead_top hQ (s _ (.mem (List.mem_map_of_mem (f := fun x : Row K × Nat => x.1) mx))) (hP.lead h01 mx)
theorem tops_nodup {P : Tops K} (h : Rref P) : (tops P).Nodup := by
  have z : P.Pairwise fun x y => x.2 ≠ y.2 := h.two.imp fun q => Nat.ne_of_lt q.1
  exact List.Pairwise.map _ (fun _ _ q => q) z
theorem nodup_len {a b : List Nat} (n : a.Nodup) (h : ∀ x ∈ a, x ∈ b) : a.length ≤ b.length := by
  induction a generalizing b with
  | nil => exact Nat.zero_le _
  | cons x a ih =>
    obtain ⟨n1, n2⟩ := List.nodup_cons.mp n
    have mx := h x List.mem_cons_self
    have z := ih (b := b.erase x) n2 fun y my => (List.mem_erase_of_ne (a := y) (b := x) fun q => n1 (by rw [← q]; exact my)).mpr (h y (List.mem_cons_of_mem _ my))
    rw [List.length_erase_of_mem mx] at z
    have p := List.length_pos_of_mem mx
    show a.length + 1 ≤ b.length
    omega
/-- fewer spanned, fewer rows -/
theorem rank_le {P Q : Tops K} (hP : Rref P) (hQ : Rref Q) (h01 : (1 : K) ≠ 0) (s : ∀ v, Span (rows P) v → Span (rows Q) v) : P.length ≤ Q.length := by
  have z := nodup_len (tops_nodup hP) (tops_sub hP hQ h01 s)
  simpa using z
theorem mem_of_same {P Q : Tops K} (hP : Rref P) (hQ : Rref Q) (h01 : (1 : K) ≠ 0) (s : Same (rows P) (rows Q)) : ∀ x ∈ P, x ∈ Q := fun x mx => by
  obtain ⟨y, my, ey⟩ := List.mem_map.mp (tops_sub hP hQ h01 (fun v => (s v).mp) x.2 (List.mem_map_of_mem (f := fun x : Row K × Nat => x.2) mx))
  have sy : Span (rows P) y.1 := (s _).mpr (.mem (List.mem_map_of_mem (f := fun x : Row K × Nat => x.1) my))
  have e : y.1 = x.1 := by
    rw [← span_coord hP sy, ← coord_mem hP x mx]
    refine coord_congr fun z mz => ?_
    obtain ⟨u, mu, eu⟩ := List.mem_map.mp (tops_sub hP hQ h01 (fun v => (s v).mp) z.2 (List.mem_map_of_mem (f := fun x : Row K × Nat => x.2) mz))
    by_cases q : z.2 = x.2
    · rw [hP.inj z mz x mx q, hP.one x mx, ← ey]
      exact hQ.one y my
    · rw [hP.off x mx z mz (Ne.symm q), ← eu]
      exact hQ.off y my u mu fun w => q (by rw [← eu, ← ey, w])
  have e2 : x = y := Prod.ext e.symm ey.symm
  rw [e2]
  exact my
theorem sorted_eq {P Q : Tops K} (h : P.Pairwise fun x y => x.2 < y.2) (k : Q.Pairwise fun x y => x.2 < y.2) (a : ∀ x ∈ P, x ∈ Q) (b : ∀ x ∈ Q, x ∈ P) : P = Q := by
  induction P generalizing Q with
  | nil =>
    cases Q with
    | nil => rfl
    | cons y Q => exact (List.not_mem_nil (b y List.mem_cons_self)).elim
  | cons x P ih =>
    cases Q with
    | nil => exact (List.not_mem_nil (a x List.mem_cons_self)).elim
    | cons y Q =>
      obtain ⟨h1, h2⟩ := List.pairwise_cons.mp h
      obtain ⟨k1, k2⟩ := List.pairwise_cons.mp k
      have e : x = y := by
        rcases List.mem_cons.mp (a x List.mem_cons_self) with q | q
        · exact q
        · rcases List.mem_cons.mp (b y List.mem_cons_self) with r | r
          · exact r.symm
          · have z1 := k1 x q
            have z2 := h1 y r
            omega
      subst e
      rw [ih h2 k2 (fun z m => ?_) fun z m => ?_]
      · rcases List.mem_cons.mp (a z (List.mem_cons_of_mem _ m)) with q | q
        · have z1 := h1 z m
          rw [q] at z1
          omega
        · exact q
      · rcases List.mem_cons.mp (b z (List.mem_cons_of_mem _ m)) with q | q
        · have z1 := k1 z m
          rw [q] at z1
          omega
        · exact q
/-- the reduced rows of a span are one alone -/
theorem rref_one {P Q : Tops K} (hP : Rref P) (hQ : Rref Q) (h01 : (1 : K) ≠ 0) (s : Same (rows P) (rows Q)) : P = Q :=
  sorted_eq (hP.two.imp fun q => q.1) (hQ.two.imp fun q => q.1) (mem_of_same hP hQ h01 s) (mem_of_same hQ hP h01 s.symm)
/-! ### the way there, place by place -/
/-- behind the places below c: P are done, R are 0 there -/
structure Upto (P : Tops K) (R : List (Row K)) (c : Nat) : Prop where
  rr : Rref P
  lt : ∀ x ∈ P, x.2 < c
  low : ∀ v ∈ R, ∀ j, j < c → v j = 0
theorem Upto.start (R : List (Row K)) : Upto ([] : Tops K) R 0 := ⟨⟨fun x m => (List.not_mem_nil m).elim, fun x m => (List.not_mem_nil m).elim, .nil⟩, fun x m => (List.not_mem_nil m).elim, fun v m j h => (Nat.not_lt_zero j h).elim⟩
theorem Upto.none {P : Tops K} {R : List (Row K)} {c : Nat} (h : Upto P R c) (z : ∀ v ∈ R, v c = 0) : Upto P R (c + 1) := ⟨h.rr, fun x m => Nat.lt_succ_of_lt (h.lt x m), fun v m j hj => by
  rcases Nat.lt_succ_iff_lt_or_eq.mp hj with q | q
  · exact h.low v m j q
  · rw [q]
    exact z v m⟩
/-- v, less v's number at c times a -/
def less (a : Row K) (c : Nat) (v : Row K) : Row K := ax (-(v c)) a v
theorem less_at {a : Row K} {c : Nat} (h : a c = 1) (v : Row K) : less a c v c = 0 := by
  show -(v c) * a c + v c = 0
  rw [h]
  grind
theorem less_low {a v : Row K} {c j : Nat} (h : a j = 0) : less a c v j = v j := by
  show -(v c) * a j + v j = v j
  rw [h]
  grind
theorem less_none {a v : Row K} {c : Nat} (h : v c = 0) : less a c v = v := by
  funext j
  show -(v c) * a j + v j = v j
  rw [h]
  grind
abbrev lessP (a : Row K) (c : Nat) (P : Tops K) : Tops K := P.map fun x => (less a c x.1, x.2)
/-- a row of the rest, scaled to 1 at c, is taken out and off all others -/
theorem Upto.found {P : Tops K} {R : List (Row K)} {a : Row K} {c : Nat} (h : Upto P R c) (ha : a c = 1) (low : ∀ j, j < c → a j = 0) : Upto (lessP a c P ++ [(a, c)]) (R.map (less a c)) (c + 1) := by
  have offA : ∀ x ∈ P, a x.2 = 0 := fun x m => low _ (h.lt x m)
  refine ⟨⟨fun x m => ?_, fun x m j hj => ?_, ?_⟩, fun x m => ?_, fun v m j hj => ?_⟩
  · rcases List.mem_append.mp m with q | q
    · obtain ⟨y, my, rfl⟩ := List.mem_map.mp q
      exact (less_low (offA y my)).trans (h.rr.one y my)
    · rw [List.mem_singleton.mp q]
      exact ha
  · rcases List.mem_append.mp m with q | q
    · obtain ⟨y, my, rfl⟩ := List.mem_map.mp q
      have lt := h.lt y my
      exact (less_low (low j (Nat.lt_trans hj lt))).trans (h.rr.low y my j hj)
    · rw [List.mem_singleton.mp q] at hj ⊢
      exact low j hj
  · refine List.pairwise_append.mpr ⟨?_, List.pairwise_singleton _ _, fun x m y my => ?_⟩
    · refine List.pairwise_map.mpr ?_
      have z : P.Pairwise fun x y => y ∈ P ∧ (x.2 < y.2 ∧ x.1 y.2 = 0) := by
        refine List.pairwise_iff_forall_sublist.mpr fun {x y} sl => ⟨sl.subset (by simp), List.pairwise_iff_forall_sublist.mp h.rr.two sl⟩
      exact z.imp fun {x y} q => ⟨q.2.1, (less_low (offA y q.1)).trans q.2.2⟩
    · rw [List.mem_singleton.mp my]
      obtain ⟨u, mu, rfl⟩ := List.mem_map.mp m
      exact ⟨h.lt u mu, less_at ha u.1⟩
  · rcases List.mem_append.mp m with q | q
    · obtain ⟨y, my, rfl⟩ := List.mem_map.mp q
      exact Nat.lt_succ_of_lt (h.lt y my)
    · rw [List.mem_singleton.mp q]
      exact Nat.lt_succ_self c
  · obtain ⟨u, mu, rfl⟩ := List.mem_map.mp m
    rcases Nat.lt_succ_iff_lt_or_eq.mp hj with q | q
    · exact (less_low (low j q)).trans (h.low u mu j q)
    · rw [q]
      exact less_at ha u
theorem less_back {a : Row K} {c : Nat} (v : Row K) : v = ax (v c) a (less a c v) := by
  funext j
  show v j = v c * a j + (-(v c) * a j + v j)
  grind
/-- taking a row off others leaves the span -/
theorem same_less {S T : List (Row K)} {a : Row K} {c : Nat} (ha : a ∈ S) (hb : a ∈ T) (h1 : ∀ v ∈ S, v = a ∨ less a c v ∈ T) (h2 : ∀ v ∈ T, v = a ∨ ∃ u ∈ S, v = less a c u) : Same S T := by
  refine .of (fun v m => ?_) fun v m => ?_
  · rcases h1 v m with q | q
    · rw [q]
      exact .mem hb
    · rw [less_back (a := a) (c := c) v]
      exact .ax _ (.mem hb) (.mem q)
  · rcases h2 v m with q | ⟨u, mu, q⟩
    · rw [q]
      exact .mem ha
    · rw [q]
      exact .ax _ (.mem ha) (.mem mu)
/-- scaling one row by what has an inverse leaves the span -/
theorem same_scale {S : List (Row K)} {b : Row K} {s t : K} (h : t * s = 1) : Same (b :: S) (ax s b zr :: S) := by
  refine .of (fun v m => ?_) fun v m => ?_
  · rcases List.mem_cons.mp m with q | q
    · have e : v = ax t (ax s b zr) zr := by
        funext j
        show v j = t * (s * b j + 0) + 0
        have e2 : t * (s * b j + 0) + 0 = (t * s) * b j := by grind
        rw [e2, h, q]
        grind
      rw [e]
      exact .ax _ (.mem List.mem_cons_self) .zero
    · exact .mem (List.mem_cons_of_mem _ q)
  · rcases List.mem_cons.mp m with q | q
    · rw [q]
      exact .ax _ (.mem List.mem_cons_self) .zero
    · exact .mem (List.mem_cons_of_mem _ q)
/-- a row of 0 brings nothing -/
theorem same_zeros {S T : List (Row K)} (h : ∀ v ∈ T, v = zr) : Same (S ++ T) S := .more fun v m => by
  rw [h v m]
  exact .zero
end LinA

set_option Elab.async false
set_option linter.all false
/-! LinZ: lists of numbers below p as rows. -/
namespace LinA
open Lean.Grind
universe u
/-- a number among the numbers of K -/
def ic (K : Type u) [CommRing K] (a : Int) : K := @Int.cast K Ring.intCast a
theorem ic_add {K : Type u} [CommRing K] (a b : Int) : ic K (a + b) = ic K a + ic K b := Ring.intCast_add a b
theorem ic_mul {K : Type u} [CommRing K] (a b : Int) : ic K (a * b) = ic K a * ic K b := Ring.intCast_mul a b
theorem ic_sub {K : Type u} [CommRing K] (a b : Int) : ic K (a - b) = ic K a - ic K b := Ring.intCast_sub a b
theorem ic_neg {K : Type u} [CommRing K] (a : Int) : ic K (-a) = -ic K a := Ring.intCast_neg a
theorem ic_one {K : Type u} [CommRing K] : ic K 1 = 1 := Ring.intCast_one
theorem ic_zero {K : Type u} [CommRing K] : ic K 0 = 0 := Ring.intCast_zero
/-- a list of numbers as a row; behind its end 0 -/
def row (K : Type u) [CommRing K] (xs : List Int) : Row K := fun j => ic K (xs.getD j 0)
/-- L numbers, each below p -/
def Vec (p : Nat) (L : Nat) (xs : List Int) : Prop := xs.length = L ∧ ∀ x ∈ xs, 0 ≤ x ∧ x < (p : Int)
section
variable {K : Type u} [CommRing K] {p : Nat} [IsCharP K p]
theorem cast_mod (a : Int) : ic K (a % (p : Int)) = (ic K a) := (IsCharP.intCast_ext_iff p).mpr (Int.emod_emod_of_dvd a (Int.dvd_refl _))
theorem cast_eq {a b : Int} (h : (ic K a) = (ic K b)) (a0 : 0 ≤ a) (a1 : a < p) (b0 : 0 ≤ b) (b1 : b < p) : a = b := by
  have z := (IsCharP.intCast_ext_iff p).mp h
  rwa [Int.emod_eq_of_lt a0 a1, Int.emod_eq_of_lt b0 b1] at z
theorem cast_zero {a : Int} (a0 : 0 ≤ a) (a1 : a < p) : (ic K a) = 0 ↔ a = 0 := by
  show (@Int.cast K Ring.intCast a = 0) ↔ _
  rw [IsCharP.intCast_eq_zero_iff p, Int.emod_eq_of_lt a0 a1]
theorem one_ne (h : 1 < p) : (1 : K) ≠ 0 := fun e => by
  have z : ic K (1) = 0 := by
    rw [ic_one]
    exact e
  rw [cast_zero (p := p) (by omega) (by omega)] at z
  cases z
theorem getD_lt {xs : List Int} {j : Nat} (h : j < xs.length) : xs.getD j 0 = xs[j] := by
  rw [List.getD_eq_getElem?_getD, List.getElem?_eq_getElem h]
  rfl
theorem getD_ge {xs : List Int} {j : Nat} (h : xs.length ≤ j) : xs.getD j 0 = 0 := by
  rw [List.getD_eq_getElem?_getD, List.getElem?_eq_none h]
  rfl
theorem row_ge {xs : List Int} {j : Nat} (h : xs.length ≤ j) : row K xs j = 0 := by
  show ic K (xs.getD j 0) = 0
  rw [getD_ge h]
  exact ic_zero
theorem row_eq {L : Nat} {xs ys : List Int} (hx : Vec p L xs) (hy : Vec p L ys) (h : row K xs = row K ys) : xs = ys := by
  refine List.ext_getElem (hx.1.trans hy.1.symm) fun j h1 h2 => ?_
  have z : ic K (xs.getD j 0) = ic K (ys.getD j 0) := congrFun h j
  rw [getD_lt h1, getD_lt h2] at z
  obtain ⟨a0, a1⟩ := hx.2 _ (List.getElem_mem h1)
  obtain ⟨b0, b1⟩ := hy.2 _ (List.getElem_mem h2)
  exact cast_eq z a0 a1 b0 b1
/-- two lists of one length, number by number: u + f v -/
theorem row_zip {f : Int} {g : Int → Int → Int} (hg : ∀ a b, ic K (g a b) = (ic K f) * (ic K b) + (ic K a)) {xs ys : List Int} (hl : xs.length = ys.length) : row K (List.zipWith g xs ys) = ax (ic K f) (row K ys) (row K xs) := by
  funext j
  show ic K ((List.zipWith g xs ys).getD j 0) = (ic K f) * ic K (ys.getD j 0) + ic K (xs.getD j 0)
  by_cases h : j < xs.length
  · have h2 : j < ys.length := by omega
    have h3 : j < (List.zipWith g xs ys).length := by
      rw [List.length_zipWith]
      omega
    rw [getD_lt h, getD_lt h2, getD_lt h3, List.getElem_zipWith]
    exact hg _ _
  · have h2 : ys.length ≤ j := by omega
    have h3 : (List.zipWith g xs ys).length ≤ j := by
      rw [List.length_zipWith]
      omega
    rw [getD_ge (Nat.le_of_not_lt h), getD_ge h2, getD_ge h3, ic_zero]
    grind
/-- (a + f b) % p -/
theorem row_more {f : Int} {xs ys : List Int} (hl : xs.length = ys.length) : row K (List.zipWith (fun a b => (a + f * b) % (p : Int)) xs ys) = ax (ic K f) (row K ys) (row K xs) := row_zip (fun a b => by
  rw [cast_mod (p := p), ic_add, ic_mul]
  grind) hl
/-- (a - f b) % p -/
theorem row_less {f : Int} {xs ys : List Int} (hl : xs.length = ys.length) : row K (List.zipWith (fun a b => (a - f * b) % (p : Int)) xs ys) = ax (-(ic K f)) (row K ys) (row K xs) := by
  have z := row_zip (K := K) (f := -f) (g := fun a b => (a - f * b) % (p : Int)) (fun a b => by
    rw [cast_mod (p := p), ic_sub, ic_mul, ic_neg]
    grind) hl
  rw [z, ic_neg]
theorem row_scale {s : Int} {xs : List Int} : row K (xs.map fun n => n * s % (p : Int)) = ax (ic K s) (row K xs) zr := by
  funext j
  show ic K ((xs.map fun n => n * s % (p : Int)).getD j 0) = (ic K s) * ic K (xs.getD j 0) + 0
  by_cases h : j < xs.length
  · rw [getD_lt h, getD_lt (by rw [List.length_map]; exact h), List.getElem_map, cast_mod (p := p), ic_mul]
    grind
  · rw [getD_ge (Nat.le_of_not_lt h), getD_ge (by rw [List.length_map]; omega), ic_zero]
    grind
end
/-! ### rows stay below p -/
section
variable {p L : Nat}
theorem mod_in (hp : 0 < p) (a : Int) : 0 ≤ a % (p : Int) ∧ a % (p : Int) < (p : Int) := ⟨Int.emod_nonneg _ (by omega), Int.emod_lt_of_pos _ (by omega)⟩
theorem vec_zip (hp : 0 < p) {h : Int → Int → Int} {xs ys : List Int} (hx : xs.length = L) (hy : ys.length = L) : Vec p L (List.zipWith (fun a b => h a b % (p : Int)) xs ys) := ⟨by rw [List.length_zipWith, hx, hy, Nat.min_self], fun z m => by
  obtain ⟨i, hi, e⟩ := List.mem_iff_getElem.mp m
  rw [← e, List.getElem_zipWith]
  exact mod_in hp _⟩
theorem vec_map (hp : 0 < p) {h : Int → Int} {xs : List Int} (hx : xs.length = L) : Vec p L (xs.map fun a => h a % (p : Int)) := ⟨by rw [List.length_map, hx], fun z m => by
  obtain ⟨a, _, e⟩ := List.mem_map.mp m
  rw [← e]
  exact mod_in hp _⟩
end
/-! ### one place of the way -/
/-- a row less its number at c times the lead -/
def lessZ (p : Nat) (lead : List Int) (c : Nat) (xs : List Int) : List Int := if xs.getD c 0 = 0 then xs else List.zipWith (fun a b => (a - xs.getD c 0 * b) % (p : Int)) xs lead
def scaleZ (p : Nat) (s : Int) (xs : List Int) : List Int := xs.map fun n => n * s % (p : Int)
section
variable {K : Type u} [CommRing K] {p : Nat} [IsCharP K p] {L : Nat}
theorem row_lessZ {lead xs : List Int} {c : Nat} (hl : xs.length = lead.length) : row K (lessZ p lead c xs) = less (row K lead) c (row K xs) := by
  unfold lessZ
  by_cases h : xs.getD c 0 = 0
  · rw [if_pos h]
    refine (less_none ?_).symm
    show ic K (xs.getD c 0) = 0
    rw [h, ic_zero]
  · rw [if_neg h, row_less hl]
    rfl
omit [IsCharP K p] in
theorem vec_lessZ (hp : 0 < p) {lead xs : List Int} {c : Nat} (hx : Vec p L xs) (hl : lead.length = L) : Vec p L (lessZ p lead c xs) := by
  unfold lessZ
  by_cases h : xs.getD c 0 = 0
  · rw [if_pos h]
    exact hx
  · rw [if_neg h]
    exact vec_zip hp (h := fun a b => a - xs.getD c 0 * b) hx.1 hl
abbrev rowsOf (K : Type u) [CommRing K] (T : List (List Int)) : List (Row K) := T.map (row K)
/-- what stands behind the places below c: D are done with their tops t, E is the rest; V was given -/
structure Way (K : Type u) [CommRing K] (p L : Nat) (V D E : List (List Int)) (t : List Nat) (c : Nat) : Prop where
  vd : ∀ xs ∈ D, Vec p L xs
  ve : ∀ xs ∈ E, Vec p L xs
  len : D.length = t.length
  up : Upto ((rowsOf K D).zip t) (rowsOf K E) c
  same : Same (rowsOf K (D ++ E)) (rowsOf K V)
omit [IsCharP K p] in
theorem Way.start {V : List (List Int)} (h : ∀ xs ∈ V, Vec p L xs) : Way K p L V [] V [] 0 := ⟨fun xs m => (List.not_mem_nil m).elim, h, rfl, Upto.start _, Same.rfl⟩
omit [IsCharP K p] in
theorem Way.none {V D E : List (List Int)} {t : List Nat} {c : Nat} (w : Way K p L V D E t c) (h : ∀ xs ∈ E, xs.getD c 0 = 0) : Way K p L V D E t (c + 1) := ⟨w.vd, w.ve, w.len, w.up.none fun v m => by
  obtain ⟨xs, mx, rfl⟩ := List.mem_map.mp m
  show ic K (xs.getD c 0) = 0
  rw [h xs mx, ic_zero], w.same⟩
theorem zip_less {a : List Int} {c : Nat} : ∀ {D : List (List Int)} {t : List Nat}, (∀ xs ∈ D, xs.length = a.length) → (rowsOf K (D.map (lessZ p a c))).zip t = lessP (row K a) c ((rowsOf K D).zip t)
  | [], _, _ => rfl
  | xs :: D, [], _ => rfl
  | xs :: D, y :: t, h => by
    show (row K (lessZ p a c xs), y) :: (rowsOf K (D.map (lessZ p a c))).zip t = (less (row K a) c (row K xs), y) :: lessP (row K a) c ((rowsOf K D).zip t)
    rw [row_lessZ (h xs List.mem_cons_self), zip_less fun z m => h z (List.mem_cons_of_mem _ m)]
/-- a row b of the rest, not 0 at c, scaled by s; E' is what else is left, in any order -/
theorem Way.found {V D E E' : List (List Int)} {t : List Nat} {c : Nat} {b : List Int} {s : Int} (hp : 1 < p) (w : Way K p L V D E t c) (pm : E.Perm (b :: E')) (hs : b.getD c 0 * s % (p : Int) = 1) :
    Way K p L V (D.map (lessZ p (scaleZ p s b) c) ++ [scaleZ p s b]) (E'.map (lessZ p (scaleZ p s b) c)) (t ++ [c]) (c + 1) := by
  have p0 : 0 < p := by omega
  have mb : b ∈ E := pm.mem_iff.mpr List.mem_cons_self
  have me : ∀ xs ∈ E', xs ∈ E := fun xs m => pm.mem_iff.mpr (List.mem_cons_of_mem _ m)
  have vb := w.ve b mb
  have vl : Vec p L (scaleZ p s b) := vec_map p0 (h := fun n => n * s) vb.1
  have eD : ∀ xs ∈ D, xs.length = (scaleZ p s b).length := fun xs m => (w.vd xs m).1.trans vl.1.symm
  have eE : ∀ xs ∈ E', xs.length = (scaleZ p s b).length := fun xs m => (w.ve xs (me xs m)).1.trans vl.1.symm
  have rl : row K (scaleZ p s b) = ax (ic K s) (row K b) zr := row_scale (p := p)
  have unit : ic K (b.getD c 0) * (ic K s) = 1 := by
    rw [← ic_mul, ← cast_mod (p := p), hs, ic_one]
  have one : row K (scaleZ p s b) c = 1 := by
    rw [rl]
    show (ic K s) * ic K (b.getD c 0) + 0 = 1
    grind
  have low : ∀ j, j < c → row K (scaleZ p s b) j = 0 := fun j hj => by
    have z : row K b j = 0 := w.up.low _ (List.mem_map_of_mem mb) j hj
    rw [rl]
    show (ic K s) * row K b j + 0 = 0
    rw [z]
    grind
  have upE : Upto ((rowsOf K D).zip t) (rowsOf K E') c := ⟨w.up.rr, w.up.lt, fun v m j hj => by
    obtain ⟨xs, mx, rfl⟩ := List.mem_map.mp m
    exact w.up.low _ (List.mem_map_of_mem (me xs mx)) j hj⟩
  have up := upE.found one low
  refine ⟨fun xs m => ?_, fun xs m => ?_, ?_, ?_, ?_⟩
  · rcases List.mem_append.mp m with q | q
    · obtain ⟨ys, my, rfl⟩ := List.mem_map.mp q
      exact vec_lessZ p0 (w.vd ys my) vl.1
    · rw [List.mem_singleton.mp q]
      exact vl
  · obtain ⟨ys, my, rfl⟩ := List.mem_map.mp m
    exact vec_lessZ p0 (w.ve ys (me ys my)) vl.1
  · rw [List.length_append, List.length_append, List.length_map, w.len]
    rfl
  · have e1 : (rowsOf K (D.map (lessZ p (scaleZ p s b) c) ++ [scaleZ p s b])).zip (t ++ [c]) = lessP (row K (scaleZ p s b)) c ((rowsOf K D).zip t) ++ [(row K (scaleZ p s b), c)] := by
      rw [show rowsOf K (D.map (lessZ p (scaleZ p s b) c) ++ [scaleZ p s b]) = rowsOf K (D.map (lessZ p (scaleZ p s b) c)) ++ [row K (scaleZ p s b)] from List.map_append, List.zip_append (by rw [List.length_map, List.length_map, w.len]), zip_less eD]
      rfl
    have e2 : rowsOf K (E'.map (lessZ p (scaleZ p s b) c)) = (rowsOf K E').map (less (row K (scaleZ p s b)) c) := by
      show (E'.map (lessZ p (scaleZ p s b) c)).map (row K) = (E'.map (row K)).map (less (row K (scaleZ p s b)) c)
      rw [List.map_map, List.map_map]
      exact List.map_congr_left fun xs m => row_lessZ (eE xs m)
    rw [e1, e2]
    exact up
  · refine Same.trans ?_ w.same
    have s1 : Same (rowsOf K (D ++ E)) (row K b :: rowsOf K (D ++ E')) := .perm (by
      refine (((List.Perm.refl D).append pm).map (row K)).trans ?_
      exact (List.perm_middle (l₁ := D) (l₂ := E') (a := b)).map (row K))
    have s2 : Same (row K b :: rowsOf K (D ++ E')) (ax (ic K s) (row K b) zr :: rowsOf K (D ++ E')) := same_scale unit
    rw [← rl] at s2
    have s3 : Same (row K (scaleZ p s b) :: rowsOf K (D ++ E')) (rowsOf K ((D.map (lessZ p (scaleZ p s b) c) ++ [scaleZ p s b]) ++ E'.map (lessZ p (scaleZ p s b) c))) := by
      have inB : row K (scaleZ p s b) ∈ rowsOf K ((D.map (lessZ p (scaleZ p s b) c) ++ [scaleZ p s b]) ++ E'.map (lessZ p (scaleZ p s b) c)) := List.mem_map_of_mem (by simp)
      refine same_less (a := row K (scaleZ p s b)) (c := c) List.mem_cons_self inB (fun v m => ?_) fun v m => ?_
      · rcases List.mem_cons.mp m with q | q
        · exact .inl q
        · obtain ⟨xs, mx, rfl⟩ := List.mem_map.mp q
          refine .inr ?_
          rcases List.mem_append.mp mx with r | r
          · rw [← row_lessZ (eD xs r)]
            exact List.mem_map_of_mem (List.mem_append_left _ (List.mem_append_left _ (List.mem_map_of_mem r)))
          · rw [← row_lessZ (eE xs r)]
            exact List.mem_map_of_mem (List.mem_append_right _ (List.mem_map_of_mem r))
      · obtain ⟨xs, mx, rfl⟩ := List.mem_map.mp m
        rcases List.mem_append.mp mx with r | r
        · rcases List.mem_append.mp r with r | r
          · obtain ⟨ys, my, rfl⟩ := List.mem_map.mp r
            exact .inr ⟨row K ys, List.mem_cons_of_mem _ (List.mem_map_of_mem (List.mem_append_left _ my)), row_lessZ (eD ys my)⟩
          · rw [List.mem_singleton.mp r]
            exact .inl rfl
        · obtain ⟨ys, my, rfl⟩ := List.mem_map.mp r
          exact .inr ⟨row K ys, List.mem_cons_of_mem _ (List.mem_map_of_mem (List.mem_append_right _ my)), row_lessZ (eE ys my)⟩
    exact ((s1.trans s2).trans s3).symm
/-- at the end: D spans what was given, and is reduced -/
theorem Way.fin {V D E : List (List Int)} {t : List Nat} (w : Way K p L V D E t L) : Rref ((rowsOf K D).zip t) ∧ Same (rowsOf K D) (rowsOf K V) ∧ rows ((rowsOf K D).zip t) = rowsOf K D := by
  refine ⟨w.up.rr, ?_, ?_⟩
  · refine Same.trans (Same.symm ?_) w.same
    rw [show rowsOf K (D ++ E) = rowsOf K D ++ rowsOf K E from List.map_append]
    refine same_zeros fun v m => ?_
    obtain ⟨xs, mx, rfl⟩ := List.mem_map.mp m
    funext j
    by_cases q : j < L
    · exact w.up.low _ m j q
    · exact row_ge (by rw [(w.ve xs mx).1]; omega)
  · exact List.map_fst_zip (by rw [List.length_map, w.len]; exact Nat.le_refl _)
end
end LinA

set_option Elab.async false
set_option linter.all false
/-! LinF: a number below a prime, to the prime less one, leaves 1. -/
namespace LinA
theorem cop {p k : Nat} (hp : ∀ d, 2 ≤ d → d < p → p % d ≠ 0) (k0 : 0 < k) (kp : k < p) : Nat.Coprime p k := by
  have g0 : 0 < Nat.gcd p k := Nat.gcd_pos_of_pos_right p k0
  have gk : Nat.gcd p k ≤ k := Nat.le_of_dvd k0 (Nat.gcd_dvd_right p k)
  have gp : p % Nat.gcd p k = 0 := Nat.mod_eq_zero_of_dvd (Nat.gcd_dvd_left p k)
  show Nat.gcd p k = 1
  rcases Nat.lt_or_ge (Nat.gcd p k) 2 with h | h
  · omega
  · exact absurd gp (hp _ h (by omega))
theorem len_nodup {a b : List Nat} (n : a.Nodup) (h : ∀ x ∈ a, x ∈ b) : a.length ≤ b.length := by
  induction a generalizing b with
  | nil => exact Nat.zero_le _
  | cons x a ih =>
    obtain ⟨n1, n2⟩ := List.nodup_cons.mp n
    have mx := h x List.mem_cons_self
    have z := ih (b := b.erase x) n2 fun y my => (List.mem_erase_of_ne (a := y) (b := x) fun q => n1 (by rw [← q]; exact my)).mpr (h y (List.mem_cons_of_mem _ my))
    rw [List.length_erase_of_mem mx] at z
    have p := List.length_pos_of_mem mx
    show a.length + 1 ≤ b.length
    omega
theorem perm_nodup {a b : List Nat} (n : a.Nodup) (m : b.Nodup) (h : ∀ x ∈ a, x ∈ b) (l : b.length ≤ a.length) : a.Perm b := by
  refine (List.perm_ext_iff_of_nodup n m).mpr fun x => ⟨h x, fun mx => ?_⟩
  refine Classical.byContradiction fun no => ?_
  have z := len_nodup (b := b.erase x) n fun y my => (List.mem_erase_of_ne (a := y) (b := x) fun q => no (by rw [← q]; exact my)).mpr (h y my)
  rw [List.length_erase_of_mem mx] at z
  have p := List.length_pos_of_mem mx
  omega
def prodL : List Nat → Nat
  | [] => 1
  | x :: xs => x * prodL xs
theorem prodL_perm {a b : List Nat} (h : a.Perm b) : prodL a = prodL b := by
  induction h with
  | nil => rfl
  | cons x _ ih => exact congrArg (x * ·) ih
  | swap x y l =>
    show y * (x * prodL l) = x * (y * prodL l)
    exact Nat.mul_left_comm y x (prodL l)
  | trans _ _ i j => exact i.trans j
theorem prodL_map (p a : Nat) : ∀ l : List Nat, prodL (l.map fun k => a * k % p) % p = a ^ l.length * prodL l % p
  | [] => by
    show 1 % p = a ^ 0 * 1 % p
    rw [Nat.pow_zero]
  | k :: l => by
    show (a * k % p) * prodL (l.map fun k => a * k % p) % p = a ^ (l.length + 1) * (k * prodL l) % p
    rw [Nat.mul_mod, Nat.mod_mod, prodL_map p a l, ← Nat.mul_mod]
    congr 1
    rw [Nat.pow_succ]
    grind
theorem prodL_cop {p : Nat} : ∀ {l : List Nat}, (∀ k ∈ l, Nat.Coprime p k) → Nat.Coprime p (prodL l)
  | [], _ => Nat.coprime_one_right p
  | k :: l, h => Nat.Coprime.mul_right (h k List.mem_cons_self) (prodL_cop fun x m => h x (List.mem_cons_of_mem _ m))
theorem fermat {p a : Nat} (hp : ∀ d, 2 ≤ d → d < p → p % d ≠ 0) (h2 : 2 ≤ p) (a0 : 0 < a) (ap : a < p) : a ^ (p - 1) % p = 1 := by
  have ca := cop hp a0 ap
  let L : List Nat := List.range' 1 (p - 1)
  have mL : ∀ k, k ∈ L ↔ 1 ≤ k ∧ k < p := fun k => by
    show k ∈ List.range' 1 (p - 1) ↔ _
    rw [List.mem_range'_1]
    omega
  have lL : L.length = p - 1 := List.length_range'
  have nL : L.Nodup := List.nodup_range' 1 (by decide)
  have key : ∀ x y, x ≤ y → y < p → a * x % p = a * y % p → x = y := fun x y xy yp e => by
    have d : p ∣ a * (y - x) := by
      rw [Nat.mul_sub]
      exact Nat.dvd_of_mod_eq_zero (Nat.sub_mod_eq_zero_of_mod_eq e.symm)
    have d2 : p ∣ y - x := ca.dvd_of_dvd_mul_left d
    rcases Nat.eq_zero_or_pos (y - x) with z | z
    · omega
    · have := Nat.le_of_dvd z d2
      omega
  have nM : (L.map fun k => a * k % p).Nodup := by
    refine List.pairwise_map.mpr (nL.imp_of_mem fun {x y} mx my ne e => ne ?_)
    rcases Nat.le_total x y with q | q
    · exact key x y q ((mL y).mp my).2 e
    · exact (key y x q ((mL x).mp mx).2 e.symm).symm
  have sub : ∀ x ∈ L.map fun k => a * k % p, x ∈ L := fun x mx => by
    obtain ⟨k, mk, rfl⟩ := List.mem_map.mp mx
    obtain ⟨k0, kp⟩ := (mL k).mp mk
    refine (mL _).mpr ⟨?_, Nat.mod_lt _ (by omega)⟩
    rcases Nat.eq_zero_or_pos (a * k % p) with z | z
    · have d : p ∣ k := ca.dvd_of_dvd_mul_left (Nat.dvd_of_mod_eq_zero z)
      have := Nat.le_of_dvd k0 d
      omega
    · exact z
  have pm := prodL_perm (perm_nodup nM nL sub (by rw [List.length_map]; exact Nat.le_refl _))
  have e := prodL_map p a L
  rw [pm, lL] at e
  have cF : Nat.Coprime p (prodL L) := prodL_cop fun k mk => cop hp ((mL k).mp mk).1 ((mL k).mp mk).2
  have a1 : 1 ≤ a ^ (p - 1) := Nat.pow_pos a0
  have d : p ∣ prodL L * (a ^ (p - 1) - 1) := by
    rw [Nat.mul_sub, Nat.mul_one, Nat.mul_comm (prodL L)]
    exact Nat.dvd_of_mod_eq_zero (Nat.sub_mod_eq_zero_of_mod_eq e.symm)
  have d2 : p ∣ a ^ (p - 1) - 1 := cF.dvd_of_dvd_mul_left d
  obtain ⟨c, hc⟩ := d2
  have e2 : a ^ (p - 1) = 1 + p * c := by omega
  rw [e2, Nat.add_mul_mod_self_left]
  exact Nat.mod_eq_of_lt (by omega)
end LinA

set_option Elab.async false
set_option linter.all false
/-! LinS: all that vectors span, as one sorted list; sums of vectors by factors; how many there are. -/
namespace LinA
open Lean.Grind
/-! ### a sorted list without doubles -/
def stepU (acc : List (List Int)) (x : List Int) : List (List Int) := if acc.getLast? = some x then acc else acc ++ [x]
structure Asc (xs : List (List Int)) : Prop where
  nd : xs.Nodup
  le : xs.Pairwise (· ≤ ·)
theorem Asc.nil : Asc [] := ⟨List.nodup_nil, .nil⟩
theorem Asc.eq {xs ys : List (List Int)} (h : Asc xs) (k : Asc ys) (m : ∀ v, v ∈ xs ↔ v ∈ ys) : xs = ys :=
  ((List.perm_ext_iff_of_nodup h.nd k.nd).mpr m).eq_of_pairwise (fun _ _ _ _ p q => List.le_antisymm p q) h.le k.le
theorem le_last {acc : List (List Int)} {z : List Int} (h : acc.Pairwise (· ≤ ·)) (e : acc.getLast? = some z) : ∀ a ∈ acc, a ≤ z := by
  obtain ⟨ys, rfl⟩ := List.getLast?_eq_some_iff.mp e
  intro a m
  rcases List.mem_append.mp m with q | q
  · exact (List.pairwise_append.mp h).2.2 a q z (by simp)
  · rw [List.mem_singleton.mp q]
    exact List.le_refl z
theorem stepU_asc {acc : List (List Int)} {x : List Int} (h : Asc acc) (u : ∀ a ∈ acc, a ≤ x) : Asc (stepU acc x) ∧ ∀ v, v ∈ stepU acc x ↔ v ∈ acc ∨ v = x := by
  unfold stepU
  by_cases e : acc.getLast? = some x
  · rw [if_pos e]
    refine ⟨h, fun v => ⟨.inl, fun m => m.elim id fun q => ?_⟩⟩
    rw [q]
    exact List.mem_of_getLast? e
  · rw [if_neg e]
    refine ⟨⟨List.nodup_append.mpr ⟨h.nd, by simp, fun a ma b mb q => ?_⟩, List.pairwise_append.mpr ⟨h.le, by simp, fun a ma b mb => ?_⟩⟩, fun v => by simp⟩
    · rw [List.mem_singleton.mp mb] at q
      subst q
      cases hl : acc.getLast? with
      | none =>
        rw [List.getLast?_eq_none_iff.mp hl] at ma
        cases ma
      | some z =>
        have z1 := le_last h.le hl a ma
        have z2 := u z (List.mem_of_getLast? hl)
        rw [List.le_antisymm z1 z2] at e
        exact e hl
    · rw [List.mem_singleton.mp mb]
      exact u a ma
theorem foldU : ∀ {xs acc : List (List Int)}, Asc acc → xs.Pairwise (· ≤ ·) → (∀ a ∈ acc, ∀ x ∈ xs, a ≤ x) → Asc (xs.foldl stepU acc) ∧ ∀ v, v ∈ xs.foldl stepU acc ↔ v ∈ acc ∨ v ∈ xs
  | [], acc, h, _, _ => ⟨h, fun v => by simp⟩
  | x :: xs, acc, h, p, u => by
    obtain ⟨p1, p2⟩ := List.pairwise_cons.mp p
    obtain ⟨a1, m1⟩ := stepU_asc h fun a ma => u a ma x List.mem_cons_self
    obtain ⟨a2, m2⟩ := foldU (xs := xs) a1 p2 fun a ma y my => by
      rcases (m1 a).mp ma with q | q
      · exact u a q y (List.mem_cons_of_mem _ my)
      · rw [q]
        exact p1 y my
    refine ⟨a2, fun v => ?_⟩
    show v ∈ xs.foldl stepU (stepU acc x) ↔ _
    rw [m2, m1, List.mem_cons, _root_.or_assoc]
/-- what unlike tells of a sorted list -/
def uniqU (xs : List (List Int)) : List (List Int) := xs.foldl stepU []
theorem uniqU_asc {xs : List (List Int)} (p : xs.Pairwise (· ≤ ·)) : Asc (uniqU xs) ∧ ∀ v, v ∈ uniqU xs ↔ v ∈ xs := by
  obtain ⟨a, m⟩ := foldU (xs := xs) Asc.nil p fun a ma => nomatch ma
  exact ⟨a, fun v => by rw [uniqU, m]; simp⟩
theorem stepU_len (acc : List (List Int)) (x : List Int) : (stepU acc x).length ≤ acc.length + 1 := by
  unfold stepU
  split
  · omega
  · simp
theorem foldU_len : ∀ (xs acc : List (List Int)), (xs.foldl stepU acc).length ≤ acc.length + xs.length
  | [], acc => by simp
  | x :: xs, acc => by
    have z := foldU_len xs (stepU acc x)
    have y := stepU_len acc x
    show (xs.foldl stepU (stepU acc x)).length ≤ acc.length + (xs.length + 1)
    omega
theorem uniqU_len (xs : List (List Int)) : (uniqU xs).length ≤ xs.length := by
  have z := foldU_len xs []
  show (xs.foldl stepU []).length ≤ xs.length
  simpa using z
theorem uniqU_len_take (xs : List (List Int)) (k : Nat) : ((xs.take k).foldl stepU []).length ≤ xs.length := by
  have z := foldU_len (xs.take k) []
  have y : (xs.take k).length ≤ xs.length := by rw [List.length_take]; omega
  simp at z y
  omega
/-! ### sums -/
section
variable {K : Type} [CommRing K]
theorem span_snoc {S : List (Row K)} {v w : Row K} : Span (S ++ [v]) w ↔ ∃ c u, Span S u ∧ w = ax c v u := by
  constructor
  · intro h
    induction h with
    | zero =>
      refine ⟨0, zr, .zero, ?_⟩
      funext j
      show (0 : K) = 0 * v j + 0
      grind
    | add d x w' m _ ih =>
      obtain ⟨c, u, hu, rfl⟩ := ih
      rcases List.mem_append.mp m with q | q
      · refine ⟨c, ax d x u, .ax d (.mem q) hu, ?_⟩
        funext j
        show d * x j + (c * v j + u j) = c * v j + (d * x j + u j)
        grind
      · rw [List.mem_singleton.mp q]
        refine ⟨d + c, u, hu, ?_⟩
        funext j
        show d * v j + (c * v j + u j) = (d + c) * v j + u j
        grind
  · rintro ⟨c, u, hu, rfl⟩
    exact .ax c (.mem (by simp)) (hu.mono fun x m => List.mem_append_left _ m)
theorem span_nil {w : Row K} : Span [] w ↔ w = zr := by
  constructor
  · intro h
    cases h with
    | zero => rfl
    | add c v w m _ => exact nomatch m
  · intro h
    rw [h]
    exact .zero
/-- rows, each times its factor -/
def comb : List (Row K) → List Int → Row K
  | v :: vs, c :: cs => ax (ic K c) v (comb vs cs)
  | _, _ => zr
theorem comb_span : ∀ (vs : List (Row K)) (cs : List Int), Span vs (comb vs cs)
  | [], _ => .zero
  | _ :: _, [] => .zero
  | v :: vs, c :: cs => .ax _ (.mem List.mem_cons_self) ((comb_span vs cs).mono fun x m => List.mem_cons_of_mem _ m)
end
def addF (p : Nat) (acc : List Int) (z : List Int × Int) : List Int := List.zipWith (fun a b => (a + z.2 * b) % (p : Int)) acc z.1
/-- vectors, each times its factor, as the law adds them up -/
def sumZ (p L : Nat) (T : List (List Int)) (fs : List Int) : List Int := (T.zip fs).foldl (addF p) (List.replicate L 0)
section
variable {p L : Nat}
theorem zeros_vec (h : 0 < p) : Vec p L (List.replicate L 0) := ⟨List.length_replicate, fun x m => by
  rw [(List.mem_replicate.mp m).2]
  omega⟩
theorem fold_vec (h : 0 < p) : ∀ {zs : List (List Int × Int)} {acc : List Int}, Vec p L acc → (∀ z ∈ zs, Vec p L z.1) → Vec p L (zs.foldl (addF p) acc)
  | [], acc, v, _ => v
  | z :: zs, acc, v, k => fold_vec h (zs := zs) (vec_zip h (h := fun a b => a + z.2 * b) v.1 (k z List.mem_cons_self).1) fun y m => k y (List.mem_cons_of_mem _ m)
theorem sumZ_vec (h : 0 < p) {T : List (List Int)} {fs : List Int} (hT : ∀ xs ∈ T, Vec p L xs) : Vec p L (sumZ p L T fs) := fold_vec h (zeros_vec h) fun z m => hT _ (List.of_mem_zip m).1
end
section
variable {K : Type} [CommRing K] {p : Nat} [IsCharP K p] {L : Nat}
theorem row_zeros : row K (List.replicate L 0) = zr := by
  funext j
  show ic K ((List.replicate L 0).getD j 0) = 0
  rw [List.getD_eq_getElem?_getD, List.getElem?_replicate]
  by_cases h : j < L
  · rw [if_pos h]
    exact ic_zero
  · rw [if_neg h]
    exact ic_zero
theorem fold_row (h : 0 < p) : ∀ {zs : List (List Int × Int)} {acc : List Int}, Vec p L acc → (∀ z ∈ zs, Vec p L z.1) → ∀ j, row K (zs.foldl (addF p) acc) j = row K acc j + comb (zs.map fun z => row K z.1) (zs.map (·.2)) j
  | [], acc, v, _, j => by
    show row K acc j = row K acc j + 0
    grind
  | z :: zs, acc, v, k, j => by
    have kz := k z List.mem_cons_self
    have va : Vec p L (addF p acc z) := vec_zip h (h := fun a b => a + z.2 * b) v.1 kz.1
    show row K (zs.foldl (addF p) (addF p acc z)) j = _
    rw [fold_row h (zs := zs) va (fun y m => k y (List.mem_cons_of_mem _ m)) j]
    have e : row K (addF p acc z) = ax (ic K z.2) (row K z.1) (row K acc) := row_more (v.1.trans kz.1.symm)
    rw [e]
    show (ic K z.2 * row K z.1 j + row K acc j) + comb _ _ j = row K acc j + (ic K z.2 * row K z.1 j + comb _ _ j)
    grind
theorem zip_maps {T : List (List Int)} {fs : List Int} (e : T.length = fs.length) : ((T.zip fs).map fun z => row K z.1) = rowsOf K T ∧ (T.zip fs).map (·.2) = fs := by
  constructor
  · have z : (T.zip fs).map (fun z => row K z.1) = ((T.zip fs).map (·.1)).map (row K) := by rw [List.map_map]; rfl
    rw [z, List.map_fst_zip (Nat.le_of_eq e)]
  · exact List.map_snd_zip (Nat.le_of_eq e.symm)
theorem sumZ_row (h : 0 < p) {T : List (List Int)} {fs : List Int} (hT : ∀ xs ∈ T, Vec p L xs) (e : T.length = fs.length) : row K (sumZ p L T fs) = comb (rowsOf K T) fs := by
  funext j
  rw [sumZ, fold_row h (zeros_vec h) (fun z m => hT _ (List.of_mem_zip m).1), (zip_maps (K := K) e).1, (zip_maps (K := K) e).2, row_zeros]
  show (0 : K) + _ = _
  grind
end
end LinA

set_option Elab.async false
set_option linter.all false
/-! LinT: what vectors span by numbers below p; spans in Fin p; bases: one alone, how many sums. -/
namespace LinA
open Lean.Grind
/-- what S adds up to by factors -/
def InS (p L : Nat) (S : List (List Int)) (xs : List Int) : Prop := ∃ fs, Vec p S.length fs ∧ xs = sumZ p L S fs
def IsSpan (p L : Nat) (S found : List (List Int)) : Prop := Asc found ∧ ∀ xs, xs ∈ found ↔ InS p L S xs
section
variable {p L : Nat}
theorem zip_snoc {α β : Type} {a : List α} {b : List β} (h : a.length = b.length) (x : α) (y : β) : (a ++ [x]).zip (b ++ [y]) = a.zip b ++ [(x, y)] := by
  rw [List.zip_append h]
  rfl
theorem sumZ_snoc {S : List (List Int)} {fs : List Int} (h : S.length = fs.length) (v : List Int) (f : Int) : sumZ p L (S ++ [v]) (fs ++ [f]) = addF p (sumZ p L S fs) (v, f) := by
  unfold sumZ
  rw [zip_snoc h, List.foldl_append]
  rfl
theorem add_zeros {xs : List Int} (h : Vec p L xs) : addF p (List.replicate L 0) (xs, 1) = xs := by
  have e : addF p (List.replicate L 0) (xs, 1) = List.zipWith (fun a b => (a + 1 * b) % (p : Int)) (List.replicate L 0) xs := rfl
  rw [e]
  refine List.ext_getElem ?_ fun j h1 h2 => ?_
  · rw [List.length_zipWith, List.length_replicate, h.1, Nat.min_self]
  · rw [List.getElem_zipWith, List.getElem_replicate]
    obtain ⟨a0, a1⟩ := h.2 _ (List.getElem_mem h2)
    rw [Int.zero_add, Int.one_mul, Int.emod_eq_of_lt a0 a1]
theorem sumZ_two {one v : List Int} (h : Vec p L one) (f : Int) : sumZ p L [one, v] [1, f] = addF p one (v, f) := by
  show addF p (addF p (List.replicate L 0) (one, 1)) (v, f) = _
  rw [add_zeros h]
theorem InS.vec (hp : 0 < p) {S : List (List Int)} {xs : List Int} (hS : ∀ v ∈ S, Vec p L v) (h : InS p L S xs) : Vec p L xs := by
  obtain ⟨fs, _, rfl⟩ := h
  exact sumZ_vec hp hS
theorem span_start : IsSpan p L [] [List.replicate L 0] := ⟨⟨by simp, by simp⟩, fun xs => by
  constructor
  · intro m
    exact ⟨[], ⟨rfl, fun x m => nomatch m⟩, List.mem_singleton.mp m⟩
  · rintro ⟨fs, ⟨h1, _⟩, rfl⟩
    rw [List.eq_nil_of_length_eq_zero h1]
    exact List.mem_singleton.mpr rfl⟩
/-- all ones and multiples of v below k -/
def moreZ (p L : Nat) (v : List Int) (found : List (List Int)) (k : Nat) : List (List Int) := (List.range k).flatMap fun f : Nat => found.map fun one => sumZ p L [one, v] [1, (f : Int)]
theorem moreZ_succ (v : List Int) (found : List (List Int)) (k : Nat) : moreZ p L v found (k + 1) = moreZ p L v found k ++ found.map fun one => sumZ p L [one, v] [1, (k : Int)] := by
  unfold moreZ
  rw [List.range_succ, List.flatMap_append]
  simp
theorem moreZ_len (v : List Int) (found : List (List Int)) : ∀ k : Nat, (moreZ p L v found k).length = k * found.length
  | 0 => by simp [moreZ]
  | k + 1 => by
    rw [moreZ_succ, List.length_append, moreZ_len v found k, List.length_map, Nat.succ_mul]
theorem span_step (hp : 0 < p) {S found sorted : List (List Int)} {v : List Int} (hS : ∀ v ∈ S, Vec p L v) (hv : Vec p L v) (h : IsSpan p L S found) (pm : sorted.Perm (moreZ p L v found p)) (le : sorted.Pairwise (· ≤ ·)) : IsSpan p L (S ++ [v]) (uniqU sorted) := by
  obtain ⟨a, m⟩ := uniqU_asc le
  refine ⟨a, fun xs => ?_⟩
  rw [m, pm.mem_iff]
  unfold moreZ
  rw [List.mem_flatMap]
  constructor
  · rintro ⟨f, mf, mx⟩
    obtain ⟨one, mo, rfl⟩ := List.mem_map.mp mx
    obtain ⟨fs, hf, rfl⟩ := (h.2 one).mp mo
    refine ⟨fs ++ [(f : Int)], ⟨by rw [List.length_append, List.length_append, hf.1]; rfl, fun x m => ?_⟩, ?_⟩
    · rcases List.mem_append.mp m with q | q
      · exact hf.2 x q
      · rw [List.mem_singleton.mp q]
        have := List.mem_range.mp mf
        omega
    · rw [sumZ_snoc hf.1.symm, sumZ_two (sumZ_vec hp hS)]
  · rintro ⟨fs, hf, rfl⟩
    have l1 : fs.length = S.length + 1 := by rw [hf.1, List.length_append]; rfl
    have e : fs = fs.dropLast ++ [fs.getLast (by intro z; rw [z] at l1; cases l1)] := (List.dropLast_concat_getLast _).symm
    generalize hl : fs.getLast _ = f at e
    have mf : f ∈ fs := by rw [← hl]; exact List.getLast_mem _
    obtain ⟨f0, f1⟩ := hf.2 f mf
    have ld : fs.dropLast.length = S.length := by rw [List.length_dropLast, l1]; rfl
    have hd : Vec p S.length fs.dropLast := ⟨ld, fun x m => hf.2 x (List.dropLast_subset _ m)⟩
    refine ⟨f.toNat, List.mem_range.mpr (by omega), List.mem_map.mpr ⟨sumZ p L S fs.dropLast, (h.2 _).mpr ⟨_, hd, rfl⟩, ?_⟩⟩
    have ef : ((f.toNat : Nat) : Int) = f := Int.toNat_of_nonneg f0
    rw [sumZ_two (sumZ_vec hp hS), ef]
    conv => rhs; rw [e]
    rw [sumZ_snoc ld.symm]
/-! ### in Fin p -/
theorem ic_val [NeZero p] (c : Fin p) : ic (Fin p) (c.val : Int) = c := by
  show @Int.cast (Fin p) Ring.intCast (c.val : Int) = c
  rw [@Ring.intCast_natCast (Fin p) _ c.val]
  exact Fin.ofNat_val_eq_self c
theorem span_cons {K : Type} [CommRing K] {S : List (Row K)} {v w : Row K} : Span (v :: S) w ↔ ∃ c u, Span S u ∧ w = ax c v u := by
  rw [← span_snoc]
  exact Same.perm (by simpa using (List.perm_append_comm (l₁ := [v]) (l₂ := S))) w
theorem span_comb [NeZero p] : ∀ {T : List (List Int)} {w : Row (Fin p)}, Span (rowsOf (Fin p) T) w → ∃ fs, Vec p T.length fs ∧ w = comb (rowsOf (Fin p) T) fs
  | [], w, h => ⟨[], ⟨rfl, fun x m => nomatch m⟩, span_nil.mp h⟩
  | v :: T, w, h => by
    obtain ⟨c, u, hu, rfl⟩ := span_cons.mp h
    obtain ⟨fs, hf, rfl⟩ := span_comb hu
    refine ⟨(c.val : Int) :: fs, ⟨by rw [List.length_cons, hf.1]; rfl, fun x m => ?_⟩, ?_⟩
    · rcases List.mem_cons.mp m with q | q
      · rw [q]
        have := c.isLt
        omega
      · exact hf.2 x q
    · show ax c (row (Fin p) v) (comb _ fs) = ax (ic (Fin p) (c.val : Int)) (row (Fin p) v) (comb _ fs)
      rw [ic_val]
theorem inS_iff [NeZero p] {T : List (List Int)} {xs : List Int} (hT : ∀ v ∈ T, Vec p L v) : InS p L T xs ↔ Vec p L xs ∧ Span (rowsOf (Fin p) T) (row (Fin p) xs) := by
  have hp : 0 < p := Nat.pos_of_ne_zero (NeZero.ne p)
  constructor
  · intro h
    refine ⟨h.vec hp hT, ?_⟩
    obtain ⟨fs, hf, rfl⟩ := h
    rw [sumZ_row hp hT hf.1.symm]
    exact comb_span _ _
  · rintro ⟨hx, h⟩
    obtain ⟨fs, hf, e⟩ := span_comb h
    refine ⟨fs, hf, row_eq (K := Fin p) hx (sumZ_vec hp hT) ?_⟩
    rw [sumZ_row hp hT hf.1.symm]
    exact e
end
end LinA

set_option Elab.async false
set_option linter.all false
/-! LinU: bases in numbers: one alone, coordinates, how many sums; a place's clearing in the list. -/
namespace LinA
open Lean.Grind
structure Bas (p L : Nat) (T B : List (List Int)) (t : List Nat) : Prop where
  vec : ∀ xs ∈ B, Vec p L xs
  len : B.length = t.length
  top : ∀ c ∈ t, c < L
  one : ∀ x ∈ B.zip t, x.1.getD x.2 0 = 1
  low : ∀ x ∈ B.zip t, ∀ j, j < x.2 → x.1.getD j 0 = 0
  two : (B.zip t).Pairwise fun x y => x.2 < y.2 ∧ x.1.getD y.2 0 = 0
  same : ∀ xs, InS p L B xs ↔ InS p L T xs
abbrev topsOf (p : Nat) [NeZero p] (B : List (List Int)) (t : List Nat) : Tops (Fin p) := (rowsOf (Fin p) B).zip t
section
variable {p L : Nat}
theorem zip_rows [NeZero p] (B : List (List Int)) (t : List Nat) : topsOf p B t = (B.zip t).map fun x => (row (Fin p) x.1, x.2) := by
  show (B.map (row (Fin p))).zip t = _
  rw [List.zip_map_left]
  rfl
theorem inS_sub [NeZero p] {S T : List (List Int)} (hS : ∀ v ∈ S, Vec p L v) (hT : ∀ v ∈ T, Vec p L v) (h : ∀ v ∈ S, InS p L T v) {xs : List Int} (k : InS p L S xs) : InS p L T xs := by
  obtain ⟨a, b⟩ := (inS_iff hS).mp k
  refine (inS_iff hT).mpr ⟨a, b.sub fun v m => ?_⟩
  obtain ⟨ys, my, rfl⟩ := List.mem_map.mp m
  exact ((inS_iff hT).mp (h ys my)).2
theorem inS_mem [NeZero p] {S : List (List Int)} (hS : ∀ v ∈ S, Vec p L v) {v : List Int} (m : v ∈ S) : InS p L S v := (inS_iff hS).mpr ⟨hS v m, .mem (List.mem_map_of_mem m)⟩
theorem same_of [NeZero p] {S T : List (List Int)} (hS : ∀ v ∈ S, Vec p L v) (hT : ∀ v ∈ T, Vec p L v) (h : ∀ xs, InS p L S xs ↔ InS p L T xs) : Same (rowsOf (Fin p) S) (rowsOf (Fin p) T) := by
  refine .of (fun v m => ?_) fun v m => ?_
  · obtain ⟨ys, my, rfl⟩ := List.mem_map.mp m
    exact ((inS_iff hT).mp ((h ys).mp (inS_mem hS my))).2
  · obtain ⟨ys, my, rfl⟩ := List.mem_map.mp m
    exact ((inS_iff hS).mp ((h ys).mpr (inS_mem hT my))).2
theorem inS_same [NeZero p] {S T : List (List Int)} (hS : ∀ v ∈ S, Vec p L v) (hT : ∀ v ∈ T, Vec p L v) (h : Same (rowsOf (Fin p) S) (rowsOf (Fin p) T)) (xs : List Int) : InS p L S xs ↔ InS p L T xs := by
  rw [inS_iff hS, inS_iff hT, h]
theorem Bas.rref [NeZero p] {T B : List (List Int)} {t : List Nat} (h : Bas p L T B t) : Rref (topsOf p B t) := by
  rw [zip_rows]
  refine ⟨fun x m => ?_, fun x m j hj => ?_, ?_⟩
  · obtain ⟨y, my, rfl⟩ := List.mem_map.mp m
    show ic (Fin p) (y.1.getD y.2 0) = 1
    rw [h.one y my, ic_one]
  · obtain ⟨y, my, rfl⟩ := List.mem_map.mp m
    show ic (Fin p) (y.1.getD j 0) = 0
    rw [h.low y my j hj, ic_zero]
  · refine List.pairwise_map.mpr (h.two.imp fun {x y} q => ⟨q.1, ?_⟩)
    show ic (Fin p) (x.1.getD y.2 0) = 0
    rw [q.2, ic_zero]
theorem vec_at {xs : List Int} (h : Vec p L xs) (hp : 0 < p) (j : Nat) : 0 ≤ xs.getD j 0 ∧ xs.getD j 0 < p := by
  by_cases q : j < xs.length
  · rw [getD_lt q]
    exact h.2 _ (List.getElem_mem q)
  · rw [getD_ge (Nat.le_of_not_lt q)]
    omega
theorem Bas.of_way [NeZero p] (p1 : 1 < p) {T D E : List (List Int)} {t : List Nat} (hT : ∀ v ∈ T, Vec p L v) (w : Way (Fin p) p L T D E t L) : Bas p L T D t := by
  obtain ⟨r, s, _⟩ := w.fin
  have r2 : Rref (topsOf p D t) := r
  have lt : ∀ x ∈ topsOf p D t, x.2 < L := w.up.lt
  rw [zip_rows] at r2 lt
  have hz : ∀ x ∈ D.zip t, Vec p L x.1 := fun x m => w.vd _ (List.of_mem_zip m).1
  have p0 : 0 < p := by omega
  refine ⟨w.vd, w.len, fun c m => ?_, fun x m => ?_, fun x m j hj => ?_, ?_, inS_same w.vd hT s⟩
  · obtain ⟨i, hi, e⟩ := List.mem_iff_getElem.mp m
    have hi2 : i < (D.zip t).length := by rw [List.length_zip, w.len]; omega
    have z := lt _ (List.mem_map_of_mem (f := fun x : List Int × Nat => (row (Fin p) x.1, x.2)) (List.getElem_mem hi2))
    rw [← e]
    simpa using z
  · have z : ic (Fin p) (x.1.getD x.2 0) = 1 := r2.one _ (List.mem_map_of_mem (f := fun x : List Int × Nat => (row (Fin p) x.1, x.2)) m)
    obtain ⟨a0, a1⟩ := vec_at (hz x m) p0 x.2
    refine cast_eq (K := Fin p) (p := p) (by rw [z, ic_one]) a0 a1 (by omega) (by omega)
  · have z : ic (Fin p) (x.1.getD j 0) = 0 := r2.low _ (List.mem_map_of_mem (f := fun x : List Int × Nat => (row (Fin p) x.1, x.2)) m) j hj
    obtain ⟨a0, a1⟩ := vec_at (hz x m) p0 j
    exact (cast_zero (K := Fin p) a0 a1).mp z
  · have z := List.pairwise_map.mp r2.two
    refine z.imp_of_mem fun {x y} mx my q => ⟨q.1, ?_⟩
    obtain ⟨a0, a1⟩ := vec_at (hz x mx) p0 y.2
    exact (cast_zero (K := Fin p) a0 a1).mp q.2
theorem rows_of_tops [NeZero p] {T B : List (List Int)} {t : List Nat} (h : Bas p L T B t) : rows (topsOf p B t) = rowsOf (Fin p) B := List.map_fst_zip (by rw [List.length_map, h.len]; exact Nat.le_refl _)
theorem rows_inj [NeZero p] : ∀ {B C : List (List Int)}, (∀ v ∈ B, Vec p L v) → (∀ v ∈ C, Vec p L v) → rowsOf (Fin p) B = rowsOf (Fin p) C → B = C
  | [], [], _, _, _ => rfl
  | [], _ :: _, _, _, e => nomatch e
  | _ :: _, [], _, _, e => nomatch e
  | x :: B, y :: C, h, k, e => by
    obtain ⟨e1, e2⟩ := List.cons.inj e
    rw [row_eq (K := Fin p) (h x List.mem_cons_self) (k y List.mem_cons_self) e1, rows_inj (fun v m => h v (List.mem_cons_of_mem _ m)) (fun v m => k v (List.mem_cons_of_mem _ m)) e2]
/-- the reduced basis is one alone -/
theorem Bas.uniq (p1 : 1 < p) {S T B C : List (List Int)} {s t : List Nat} (h : Bas p L S B s) (k : Bas p L T C t) (e : ∀ xs, InS p L S xs ↔ InS p L T xs) : B = C ∧ s = t := by
  haveI : NeZero p := ⟨by omega⟩
  have q : Same (rows (topsOf p B s)) (rows (topsOf p C t)) := by
    rw [rows_of_tops h, rows_of_tops k]
    exact same_of h.vec k.vec fun xs => by rw [h.same, k.same, e]
  have z := rref_one h.rref k.rref (one_ne (p := p) p1) q
  have z1 := congrArg (fun P => P.map (·.1)) z
  have z2 := congrArg (fun P => P.map (·.2)) z
  have e1 : rowsOf (Fin p) B = rowsOf (Fin p) C := by
    rw [← rows_of_tops h, ← rows_of_tops k]
    exact z1
  refine ⟨rows_inj h.vec k.vec e1, ?_⟩
  have t1 : (topsOf p B s).map (·.2) = s := List.map_snd_zip (by rw [List.length_map, h.len]; exact Nat.le_refl _)
  have t2 : (topsOf p C t).map (·.2) = t := List.map_snd_zip (by rw [List.length_map, k.len]; exact Nat.le_refl _)
  rw [← t1, ← t2]
  exact z2
theorem Bas.rank_le (p1 : 1 < p) {S T B C : List (List Int)} {s t : List Nat} (h : Bas p L S B s) (k : Bas p L T C t) (e : ∀ xs, InS p L S xs → InS p L T xs) : B.length ≤ C.length := by
  haveI : NeZero p := ⟨by omega⟩
  have q : ∀ v, Span (rows (topsOf p B s)) v → Span (rows (topsOf p C t)) v := by
    rw [rows_of_tops h, rows_of_tops k]
    intro v hv
    refine hv.sub fun u m => ?_
    obtain ⟨ys, my, rfl⟩ := List.mem_map.mp m
    exact ((inS_iff k.vec).mp ((k.same ys).mpr (e ys ((h.same ys).mp (inS_mem h.vec my))))).2
  have z := LinA.rank_le h.rref k.rref (one_ne (p := p) p1) q
  rw [List.length_zip, List.length_map, List.length_zip, List.length_map, h.len, k.len] at z
  rw [h.len, k.len]
  omega
theorem comb_coord [NeZero p] {xs : List Int} : ∀ (B : List (List Int)) (t : List Nat), comb (rowsOf (Fin p) B) (t.map fun c => xs.getD c 0) = coord (row (Fin p) xs) (topsOf p B t)
  | [], _ => rfl
  | _ :: _, [] => rfl
  | b :: B, c :: t => by
    show ax (ic (Fin p) (xs.getD c 0)) (row (Fin p) b) (comb _ _) = ax (row (Fin p) xs c) (row (Fin p) b) (coord _ _)
    rw [comb_coord B t]
    rfl
/-- the numbers at the tops put it together -/
theorem Bas.coords (p1 : 1 < p) {T B : List (List Int)} {t : List Nat} (h : Bas p L T B t) {xs : List Int} (k : InS p L T xs) : sumZ p L B (t.map fun c => xs.getD c 0) = xs := by
  haveI : NeZero p := ⟨by omega⟩
  have p0 : 0 < p := by omega
  obtain ⟨hx, hs⟩ := (inS_iff h.vec).mp ((h.same xs).mpr k)
  refine row_eq (K := Fin p) (sumZ_vec p0 h.vec) hx ?_
  rw [sumZ_row p0 h.vec (by rw [List.length_map, h.len]), comb_coord]
  refine span_coord h.rref ?_
  rw [rows_of_tops h]
  exact hs
/-- the factors are the numbers at the tops -/
theorem comb_tops [NeZero p] : ∀ {B : List (List Int)} {t : List Nat} {cs : List Int}, (topsOf p B t).Pairwise (fun x y => x.2 < y.2 ∧ x.1 y.2 = 0) → (∀ x ∈ topsOf p B t, x.1 x.2 = 1) → (∀ x ∈ topsOf p B t, ∀ j, j < x.2 → x.1 j = 0) → B.length = t.length → cs.length = t.length → t.map (comb (rowsOf (Fin p) B) cs) = cs.map (ic (Fin p)) ∧ ∀ j, (∀ c ∈ t, j < c) → comb (rowsOf (Fin p) B) cs j = 0
  | [], [], [], _, _, _, _, _ => ⟨rfl, fun _ _ => rfl⟩
  | b :: B, c :: t, f :: cs, h2, h1, hl, l1, l2 => by
    obtain ⟨q1, q2⟩ := List.pairwise_cons.mp h2
    obtain ⟨e, z⟩ := comb_tops (B := B) (t := t) (cs := cs) q2 (fun x m => h1 x (List.mem_cons_of_mem _ m)) (fun x m => hl x (List.mem_cons_of_mem _ m)) (Nat.succ.inj l1) (Nat.succ.inj l2)
    have one : row (Fin p) b c = 1 := h1 (row (Fin p) b, c) List.mem_cons_self
    have mem : ∀ d ∈ t, ∃ x ∈ topsOf p B t, x.2 = d := fun d m => by
      have w : (topsOf p B t).map (·.2) = t := List.map_snd_zip (by rw [List.length_map]; exact Nat.le_of_eq (Nat.succ.inj l1).symm)
      rw [← w] at m
      obtain ⟨x, mx, ex⟩ := List.mem_map.mp m
      exact ⟨x, mx, ex⟩
    have lt : ∀ d ∈ t, c < d := fun d m => by
      obtain ⟨x, mx, rfl⟩ := mem d m
      exact (q1 x mx).1
    have off : ∀ d ∈ t, row (Fin p) b d = 0 := fun d m => by
      obtain ⟨x, mx, rfl⟩ := mem d m
      exact (q1 x mx).2
    constructor
    · show (ic (Fin p) f * row (Fin p) b c + comb _ cs c) :: t.map (fun d => ic (Fin p) f * row (Fin p) b d + comb _ cs d) = ic (Fin p) f :: cs.map _
      rw [one, z c lt, ← e]
      congr 1
      · grind
      · refine List.map_congr_left fun d m => ?_
        rw [off d m]
        grind
    · intro j hj
      show ic (Fin p) f * row (Fin p) b j + comb _ cs j = 0
      have zb : row (Fin p) b j = 0 := hl (row (Fin p) b, c) List.mem_cons_self j (hj c List.mem_cons_self)
      rw [zb, z j fun d m => hj d (List.mem_cons_of_mem _ m)]
      grind
/-- all lists of n numbers below p -/
def allZ (p : Nat) : Nat → List (List Int)
  | 0 => [[]]
  | n + 1 => (List.range p).flatMap fun f : Nat => (allZ p n).map fun cs => (f : Int) :: cs
theorem sum_const {α : Type} (n : Nat) : ∀ l : List α, (l.map fun _ => n).sum = l.length * n
  | [] => by simp
  | _ :: l => by
    show n + (l.map fun _ => n).sum = (l.length + 1) * n
    rw [sum_const n l, Nat.succ_mul, Nat.add_comm]
theorem allZ_len : ∀ n : Nat, (allZ p n).length = p ^ n
  | 0 => rfl
  | n + 1 => by
    unfold allZ
    rw [List.length_flatMap]
    have e : (fun f : Nat => ((allZ p n).map fun cs => (f : Int) :: cs).length) = fun _ => p ^ n := by
      funext f
      rw [List.length_map, allZ_len n]
    rw [e, sum_const, List.length_range, Nat.pow_succ, Nat.mul_comm]
theorem allZ_mem : ∀ {n : Nat} {cs : List Int}, cs ∈ allZ p n ↔ Vec p n cs
  | 0, cs => by
    constructor
    · intro m
      rw [List.mem_singleton.mp m]
      exact ⟨rfl, fun x m => nomatch m⟩
    · rintro ⟨h, _⟩
      rw [List.eq_nil_of_length_eq_zero h]
      exact List.mem_singleton.mpr rfl
  | n + 1, cs => by
    unfold allZ
    rw [List.mem_flatMap]
    constructor
    · rintro ⟨f, mf, m⟩
      obtain ⟨ds, md, rfl⟩ := List.mem_map.mp m
      obtain ⟨l, h⟩ := allZ_mem.mp md
      refine ⟨by rw [List.length_cons, l], fun x m => ?_⟩
      rcases List.mem_cons.mp m with q | q
      · rw [q]
        have := List.mem_range.mp mf
        omega
      · exact h x q
    · rintro ⟨l, h⟩
      cases cs with
      | nil => cases l
      | cons c cs =>
        obtain ⟨c0, c1⟩ := h c List.mem_cons_self
        refine ⟨c.toNat, List.mem_range.mpr (by omega), List.mem_map.mpr ⟨cs, allZ_mem.mpr ⟨Nat.succ.inj l, fun x m => h x (List.mem_cons_of_mem _ m)⟩, ?_⟩⟩
        rw [Int.toNat_of_nonneg c0]
theorem allZ_nodup : ∀ n : Nat, (allZ p n).Nodup
  | 0 => by simp [allZ]
  | n + 1 => by
    unfold allZ
    refine List.pairwise_flatMap.mpr ⟨fun f _ => ?_, ?_⟩
    · exact List.pairwise_map.mpr ((allZ_nodup n).imp fun q e => q (List.cons.inj e).2)
    · refine (List.nodup_range (n := p)).imp fun {f g} q x mx y my e => ?_
      obtain ⟨a, _, rfl⟩ := List.mem_map.mp mx
      obtain ⟨b, _, rfl⟩ := List.mem_map.mp my
      have z := (List.cons.inj e).1
      omega
/-- as many sums as lists of factors -/
theorem Bas.count (p1 : 1 < p) {T B found : List (List Int)} {t : List Nat} (h : Bas p L T B t) (k : IsSpan p L T found) : found.length = p ^ B.length := by
  haveI : NeZero p := ⟨by omega⟩
  have p0 : 0 < p := by omega
  have r := h.rref
  have key : ∀ cs, cs ∈ allZ p B.length → t.map (fun c => (sumZ p L B cs).getD c 0) = cs := fun cs m => by
    obtain ⟨l, hc⟩ := allZ_mem.mp m
    have z := (comb_tops (B := B) (t := t) (cs := cs) r.two r.one r.low h.len (by rw [l, h.len])).1
    rw [← sumZ_row p0 h.vec (by rw [l])] at z
    refine List.ext_getElem (by rw [List.length_map, l, h.len]) fun i h1 h2 => ?_
    have z2 : (t.map (row (Fin p) (sumZ p L B cs)))[i]? = (cs.map (ic (Fin p)))[i]? := by rw [z]
    have it : i < t.length := by
      rw [List.length_map] at h1
      exact h1
    rw [List.getElem?_map, List.getElem?_map, List.getElem?_eq_getElem h2, List.getElem?_eq_getElem (by rw [List.length_map] at h1; exact h1)] at z2
    have z3 : ic (Fin p) ((sumZ p L B cs).getD t[i] 0) = ic (Fin p) cs[i] := Option.some.inj z2
    obtain ⟨a0, a1⟩ := vec_at (sumZ_vec p0 h.vec (fs := cs)) p0 (t[i]'it)
    obtain ⟨b0, b1⟩ := hc _ (List.getElem_mem h2)
    rw [List.getElem_map]
    exact cast_eq (K := Fin p) z3 a0 a1 b0 b1
  have nd : ((allZ p B.length).map (sumZ p L B)).Nodup := by
    refine List.pairwise_map.mpr ((allZ_nodup B.length).imp_of_mem fun {a b} ma mb q e => q ?_)
    rw [← key a ma, ← key b mb, e]
  have pm : found.Perm ((allZ p B.length).map (sumZ p L B)) := (List.perm_ext_iff_of_nodup k.1.nd nd).mpr fun xs => by
    rw [k.2, ← h.same, List.mem_map]
    constructor
    · rintro ⟨fs, hf, rfl⟩
      exact ⟨fs, allZ_mem.mpr hf, rfl⟩
    · rintro ⟨fs, hf, rfl⟩
      exact ⟨fs, allZ_mem.mp hf, rfl⟩
  rw [pm.length_eq, List.length_map, allZ_len]
/-- one of the basis alone -/
theorem Bas.single {T B : List (List Int)} {t : List Nat} (h : Bas p L T B t) {x : List Int × Nat} (m : x ∈ B.zip t) : Bas p L [x.1] [x.1] [x.2] := by
  obtain ⟨m1, m2⟩ := List.of_mem_zip (a := x.1) (b := x.2) m
  refine ⟨fun xs q => ?_, rfl, fun c q => ?_, fun y q => ?_, fun y q j hj => ?_, by simp, fun xs => Iff.rfl⟩
  · rw [List.mem_singleton.mp q]
    exact h.vec _ m1
  · rw [List.mem_singleton.mp q]
    exact h.top _ m2
  · rw [show y = x from List.mem_singleton.mp q]
    exact h.one x m
  · rw [show y = x from List.mem_singleton.mp q] at hj ⊢
    exact h.low x m j hj
theorem Bas.none : Bas p L [] [] [] where
  vec xs m := nomatch m
  len := rfl
  top c m := nomatch m
  one x m := nomatch m
  low x m := nomatch m
  two := .nil
  same _ := Iff.rfl
end
end LinA

set_option Elab.async false
set_option linter.all false
/-! LinE: the inverse by taking off, down to 1. -/
namespace LinA
/-- one and the other less and less, with what each is of the number -/
structure Eu (p a : Nat) (g l : Nat) (k f : Int) : Prop where
  g1 : Nat.Coprime g l
  l0 : 0 < l
  lg : l ≤ p
  gp : g ≤ p
  eg : (k * (a : Int) - (g : Int)) % (p : Int) = 0
  el : (f * (a : Int) - (l : Int)) % (p : Int) = 0
theorem Eu.start {p a : Nat} (c : Nat.Coprime p a) (a0 : 0 < a) (ap : a < p) : Eu p a p a 0 1 := by
  refine ⟨c, a0, by omega, Nat.le_refl _, ?_, ?_⟩
  · rw [Int.zero_mul, Int.zero_sub, Int.neg_emod_self]
  · rw [Int.one_mul, Int.sub_self, Int.zero_emod]
theorem Eu.step {p a g l : Nat} {k f : Int} (h : Eu p a g l k f) (l1 : 1 < l) : Eu p a l (g % l) f (k - ((g / l : Nat) : Int) * f) := by
  obtain ⟨g1, l0, lg, gp, eg, el⟩ := h
  have r0 : 0 < g % l := by
    refine Nat.pos_of_ne_zero fun e => ?_
    have d : l ∣ g := Nat.dvd_of_mod_eq_zero e
    have z : Nat.gcd g l = l := Nat.gcd_eq_right d
    have z2 : Nat.gcd g l = 1 := g1
    omega
  have rl : g % l < l := Nat.mod_lt _ l0
  refine ⟨?_, r0, by omega, lg, el, ?_⟩
  · have z : Nat.gcd g l = 1 := g1
    show Nat.gcd l (g % l) = 1
    rw [Nat.gcd_comm, ← Nat.gcd_rec, Nat.gcd_comm]
    exact z
  · have e1 : (g : Int) = ((g / l : Nat) : Int) * (l : Int) + ((g % l : Nat) : Int) := by
      have z := Nat.div_add_mod g l
      have z2 : (l : Int) * ((g / l : Nat) : Int) + ((g % l : Nat) : Int) = (g : Int) := by
        rw [← Int.natCast_mul, ← Int.natCast_add, z]
      rw [Int.mul_comm]
      exact z2.symm
    have e2 : (k - ((g / l : Nat) : Int) * f) * (a : Int) - ((g % l : Nat) : Int) = (k * (a : Int) - (g : Int)) - ((g / l : Nat) : Int) * (f * (a : Int) - (l : Int)) := by
      rw [Int.sub_mul, Int.mul_sub, Int.mul_assoc]
      generalize ((g / l : Nat) : Int) * (f * (a : Int)) = u at *
      generalize k * (a : Int) = v at *
      omega
    rw [e2]
    have d1 := Int.dvd_of_emod_eq_zero eg
    have d2 := Int.dvd_of_emod_eq_zero el
    exact Int.emod_eq_zero_of_dvd (Int.dvd_sub d1 (Int.dvd_mul_of_dvd_right d2))
theorem Eu.fin {p a g l : Nat} {k f : Int} (h : Eu p a g l k f) (p2 : 2 ≤ p) (l1 : ¬ 1 < l) : f * (a : Int) % (p : Int) = 1 := by
  obtain ⟨g1, l0, lg, gp, eg, el⟩ := h
  have e : l = 1 := by omega
  subst e
  obtain ⟨c, hc⟩ := Int.dvd_of_emod_eq_zero el
  have z : f * (a : Int) = 1 + (p : Int) * c := by
    have : ((1 : Nat) : Int) = 1 := rfl
    omega
  rw [z, Int.add_mul_emod_self_left]
  exact Int.emod_eq_of_lt (by omega) (by omega)
/-- there is one inverse alone -/
theorem inv_uniq {p a : Nat} {x y : Int} (c : Nat.Coprime p a) (p2 : 2 ≤ p) (hx : x * (a : Int) % (p : Int) = 1) (hy : y * (a : Int) % (p : Int) = 1) : x % (p : Int) = y % (p : Int) := by
  have e : x * 1 % (p : Int) = y * 1 % (p : Int) := by
    have e1 : x * (y * (a : Int)) % (p : Int) = y * (x * (a : Int)) % (p : Int) := by
      have : x * (y * (a : Int)) = y * (x * (a : Int)) := by
        rw [← Int.mul_assoc, ← Int.mul_assoc, Int.mul_comm x y]
      rw [this]
    have h1 : (1 : Int) % (p : Int) = 1 := Int.emod_eq_of_lt (by omega) (by omega)
    have a1 : x * (y * (a : Int)) % (p : Int) = x * 1 % (p : Int) := by
      rw [Int.mul_emod, hy, Int.mul_emod x 1, h1]
    have a2 : y * (x * (a : Int)) % (p : Int) = y * 1 % (p : Int) := by
      rw [Int.mul_emod, hx, Int.mul_emod y 1, h1]
    rw [← a1, ← a2, e1]
  rw [Int.mul_one, Int.mul_one] at e
  exact e
end LinA

set_option Elab.async false
set_option linter.all false
/-! LinQ: products of rows; what vectors add up to, or what bars it; all that is nought on them. -/
namespace LinA
open Lean.Grind
section
variable {K : Type} [CommRing K]
/-- the product of two rows, of their first n places -/
def ip (x : Row K) : Nat → Row K → K
  | 0, _ => 0
  | n + 1, r => ip x n r + r n * x n
theorem ip_ax (x : Row K) (c : K) (v w : Row K) : ∀ n, ip x n (ax c v w) = c * ip x n v + ip x n w
  | 0 => by
    show (0 : K) = c * 0 + 0
    grind
  | n + 1 => by
    show ip x n (ax c v w) + (c * v n + w n) * x n = c * (ip x n v + v n * x n) + (ip x n w + w n * x n)
    rw [ip_ax x c v w n]
    grind
theorem ip_xa (c : K) (x y r : Row K) : ∀ n, ip (ax c x y) n r = c * ip x n r + ip y n r
  | 0 => by
    show (0 : K) = c * 0 + 0
    grind
  | n + 1 => by
    show ip (ax c x y) n r + r n * (c * x n + y n) = c * (ip x n r + r n * x n) + (ip y n r + r n * y n)
    rw [ip_xa c x y r n]
    grind
theorem ip_zr (x : Row K) : ∀ n, ip x n zr = 0
  | 0 => rfl
  | n + 1 => by
    show ip x n zr + 0 * x n = 0
    rw [ip_zr x n]
    grind
theorem ip_rz (r : Row K) : ∀ n, ip zr n r = 0
  | 0 => rfl
  | n + 1 => by
    show ip zr n r + r n * 0 = 0
    rw [ip_rz r n]
    grind
theorem ip_comm (x y : Row K) : ∀ n, ip x n y = ip y n x
  | 0 => rfl
  | n + 1 => by
    show ip x n y + y n * x n = ip y n x + x n * y n
    rw [ip_comm x y n]
    grind
theorem ip_congr {x y r s : Row K} : ∀ {n : Nat}, (∀ j, j < n → x j = y j ∧ r j = s j) → ip x n r = ip y n s
  | 0, _ => rfl
  | n + 1, h => by
    show ip x n r + r n * x n = ip y n s + s n * y n
    rw [ip_congr (n := n) fun j hj => h j (Nat.lt_succ_of_lt hj), (h n (Nat.lt_succ_self n)).1, (h n (Nat.lt_succ_self n)).2]
theorem ip_none {x r : Row K} : ∀ {n : Nat}, (∀ j, j < n → r j * x j = 0) → ip x n r = 0
  | 0, _ => rfl
  | n + 1, h => by
    show ip x n r + r n * x n = 0
    rw [ip_none (n := n) fun j hj => h j (Nat.lt_succ_of_lt hj), h n (Nat.lt_succ_self n)]
    grind
/-- one place alone counts -/
theorem ip_one {x r : Row K} {c : Nat} : ∀ {n : Nat}, c < n → (∀ j, j < n → j ≠ c → r j * x j = 0) → ip x n r = r c * x c
  | 0, h, _ => (Nat.not_lt_zero c h).elim
  | n + 1, h, k => by
    show ip x n r + r n * x n = r c * x c
    by_cases q : c = n
    · subst q
      rw [ip_none fun j hj => k j (Nat.lt_succ_of_lt hj) (Nat.ne_of_lt hj)]
      grind
    · rw [ip_one (n := n) (by omega) fun j hj => k j (Nat.lt_succ_of_lt hj), k n (Nat.lt_succ_self n) (Ne.symm q)]
      grind
theorem ip_span {x : Row K} {n : Nat} {S : List (Row K)} (h : ∀ v ∈ S, ip x n v = 0) {v : Row K} (hv : Span S v) : ip x n v = 0 := by
  induction hv with
  | zero => exact ip_zr x n
  | add c v w m _ ih =>
    rw [ip_ax, h v m, ih]
    grind
/-- factors times numbers, added up -/
def csum : List K → List Int → K
  | k :: ks, c :: cs => ic K c * k + csum ks cs
  | _, _ => 0
theorem ip_comb (x : Row K) (n : Nat) : ∀ (vs : List (Row K)) (cs : List Int), ip x n (comb vs cs) = csum (vs.map (ip x n)) cs
  | [], cs => by
    cases cs <;> exact ip_zr x n
  | v :: vs, [] => ip_zr x n
  | v :: vs, c :: cs => by
    show ip x n (ax (ic K c) v (comb vs cs)) = ic K c * ip x n v + csum (vs.map (ip x n)) cs
    rw [ip_ax, ip_comb x n vs cs]
theorem csum_none : ∀ {ks : List K} {cs : List Int}, (∀ k ∈ ks, k = 0) → csum ks cs = 0
  | [], cs, _ => by cases cs <;> rfl
  | _ :: _, [], _ => rfl
  | k :: ks, c :: cs, h => by
    show ic K c * k + csum ks cs = 0
    rw [h k List.mem_cons_self, csum_none fun y m => h y (List.mem_cons_of_mem _ m)]
    grind
end
/-- products of two lists, added up -/
def dotA (xs ys : List Int) : Int := (List.zipWith (· * ·) xs ys).sum
theorem dotA_comm (xs ys : List Int) : dotA xs ys = dotA ys xs := by
  unfold dotA
  rw [List.zipWith_comm]
  have e : (fun (b a : Int) => a * b) = fun (a b : Int) => a * b := by
    funext a b
    exact Int.mul_comm b a
  rw [e]
section
variable {K : Type} [CommRing K]
theorem ic_dot : ∀ (xs ys : List Int), ic K (dotA xs ys) = csum (xs.map (ic K)) ys
  | [], ys => by
    have e : dotA [] ys = 0 := by simp [dotA]
    rw [e, ic_zero]
    cases ys <;> rfl
  | x :: xs, [] => by
    have e : dotA (x :: xs) [] = 0 := by simp [dotA]
    rw [e, ic_zero]
    rfl
  | x :: xs, y :: ys => by
    have e : dotA (x :: xs) (y :: ys) = x * y + dotA xs ys := by simp [dotA]
    rw [e, ic_add, ic_mul, ic_dot xs ys]
    show ic K x * ic K y + _ = ic K y * ic K x + _
    grind
theorem row_snoc_lt {xs : List Int} {a : Int} {j : Nat} (h : j < xs.length) : row K (xs ++ [a]) j = row K xs j := by
  show ic K ((xs ++ [a]).getD j 0) = ic K (xs.getD j 0)
  rw [List.getD_eq_getElem?_getD, List.getElem?_append_left h, List.getD_eq_getElem?_getD]
theorem row_snoc_at {xs : List Int} {a : Int} : row K (xs ++ [a]) xs.length = ic K a := by
  show ic K ((xs ++ [a]).getD xs.length 0) = ic K a
  rw [List.getD_eq_getElem?_getD, List.getElem?_append_right (Nat.le_refl _), Nat.sub_self]
  rfl
theorem snoc_of {α : Type} {n : Nat} : ∀ {xs : List α}, xs.length = n + 1 → ∃ ys a, xs = ys ++ [a] ∧ ys.length = n := fun {xs} h => by
  have ne : xs ≠ [] := fun e => by
    rw [e] at h
    cases h
  exact ⟨xs.dropLast, xs.getLast ne, (List.dropLast_concat_getLast ne).symm, by rw [List.length_dropLast, h]; rfl⟩
theorem dot_ip : ∀ {n : Nat} {xs ys : List Int}, xs.length = n → ys.length = n → ic K (dotA xs ys) = ip (row K ys) n (row K xs)
  | 0, xs, ys, hx, hy => by
    rw [List.eq_nil_of_length_eq_zero hx]
    have e : dotA [] ys = 0 := by simp [dotA]
    rw [e, ic_zero]
    rfl
  | n + 1, xs, ys, hx, hy => by
    obtain ⟨xs, a, rfl, lx⟩ := snoc_of hx
    obtain ⟨ys, b, rfl, ly⟩ := snoc_of hy
    have e : dotA (xs ++ [a]) (ys ++ [b]) = dotA xs ys + a * b := by
      unfold dotA
      rw [List.zipWith_append (by rw [lx, ly]), List.sum_append]
      show _ + (a * b + 0) = _
      rw [Int.add_zero]
    rw [e, ic_add, ic_mul, dot_ip lx ly]
    show _ = ip (row K (ys ++ [b])) n (row K (xs ++ [a])) + row K (xs ++ [a]) n * row K (ys ++ [b]) n
    have e1 : row K (xs ++ [a]) n = ic K a := by
      have z := row_snoc_at (K := K) (xs := xs) (a := a)
      rw [lx] at z
      exact z
    have e2 : row K (ys ++ [b]) n = ic K b := by
      have z := row_snoc_at (K := K) (xs := ys) (a := b)
      rw [ly] at z
      exact z
    rw [e1, e2, ip_congr (x := row K (ys ++ [b])) (y := row K ys) (r := row K (xs ++ [a])) (s := row K xs) fun j hj => ⟨row_snoc_lt (by omega), row_snoc_lt (by omega)⟩]
end
/-! ### the way there is always one -/
abbrev Prm' (p : Nat) : Prop := ∀ d, 2 ≤ d → d < p → p % d ≠ 0
theorem inv_ex {p : Nat} (pr : Prm' p) (p2 : 2 ≤ p) {a : Int} (a0 : 0 < a) (a1 : a < (p : Int)) : ∃ s : Int, a * s % (p : Int) = 1 := by
  obtain ⟨n, rfl⟩ : ∃ n : Nat, a = (n : Int) := ⟨a.toNat, (Int.toNat_of_nonneg (by omega)).symm⟩
  have f := fermat pr p2 (a := n) (by omega) (by omega)
  refine ⟨((n ^ (p - 2) : Nat) : Int), ?_⟩
  have z : n * n ^ (p - 2) % p = 1 := by
    rw [Nat.mul_comm, ← Nat.pow_succ]
    have e2 : (p - 2).succ = p - 1 := by omega
    rw [e2]
    exact f
  rw [← Int.natCast_mul, ← Int.natCast_emod, z]
  rfl
theorem way_ex {p L : Nat} [NeZero p] (pr : Prm' p) (p2 : 2 ≤ p) {T : List (List Int)} (hT : ∀ v ∈ T, Vec p L v) : ∀ c, c ≤ L → ∃ D E t, Way (Fin p) p L T D E t c
  | 0, _ => ⟨[], T, [], Way.start hT⟩
  | c + 1, h => by
    obtain ⟨D, E, t, w⟩ := way_ex pr p2 hT c (Nat.le_of_succ_le h)
    by_cases q : ∀ xs ∈ E, xs.getD c 0 = 0
    · exact ⟨D, E, t, w.none q⟩
    · obtain ⟨b, q⟩ := Classical.not_forall.mp q
      obtain ⟨mb, q⟩ := Classical.not_imp.mp q
      obtain ⟨a0, a1⟩ := vec_at (w.ve b mb) (by omega) c
      obtain ⟨s, hs⟩ := inv_ex pr p2 (a := b.getD c 0) (by omega) a1
      exact ⟨_, _, _, w.found (E' := E.erase b) (by omega) (List.perm_cons_erase mb) hs⟩
end LinA

set_option Elab.async false
set_option linter.all false
/-! LinR: vectors whose products with given ones are given; none, if a row of the rest says so. -/
namespace LinA
open Lean.Grind
/-! ### numbers put to places -/
section
variable {α : Type} (k : α → Nat) (f : α → Int)
def putF (zs : List α) (acc : List Int) : List Int := zs.foldl (fun acc z => acc.set (k z) (f z)) acc
theorem putF_len : ∀ (zs : List α) (acc : List Int), (putF k f zs acc).length = acc.length
  | [], acc => rfl
  | z :: zs, acc => by
    show (putF k f zs (acc.set (k z) (f z))).length = _
    rw [putF_len zs, List.length_set]
theorem getD_set_ne {xs : List Int} {i j : Nat} {a : Int} (h : i ≠ j) : (xs.set i a).getD j 0 = xs.getD j 0 := by
  rw [List.getD_eq_getElem?_getD, List.getElem?_set_ne h, List.getD_eq_getElem?_getD]
theorem getD_set_at {xs : List Int} {i : Nat} {a : Int} (h : i < xs.length) : (xs.set i a).getD i 0 = a := by
  rw [List.getD_eq_getElem?_getD, List.getElem?_set_self h]
  rfl
theorem putF_off {j : Nat} : ∀ {zs : List α} {acc : List Int}, (∀ z ∈ zs, k z ≠ j) → (putF k f zs acc).getD j 0 = acc.getD j 0
  | [], acc, _ => rfl
  | z :: zs, acc, h => by
    show (putF k f zs (acc.set (k z) (f z))).getD j 0 = _
    rw [putF_off fun y m => h y (List.mem_cons_of_mem _ m), getD_set_ne (h z List.mem_cons_self)]
theorem putF_at : ∀ {zs : List α} {acc : List Int}, (zs.map k).Nodup → (∀ z ∈ zs, k z < acc.length) → ∀ z ∈ zs, (putF k f zs acc).getD (k z) 0 = f z
  | [], _, _, _, z, m => nomatch m
  | y :: zs, acc, nd, lt, z, m => by
    obtain ⟨n1, n2⟩ := List.nodup_cons.mp nd
    show (putF k f zs (acc.set (k y) (f y))).getD (k z) 0 = _
    rcases List.mem_cons.mp m with q | q
    · subst q
      rw [putF_off k f fun x mx e => n1 (by rw [← e]; exact List.mem_map_of_mem mx), getD_set_at (lt z List.mem_cons_self)]
    · exact putF_at n2 (fun x mx => by rw [List.length_set]; exact lt x (List.mem_cons_of_mem _ mx)) z q
theorem putF_vec {p L : Nat} (hf : ∀ z : α, 0 ≤ f z ∧ f z < (p : Int)) : ∀ {zs : List α} {acc : List Int}, Vec p L acc → Vec p L (putF k f zs acc)
  | [], _, v => v
  | z :: zs, acc, v => putF_vec hf (zs := zs) ⟨by rw [List.length_set]; exact v.1, fun x m => by
    rcases List.mem_or_eq_of_mem_set m with q | q
    · exact v.2 x q
    · rw [q]
      exact hf z⟩
end
/-! ### with the aims behind -/
def augZ (V : List (List Int)) (aims : List Int) : List (List Int) := List.zipWith (fun v a => v ++ [a]) V aims
def Sol (p n : Nat) (V : List (List Int)) (aims x : List Int) : Prop := Vec p n x ∧ ∀ z ∈ V.zip aims, dotA z.1 x % (p : Int) = z.2
def putZ (n : Nat) (D : List (List Int)) (t : List Nat) : List Int := putF (fun z : List Int × Nat => z.2) (fun z => z.1.getD n 0) (D.zip t) (List.replicate n 0)
theorem augZ_mem {V : List (List Int)} {aims : List Int} {r : List Int} (h : r ∈ augZ V aims) : ∃ z ∈ V.zip aims, r = z.1 ++ [z.2] := by
  unfold augZ at h
  rw [← List.map_uncurry_zip_eq_zipWith] at h
  obtain ⟨z, mz, e⟩ := List.mem_map.mp h
  exact ⟨z, mz, e.symm⟩
theorem augZ_of {V : List (List Int)} {aims : List Int} {z : List Int × Int} (h : z ∈ V.zip aims) : z.1 ++ [z.2] ∈ augZ V aims := by
  unfold augZ
  rw [← List.map_uncurry_zip_eq_zipWith]
  exact List.mem_map.mpr ⟨z, h, rfl⟩
theorem augZ_vec {p n m : Nat} {V : List (List Int)} {aims : List Int} (hV : ∀ v ∈ V, Vec p n v) (ha : Vec p m aims) : ∀ r ∈ augZ V aims, Vec p (n + 1) r := fun r mr => by
  obtain ⟨z, mz, rfl⟩ := augZ_mem mr
  obtain ⟨m1, m2⟩ := List.of_mem_zip (a := z.1) (b := z.2) mz
  refine ⟨by rw [List.length_append, (hV _ m1).1]; rfl, fun x mx => ?_⟩
  rcases List.mem_append.mp mx with q | q
  · exact (hV _ m1).2 x q
  · rw [List.mem_singleton.mp q]
    exact ha.2 _ m2
section
variable {p n m : Nat} [NeZero p]
/-- the row that tells by how much x misses -/
def mis (p n : Nat) [NeZero p] (x : List Int) : Row (Fin p) := fun j => if j < n then row (Fin p) x j else -1
theorem ip_mis (x : List Int) (r : Row (Fin p)) : ip (mis p n x) (n + 1) r = ip (row (Fin p) x) n r - r n := by
  show ip (mis p n x) n r + r n * mis p n x n = _
  have e : mis p n x n = -1 := by
    unfold mis
    rw [if_neg (Nat.lt_irrefl n)]
  rw [e, ip_congr (y := row (Fin p) x) (s := r) fun j hj => ⟨by unfold mis; rw [if_pos hj], rfl⟩]
  grind
theorem mis_aug {v x : List Int} {a : Int} (lv : v.length = n) (lx : x.length = n) : ip (mis p n x) (n + 1) (row (Fin p) (v ++ [a])) = ic (Fin p) (dotA v x) - ic (Fin p) a := by
  rw [ip_mis, dot_ip lv lx, ip_congr (x := row (Fin p) x) (y := row (Fin p) x) (r := row (Fin p) (v ++ [a])) (s := row (Fin p) v) fun j hj => ⟨rfl, row_snoc_lt (by omega)⟩]
  have z := row_snoc_at (K := Fin p) (xs := v) (a := a)
  rw [lv] at z
  rw [z]
theorem dot_hit {v x : List Int} {a : Int} (a0 : 0 ≤ a) (a1 : a < (p : Int)) : dotA v x % (p : Int) = a ↔ ic (Fin p) (dotA v x) - ic (Fin p) a = 0 := by
  have hp : 0 < p := Nat.pos_of_ne_zero (NeZero.ne p)
  constructor
  · intro h
    rw [← cast_mod (K := Fin p) (p := p), h]
    grind
  · intro h
    obtain ⟨q0, q1⟩ := mod_in hp (dotA v x)
    refine cast_eq (K := Fin p) (p := p) ?_ q0 q1 a0 a1
    rw [cast_mod (K := Fin p) (p := p)]
    grind
theorem sol_iff {V : List (List Int)} {aims x : List Int} (hV : ∀ v ∈ V, Vec p n v) (ha : Vec p m aims) (hx : x.length = n) : (∀ z ∈ V.zip aims, dotA z.1 x % (p : Int) = z.2) ↔ ∀ r ∈ rowsOf (Fin p) (augZ V aims), ip (mis p n x) (n + 1) r = 0 := by
  constructor
  · intro h r mr
    obtain ⟨y, my, rfl⟩ := List.mem_map.mp mr
    obtain ⟨z, mz, rfl⟩ := augZ_mem my
    obtain ⟨m1, m2⟩ := List.of_mem_zip (a := z.1) (b := z.2) mz
    rw [mis_aug (hV _ m1).1 hx]
    exact (dot_hit (ha.2 _ m2).1 (ha.2 _ m2).2).mp (h z mz)
  · intro h z mz
    obtain ⟨m1, m2⟩ := List.of_mem_zip (a := z.1) (b := z.2) mz
    refine (dot_hit (ha.2 _ m2).1 (ha.2 _ m2).2).mpr ?_
    rw [← mis_aug (hV _ m1).1 hx]
    exact h _ (List.mem_map_of_mem (augZ_of mz))
/-- a row of the rest with something at the end: no vector -/
theorem way_no {V D E : List (List Int)} {aims : List Int} {t : List Nat} (hV : ∀ v ∈ V, Vec p n v) (ha : Vec p m aims) (w : Way (Fin p) p (n + 1) (augZ V aims) D E t n) {e : List Int} (me : e ∈ E) (ne : e.getD n 0 ≠ 0) : ¬ ∃ x, Sol p n V aims x := by
  rintro ⟨x, hx, h⟩
  have hp : 0 < p := Nat.pos_of_ne_zero (NeZero.ne p)
  have z := (sol_iff hV ha hx.1).mp h
  have s : Span (rowsOf (Fin p) (augZ V aims)) (row (Fin p) e) := (w.same _).mp (.mem (List.mem_map_of_mem (List.mem_append_right _ me)))
  have q := ip_span z s
  rw [ip_mis, ip_none fun j hj => ?_] at q
  · obtain ⟨a0, a1⟩ := vec_at (w.ve e me) hp n
    refine ne ((cast_zero (K := Fin p) a0 a1).mp ?_)
    have q2 : (0 : Fin p) - ic (Fin p) (e.getD n 0) = 0 := q
    grind
  · have z0 : row (Fin p) e j = 0 := w.up.low _ (List.mem_map_of_mem me) j hj
    rw [z0]
    grind
theorem tops_zip {D : List (List Int)} {t : List Nat} (l : D.length = t.length) : tops ((rowsOf (Fin p) D).zip t) = t := List.map_snd_zip (by rw [List.length_map, l]; exact Nat.le_refl _)
theorem snd_zip {D : List (List Int)} {t : List Nat} (l : D.length = t.length) : (D.zip t).map (fun z : List Int × Nat => z.2) = t := List.map_snd_zip (by rw [l]; exact Nat.le_refl _)
theorem mem_zip_snd {D : List (List Int)} {t : List Nat} (l : D.length = t.length) {c : Nat} (m : c ∈ t) : ∃ z ∈ D.zip t, z.2 = c := by
  rw [← snd_zip l] at m
  exact List.mem_map.mp m
theorem top_row {D : List (List Int)} {t : List Nat} {z : List Int × Nat} (m : z ∈ D.zip t) : (row (Fin p) z.1, z.2) ∈ (rowsOf (Fin p) D).zip t := by
  have e := zip_rows (p := p) D t
  show _ ∈ topsOf p D t
  rw [e]
  exact List.mem_map_of_mem (f := fun x : List Int × Nat => (row (Fin p) x.1, x.2)) m
section
variable {D : List (List Int)} {t : List Nat} (r : Rref ((rowsOf (Fin p) D).zip t)) (l : D.length = t.length) (lt : ∀ c ∈ t, c < n)
include r l lt
omit lt in
theorem t_nodup : t.Nodup := by
  have z := tops_nodup r
  rw [tops_zip l] at z
  exact z
theorem putZ_at {z : List Int × Nat} (m : z ∈ D.zip t) : (putZ n D t).getD z.2 0 = z.1.getD n 0 := by
  refine putF_at (fun z : List Int × Nat => z.2) (fun z => z.1.getD n 0) ?_ (fun y my => ?_) z m
  · rw [snd_zip l]
    exact t_nodup r l
  · rw [List.length_replicate]
    exact lt _ (List.of_mem_zip (a := y.1) (b := y.2) my).2
omit r l lt in
theorem putZ_off {j : Nat} (h : j ∉ t) : (putZ n D t).getD j 0 = 0 := by
  unfold putZ
  rw [putF_off (fun z : List Int × Nat => z.2) (fun z => z.1.getD n 0) fun z mz e => h (by rw [← e]; exact (List.of_mem_zip (a := z.1) (b := z.2) mz).2)]
  by_cases q : j < n
  · rw [List.getD_eq_getElem?_getD, List.getElem?_replicate_of_lt q]
    rfl
  · rw [List.getD_eq_getElem?_getD, List.getElem?_eq_none (by rw [List.length_replicate]; omega)]
    rfl
/-- a reduced row, by x that is nought but at tops -/
theorem ip_top {x : Row (Fin p)} (off : ∀ j, j ∉ t → x j = 0) {z : List Int × Nat} (m : z ∈ D.zip t) : ip x n (row (Fin p) z.1) = x z.2 := by
  have mz := top_row (p := p) m
  have one : row (Fin p) z.1 z.2 = 1 := r.one _ mz
  have hz : z.2 < n := lt _ (List.of_mem_zip (a := z.1) (b := z.2) m).2
  rw [ip_one (c := z.2) hz fun j hj ne => ?_, one]
  · grind
  · by_cases q : j ∈ t
    · obtain ⟨y, my, e⟩ := mem_zip_snd l q
      have o : row (Fin p) z.1 y.2 = 0 := r.off _ mz _ (top_row (p := p) my) (by show z.2 ≠ y.2; rw [e]; exact Ne.symm ne)
      rw [e] at o
      rw [o]
      grind
    · rw [off j q]
      grind
end
theorem way_yes {V D E : List (List Int)} {aims : List Int} {t : List Nat} (hV : ∀ v ∈ V, Vec p n v) (ha : Vec p m aims) (w : Way (Fin p) p (n + 1) (augZ V aims) D E t n) (z : ∀ e ∈ E, e.getD n 0 = 0) : Sol p n V aims (putZ n D t) := by
  have hp : 0 < p := Nat.pos_of_ne_zero (NeZero.ne p)
  have lt : ∀ c ∈ t, c < n := fun c m => by
    obtain ⟨y, my, e⟩ := mem_zip_snd w.len m
    have q := w.up.lt _ (top_row (p := p) my)
    rw [← e]
    exact q
  have lx : (putZ n D t).length = n := by
    unfold putZ
    rw [putF_len, List.length_replicate]
  refine ⟨⟨lx, fun x m => ?_⟩, (sol_iff hV ha lx).mpr fun r mr => ip_span (S := rowsOf (Fin p) (D ++ E)) (fun v mv => ?_) ((w.same _).mpr (.mem mr))⟩
  · obtain ⟨j, hj, e⟩ := List.mem_iff_getElem.mp m
    have g : (putZ n D t).getD j 0 = x := by
      rw [List.getD_eq_getElem?_getD, List.getElem?_eq_getElem hj, e]
      rfl
    by_cases q : j ∈ t
    · obtain ⟨y, my, ey⟩ := mem_zip_snd w.len q
      rw [← g, ← ey, putZ_at w.up.rr w.len lt my]
      exact vec_at (w.vd _ (List.of_mem_zip (a := y.1) (b := y.2) my).1) hp n
    · rw [← g, putZ_off q]
      omega
  · obtain ⟨y, my, rfl⟩ := List.mem_map.mp mv
    rw [ip_mis]
    rcases List.mem_append.mp my with q | q
    · obtain ⟨i, hi, e⟩ := List.mem_iff_getElem.mp q
      have hi2 : i < t.length := by rw [← w.len]; exact hi
      have mz : (y, t[i]) ∈ D.zip t := by
        rw [List.mem_iff_getElem]
        exact ⟨i, by rw [List.length_zip]; omega, by rw [List.getElem_zip, e]⟩
      have e1 := ip_top (x := row (Fin p) (putZ n D t)) w.up.rr w.len lt (fun j hj => by
        show ic (Fin p) ((putZ n D t).getD j 0) = 0
        rw [putZ_off hj, ic_zero]) mz
      have e2 := putZ_at w.up.rr w.len lt mz
      rw [e1]
      show ic (Fin p) ((putZ n D t).getD t[i] 0) - ic (Fin p) (y.getD n 0) = 0
      have e3 : (putZ n D t).getD t[i] 0 = y.getD n 0 := e2
      rw [e3]
      grind
    · rw [ip_none fun j hj => ?_]
      · show (0 : Fin p) - ic (Fin p) (y.getD n 0) = 0
        rw [z y q, ic_zero]
        grind
      · have z0 : row (Fin p) y j = 0 := w.up.low _ (List.mem_map_of_mem q) j hj
        rw [z0]
        grind
end
/-- what meeting tells -/
def Meets (p n : Nat) (V : List (List Int)) (aims : List Int) : Option (List Int) → Prop
  | none => ¬ ∃ x, Sol p n V aims x
  | some x => Sol p n V aims x ∧ ∃ D t, Bas p (n + 1) (augZ V aims) D t ∧ (∀ c ∈ t, c < n) ∧ x = putZ n D t
theorem Meets.uniq {p n : Nat} {V : List (List Int)} {aims : List Int} (p1 : 1 < p) : ∀ {r s : Option (List Int)}, Meets p n V aims r → Meets p n V aims s → r = s
  | none, none, _, _ => rfl
  | none, some x, h, k => (h ⟨x, k.1⟩).elim
  | some x, none, h, k => (k ⟨x, h.1⟩).elim
  | some x, some y, ⟨_, D, t, b, _, e⟩, ⟨_, D2, t2, b2, _, e2⟩ => by
    obtain ⟨e3, e4⟩ := b.uniq p1 b2 fun _ => Iff.rfl
    rw [e, e2, e3, e4]
theorem meets_way {p n m : Nat} [NeZero p] (p1 : 1 < p) {V D E : List (List Int)} {aims : List Int} {t : List Nat} (hV : ∀ v ∈ V, Vec p n v) (ha : Vec p m aims) (w : Way (Fin p) p (n + 1) (augZ V aims) D E t n) :
    ((∃ e ∈ E, e.getD n 0 ≠ 0) → Meets p n V aims none) ∧ ((∀ e ∈ E, e.getD n 0 = 0) → Meets p n V aims (some (putZ n D t))) :=
  ⟨fun ⟨e, me, ne⟩ => way_no hV ha w me ne, fun z => ⟨way_yes hV ha w z, D, t, Bas.of_way p1 (augZ_vec hV ha) (w.none z), fun c m => by
    obtain ⟨y, my, e⟩ := mem_zip_snd w.len m
    have q := w.up.lt _ (top_row (p := p) my)
    rw [← e]
    exact q, rfl⟩⟩
theorem meets_ex {p n m : Nat} (pr : Prm' p) (p2 : 2 ≤ p) {V : List (List Int)} {aims : List Int} (hV : ∀ v ∈ V, Vec p n v) (ha : Vec p m aims) : ∃ r, Meets p n V aims r := by
  haveI : NeZero p := ⟨by omega⟩
  obtain ⟨D, E, t, w⟩ := way_ex pr p2 (augZ_vec hV ha) n (Nat.le_succ n)
  obtain ⟨h1, h2⟩ := meets_way (by omega) hV ha w
  by_cases q : ∃ e ∈ E, e.getD n 0 ≠ 0
  · exact ⟨_, h1 q⟩
  · refine ⟨_, h2 fun e me => Classical.byContradiction fun z => q ⟨e, me, z⟩⟩
end LinA

set_option Elab.async false
set_option linter.all false
/-! LinV: columns; a vector is added up, or one bars it; all that is nought on vectors. -/
namespace LinA
open Lean.Grind
def colA (T : List (List Int)) (c : Nat) : List Int := T.map fun xs => xs.getD c 0
def colsA (T : List (List Int)) (L : Nat) : List (List Int) := (List.range L).map (colA T)
def addA (p : Int) (T : List (List Int)) (fs : List Int) (L : Nat) : List Int := (List.range L).map fun c => dotA fs (colA T c) % p
section
variable {p L : Nat}
theorem colA_vec (p0 : 0 < p) {T : List (List Int)} {c : Nat} (hv : ∀ xs ∈ T, Vec p L xs) : Vec p T.length (colA T c) := ⟨List.length_map .., fun x m => by
  obtain ⟨xs, mx, rfl⟩ := List.mem_map.mp m
  exact vec_at (hv xs mx) p0 c⟩
theorem colsA_vec (p0 : 0 < p) {T : List (List Int)} {M : Nat} (hv : ∀ xs ∈ T, Vec p L xs) : ∀ v ∈ colsA T M, Vec p T.length v := fun v m => by
  obtain ⟨c, _, rfl⟩ := List.mem_map.mp m
  exact colA_vec p0 hv
theorem colsA_len {T : List (List Int)} : (colsA T L).length = L := by
  unfold colsA
  rw [List.length_map, List.length_range]
theorem addA_get {T : List (List Int)} {fs : List Int} {c : Nat} (h : c < L) : (addA (p : Int) T fs L).getD c 0 = dotA fs (colA T c) % (p : Int) := by
  unfold addA
  rw [List.getD_eq_getElem?_getD, List.getElem?_map, List.getElem?_range h]
  rfl
theorem addA_vec (p0 : 0 < p) (T : List (List Int)) (fs : List Int) : Vec p L (addA (p : Int) T fs L) := ⟨by unfold addA; rw [List.length_map, List.length_range], fun x m => by
  obtain ⟨c, _, rfl⟩ := List.mem_map.mp m
  exact mod_in p0 _⟩
theorem dot_comb [NeZero p] {c : Nat} : ∀ (T : List (List Int)) (fs : List Int), ic (Fin p) (dotA fs (colA T c)) = comb (rowsOf (Fin p) T) fs c
  | [], fs => by
    have e : dotA fs (colA [] c) = 0 := by
      unfold dotA colA
      rw [List.map_nil, List.zipWith_nil_right]
      rfl
    rw [e]
    exact ic_zero
  | _ :: _, [] => ic_zero
  | xs :: T, f :: fs => by
    show ic (Fin p) (f * xs.getD c 0 + dotA fs (colA T c)) = ic (Fin p) f * ic (Fin p) (xs.getD c 0) + comb _ fs c
    rw [ic_add, ic_mul, dot_comb T fs]
theorem comb_ge [NeZero p] {T : List (List Int)} (hT : ∀ xs ∈ T, Vec p L xs) : ∀ (fs : List Int) {c : Nat}, L ≤ c → comb (rowsOf (Fin p) T) fs c = 0 := by
  induction T with
  | nil => exact fun fs c _ => rfl
  | cons xs T ih =>
    intro fs c h
    cases fs with
    | nil => rfl
    | cons f fs =>
      show ic (Fin p) f * row (Fin p) xs c + comb (rowsOf (Fin p) T) fs c = 0
      rw [ih (fun v m => hT v (List.mem_cons_of_mem _ m)) fs h, row_ge (by rw [(hT xs List.mem_cons_self).1]; exact h)]
      grind
theorem add_row [NeZero p] {T : List (List Int)} {fs : List Int} (hT : ∀ xs ∈ T, Vec p L xs) : row (Fin p) (addA (p : Int) T fs L) = comb (rowsOf (Fin p) T) fs := by
  have p0 : 0 < p := Nat.pos_of_ne_zero (NeZero.ne p)
  funext c
  by_cases h : c < L
  · show ic (Fin p) ((addA (p : Int) T fs L).getD c 0) = _
    rw [addA_get h, cast_mod (p := p), dot_comb]
  · rw [row_ge (by rw [(addA_vec p0 T fs).1]; omega), comb_ge hT fs (Nat.le_of_not_lt h)]
theorem add_sum [NeZero p] {T : List (List Int)} {fs : List Int} (hT : ∀ xs ∈ T, Vec p L xs) (e : T.length = fs.length) : addA (p : Int) T fs L = sumZ p L T fs := by
  have p0 : 0 < p := Nat.pos_of_ne_zero (NeZero.ne p)
  refine row_eq (K := Fin p) (addA_vec p0 T fs) (sumZ_vec p0 hT) ?_
  rw [sumZ_row p0 hT e, add_row hT]
theorem inS_add [NeZero p] {T : List (List Int)} {xs : List Int} (hT : ∀ xs ∈ T, Vec p L xs) : InS p L T xs ↔ ∃ fs, Vec p T.length fs ∧ addA (p : Int) T fs L = xs := by
  constructor
  · rintro ⟨fs, h, e⟩
    exact ⟨fs, h, by rw [add_sum hT h.1.symm, e]⟩
  · rintro ⟨fs, h, e⟩
    exact ⟨fs, h, by rw [← add_sum hT h.1.symm, e]⟩
theorem getD_ext {xs ys : List Int} (l : xs.length = L) (k : ys.length = L) (h : ∀ j, j < L → xs.getD j 0 = ys.getD j 0) : xs = ys := by
  refine List.ext_getElem (l.trans k.symm) fun j h1 h2 => ?_
  have z := h j (by omega)
  rw [getD_lt h1, getD_lt h2] at z
  exact z
/-- columns hit what is wanted: the vectors add up to it -/
theorem sol_cols (p0 : 0 < p) {V : List (List Int)} {w x : List Int} (hw : Vec p L w) : Sol p V.length (colsA V L) w x ↔ Vec p V.length x ∧ addA (p : Int) V x L = w := by
  unfold Sol
  refine and_congr_right fun hx => ?_
  constructor
  · intro h
    refine getD_ext (L := L) (addA_vec p0 V x).1 hw.1 fun j hj => ?_
    rw [addA_get hj, dotA_comm]
    have m : (colA V j, w.getD j 0) ∈ (colsA V L).zip w := by
      rw [List.mem_iff_getElem]
      refine ⟨j, by rw [List.length_zip, colsA_len, hw.1]; omega, ?_⟩
      rw [List.getElem_zip]
      unfold colsA
      rw [List.getElem_map, List.getElem_range, getD_lt (by rw [hw.1]; exact hj)]
    exact h _ m
  · rintro rfl z mz
    obtain ⟨j, hj, e⟩ := List.mem_iff_getElem.mp mz
    have jL : j < L := by
      rw [List.length_zip, colsA_len] at hj
      omega
    rw [List.getElem_zip] at e
    unfold colsA at e
    rw [List.getElem_map, List.getElem_range] at e
    rw [← e]
    have jl : j < (addA (p : Int) V x L).length := by rw [hw.1]; exact jL
    show dotA (colA V j) x % (p : Int) = (addA (p : Int) V x L)[j]'jl
    rw [dotA_comm, ← addA_get jL, getD_lt jl]
/-- what solved tells -/
theorem solve_iff (p2 : 2 ≤ p) {V : List (List Int)} {w : List Int} (hV : ∀ v ∈ V, Vec p L v) (hw : Vec p L w) {r : Option (List Int)} (h : Meets p V.length (colsA V L) w r) :
    (r = none ↔ ¬ InS p L V w) ∧ ∀ x, r = some x → Vec p V.length x ∧ addA (p : Int) V x L = w := by
  haveI : NeZero p := ⟨by omega⟩
  have key : (∃ x, Sol p V.length (colsA V L) w x) ↔ InS p L V w := by
    rw [inS_add hV]
    exact exists_congr fun x => sol_cols (by omega) hw
  cases r with
  | none => exact ⟨⟨fun _ q => h (key.mpr q), fun _ => rfl⟩, fun x e => nomatch e⟩
  | some x => exact ⟨⟨fun e => (nomatch e), fun q => (q (key.mp ⟨x, h.1⟩)).elim⟩, fun y e => by
      cases e
      exact (sol_cols (by omega) hw).mp h.1⟩
end
/-! ### added up, or barred -/
section
variable {p n : Nat}
def cut (n : Nat) {K : Type} [CommRing K] (r : Row K) : Row K := fun j => if j < n then r j else 0
theorem cut_zr {K : Type} [CommRing K] : cut n (zr : Row K) = zr := by
  funext j
  unfold cut
  split <;> rfl
theorem cut_ax {K : Type} [CommRing K] (c : K) (v w : Row K) : cut n (ax c v w) = ax c (cut n v) (cut n w) := by
  funext j
  show cut n (ax c v w) j = c * cut n v j + cut n w j
  unfold cut
  split
  · rfl
  · grind
theorem span_cut {K : Type} [CommRing K] {S T : List (Row K)} (h : ∀ v ∈ S, Span T (cut n v)) {v : Row K} (hv : Span S v) : Span T (cut n v) := by
  induction hv with
  | zero => rw [cut_zr]; exact .zero
  | add c v w m _ ih => rw [cut_ax]; exact .ax c (h v m) ih
theorem span_at {K : Type} [CommRing K] {S : List (Row K)} {j : Nat} (h : ∀ v ∈ S, v j = 0) {v : Row K} (hv : Span S v) : v j = 0 := by
  induction hv with
  | zero => rfl
  | add c v w m _ ih =>
    show c * v j + w j = 0
    rw [h v m, ih]
    grind
theorem cut_snoc [NeZero p] {v : List Int} {a : Int} (l : v.length = n) : cut n (row (Fin p) (v ++ [a])) = row (Fin p) v := by
  funext j
  unfold cut
  by_cases q : j < n
  · rw [if_pos q, row_snoc_lt (by omega)]
  · rw [if_neg q, row_ge (by omega)]
def bars (k : Nat) : List Int := List.replicate k 0 ++ [1]
theorem bars_vec (p2 : 2 ≤ p) (k : Nat) : Vec p (k + 1) (bars k) := ⟨by unfold bars; rw [List.length_append, List.length_replicate]; rfl, fun x m => by
  rcases List.mem_append.mp m with q | q
  · rw [(List.mem_replicate.mp q).2]
    omega
  · rw [List.mem_singleton.mp q]
    omega⟩
theorem zip_bars (V : List (List Int)) (w : List Int) : (V ++ [w]).zip (bars V.length) = V.zip (List.replicate V.length 0) ++ [(w, 1)] := by
  unfold bars
  rw [List.zip_append (by rw [List.length_replicate])]
  rfl
theorem sol_bars (V : List (List Int)) (w x : List Int) : Sol p n (V ++ [w]) (bars V.length) x ↔ Vec p n x ∧ (∀ v ∈ V, dotA v x % (p : Int) = 0) ∧ dotA w x % (p : Int) = 1 := by
  unfold Sol
  refine and_congr_right fun _ => ?_
  rw [zip_bars]
  constructor
  · intro h
    refine ⟨fun v mv => ?_, h (w, 1) (by simp)⟩
    obtain ⟨i, hi, e⟩ := List.mem_iff_getElem.mp mv
    refine h (v, 0) (List.mem_append_left _ ?_)
    rw [List.mem_iff_getElem]
    exact ⟨i, by rw [List.length_zip, List.length_replicate]; omega, by rw [List.getElem_zip, List.getElem_replicate, e]⟩
  · rintro ⟨h1, h2⟩ z mz
    rcases List.mem_append.mp mz with q | q
    · obtain ⟨m1, m2⟩ := List.of_mem_zip (a := z.1) (b := z.2) q
      rw [(List.mem_replicate.mp m2).2]
      exact h1 _ m1
    · rw [List.mem_singleton.mp q]
      exact h2
/-- nothing bars it: it is added up -/
theorem bar_alt (pr : Prm' p) (p2 : 2 ≤ p) {V : List (List Int)} {w : List Int} (hV : ∀ v ∈ V, Vec p n v) (hw : Vec p n w) : InS p n V w ∨ ∃ x, Vec p n x ∧ (∀ v ∈ V, dotA v x % (p : Int) = 0) ∧ dotA w x % (p : Int) = 1 := by
  haveI : NeZero p := ⟨by omega⟩
  have hVw : ∀ v ∈ V ++ [w], Vec p n v := fun v m => (List.mem_append.mp m).elim (hV v) fun q => by rw [List.mem_singleton.mp q]; exact hw
  obtain ⟨D, E, t, wy⟩ := way_ex pr p2 (augZ_vec hVw (bars_vec p2 V.length)) n (Nat.le_succ n)
  by_cases q : ∃ e ∈ E, e.getD n 0 ≠ 0
  · refine .inl ?_
    obtain ⟨e, me, ne⟩ := q
    obtain ⟨a0, a1⟩ := vec_at (wy.ve e me) (by omega) n
    obtain ⟨s, hs⟩ := inv_ex pr p2 (a := e.getD n 0) (by omega) a1
    have unit : ic (Fin p) (e.getD n 0) * ic (Fin p) s = 1 := by
      rw [← ic_mul, ← cast_mod (p := p), hs, ic_one]
    have sp : Span (rowsOf (Fin p) (augZ (V ++ [w]) (bars V.length))) (row (Fin p) e) := (wy.same _).mp (.mem (List.mem_map_of_mem (List.mem_append_right _ me)))
    have eA : rowsOf (Fin p) (augZ (V ++ [w]) (bars V.length)) = rowsOf (Fin p) (augZ V (List.replicate V.length 0)) ++ [row (Fin p) (w ++ [1])] := by
      have e1 : augZ (V ++ [w]) (bars V.length) = augZ V (List.replicate V.length 0) ++ [w ++ [1]] := by
        unfold augZ bars
        rw [List.zipWith_append (by rw [List.length_replicate])]
        rfl
      rw [e1]
      exact List.map_append
    rw [eA] at sp
    obtain ⟨c, u, hu, eu⟩ := span_snoc.mp sp
    have un : u n = 0 := by
      refine span_at (fun v mv => ?_) hu
      obtain ⟨y, my, rfl⟩ := List.mem_map.mp mv
      obtain ⟨z, mz, rfl⟩ := augZ_mem my
      obtain ⟨m1, m2⟩ := List.of_mem_zip (a := z.1) (b := z.2) mz
      have k := row_snoc_at (K := Fin p) (xs := z.1) (a := z.2)
      rw [(hV _ m1).1] at k
      rw [k, (List.mem_replicate.mp m2).2, ic_zero]
    have wn : row (Fin p) (w ++ [1]) n = 1 := by
      have k := row_snoc_at (K := Fin p) (xs := w) (a := 1)
      rw [hw.1] at k
      rw [k, ic_one]
    have ec : c = ic (Fin p) (e.getD n 0) := by
      have k : row (Fin p) e n = c * row (Fin p) (w ++ [1]) n + u n := congrFun eu n
      rw [un, wn] at k
      have k2 : ic (Fin p) (e.getD n 0) = row (Fin p) e n := rfl
      rw [k2, k]
      grind
    have hcu : Span (rowsOf (Fin p) V) (cut n u) := by
      refine span_cut (fun v mv => ?_) hu
      obtain ⟨y, my, rfl⟩ := List.mem_map.mp mv
      obtain ⟨z, mz, rfl⟩ := augZ_mem my
      obtain ⟨m1, m2⟩ := List.of_mem_zip (a := z.1) (b := z.2) mz
      rw [cut_snoc (hV _ m1).1]
      exact .mem (List.mem_map_of_mem m1)
    refine (inS_iff hV).mpr ⟨hw, ?_⟩
    have ew : row (Fin p) w = ax (-(ic (Fin p) s)) (cut n u) zr := by
      funext j
      show row (Fin p) w j = -(ic (Fin p) s) * cut n u j + 0
      by_cases hj : j < n
      · have k : row (Fin p) e j = c * row (Fin p) (w ++ [1]) j + u j := congrFun eu j
        have z0 : row (Fin p) e j = 0 := wy.up.low _ (List.mem_map_of_mem me) j hj
        rw [z0, row_snoc_lt (by rw [hw.1]; exact hj), ec] at k
        have cu : cut n u j = u j := by
          unfold cut
          rw [if_pos hj]
        rw [cu]
        have k2 : u j = -(ic (Fin p) (e.getD n 0) * row (Fin p) w j) := by grind
        rw [k2]
        have k3 : -(ic (Fin p) s) * -(ic (Fin p) (e.getD n 0) * row (Fin p) w j) = (ic (Fin p) (e.getD n 0) * ic (Fin p) s) * row (Fin p) w j := by grind
        rw [k3, unit]
        grind
      · have cu : cut n u j = 0 := by
          unfold cut
          rw [if_neg hj]
        rw [cu, row_ge (by rw [hw.1]; omega)]
        grind
    rw [ew]
    exact .ax _ hcu .zero
  · have z : ∀ e ∈ E, e.getD n 0 = 0 := fun e me => Classical.byContradiction fun k => q ⟨e, me, k⟩
    exact .inr ⟨_, (sol_bars V w _).mp (way_yes hVw (bars_vec p2 V.length) wy z)⟩
theorem bar_not [NeZero p] (p2 : 2 ≤ p) {V : List (List Int)} {w x : List Int} (hV : ∀ v ∈ V, Vec p n v) (hw : Vec p n w) (lx : x.length = n) (h : ∀ v ∈ V, dotA v x % (p : Int) = 0) (k : InS p n V w) : dotA w x % (p : Int) = 0 := by
  obtain ⟨_, s⟩ := (inS_iff hV).mp k
  have z : ip (row (Fin p) x) n (row (Fin p) w) = 0 := ip_span (fun v mv => by
    obtain ⟨y, my, rfl⟩ := List.mem_map.mp mv
    rw [← dot_ip (hV y my).1 lx, ← cast_mod (p := p), h y my, ic_zero]) s
  rw [← dot_ip hw.1 lx, ← cast_mod (p := p)] at z
  obtain ⟨a0, a1⟩ := mod_in (show 0 < p by omega) (dotA w x)
  exact (cast_zero (K := Fin p) a0 a1).mp z
/-- what barred tells -/
theorem bar_iff (pr : Prm' p) (p2 : 2 ≤ p) {V : List (List Int)} {w : List Int} (hV : ∀ v ∈ V, Vec p n v) (hw : Vec p n w) {r : Option (List Int)} (h : Meets p n (V ++ [w]) (bars V.length) r) :
    (r = none ↔ InS p n V w) ∧ ∀ x, r = some x → Vec p n x ∧ (∀ v ∈ V, dotA v x % (p : Int) = 0) ∧ dotA w x % (p : Int) = 1 := by
  haveI : NeZero p := ⟨by omega⟩
  cases r with
  | none => exact ⟨⟨fun _ => (bar_alt pr p2 hV hw).elim id fun ⟨x, k⟩ => (h ⟨x, (sol_bars V w x).mpr k⟩).elim, fun _ => rfl⟩, fun x e => nomatch e⟩
  | some x =>
    obtain ⟨h1, h2, h3⟩ := (sol_bars V w x).mp h.1
    refine ⟨⟨fun e => (nomatch e), fun q => ?_⟩, fun y e => by cases e; exact ⟨h1, h2, h3⟩⟩
    rw [bar_not p2 hV hw h1.1 h2 q] at h3
    cases h3
end
/-! ### what is nought on vectors -/
section
variable {p L : Nat}
def Ker (p L : Nat) (V : List (List Int)) (x : List Int) : Prop := Vec p L x ∧ ∀ v ∈ V, dotA v x % (p : Int) = 0
def kerZ (p L : Nat) (D : List (List Int)) (t : List Nat) (f : Nat) : List Int := putF (fun z : List Int × Nat => z.2) (fun z => -(z.1.getD f 0) % (p : Int)) (D.zip t) ((List.replicate L 0).set f 1)
def kersZ (p L : Nat) (D : List (List Int)) (t : List Nat) : List (List Int) := ((List.range L).filter fun f => decide (f ∉ t)).map (kerZ p L D t)
variable [NeZero p]
theorem ker_ip {V : List (List Int)} {x : List Int} (hV : ∀ v ∈ V, Vec p L v) (lx : x.length = L) : (∀ v ∈ V, dotA v x % (p : Int) = 0) ↔ ∀ v ∈ rowsOf (Fin p) V, ip (row (Fin p) x) L v = 0 := by
  have p0 : 0 < p := Nat.pos_of_ne_zero (NeZero.ne p)
  constructor
  · intro h v mv
    obtain ⟨y, my, rfl⟩ := List.mem_map.mp mv
    rw [← dot_ip (hV y my).1 lx, ← cast_mod (p := p), h y my, ic_zero]
  · intro h v mv
    have z := h _ (List.mem_map_of_mem mv)
    rw [← dot_ip (hV v mv).1 lx, ← cast_mod (p := p)] at z
    obtain ⟨a0, a1⟩ := mod_in p0 (dotA v x)
    exact (cast_zero (K := Fin p) a0 a1).mp z
/-- noughts are added up to noughts -/
theorem ker_span {V B : List (List Int)} (hV : ∀ v ∈ V, Vec p L v) (hB : ∀ b ∈ B, Ker p L V b) {x : List Int} (k : InS p L B x) : Ker p L V x := by
  obtain ⟨hx, s⟩ := (inS_iff fun b m => (hB b m).1).mp k
  refine ⟨hx, (ker_ip hV hx.1).mpr fun v mv => ?_⟩
  rw [ip_comm]
  refine ip_span (fun b mb => ?_) s
  obtain ⟨y, my, rfl⟩ := List.mem_map.mp mb
  rw [ip_comm]
  exact (ker_ip hV (hB y my).1.1).mp (hB y my).2 v mv
variable {D E V : List (List Int)} {t : List Nat}
theorem way_lt (w : Way (Fin p) p L V D E t L) : ∀ c ∈ t, c < L := fun c m => by
  obtain ⟨y, my, e⟩ := mem_zip_snd w.len m
  have q := w.up.lt _ (top_row (p := p) my)
  rw [← e]
  exact q
theorem kerZ_at (w : Way (Fin p) p L V D E t L) {f : Nat} {z : List Int × Nat} (m : z ∈ D.zip t) : (kerZ p L D t f).getD z.2 0 = -(z.1.getD f 0) % (p : Int) := by
  refine putF_at (fun z : List Int × Nat => z.2) (fun z => -(z.1.getD f 0) % (p : Int)) ?_ (fun y my => ?_) z m
  · rw [snd_zip w.len]
    exact t_nodup w.up.rr w.len
  · rw [List.length_set, List.length_replicate]
    exact way_lt w _ (List.of_mem_zip (a := y.1) (b := y.2) my).2
theorem kerZ_off {f j : Nat} (hj : j < L) (h : j ∉ t) : (kerZ p L D t f).getD j 0 = if j = f then 1 else 0 := by
  unfold kerZ
  rw [putF_off (fun z : List Int × Nat => z.2) (fun z => -(z.1.getD f 0) % (p : Int)) fun z mz e => h (by rw [← e]; exact (List.of_mem_zip (a := z.1) (b := z.2) mz).2)]
  by_cases q : j = f
  · subst q
    rw [if_pos rfl, getD_set_at (by rw [List.length_replicate]; exact hj)]
  · rw [if_neg q, getD_set_ne (Ne.symm q), List.getD_eq_getElem?_getD, List.getElem?_replicate_of_lt hj]
    rfl
theorem kerZ_vec (p2 : 2 ≤ p) (f : Nat) : Vec p L (kerZ p L D t f) := by
  refine putF_vec _ _ (fun z => mod_in (by omega) _) ⟨by rw [List.length_set, List.length_replicate], fun x m => ?_⟩
  rcases List.mem_or_eq_of_mem_set m with q | q
  · rw [(List.mem_replicate.mp q).2]
    omega
  · rw [q]
    omega
/-- a row is nought on x just if the numbers of x tell its number at the top -/
theorem ip_ker (w : Way (Fin p) p L V D E t L) {x : Row (Fin p)} {z : List Int × Nat} (m : z ∈ D.zip t) (y : Row (Fin p)) (hy : ∀ j, j ∉ t → y j = 0) (e : ∀ j, j < L → x j = y j + (if j ∈ t then 0 else x j)) : ip x L (row (Fin p) z.1) = y z.2 + ip (fun j => if j ∈ t then 0 else x j) L (row (Fin p) z.1) := by
  have k : ip x L (row (Fin p) z.1) = ip (ax 1 y fun j => if j ∈ t then 0 else x j) L (row (Fin p) z.1) := ip_congr fun j hj => ⟨by
    show x j = 1 * y j + (if j ∈ t then 0 else x j)
    have z := e j hj
    grind, rfl⟩
  rw [k, ip_xa, ip_top w.up.rr w.len (way_lt w) hy m]
  grind
theorem kers_ker (p2 : 2 ≤ p) (hV : ∀ v ∈ V, Vec p L v) (w : Way (Fin p) p L V D E t L) {f : Nat} (hf : f < L) (nf : f ∉ t) : Ker p L V (kerZ p L D t f) := by
  have kv : Vec p L (kerZ p L D t f) := kerZ_vec p2 f
  refine ⟨kv, (ker_ip hV kv.1).mpr fun v mv => ip_span (S := rowsOf (Fin p) (D ++ E)) (fun u mu => ?_) ((w.same _).mpr (.mem mv))⟩
  obtain ⟨y, my, rfl⟩ := List.mem_map.mp mu
  rcases List.mem_append.mp my with q | q
  · obtain ⟨i, hi, e⟩ := List.mem_iff_getElem.mp q
    have hi2 : i < t.length := by rw [← w.len]; exact hi
    have mz : (y, t[i]) ∈ D.zip t := by
      rw [List.mem_iff_getElem]
      exact ⟨i, by rw [List.length_zip]; omega, by rw [List.getElem_zip, e]⟩
    have k := ip_ker w (x := row (Fin p) (kerZ p L D t f)) mz (fun j => if j ∈ t then row (Fin p) (kerZ p L D t f) j else 0) (fun j hj => if_neg hj) fun j hj => by
      by_cases q : j ∈ t
      · rw [if_pos q, if_pos q]
        grind
      · rw [if_neg q, if_neg q]
        grind
    rw [k]
    have mt : t[i] ∈ t := List.getElem_mem hi2
    have e1 : (if t[i] ∈ t then row (Fin p) (kerZ p L D t f) t[i] else 0) = -(row (Fin p) y f) := by
      rw [if_pos mt]
      show ic (Fin p) ((kerZ p L D t f).getD t[i] 0) = -(ic (Fin p) (y.getD f 0))
      have g := kerZ_at w (f := f) mz
      have g2 : (kerZ p L D t f).getD t[i] 0 = -(y.getD f 0) % (p : Int) := g
      rw [g2, cast_mod (p := p), ic_neg]
    have e2 : ip (fun j => if j ∈ t then 0 else row (Fin p) (kerZ p L D t f) j) L (row (Fin p) y) = row (Fin p) y f := by
      rw [ip_one (c := f) hf fun j hj ne => ?_]
      · rw [if_neg nf]
        have g : row (Fin p) (kerZ p L D t f) f = 1 := by
          show ic (Fin p) ((kerZ p L D t f).getD f 0) = 1
          rw [kerZ_off hf nf, if_pos rfl, ic_one]
        rw [g]
        grind
      · by_cases q : j ∈ t
        · rw [if_pos q]
          grind
        · rw [if_neg q]
          have g : row (Fin p) (kerZ p L D t f) j = 0 := by
            show ic (Fin p) ((kerZ p L D t f).getD j 0) = 0
            rw [kerZ_off hj q, if_neg ne, ic_zero]
          rw [g]
          grind
    rw [e1, e2]
    grind
  · refine ip_none fun j hj => ?_
    have z0 : row (Fin p) y j = 0 := w.up.low _ (List.mem_map_of_mem q) j hj
    rw [z0]
    grind
/-- the numbers of x at the free places, put onto the rows of these places -/
def ksum (p L : Nat) [NeZero p] (D : List (List Int)) (t : List Nat) (x : List Int) : List Nat → Row (Fin p)
  | [] => zr
  | f :: fs => ax (row (Fin p) x f) (row (Fin p) (kerZ p L D t f)) (ksum p L D t x fs)
theorem ksum_span (x : List Int) : ∀ (fs : List Nat), Span (rowsOf (Fin p) (fs.map (kerZ p L D t))) (ksum p L D t x fs)
  | [] => .zero
  | f :: fs => .ax _ (.mem List.mem_cons_self) ((ksum_span x fs).mono fun v m => List.mem_cons_of_mem _ m)
theorem ksum_at {x : List Int} {j : Nat} (hj : j < L) (h : j ∉ t) : ∀ {fs : List Nat}, fs.Nodup → ksum p L D t x fs j = if j ∈ fs then row (Fin p) x j else 0
  | [], _ => by simp [ksum, zr]
  | f :: fs, nd => by
    obtain ⟨n1, n2⟩ := List.nodup_cons.mp nd
    show row (Fin p) x f * row (Fin p) (kerZ p L D t f) j + ksum p L D t x fs j = _
    rw [ksum_at hj h n2]
    have g : row (Fin p) (kerZ p L D t f) j = if j = f then 1 else 0 := by
      show ic (Fin p) ((kerZ p L D t f).getD j 0) = _
      rw [kerZ_off hj h]
      split
      · exact ic_one
      · exact ic_zero
    rw [g]
    by_cases q : j = f
    · subst q
      rw [if_pos rfl, if_neg n1, if_pos List.mem_cons_self]
      grind
    · rw [if_neg q]
      by_cases q2 : j ∈ fs
      · rw [if_pos q2, if_pos (List.mem_cons_of_mem _ q2)]
        grind
      · rw [if_neg q2, if_neg fun m => (List.mem_cons.mp m).elim q q2]
        grind
/-- the rows of the free places span all that is nought -/
theorem kers_span (p2 : 2 ≤ p) (hV : ∀ v ∈ V, Vec p L v) (w : Way (Fin p) p L V D E t L) (x : List Int) : InS p L (kersZ p L D t) x ↔ Ker p L V x := by
  have hk : ∀ b ∈ kersZ p L D t, Ker p L V b := fun b mb => by
    obtain ⟨f, mf, rfl⟩ := List.mem_map.mp mb
    obtain ⟨m1, m2⟩ := List.mem_filter.mp mf
    exact kers_ker p2 hV w (List.mem_range.mp m1) (of_decide_eq_true m2)
  refine ⟨ker_span hV hk, fun h => (inS_iff fun b m => (hk b m).1).mpr ⟨h.1, ?_⟩⟩
  let fs := (List.range L).filter fun f => decide (f ∉ t)
  have nd : fs.Nodup := (List.nodup_range (n := L)).sublist List.filter_sublist
  let s := ksum p L D t x fs
  have hs : Span (rowsOf (Fin p) (kersZ p L D t)) s := ksum_span x fs
  have e : row (Fin p) x = s := by
    -- the difference is nought at the free places, so at the tops too
    let y : Row (Fin p) := ax (-1) s (row (Fin p) x)
    have yo : ∀ j, j ∉ t → j < L → y j = 0 := fun j hj jL => by
      show -1 * s j + row (Fin p) x j = 0
      have g : s j = row (Fin p) x j := by
        show ksum p L D t x fs j = _
        rw [ksum_at jL hj nd, if_pos (List.mem_filter.mpr ⟨List.mem_range.mpr jL, decide_eq_true hj⟩)]
      rw [g]
      grind
    have sz : ∀ v, Span (rowsOf (Fin p) V) v → ip y L v = 0 := fun v hv => by
      rw [ip_xa]
      have a1 : ip (row (Fin p) x) L v = 0 := ip_span ((ker_ip hV h.1.1).mp h.2) hv
      have a2 : ip s L v = 0 := by
        rw [ip_comm]
        refine ip_span (fun b mb => ?_) hs
        obtain ⟨z, mz, rfl⟩ := List.mem_map.mp mb
        rw [ip_comm]
        exact ip_span ((ker_ip hV (hk z mz).1.1).mp (hk z mz).2) hv
      rw [a1, a2]
      grind
    have yz : ∀ j, j < L → y j = 0 := fun j jL => by
      by_cases q : j ∈ t
      · obtain ⟨z, mz, ez⟩ := mem_zip_snd w.len q
        have k := sz (row (Fin p) z.1) ((w.same _).mp (.mem (List.mem_map_of_mem (List.mem_append_left _ (List.of_mem_zip (a := z.1) (b := z.2) mz).1))))
        have k2 : ip y L (row (Fin p) z.1) = ip (fun i => if i < L then y i else 0) L (row (Fin p) z.1) := ip_congr fun i hi => ⟨by rw [if_pos hi], rfl⟩
        rw [k2, ip_top w.up.rr w.len (way_lt w) (fun i hi => by
          by_cases q2 : i < L
          · rw [if_pos q2, yo i hi q2]
          · rw [if_neg q2]) mz, ez, if_pos jL] at k
        exact k
      · exact yo j q jL
    funext j
    by_cases jL : j < L
    · have k : -1 * s j + row (Fin p) x j = 0 := yz j jL
      grind
    · rw [row_ge (by rw [h.1.1]; omega)]
      refine (span_at (fun v mv => ?_) hs).symm
      obtain ⟨z, mz, rfl⟩ := List.mem_map.mp mv
      exact row_ge (by rw [(hk z mz).1.1]; omega)
  rw [e]
  exact hs
end
end LinA

set_option Elab.async false
set_option linter.all false
/-! LinW: what stands between two lists of vectors, or bars it. -/
namespace LinA
open Lean.Grind
/-- nothing on the left bars it -/
def LCond (p n o : Nat) (F W : List (List Int)) : Prop := ∀ u, Ker p F.length (colsA F n) u → ∀ c, c < o → dotA u (colA W c) % (p : Int) = 0
/-- nothing on the right bars it -/
def RCond (p o : Nat) (S W : List (List Int)) : Prop := ∀ z, Ker p o S z → ∀ w ∈ W, dotA w z % (p : Int) = 0
/-- the middle ones, column by column -/
def Mids (p n o : Nat) (F W xs : List (List Int)) : Prop := xs.length = o ∧ ∀ c x, xs[c]? = some x → Meets p n F (colA W c) (some x)
section
variable {p n m : Nat} [NeZero p]
theorem cut_lt {K : Type} [CommRing K] {r : Row K} {j : Nat} (h : j < n) : cut n r j = r j := by
  unfold cut
  rw [if_pos h]
theorem bas_cut (p2 : 2 ≤ p) {F D : List (List Int)} {aims : List Int} {t : List Nat} (hF : ∀ v ∈ F, Vec p n v) (ha : Vec p F.length aims) (b : Bas p (n + 1) (augZ F aims) D t) (lt : ∀ c ∈ t, c < n) :
    Rref ((topsOf p D t).map fun x => (cut n x.1, x.2)) ∧ Same (rows ((topsOf p D t).map fun x => (cut n x.1, x.2))) (rowsOf (Fin p) F) ∧ tops ((topsOf p D t).map fun x => (cut n x.1, x.2)) = t := by
  have r := b.rref
  have ht : ∀ x ∈ topsOf p D t, x.2 < n := fun x m => lt _ (List.of_mem_zip (a := x.1) (b := x.2) m).2
  have hA := augZ_vec hF ha
  have sm : Same (rowsOf (Fin p) D) (rowsOf (Fin p) (augZ F aims)) := same_of b.vec hA b.same
  have er : rows ((topsOf p D t).map fun x => (cut n x.1, x.2)) = (rowsOf (Fin p) D).map (cut n) := by
    rw [← rows_of_tops b]
    show (((topsOf p D t).map fun x => (cut n x.1, x.2)).map fun x => x.1) = ((topsOf p D t).map fun x => x.1).map (cut n)
    rw [List.map_map, List.map_map]
    rfl
  refine ⟨⟨fun x m => ?_, fun x m j hj => ?_, ?_⟩, ?_, ?_⟩
  · obtain ⟨y, my, rfl⟩ := List.mem_map.mp m
    exact (cut_lt (ht y my)).trans (r.one y my)
  · obtain ⟨y, my, rfl⟩ := List.mem_map.mp m
    have hj : j < y.2 := hj
    exact (cut_lt (Nat.lt_trans hj (ht y my))).trans (r.low y my j hj)
  · refine List.pairwise_map.mpr (r.two.imp_of_mem fun {x y} mx my q => ⟨q.1, ?_⟩)
    exact (cut_lt (ht y my)).trans q.2
  · rw [er]
    refine .of (fun v mv => ?_) fun v mv => ?_
    · obtain ⟨y, my, rfl⟩ := List.mem_map.mp mv
      refine span_cut (fun u mu => ?_) ((sm _).mp (.mem my))
      obtain ⟨a, ma, rfl⟩ := List.mem_map.mp mu
      obtain ⟨z, mz, rfl⟩ := augZ_mem ma
      obtain ⟨m1, m2⟩ := List.of_mem_zip (a := z.1) (b := z.2) mz
      rw [cut_snoc (hF _ m1).1]
      exact .mem (List.mem_map_of_mem m1)
    · obtain ⟨f, mf, rfl⟩ := List.mem_map.mp mv
      obtain ⟨i, hi, e⟩ := List.mem_iff_getElem.mp mf
      have hi2 : i < aims.length := by rw [ha.1]; exact hi
      have mz : (f, aims[i]) ∈ F.zip aims := by
        rw [List.mem_iff_getElem]
        exact ⟨i, by rw [List.length_zip]; omega, by rw [List.getElem_zip, e]⟩
      have sp : Span (rowsOf (Fin p) D) (row (Fin p) (f ++ [aims[i]])) := (sm _).mpr (.mem (List.mem_map_of_mem (augZ_of mz)))
      rw [← cut_snoc (a := aims[i]) (hF f mf).1]
      exact span_cut (fun u mu => .mem (List.mem_map_of_mem mu)) sp
  · show (((topsOf p D t).map fun x => (cut n x.1, x.2)).map fun x => x.2) = t
    rw [List.map_map]
    exact tops_zip b.len
/-- where the vector that meeting tells isn't nought -/
theorem meets_sup (p2 : 2 ≤ p) {F D E : List (List Int)} {aims x : List Int} {t : List Nat} (hF : ∀ v ∈ F, Vec p n v) (ha : Vec p F.length aims) (w : Way (Fin p) p n F D E t n) (h : Meets p n F aims (some x)) {j : Nat} (hj : j ∉ t) : row (Fin p) x j = 0 := by
  obtain ⟨_, D2, t2, b, lt, e⟩ := h
  obtain ⟨r1, s1, e1⟩ := bas_cut p2 hF ha b lt
  obtain ⟨r2, s2, e2⟩ := w.fin
  have q : Same (rows ((topsOf p D2 t2).map fun x => (cut n x.1, x.2))) (rows ((rowsOf (Fin p) D).zip t)) := by
    rw [e2]
    exact s1.trans s2.symm
  have z := rref_one r1 r2 (one_ne (p := p) (by omega)) q
  have et : t2 = t := by
    rw [← e1, z]
    exact tops_zip w.len
  rw [e]
  show ic (Fin p) ((putZ n D2 t2).getD j 0) = 0
  rw [putZ_off (by rw [et]; exact hj), ic_zero]
end
section
variable {p n o : Nat} [NeZero p] {F S W xs : List (List Int)}
theorem zip_col {f w : List Int} (h : (f, w) ∈ F.zip W) (c : Nat) : (f, w.getD c 0) ∈ F.zip (colA W c) := by
  unfold colA
  rw [List.zip_map_right]
  exact List.mem_map.mpr ⟨_, h, rfl⟩
theorem mids_dot (p0 : 0 < p) (h : Mids p n o F W xs) {f w : List Int} (m : (f, w) ∈ F.zip W) (lf : f.length = n) (lw : w.length = o) : (rowsOf (Fin p) xs).map (ip (row (Fin p) f) n) = w.map (ic (Fin p)) := by
  obtain ⟨lx, h⟩ := h
  refine List.ext_getElem (by rw [List.length_map, List.length_map, List.length_map, lx, lw]) fun c h1 h2 => ?_
  have hc : c < xs.length := by
    rw [List.length_map, List.length_map] at h1
    exact h1
  have hw : c < w.length := by omega
  rw [List.getElem_map, List.getElem_map, List.getElem_map]
  obtain ⟨⟨v, s⟩, _⟩ := h c xs[c] (List.getElem?_eq_getElem hc)
  have z := s _ (zip_col m c)
  have z2 : dotA f xs[c] % (p : Int) = w.getD c 0 := z
  rw [ip_comm, ← dot_ip lf v.1, ← cast_mod (p := p), z2, getD_lt hw]
/-- what is nought on all wanted ones is nought on the middle ones -/
theorem mids_lin (pr : Prm' p) (p2 : 2 ≤ p) (hF : ∀ v ∈ F, Vec p n v) (hW : ∀ v ∈ W, Vec p o v) (lW : W.length = F.length) (h : Mids p n o F W xs) {z : List Int} (hz : z.length = o) (k : ∀ w ∈ W, dotA w z % (p : Int) = 0) :
    ∀ r, r < n → dotA (colA xs r) z % (p : Int) = 0 := by
  have p0 : 0 < p := by omega
  obtain ⟨D, E, t, w⟩ := way_ex pr p2 hF n (Nat.le_refl n)
  have hx : ∀ x ∈ xs, ∀ j, j ∉ t → row (Fin p) x j = 0 := fun x mx j hj => by
    obtain ⟨c, hc, e⟩ := List.mem_iff_getElem.mp mx
    have q := h.2 c xs[c] (List.getElem?_eq_getElem hc)
    rw [e] at q
    refine meets_sup p2 hF ?_ w q hj
    have v := colA_vec (c := c) p0 hW
    rw [lW] at v
    exact v
  let y : Row (Fin p) := comb (rowsOf (Fin p) xs) z
  have yo : ∀ j, j ∉ t → y j = 0 := fun j hj => span_at (fun v mv => by
    obtain ⟨x, mx, rfl⟩ := List.mem_map.mp mv
    exact hx x mx j hj) (comb_span _ _)
  have yF : ∀ v ∈ rowsOf (Fin p) F, ip y n v = 0 := fun v mv => by
    obtain ⟨f, mf, rfl⟩ := List.mem_map.mp mv
    obtain ⟨i, hi, e⟩ := List.mem_iff_getElem.mp mf
    have hi2 : i < W.length := by omega
    have mz : (f, W[i]) ∈ F.zip W := by
      rw [List.mem_iff_getElem]
      exact ⟨i, by rw [List.length_zip]; omega, by rw [List.getElem_zip, e]⟩
    have mW : W[i] ∈ W := List.getElem_mem hi2
    rw [ip_comm, ip_comb, mids_dot p0 h mz (hF f mf).1 (hW _ mW).1, ← ic_dot, ← cast_mod (p := p), k _ mW, ic_zero]
  have yt : ∀ j, y j = 0 := fun j => by
    by_cases q : j ∈ t
    · obtain ⟨d, md, ed⟩ := mem_zip_snd w.len q
      have s : Span (rowsOf (Fin p) F) (row (Fin p) d.1) := (w.same _).mp (.mem (List.mem_map_of_mem (List.mem_append_left _ (List.of_mem_zip (a := d.1) (b := d.2) md).1)))
      have g := ip_span yF s
      rw [ip_top w.up.rr w.len (way_lt w) yo md, ed] at g
      exact g
    · exact yo j q
  intro r hr
  have g : ic (Fin p) (dotA z (colA xs r)) = 0 := by
    rw [dot_comb]
    exact yt r
  rw [← cast_mod (p := p)] at g
  obtain ⟨a0, a1⟩ := mod_in p0 (dotA z (colA xs r))
  rw [dotA_comm]
  exact (cast_zero (K := Fin p) a0 a1).mp g
/-- nothing on the left: each column is met -/
theorem mid_some (pr : Prm' p) (p2 : 2 ≤ p) (hF : ∀ v ∈ F, Vec p n v) (hW : ∀ v ∈ W, Vec p o v) (lW : W.length = F.length) (L : LCond p n o F W) {c : Nat} (hc : c < o) : ¬ Meets p n F (colA W c) none := by
  have p0 : 0 < p := by omega
  have hcol : Vec p F.length (colA W c) := by
    have v := colA_vec (c := c) p0 hW
    rw [lW] at v
    exact v
  intro no
  refine no ?_
  rcases bar_alt pr p2 (colsA_vec (M := n) p0 hF) hcol with q | ⟨u, hu, k, one⟩
  · obtain ⟨x, hx, e⟩ := (inS_add (colsA_vec (M := n) p0 hF)).mp q
    rw [colsA_len] at hx
    refine ⟨x, hx, fun z mz => ?_⟩
    obtain ⟨i, hi, ez⟩ := List.mem_iff_getElem.mp mz
    rw [List.getElem_zip] at ez
    have hi1 : i < F.length := by
      rw [List.length_zip] at hi
      omega
    have hi2 : i < (colA W c).length := by
      rw [List.length_zip] at hi
      omega
    have g : (addA (p : Int) (colsA F n) x F.length).getD i 0 = (colA W c).getD i 0 := by rw [e]
    rw [addA_get hi1, getD_lt hi2] at g
    rw [← ez]
    show dotA F[i] x % (p : Int) = (colA W c)[i]
    rw [← g]
    have er : colA (colsA F n) i = F[i] := by
      refine getD_ext (L := n) (by unfold colA; rw [List.length_map, colsA_len]) (hF _ (List.getElem_mem hi1)).1 fun j hj => ?_
      unfold colA colsA
      rw [List.map_map, List.getD_eq_getElem?_getD, List.getElem?_map, List.getElem?_range hj]
      show (colA F j).getD i 0 = F[i].getD j 0
      unfold colA
      rw [List.getD_eq_getElem?_getD, List.getElem?_map, List.getElem?_eq_getElem hi1]
      rfl
    rw [er, dotA_comm]
  · have z := L u ⟨hu, k⟩ c hc
    rw [dotA_comm, one] at z
    cases z
/-- nothing on the right: the middle ones are sums of the second ones -/
theorem mid_span (pr : Prm' p) (p2 : 2 ≤ p) (hF : ∀ v ∈ F, Vec p n v) (hS : ∀ v ∈ S, Vec p o v) (hW : ∀ v ∈ W, Vec p o v) (lW : W.length = F.length) (R : RCond p o S W) (h : Mids p n o F W xs) {r : Nat} (hr : r < n) : InS p o S (colA xs r) := by
  have p0 : 0 < p := by omega
  have hv : Vec p o (colA xs r) := by
    have v := colA_vec (p := p) (L := n) (c := r) p0 (T := xs) fun x mx => by
      obtain ⟨c, hc, e⟩ := List.mem_iff_getElem.mp mx
      have q := (h.2 c xs[c] (List.getElem?_eq_getElem hc)).1.1
      rw [e] at q
      exact q
    rw [h.1] at v
    exact v
  rcases bar_alt pr p2 hS hv with q | ⟨z, hz, k, one⟩
  · exact q
  · rw [mids_lin pr p2 hF hW lW h hz.1 (R z ⟨hz, k⟩) r hr] at one
    cases one
/-- what stands between is barred by nothing -/
theorem mid_left (p2 : 2 ≤ p) (hF : ∀ v ∈ F, Vec p n v) (lW : W.length = F.length) (h : Mids p n o F W xs) : LCond p n o F W := by
  have p0 : 0 < p := by omega
  intro u ⟨hu, k⟩ c hc
  have hx : c < xs.length := by rw [h.1]; exact hc
  obtain ⟨⟨v, s⟩, _⟩ := h.2 c xs[c] (List.getElem?_eq_getElem hx)
  have e : (rowsOf (Fin p) F).map (ip (row (Fin p) xs[c]) n) = (colA W c).map (ic (Fin p)) := by
    refine List.ext_getElem (by unfold colA; rw [List.length_map, List.length_map, List.length_map, List.length_map, lW]) fun i h1 h2 => ?_
    have hi : i < F.length := by
      rw [List.length_map, List.length_map] at h1
      exact h1
    have hi2 : i < (colA W c).length := by
      unfold colA
      rw [List.length_map, lW]
      exact hi
    rw [List.getElem_map, List.getElem_map, List.getElem_map, ← dot_ip (hF _ (List.getElem_mem hi)).1 v.1, ← cast_mod (p := p)]
    have mz : (F[i], (colA W c)[i]) ∈ F.zip (colA W c) := by
      rw [List.mem_iff_getElem]
      exact ⟨i, by rw [List.length_zip]; omega, by rw [List.getElem_zip]⟩
    rw [s _ mz]
  have z : ip (row (Fin p) xs[c]) n (comb (rowsOf (Fin p) F) u) = 0 := ip_none fun j hj => by
    have g : comb (rowsOf (Fin p) F) u j = 0 := by
      rw [← dot_comb, ← cast_mod (p := p), dotA_comm, k _ (List.mem_map_of_mem (List.mem_range.mpr hj)), ic_zero]
    rw [g]
    grind
  rw [ip_comb, e, ← ic_dot, ← cast_mod (p := p)] at z
  obtain ⟨a0, a1⟩ := mod_in p0 (dotA (colA W c) u)
  rw [dotA_comm]
  exact (cast_zero (K := Fin p) a0 a1).mp z
theorem mid_right (p2 : 2 ≤ p) (hF : ∀ v ∈ F, Vec p n v) (hS : ∀ v ∈ S, Vec p o v) (hW : ∀ v ∈ W, Vec p o v) (lW : W.length = F.length) (h : Mids p n o F W xs) (k : ∀ r, r < n → InS p o S (colA xs r)) : RCond p o S W := by
  have p0 : 0 < p := by omega
  intro z ⟨hz, kz⟩ w mw
  obtain ⟨i, hi, e⟩ := List.mem_iff_getElem.mp mw
  have hi2 : i < F.length := by omega
  have mz : (F[i], w) ∈ F.zip W := by
    rw [List.mem_iff_getElem]
    exact ⟨i, by rw [List.length_zip]; omega, by rw [List.getElem_zip, e]⟩
  have g : ip (row (Fin p) F[i]) n (comb (rowsOf (Fin p) xs) z) = 0 := ip_none fun j hj => by
    have hv := (k j hj).vec p0 hS
    have g : comb (rowsOf (Fin p) xs) z j = 0 := by
      rw [← dot_comb, ← cast_mod (p := p), dotA_comm, bar_not p2 hS hv hz.1 kz (k j hj), ic_zero]
    rw [g]
    grind
  rw [ip_comb, mids_dot p0 h mz (hF _ (List.getElem_mem hi2)).1 (hW w mw).1, ← ic_dot, ← cast_mod (p := p)] at g
  obtain ⟨a0, a1⟩ := mod_in p0 (dotA w z)
  exact (cast_zero (K := Fin p) a0 a1).mp g
/-- the left and the right, asked of what spans them -/
theorem left_basis (p2 : 2 ≤ p) {B T : List (List Int)} (hW : ∀ v ∈ W, Vec p o v) (lW : W.length = F.length) (hB : ∀ xs, InS p F.length B xs ↔ Ker p F.length (colsA F n) xs) (vB : ∀ b ∈ B, Vec p F.length b)
    (h : ∀ b ∈ B, ∀ c, c < o → dotA b (colA W c) % (p : Int) = 0) : LCond p n o F W := by
  have p0 : 0 < p := by omega
  intro u hu c hc
  have hv : Vec p F.length (colA W c) := by
    have v := colA_vec (c := c) p0 hW
    rw [lW] at v
    exact v
  exact bar_not p2 vB hu.1 hv.1 (fun b mb => h b mb c hc) ((hB u).mpr hu)
theorem right_basis (p2 : 2 ≤ p) {B : List (List Int)} (hW : ∀ v ∈ W, Vec p o v) (hB : ∀ xs, InS p o B xs ↔ Ker p o S xs) (vB : ∀ b ∈ B, Vec p o b)
    (h : ∀ b ∈ B, ∀ w ∈ W, dotA w b % (p : Int) = 0) : RCond p o S W := by
  intro z hz w mw
  rw [dotA_comm]
  exact bar_not p2 vB hz.1 (hW w mw).1 (fun b mb => by rw [dotA_comm]; exact h b mb w mw) ((hB z).mpr hz)
end
end LinA

set_option Elab.async false
set_option linter.all false
/-! LinN: as many factors that make noughts as the rank leaves. -/
namespace LinA
open Lean.Grind
theorem len_sub {α : Type} [BEq α] [LawfulBEq α] : ∀ {A C : List α}, A.Nodup → (∀ a ∈ A, a ∈ C) → A.length ≤ C.length
  | [], _, _, _ => Nat.zero_le _
  | a :: A, C, h, k => by
    obtain ⟨n1, n2⟩ := List.nodup_cons.mp h
    have m := k a List.mem_cons_self
    have z := len_sub (A := A) (C := C.erase a) n2 fun x mx => (List.mem_erase_of_ne (fun e => n1 (by rw [← e]; exact mx))).mpr (k x (List.mem_cons_of_mem _ mx))
    rw [List.length_erase_of_mem m] at z
    have := List.length_pos_of_mem m
    show A.length + 1 ≤ C.length
    omega
section
variable {p L n : Nat}
theorem span_ge (p1 : 1 < p) {U : List (List Int)} (h : ∀ x, Vec p n x → InS p n U x) : n ≤ U.length := by
  have z := len_sub (A := allZ p n) (C := (allZ p U.length).map (sumZ p n U)) (allZ_nodup n) fun x m => by
    obtain ⟨fs, hf, e⟩ := h x (allZ_mem.mp m)
    exact List.mem_map.mpr ⟨fs, allZ_mem.mpr hf, e.symm⟩
  rw [List.length_map, allZ_len, allZ_len] at z
  exact (Nat.pow_le_pow_iff_right p1).mp z
theorem free_le (p1 : 1 < p) {U : List (List Int)} (hU : ∀ u ∈ U, Vec p n u) (h : ∀ fs gs, Vec p U.length fs → Vec p U.length gs → sumZ p n U fs = sumZ p n U gs → fs = gs) : U.length ≤ n := by
  have z := len_sub (A := (allZ p U.length).map (sumZ p n U)) (C := allZ p n) (List.pairwise_map.mpr ((allZ_nodup U.length).imp_of_mem fun {a b} ma mb q e => q (h a b (allZ_mem.mp ma) (allZ_mem.mp mb) e))) fun x m => by
    obtain ⟨fs, mf, rfl⟩ := List.mem_map.mp m
    exact allZ_mem.mpr (sumZ_vec (by omega) hU)
  rw [List.length_map, allZ_len, allZ_len] at z
  exact (Nat.pow_le_pow_iff_right p1).mp z
/-- the factors of a basis are told by the sum -/
theorem Bas.inj (p1 : 1 < p) {T B : List (List Int)} {t : List Nat} (h : Bas p L T B t) {cs ds : List Int} (hc : Vec p B.length cs) (hd : Vec p B.length ds) (e : sumZ p L B cs = sumZ p L B ds) : cs = ds := by
  haveI : NeZero p := ⟨by omega⟩
  have p0 : 0 < p := by omega
  have r := h.rref
  have key : ∀ cs, Vec p B.length cs → t.map (fun c => (sumZ p L B cs).getD c 0) = cs := fun cs hcs => by
    obtain ⟨l, hc⟩ := hcs
    have z := (comb_tops (B := B) (t := t) (cs := cs) r.two r.one r.low h.len (by rw [l, h.len])).1
    rw [← sumZ_row p0 h.vec (by rw [l])] at z
    refine List.ext_getElem (by rw [List.length_map, l, h.len]) fun i h1 h2 => ?_
    have z2 : (t.map (row (Fin p) (sumZ p L B cs)))[i]? = (cs.map (ic (Fin p)))[i]? := by rw [z]
    have it : i < t.length := by
      rw [List.length_map] at h1
      exact h1
    rw [List.getElem?_map, List.getElem?_map, List.getElem?_eq_getElem h2, List.getElem?_eq_getElem (by rw [List.length_map] at h1; exact h1)] at z2
    have z3 : ic (Fin p) ((sumZ p L B cs).getD t[i] 0) = ic (Fin p) cs[i] := Option.some.inj z2
    obtain ⟨a0, a1⟩ := vec_at (sumZ_vec p0 h.vec (fs := cs)) p0 (t[i]'it)
    obtain ⟨b0, b1⟩ := hc _ (List.getElem_mem h2)
    rw [List.getElem_map]
    exact cast_eq (K := Fin p) z3 a0 a1 b0 b1
  rw [← key cs hc, ← key ds hd, e]
theorem comb_append {K : Type} [CommRing K] : ∀ {A B : List (Row K)} {c d : List Int}, A.length = c.length → comb (A ++ B) (c ++ d) = ax 1 (comb A c) (comb B d)
  | [], B, [], d, _ => by
    funext j
    show comb B d j = 1 * 0 + comb B d j
    grind
  | a :: A, B, c :: cs, d, h => by
    show ax (ic K c) a (comb (A ++ B) (cs ++ d)) = ax 1 (ax (ic K c) a (comb A cs)) (comb B d)
    rw [comb_append (Nat.succ.inj h)]
    funext j
    show ic K c * a j + (1 * comb A cs j + comb B d j) = 1 * (ic K c * a j + comb A cs j) + comb B d j
    grind
theorem csum_comb {K : Type} [CommRing K] (j : Nat) : ∀ (vs : List (Row K)) (cs : List Int), csum (vs.map fun v => v j) cs = comb vs cs j
  | [], cs => by cases cs <;> rfl
  | v :: vs, [] => rfl
  | v :: vs, c :: cs => by
    show ic K c * v j + csum (vs.map fun v => v j) cs = ic K c * v j + comb vs cs j
    rw [csum_comb j vs cs]
/-- what factors make, place by place -/
theorem comb_ip [NeZero p] {T : List (List Int)} {x : List Int} (lx : x.length = T.length) (j : Nat) : comb (rowsOf (Fin p) T) x j = ip (row (Fin p) (colA T j)) T.length (row (Fin p) x) := by
  rw [← dot_comb, dot_ip lx (by unfold colA; rw [List.length_map])]
theorem vec_mem {T : List (List Int)} {j : Nat} (h : j < L) : colA T j ∈ colsA T L := List.mem_map_of_mem (List.mem_range.mpr h)
theorem nullity (p1 : 1 < p) {T B F H : List (List Int)} {t s : List Nat} (hT : ∀ v ∈ T, Vec p L v) (b : Bas p L T B t) (k : Bas p T.length F H s) (e : ∀ xs, InS p T.length F xs ↔ Ker p T.length (colsA T L) xs) : H.length + B.length = T.length := by
  haveI : NeZero p := ⟨by omega⟩
  have p0 : 0 < p := by omega
  have hc : ∀ v ∈ colsA T L, Vec p T.length v := colsA_vec p0 hT
  have lift0 : ∀ v, ∃ l, v ∈ B → Vec p T.length l ∧ addA (p : Int) T l L = v := fun v => by
    by_cases m : v ∈ B
    · obtain ⟨l, h1, h2⟩ := (inS_add hT).mp ((b.same v).mp (inS_mem b.vec m))
      exact ⟨l, fun _ => ⟨h1, h2⟩⟩
    · exact ⟨[], fun q => absurd q m⟩
  let lift : List Int → List Int := fun v => Classical.choose (lift0 v)
  have hl : ∀ v ∈ B, Vec p T.length (lift v) ∧ addA (p : Int) T (lift v) L = v := fun v m => Classical.choose_spec (lift0 v) m
  have hk : ∀ h ∈ H, Ker p T.length (colsA T L) h := fun h m => (e h).mp ((k.same h).mp (inS_mem k.vec m))
  have hLs : ∀ u ∈ B.map lift, Vec p T.length u := fun u m => by
    obtain ⟨v, mv, rfl⟩ := List.mem_map.mp m
    exact (hl v mv).1
  have hU : ∀ u ∈ H ++ B.map lift, Vec p T.length u := fun u m => (List.mem_append.mp m).elim (k.vec u) (hLs u)
  -- what the ones of H make, what the lifted ones make
  have A : ∀ j, j < L → ∀ h ∈ H, ip (row (Fin p) (colA T j)) T.length (row (Fin p) h) = 0 := fun j hj h m => by
    obtain ⟨hv, z⟩ := hk h m
    rw [ip_comm]
    exact (ker_ip hc hv.1).mp z _ (List.mem_map_of_mem (vec_mem hj))
  have Bp : ∀ j, j < L → ∀ v ∈ B, ip (row (Fin p) (colA T j)) T.length (row (Fin p) (lift v)) = row (Fin p) v j := fun j hj v m => by
    obtain ⟨h1, h2⟩ := hl v m
    rw [← comb_ip h1.1, ← add_row hT, h2]
  have LsP : ∀ j, j < L → ∀ d : List Int, ip (row (Fin p) (colA T j)) T.length (comb (rowsOf (Fin p) (B.map lift)) d) = comb (rowsOf (Fin p) B) d j := fun j hj d => by
    rw [ip_comb, ← csum_comb]
    congr 1
    rw [List.map_map, List.map_map, List.map_map]
    exact List.map_congr_left fun v m => Bp j hj v m
  have HP : ∀ j, j < L → ∀ c : List Int, ip (row (Fin p) (colA T j)) T.length (comb (rowsOf (Fin p) H) c) = 0 := fun j hj c => by
    rw [ip_comb]
    refine csum_none fun q m => ?_
    rw [List.map_map] at m
    obtain ⟨h, mh, rfl⟩ := List.mem_map.mp m
    exact A j hj h mh
  have one : (H ++ B.map lift).length ≤ T.length := by
    refine free_le p1 hU fun fs gs hf hg q => ?_
    have ll : (H ++ B.map lift).length = H.length + B.length := by rw [List.length_append, List.length_map]
    rw [ll] at hf hg
    have parts : ∀ fs, Vec p (H.length + B.length) fs → ∃ c d, fs = c ++ d ∧ Vec p H.length c ∧ Vec p B.length d := fun fs hf => ⟨fs.take H.length, fs.drop H.length, (List.take_append_drop _ _).symm, ⟨by rw [List.length_take, hf.1]; omega, fun x m => hf.2 x (List.mem_of_mem_take m)⟩, ⟨by rw [List.length_drop, hf.1]; omega, fun x m => hf.2 x (List.mem_of_mem_drop m)⟩⟩
    obtain ⟨c, d, rfl, vc, vd⟩ := parts fs hf
    obtain ⟨c', d', rfl, vc', vd'⟩ := parts gs hg
    have q := congrArg (row (Fin p)) q
    rw [sumZ_row p0 hU (by rw [ll, hf.1]), sumZ_row p0 hU (by rw [ll, hg.1])] at q
    have cat : ∀ {c d : List Int}, c.length = H.length → comb (rowsOf (Fin p) (H ++ B.map lift)) (c ++ d) = ax 1 (comb (rowsOf (Fin p) H) c) (comb (rowsOf (Fin p) (B.map lift)) d) := fun l => by
      show comb ((H ++ B.map lift).map (row (Fin p))) _ = _
      rw [List.map_append]
      exact comb_append (by rw [List.length_map, l])
    rw [cat vc.1, cat vc'.1] at q
    have ed : d = d' := by
      refine b.inj p1 vd vd' (row_eq (K := Fin p) (sumZ_vec p0 b.vec) (sumZ_vec p0 b.vec) ?_)
      rw [sumZ_row p0 b.vec vd.1.symm, sumZ_row p0 b.vec vd'.1.symm]
      funext j
      by_cases hj : j < L
      · have z := congrArg (ip (row (Fin p) (colA T j)) T.length) q
        rw [ip_ax, ip_ax, HP j hj, HP j hj, LsP j hj, LsP j hj] at z
        have z : (1 : Fin p) * 0 + comb (rowsOf (Fin p) B) d j = 1 * 0 + comb (rowsOf (Fin p) B) d' j := z
        grind
      · rw [comb_ge b.vec d (by omega), comb_ge b.vec d' (by omega)]
    subst ed
    have ec : c = c' := by
      refine k.inj p1 vc vc' (row_eq (K := Fin p) (sumZ_vec p0 k.vec) (sumZ_vec p0 k.vec) ?_)
      rw [sumZ_row p0 k.vec vc.1.symm, sumZ_row p0 k.vec vc'.1.symm]
      funext j
      have z : (1 : Fin p) * comb (rowsOf (Fin p) H) c j + comb (rowsOf (Fin p) (B.map lift)) d j = 1 * comb (rowsOf (Fin p) H) c' j + comb (rowsOf (Fin p) (B.map lift)) d j := congrFun q j
      grind
    rw [ec]
  have two : T.length ≤ (H ++ B.map lift).length := by
    refine span_ge p1 fun x hx => ?_
    obtain ⟨d, vd, ey⟩ := (b.same (addA (p : Int) T x L)).mpr ((inS_add hT).mpr ⟨x, hx, rfl⟩)
    have vl : Vec p T.length (sumZ p T.length (B.map lift) d) := sumZ_vec p0 hLs
    have rl := sumZ_row (K := Fin p) p0 hLs (fs := d) (by rw [List.length_map, vd.1])
    have ry := congrArg (row (Fin p)) ey
    rw [add_row hT, sumZ_row p0 b.vec vd.1.symm] at ry
    generalize hz : addF p x (sumZ p T.length (B.map lift) d, -1) = z
    have vz : Vec p T.length z := by
      rw [← hz]
      exact vec_zip p0 (h := fun a b => a + -1 * b) hx.1 vl.1
    have rz : row (Fin p) z = ax (ic (Fin p) (-1)) (row (Fin p) (sumZ p T.length (B.map lift) d)) (row (Fin p) x) := by
      rw [← hz]
      refine row_zip (f := -1) (fun a b => ?_) (by rw [hx.1, vl.1])
      show ic (Fin p) ((a + -1 * b) % (p : Int)) = _
      rw [cast_mod, ic_add, ic_mul]
      grind
    have kz : Ker p T.length (colsA T L) z := by
      refine ⟨vz, (ker_ip hc vz.1).mpr fun v mv => ?_⟩
      obtain ⟨v0, m0, rfl⟩ := List.mem_map.mp mv
      obtain ⟨j, mj, rfl⟩ := List.mem_map.mp m0
      have hj := List.mem_range.mp mj
      rw [ip_comm, rz, ip_ax, rl, LsP j hj, ← comb_ip hx.1, ry, ic_neg, ic_one]
      grind
    have sz := ((inS_iff k.vec).mp ((k.same z).mpr ((e z).mpr kz))).2
    refine (inS_iff hU).mpr ⟨hx, ?_⟩
    have ex : row (Fin p) x = ax 1 (row (Fin p) (sumZ p T.length (B.map lift) d)) (row (Fin p) z) := by
      rw [rz]
      funext j
      show row (Fin p) x j = 1 * row (Fin p) (sumZ p T.length (B.map lift) d) j + (ic (Fin p) (-1) * row (Fin p) (sumZ p T.length (B.map lift) d) j + row (Fin p) x j)
      rw [ic_neg, ic_one]
      grind
    have em : rowsOf (Fin p) (H ++ B.map lift) = rowsOf (Fin p) H ++ rowsOf (Fin p) (B.map lift) := List.map_append
    rw [ex, em]
    refine .ax 1 ?_ (sz.mono fun v m => List.mem_append_left _ m)
    rw [rl]
    exact (comb_span _ _).mono fun v m => List.mem_append_right _ m
  rw [List.length_append, List.length_map] at one two
  omega
end
end LinA

set_option Elab.async false
set_option linter.all false
/-! LinB: what comes of first ones, middle ones and second ones; where none come, something bars them. -/
namespace LinA
open Lean.Grind
section
variable {p n m o : Nat} {F S M W : List (List Int)}
def comesA (p o m : Nat) (F S M : List (List Int)) : List (List Int) := F.map fun r => addA (p : Int) S (addA (p : Int) M r m) o
theorem colA_get {T : List (List Int)} {c i : Nat} (h : i < T.length) : (colA T c).getD i 0 = (T.getD i []).getD c 0 := by
  unfold colA
  rw [List.getD_eq_getElem?_getD, List.getElem?_map, List.getD_eq_getElem?_getD (l := T), List.getElem?_eq_getElem h]
  rfl
theorem left_sol (p0 : 0 < p) (hF : ∀ v ∈ F, Vec p n v) (lW : W.length = F.length) {c : Nat} {x : List Int} (v : Vec p n x) (s : ∀ z ∈ F.zip (colA W c), dotA z.1 x % (p : Int) = z.2) {u : List Int} (k : Ker p F.length (colsA F n) u) : dotA u (colA W c) % (p : Int) = 0 := by
  haveI : NeZero p := ⟨by omega⟩
  obtain ⟨hu, k⟩ := k
  have e : (rowsOf (Fin p) F).map (ip (row (Fin p) x) n) = (colA W c).map (ic (Fin p)) := by
    refine List.ext_getElem (by unfold colA; rw [List.length_map, List.length_map, List.length_map, List.length_map, lW]) fun i h1 h2 => ?_
    have hi : i < F.length := by
      rw [List.length_map, List.length_map] at h1
      exact h1
    have hi2 : i < (colA W c).length := by
      unfold colA
      rw [List.length_map, lW]
      exact hi
    rw [List.getElem_map, List.getElem_map, List.getElem_map, ← dot_ip (hF _ (List.getElem_mem hi)).1 v.1, ← cast_mod (p := p)]
    have mz : (F[i], (colA W c)[i]) ∈ F.zip (colA W c) := by
      rw [List.mem_iff_getElem]
      exact ⟨i, by rw [List.length_zip]; omega, by rw [List.getElem_zip]⟩
    rw [s _ mz]
  have z : ip (row (Fin p) x) n (comb (rowsOf (Fin p) F) u) = 0 := ip_none fun j hj => by
    have g : comb (rowsOf (Fin p) F) u j = 0 := by
      rw [← dot_comb, ← cast_mod (p := p), dotA_comm, k _ (List.mem_map_of_mem (List.mem_range.mpr hj)), ic_zero]
    rw [g]
    grind
  rw [ip_comb, e, ← ic_dot, ← cast_mod (p := p)] at z
  obtain ⟨a0, a1⟩ := mod_in p0 (dotA (colA W c) u)
  rw [dotA_comm]
  exact (cast_zero (K := Fin p) a0 a1).mp z
/-- the middle ones led over the second ones first -/
theorem add_assoc (p0 : 0 < p) (hS : ∀ v ∈ S, Vec p o v) (hM : ∀ v ∈ M, Vec p S.length v) {r : List Int} : addA (p : Int) S (addA (p : Int) M r S.length) o = addA (p : Int) (M.map fun v => addA (p : Int) S v o) r o := by
  haveI : NeZero p := ⟨by omega⟩
  have hN : ∀ v ∈ M.map (fun v => addA (p : Int) S v o), Vec p o v := fun v mv => by
    obtain ⟨y, _, rfl⟩ := List.mem_map.mp mv
    exact addA_vec p0 S y
  refine row_eq (K := Fin p) (addA_vec p0 _ _) (addA_vec p0 _ _) ?_
  rw [add_row hS, add_row hN]
  funext j
  rw [comb_ip (addA_vec p0 M r).1, add_row hM, ip_comb, ← csum_comb]
  congr 1
  rw [List.map_map, List.map_map, List.map_map]
  refine List.map_congr_left fun v mv => ?_
  show ip (row (Fin p) (colA S j)) S.length (row (Fin p) v) = row (Fin p) (addA (p : Int) S v o) j
  rw [add_row hS, comb_ip (hM v mv).1]
theorem comes_cond (p2 : 2 ≤ p) (hF : ∀ v ∈ F, Vec p n v) (hS : ∀ v ∈ S, Vec p o v) (hM : ∀ v ∈ M, Vec p S.length v) (lM : M.length = n) (h : comesA p o S.length F S M = W) : LCond p n o F W ∧ RCond p o S W := by
  have p0 : 0 < p := by omega
  haveI : NeZero p := ⟨by omega⟩
  have hN : ∀ v ∈ M.map (fun v => addA (p : Int) S v o), Vec p o v := fun v mv => by
    obtain ⟨y, _, rfl⟩ := List.mem_map.mp mv
    exact addA_vec p0 S y
  have eW : W = F.map fun r => addA (p : Int) (M.map fun v => addA (p : Int) S v o) r o := by
    rw [← h]
    exact List.map_congr_left fun r _ => add_assoc p0 hS hM
  constructor
  · intro u k c hc
    have vc : Vec p n (colA (M.map fun v => addA (p : Int) S v o) c) := by
      have z := colA_vec (c := c) p0 hN
      rw [List.length_map, lM] at z
      exact z
    refine left_sol p0 hF (by rw [eW, List.length_map]) vc (fun z mz => ?_) k
    obtain ⟨i, hi, e⟩ := List.mem_iff_getElem.mp mz
    rw [List.getElem_zip] at e
    rw [← e]
    have hi2 : i < F.length := by
      rw [List.length_zip] at hi
      omega
    show dotA F[i] _ % (p : Int) = (colA W c)[i]'_
    rw [← getD_lt, colA_get (by rw [eW, List.length_map]; exact hi2), eW, List.getD_eq_getElem?_getD (l := List.map _ F), List.getElem?_map, List.getElem?_eq_getElem hi2]
    show _ = (addA (p : Int) _ F[i] o).getD c 0
    rw [addA_get hc]
  · intro z ⟨hz, kz⟩ w mw
    rw [← h] at mw
    obtain ⟨r, _, rfl⟩ := List.mem_map.mp mw
    exact bar_not p2 hS (addA_vec p0 _ _) hz.1 kz ((inS_add hS).mpr ⟨_, addA_vec p0 M r, rfl⟩)
/-- what between tells comes -/
theorem comes_of (p2 : 2 ≤ p) (hF : ∀ v ∈ F, Vec p n v) (hS : ∀ v ∈ S, Vec p o v) (hW : ∀ v ∈ W, Vec p o v) (lW : W.length = F.length) {xs : List (List Int)} (h : Mids p n o F W xs) (lM : M.length = n)
    (k : ∀ r x, M[r]? = some x → Meets p S.length (colsA S o) (colA xs r) (some x)) : (∀ v ∈ M, Vec p S.length v) ∧ comesA p o S.length F S M = W := by
  have p0 : 0 < p := by omega
  haveI : NeZero p := ⟨by omega⟩
  have hx : ∀ x ∈ xs, Vec p n x := fun x mx => by
    obtain ⟨c, hc, e⟩ := List.mem_iff_getElem.mp mx
    have q := (h.2 c xs[c] (List.getElem?_eq_getElem hc)).1.1
    rw [e] at q
    exact q
  have hcol : ∀ r, Vec p o (colA xs r) := fun r => by
    have z := colA_vec (c := r) p0 hx
    rw [h.1] at z
    exact z
  have hM : ∀ r y, M[r]? = some y → Vec p S.length y ∧ addA (p : Int) S y o = colA xs r := fun r y e => (sol_cols p0 (hcol r)).mp (k r y e).1
  have vM : ∀ v ∈ M, Vec p S.length v := fun v mv => by
    obtain ⟨i, hi, e⟩ := List.mem_iff_getElem.mp mv
    exact (hM i v (by rw [List.getElem?_eq_getElem hi, e])).1
  refine ⟨vM, ?_⟩
  unfold comesA
  refine List.ext_getElem (by rw [List.length_map, lW]) fun i h1 h2 => ?_
  have hi : i < F.length := by omega
  rw [List.getElem_map, add_assoc p0 hS vM]
  have vw := hW _ (List.getElem_mem h2)
  refine getD_ext (L := o) (addA_vec p0 _ _).1 vw.1 fun c hc => ?_
  rw [addA_get hc]
  have hxc : c < xs.length := by rw [h.1]; exact hc
  have ec : colA (M.map fun v => addA (p : Int) S v o) c = xs[c] := by
    have vx := hx _ (List.getElem_mem hxc)
    refine getD_ext (L := n) (by unfold colA; rw [List.length_map, List.length_map, lM]) vx.1 fun r hr => ?_
    rw [colA_get (by rw [List.length_map, lM]; exact hr), List.getD_eq_getElem?_getD (l := List.map _ M), List.getElem?_map]
    have hrM : r < M.length := by rw [lM]; exact hr
    rw [List.getElem?_eq_getElem hrM]
    show (addA (p : Int) S M[r] o).getD c 0 = _
    rw [(hM r M[r] (List.getElem?_eq_getElem hrM)).2, colA_get hxc, List.getD_eq_getElem?_getD (l := xs), List.getElem?_eq_getElem hxc]
    rfl
  rw [ec]
  have s := (h.2 c xs[c] (List.getElem?_eq_getElem hxc)).1.2
  have lc : i < (colA W c).length := by
    unfold colA
    rw [List.length_map]
    exact h2
  have mz : (F[i], (colA W c)[i]) ∈ F.zip (colA W c) := by
    rw [List.mem_iff_getElem]
    exact ⟨i, by rw [List.length_zip]; omega, by rw [List.getElem_zip]⟩
  have z := s _ mz
  have z : dotA F[i] xs[c] % (p : Int) = (colA W c)[i] := z
  rw [z, ← getD_lt, colA_get h2, List.getD_eq_getElem?_getD (l := W), List.getElem?_eq_getElem h2]
  rfl
/-- between tells the same each time -/
theorem mids_uniq (p1 : 1 < p) {xs ys : List (List Int)} (h : Mids p n o F W xs) (k : Mids p n o F W ys) : xs = ys := by
  refine List.ext_getElem (by rw [h.1, k.1]) fun c h1 h2 => ?_
  have z := Meets.uniq p1 (h.2 c xs[c] (List.getElem?_eq_getElem h1)) (k.2 c ys[c] (List.getElem?_eq_getElem h2))
  exact Option.some.inj z
theorem mid_uniq (p1 : 1 < p) {M N xs : List (List Int)} (lM : M.length = n) (lN : N.length = n) (h : ∀ r x, M[r]? = some x → Meets p S.length (colsA S o) (colA xs r) (some x)) (k : ∀ r x, N[r]? = some x → Meets p S.length (colsA S o) (colA xs r) (some x)) : M = N := by
  refine List.ext_getElem (by rw [lM, lN]) fun r h1 h2 => ?_
  exact Option.some.inj (Meets.uniq p1 (h r M[r] (List.getElem?_eq_getElem h1)) (k r N[r] (List.getElem?_eq_getElem h2)))
end
end LinA

set_option Elab.async false
set_option linter.all false
set_option maxRecDepth 100000
set_option maxHeartbeats 4000000
/-! Vb, part 6: the inverse. -/
namespace L2
namespace Vb
open PySem PySem.Spec PyProof.Rows
def spInvOf : Sp := fun vs H Q _ => ∃ p a : Nat, vs = [.int (p : Int), .int (a : Int)] ∧ 2 ≤ p ∧ p ≤ 65537 ∧ Prm p ∧ 0 < a ∧ a < p ∧ ∀ H', Same H H' → Q (.int ((a ^ (p - 2) % p : Nat) : Int)) H'
theorem inv_pow {p a : Nat} (pr : Prm p) (p2 : 2 ≤ p) (a0 : 0 < a) (ap : a < p) : ((a ^ (p - 2) % p : Nat) : Int) * (a : Int) % (p : Int) = 1 := by
  have f := LinA.fermat pr p2 a0 ap
  have z : a ^ (p - 2) % p * a % p = 1 := by
    rw [Nat.mul_mod, Nat.mod_mod, ← Nat.mul_mod, ← Nat.pow_succ]
    have e2 : (p - 2).succ = p - 1 := by omega
    rw [e2]
    exact f
  rw [← Int.natCast_mul, ← Int.natCast_emod, z]
  rfl
theorem eu_end {p a g l : Nat} {k f : Int} (pr : Prm p) (p2 : 2 ≤ p) (a0 : 0 < a) (ap : a < p) (h : LinA.Eu p a g l k f) (l1 : ¬ 1 < l) : f % (p : Int) = ((a ^ (p - 2) % p : Nat) : Int) := by
  have z := LinA.inv_uniq (LinA.cop pr a0 ap) p2 (h.fin p2 l1) (inv_pow pr p2 a0 ap)
  rw [z]
  have lt : a ^ (p - 2) % p < p := Nat.mod_lt _ (by omega)
  exact Int.emod_eq_of_lt (by omega) (by omega)
section
variable {P : Program} {w : World} {K : PySem.W.Frag} {mg : Str → Option Value} {base : Heap}
abbrev nInvOf : List Str := ["prime", "number", "greater", "less", "known", "found", "times"]
end
end Vb
end L2

set_option Elab.async false
set_option linter.all false
set_option maxRecDepth 100000
set_option maxHeartbeats 4000000
/-! Vb, part 8: the next row with a number at a place. -/
namespace L2
namespace Vb
open PySem PySem.Spec PyProof.Rows
/-- the number of row i at place c -/
abbrev at_ (T : List (List Int)) (i c : Nat) : Int := (T.getD i []).getD c 0
def spPivot : Sp := fun vs H Q _ => ∃ (m : Addr) (s c L : Nat) (as : List Addr) (T : List (List Int)) (p : Int), vs = [.ref m, .int (s : Int), .int (c : Int)] ∧ H m = some (.lst (as.map V.ref)) ∧ Rws H as T ∧ (∀ xs ∈ T, Vc p L xs) ∧ c < L ∧ s ≤ T.length ∧ T.length ≤ 1000 ∧
  (∀ i, s ≤ i → i < T.length → at_ T i c ≠ 0 → (∀ j, s ≤ j → j < i → at_ T j c = 0) → Q (.int (i : Int)) H) ∧ ((∀ j, s ≤ j → j < T.length → at_ T j c = 0) → Q .non H)
section
variable {P : Program} {w : World} {K : PySem.W.Frag} {mg : Str → Option Value} {base : Heap}
end
end Vb
end L2

set_option Elab.async false
set_option linter.all false
set_option maxRecDepth 100000
set_option maxHeartbeats 4000000
/-! Vb, part 9b: lists of new rows that grow. -/
namespace L2
namespace Vb
open PySem PySem.Spec PyProof.Rows
theorem paired_snoc {α β : Type} {R : α → β → Prop} {as : List α} {bs : List β} {a : α} {b : β} (h : Paired R as bs) (r : R a b) : Paired R (as ++ [a]) (bs ++ [b]) := by
  induction h with
  | nil => exact .cons r .nil
  | cons p _ ih => exact .cons p ih
theorem cut_take (xs : List V) (n : Nat) : cutV xs none (some (n : Int)) = xs.take n := by
  unfold cutV
  rw [HT.sIx_none, HT.sIx_nat, List.drop_zero, Nat.sub_zero]
  rcases Nat.le_total n xs.length with h | h
  · rw [Nat.min_eq_left h]
  · rw [Nat.min_eq_right h, List.take_length, List.take_of_length_le h]
theorem rws_up {H H' : Hp} {as : List Addr} {T : List (List Int)} (h : Rws H as T) (s : Same H H') : Rws H' as T := h.mono fun b _ o e => s _ _ e
/-- at D stands a new list of new rows, the first k of T -/
def Grow (H : Hp) (D : Addr) (T : List (List Int)) (k : Nat) (H' : Hp) : Prop := Same H H' ∧ ∃ cs : List Addr, cs.length = k ∧ H' D = some (.lst (cs.map V.ref)) ∧ Rws H' cs (T.take k) ∧ (∀ b ∈ cs, b ≠ D) ∧ ∀ b ∈ cs, H b = none
theorem Grow.start {H : Hp} {D : Addr} {T : List (List Int)} (h : H D = none) : Grow H D T 0 (upd H D (.lst [])) := ⟨same_new h, [], rfl, upd_same, .nil, fun b z => (List.not_mem_nil z).elim, fun b z => (List.not_mem_nil z).elim⟩
theorem Grow.step {H H1 H2 : Hp} {D d : Addr} {T : List (List Int)} {k : Nat} {row : List Int} (hD : H D = none) (g : Grow H D T k H1) (s : Same H1 H2) (nd : H1 d = none) (hd : Rw H2 d row) (ht : T[k]? = some row) :
    ∃ acc, H2 D = some (.lst acc) ∧ acc.length = k ∧ Grow H D T (k + 1) (upd H2 D (.lst (acc ++ [.ref d]))) := by
  obtain ⟨sm, cs, lc, h1, h2, h3, h4⟩ := g
  have ne : d ≠ D := fun e => by
    rw [e, h1] at nd
    cases nd
  have st : ∀ b, b ≠ D → ∀ o, H2 b = some o → upd H2 D (.lst (cs.map V.ref ++ [V.ref d])) b = some o := fun b n o e => (upd_ne n).trans e
  refine ⟨_, s _ _ h1, by rw [List.length_map, lc], same_set (same_trans sm s) hD, cs ++ [d], by rw [List.length_append, lc]; rfl, ?_, ?_, fun b m => ?_, fun b m => ?_⟩
  · rw [upd_same, List.map_append]
    rfl
  · rw [List.take_succ, ht]
    exact paired_snoc ((h2.mono fun b _ o e => s _ _ e).mono fun b m o e => st b (h3 b m) o e) (st d ne _ hd)
  · rcases List.mem_append.mp m with q | q
    · exact h3 b q
    · rw [List.mem_singleton.mp q]
      exact ne
  · rcases List.mem_append.mp m with q | q
    · exact h4 b q
    · rw [List.mem_singleton.mp q]
      exact sm.free nd
theorem Grow.done {H H' : Hp} {D : Addr} {T : List (List Int)} {k : Nat} (g : Grow H D T k H') (h : T.length ≤ k) : Same H H' ∧ ∃ cs : List Addr, H' D = some (.lst (cs.map V.ref)) ∧ Rws H' cs T ∧ (∀ b ∈ cs, H b = none) ∧ cs.length = T.length := by
  obtain ⟨sm, cs, lc, h1, h2, h3, h4⟩ := g
  rw [List.take_of_length_le h] at h2
  exact ⟨sm, cs, h1, h2, h4, h2.len⟩
/-- .. a list of numbers -/
def GrowI (H : Hp) (D : Addr) (xs : List Int) (k : Nat) (H' : Hp) : Prop := Same H H' ∧ H' D = some (.lst ((xs.take k).map V.int))
theorem GrowI.start {H : Hp} {D : Addr} {xs : List Int} (h : H D = none) : GrowI H D xs 0 (upd H D (.lst [])) := ⟨same_new h, upd_same⟩
theorem GrowI.step {H H1 H2 : Hp} {D : Addr} {xs : List Int} {k : Nat} {x : Int} (hD : H D = none) (g : GrowI H D xs k H1) (s : Same H1 H2) (ht : xs[k]? = some x) :
    ∃ acc, H2 D = some (.lst acc) ∧ acc.length ≤ k ∧ GrowI H D xs (k + 1) (upd H2 D (.lst (acc ++ [.int x]))) := by
  obtain ⟨sm, h1⟩ := g
  refine ⟨_, s _ _ h1, by rw [List.length_map, List.length_take]; omega, same_set (same_trans sm s) hD, ?_⟩
  rw [upd_same, List.take_succ, ht, List.map_append]
  rfl
theorem GrowI.done {H H' : Hp} {D : Addr} {xs : List Int} {k : Nat} (g : GrowI H D xs k H') (h : xs.length ≤ k) : Same H H' ∧ H' D = some (.lst (xs.map V.int)) := by
  obtain ⟨sm, h1⟩ := g
  rw [List.take_of_length_le h] at h1
  exact ⟨sm, h1⟩
/-- .. a list of truths -/
def GrowB (H : Hp) (D : Addr) (xs : List Bool) (k : Nat) (H' : Hp) : Prop := Same H H' ∧ H' D = some (.lst ((xs.take k).map V.bl))
theorem GrowB.start {H : Hp} {D : Addr} {xs : List Bool} (h : H D = none) : GrowB H D xs 0 (upd H D (.lst [])) := ⟨same_new h, upd_same⟩
theorem GrowB.step {H H1 H2 : Hp} {D : Addr} {xs : List Bool} {k : Nat} {x : Bool} (hD : H D = none) (g : GrowB H D xs k H1) (s : Same H1 H2) (ht : xs[k]? = some x) :
    ∃ acc, H2 D = some (.lst acc) ∧ acc.length ≤ k ∧ GrowB H D xs (k + 1) (upd H2 D (.lst (acc ++ [.bl x]))) := by
  obtain ⟨sm, h1⟩ := g
  refine ⟨_, s _ _ h1, by rw [List.length_map, List.length_take]; omega, same_set (same_trans sm s) hD, ?_⟩
  rw [upd_same, List.take_succ, ht, List.map_append]
  rfl
theorem GrowB.done {H H' : Hp} {D : Addr} {xs : List Bool} {k : Nat} (g : GrowB H D xs k H') (h : xs.length ≤ k) : Same H H' ∧ H' D = some (.lst (xs.map V.bl)) := by
  obtain ⟨sm, h1⟩ := g
  rw [List.take_of_length_le h] at h1
  exact ⟨sm, h1⟩
theorem size_ok {k : Nat} (h : k ≤ 1000000) : k < sizeLine := by
  rw [sizeLine_eq]
  omega
theorem rep_zeros (n : Nat) : (List.replicate ((n : Int)).toNat [V.int 0]).flatten = (List.replicate n (0 : Int)).map V.int := by
  rw [Int.toNat_natCast]
  induction n with
  | zero => rfl
  | succ n ih =>
    rw [List.replicate_succ, List.replicate_succ, List.flatten_cons, ih]
    rfl
def rLO (K : PySem.W.Frag) : List V → Hp → VK → Prop := fun xs H Q => ∃ p ys, xs = [.ref p] ∧ (SqL K H p ys ∨ SqT K H p ys) ∧ ∀ l, H l = none → Q (.ref l) (upd H l (.lst ys))
theorem boot_list2 : bootBuiltins ("list" : Str) = some (.type "list") := by decide +kernel
end Vb
end L2

set_option Elab.async false
set_option linter.all false
set_option maxRecDepth 100000
set_option maxHeartbeats 4000000
/-! Vb, part 10: vectors added up. -/
namespace L2
namespace Vb
open PySem PySem.Spec PyProof.Rows
abbrev sAdd : Stmt := topS 37
def dotZ (xs ys : List Int) : Int := (List.zipWith (· * ·) xs ys).sum
def colZ (T : List (List Int)) (c : Nat) : List Int := T.map fun xs => xs.getD c 0
def addZ (p : Int) (T : List (List Int)) (fs : List Int) (L : Nat) : List Int := (List.range L).map fun c => dotZ fs (colZ T c) % p
theorem vc_col {p : Int} {L : Nat} {T : List (List Int)} {c : Nat} (hv : ∀ xs ∈ T, Vc p L xs) (hc : c < L) : Vc p T.length (colZ T c) := ⟨List.length_map .., fun x m => by
  obtain ⟨xs, mx, rfl⟩ := List.mem_map.mp m
  obtain ⟨l, h⟩ := hv xs mx
  rw [List.getD_eq_getElem?_getD, List.getElem?_eq_getElem (by omega)]
  exact h _ (List.getElem_mem _)⟩
/-- the sums so far, place by place, not yet cut by the prime -/
def sumsZ (T : List (List Int)) (fs : List Int) (L k : Nat) : List Int := (List.range L).map fun c => dotZ (fs.take k) (colZ (T.take k) c)
theorem sumsZ_len (T : List (List Int)) (fs : List Int) (L k : Nat) : (sumsZ T fs L k).length = L := by
  unfold sumsZ
  rw [List.length_map, List.length_range]
theorem dotZ_snoc (xs ys : List Int) (x y : Int) (h : xs.length = ys.length) : dotZ (xs ++ [x]) (ys ++ [y]) = dotZ xs ys + x * y := by
  unfold dotZ
  rw [List.zipWith_append h, List.sum_append]
  show _ + (x * y + 0) = _
  rw [Int.add_zero]
theorem colZ_take (T : List (List Int)) (k c : Nat) : colZ (T.take k) c = (colZ T c).take k := List.map_take
theorem sum_at {T : List (List Int)} {fs : List Int} {k c : Nat} {f : Int} {xs : List Int} (hf : fs[k]? = some f) (hx : T[k]? = some xs) : dotZ (fs.take (k + 1)) (colZ (T.take (k + 1)) c) = dotZ (fs.take k) (colZ (T.take k) c) + f * xs.getD c 0 := by
  rw [List.take_succ, hf, colZ_take, colZ_take, List.take_succ (l := colZ T c)]
  have e : (colZ T c)[k]? = some (xs.getD c 0) := by
    unfold colZ
    rw [List.getElem?_map, hx]
    rfl
  rw [e]
  have kf := (List.getElem?_eq_some_iff.mp hf).1
  have kt := (List.getElem?_eq_some_iff.mp hx).1
  refine dotZ_snoc _ _ _ _ ?_
  unfold colZ
  rw [List.length_take, List.length_take, List.length_map]
  omega
/-- all factors so far are noughts -/
def Noughts (fs : List Int) (k : Nat) : Prop := ∀ i, i < k → fs.getD i 0 = 0
theorem noughts_sum {T : List (List Int)} {fs : List Int} (ht : T.length = fs.length) {k : Nat} (h : Noughts fs k) (hk : k ≤ fs.length) (c : Nat) : dotZ (fs.take k) (colZ (T.take k) c) = 0 := by
  induction k with
  | zero => rfl
  | succ k ih =>
    have hf : fs[k]? = some (fs[k]'(by omega)) := List.getElem?_eq_getElem _
    have hx : T[k]? = some (T[k]'(by omega)) := List.getElem?_eq_getElem _
    rw [sum_at hf hx, ih (fun i hi => h i (by omega)) (by omega)]
    have z := h k (by omega)
    rw [List.getD_eq_getElem?_getD, hf] at z
    have z2 : fs[k]'(by omega) = 0 := z
    rw [z2, Int.zero_mul]
    rfl
theorem get_sums {T : List (List Int)} {fs : List Int} {L k c : Nat} (h : c < L) : (sumsZ T fs L k)[c]? = some (dotZ (fs.take k) (colZ (T.take k) c)) := by
  unfold sumsZ
  rw [List.getElem?_map, List.getElem?_range h]
  rfl
theorem sums_nought {T : List (List Int)} {fs : List Int} {L k : Nat} {f : Int} {xs : List Int} (hf : fs[k]? = some f) (hx : T[k]? = some xs) (f0 : f = 0) : sumsZ T fs L (k + 1) = sumsZ T fs L k := by
  refine List.ext_getElem? fun c => ?_
  by_cases h : c < L
  · rw [get_sums h, get_sums h, sum_at hf hx, f0, Int.zero_mul, Int.add_zero]
  · rw [List.getElem?_eq_none (by rw [sumsZ_len]; omega), List.getElem?_eq_none (by rw [sumsZ_len]; omega)]
theorem sums_first {T : List (List Int)} {fs : List Int} (ht : T.length = fs.length) {L k : Nat} {f : Int} {xs : List Int} (hf : fs[k]? = some f) (hx : T[k]? = some xs) (lx : xs.length = L) (h : Noughts fs k) : xs.map (fun n => f * n) = sumsZ T fs L (k + 1) := by
  have kf := (List.getElem?_eq_some_iff.mp hf).1
  refine List.ext_getElem? fun c => ?_
  by_cases q : c < L
  · rw [get_sums q, sum_at hf hx, noughts_sum ht h (by omega), Int.zero_add, List.getElem?_map, List.getElem?_eq_getElem (by omega), List.getD_eq_getElem?_getD, List.getElem?_eq_getElem (by omega)]
    rfl
  · rw [List.getElem?_eq_none (by rw [List.length_map]; omega), List.getElem?_eq_none (by rw [sumsZ_len]; omega)]
theorem sums_next {T : List (List Int)} {fs : List Int} {L k : Nat} {f : Int} {xs : List Int} (hf : fs[k]? = some f) (hx : T[k]? = some xs) (lx : xs.length = L) : List.zipWith (fun a b => a + f * b) (sumsZ T fs L k) xs = sumsZ T fs L (k + 1) := by
  refine List.ext_getElem? fun c => ?_
  by_cases q : c < L
  · rw [get_sums q, sum_at hf hx, List.getElem?_zipWith, get_sums q, List.getElem?_eq_getElem (by omega), List.getD_eq_getElem?_getD, List.getElem?_eq_getElem (by omega)]
    rfl
  · rw [List.getElem?_eq_none (by rw [List.length_zipWith, sumsZ_len]; omega), List.getElem?_eq_none (by rw [sumsZ_len]; omega)]
theorem add_all {p : Int} {T : List (List Int)} {fs : List Int} {L : Nat} (ht : T.length = fs.length) : (sumsZ T fs L T.length).map (fun n => n % p) = addZ p T fs L := by
  unfold sumsZ addZ
  rw [List.map_map]
  refine List.map_congr_left fun c _ => ?_
  show dotZ (fs.take T.length) (colZ (T.take T.length) c) % p = _
  rw [List.take_of_length_le (by omega), List.take_of_length_le (Nat.le_refl _)]
theorem add_none {p : Int} {T : List (List Int)} {fs : List Int} {L : Nat} (ht : T.length = fs.length) (h : Noughts fs T.length) : addZ p T fs L = List.replicate L 0 := by
  rw [← add_all ht]
  refine List.ext_getElem? fun c => ?_
  by_cases q : c < L
  · rw [List.getElem?_map, get_sums q, noughts_sum ht h (by omega), List.getElem?_replicate, if_pos q]
    show some (0 % p) = _
    rw [Int.zero_emod]
  · rw [List.getElem?_eq_none (by rw [List.length_map, sumsZ_len]; omega), List.getElem?_eq_none (by rw [List.length_replicate]; omega)]
section
variable {P : Program} {w : World} {K : PySem.W.Frag} {mg : Str → Option Value} {base : Heap}
def spAdd : Sp := fun vs H Q _ => ∃ (p : Int) (m b : Addr) (L : Nat) (as : List Addr) (T : List (List Int)) (fs : List Int), vs = [.int p, .ref m, .ref b, .int (L : Int)] ∧ 2 ≤ p ∧ p ≤ 65537 ∧ H m = some (.lst (as.map V.ref)) ∧ Rws H as T ∧ (∀ xs ∈ T, Vc p L xs) ∧ Rw H b fs ∧ Vc p T.length fs ∧ L ≤ 1000 ∧ T.length ≤ 1000 ∧
  ∀ (H' : Hp) (d : Addr), Same H H' → H d = none → Rw H' d (addZ p T fs L) → Q (.ref d) H'
abbrev nAdd : List Str := ["prime", "vectors", "factors", "length", "total", "factor", "vector", "number", "a", "b"]
theorem scAdd : FnScope nAdd ["prime", "vectors", "factors", "length"] (defScope sAdd) := ⟨rfl, rfl, rfl, by decide +kernel, rfl, by decide +kernel, by decide +kernel⟩
/-- the total so far: none, or a new list of the sums -/
def Tot (H H' : Hp) (T : List (List Int)) (fs : List Int) (L k : Nat) (v : V) : Prop := (v = .non ∧ Noughts fs k) ∨ ∃ d, v = .ref d ∧ H d = none ∧ Rw H' d (sumsZ T fs L k)
theorem ok_add {f : Addr} {fd : FuncData} (F : Fun K "added_up" "added_up" sAdd f fd) (gZ : mg "zip" = none) : FnOk P w K mg base CX0 1 f fd ["prime", "vectors", "factors", "length"] spAdd := by
  refine F.ok scAdd (fun vs H Q E h => ?_) (fun cdv A outer s0 H vs Q E hr h => ?_)
  · obtain ⟨p, m, b, L, as, T, fs, rfl, _⟩ := h
    rfl
  · obtain ⟨p, m, b, L, as, T, fs, rfl, p2, p6, hm, hT, hv, hb, hf, hL, tL, want⟩ := h
    have hb : H b = some (.lst (fs.map V.int)) := hb
    refine ⟨_, (pss_cons (ps_set (i := 4) scAdd.nd rfl (Or.inl rfl) pe_non)
      (pss_cons (ps_for PassesOwn.never rfl (pi_zip (by rfl) gZ (pa_cons (pv 2) (pa_cons (pv 1) pa_nil))) (pg_tup rfl (pgs_cons (pg_name (i := 5) scAdd.nd rfl (Or.inr rfl)) (pgs_cons (pg_name (i := 6) scAdd.nd rfl (Or.inl rfl)) pgs_nil)))
        (pss_one (ps_if (PW.pt (pw_and (pt_truth (pv 5) (by intro _; rfl)) (pw_and1 (pt_cmpR op_isN (pv 4) pe_non (nomark _)))))
            (pss_one (ps_setLc (i := 4) (own := [("number", 7)]) (g := (gName 7)) (tt := tYes) rfl scAdd.nd rfl rfl (sw_true rfl rfl rfl (by decide +kernel)) (pi_list (pe_slice sl_list (pv 6) po_none (po_some (pv 3)))) (blkOk_by (N := nAdd) (sc := defScope sAdd) (by decide +kernel)) (fun _ _ _ _ _ => pg_name (i := 7) scAdd.nd rfl (Or.inl rfl)) (fun _ _ _ _ _ => pts_nil) (fun _ _ _ _ _ => (pe_op op_mul (pv 5) (pv 7)))))
            (pss_one (ps_if (pt_truth (pv 5) (by intro _; rfl))
                (pss_one (ps_setLc (i := 4) (own := [("a", 8), ("b", 9)]) (g := (gTup K 2 (gCons (gName 8) (gCons (gName 9) gNil)))) (tt := tYes) rfl scAdd.nd rfl rfl (sw_true rfl rfl rfl (by decide +kernel)) (pi_zip (by rfl) gZ (pa_cons (pv 4) (pa_cons (pv 6) pa_nil))) (blkOk_by (N := nAdd) (sc := defScope sAdd) (by decide +kernel)) (fun _ _ _ _ _ => pg_tup rfl (pgs_cons (pg_name (i := 8) scAdd.nd rfl (Or.inl rfl)) (pgs_cons (pg_name (i := 9) scAdd.nd rfl (Or.inl rfl)) pgs_nil))) (fun _ _ _ _ _ => pts_nil) (fun _ _ _ _ _ => (pe_op op_add (pv 8) (pe_op op_mul (pv 5) (pv 9))))))
                pss_nil)))))
      (pss_one (ps_ret (pe_ifExp (pt_cmpR op_isN (pv 4) pe_non (nomark _)) (pe_op op_rep (pe_lst (pa_cons pe_int pa_nil)) (pv 3)) (pe_lc (own := [("number", 7)]) (g := (gName 7)) (tt := tYes) rfl scAdd.nd (pi_list (pv 4)) (blkOk_by (N := nAdd) (sc := defScope sAdd) (by decide +kernel)) (fun _ _ _ _ _ => pg_name (i := 7) scAdd.nd rfl (Or.inl rfl)) (fun _ _ _ _ _ => pts_nil) (fun _ _ _ _ _ => (pe_op op_mod (pv 7) (pv 0))))))))), ?_⟩
    refine ⟨_, rfl, _, rfl, b, m, _, _, rfl, SqL.of hb, SqL.of hm, ?_⟩
    have la : (as.map V.ref).length = T.length := by rw [List.length_map, hT.len]
    have lb : (fs.map V.int).length = T.length := by rw [List.length_map, hf.1]
    refine for_it (walk_zip (n := T.length) (by rw [la, lb, Nat.min_self])) (fun k σ H' => (∃ tot u v, σ = [some (.int p), some (.ref m), some (.ref b), some (.int (L : Int)), some tot, u, v, none, none, none] ∧ Tot H H' T fs L k tot) ∧ Same H H')
      ⟨⟨_, _, _, rfl, .inl ⟨rfl, fun i hi => absurd hi (Nat.not_lt_zero i)⟩⟩, same_rfl⟩ (fun i σ H' _ z => ⟨SqL.of (z.2 _ _ hb), SqL.of (z.2 _ _ hm)⟩) ?_ ?_
    · rintro k x σ H1 H' hk ⟨⟨tot, u, v, rfl, ht⟩, sm⟩ ⟨T2, x1, x2, rfl, nT, rfl, e1, e2⟩
      obtain ⟨f, rfl, mf, hfk⟩ := mem_ints e1
      obtain ⟨c, xs, rfl, hc, mx, htk, _⟩ := rws_at hT e2
      have s2 := same_new (o := .tup [V.int f, V.ref c]) nT
      have s12 := same_trans sm s2
      have hc1 : upd H1 T2 (.tup [V.int f, V.ref c]) c = some (.lst (xs.map V.int)) := s2 _ _ (sm _ _ hc)
      have lx : xs.length = L := (hv xs mx).1
      obtain ⟨f0, f1⟩ := hf.2 f mf
      refine ⟨T2, _, rfl, SqT.of upd_same, rfl, _, _, rfl, ?_⟩
      refine ⟨_, _, rfl, rfl, ?_⟩
      refine ⟨_, rfl, f != 0, rfl, ?_⟩
      by_cases fz : f = 0
      · rw [bne_eq_false_iff_eq.mpr fz]
        refine iteF ⟨_, rfl, f != 0, rfl, ?_⟩
        rw [bne_eq_false_iff_eq.mpr fz]
        refine iteF ⟨⟨tot, _, _, rfl, ?_⟩, s12⟩
        rcases ht with ⟨rfl, hn⟩ | ⟨d, rfl, nd, hd⟩
        · refine .inl ⟨rfl, fun i hi => ?_⟩
          by_cases q : i < k
          · exact hn i q
          · have e : i = k := by omega
            rw [e, List.getD_eq_getElem?_getD, hfk]
            exact fz
        · refine .inr ⟨d, rfl, nd, ?_⟩
          rw [sums_nought hfk htk fz]
          exact s2 _ _ hd
      · rw [bne_iff_ne.mpr fz]
        refine iteT ⟨_, rfl, rfl, _, rfl, ?_⟩
        rcases ht with ⟨rfl, hn⟩ | ⟨d, rfl, nd, hd⟩
        · rw [decide_eq_true rfl]
          refine iteT ?_
          refine ⟨_, rfl, ⟨_, rfl, _, rfl, c, _, rfl, SqL.of hc1, fun q hq => ?_⟩⟩
          rw [cut_take, List.take_of_length_le (by rw [List.length_map, lx]; exact Nat.le_refl _)]
          refine ⟨q, rfl, ⟨_, SqL.of upd_same⟩, ?_⟩
          intro D hD
          have s3 := same_new (o := .lst (xs.map V.int)) hq
          refine lc_list (GrowI (upd (upd H1 T2 (.tup [V.int f, V.ref c])) q (.lst (xs.map V.int))) D (xs.map fun n => f * n)) (GrowI.start hD) (fun i H' _ z => SqL.of (z.1 _ _ upd_same)) ?_ ?_
          · rintro j x H2 hx g
            obtain ⟨n, rfl, mn, hn⟩ := mem_ints hx
            have jl : j < xs.length := (List.getElem?_eq_some_iff.mp hn).1
            refine ⟨rfl, tyes ?_⟩
            refine ⟨_, rfl, _, rfl, f, n, rfl, rfl, .inl ⟨by omega, by omega⟩, ?_⟩
            obtain ⟨acc, k1, k2, k3⟩ := g.step (x := f * n) hD same_rfl (by rw [List.getElem?_map, hn]; rfl)
            exact ⟨acc, k1, size_ok (by omega), k3⟩
          · intro H2 g
            obtain ⟨s4, hD1⟩ := g.done (by rw [List.length_map, List.length_map]; exact Nat.le_refl _)
            refine ⟨⟨.ref D, _, _, rfl, .inr ⟨D, rfl, (same_trans s12 s3).free hD, ?_⟩⟩, same_trans s12 (same_trans s3 s4)⟩
            rw [← sums_first (by rw [hf.1]) hfk htk lx hn]
            exact hD1
        · rw [decide_eq_false (fun e => nomatch e)]
          refine iteF ⟨_, rfl, f != 0, rfl, ?_⟩
          rw [bne_iff_ne.mpr fz]
          refine iteT ?_
          have hd1 : upd H1 T2 (.tup [V.int f, V.ref c]) d = some (.lst ((sumsZ T fs L k).map V.int)) := s2 _ _ hd
          refine ⟨_, rfl, _, rfl, d, c, _, _, rfl, SqL.of hd1, SqL.of hc1, ?_⟩
          intro D hD
          have ls := sumsZ_len T fs L k
          refine lc_it (walk_zip (n := L) (by rw [List.length_map, List.length_map, ls, lx, Nat.min_self])) (GrowI (upd H1 T2 (.tup [V.int f, V.ref c])) D (List.zipWith (fun a b => a + f * b) (sumsZ T fs L k) xs)) (GrowI.start hD) (fun i H' _ z => ⟨SqL.of (z.1 _ _ hd1), SqL.of (z.1 _ _ hc1)⟩) ?_ ?_
          · rintro j x H2 H3 hj g ⟨T3, y1, y2, rfl, nT3, rfl, z1, z2⟩
            obtain ⟨a1, rfl, ma, ha⟩ := mem_ints z1
            obtain ⟨a2, rfl, ma2, ha2⟩ := mem_ints z2
            have s5 := same_new (o := .tup [V.int a1, V.int a2]) nT3
            refine ⟨T3, _, rfl, SqT.of upd_same, rfl, _, _, rfl, ?_⟩
            refine ⟨_, _, rfl, rfl, rfl, tyes ?_⟩
            refine ⟨_, rfl, _, rfl, _, rfl, f, a2, rfl, rfl, .inl ⟨by omega, by omega⟩, _, _, rfl, rfl, ?_⟩
            obtain ⟨acc, k1, k2, k3⟩ := g.step (x := a1 + f * a2) hD s5 (by rw [List.getElem?_zipWith, ha, ha2])
            exact ⟨acc, k1, size_ok (by omega), k3⟩
          · intro H2 g
            obtain ⟨s4, hD1⟩ := g.done (by rw [List.length_zipWith, ls, lx, Nat.min_self]; exact Nat.le_refl _)
            refine ⟨⟨.ref D, _, _, rfl, .inr ⟨D, rfl, s12.free hD, ?_⟩⟩, same_trans s12 s4⟩
            rw [← sums_next hfk htk lx]
            exact hD1
    · rintro σ H' ⟨⟨tot, u, v, rfl, ht⟩, sm⟩
      refine ⟨_, rfl, rfl, _, rfl, ?_⟩
      rcases ht with ⟨rfl, hn⟩ | ⟨d, rfl, nd, hd⟩
      · rw [decide_eq_true rfl]
        refine iteT ?_
        refine ⟨by show 1 ≤ sizeLine; decide, fun z hz => ?_⟩
        refine ⟨_, rfl, z, (L : Int), [V.int 0], rfl, rfl, upd_same, by omega, by omega, by rw [Int.toNat_natCast, sizeLine_eq]; show 1 * L ≤ 16777216; omega, fun d hd => ?_⟩
        rw [rep_zeros]
        have s5 := same_new (o := .lst [V.int 0]) hz
        have s6 := same_new (o := .lst ((List.replicate L (0 : Int)).map V.int)) hd
        refine want _ d (same_trans sm (same_trans s5 s6)) ((same_trans sm s5).free hd) ?_
        rw [add_none (by rw [hf.1]) hn]
        exact upd_same
      · rw [decide_eq_false (fun e => nomatch e)]
        refine iteF ?_
        have hd1 : H' d = some (.lst ((sumsZ T fs L T.length).map V.int)) := hd
        refine ⟨_, rfl, d, rfl, ⟨_, SqL.of hd1⟩, ?_⟩
        intro D hD
        have ls := sumsZ_len T fs L T.length
        refine lc_list (GrowI H' D ((sumsZ T fs L T.length).map fun n => n % p)) (GrowI.start hD) (fun i H2 _ z => SqL.of (z.1 _ _ hd1)) ?_ ?_
        · rintro j x H2 hx g
          obtain ⟨n, rfl, mn, hn⟩ := mem_ints hx
          have jl : j < (sumsZ T fs L T.length).length := (List.getElem?_eq_some_iff.mp hn).1
          refine ⟨rfl, tyes ?_⟩
          refine ⟨_, rfl, _, rfl, n, p, rfl, rfl, (by show (0 : Int) < p; omega), ?_⟩
          obtain ⟨acc, k1, k2, k3⟩ := g.step (x := n % p) hD same_rfl (by rw [List.getElem?_map, hn]; rfl)
          exact ⟨acc, k1, size_ok (by omega), k3⟩
        · intro H2 g
          obtain ⟨s4, hD1⟩ := g.done (by rw [List.length_map, List.length_map]; exact Nat.le_refl _)
          refine want _ D (same_trans sm s4) (sm.free hD) ?_
          rw [← add_all (by rw [hf.1])]
          exact hD1
end
end Vb
end L2

set_option Elab.async false
set_option linter.all false
set_option maxRecDepth 100000
set_option maxHeartbeats 4000000
/-! Vb, k30: names, unit vectors. -/
namespace L2
namespace Vb
open PySem PySem.Spec PyProof.Rows
/-- column j of so many -/
def unitZ (w j : Nat) : List Int := (List.replicate w (0 : Int)).set j 1
def boxS (b : Nat) : Str := BOXES_S.getD b ""
def cellS (c : Nat) : Str := (((Str.empty ++ ("@" : Str)) ++ (toString (0 : Int) : Str)) ++ ("." : Str)) ++ (toString ((c : Nat) : Int) : Str)
theorem cell_len : ∀ c, c < 9 → (cellS c).length ≤ 8 := by decide +kernel
theorem cell_inj : ∀ c, c < 9 → ∀ d, d < 9 → cellS c = cellS d → c = d := by decide +kernel
theorem cell_ne : ∀ c, c < 9 → cellS c ≠ "" := by decide +kernel
theorem cell_box : ∀ c, c < 9 → ∀ b, b < 4 → cellS c ≠ boxS b := by decide +kernel
abbrev sUnit : Stmt := topS 7
abbrev sBox : Stmt := topS 32
abbrev sCell : Stmt := topS 33
def spUnit : Sp := fun vs H Q _ => ∃ w j : Nat, vs = [.int (w : Int), .int (j : Int)] ∧ j < w ∧ w ≤ 1000 ∧ ∀ H' d, Same H H' → H d = none → Rw H' d (unitZ w j) → Q (.ref d) H'
def spBox : Sp := fun vs H Q _ => ∃ b : Nat, vs = [.int (b : Int)] ∧ b < 4 ∧ Q (.str (boxS b)) H
def spCell : Sp := fun vs H Q _ => ∃ c : Nat, vs = [.int 0, .int (c : Int)] ∧ c < 9 ∧ Q (.str (cellS c)) H
theorem scUnit : FnScope ["width", "at", "vector"] ["width", "at"] (defScope sUnit) := ⟨rfl, rfl, rfl, by decide +kernel, rfl, by decide +kernel, by decide +kernel⟩
theorem scBox : FnScope ["box"] ["box"] (defScope sBox) := ⟨rfl, rfl, rfl, by decide +kernel, rfl, by decide +kernel, by decide +kernel⟩
theorem scCell : FnScope ["depth", "cell"] ["depth", "cell"] (defScope sCell) := ⟨rfl, rfl, rfl, by decide +kernel, rfl, by decide +kernel, by decide +kernel⟩
section
variable {P : Program} {w : World} {K : PySem.W.Frag} {mg : Str → Option Value} {base : Heap}
theorem ok_unit {f : Addr} {fd : FuncData} (F : Fun K "unit_vector" "unit_vector" sUnit f fd) : FnOk P w K mg base CX0 1 f fd ["width", "at"] spUnit := by
  refine F.ok scUnit (fun vs H Q E h => ?_) (fun cdv A outer s0 H vs Q E hr h => ?_)
  · obtain ⟨w, j, rfl, _⟩ := h
    rfl
  · obtain ⟨w, j, rfl, hj, hw, want⟩ := h
    refine ⟨_, (pss_cons (ps_set (i := 2) scUnit.nd rfl (Or.inl rfl) (pe_op op_rep (pe_lst (pa_cons pe_int pa_nil)) (pv 0)))
      (pss_cons (ps_asg pe_int (pg_sub (pv 2) (pv 1) set_list))
      (pss_one (ps_ret (pv 2))))), ?_⟩
    refine ⟨by show 1 ≤ sizeLine; decide, fun p hp => ⟨_, rfl, p, (w : Int), _, rfl, rfl, upd_same, by omega, by omega, ?_, fun q hq => ?_⟩⟩
    · show 1 * (w : Int).toNat ≤ sizeLine
      rw [sizeLine_eq]
      omega
    · rw [rep_zeros]
      refine ⟨_, rfl, _, rfl, ?_⟩
      refine ⟨q, (List.replicate w (0 : Int)).map V.int, (j : Int), j, rfl, rfl, upd_same, ?_, ?_⟩
      · rw [List.length_map, List.length_replicate]
        unfold ixN
        rw [if_pos (by omega), if_pos (by omega)]
        rfl
      · refine ⟨_, rfl, want _ q (fun b o e => ?_) ((same_new hp).free hq) ?_⟩
        · have n1 : b ≠ p := fun z => by rw [z, hp] at e; cases e
          have n2 : b ≠ q := fun z => by
            have e1 : upd H p (HO.lst [V.int 0]) b = some o := (upd_ne n1).trans e
            rw [z, hq] at e1
            cases e1
          rw [upd_ne n2, upd_ne n2, upd_ne n1]
          exact e
        · show upd _ q _ q = some (.lst ((unitZ w j).map V.int))
          rw [upd_same]
          unfold unitZ
          rw [List.map_set]
theorem ok_box {f : Addr} {fd : FuncData} (F : Fun K "name_of_box" "name_of_box" sBox f fd) {aB : Addr} (gB : mg "BOXES" = some (.ref aB)) (hB : ∀ H : Hp, SqT K H aB (BOXES_S.map V.str)) : FnOk P w K mg base CX0 1 f fd ["box"] spBox := by
  refine F.ok scBox (fun vs H Q E h => ?_) (fun cdv A outer s0 H vs Q E hr h => ?_)
  · obtain ⟨b, rfl, _⟩ := h
    rfl
  · obtain ⟨b, rfl, hb, want⟩ := h
    refine ⟨_, (pss_one (ps_ret (pe_ix ix_tup (pe_glob (v := .ref _) rfl gB rfl (by decide)) (pv 0) (fun _ _ => rfl)))), ?_⟩
    refine ⟨_, rfl, aB, _, (b : Int), _, rfl, rfl, hB H, ?_, want⟩
    refine atI_nat (j := b) (v := V.str (boxS b)) ?_
    obtain rfl | rfl | rfl | rfl : b = 0 ∨ b = 1 ∨ b = 2 ∨ b = 3 := by omega
    all_goals rfl
theorem ok_cell {f : Addr} {fd : FuncData} (F : Fun K "name_of_cell" "name_of_cell" sCell f fd) : FnOk P w K mg base CX0 1 f fd ["depth", "cell"] spCell := by
  refine F.ok scCell (fun vs H Q E h => ?_) (fun cdv A outer s0 H vs Q E hr h => ?_)
  · obtain ⟨c, rfl, _⟩ := h
    rfl
  · obtain ⟨c, rfl, hc, want⟩ := h
    refine ⟨_, (pss_one (ps_ret (pe_joined (.cons pe_str (.cons (pe_fmt (pv 0)) (.cons pe_str (.cons (pe_fmt (pv 1)) .nil))))))), ?_⟩
    have le : ∀ x : Str, x.length ≤ 8 → x.length ≤ sizeLine := fun x h => by
      rw [sizeLine_eq]
      omega
    have hl := cell_len c hc
    have l1 : ((((Str.empty ++ ("@" : Str)) ++ (toString (0 : Int) : Str)) ++ ("." : Str)) : Str).length ≤ 8 := by decide +kernel
    have l2 : (((Str.empty ++ ("@" : Str)) ++ (toString (0 : Int) : Str)) : Str).length ≤ 8 := by decide +kernel
    have l3 : ((Str.empty ++ ("@" : Str)) : Str).length ≤ 8 := by decide +kernel
    refine ⟨_, rfl, le _ l3, _, rfl, .inr ⟨_, rfl, by decide, _, rfl, le _ l2, _, rfl, le _ l1, _, rfl, .inr ⟨_, rfl, ?_, _, rfl, le _ hl, want⟩⟩⟩
    have : (c : Int).natAbs.log2 < 4 := by
      by_cases z : (c : Int).natAbs = 0
      · rw [z]
        decide
      · exact (Nat.log2_lt z).mpr (by omega)
    omega
end
end Vb
end L2

set_option Elab.async false
set_option linter.all false
set_option maxRecDepth 100000
set_option maxHeartbeats 4000000
/-! Vb, k30: sums as dicts, their vectors. -/
namespace L2
namespace Vb
open PySem PySem.Spec PyProof.Rows
/-- a sum: names and factors, in order -/
abbrev SumZ : Type := List (Str × Int)
def kvsZ (W : SumZ) : List (Key × V) := W.map fun q => (Sum.inr q.1, V.int q.2)
def Dct (H : Hp) (d : Addr) (W : SumZ) : Prop := H d = some (.dK (kvsZ W))
def facZ (W : SumZ) (x : Str) : Int := ((W.find? fun q => decide (q.1 = x)).map (·.2)).getD 0
def keysZ (cells : Nat) : List Str := (List.range cells).map cellS ++ [("" : Str)]
theorem val_kvs (W : SumZ) (x : Str) : valV (kvsZ W) (Sum.inr x) = (W.find? fun q => decide (q.1 = x)).map fun q => V.int q.2 := by
  induction W with
  | nil => rfl
  | cons q W ih =>
    by_cases e : q.1 = x
    · have e2 : ((Sum.inr q.1 : Key), V.int q.2).1 = Sum.inr x := congrArg Sum.inr e
      rw [List.find?_cons_of_pos (p := fun q : Str × Int => decide (q.1 = x)) (by rw [decide_eq_true e])]
      exact valV_pos (p := ((Sum.inr q.1 : Key), V.int q.2)) e2
    · have e2 : ¬ ((Sum.inr q.1 : Key), V.int q.2).1 = Sum.inr x := fun h => e (Sum.inr.inj h)
      rw [List.find?_cons_of_neg (p := fun q : Str × Int => decide (q.1 = x)) (by rw [decide_eq_false e]; decide)]
      exact (valV_neg (p := ((Sum.inr q.1 : Key), V.int q.2)) e2).trans ih
theorem get_fac (W : SumZ) (x : Str) : (valV (kvsZ W) (Sum.inr x)).getD (.int 0) = .int (facZ W x) := by
  rw [val_kvs]
  unfold facZ
  cases W.find? fun q => decide (q.1 = x) <;> rfl
abbrev sKeys : Stmt := topS 46
abbrev sVecOf : Stmt := topS 40
def spKeys : Sp := fun vs H Q _ => ∃ n : Nat, vs = [.int (n : Int)] ∧ n ≤ 8 ∧ ∀ H' d, Same H H' → H d = none → H' d = some (.lst ((keysZ n).map V.str)) → Q (.ref d) H'
def spVecOf : Sp := fun vs H Q _ => ∃ (a b : Addr) (W : SumZ) (ks : List Str), vs = [.ref a, .ref b] ∧ Dct H a W ∧ H b = some (.lst (ks.map V.str)) ∧ ks.length ≤ 1000 ∧ ∀ H' d, Same H H' → H d = none → Rw H' d (ks.map (facZ W)) → Q (.ref d) H'
theorem scKeys : FnScope ["cells", "cell"] ["cells"] (defScope sKeys) := ⟨rfl, rfl, rfl, by decide +kernel, rfl, by decide +kernel, by decide +kernel⟩
theorem scVecOf : FnScope ["wanted", "keys", "key"] ["wanted", "keys"] (defScope sVecOf) := ⟨rfl, rfl, rfl, by decide +kernel, rfl, by decide +kernel, by decide +kernel⟩
/-- a new list of texts, the first k -/
def GrowS (H : Hp) (D : Addr) (xs : List Str) (k : Nat) (H' : Hp) : Prop := Same H H' ∧ H' D = some (.lst ((xs.take k).map V.str))
theorem GrowS.start {H : Hp} {D : Addr} {xs : List Str} (h : H D = none) : GrowS H D xs 0 (upd H D (.lst [])) := ⟨same_new h, upd_same⟩
theorem GrowS.step {H H1 H2 : Hp} {D : Addr} {xs : List Str} {k : Nat} {x : Str} (hD : H D = none) (g : GrowS H D xs k H1) (s : Same H1 H2) (hx : xs[k]? = some x) : ∃ acc, H2 D = some (.lst acc) ∧ acc.length ≤ k ∧ GrowS H D xs (k + 1) (upd H2 D (.lst (acc ++ [V.str x]))) := by
  refine ⟨_, s _ _ g.2, by rw [List.length_map, List.length_take]; omega, same_set (same_trans g.1 s) hD, ?_⟩
  rw [upd_same, List.take_add_one, hx, List.map_append]
  rfl
theorem GrowS.done {H H' : Hp} {D : Addr} {xs : List Str} {k : Nat} (g : GrowS H D xs k H') (h : xs.length ≤ k) : Same H H' ∧ H' D = some (.lst (xs.map V.str)) := by
  refine ⟨g.1, ?_⟩
  rw [← List.take_of_length_le h]
  exact g.2
section
variable {P : Program} {w : World} {K : PySem.W.Frag} {mg : Str → Option Value} {base : Heap}
theorem ok_keys {f fC : Addr} {fd fdC : FuncData} (F : Fun K "keys_of_cells" "keys_of_cells" sKeys f fd) (FC : Fun K "name_of_cell" "name_of_cell" sCell fC fdC) (GC : FnOk P w K mg base CX0 1 fC fdC ["depth", "cell"] spCell) (gC : mg "name_of_cell" = some (.ref fC)) (gRange : mg "range" = none) :
    FnOk P w K mg base CX0 2 f fd ["cells"] spKeys := by
  have bC : Binds K fdC ["depth", "cell"] [] := FC.binds fun _ _ _ _ _ _ us hl => match us, hl with | [_, _], _ => rfl
  refine F.ok scKeys (fun vs H Q E h => ?_) (fun cdv A outer s0 H vs Q E hr h => ?_)
  · obtain ⟨n, rfl, _⟩ := h
    rfl
  · obtain ⟨n, rfl, hn, want⟩ := h
    refine ⟨_, (pss_one (ps_ret (pe_op op_cat (pe_lc (own := [("cell", 1)]) (g := (gName 1)) (tt := tYes) rfl scKeys.nd (pi_range1 rfl gRange (pa_cons (pv 0) pa_nil)) (blkOk_by (N := ["cells", "cell"]) (sc := defScope sKeys) (by decide +kernel)) (fun _ _ _ _ _ => pg_name (i := 1) scKeys.nd rfl (Or.inl rfl)) (fun _ _ _ _ _ => pts_nil) (fun _ _ _ _ _ => (pe_call GC hr rfl gC FC.kp bC .nil pass0 (pa_cons pe_int (pa_cons (pv 1) pa_nil))))) (pe_lst (pa_cons pe_str pa_nil))))), ?_⟩
    refine ⟨_, rfl, (n : Int), rfl, by omega, by omega, fun D hD => ?_⟩
    rw [Int.toNat_natCast]
    refine lc_range (lo := 0) (n := n) (fun k H' => GrowS H D ((List.range n).map cellS) k H') (GrowS.start hD) ?_ ?_
    · intro k H1 hk g
      refine ⟨rfl, tyes ?_⟩
      have hx : ((List.range n).map cellS)[k]? = some (cellS k) := by
        rw [List.getElem?_map, List.getElem?_range hk]
        rfl
      refine ⟨_, rfl, k, ?_, by omega, ?_⟩
      · show [V.int 0, V.int (0 + (k : Int))] = _
        rw [Int.zero_add]
      · obtain ⟨acc, h1, h2, h3⟩ := GrowS.step hD g same_rfl hx
        exact ⟨acc, h1, by rw [sizeLine_eq]; omega, h3⟩
    · intro H1 g
      obtain ⟨s1, h1⟩ := g.done (by rw [List.length_map, List.length_range]; exact Nat.le_refl _)
      refine ⟨by show 1 ≤ sizeLine; decide, fun e he => ?_⟩
      refine ⟨D, e, _, _, rfl, rfl, same_new he _ _ h1, upd_same, by rw [List.length_map, List.length_map, List.length_range, sizeLine_eq]; show n + 1 ≤ _; omega, fun q hq => ?_⟩
      refine want _ q (same_trans s1 (same_trans (same_new he) (same_new hq))) (s1.free ((same_new he).free hq)) ?_
      rw [upd_same]
      unfold keysZ
      rw [List.map_append]
      rfl
theorem ok_vecOf {f : Addr} {fd : FuncData} (F : Fun K "vector_of" "vector_of" sVecOf f fd) : FnOk P w K mg base CX0 1 f fd ["wanted", "keys"] spVecOf := by
  refine F.ok scVecOf (fun vs H Q E h => ?_) (fun cdv A outer s0 H vs Q E hr h => ?_)
  · obtain ⟨a, b, W, ks, rfl, _⟩ := h
    rfl
  · obtain ⟨a, b, W, ks, rfl, ha, hb, hl, want⟩ := h
    refine ⟨_, (pss_one (ps_ret (pe_lc (te := tDGet2 (tVar 0) (tVar 2) (tC (.int 0))) (own := [("key", 2)]) (g := (gName 2)) (tt := tYes) rfl scVecOf.nd (pi_list (pv 1)) (blkOk_by (N := ["wanted", "keys", "key"]) (sc := defScope sVecOf) (by decide +kernel)) (fun _ _ _ _ _ => pg_name (i := 2) scVecOf.nd rfl (Or.inl rfl)) (fun _ _ _ _ _ => pts_nil) (fun _ _ _ _ _ => (pe_dget2 (hu_of hr) (pv 0) (pv 2) pe_int ⟨rfl, rfl, rfl, rfl⟩))))), ?_⟩
    refine ⟨_, rfl, b, rfl, ⟨_, SqL.of hb⟩, fun D hD => ?_⟩
    refine lc_list (xs := ks.map V.str) (fun k H' => GrowI H D (ks.map (facZ W)) k H') (GrowI.start hD) (fun i H' _ g => SqL.of (g.1 _ _ hb)) ?_ ?_
    · intro i x H1 hx g
      rw [List.getElem?_map] at hx
      obtain ⟨k, hk, rfl⟩ := Option.map_eq_some_iff.mp hx
      refine ⟨rfl, tyes ?_⟩
      refine ⟨_, rfl, a, rfl, .inl ⟨_, .inl (g.1 _ _ ha)⟩, _, rfl, _, DGet.k (k := Sum.inr k) (g.1 _ _ ha), ?_⟩
      rw [get_fac]
      have hx : (ks.map (facZ W))[i]? = some (facZ W k) := by
        rw [List.getElem?_map, hk]
        rfl
      obtain ⟨acc, h1, h2, h3⟩ := g.step hD same_rfl hx
      have hi := (List.getElem?_eq_some_iff.mp hk).1
      exact ⟨acc, h1, by rw [sizeLine_eq]; omega, h3⟩
    · intro H1 g
      obtain ⟨s1, h1⟩ := g.done (by rw [List.length_map, List.length_map]; exact Nat.le_refl _)
      exact want H1 D s1 hD h1
end
end Vb
end L2

set_option Elab.async false
set_option linter.all false
set_option maxRecDepth 100000
set_option maxHeartbeats 4000000
/-! Vb, k30: a dict out of a dict. -/
namespace L2
namespace Vb
open PySem PySem.Spec PyProof.Rows
/-- a dict comprehension over any walk: Z by the turn and the heap -/
theorem dc_go {J : It} {n : Nat} {G : Hp → Prop} {Y : Nat → Hp → V → Hp → Prop} (w : Walk J n G Y) {g : TG} {tt : TT} {tk tv : TE} {vs : List Nat} {σ : St} {H0 : Hp} {D : Addr} {R : Hp → Prop} (Z : Nat → Hp → Prop)
    (start : Z 0 (upd H0 D (.dK []))) (stays : ∀ k H, k ≤ n → Z k H → G H)
    (turn : ∀ k v H H', k < n → Z k H → Y k H v H' → g v (wipe σ vs) H' fun τ H2 => wipe τ vs = wipe σ vs ∧ tt τ H2 fun b H3 =>
      if b = true then tk τ H3 fun y H4 => tv τ H4 fun z H5 => ∃ kvs k', y = kV k' ∧ H5 D = some (.dK kvs) ∧ kvs.length < sizeLine ∧ Z (k + 1) (upd H5 D (.dK (putK kvs k' z))) else Z (k + 1) H3)
    (done : ∀ H, Z n H → R H) :
    ∃ W : Nat → Nat → Hp → Prop, (∃ m, W 0 m (upd H0 D (.dK []))) ∧ ∀ i m H, W i m H →
      (J.stop i H ∧ R H) ∨ (J.go i H ∧ ∃ Nx : Hp → Prop, (∀ H', Nx H' → ∃ m', m' < m ∧ W (i + 1) m' H') ∧ ∀ x H', J.yld i H x H' → g x (wipe σ vs) H' fun τ H2 => wipe τ vs = wipe σ vs ∧ tt τ H2 fun b H3 =>
        if b = true then tk τ H3 fun y H4 => tv τ H4 fun z H5 => ∃ kvs k', y = kV k' ∧ H5 D = some (.dK kvs) ∧ kvs.length < sizeLine ∧ Nx (upd H5 D (.dK (putK kvs k' z))) else Nx H3) := by
  refine ⟨fun i m H => i + m = n ∧ Z i H, ⟨n, by omega, start⟩, ?_⟩
  intro i m H hz
  obtain ⟨hm, z⟩ := hz
  have st := stays i H (by omega) z
  rcases Nat.lt_or_ge i n with lt | ge
  · refine .inr ⟨w.goes i H lt st, Z (i + 1), fun H' z' => ⟨m - 1, by omega, by omega, z'⟩, fun v H' y => turn i v H H' lt z (w.yields i H v H' lt st y)⟩
  · obtain rfl : i = n := by omega
    exact .inl ⟨w.stops H st, done H z⟩
/-- a sum without what is nought by the modulus -/
def noZ (p : Int) (W : SumZ) : SumZ := (W.filter fun q => decide (q.2 % p ≠ 0)).map fun q => (q.1, q.2 % p)
theorem noZ_snoc {p : Int} {W : SumZ} {k : Nat} {nm : Str} {f : Int} (h : W[k]? = some (nm, f)) : noZ p (W.take (k + 1)) = noZ p (W.take k) ++ (if f % p ≠ 0 then [(nm, f % p)] else []) := by
  unfold noZ
  rw [List.take_add_one, h, List.filter_append, List.map_append]
  congr 1
  show List.map _ (List.filter _ [(nm, f)]) = _
  by_cases z : f % p ≠ 0
  · rw [List.filter_cons_of_pos (p := fun q : Str × Int => decide (q.2 % p ≠ 0)) (decide_eq_true z), if_pos z]
    rfl
  · rw [List.filter_cons_of_neg (p := fun q : Str × Int => decide (q.2 % p ≠ 0)) (by rw [decide_eq_false z]; decide), if_neg z]
    rfl
theorem put_new {W : SumZ} {nm : Str} {x : Int} (h : nm ∉ W.map (·.1)) : putK (kvsZ W) (Sum.inr nm : Key) (V.int x) = kvsZ (W ++ [(nm, x)]) := by
  unfold putK
  have e : ((kvsZ W).any fun kv => decide (kv.1 = (Sum.inr nm : Key))) = false := by
    rw [List.any_eq_false]
    intro q mq
    obtain ⟨r, mr, rfl⟩ := List.mem_map.mp mq
    intro z
    have z := of_decide_eq_true z
    exact h (List.mem_map.mpr ⟨r, mr, Sum.inr.inj z⟩)
  rw [if_neg (by rw [e]; decide)]
  unfold kvsZ
  rw [List.map_append]
  rfl
theorem noZ_names {p : Int} {W : SumZ} {nm : Str} (h : nm ∈ (noZ p W).map (·.1)) : nm ∈ W.map (·.1) := by
  obtain ⟨q, mq, rfl⟩ := List.mem_map.mp h
  obtain ⟨r, mr, rfl⟩ := List.mem_map.mp mq
  exact List.mem_map.mpr ⟨r, (List.mem_filter.mp mr).1, rfl⟩
theorem not_ahead {W : SumZ} {k : Nat} {q : Str × Int} (nd : (W.map (·.1)).Nodup) (h : W[k]? = some q) : q.1 ∉ (W.take k).map (·.1) := by
  intro m
  obtain ⟨r, mr, e⟩ := List.mem_map.mp m
  obtain ⟨i, hi, ei⟩ := List.mem_iff_getElem.mp mr
  rw [List.length_take] at hi
  rw [List.getElem_take] at ei
  have pw := List.pairwise_iff_getElem.mp nd
  obtain ⟨lk, ek⟩ := List.getElem?_eq_some_iff.mp h
  have z := pw i k (by rw [List.length_map]; omega) (by rw [List.length_map]; exact lk) (by omega)
  rw [List.getElem_map, List.getElem_map, ei, ek] at z
  exact z e
theorem noZ_len {p : Int} {W : SumZ} : (noZ p W).length ≤ W.length := by
  unfold noZ
  rw [List.length_map]
  exact List.length_filter_le _ _
theorem kvs_at {W : SumZ} {k : Nat} {u v : V} (h1 : ((kvsZ W)[k]?.map fun kv => kV kv.1) = some u) (h2 : (kvsZ W)[k]?.map Prod.snd = some v) : ∃ nm f, W[k]? = some (nm, f) ∧ u = .str nm ∧ v = .int f := by
  unfold kvsZ at h1 h2
  rw [List.getElem?_map] at h1 h2
  cases e : W[k]? with
  | none =>
    rw [e] at h1
    cases h1
  | some q =>
    rw [e] at h1 h2
    exact ⟨q.1, q.2, rfl, (Option.some.inj h1).symm, (Option.some.inj h2).symm⟩
abbrev sNoN : Stmt := topS 34
def spNoN : Sp := fun vs H Q _ => ∃ (a : Addr) (W : SumZ) (p : Int), vs = [.int p, .ref a] ∧ 0 < p ∧ Dct H a W ∧ (W.map (·.1)).Nodup ∧ W.length ≤ 1000 ∧ ∀ H' d, Same H H' → H d = none → Dct H' d (noZ p W) → Q (.ref d) H'
theorem scNoN : FnScope ["modulus", "wanted", "name", "factor"] ["modulus", "wanted"] (defScope sNoN) := ⟨rfl, rfl, rfl, by decide +kernel, rfl, by decide +kernel, by decide +kernel⟩
section
variable {P : Program} {w : World} {K : PySem.W.Frag} {mg : Str → Option Value} {base : Heap}
theorem ok_noN {f : Addr} {fd : FuncData} (F : Fun K "without_noughts" "without_noughts" sNoN f fd) : FnOk P w K mg base CX0 1 f fd ["modulus", "wanted"] spNoN := by
  refine F.ok scNoN (fun vs H Q E h => ?_) (fun cdv A outer s0 H vs Q E hr h => ?_)
  · obtain ⟨a, W, p, rfl, _⟩ := h
    rfl
  · obtain ⟨a, W, p, rfl, p0, ha, nd, hl, want⟩ := h
    refine ⟨_, (pss_one (ps_ret (pe_lock (pe_dc (own := [("name", 2), ("factor", 3)]) (g := (gTup K 2 (gCons (gName 2) (gCons (gName 3) gNil)))) (tt := tTru K (tOp (rI (fun _ j => 0 < j) fun i j => V.int (i % j)) (tVar 3) (tVar 0))) (tk := tVar 2) rfl scNoN.nd (pi_items (pv 1)) (blkOk_by (N := ["modulus", "wanted", "name", "factor"]) (sc := defScope sNoN) (by decide +kernel)) (fun _ _ _ _ _ => (pg_tup rfl (pgs_cons (pg_name (i := 2) scNoN.nd rfl (Or.inl rfl)) (pgs_cons (pg_name (i := 3) scNoN.nd rfl (Or.inl rfl)) pgs_nil)))) (fun _ _ _ _ _ => (pts_one (pt_truth (pe_op op_mod (pv 3) (pv 0)) (by intro _; rfl)))) (fun _ _ _ _ _ => pv 2) (fun _ _ _ _ _ => pe_op op_mod (pv 3) (pv 0)))))), ?_⟩
    refine ⟨a, .dK (kvsZ W), ha, trivial, fun od => ?_⟩
    refine ⟨_, rfl, a, od, kvsZ W, rfl, upd_same, fun D hD => ?_⟩
    have nDa : D ≠ a := fun e => by
      rw [e, upd_same] at hD
      cases hD
    have hD0 : H D = none := by
      rw [upd_ne nDa] at hD
      exact hD
    refine dc_go walk_items (fun k H' => (∀ b o, b ≠ a → H b = some o → H' b = some o) ∧ H' a = some (.frz od (.dK (kvsZ W))) ∧ H' D = some (.dK (kvsZ (noZ p (W.take k))))) ⟨fun b o nb e => ?_, ?_, ?_⟩ (fun k H' _ z => z.2.1) ?_ ?_
    · have n2 : b ≠ D := fun z => by
        rw [z, hD0] at e
        cases e
      rw [upd_ne n2, upd_ne nb]
      exact e
    · rw [upd_ne (Ne.symm nDa), upd_same]
    · rw [upd_same]
      rfl
    · intro k v H1 H2 hk z y
      obtain ⟨T, x, x2, rfl, hT, rfl, e1, e2⟩ := y
      obtain ⟨nm, fc, hw, rfl, rfl⟩ := kvs_at e1 e2
      obtain ⟨z1, z2, z3⟩ := z
      have sT := same_new (o := .tup [V.str nm, V.int fc]) hT
      refine ⟨T, _, rfl, SqT.of upd_same, rfl, _, _, rfl, _, _, rfl, rfl, rfl, ?_⟩
      have hs := noZ_snoc (p := p) hw
      have hk2 := (List.getElem?_eq_some_iff.mp hw).1
      by_cases q : fc % p = 0
      · rw [if_neg (fun h => h q), List.append_nil] at hs
        refine ⟨_, rfl, _, rfl, fc, p, rfl, rfl, p0, false, ?_, iteF ⟨fun b o nb e => sT _ _ (z1 b o nb e), sT _ _ z2, ?_⟩⟩
        · show false = (fc % p != 0)
          rw [q]
          rfl
        rw [hs]
        exact sT _ _ z3
      · rw [if_pos q] at hs
        refine ⟨_, rfl, _, rfl, fc, p, rfl, rfl, p0, true, (bne_iff_ne.mpr q).symm, iteT ?_⟩
        refine ⟨_, rfl, _, rfl, _, rfl, fc, p, rfl, rfl, p0, _, Sum.inr nm, rfl, sT _ _ z3, ?_, fun b o nb e => ?_, ?_, ?_⟩
        · have l := noZ_len (p := p) (W := W.take k)
          unfold kvsZ
          rw [List.length_map, sizeLine_eq]
          rw [List.length_take] at l
          omega
        · have n2 : b ≠ D := fun z => by
            rw [z, hD0] at e
            cases e
          rw [upd_ne n2]
          exact sT _ _ (z1 b o nb e)
        · rw [upd_ne (Ne.symm nDa)]
          exact sT _ _ z2
        · rw [upd_same, hs, put_new (fun m => not_ahead nd hw (noZ_names m))]
    · intro H1 z
      obtain ⟨z1, z2, z3⟩ := z
      refine ⟨z2, want _ D (fun b o e => ?_) hD0 ?_⟩
      · by_cases q : b = a
        · rw [q, upd_same]
          rw [q] at e
          exact ha.symm.trans e
        · rw [upd_ne q]
          exact z1 b o q e
      · show upd H1 a _ D = _
        rw [upd_ne nDa, z3]
        unfold kvsZ
        rw [List.length_map, List.take_of_length_le (Nat.le_refl _)]
end
end Vb
end L2

/-! StA: straight rows: two boxes by columns, and at numbers. -/
namespace StA
abbrev Fn := Nat → Int
inductive W6 where
  | set | copy | times | more | add | take
deriving DecidableEq
structure R where
  w : W6
  h : Nat
  n : Int
/-- column j alone -/
def E (j : Nat) : Fn := fun c => if c = j then 1 else 0
def pick {α : Type} (s : α × α) (h : Nat) : α := if h = 0 then s.1 else s.2
def put {α : Type} (s : α × α) (h : Nat) (f : α) : α × α := if h = 0 then (f, s.2) else (s.1, f)
/-- what a row makes of the two boxes' columns; the last column is the written numbers' one -/
def colR (last : Nat) (r : R) (s : Fn × Fn) : Fn := fun c => match r.w with
  | .set => r.n * E last c
  | .copy => pick s r.n.toNat c
  | .times => r.n * pick s r.h c
  | .more => pick s r.h c + r.n * E last c
  | .add => pick s r.h c + pick s r.n.toNat c
  | .take => E (2 + r.n.toNat) c
def stepF (p : Int) (last : Nat) (s : Fn × Fn) (r : R) : Fn × Fn := put s r.h fun c => colR last r s c % p
/-- and at numbers -/
def numR (p : Int) (nums : Nat → Int) (r : R) (x : Int × Int) : Int := match r.w with
  | .set => r.n
  | .copy => pick x r.n.toNat
  | .times => pick x r.h * r.n % p
  | .more => (pick x r.h + r.n) % p
  | .add => (pick x r.h + pick x r.n.toNat) % p
  | .take => nums r.n.toNat
def stepN (p : Int) (nums : Nat → Int) (x : Int × Int) (r : R) : Int × Int := put x r.h (numR p nums r x)
/-- a row that fits -/
def fits (p : Int) (cells : Nat) (r : R) : Prop := r.h < 2 ∧ 0 ≤ r.n ∧ r.n < (match r.w with
  | .set => p
  | .times => p
  | .more => p
  | .copy => 2
  | .add => 2
  | .take => (cells : Int))
/-- the number of a box: the last column and column j -/
def ev (p : Int) (last : Nat) (j : Option Nat) (f : Fn) : Int := (f last + (match j with
  | none => 0
  | some k => f k)) % p
section
variable {p : Int} {last cells : Nat} {j : Option Nat}
theorem ev_mod (g : Fn) : ev p last j (fun c => g c % p) = ev p last j g := by
  unfold ev
  cases j with
  | none =>
    show (g last % p + 0) % p = (g last + 0) % p
    rw [Int.add_zero, Int.add_zero, Int.emod_emod]
  | some k =>
    show (g last % p + g k % p) % p = (g last + g k) % p
    rw [← Int.add_emod]
theorem ev_range (p0 : 0 < p) (f : Fn) : 0 ≤ ev p last j f ∧ ev p last j f < p := ⟨Int.emod_nonneg _ (by omega), Int.emod_lt_of_pos _ p0⟩
theorem ev_add (f g : Fn) : ev p last j (fun c => f c + g c) = (ev p last j f + ev p last j g) % p := by
  unfold ev
  cases j with
  | none =>
    show (f last + g last + 0) % p = ((f last + 0) % p + (g last + 0) % p) % p
    rw [← Int.add_emod]
    congr 1
    omega
  | some k =>
    show (f last + g last + (f k + g k)) % p = ((f last + f k) % p + (g last + g k) % p) % p
    rw [← Int.add_emod]
    congr 1
    omega
theorem ev_mul (n : Int) (f : Fn) : ev p last j (fun c => n * f c) = ev p last j f * n % p := by
  unfold ev
  cases j with
  | none =>
    show (n * f last + 0) % p = (f last + 0) % p * n % p
    rw [Int.add_zero, Int.add_zero, Int.mul_comm n, Int.mul_emod (f last % p), Int.emod_emod, ← Int.mul_emod]
  | some k =>
    show (n * f last + n * f k) % p = (f last + f k) % p * n % p
    rw [← Int.mul_add, Int.mul_comm n, Int.mul_emod ((f last + f k) % p), Int.emod_emod, ← Int.mul_emod]
theorem ev_last (hj : ∀ k, j = some k → k ≠ last) (n : Int) (n0 : 0 ≤ n) (n1 : n < p) : ev p last j (fun c => n * E last c) = n := by
  have e : E last last = 1 := if_pos rfl
  unfold ev
  cases j with
  | none =>
    show (n * E last last + 0) % p = n
    rw [e, Int.mul_one, Int.add_zero, Int.emod_eq_of_lt n0 n1]
  | some k =>
    have z : E last k = 0 := if_neg (hj k rfl)
    show (n * E last last + n * E last k) % p = n
    rw [e, z, Int.mul_one, Int.mul_zero, Int.add_zero, Int.emod_eq_of_lt n0 n1]
theorem ev_col (p2 : 2 ≤ p) {i : Nat} (hi : i ≠ last) : ev p last j (E i) = if j = some i then 1 else 0 := by
  have z : E i last = 0 := if_neg (Ne.symm hi)
  unfold ev
  cases j with
  | none =>
    show (E i last + 0) % p = _
    rw [z, if_neg (fun h => by cases h)]
    exact Int.zero_emod p
  | some k =>
    show (E i last + E i k) % p = _
    rw [z, Int.zero_add]
    by_cases h : k = i
    · rw [h, if_pos rfl]
      show (if i = i then (1 : Int) else 0) % p = 1
      rw [if_pos rfl]
      exact Int.emod_eq_of_lt (by decide) (by omega)
    · rw [if_neg (fun q => h (Option.some.inj q))]
      show (if k = i then (1 : Int) else 0) % p = 0
      rw [if_neg h]
      exact Int.zero_emod p
theorem pick_map {α β : Type} (f : α → β) (s : α × α) (h : Nat) : pick (f s.1, f s.2) h = f (pick s h) := by
  unfold pick
  by_cases z : h = 0
  · rw [if_pos z, if_pos z]
  · rw [if_neg z, if_neg z]
theorem put_map {α β : Type} (f : α → β) (s : α × α) (h : Nat) (x : α) : put (f s.1, f s.2) h (f x) = (f (put s h x).1, f (put s h x).2) := by
  unfold put
  by_cases z : h = 0
  · rw [if_pos z, if_pos z]
  · rw [if_neg z, if_neg z]
/-- one row: the columns tell the numbers -/
theorem step_ev (p2 : 2 ≤ p) (hl : last = cells + 2) (hj : ∀ k, j = some k → k ≠ last) {r : R} (hr : fits p cells r) (s : Fn × Fn) {nums : Nat → Int} (hn : ∀ c, c < cells → nums c = if j = some (2 + c) then 1 else 0) :
    stepN p nums (ev p last j s.1, ev p last j s.2) r = (ev p last j (stepF p last s r).1, ev p last j (stepF p last s r).2) := by
  have p0 : 0 < p := by omega
  unfold stepN stepF
  have key : numR p nums r (ev p last j s.1, ev p last j s.2) = ev p last j (fun c => colR last r s c % p) := by
    rw [ev_mod]
    obtain ⟨w, h, n⟩ := r
    obtain ⟨h2, n0, n1⟩ := hr
    cases w with
    | set => exact (ev_last hj n n0 n1).symm
    | copy => exact pick_map (ev p last j) s n.toNat
    | times =>
      show pick (ev p last j s.1, ev p last j s.2) h * n % p = _
      rw [pick_map (ev p last j)]
      exact (ev_mul n _).symm
    | more =>
      show (pick (ev p last j s.1, ev p last j s.2) h + n) % p = _
      rw [pick_map (ev p last j)]
      have z := ev_add (p := p) (last := last) (j := j) (pick s h) (fun c => n * E last c)
      rw [ev_last hj n n0 n1] at z
      exact z.symm
    | add =>
      show (pick (ev p last j s.1, ev p last j s.2) h + pick (ev p last j s.1, ev p last j s.2) n.toNat) % p = _
      rw [pick_map (ev p last j), pick_map (ev p last j)]
      exact (ev_add _ _).symm
    | take =>
      have n1 : n < (cells : Int) := n1
      have n0 : 0 ≤ n := n0
      have hc : n.toNat < cells := by omega
      show nums n.toNat = ev p last j (E (2 + n.toNat))
      rw [hn _ hc, ev_col p2 (by omega)]
  rw [key, put_map]
theorem fold_ev (p2 : 2 ≤ p) (hl : last = cells + 2) (hj : ∀ k, j = some k → k ≠ last) {nums : Nat → Int} (hn : ∀ c, c < cells → nums c = if j = some (2 + c) then 1 else 0) : ∀ (rs : List R) (s : Fn × Fn), (∀ r ∈ rs, fits p cells r) →
    rs.foldl (stepN p nums) (ev p last j s.1, ev p last j s.2) = (ev p last j (rs.foldl (stepF p last) s).1, ev p last j (rs.foldl (stepF p last) s).2)
  | [], _, _ => rfl
  | r :: rs, s, h => by
    rw [List.foldl_cons, List.foldl_cons, step_ev p2 hl hj (h r List.mem_cons_self) s hn]
    exact fold_ev p2 hl hj hn rs _ fun x m => h x (List.mem_cons_of_mem _ m)
/-- columns are told by the numbers at none and at each column -/
theorem cols_eq (p0 : 0 < p) {L : Nat} (hL : L = last + 1) {f g : Fn} (hf : ∀ c, c < L → 0 ≤ f c ∧ f c < p) (hg : ∀ c, c < L → 0 ≤ g c ∧ g c < p) :
    (∀ c, c < L → f c = g c) ↔ ev p last none f = ev p last none g ∧ ∀ k, k < last → ev p last (some k) f = ev p last (some k) g := by
  constructor
  · intro h
    refine ⟨?_, fun k hk => ?_⟩
    · show (f last + 0) % p = (g last + 0) % p
      rw [h last (by omega)]
    · show (f last + f k) % p = (g last + g k) % p
      rw [h last (by omega), h k (by omega)]
  · rintro ⟨h0, h1⟩
    have l := hf last (by omega)
    have l' := hg last (by omega)
    have e : f last = g last := by
      have h0 : (f last + 0) % p = (g last + 0) % p := h0
      rw [Int.add_zero, Int.add_zero, Int.emod_eq_of_lt l.1 l.2, Int.emod_eq_of_lt l'.1 l'.2] at h0
      exact h0
    intro c hc
    by_cases q : c = last
    · rw [q]
      exact e
    · have k := h1 c (by omega)
      have k : (f last + f c) % p = (g last + g c) % p := k
      rw [e] at k
      have k := Int.emod_add_cancel_left.mp k
      have a := hf c hc
      have b := hg c hc
      rw [Int.emod_eq_of_lt a.1 a.2, Int.emod_eq_of_lt b.1 b.2] at k
      exact k
end
end StA

set_option Elab.async false
set_option linter.all false
set_option maxRecDepth 100000
set_option maxHeartbeats 8000000
/-! Vb, k30: what a row makes. -/
namespace L2
namespace Vb
open PySem PySem.Spec PyProof.Rows
def wordS : StA.W6 → Str
  | .set => "set"
  | .copy => "copy"
  | .times => "times"
  | .more => "more"
  | .add => "add"
  | .take => "take"
/-- the sum that the box of the row is made of -/
def told (p : Int) (R : StA.R) : SumZ := match R.w with
  | .set => noZ p [("", R.n)]
  | .copy => [(boxS R.n.toNat, 1)]
  | .times => noZ p [(boxS R.h, R.n)]
  | .more => noZ p [(boxS R.h, 1), ("", R.n)]
  | .add => if (R.h : Int) = R.n then noZ p [(boxS R.h, 2)] else [(boxS R.h, 1), (boxS R.n.toNat, 1)]
  | .take => [(cellS R.n.toNat, 1)]
theorem ifF2 {b : Bool} {A B : Prop} (e : b = false) (h : B) : if b = true then A else B := by
  rw [e]
  exact iteF h
theorem ifT2 {b : Bool} {A B : Prop} (e : b = true) (h : A) : if b = true then A else B := by
  rw [e]
  exact iteT h
theorem noW (w : StA.W6) {x : Str} (h : wordS w ≠ x) : decide (V.str (wordS w) = V.str x) = false := decide_eq_false fun e => h (V.str.inj e)
theorem yesW (w : StA.W6) {x : Str} (h : wordS w = x) : decide (V.str (wordS w) = V.str x) = true := decide_eq_true (congrArg V.str h)
theorem box_ne : ∀ b, b < 4 → boxS b ≠ "" := by decide +kernel
theorem box_inj : ∀ b, b < 4 → ∀ c, c < 4 → b ≠ c → boxS b ≠ boxS c := by decide +kernel
/-- a dict of one entry, of two -/
theorem merge_one (x : Str) (i : Int) : mergeK [] [((Sum.inr x : Key), V.int i)] = kvsZ [(x, i)] := rfl
theorem merge_two {x y : Str} (i j : Int) (h : x ≠ y) : mergeK [] [((Sum.inr x : Key), V.int i), ((Sum.inr y : Key), V.int j)] = kvsZ [(x, i), (y, j)] :=
  put_new (W := [(x, i)]) (nm := y) (x := j) fun m => h (List.mem_singleton.mp m).symm
def spChg : Sp := fun vs H Q _ => ∃ (r : Addr) (R : StA.R) (p : Int) (cells : Nat), vs = [.int p, .ref r, .int 0] ∧ 2 ≤ p ∧ StA.fits p cells R ∧ cells ≤ 8 ∧ H r = some (.tup [.str (wordS R.w), .int (R.h : Int), .int R.n]) ∧
  ∀ H' t d, Same H H' → H t = none → H' t = some (.tup [.str (boxS R.h), .ref d]) → Dct H' d (told p R) → Q (.ref t) H'
abbrev sChg : Stmt := topS 35
abbrev nChg : List Str := ["modulus", "row", "depth", "word", "first", "second", "box"]
theorem scChg : FnScope nChg ["modulus", "row", "depth"] (defScope sChg) := ⟨rfl, rfl, rfl, by decide +kernel, rfl, by decide +kernel, by decide +kernel⟩
-- cells set()
section
variable {P : Program} {w : World} {K : PySem.W.Frag} {mg : Str → Option Value} {base : Heap}
theorem ok_chg {f fname_of_box fname_of_cell fwithout_noughts : Addr} {fd fdname_of_box fdname_of_cell fdwithout_noughts : FuncData} (F : Fun K "change_of" "change_of" sChg f fd)
    (Fname_of_box : Fun K "name_of_box" "name_of_box" sBox fname_of_box fdname_of_box) (Gname_of_box : FnOk P w K mg base CX0 1 fname_of_box fdname_of_box ["box"] spBox) (gname_of_box : mg "name_of_box" = some (.ref fname_of_box))
    (Fname_of_cell : Fun K "name_of_cell" "name_of_cell" sCell fname_of_cell fdname_of_cell) (Gname_of_cell : FnOk P w K mg base CX0 1 fname_of_cell fdname_of_cell ["depth", "cell"] spCell) (gname_of_cell : mg "name_of_cell" = some (.ref fname_of_cell))
    (Fwithout_noughts : Fun K "without_noughts" "without_noughts" sNoN fwithout_noughts fdwithout_noughts) (Gwithout_noughts : FnOk P w K mg base CX0 1 fwithout_noughts fdwithout_noughts ["modulus", "wanted"] spNoN) (gwithout_noughts : mg "without_noughts" = some (.ref fwithout_noughts)) :
    FnOk P w K mg base CX0 2 f fd ["modulus", "row", "depth"] spChg := by
  have bname_of_box : Binds K fdname_of_box ["box"] [] := Fname_of_box.binds fun _ _ _ _ _ _ us hl => match us, hl with | [_], _ => rfl
  have bname_of_cell : Binds K fdname_of_cell ["depth", "cell"] [] := Fname_of_cell.binds fun _ _ _ _ _ _ us hl => match us, hl with | [_, _], _ => rfl
  have bwithout_noughts : Binds K fdwithout_noughts ["modulus", "wanted"] [] := Fwithout_noughts.binds fun _ _ _ _ _ _ us hl => match us, hl with | [_, _], _ => rfl
  refine F.ok scChg (fun vs H Q E h => ?_) (fun cdv A outer s0 H vs Q E hr h => ?_)
  · obtain ⟨r, R, p, cells, rfl, _⟩ := h
    rfl
  · obtain ⟨r, R, p, cells, rfl, p2, fit, c8, hr0, want⟩ := h
    refine ⟨_, (pss_cons (ps_asg (pv 1) (pg_tup rfl (pgs_cons (pg_name (i := 3) scChg.nd rfl (Or.inl rfl)) (pgs_cons (pg_name (i := 4) scChg.nd rfl (Or.inl rfl)) (pgs_cons (pg_name (i := 5) scChg.nd rfl (Or.inl rfl)) pgs_nil)))))
      (pss_cons (ps_if (pt_cmpR op_eq (pv 3) pe_str (nomark _))
        (pss_one (ps_ret (pe_tup (pa_cons (pe_call Gname_of_cell (hr.mono (by decide)) rfl gname_of_cell Fname_of_cell.kp bname_of_cell .nil pass0 (pa_cons (pv 2) (pa_cons (pv 4) pa_nil))) (pa_cons (pe_disp (pps_cons (pe_call Gname_of_box (hr.mono (by decide)) rfl gname_of_box Fname_of_box.kp bname_of_box .nil pass0 (pa_cons (pv 5) pa_nil)) pe_int pps_nil) (by rfl) (by rfl) (fun z => by cases z) (by decide)) pa_nil)))))
        pss_nil)
      (pss_cons (ps_if (pt_cmpR op_eq (pv 3) pe_str (nomark _))
        (pss_one (ps_ret (pe_tup (pa_cons (pe_call Gname_of_cell (hr.mono (by decide)) rfl gname_of_cell Fname_of_cell.kp bname_of_cell .nil pass0 (pa_cons pe_int (pa_cons (pv 4) pa_nil))) (pa_cons (pe_disp (pps_cons (pe_call Gname_of_box (hr.mono (by decide)) rfl gname_of_box Fname_of_box.kp bname_of_box .nil pass0 (pa_cons (pv 5) pa_nil)) pe_int pps_nil) (by rfl) (by rfl) (fun z => by cases z) (by decide)) pa_nil)))))
        pss_nil)
      (pss_cons (ps_set (i := 6) scChg.nd rfl (Or.inl rfl) (pe_call Gname_of_box (hr.mono (by decide)) rfl gname_of_box Fname_of_box.kp bname_of_box .nil pass0 (pa_cons (pv 4) pa_nil)))
      (pss_cons (ps_if (pt_cmpR op_eq (pv 3) pe_str (nomark _))
        (pss_one (ps_ret (pe_tup (pa_cons (pv 6) (pa_cons (pe_disp (pps_cons (pe_call Gname_of_cell (hr.mono (by decide)) rfl gname_of_cell Fname_of_cell.kp bname_of_cell .nil pass0 (pa_cons (pv 2) (pa_cons (pv 5) pa_nil))) pe_int pps_nil) (by rfl) (by rfl) (fun z => by cases z) (by decide)) pa_nil)))))
        pss_nil)
      (pss_cons (ps_if (pt_cmpR op_eq (pv 3) pe_str (nomark _))
        (pss_one (ps_ret (pe_tup (pa_cons (pv 6) (pa_cons (pe_disp (pps_cons (pe_call Gname_of_cell (hr.mono (by decide)) rfl gname_of_cell Fname_of_cell.kp bname_of_cell .nil pass0 (pa_cons pe_int (pa_cons (pv 5) pa_nil))) pe_int pps_nil) (by rfl) (by rfl) (fun z => by cases z) (by decide)) pa_nil)))))
        pss_nil)
      (pss_cons (ps_if (pt_cmpR op_eq (pv 3) pe_str (nomark _))
        (pss_one (ps_ret (pe_tup (pa_cons (pv 6) (pa_cons (pe_disp (pps_cons (pe_call Gname_of_box (hr.mono (by decide)) rfl gname_of_box Fname_of_box.kp bname_of_box .nil pass0 (pa_cons (pv 5) pa_nil)) pe_int pps_nil) (by rfl) (by rfl) (fun z => by cases z) (by decide)) pa_nil)))))
        pss_nil)
      (pss_cons (ps_if (pt_cmpR op_eq (pv 3) pe_str (nomark _))
        (pss_one (ps_ret (pe_tup (pa_cons (pv 6) (pa_cons (pe_call Gwithout_noughts (hr.mono (by decide)) rfl gwithout_noughts Fwithout_noughts.kp bwithout_noughts .nil pass0 (pa_cons (pv 0) (pa_cons (pe_disp (pps_cons pe_str (pv 5) pps_nil) (by rfl) (by rfl) (fun z => by cases z) (by decide)) pa_nil))) pa_nil)))))
        pss_nil)
      (pss_cons (ps_if (pt_cmpR op_eq (pv 3) pe_str (nomark _))
        (pss_one (ps_ret (pe_tup (pa_cons (pv 6) (pa_cons (pe_call Gwithout_noughts (hr.mono (by decide)) rfl gwithout_noughts Fwithout_noughts.kp bwithout_noughts .nil pass0 (pa_cons (pv 0) (pa_cons (pe_disp (pps_cons (pv 6) (pv 5) pps_nil) (by rfl) (by rfl) (fun z => by cases z) (by decide)) pa_nil))) pa_nil)))))
        pss_nil)
      (pss_cons (ps_if (pt_cmpR op_eq (pv 3) pe_str (nomark _))
        (pss_one (ps_ret (pe_tup (pa_cons (pv 6) (pa_cons (pe_call Gwithout_noughts (hr.mono (by decide)) rfl gwithout_noughts Fwithout_noughts.kp bwithout_noughts .nil pass0 (pa_cons (pv 0) (pa_cons (pe_disp (pps_cons (pv 6) pe_int (pps_cons pe_str (pv 5) pps_nil)) (by rfl) (by rfl) (fun z => by cases z) (by decide)) pa_nil))) pa_nil)))))
        pss_nil)
      (pss_one (ps_ret (pe_ifExp (pt_cmpR op_eq (pv 4) (pv 5) (nomark _)) (pe_tup (pa_cons (pv 6) (pa_cons (pe_call Gwithout_noughts (hr.mono (by decide)) rfl gwithout_noughts Fwithout_noughts.kp bwithout_noughts .nil pass0 (pa_cons (pv 0) (pa_cons (pe_disp (pps_cons (pv 6) pe_int pps_nil) (by rfl) (by rfl) (fun z => by cases z) (by decide)) pa_nil))) pa_nil))) (pe_tup (pa_cons (pv 6) (pa_cons (pe_disp (pps_cons (pv 6) pe_int (pps_cons (pe_call Gname_of_box (hr.mono (by decide)) rfl gname_of_box Fname_of_box.kp bname_of_box .nil pass0 (pa_cons (pv 5) pa_nil)) pe_int pps_nil)) (by rfl) (by rfl) (fun z => by cases z) (by decide)) pa_nil)))))))))))))))), ?_⟩
    refine ⟨_, rfl, r, _, rfl, SqT.of hr0, rfl, _, _, rfl, _, _, rfl, _, _, rfl, rfl, ?_⟩
    obtain ⟨wd, h, n⟩ := R
    obtain ⟨h2, n0, n1⟩ := fit
    have h2 : h < 2 := h2
    have n0 : 0 ≤ n := n0
    have fin : ∀ (H1 : Hp) (d : Addr), Same H H1 → Dct H1 d (told p ⟨wd, h, n⟩) → ∀ t, H1 t = none → Q (.ref t) (upd H1 t (.tup [.str (boxS h), .ref d])) := fun H1 d s1 hd t ht =>
      want _ t d (same_trans s1 (same_new ht)) (s1.free ht) upd_same (same_new ht _ _ hd)
    -- a dict just written
    have one : ∀ {H1 : Hp} {q : Addr} (W : SumZ), H1 q = none → Same H1 (upd (upd H1 q (.dK [])) q (.dK (kvsZ W))) ∧ Dct (upd (upd H1 q (.dK [])) q (.dK (kvsZ W))) q W := fun {H1 q} W hq => ⟨fun b o e => by
      have nb : b ≠ q := fun z => by
        rw [z, hq] at e
        cases e
      rw [upd_ne nb, upd_ne nb]
      exact e, upd_same⟩
    have sz : ∀ k, k ≤ 10 → k ≤ sizeLine := fun k hk => by
      rw [sizeLine_eq]
      omega
    cases wd with
    | set =>
      refine ⟨_, rfl, rfl, _, rfl, ifF2 (noW .set (by decide +kernel)) ?_⟩
      refine ⟨_, rfl, rfl, _, rfl, ifF2 (noW .set (by decide +kernel)) ?_⟩
      refine ⟨_, rfl, h, rfl, by omega, ?_⟩
      refine ⟨_, rfl, rfl, _, rfl, ifF2 (noW .set (by decide +kernel)) ?_⟩
      refine ⟨_, rfl, rfl, _, rfl, ifF2 (noW .set (by decide +kernel)) ?_⟩
      refine ⟨_, rfl, rfl, _, rfl, ifF2 (noW .set (by decide +kernel)) ?_⟩
      refine ⟨_, rfl, rfl, _, rfl, ifT2 (yesW .set (by decide +kernel)) ?_⟩
      refine ⟨_, rfl, _, rfl, fun q hq => ⟨_, rfl, upd_same, [(Sum.inr "", V.int n)], rfl, by show 1 ≤ 15; decide, ?_⟩⟩
      rw [merge_one]
      obtain ⟨s1, d1⟩ := one [("", n)] hq
      refine ⟨q, [("", n)], p, rfl, by omega, d1, List.nodup_cons.mpr ⟨by simp, List.nodup_nil⟩, by show 1 ≤ 1000; decide, fun H2 d s2 _ hd => ⟨sz _ (by show 2 ≤ 10; decide), fun t ht => fin H2 d (same_trans s1 s2) hd t ht⟩⟩
    | copy =>
      refine ⟨_, rfl, rfl, _, rfl, ifF2 (noW .copy (by decide +kernel)) ?_⟩
      refine ⟨_, rfl, rfl, _, rfl, ifF2 (noW .copy (by decide +kernel)) ?_⟩
      refine ⟨_, rfl, h, rfl, by omega, ?_⟩
      refine ⟨_, rfl, rfl, _, rfl, ifF2 (noW .copy (by decide +kernel)) ?_⟩
      refine ⟨_, rfl, rfl, _, rfl, ifF2 (noW .copy (by decide +kernel)) ?_⟩
      refine ⟨_, rfl, rfl, _, rfl, ifT2 (yesW .copy (by decide +kernel)) ?_⟩
      have n1 : n < 2 := n1
      refine ⟨_, rfl, fun q hq => ⟨_, rfl, n.toNat, ?_, by omega, ?_⟩⟩
      · show [V.int n] = _
        rw [Int.toNat_of_nonneg n0]
      refine ⟨upd_same, [(Sum.inr (boxS n.toNat), V.int 1)], rfl, by show 1 ≤ 15; decide, ?_⟩
      rw [merge_one]
      obtain ⟨s1, d1⟩ := one [(boxS n.toNat, 1)] hq
      exact ⟨sz _ (by show 2 ≤ 10; decide), fun t ht => fin _ q s1 d1 t ht⟩
    | times =>
      refine ⟨_, rfl, rfl, _, rfl, ifF2 (noW .times (by decide +kernel)) ?_⟩
      refine ⟨_, rfl, rfl, _, rfl, ifF2 (noW .times (by decide +kernel)) ?_⟩
      refine ⟨_, rfl, h, rfl, by omega, ?_⟩
      refine ⟨_, rfl, rfl, _, rfl, ifF2 (noW .times (by decide +kernel)) ?_⟩
      refine ⟨_, rfl, rfl, _, rfl, ifF2 (noW .times (by decide +kernel)) ?_⟩
      refine ⟨_, rfl, rfl, _, rfl, ifF2 (noW .times (by decide +kernel)) ?_⟩
      refine ⟨_, rfl, rfl, _, rfl, ifF2 (noW .times (by decide +kernel)) ?_⟩
      refine ⟨_, rfl, rfl, _, rfl, ifT2 (yesW .times (by decide +kernel)) ?_⟩
      refine ⟨_, rfl, _, rfl, fun q hq => ⟨_, rfl, _, rfl, upd_same, [(Sum.inr (boxS h), V.int n)], rfl, by show 1 ≤ 15; decide, ?_⟩⟩
      rw [merge_one]
      obtain ⟨s1, d1⟩ := one [(boxS h, n)] hq
      refine ⟨q, [(boxS h, n)], p, rfl, by omega, d1, List.nodup_cons.mpr ⟨by simp, List.nodup_nil⟩, by show 1 ≤ 1000; decide, fun H2 d s2 _ hd => ⟨sz _ (by show 2 ≤ 10; decide), fun t ht => fin H2 d (same_trans s1 s2) hd t ht⟩⟩
    | more =>
      refine ⟨_, rfl, rfl, _, rfl, ifF2 (noW .more (by decide +kernel)) ?_⟩
      refine ⟨_, rfl, rfl, _, rfl, ifF2 (noW .more (by decide +kernel)) ?_⟩
      refine ⟨_, rfl, h, rfl, by omega, ?_⟩
      refine ⟨_, rfl, rfl, _, rfl, ifF2 (noW .more (by decide +kernel)) ?_⟩
      refine ⟨_, rfl, rfl, _, rfl, ifF2 (noW .more (by decide +kernel)) ?_⟩
      refine ⟨_, rfl, rfl, _, rfl, ifF2 (noW .more (by decide +kernel)) ?_⟩
      refine ⟨_, rfl, rfl, _, rfl, ifF2 (noW .more (by decide +kernel)) ?_⟩
      refine ⟨_, rfl, rfl, _, rfl, ifF2 (noW .more (by decide +kernel)) ?_⟩
      refine ⟨_, rfl, rfl, _, rfl, ifT2 (yesW .more (by decide +kernel)) ?_⟩
      have bn : boxS h ≠ "" := box_ne h (by omega)
      refine ⟨_, rfl, _, rfl, fun q hq => ⟨_, rfl, _, rfl, upd_same, [(Sum.inr (boxS h), V.int 1), (Sum.inr "", V.int n)], rfl, by show 2 ≤ 15; decide, ?_⟩⟩
      rw [merge_two _ _ bn]
      obtain ⟨s1, d1⟩ := one [(boxS h, 1), ("", n)] hq
      refine ⟨q, [(boxS h, 1), ("", n)], p, rfl, by omega, d1, List.nodup_cons.mpr ⟨fun m => bn (List.mem_singleton.mp m), List.nodup_cons.mpr ⟨by simp, List.nodup_nil⟩⟩, by show 2 ≤ 1000; decide, fun H2 d s2 _ hd => ⟨sz _ (by show 2 ≤ 10; decide), fun t ht => fin H2 d (same_trans s1 s2) hd t ht⟩⟩
    | add =>
      refine ⟨_, rfl, rfl, _, rfl, ifF2 (noW .add (by decide +kernel)) ?_⟩
      refine ⟨_, rfl, rfl, _, rfl, ifF2 (noW .add (by decide +kernel)) ?_⟩
      refine ⟨_, rfl, h, rfl, by omega, ?_⟩
      refine ⟨_, rfl, rfl, _, rfl, ifF2 (noW .add (by decide +kernel)) ?_⟩
      refine ⟨_, rfl, rfl, _, rfl, ifF2 (noW .add (by decide +kernel)) ?_⟩
      refine ⟨_, rfl, rfl, _, rfl, ifF2 (noW .add (by decide +kernel)) ?_⟩
      refine ⟨_, rfl, rfl, _, rfl, ifF2 (noW .add (by decide +kernel)) ?_⟩
      refine ⟨_, rfl, rfl, _, rfl, ifF2 (noW .add (by decide +kernel)) ?_⟩
      refine ⟨_, rfl, rfl, _, rfl, ifF2 (noW .add (by decide +kernel)) ?_⟩
      have n1 : n < 2 := n1
      refine ⟨_, rfl, _, rfl, rfl, _, rfl, ?_⟩
      by_cases q : (h : Int) = n
      · have et : told p ⟨.add, h, n⟩ = noZ p [(boxS h, 2)] := if_pos q
        refine ifT2 (decide_eq_true (congrArg V.int q)) ?_
        refine ⟨_, rfl, _, rfl, fun q hq => ⟨_, rfl, upd_same, [(Sum.inr (boxS h), V.int 2)], rfl, by show 1 ≤ 15; decide, ?_⟩⟩
        rw [merge_one]
        obtain ⟨s1, d1⟩ := one [(boxS h, 2)] hq
        refine ⟨q, [(boxS h, 2)], p, rfl, by omega, d1, List.nodup_cons.mpr ⟨by simp, List.nodup_nil⟩, by show 1 ≤ 1000; decide, fun H2 d s2 _ hd => ⟨sz _ (by show 2 ≤ 10; decide), fun t ht => fin H2 d (same_trans s1 s2) (by rw [et]; exact hd) t ht⟩⟩
      · have et : told p ⟨.add, h, n⟩ = [(boxS h, 1), (boxS n.toNat, 1)] := if_neg q
        refine ifF2 (decide_eq_false fun e => q (V.int.inj e)) ?_
        have bn : boxS h ≠ boxS n.toNat := box_inj h (by omega) n.toNat (by omega) (by omega)
        refine ⟨_, rfl, fun q hq => ⟨_, rfl, _, rfl, n.toNat, ?_, by omega, ?_⟩⟩
        · show [V.int n] = _
          rw [Int.toNat_of_nonneg n0]
        refine ⟨upd_same, [(Sum.inr (boxS h), V.int 1), (Sum.inr (boxS n.toNat), V.int 1)], rfl, by show 2 ≤ 15; decide, ?_⟩
        rw [merge_two _ _ bn]
        obtain ⟨s1, d1⟩ := one [(boxS h, 1), (boxS n.toNat, 1)] hq
        exact ⟨sz _ (by show 2 ≤ 10; decide), fun t ht => fin _ q s1 (by rw [et]; exact d1) t ht⟩
    | take =>
      refine ⟨_, rfl, rfl, _, rfl, ifF2 (noW .take (by decide +kernel)) ?_⟩
      refine ⟨_, rfl, rfl, _, rfl, ifF2 (noW .take (by decide +kernel)) ?_⟩
      refine ⟨_, rfl, h, rfl, by omega, ?_⟩
      refine ⟨_, rfl, rfl, _, rfl, ifT2 (yesW .take (by decide +kernel)) ?_⟩
      have n1 : n < (cells : Int) := n1
      refine ⟨_, rfl, fun q hq => ⟨_, rfl, _, rfl, n.toNat, ?_, by omega, ?_⟩⟩
      · show [V.int 0, V.int n] = _
        rw [Int.toNat_of_nonneg n0]
      refine ⟨upd_same, [(Sum.inr (cellS n.toNat), V.int 1)], rfl, by show 1 ≤ 15; decide, ?_⟩
      rw [merge_one]
      obtain ⟨s1, d1⟩ := one [(cellS n.toNat, 1)] hq
      exact ⟨sz _ (by show 2 ≤ 10; decide), fun t ht => fin _ q s1 d1 t ht⟩
end
end Vb
end L2

set_option Elab.async false
set_option linter.all false
set_option maxRecDepth 100000
set_option maxHeartbeats 4000000
/-! Vb, part 11: inverse, combined. -/
namespace L2
namespace Vb
open PySem PySem.Spec PyProof.Rows
section
variable {P : Program} {w : World} {K : PySem.W.Frag} {mg : Str → Option Value} {base : Heap}
def spReqV : Sp := fun vs H Q _ => ∃ (p : Int) (m : Addr) (as : List Addr) (T : List (List Int)) (L : Nat), vs = [.int p, .ref m] ∧ H m = some (.lst (as.map V.ref)) ∧ Rws H as T ∧ (∀ xs ∈ T, Vc p L xs) ∧ L ≤ 1000 ∧ T.length ≤ 1000 ∧ ∀ H', Same H H' → Q .non H'
def spReqS : Sp := fun vs H Q _ => ∃ (p : Int) (m : Addr) (as : List Addr) (T : List (List Int)) (L : Nat), vs = [.int p, .ref m] ∧ H m = some (.lst (as.map V.ref)) ∧ Rws H as T ∧ (∀ xs ∈ T, Vc p L xs) ∧ L ≤ 1000 ∧ T.length ≤ 1000 ∧ 0 < T.length ∧ ∀ H', Same H H' → Q .non H'
def spInv : Sp := fun vs H Q _ => ∃ p a : Nat, vs = [.int (p : Int), .int (a : Int)] ∧ (p : Int) ∈ goods ∧ 0 < a ∧ a < p ∧ ∀ H', Same H H' → Q (.int ((a ^ (p - 2) % p : Nat) : Int)) H'
end
end Vb
end L2

set_option Elab.async false
set_option linter.all false
set_option maxRecDepth 100000
set_option maxHeartbeats 4000000
/-! Vb, part 12: combined. -/
namespace L2
namespace Vb
open PySem PySem.Spec PyProof.Rows
section
variable {P : Program} {w : World} {K : PySem.W.Frag} {mg : Str → Option Value} {base : Heap}
def spComb : Sp := fun vs H Q _ => ∃ (p : Int) (m b : Addr) (L : Nat) (as : List Addr) (T : List (List Int)) (fs : List Int), vs = [.int p, .ref m, .ref b] ∧ p ∈ goods ∧ H m = some (.lst (as.map V.ref)) ∧ Rws H as T ∧ (∀ xs ∈ T, Vc p L xs) ∧ Rw H b fs ∧ Vc p T.length fs ∧ L ≤ 1000 ∧ T.length ≤ 1000 ∧ 0 < T.length ∧
  ∀ (H' : Hp) (d : Addr), Same H H' → H d = none → Rw H' d (addZ p T fs L) → Q (.ref d) H'
end
end Vb
end L2

set_option Elab.async false
set_option linter.all false
set_option maxRecDepth 100000
set_option maxHeartbeats 4000000
/-! VbZipN: zip of as many lists as there are. -/
namespace ZN
open PySem
open PySem.Sem (wp)
theorem sizeN : sizeLine = 16777216 := rfl
theorem typeCall_n (args : List Value) : checkTypeCall "zip" ⟨args, []⟩ = pure () := by kernel_rfl
theorem newCall_n (args : List Value) : checkBuiltinCall "zip.__new__" ⟨.type "zip" :: args, []⟩ = pure () := by
  cases args with
  | nil => kernel_rfl
  | cons a as => kernel_rfl
theorem args_n (obj : Value) (args : List Value) : argsOk "object.__init__" ⟨obj :: args, []⟩ := by
  unfold argsOk; rw [signature?_of (id := "object.__init__") (n := ['_', '_', 't', 'i', 'n', 'i', '_', '_']) (o := ['t', 'c', 'e', 'j', 'b', 'o']) (by kernel_rfl) F.owner_object]; kernel_rfl
abbrev IsZipN (h : Heap) (z TI TO : Addr) (f0 f1 : Value) : Prop :=
  h.get? z = some { cls := .type "zip", dict := none, data := .fields #[f0, f1, .bool false, .ref TI, .ref TO], slots := #[] }
abbrev IsTupN (h : Heap) (T : Addr) (vs : Array Value) : Prop := h.get? T = some { cls := .type "tuple", data := .seq vs }
section
variable {M : Model} {A : Around} {E : Value → Shared → Prop}
/-- a for over a list, by what holds at each turn -/
theorem forIn_inv {α β : Type} {l : List α} {f : α → β → Sem (ForInStep β)} (I : Nat → β → Shared → Prop) {Q : β → Shared → Prop} {b : β} {s : Shared}
    (h0 : I 0 b s) (hs : ∀ k x b s, l[k]? = some x → I k b s → wpAny M A (f x b) (fun r s' => match r with | .yield b' => I (k + 1) b' s' | .done b' => Q b' s') E s) (hq : ∀ b s, I l.length b s → Q b s) :
    wpAny M A (forIn l b f) Q E s := by
  have key : ∀ (m : List α) (k : Nat) (b : β) (s : Shared), l.drop k = m → k ≤ l.length → I k b s → wpAny M A (forIn m b f) Q E s := by
    intro m
    induction m with
    | nil =>
      intro k b s e hk hi
      rw [List.forIn_nil]
      have hk2 : l.length ≤ k := List.drop_eq_nil_iff.mp e
      have q : k = l.length := by omega
      subst q
      exact wpAny_pure (hq b s hi)
    | cons x m ih =>
      intro k b s e hk hi
      rw [List.forIn_cons]
      have hx : l[k]? = some x := by
        have z := congrArg (fun y => y[0]?) e
        simp at z
        exact z
      have kl := (List.getElem?_eq_some_iff.mp hx).1
      refine wpAny_bind (wpAny_mono (hs k x b s hx hi) (fun r s' q => ?_) fun e s' q => q)
      cases r with
      | done b' => exact wpAny_pure q
      | yield b' =>
        refine ih (k + 1) b' s' ?_ kl q
        have z := congrArg List.tail e
        rw [List.tail_drop] at z
        exact z
  exact key l 0 b s rfl (Nat.zero_le _) h0
end
section
variable {prog : Program} {w : World} {A : Around} {E : Value → Shared → Prop} {s : Shared}
/-- iterators of lists, one after the other -/
def Its (h : Heap) (is ls : List Addr) (c : Nat → Nat) : Prop := is.length = ls.length ∧ ∀ j i l, is[j]? = some i → ls[j]? = some l → h.IsListIter i l (c j)
theorem iterAll_lists {ls : List Addr} {Q : List Value → Shared → Prop} (hl : ∀ l ∈ ls, ∃ xs, s.heap.IsList l xs)
    (h : ∀ h' : Heap, Its h' (List.range' s.heap.objs.size ls.length) ls (fun _ => 0) → h'.objs.size = s.heap.objs.size + ls.length → (∀ c o, s.heap.get? c = some o → h'.get? c = some o) →
      Q ((List.range' s.heap.objs.size ls.length).map Value.ref) { s with heap := h' }) :
    wpAny (model prog w) A (Builtin.SmallTypes.iterAll (ls.map Value.ref)) Q E s := by
  unfold Builtin.SmallTypes.iterAll
  refine wpAny_bind ?_
  refine forIn_inv (I := fun k b s' => ∃ h' : Heap, s' = { s with heap := h' } ∧ b = ((List.range' s.heap.objs.size k).map Value.ref).toArray ∧ Its h' (List.range' s.heap.objs.size k) (ls.take k) (fun _ => 0) ∧ h'.objs.size = s.heap.objs.size + k ∧ ∀ c o, s.heap.get? c = some o → h'.get? c = some o)
    ⟨s.heap, rfl, rfl, ⟨rfl, fun j i l e => nomatch e⟩, rfl, fun c o e => e⟩ ?_ ?_
  · rintro k x b s' hx ⟨h', rfl, rfl, it, sz, kp⟩
    rw [List.getElem?_map] at hx
    obtain ⟨l, hx2, rfl⟩ := Option.map_eq_some_iff.mp hx
    obtain ⟨xs, o, ho, r⟩ := hl l (List.mem_of_getElem? hx2)
    have hl' : h'.IsList l xs := ⟨o, kp _ _ ho, r⟩
    refine wpAny_bind (wpAny_holding (wpAny_pyIter_list hl' (wpAny_pure ?_)))
    refine ⟨_, rfl, ?_, ⟨?_, fun j i l' h1 h2 => ?_⟩, ?_, fun c o e => Heap.get?_push_of_some _ (kp c o e)⟩
    · show Array.push _ (Value.ref h'.objs.size) = _
      rw [sz, List.range'_concat, List.map_append]
      simp
    · rw [List.length_range', List.length_take]
      have := (List.getElem?_eq_some_iff.mp hx2).1
      omega
    · have kl := (List.getElem?_eq_some_iff.mp hx2).1
      have jk : j < k + 1 := by
        have := (List.getElem?_eq_some_iff.mp h1).1
        rw [List.length_range'] at this
        exact this
      rw [List.getElem?_range' jk] at h1
      rw [List.getElem?_take, if_pos jk] at h2
      by_cases q : j < k
      · obtain ⟨o2, e1, e2⟩ := it.2 j i l' (by rw [List.getElem?_range' q]; exact h1) (by rw [List.getElem?_take, if_pos q]; exact h2)
        exact ⟨o2, Heap.get?_push_of_some _ e1, e2⟩
      · have e : j = k := by omega
        subst e
        rw [hx2] at h2
        cases h2
        have e2 : i = h'.objs.size := by
          have z := Option.some.inj h1
          rw [sz, ← z, Nat.one_mul]
        rw [e2]
        exact ⟨_, Heap.get?_push_size _ rfl, rfl, rfl⟩
    · show (h'.push _).objs.size = _
      rw [Heap.size_push, sz]
      omega
  · rintro b s' ⟨h', rfl, rfl, it, sz, kp⟩
    refine wpAny_pure ?_
    rw [List.length_map] at it sz ⊢
    rw [List.take_of_length_le (Nat.le_refl _)] at it
    exact h h' it sz kp
/-- nothing of the zip's is another thing of it, or a list -/
structure ApartN (z TI TO : Addr) (is ls : List Addr) : Prop where
  TIz : TI ≠ z
  TOz : TO ≠ z
  TITO : TI ≠ TO
  iz : ∀ i ∈ is, i ≠ z
  iTI : ∀ i ∈ is, i ≠ TI
  iTO : ∀ i ∈ is, i ≠ TO
  nd : is.Nodup
  lz : ∀ l ∈ ls, l ≠ z ∧ l ≠ TO ∧ ∀ i ∈ is, l ≠ i
/-- the zip between two turns, behind c of them -/
structure StN (h : Heap) (z TI TO : Addr) (is ls : List Addr) (c : Nat) : Prop where
  zip : ∃ f0 f1, IsZipN h z TI TO f0 f1 ∧ (f0 = .none ∨ ∃ a : Int, f0 = rawInt a)
  ti : IsTupN h TI (is.map Value.ref).toArray
  to : ∃ vs : Array Value, IsTupN h TO vs ∧ vs.size = is.length
  its : Its h is ls fun _ => c
theorem wpAny_loadIfAlive {M : Model} {a : Addr} {Q : Option Obj → Shared → Prop} (h : Q (s.heap.get? a) s) : wpAny M A (loadIfAlive a) Q E s := by
  intro Γ p _
  unfold loadIfAlive
  rw [Sem.wp_loadIfAlive]
  exact h
theorem free_of {z TI TO : Addr} {f0 f1 : Value} {Q : Bool → Shared → Prop} (hz : IsZipN s.heap z TI TO f0 f1) (hf : f0 = .none ∨ ∃ a : Int, f0 = rawInt a)
    (h : ∀ (b : Bool) (h' : Heap) (f1' : Value), IsZipN h' z TI TO f0 f1' → Heap.SameBut z s.heap h' → Q b { s with heap := h' }) :
    wpAny (model prog w) A (Builtin.SmallTypes.ownedTupleIsFree (.ref z)) Q E s := by
  unfold Builtin.SmallTypes.ownedTupleIsFree
  rcases hf with rfl | ⟨a, rfl⟩
  · exact wpAny_bind (wpAny_field hz rfl (x := .none) rfl (wpAny_pure (h true s.heap f1 hz (Heap.SameBut.refl _ _))))
  · refine wpAny_bind (wpAny_field hz rfl (x := rawInt a) rfl ?_)
    refine wpAny_bind (wpAny_loadIfAlive ?_)
    cases q : s.heap.get? a.toNat with
    | none => exact wpAny_pure (h true s.heap f1 hz (Heap.SameBut.refl _ _))
    | some o =>
      refine wpAny_bind (wpAny_field hz rfl (x := f1) rfl ?_)
      by_cases q : (f1 != Value.bool true) = true
      · simp only [q, if_true]
        refine wpAny_bind (wpAny_setField_rec hz (by simp) fun h₁ hz₁ hs₁ => wpAny_pure (h false h₁ (.bool true) hz₁ hs₁))
      · simp only [q]
        exact wpAny_pure (h false s.heap f1 hz (Heap.SameBut.refl _ _))
/-- what is drawn at turn c -/
def DrawsN (h : Heap) (ls : List Addr) (c : Nat) (ys : List Value) : Prop := ys.length = ls.length ∧ ∀ (j : Nat) (l : Addr), ls[j]? = some l → ∃ (xs : Array Value) (y : Value), h.IsList l xs ∧ xs[c]? = some y ∧ ys[j]? = some y
theorem take_snoc {ys : List Value} {k : Nat} {y : Value} (h : ys[k]? = some y) : (ys.take k).toArray.push y = (ys.take (k + 1)).toArray := by
  rw [List.take_succ, h]
  simp
theorem its_step {h h' : Heap} {is ls : List Addr} {k c : Nat} {i l : Addr} (nd : is.Nodup) (hx : is[k]? = some i) (hl : ls[k]? = some l) (it : ∀ j i l, is[j]? = some i → ls[j]? = some l → h.IsListIter i l (if j < k then c + 1 else c))
    (n : h'.IsListIter i l (c + 1)) (hs : Heap.SameBut i h h') : ∀ j i l, is[j]? = some i → ls[j]? = some l → h'.IsListIter i l (if j < k + 1 then c + 1 else c) := by
  intro j i' l' e1 e2
  by_cases q : j = k
  · subst q
    rw [hx] at e1
    rw [hl] at e2
    cases e1
    cases e2
    rw [if_pos (Nat.lt_succ_self j)]
    exact n
  · have ne : i' ≠ i := fun e => by
      subst e
      obtain ⟨l1, x1⟩ := List.getElem?_eq_some_iff.mp hx
      obtain ⟨l2, x2⟩ := List.getElem?_eq_some_iff.mp e1
      have pw := List.pairwise_iff_getElem.mp (show is.Pairwise (· ≠ ·) from nd)
      rcases Nat.lt_or_gt_of_ne q with r | r
      · exact pw j k l2 l1 r (x2.trans x1.symm)
      · exact pw k j l1 l2 r (x1.trans x2.symm)
    have z := it j i' l' e1 e2
    have e3 : (if j < k + 1 then c + 1 else c) = (if j < k then c + 1 else c) := by
      by_cases r : j < k
      · rw [if_pos r, if_pos (by omega)]
      · rw [if_neg r, if_neg (by omega)]
    rw [e3]
    exact z.extBut hs.extBut ne
theorem its_all {h : Heap} {is ls : List Addr} {c : Nat} (e : is.length = ls.length) (it : ∀ j i l, is[j]? = some i → ls[j]? = some l → h.IsListIter i l (if j < is.length then c + 1 else c)) : Its h is ls fun _ => c + 1 := ⟨e, fun j i l h1 h2 => by
  have z := it j i l h1 h2
  rw [if_pos (List.getElem?_eq_some_iff.mp h1).1] at z
  exact z⟩
theorem list_kept {h h' : Heap} {l : Addr} {xs : Array Value} (hl : h.IsList l xs) (k : ∀ o, h.get? l = some o → h'.get? l = some o) : h'.IsList l xs := by
  obtain ⟨o, ho, r⟩ := hl
  exact ⟨o, k _ ho, r⟩
theorem updateSeq_tup {T : Addr} {us : Array Value} {x : Value} {k : Nat} {Q : Unit → Shared → Prop} (hT : IsTupN s.heap T us) (hz : us.size ≤ 1000)
    (h : ∀ h' : Heap, IsTupN h' T (us.setIfInBounds k x) → Heap.SameBut T s.heap h' → Q () { s with heap := h' }) : wpAny (model prog w) A (updateSeq T (·.setIfInBounds k x)) Q E s := by
  refine wpAny_updateSeq hT rfl (h _ ?_ (Heap.SameBut.update ..)) (by rw [sizeN]; omega) (by rw [Array.size_setIfInBounds, sizeN]; omega)
  show (s.heap.update T _).get? T = _
  rw [Heap.get?_update_self _ hT rfl]
  simp [Obj.mapSeq]
theorem next_item {z TI TO : Addr} {is ls : List Addr} {c : Nat} {ys : List Value} {Q : Fin → Shared → Prop} (D : ApartN z TI TO is ls) (hne : is ≠ []) (small : is.length ≤ 1000) (st : StN s.heap z TI TO is ls c) (hd : DrawsN s.heap ls c ys)
    (hQ : ∀ h' : Heap, StN h' z TI TO is ls (c + 1) → IsTupN h' s.heap.objs.size ys.toArray → h'.objs.size = s.heap.objs.size + 1 → (∀ b o, b ≠ z → b ≠ TO → b ∉ is → s.heap.get? b = some o → h'.get? b = some o) →
      Q (.done (.ret (.ref s.heap.objs.size))) { s with heap := h' }) :
    wpAny (model prog w) A (Builtin.«zip.__next__» ⟨[.ref z], []⟩) Q E s := by
  obtain ⟨⟨f0, f1, hz, hf⟩, hTI, ⟨vs, hTO, vsz⟩, hi⟩ := st
  show wpAny _ _ (field (.ref z) 2 >>= _) _ _ _
  refine wpAny_bind (wpAny_field hz rfl (x := .bool false) rfl ?_)
  show wpAny _ _ (field (.ref z) 3 >>= _) _ _ _
  refine wpAny_bind (wpAny_field hz rfl (x := .ref TI) rfl ?_)
  refine wpAny_bind (wpAny_seqItems hTI rfl ?_)
  have e0 : (is.map Value.ref).toArray.isEmpty = false := by
    cases is with
    | nil => exact absurd rfl hne
    | cons x xs => rfl
  simp only [e0]
  show wpAny _ _ (Builtin.SmallTypes.ownedTupleIsFree (.ref z) >>= _) _ _ _
  refine wpAny_bind (free_of hz hf fun b h' f1' hz' hs' => ?_)
  cases b with
  | false =>
    simp only [Bool.false_eq_true, if_false]
    refine wpAny_bind ?_
    rw [List.forIn_toArray]
    refine forIn_inv (I := fun k b s' => ∃ h2 : Heap, s' = { s with heap := h2 } ∧ b = (none, (ys.take k).toArray) ∧ IsZipN h2 z TI TO f0 f1' ∧ (∀ j i l, is[j]? = some i → ls[j]? = some l → h2.IsListIter i l (if j < k then c + 1 else c)) ∧ h2.objs.size = s.heap.objs.size ∧ ∀ b o, b ≠ z → b ∉ is → s.heap.get? b = some o → h2.get? b = some o)
      ⟨h', rfl, rfl, hz', fun j i l e1 e2 => ?_, hs'.1, fun b o n1 _ e => hs'.extBut _ _ n1 e⟩ ?_ ?_
    · rw [if_neg (Nat.not_lt_zero j)]
      exact (hi.2 j i l e1 e2).extBut hs'.extBut (D.iz i (List.mem_of_getElem? e1))
    · rintro k x b s' hx ⟨h2, rfl, rfl, hz2, it2, sz2, kp2⟩
      rw [List.getElem?_map] at hx
      obtain ⟨i, hx2, rfl⟩ := Option.map_eq_some_iff.mp hx
      have kl := (List.getElem?_eq_some_iff.mp hx2).1
      have hlk : ls[k]? = some (ls[k]'(by have := hi.1; omega)) := List.getElem?_eq_getElem _
      generalize ls[k]'(by have := hi.1; omega) = l at hlk
      obtain ⟨xs, y, l1, l2, l3⟩ := hd.2 k l hlk
      have lm := D.lz l (List.mem_of_getElem? hlk)
      have hit := it2 k i l hx2 hlk
      rw [if_neg (Nat.lt_irrefl k)] at hit
      refine wpAny_bind (wpAny_holding ?_)
      show wpAny _ _ (Builtin.SmallTypes.nextOf (.ref i) >>= _) _ _ _
      refine wpAny_bind (wpAny_nextOf_list_item hit (list_kept l1 fun o e => kp2 l o lm.1 (fun m => lm.2.2 l m rfl) e) l2 fun h3 hi3 hs3 => wpAny_pure ?_)
      refine wpAny_pure ?_
      have im := List.mem_of_getElem? hx2
      refine ⟨h3, rfl, ?_, hs3.extBut _ _ (Ne.symm (D.iz i im)) hz2, its_step D.nd hx2 hlk it2 hi3 hs3, hs3.1.trans sz2, fun b o n1 n2 e => hs3.extBut _ _ (fun q => n2 (q ▸ im)) (kp2 b o n1 n2 e)⟩
      show (none, (ys.take k).toArray.push y) = _
      rw [take_snoc l3]
    · rintro b s' ⟨h2, rfl, rfl, hz2, it2, sz2, kp2⟩
      rw [List.length_map] at it2 ⊢
      rw [List.take_of_length_le (by have := hd.1; have := hi.1; omega)]
      refine wpAny_bind (wpAny_newTuple ?_ (by show ys.length ≤ sizeLine; rw [hd.1, ← hi.1, sizeN]; omega))
      refine wpAny_pure ?_
      have e4 : (ys.toArray.toList).toArray = ys.toArray := rfl
      rw [sz2]
      refine hQ _ ⟨⟨f0, f1', Heap.get?_push_of_some _ hz2, hf⟩, Heap.get?_push_of_some _ (kp2 _ _ D.TIz (fun m => D.iTI _ m rfl) hTI), ⟨vs, Heap.get?_push_of_some _ (kp2 _ _ D.TOz (fun m => D.iTO _ m rfl) hTO), vsz⟩, hi.1, fun j i l e1 e2 => ?_⟩ ?_ ?_ (fun b o n1 n2 n3 e => Heap.get?_push_of_some _ (kp2 b o n1 n3 e))
      · obtain ⟨o, q1, q2⟩ := (its_all hi.1 it2).2 j i l e1 e2
        exact ⟨o, Heap.get?_push_of_some _ q1, q2⟩
      · have z := Heap.get?_push_size h2 (o := { cls := .type "tuple", data := .seq ys.toArray }) rfl
        rw [sz2] at z
        exact z
      · show (h2.push _).objs.size = _
        rw [Heap.size_push, sz2]
  | true =>
    simp only [if_true]
    refine wpAny_bind (wpAny_rule ?_)
    refine wpAny_bind (wpAny_field hz' rfl (x := .ref TO) rfl ?_)
    refine wpAny_bind (wpAny_setField_rec hz' (by simp) fun h₁ hz₁ hs₁ => ?_)
    replace hz₁ : IsZipN h₁ z TI TO .ellipsis f1' := hz₁
    refine wpAny_bind ?_
    have s01 : ∀ b o, b ≠ z → s.heap.get? b = some o → h₁.get? b = some o := fun b o n e => hs₁.extBut _ _ n (hs'.extBut _ _ n e)
    refine forIn_inv (I := fun k b s' => ∃ (h2 : Heap) (us : Array Value), s' = { s with heap := h2 } ∧ b = (none, ()) ∧ IsZipN h2 z TI TO .ellipsis f1' ∧ IsTupN h2 TO us ∧ us.size = is.length ∧ (∀ j, j < k → us[j]? = ys[j]?) ∧ (∀ j i l, is[j]? = some i → ls[j]? = some l → h2.IsListIter i l (if j < k then c + 1 else c)) ∧ h2.objs.size = s.heap.objs.size ∧ ∀ b o, b ≠ z → b ≠ TO → b ∉ is → s.heap.get? b = some o → h2.get? b = some o)
      ⟨h₁, vs, rfl, rfl, hz₁, s01 _ _ D.TOz hTO, vsz, fun j hj => absurd hj (Nat.not_lt_zero j), fun j i l e1 e2 => ?_, hs₁.1.trans hs'.1, fun b o n1 _ _ e => s01 b o n1 e⟩ ?_ ?_
    · rw [if_neg (Nat.not_lt_zero j)]
      obtain ⟨o, q1, q2⟩ := hi.2 j i l e1 e2
      exact ⟨o, s01 _ _ (D.iz i (List.mem_of_getElem? e1)) q1, q2⟩
    · rintro k x b s' hx ⟨h2, us, rfl, rfl, hz2, hTO2, usz, uy, it2, sz2, kp2⟩
      rw [List.getElem?_zipIdx, List.getElem?_map] at hx
      obtain ⟨u, hu, rfl⟩ := Option.map_eq_some_iff.mp hx
      obtain ⟨i, hx2, rfl⟩ := Option.map_eq_some_iff.mp hu
      have kl := (List.getElem?_eq_some_iff.mp hx2).1
      have hlk : ls[k]? = some (ls[k]'(by have := hi.1; omega)) := List.getElem?_eq_getElem _
      generalize ls[k]'(by have := hi.1; omega) = l at hlk
      obtain ⟨xs, y, l1, l2, l3⟩ := hd.2 k l hlk
      have lm := D.lz l (List.mem_of_getElem? hlk)
      have hit := it2 k i l hx2 hlk
      rw [if_neg (Nat.lt_irrefl k)] at hit
      have im := List.mem_of_getElem? hx2
      refine wpAny_bind (wpAny_onRaise ?_)
      show wpAny _ _ (Builtin.SmallTypes.nextOf (.ref i) >>= _) _ _ _
      refine wpAny_bind (wpAny_nextOf_list_item hit (list_kept l1 fun o e => kp2 l o lm.1 lm.2.1 (fun m => lm.2.2 l m rfl) e) l2 fun h3 hi3 hs3 => wpAny_pure ?_)
      have hTO3 : IsTupN h3 TO us := hs3.extBut _ _ (Ne.symm (D.iTO i im)) hTO2
      refine wpAny_bind (wpAny_seqItems hTO3 rfl ?_)
      refine wpAny_bind (updateSeq_tup (s := { s with heap := h3 }) hTO3 (by omega) fun h4 hTO4 hs4 => ?_)
      refine wpAny_bind (wpAny_letGo (wpAny_pure ?_))
      have st3 := its_step D.nd hx2 hlk it2 hi3 hs3
      have ek : 0 + k = k := Nat.zero_add k
      refine ⟨h4, us.setIfInBounds (0 + k) y, rfl, rfl, hs4.extBut _ _ (Ne.symm D.TOz) (hs3.extBut _ _ (Ne.symm (D.iz i im)) hz2), hTO4, by rw [Array.size_setIfInBounds]; exact usz, fun j hj => ?_, fun j i' l' e1 e2 => ?_, hs4.1.trans (hs3.1.trans sz2), fun b o n1 n2 n3 e => hs4.extBut _ _ n2 (hs3.extBut _ _ (fun q => n3 (q ▸ im)) (kp2 b o n1 n2 n3 e))⟩
      · rw [ek, Array.getElem?_setIfInBounds]
        by_cases q : k = j
        · subst q
          rw [if_pos rfl, if_pos (by omega), l3]
        · rw [if_neg q]
          exact uy j (by omega)
      · exact (st3 j i' l' e1 e2).extBut hs4.extBut (D.iTO i' (List.mem_of_getElem? e1))
    · rintro b s' ⟨h2, us, rfl, rfl, hz2, hTO2, usz, uy, it2, sz2, kp2⟩
      rw [List.length_zipIdx, List.length_map] at it2 uy
      have eu : us = ys.toArray := by
        refine Array.ext_getElem? fun j => ?_
        by_cases q : j < is.length
        · rw [uy j q]
          simp
        · have := hd.1
          have := hi.1
          rw [Array.getElem?_eq_none (by omega), Array.getElem?_eq_none (by simp; omega)]
      subst eu
      refine wpAny_bind (wpAny_seqItems hTO2 rfl ?_)
      refine wpAny_bind (wpAny_newTuple ?_ (by show ys.length ≤ sizeLine; rw [hd.1, ← hi.1, sizeN]; omega))
      show wpAny _ _ (Builtin.SmallTypes.ownedTupleHandOut (.ref z) (.ref h2.objs.size) >>= _) _ _ _
      refine wpAny_bind ?_
      unfold Builtin.SmallTypes.ownedTupleHandOut
      have hz₆ : IsZipN (h2.push { cls := .type "tuple", data := .seq ys.toArray }) z TI TO .ellipsis f1' := Heap.get?_push_of_some _ hz2
      refine wpAny_bind (wpAny_setField_rec hz₆ (by simp) fun h₇ hz₇ hs₇ => ?_)
      replace hz₇ : IsZipN h₇ z TI TO (rawInt h2.objs.size) f1' := hz₇
      refine wpAny_setField_rec hz₇ (by simp) fun h₈ hz₈ hs₈ => ?_
      replace hz₈ : IsZipN h₈ z TI TO (rawInt h2.objs.size) (.bool false) := hz₈
      have up : ∀ b o, b ≠ z → h2.get? b = some o → h₈.get? b = some o := fun b o n e => hs₈.extBut _ _ n (hs₇.extBut _ _ n (Heap.get?_push_of_some _ e))
      have zl : z < h2.objs.size := Heap.lt_size hz2
      refine wpAny_pure ?_
      rw [sz2] at hz₈ zl ⊢
      refine hQ h₈ ⟨⟨_, _, hz₈, .inr ⟨_, rfl⟩⟩, up _ _ D.TIz (kp2 _ _ D.TIz D.TITO (fun m => D.iTI _ m rfl) hTI), ⟨_, up _ _ D.TOz hTO2, by rw [List.size_toArray, hd.1, hi.1]⟩, hi.1, fun j i l e1 e2 => ?_⟩ ?_ ?_ (fun b o n1 n2 n3 e => up b o n1 (kp2 b o n1 n2 n3 e))
      · obtain ⟨o, q1, q2⟩ := (its_all hi.1 it2).2 j i l e1 e2
        exact ⟨o, up _ _ (D.iz i (List.mem_of_getElem? e1)) q1, q2⟩
      · have z9 := Heap.get?_push_size h2 (o := { cls := .type "tuple", data := .seq ys.toArray }) rfl
        rw [sz2] at z9
        exact hs₈.extBut _ _ (Nat.ne_of_gt zl) (hs₇.extBut _ _ (Nat.ne_of_gt zl) z9)
      · rw [hs₈.1, hs₇.1, Heap.size_push, sz2]
theorem next_end {z TI TO : Addr} {is ls : List Addr} {c : Nat} {Q : Fin → Shared → Prop} (hh : A.handled = none) (D : ApartN z TI TO is ls) (st : StN s.heap z TI TO is ls c) {l : Addr} {xs : Array Value} (h0 : ls[0]? = some l) (hl : s.heap.IsList l xs) (hx : xs[c]? = none)
    (hE : ∀ h' e, (∀ b o, b ≠ z → b ≠ TO → b ∉ is → s.heap.get? b = some o → h'.get? b = some o) → (∃ o, h'.get? e = some o ∧ o.cls = .type "StopIteration") → E (.ref e) { s with heap := h' }) :
    wpAny (model prog w) A (Builtin.«zip.__next__» ⟨[.ref z], []⟩) Q E s := by
  obtain ⟨⟨f0, f1, hz, hf⟩, hTI, ⟨vs, hTO, vsz⟩, hi⟩ := st
  have hx0 : is[0]? = some (is[0]'(by have := hi.1; have := (List.getElem?_eq_some_iff.mp h0).1; omega)) := List.getElem?_eq_getElem _
  generalize is[0]'(by have := hi.1; have := (List.getElem?_eq_some_iff.mp h0).1; omega) = i at hx0
  have im := List.mem_of_getElem? hx0
  have lm := D.lz l (List.mem_of_getElem? h0)
  have hit := hi.2 0 i l hx0 h0
  obtain ⟨is', eis⟩ : ∃ is', is = i :: is' := by
    cases is with
    | nil => cases hx0
    | cons x r =>
      cases hx0
      exact ⟨r, rfl⟩
  show wpAny _ _ (field (.ref z) 2 >>= _) _ _ _
  refine wpAny_bind (wpAny_field hz rfl (x := .bool false) rfl ?_)
  show wpAny _ _ (field (.ref z) 3 >>= _) _ _ _
  refine wpAny_bind (wpAny_field hz rfl (x := .ref TI) rfl ?_)
  refine wpAny_bind (wpAny_seqItems hTI rfl ?_)
  have e0 : (is.map Value.ref).toArray.isEmpty = false := by
    rw [eis]
    rfl
  simp only [e0]
  show wpAny _ _ (Builtin.SmallTypes.ownedTupleIsFree (.ref z) >>= _) _ _ _
  refine wpAny_bind (free_of hz hf fun b h' f1' hz' hs' => ?_)
  cases b with
  | false =>
    simp only [Bool.false_eq_true, if_false]
    refine wpAny_bind ?_
    rw [List.forIn_toArray]
    conv => arg 3; rw [eis, List.map_cons, List.forIn_cons]
    refine wpAny_bind (wpAny_bind (wpAny_holding ?_))
    show wpAny _ _ (Builtin.SmallTypes.nextOf (.ref i) >>= _) _ _ _
    refine wpAny_bind (wpAny_nextOf_list_end hh (hit.extBut hs'.extBut (D.iz i im)) (hl.extBut hs'.extBut lm.1) hx fun h₂ e hs₂ he => ?_)
    exact hE h₂ e (fun b o n1 n2 n3 q => hs₂ _ _ (fun y => n3 (y ▸ im)) (hs'.extBut _ _ n1 q)) he
  | true =>
    simp only [if_true]
    refine wpAny_bind (wpAny_rule ?_)
    refine wpAny_bind (wpAny_field hz' rfl (x := .ref TO) rfl ?_)
    refine wpAny_bind (wpAny_setField_rec hz' (by simp) fun h₁ hz₁ hs₁ => ?_)
    replace hz₁ : IsZipN h₁ z TI TO .ellipsis f1' := hz₁
    refine wpAny_bind ?_
    conv => arg 3; rw [eis, List.map_cons, List.zipIdx_cons, List.forIn_cons]
    refine wpAny_bind (wpAny_bind (wpAny_onRaise ?_))
    show wpAny _ _ (Builtin.SmallTypes.nextOf (.ref i) >>= _) _ _ _
    refine wpAny_bind (wpAny_nextOf_list_end hh ((hit.extBut hs'.extBut (D.iz i im)).extBut hs₁.extBut (D.iz i im)) ((hl.extBut hs'.extBut lm.1).extBut hs₁.extBut lm.1) hx fun h₂ e hs₂ he => ?_)
    obtain ⟨oe, hoe, hce⟩ := he
    have hz₂ : IsZipN h₂ z TI TO .ellipsis f1' := hs₂ _ _ (Ne.symm (D.iz i im)) hz₁
    have hez : e ≠ z := fun y => by subst y; rw [hz₂] at hoe; cases hoe; simp at hce
    exact wpAny_setField_rec hz₂ (by simp) fun h₃ _ hs₃ => hE h₃ e (fun b o n1 n2 n3 q => hs₃.extBut _ _ n1 (hs₂ _ _ (fun y => n3 (y ▸ im)) (hs₁.extBut _ _ n1 (hs'.extBut _ _ n1 q)))) ⟨oe, hs₃.extBut _ _ hez hoe, hce⟩
theorem pyNext_item {z TI TO : Addr} {is ls : List Addr} {c : Nat} {ys : List Value} {Q : Option Value → Shared → Prop} (D : ApartN z TI TO is ls) (hne : is ≠ []) (small : is.length ≤ 1000) (st : StN s.heap z TI TO is ls c) (hd : DrawsN s.heap ls c ys)
    (hQ : ∀ h' : Heap, StN h' z TI TO is ls (c + 1) → IsTupN h' s.heap.objs.size ys.toArray → h'.objs.size = s.heap.objs.size + 1 → (∀ b o, b ≠ z → b ≠ TO → b ∉ is → s.heap.get? b = some o → h'.get? b = some o) →
      Q (some (.ref s.heap.objs.size)) { s with heap := h' }) :
    wpAny (model prog w) A (pyNext (.ref z)) Q E s := by
  obtain ⟨f0, f1, hz, _⟩ := st.zip
  have hT : s.TypeIs (.ref z) "zip" := ⟨_, hz, rfl⟩
  unfold pyNext
  exact wpAny_bind (wpAny_attempt (wpAny_callSpecial?_slot (name := Str.ofString "__next__") hT F.slot_zip_next
    (wpAny_call_entry F.slot_zip_next hT F.entry_zip_next
      (next_item D hne small st hd fun h' a1 a2 a3 a4 => ⟨_, rfl, wpAny_pure (hQ h' a1 a2 a3 a4)⟩) (F.args_zip_next_1 _))))
theorem pyNext_end {z TI TO : Addr} {is ls : List Addr} {c : Nat} {Q : Option Value → Shared → Prop} (hh : A.handled = none) (D : ApartN z TI TO is ls) (st : StN s.heap z TI TO is ls c) {l : Addr} {xs : Array Value} (h0 : ls[0]? = some l) (hl : s.heap.IsList l xs) (hx : xs[c]? = none)
    (hQ : ∀ h', (∀ b o, b ≠ z → b ≠ TO → b ∉ is → s.heap.get? b = some o → h'.get? b = some o) → Q none { s with heap := h' }) :
    wpAny (model prog w) A (pyNext (.ref z)) Q E s := by
  obtain ⟨f0, f1, hz, _⟩ := st.zip
  have hT : s.TypeIs (.ref z) "zip" := ⟨_, hz, rfl⟩
  unfold pyNext
  refine wpAny_bind (wpAny_attempt (wpAny_callSpecial?_slot (name := Str.ofString "__next__") hT F.slot_zip_next
    (wpAny_call_entry F.slot_zip_next hT F.entry_zip_next (next_end hh D st h0 hl hx fun h' e hk he => ?_) (F.args_zip_next_1 _))))
  obtain ⟨o, ho, hc⟩ := he
  refine wpAny_bind (wpAny_isInstance (T := "StopIteration") (b := true) ⟨o, ho, hc⟩ isSubtype_stop ?_)
  exact wpAny_pure (hQ _ hk)
end
end ZN

set_option Elab.async false
set_option linter.all false
set_option maxRecDepth 100000
set_option maxHeartbeats 4000000
namespace ZN
open PySem
open PySem.Sem (wp)
theorem new_n (ls : List Addr) (small : ls.length ≤ 1000) :
    Meets (Builtin.«zip.__new__» ⟨.type "zip" :: ls.map Value.ref, []⟩) (fun _ R s => (∀ l ∈ ls, ∃ xs, s.heap.IsList l xs) ∧
      ∀ h' : Heap, IsZipN h' (s.heap.objs.size + ls.length + 2) (s.heap.objs.size + ls.length) (s.heap.objs.size + ls.length + 1) .none (.bool false) →
        IsTupN h' (s.heap.objs.size + ls.length) ((List.range' s.heap.objs.size ls.length).map Value.ref).toArray → (∃ vs : Array Value, IsTupN h' (s.heap.objs.size + ls.length + 1) vs ∧ vs.size = ls.length) →
        Its h' (List.range' s.heap.objs.size ls.length) ls (fun _ => 0) → h'.objs.size = s.heap.objs.size + ls.length + 3 → (∀ b o, s.heap.get? b = some o → h'.get? b = some o) →
        R (.ok (.ret (.ref (s.heap.objs.size + ls.length + 2)))) { s with heap := h' }) :=
  .of_wp fun prog w A R s h => by
    obtain ⟨hl, h⟩ := h
    have hsub := sub_zip
    have e : Builtin.SmallTypes.newClass "zip" ⟨.type "zip" :: ls.map Value.ref, []⟩ = pure (.type "zip", ls.map Value.ref) := by
      unfold Builtin.SmallTypes.newClass
      show (isType (Value.type "zip") >>= _) = _
      have e1 : isType (Value.type "zip") = pure true := rfl
      rw [e1]
      show (isSubtype (Value.type "zip") (Value.type "zip") >>= _) = _
      rw [hsub]
      rfl
    show wpAny _ _ (Builtin.SmallTypes.newClass "zip" _ >>= _) _ _ _
    rw [e]
    show wpAny _ _ (Builtin.SmallTypes.iterAll (ls.map Value.ref) >>= _) _ _ _
    refine wpAny_bind (iterAll_lists hl fun h1 it sz kp => ?_)
    refine wpAny_bind (wpAny_newTuple ?_ (by rw [List.length_map, List.length_range', sizeN]; omega))
    refine wpAny_bind (wpAny_newTuple ?_ (by rw [List.length_map, List.length_map, List.length_range', sizeN]; omega))
    unfold Builtin.SmallTypes.newRecord
    refine wpAny_bind (wpAny_newObj_type ?_ (by show 5 ≤ sizeLine + 2; decide))
    refine wpAny_pure ⟨_, rfl, ?_⟩
    obtain ⟨t1, et1⟩ : ∃ t1 : Obj, t1 = { cls := .type "tuple", data := .seq ((List.range' s.heap.objs.size ls.length).map Value.ref).toArray } := ⟨_, rfl⟩
    obtain ⟨t2, et2⟩ : ∃ t2 : Obj, t2 = { cls := .type "tuple", data := .seq (((List.range' s.heap.objs.size ls.length).map Value.ref).map fun _ => Value.none).toArray } := ⟨_, rfl⟩
    show R (.ok (.ret (.ref ((h1.push { cls := .type "tuple", data := .seq ((List.range' s.heap.objs.size ls.length).map Value.ref).toArray }).push { cls := .type "tuple", data := .seq (((List.range' s.heap.objs.size ls.length).map Value.ref).map fun _ => Value.none).toArray }).objs.size)))
      { s with heap := (((h1.push { cls := .type "tuple", data := .seq ((List.range' s.heap.objs.size ls.length).map Value.ref).toArray }).push { cls := .type "tuple", data := .seq (((List.range' s.heap.objs.size ls.length).map Value.ref).map fun _ => Value.none).toArray }).push
        { cls := .type "zip", dict := none, data := .fields #[.none, .bool false, .bool false, .ref h1.objs.size, .ref (h1.push { cls := .type "tuple", data := .seq ((List.range' s.heap.objs.size ls.length).map Value.ref).toArray }).objs.size], slots := #[] }) }
    rw [← et1, ← et2]
    have f1 : t1.isFreed = false := by rw [et1]; rfl
    have f2 : t2.isFreed = false := by rw [et2]; rfl
    have z1 : (h1.push t1).objs.size = s.heap.objs.size + ls.length + 1 := by rw [Heap.size_push, sz]
    have z2 : ((h1.push t1).push t2).objs.size = s.heap.objs.size + ls.length + 2 := by rw [Heap.size_push, z1]
    have g1 := Heap.get?_push_size h1 (o := t1) f1
    have g2 := Heap.get?_push_size (h1.push t1) (o := t2) f2
    have g3 := Heap.get?_push_size ((h1.push t1).push t2) (o := { cls := .type "zip", dict := none, data := .fields #[.none, .bool false, .bool false, .ref h1.objs.size, .ref (h1.push t1).objs.size], slots := #[] }) rfl
    have k1 : ∀ b o, h1.get? b = some o → ((h1.push t1).push t2).get? b = some o := fun b o e => Heap.get?_push_of_some _ (Heap.get?_push_of_some _ e)
    rw [z2, z1, sz] at g3
    rw [sz] at g1
    rw [z1] at g2
    rw [z2, z1, sz]
    refine h _ g3 (Heap.get?_push_of_some _ (Heap.get?_push_of_some _ (by rw [← et1]; exact g1))) ⟨_, Heap.get?_push_of_some _ (g2.trans (congrArg some et2)), ?_⟩ ⟨it.1, fun j i l e1 e2 => ?_⟩ ?_ (fun b o e => Heap.get?_push_of_some _ (k1 _ _ (kp b o e)))
    · simp
    · obtain ⟨o, q1, q2⟩ := it.2 j i l e1 e2
      exact ⟨o, Heap.get?_push_of_some _ (k1 _ _ q1), q2⟩
    · rw [Heap.size_push, z2]
section
variable {prog : Program} {w : World} {A : Around} {E : Value → Shared → Prop} {s : Shared}
theorem call_n {ls : List Addr} {Q : Value → Shared → Prop} (small : ls.length ≤ 1000) (hl : ∀ l ∈ ls, ∃ xs, s.heap.IsList l xs)
    (h : ∀ h' : Heap, StN h' (s.heap.objs.size + ls.length + 2) (s.heap.objs.size + ls.length) (s.heap.objs.size + ls.length + 1) (List.range' s.heap.objs.size ls.length) ls 0 → h'.objs.size = s.heap.objs.size + ls.length + 3 →
      (∀ b o, s.heap.get? b = some o → h'.get? b = some o) → Q (.ref (s.heap.objs.size + ls.length + 2)) { s with heap := h' }) :
    wpAny (model prog w) A (call (.type "zip") (ls.map Value.ref)) Q E s := by
  refine callType_new F.called_zip (by decide) (typeCall_n _) (newCall_n _) (fun obj => args_n obj _) F.entry_zip_new (new_n ls small) ⟨hl, fun h' a1 a2 a3 a4 a5 a6 => ?_⟩
  obtain ⟨vs, a3, a7⟩ := a3
  exact ⟨⟨_, a1, rfl⟩, h h' ⟨⟨_, _, a1, .inl rfl⟩, a2, ⟨vs, a3, by rw [a7, List.length_range']⟩, a4⟩ a5 a6⟩
theorem apart_n {ls : List Addr} {n : Nat} (h : ∀ l ∈ ls, l < n) : ApartN (n + ls.length + 2) (n + ls.length) (n + ls.length + 1) (List.range' n ls.length) ls := by
  have m : ∀ i ∈ List.range' n ls.length, n ≤ i ∧ i < n + ls.length := fun i hi => by
    have z := List.mem_range'_1.mp hi
    exact z
  have ne : ∀ {a b : Nat}, a < b → a ≠ b := fun h e => Nat.lt_irrefl _ (e ▸ h)
  have ne2 : ∀ {a b : Nat}, b < a → a ≠ b := fun h e => Nat.lt_irrefl _ (e ▸ h)
  exact ⟨ne (by omega), ne (by omega), ne (by omega), fun i hi => ne (Nat.lt_of_lt_of_le (m i hi).2 (Nat.le_add_right _ 2)), fun i hi => ne (m i hi).2, fun i hi => ne (Nat.lt_of_lt_of_le (m i hi).2 (Nat.le_add_right _ 1)), List.nodup_range' ..,
    fun l hl => ⟨ne (Nat.lt_of_lt_of_le (h l hl) (Nat.le_trans (Nat.le_add_right n ls.length) (Nat.le_add_right _ 2))), ne (Nat.lt_of_lt_of_le (h l hl) (Nat.le_trans (Nat.le_add_right n ls.length) (Nat.le_add_right _ 1))), fun i hi => ne (Nat.lt_of_lt_of_le (h l hl) (m i hi).1)⟩⟩
end
end ZN

set_option Elab.async false
set_option linter.all false
set_option maxRecDepth 100000
set_option maxHeartbeats 4000000
namespace L2
open PySem PySem.Spec PyProof.Rows
open ZN (ApartN StN IsZipN IsTupN DrawsN)
/-- the lists at as as they stand at each turn, the items in a new tuple -/
def ItzN (K : PySem.W.Frag) (as : List Addr) : It :=
  ⟨fun i H => ∃ ys : List V, ys.length = as.length ∧ ∀ (j : Nat) (a : Addr), as[j]? = some a → ∃ xs y, SqL K H a xs ∧ xs[i]? = some y ∧ ys[j]? = some y,
    fun i H v H' => ∃ T ys, v = .ref T ∧ H T = none ∧ H' = upd H T (.tup ys) ∧ ys.length = as.length ∧ ∀ (j : Nat) (a : Addr) (xs : List V), as[j]? = some a → SqL K H a xs → ys[j]? = xs[i]?,
    fun i H => ∃ a xs, as[0]? = some a ∧ SqL K H a xs ∧ xs.length ≤ i⟩
theorem choose_list {α : Type} (P : Nat → α → Prop) : ∀ n : Nat, (∀ j, j < n → ∃ u, P j u) → ∃ us : List α, us.length = n ∧ ∀ (j : Nat) (u : α), us[j]? = some u → P j u
  | 0, _ => ⟨[], rfl, fun j u e => by cases e⟩
  | n + 1, h => by
    obtain ⟨us, l, k⟩ := choose_list P n fun j hj => h j (Nat.lt_succ_of_lt hj)
    obtain ⟨u, hu⟩ := h n (Nat.lt_succ_self n)
    refine ⟨us ++ [u], by rw [List.length_append, l]; rfl, fun j v e => ?_⟩
    by_cases q : j < n
    · rw [List.getElem?_append_left (by omega)] at e
      exact k j v e
    · have lt := (List.getElem?_eq_some_iff.mp e).1
      rw [List.length_append, l] at lt
      have ej : j = n := by
        have : [u].length = 1 := rfl
        omega
      subst ej
      rw [List.getElem?_append_right (by omega), l, Nat.sub_self] at e
      cases e
      exact hu
theorem vals_at : ∀ {ys : List V} {us : List Value}, ys.length = us.length → (∀ (j : Nat) y u, ys[j]? = some y → us[j]? = some u → RelV y u) → Vals ys us
  | [], [], _, _ => .nil
  | [], _ :: _, h, _ => by cases h
  | _ :: _, [], h, _ => by cases h
  | y :: ys, u :: us, h, k => .cons (k 0 y u rfl rfl) (vals_at (Nat.succ.inj h) fun j y u e1 e2 => k (j + 1) y u e1 e2)
theorem turn_zipN {P : Program} {w : World} {K : PySem.W.Frag} {nm : Str} {tpos : Pos} {as is : List Addr} {z TI TO : Addr} (D : ApartN z TI TO is as) (hne : as ≠ []) (small : as.length ≤ 1000) (hla : is.length = as.length) :
    Turn P w K (.Name nm tpos) (ItzN K as) (z :: TI :: TO :: is) z (fun i h => StN h z TI TO is as i) where
  mem := by simp
  obj := fun i h st c hc => by
    obtain ⟨⟨f0, f1, hz, _⟩, hTI, ⟨vs, hTO, _⟩, hi⟩ := st
    rcases List.mem_cons.mp hc with q | hc
    · rw [q]; exact ⟨_, hz, fun v q => nomatch q⟩
    rcases List.mem_cons.mp hc with q | hc
    · rw [q]; exact ⟨_, hTI, fun v q => nomatch q⟩
    rcases List.mem_cons.mp hc with q | hc
    · rw [q]; exact ⟨_, hTO, fun v q => nomatch q⟩
    obtain ⟨j, hj, e⟩ := List.mem_iff_getElem.mp hc
    obtain ⟨o, e1, _, d1⟩ := hi.2 j c (as[j]'(by rw [← hla]; exact hj)) (by rw [List.getElem?_eq_getElem hj, e]) (List.getElem?_eq_getElem _)
    exact ⟨o, e1, fun v q => by rw [d1] at q; cases q⟩
  keep := fun i h h' st k => by
    obtain ⟨⟨f0, f1, hz, hf⟩, hTI, ⟨vs, hTO, hv⟩, hi⟩ := st
    refine ⟨⟨f0, f1, k z (by simp) _ hz, hf⟩, k TI (by simp) _ hTI, ⟨vs, k TO (by simp) _ hTO, hv⟩, hi.1, fun j a l e1 e2 => ?_⟩
    obtain ⟨o, q1, q2⟩ := hi.2 j a l e1 e2
    exact ⟨o, k a (List.mem_cons_of_mem _ (List.mem_cons_of_mem _ (List.mem_cons_of_mem _ (List.mem_of_getElem? e1)))) _ q1, q2⟩
  item := by
    intro X hP hw hK hc i pins s σ H E I hf st hg
    subst hP hw hK
    obtain ⟨ys, ly, hy⟩ := hg
    obtain ⟨us, lu, hu⟩ := choose_list (fun j u => ∃ a its y, as[j]? = some a ∧ s.heap.IsList a its ∧ its[i]? = some u ∧ ys[j]? = some y ∧ RelV y u) as.length fun j hj => by
      obtain ⟨xs, y, q1, q2, q3⟩ := hy j _ (List.getElem?_eq_getElem hj)
      obtain ⟨its, rv, p, _⟩ := I.list q1
      obtain ⟨u, h1, h2⟩ := rv.get q2
      exact ⟨u, _, its.toArray, y, List.getElem?_eq_getElem hj, p.isList, by simpa using h1, q3, h2⟩
    have rv : Vals ys us := vals_at (by omega) fun j y u e1 e2 => by
      obtain ⟨_, _, y2, _, _, _, e3, r⟩ := hu j u e2
      rw [e1] at e3
      cases e3
      exact r
    have ine : is ≠ [] := fun e => hne (List.length_eq_zero_iff.mp (by rw [← hla, e]; rfl))
    have hd : DrawsN s.heap as i us := ⟨lu, fun j l e => by
      have jl := (List.getElem?_eq_some_iff.mp e).1
      obtain ⟨a, its, y, e1, q1, q2, _, _⟩ := hu j _ (List.getElem?_eq_getElem (by omega))
      rw [e] at e1
      cases e1
      exact ⟨its, _, q1, q2, List.getElem?_eq_getElem _⟩⟩
    have hz : z < s.heap.objs.size := by
      obtain ⟨f0, f1, hz, _⟩ := st.zip
      exact Heap.lt_size hz
    refine ZN.pyNext_item D ine (by omega) st hd fun h' st' hT hsz hk => ?_
    refine ⟨_, rfl, ?_⟩
    unfold letOwnedTupleGo
    refine wpAny_pure ?_
    have new : ObjOk X.prog X.w (upd H s.heap.objs.size (.tup ys)) h' s.heap.objs.size (.tup ys) :=
      ⟨by rw [ly, ZN.sizeN]; omega, us, rv, ⟨_, hT, rfl, _, rfl⟩⟩
    have I1 : Inv X pins σ (upd H s.heap.objs.size (.tup ys)) { s with heap := h' } :=
      I.turnedNew (t' := s.toks) (ch := z :: TI :: TO :: is) (fun c o hb q => hk c o (fun q' => hb (by simp [q'])) (fun q' => hb (by simp [q'])) (fun q' => hb (by simp [q'])) q) hf (Nat.le_refl _) new
    refine ⟨.ref s.heap.objs.size, _, I1, rfl, ⟨_, ys, rfl, I.hok.fresh (Nat.le_refl _), rfl, ly, fun j a xs e hl => ?_⟩, st', fun c hcm => ?_⟩
    · obtain ⟨xs2, y, q1, q2, q3⟩ := hy j a e
      rw [I.list_inj hl q1, q2, q3]
    · have hlt : c < s.heap.objs.size := by
        obtain ⟨o, e, _⟩ := (show ∃ o, s.heap.get? c = some o ∧ True from by
          obtain ⟨⟨f0, f1, hz, _⟩, hTI, ⟨vs, hTO, _⟩, hi⟩ := st
          rcases List.mem_cons.mp hcm with q | hc
          · rw [q]; exact ⟨_, hz, trivial⟩
          rcases List.mem_cons.mp hc with q | hc
          · rw [q]; exact ⟨_, hTI, trivial⟩
          rcases List.mem_cons.mp hc with q | hc
          · rw [q]; exact ⟨_, hTO, trivial⟩
          obtain ⟨j, hj, e⟩ := List.mem_iff_getElem.mp hc
          obtain ⟨o, e1, _⟩ := hi.2 j c (as[j]'(by rw [← hla]; exact hj)) (by rw [List.getElem?_eq_getElem hj, e]) (List.getElem?_eq_getElem _)
          exact ⟨o, e1, trivial⟩)
        exact Heap.lt_size e
      rw [upd_ne (Nat.ne_of_lt hlt)]
      exact (hf c hcm).1
  done := by
    intro X hP hw hK hc i pins s σ H E I hf st hg
    subst hP hw hK
    obtain ⟨a, xs, h0, hq, hend⟩ := hg
    obtain ⟨its, rv, p, _⟩ := I.list hq
    have l1 := rv.length
    exact ZN.pyNext_end (I.ok.hd hc) D st h0 p.isList (by simp; omega) fun h' hk => ⟨rfl, I.turnedL (t' := s.toks) (ch := z :: TI :: TO :: is) (fun c o hb q =>
      hk c o (fun q' => hb (by simp [q'])) (fun q' => hb (by simp [q'])) (fun q' => hb (by simp [q'])) q) hf⟩
  self := fun A i s Q E st h => by
    obtain ⟨f0, f1, hz, _⟩ := st.zip
    have hT : s.TypeIs (.ref z) "zip" := ⟨_, hz, rfl⟩
    refine wpAny_pyIter_slot hT F.slot_zip_iter (wpAny_call_entry F.slot_zip_iter hT F.entry_zip_iter ?_ (F.args_zip_iter_1 _))
    show wpAny _ _ (ret (.ref z)) _ _ s
    exact wpAny_pure ⟨_, rfl, "zip", _, hT, F.slot_zip_next.lookup, h⟩
def iZipN (K : PySem.W.Frag) (te : TE) : TI := fun σ H R => te σ H fun x H1 => ∃ (m : Addr) (as : List Addr), x = .ref m ∧ SqL K H1 m (as.map V.ref) ∧ as ≠ [] ∧ as.length ≤ 1000 ∧ (∀ a ∈ as, ∃ xs, SqL K H1 a xs) ∧ R (ItzN K as) H1
theorem vals_refs' {as : List Addr} : ∀ {us : List Value}, Vals (as.map V.ref) us → us = as.map Value.ref := by
  induction as with
  | nil =>
    intro us r
    cases r
    rfl
  | cons a as ih =>
    intro us r
    cases r with
    | cons h t =>
      cases (show _ = Value.ref a from h)
      rw [ih t]
      rfl
theorem callWith_typeS {M : Model} {A : Around} {E : Value → Shared → Prop} {s : Shared} {T : String} {env : Env} {e : Expr} {p pos : Pos} {Q : Value → Shared → Prop}
    (h : wpAny M A (eval e env) (fun v s₁ => PySem.W.StarOf M A E v (fun vs s₂ => wpAny M A (call (.type T) vs) Q E s₂) s₁) E s) (he : starEach [.Starred e p] env = [(true, eval e env)] := by rfl) :
    wpAny M A (callWith pos (.type T) [] (backTo pos (starEach [.Starred e p] env)) []) Q E s := by
  rw [he]
  refine PySem.W.ks_call (P := fun _ => True) rfl (fun h _ => ⟨.machine, .inr (.inl rfl), PySem.W.Looks.of_pure rfl⟩) (PySem.W.ks_lone ?_)
  refine wpAny_mono h (fun v s1 q => ?_) fun _ _ y => y
  unfold PySem.W.StarOf at q ⊢
  refine wpAny_mono q (fun b s2 ⟨eb, q2⟩ => ⟨eb, wpAny_mono q2 (fun vs s3 q3 => ⟨trivial, q3⟩) fun _ _ y => y⟩) fun _ _ y => y
theorem pi_zipN {X : Cx} {e : Expr} {te : TE} {nm : Str} {p pos spos tpos : Pos} (hg : Gl X "zip") (hm : X.mg "zip" = none) (he : PE X e te)
    (hs : starEach [.Starred e spos] X.env = [(true, eval e X.env)] := by rfl) :
    PI X (.Name nm tpos) (.Call (.Name "zip" p) [.Starred e spos] [] pos) (iZipN X.K te) := by
  refine ⟨fun pins s σ H R I h => ?_⟩
  refine Call_ (ld_blt I hg hm PyProof.Rows.boot_zip (callWith_typeS (thn (he.run pins s σ H _ I h) fun v s1 ⟨y, H1, I1, ry, m, as, ey, hq, hne, small, hal, q⟩ => ?_) hs))
  subst ey
  obtain rfl : v = Value.ref m := ry
  refine StX.star_any I1 (.inr hq) fun us s2 I2 rv => ?_
  rw [vals_refs' rv]
  refine ZN.call_n small (fun l ml => ?_) fun h' st hsz hk => ?_
  · obtain ⟨xs, hx⟩ := hal l ml
    obtain ⟨its, _, p1, _⟩ := I2.list hx
    exact ⟨_, p1.isList⟩
  · have lt : ∀ l ∈ as, l < s2.heap.objs.size := fun l ml => by
      obtain ⟨xs, hx⟩ := hal l ml
      obtain ⟨its, _, p1, _⟩ := I2.list hx
      exact p1.lt
    have I3 : Inv X pins σ H1 { s2 with heap := h' } := I2.kept (t' := s2.toks) hk
    have T := turn_zipN (P := X.prog) (w := X.w) (K := X.K) (nm := nm) (tpos := tpos) (ZN.apart_n lt) hne small (List.length_range' ..)
    refine T.self _ 0 _ _ _ st ⟨_, _, _, _, H1, rfl, I3, T, st, fun c hcm => ?_, q⟩
    have hle : s2.heap.objs.size ≤ c := by
      rcases List.mem_cons.mp hcm with z | hc
      · rw [z]; exact Nat.le_trans (Nat.le_add_right _ _) (Nat.le_add_right _ _)
      rcases List.mem_cons.mp hc with z | hc
      · rw [z]; exact Nat.le_add_right _ _
      rcases List.mem_cons.mp hc with z | hc
      · rw [z]; exact Nat.le_trans (Nat.le_add_right _ _) (Nat.le_add_right _ _)
      exact (List.mem_range'_1.mp hc).1
    exact I2.fpOk hle (I2.hok.fresh hle)
/-- the walk where all lists are as long -/
theorem walk_zipN {K : PySem.W.Frag} {as : List Addr} {L : Nat} (xss : List (List V)) (hne : as ≠ []) (hl : xss.length = as.length) (hL : ∀ xs ∈ xss, xs.length = L) :
    Walk (ItzN K as) L (fun H => ∀ (j : Nat) (a : Addr) (xs : List V), as[j]? = some a → xss[j]? = some xs → SqL K H a xs)
      (fun i H v H' => ∃ T, v = .ref T ∧ H T = none ∧ H' = upd H T (.tup (xss.map fun xs => xs.getD i .non))) where
  goes := fun i H hi hG => by
    refine ⟨xss.map fun xs => xs.getD i .non, by rw [List.length_map, hl], fun j a e => ?_⟩
    have jl := (List.getElem?_eq_some_iff.mp e).1
    have hx : xss[j]? = some (xss[j]'(by omega)) := List.getElem?_eq_getElem _
    refine ⟨_, (xss[j]'(by omega)).getD i .non, hG j a _ e hx, ?_, ?_⟩
    · have z := hL _ (List.mem_of_getElem? hx)
      rw [List.getD_eq_getElem?_getD, List.getElem?_eq_getElem (by omega)]
      rfl
    · rw [List.getElem?_map, hx]
      rfl
  stops := fun H hG => by
    cases as with
    | nil => exact absurd rfl hne
    | cons a as =>
      cases xss with
      | nil => cases hl
      | cons xs xss => exact ⟨a, xs, rfl, hG 0 a xs rfl rfl, Nat.le_of_eq (hL xs List.mem_cons_self)⟩
  yields := fun i H v H' hi hG ⟨T, ys, e1, e2, e3, e4, e5⟩ => by
    refine ⟨T, e1, e2, ?_⟩
    have ey : ys = xss.map fun xs => xs.getD i .non := by
      refine List.ext_getElem? fun j => ?_
      by_cases q : j < as.length
      · have ha : as[j]? = some as[j] := List.getElem?_eq_getElem q
        have hx : xss[j]? = some (xss[j]'(by omega)) := List.getElem?_eq_getElem _
        rw [e5 j _ _ ha (hG j _ _ ha hx), List.getElem?_map, hx]
        have z := hL _ (List.mem_of_getElem? hx)
        rw [List.getElem?_eq_getElem (by omega)]
        show _ = some (List.getD _ _ _)
        rw [List.getD_eq_getElem?_getD, List.getElem?_eq_getElem (by omega)]
        rfl
      · rw [List.getElem?_eq_none (by omega), List.getElem?_eq_none (by rw [List.length_map]; omega)]
    rw [e3, ey]
end L2

set_option Elab.async false
set_option linter.all false
set_option maxRecDepth 100000
set_option maxHeartbeats 4000000
/-! Vb, part 9: columns. -/
namespace L2
namespace Vb
open PySem PySem.Spec PyProof.Rows
abbrev nCols : List Str := ["vectors", "length", "_", "column"]
theorem rws_lists {H : Hp} {as : List Addr} {T : List (List Int)} (h : Rws H as T) {j : Nat} {a : Addr} {xs : List V} (h1 : as[j]? = some a) (h2 : (T.map fun xs => xs.map V.int)[j]? = some xs) : H a = some (.lst xs) := by
  obtain ⟨b, ys, e1, e2, e3, e4, e5⟩ := rws_at h (i := j) (x := .ref a) (by rw [List.getElem?_map, h1]; rfl)
  cases e1
  rw [List.getElem?_map, e4] at h2
  cases h2
  exact e2
theorem col_at {T : List (List Int)} {p : Int} {L k : Nat} (hv : ∀ xs ∈ T, Vc p L xs) (hk : k < L) : ((T.map fun xs => xs.map V.int).map fun xs => xs.getD k .non) = (T.map fun xs => xs.getD k 0).map V.int := by
  rw [List.map_map, List.map_map]
  refine List.map_congr_left fun xs mx => ?_
  show (xs.map V.int).getD k .non = V.int (xs.getD k 0)
  rw [List.getD_eq_getElem?_getD, List.getElem?_map, List.getElem?_eq_getElem (by rw [(hv xs mx).1]; exact hk), List.getD_eq_getElem?_getD, List.getElem?_eq_getElem (by rw [(hv xs mx).1]; exact hk)]
  rfl
section
variable {P : Program} {w : World} {K : PySem.W.Frag} {mg : Str → Option Value} {base : Heap}
def spCols : Sp := fun vs H Q _ => ∃ (m : Addr) (L : Nat) (as : List Addr) (T : List (List Int)) (p : Int), vs = [.ref m, .int (L : Int)] ∧ H m = some (.lst (as.map V.ref)) ∧ Rws H as T ∧ (∀ xs ∈ T, Vc p L xs) ∧ L ≤ 1000 ∧ T.length ≤ 1000 ∧
  ∀ (H' : Hp) (d : Addr) (cs : List Addr), Same H H' → H d = none → H' d = some (.lst (cs.map V.ref)) → Rws H' cs ((List.range L).map fun c => T.map fun xs => xs.getD c 0) → Q (.ref d) H'
end
end Vb
end L2

set_option Elab.async false
set_option linter.all false
set_option maxRecDepth 100000
set_option maxHeartbeats 4000000
/-! Vb, part 7: products and columns. -/
namespace L2
namespace Vb
open PySem PySem.Spec PyProof.Rows
def spProd : Sp := fun vs H Q _ => ∃ (p : Int) (a b : Addr) (xs ys : List Int) (L : Nat), vs = [.int p, .ref a, .ref b] ∧ 2 ≤ p ∧ p ≤ 65537 ∧ Rw H a xs ∧ Rw H b ys ∧ Vc p L xs ∧ Vc p L ys ∧ L ≤ 1000 ∧ ∀ H', Same H H' → Q (.int (dotZ xs ys % p)) H'
section
variable {P : Program} {w : World} {K : PySem.W.Frag} {mg : Str → Option Value} {base : Heap}
end
end Vb
end L2

set_option Elab.async false
set_option linter.all false
set_option maxRecDepth 100000
set_option maxHeartbeats 4000000
/-! Vb, part 13: a place cleared. -/
namespace L2
namespace Vb
open PySem PySem.Spec PyProof.Rows
open LinA (scaleZ lessZ)
/-- row i is scaled by s, all others lose their number at c -/
def midZ (p : Nat) (l : List Int) (i c k : Nat) (T : List (List Int)) : List (List Int) := T.mapIdx fun j xs => if j = i then l else if j < k then lessZ p l c xs else xs
def invN (p : Nat) (T : List (List Int)) (i c : Nat) : Int := (((at_ T i c).toNat ^ (p - 2) % p : Nat) : Int)
def leadZ (p : Nat) (T : List (List Int)) (i c : Nat) : List Int := scaleZ p (invN p T i c) (T.getD i [])
/-- all but m stands -/
def But (m : Addr) (H H' : Hp) : Prop := ∀ b, b ≠ m → ∀ o, H b = some o → H' b = some o
theorem but_same {m : Addr} {H H' : Hp} (h : Same H H') : But m H H' := fun b _ o e => h b o e
theorem But.trans {m : Addr} {H H1 H2 : Hp} (h : But m H H1) (k : But m H1 H2) : But m H H2 := fun b n o e => k b n o (h b n o e)
theorem but_upd {m : Addr} {H : Hp} {o : HO} : But m H (upd H m o) := fun b n u e => (upd_ne n).trans e
theorem rws_ne {H : Hp} {m : Addr} {as : List Addr} {T : List (List Int)} (hm : H m = some (.lst (as.map V.ref))) (hT : Rws H as T) : ∀ b ∈ as, b ≠ m := by
  intro b mb e
  subst e
  have key : ∀ {bs : List Addr} {U : List (List Int)}, Rws H bs U → b ∈ bs → ∃ xs : List Int, H b = some (.lst (xs.map V.int)) := by
    intro bs U h
    induction h with
    | nil => exact fun z => (List.not_mem_nil z).elim
    | cons p _ ih =>
      intro z
      rcases List.mem_cons.mp z with q | q
      · rw [q]
        exact ⟨_, p⟩
      · exact ih q
  obtain ⟨xs, hx⟩ := key hT mb
  rw [hm] at hx
  have e2 : as.map V.ref = xs.map V.int := by
    injection hx with z
    injection z
  cases as with
  | nil => cases mb
  | cons a as =>
    cases xs with
    | nil => cases e2
    | cons x xs =>
      injection e2 with z1 z2
      cases z1
theorem rws_but {H H' : Hp} {m : Addr} {as : List Addr} {T : List (List Int)} (hT : Rws H as T) (n : ∀ b ∈ as, b ≠ m) (h : But m H H') : Rws H' as T := hT.mono fun b mb o e => h b (n b mb) o e
theorem rws_set {H : Hp} {as : List Addr} {T : List (List Int)} (h : Rws H as T) (i : Nat) {a : Addr} {xs : List Int} (r : Rw H a xs) : Rws H (as.set i a) (T.set i xs) := by
  induction h generalizing i with
  | nil => exact .nil
  | cons p ps ih =>
    cases i with
    | zero => exact .cons r ps
    | succ i => exact .cons p (ih i)
theorem rws_get {H : Hp} {as : List Addr} {T : List (List Int)} (h : Rws H as T) {i : Nat} (hi : i < T.length) : ∃ b, (as.map V.ref)[i]? = some (V.ref b) ∧ Rw H b (T.getD i []) ∧ T.getD i [] ∈ T := by
  have hx : (as.map V.ref)[i]? = some ((as.map V.ref)[i]'(by rw [List.length_map, h.len]; exact hi)) := List.getElem?_eq_getElem _
  obtain ⟨b, xs, e1, hb, mx, ht, _⟩ := rws_at h hx
  have e : T.getD i [] = xs := by rw [List.getD_eq_getElem?_getD, ht]; rfl
  rw [e]
  rw [e1] at hx
  exact ⟨b, hx, hb, mx⟩
theorem int_get {xs : List Int} {c L : Nat} (h : xs.length = L) (hc : c < L) : (xs.map V.int)[c]? = some (V.int (xs.getD c 0)) := by
  rw [List.getElem?_map, List.getD_eq_getElem?_getD, List.getElem?_eq_getElem (by omega)]
  rfl
theorem ixN_nat {n j : Nat} (h : j < n) : ixN n (j : Int) = some j := by
  unfold ixN
  rw [if_pos (by omega), if_pos (by omega), Int.toNat_natCast]
section
variable {p : Nat} {l : List Int} {i c : Nat}
theorem mid_len (k : Nat) (T : List (List Int)) : (midZ p l i c k T).length = T.length := List.length_mapIdx
theorem mid_get (k : Nat) (T : List (List Int)) (j : Nat) (hj : j < T.length) : (midZ p l i c k T)[j]? = some (if j = i then l else if j < k then lessZ p l c (T.getD j []) else T.getD j []) := by
  unfold midZ
  rw [List.getElem?_mapIdx, List.getElem?_eq_getElem hj, List.getD_eq_getElem?_getD, List.getElem?_eq_getElem hj]
  rfl
theorem mid_zero {T : List (List Int)} (hi : i < T.length) : midZ p l i c 0 T = T.set i l := by
  refine List.ext_getElem? fun j => ?_
  by_cases hj : j < T.length
  · rw [mid_get 0 T j hj, List.getElem?_set, List.getElem?_eq_getElem hj, List.getD_eq_getElem?_getD, List.getElem?_eq_getElem hj]
    by_cases e : i = j
    · subst e
      rw [if_pos rfl, if_pos rfl, if_pos hj]
    · rw [if_neg e, if_neg (Ne.symm e), if_neg (Nat.not_lt_zero j)]
      rfl
  · rw [List.getElem?_eq_none (by rw [mid_len]; omega), List.getElem?_eq_none (by rw [List.length_set]; omega)]
theorem mid_same {k : Nat} {T : List (List Int)} (h : k = i ∨ lessZ p l c (T.getD k []) = T.getD k []) (hk : k < T.length) : midZ p l i c (k + 1) T = midZ p l i c k T := by
  refine List.ext_getElem? fun j => ?_
  by_cases hj : j < T.length
  · rw [mid_get _ T j hj, mid_get _ T j hj]
    by_cases e : j = i
    · rw [if_pos e, if_pos e]
    · rw [if_neg e, if_neg e]
      by_cases q : j = k
      · subst q
        rw [if_pos (Nat.lt_succ_self j), if_neg (Nat.lt_irrefl j)]
        rcases h with h | h
        · exact absurd h e
        · rw [h]
      · by_cases r : j < k
        · rw [if_pos r, if_pos (Nat.lt_succ_of_lt r)]
        · rw [if_neg r, if_neg (by omega)]
  · rw [List.getElem?_eq_none (by rw [mid_len]; omega), List.getElem?_eq_none (by rw [mid_len]; omega)]
theorem mid_next {k : Nat} {T : List (List Int)} (h : k ≠ i) (hk : k < T.length) : midZ p l i c (k + 1) T = (midZ p l i c k T).set k (lessZ p l c (T.getD k [])) := by
  refine List.ext_getElem? fun j => ?_
  by_cases hj : j < T.length
  · rw [mid_get _ T j hj, List.getElem?_set, mid_get _ T j hj, mid_len]
    by_cases q : k = j
    · subst q
      rw [if_neg h, if_pos (Nat.lt_succ_self k), if_pos rfl, if_pos hk]
    · rw [if_neg q]
      by_cases e : j = i
      · rw [if_pos e, if_pos e]
      · rw [if_neg e, if_neg e]
        by_cases r : j < k
        · rw [if_pos r, if_pos (Nat.lt_succ_of_lt r)]
        · rw [if_neg r, if_neg (by omega)]
  · rw [List.getElem?_eq_none (by rw [mid_len]; omega), List.getElem?_eq_none (by rw [List.length_set, mid_len]; omega)]
end
section
variable {P : Program} {w : World} {K : PySem.W.Frag} {mg : Str → Option Value} {base : Heap}
def spClear : Sp := fun vs H Q _ => ∃ (p : Nat) (m : Addr) (i c L : Nat) (as : List Addr) (T : List (List Int)), vs = [.int (p : Int), .ref m, .int (i : Int), .int (c : Int)] ∧ 2 ≤ p ∧ p ≤ 65537 ∧ Prm p ∧ H m = some (.lst (as.map V.ref)) ∧ Rws H as T ∧ (∀ xs ∈ T, Vc (p : Int) L xs) ∧ i < T.length ∧ c < L ∧ at_ T i c ≠ 0 ∧ L ≤ 1000 ∧ T.length ≤ 1000 ∧
  ∀ (H' : Hp) (as' : List Addr), But m H H' → H' m = some (.lst (as'.map V.ref)) → Rws H' as' (midZ p (leadZ p T i c) i c T.length T) → (∀ b ∈ as', b ∈ as ∨ H b = none) → Q .non H'
theorem one_pow {p : Nat} (p2 : 2 ≤ p) : (1 ^ (p - 2) % p : Nat) = 1 := by
  rw [Nat.one_pow]
  exact Nat.mod_eq_of_lt (by omega)
theorem lead_one {p : Nat} {T : List (List Int)} {i c : Nat} (p2 : 2 ≤ p) (h : at_ T i c = 1) (hv : ∀ n ∈ T.getD i [], 0 ≤ n ∧ n < (p : Int)) : leadZ p T i c = T.getD i [] := by
  unfold leadZ invN
  rw [h]
  show scaleZ p ((((1 : Int).toNat ^ (p - 2) % p : Nat) : Int)) (T.getD i []) = _
  have e : ((1 : Int).toNat) = 1 := rfl
  rw [e, one_pow p2]
  unfold scaleZ
  have z : ∀ xs : List Int, (∀ n ∈ xs, 0 ≤ n ∧ n < (p : Int)) → xs.map (fun n => n * ((1 : Nat) : Int) % (p : Int)) = xs := by
    intro xs hx
    induction xs with
    | nil => rfl
    | cons x xs ih =>
      obtain ⟨x0, x1⟩ := hx x List.mem_cons_self
      rw [List.map_cons, ih fun n m => hx n (List.mem_cons_of_mem _ m)]
      have e2 : x * ((1 : Nat) : Int) % (p : Int) = x := by
        have e3 : ((1 : Nat) : Int) = 1 := rfl
        rw [e3, Int.mul_one]
        exact Int.emod_eq_of_lt x0 x1
      rw [e2]
  exact z _ hv
theorem set_same {T : List (List Int)} {i : Nat} (h : i < T.length) : T.set i (T.getD i []) = T := by
  refine List.ext_getElem? fun j => ?_
  rw [List.getElem?_set]
  by_cases e : i = j
  · subst e
    rw [if_pos rfl, if_pos h, List.getD_eq_getElem?_getD, List.getElem?_eq_getElem h]
    rfl
  · rw [if_neg e]
abbrev nClear : List Str := ["prime", "table", "at", "place", "lead", "scale", "row", "factor", "number", "a", "b"]
end
end Vb
end L2

set_option Elab.async false
set_option linter.all false
set_option maxRecDepth 100000
set_option maxHeartbeats 4000000
/-! Vb, part 14: elimination. -/
namespace L2
namespace Vb
open PySem PySem.Spec PyProof.Rows
open LinA (scaleZ lessZ)
theorem inv_one {p : Nat} (pr : Prm p) (p2 : 2 ≤ p) {a : Int} (a0 : 0 < a) (a1 : a < (p : Int)) : a * (((a.toNat ^ (p - 2) % p : Nat) : Int)) % (p : Int) = 1 := by
  have f := LinA.fermat pr p2 (a := a.toNat) (by omega) (by omega)
  have e : ((a.toNat : Nat) : Int) = a := Int.toNat_of_nonneg (by omega)
  have z : a.toNat * (a.toNat ^ (p - 2) % p) % p = 1 := by
    rw [Nat.mul_mod, Nat.mod_mod, ← Nat.mul_mod, Nat.mul_comm, ← Nat.pow_succ]
    have e2 : (p - 2).succ = p - 1 := by omega
    rw [e2]
    exact f
  rw [← e, Int.toNat_natCast, ← Int.natCast_mul, ← Int.natCast_emod, z]
  rfl
theorem set_perm {a b : List Int} : ∀ {E : List (List Int)} {k : Nat}, E[k]? = some b → (a :: E).Perm (b :: E.set k a)
  | [], k, h => by cases h
  | x :: E, 0, h => by
    cases h
    exact List.Perm.swap _ _ _
  | x :: E, k + 1, h => by
    have z := set_perm (a := a) (b := b) (E := E) (k := k) h
    show (a :: x :: E).Perm (b :: x :: E.set k a)
    exact ((List.Perm.swap x a E).trans (z.cons x)).trans (List.Perm.swap b x _)
theorem swap_rest {D E : List (List Int)} {f : Nat} (h1 : D.length ≤ f) (h2 : f < (D ++ E).length) : ∃ E', E.Perm ((D ++ E).getD f [] :: E') ∧ (((D ++ E).set D.length ((D ++ E).getD f [])).set f ((D ++ E).getD D.length [])) = D ++ (D ++ E).getD f [] :: E' := by
  obtain ⟨k, rfl⟩ : ∃ k, f = D.length + k := ⟨f - D.length, by omega⟩
  have hk : k < E.length := by rw [List.length_append] at h2; omega
  have g : ∀ j, (D ++ E).getD (D.length + j) [] = E.getD j [] := fun j => by
    rw [List.getD_eq_getElem?_getD, List.getD_eq_getElem?_getD, List.getElem?_append_right (by omega), Nat.add_sub_cancel_left]
  have g0 := g 0
  rw [Nat.add_zero] at g0
  rw [g k, g0]
  have st : ∀ (X : List (List Int)) (j : Nat) (v : List Int), (D ++ X).set (D.length + j) v = D ++ X.set j v := fun X j v => by
    rw [List.set_append_right _ _ (by omega), Nat.add_sub_cancel_left]
  have st0 := st E 0 (E.getD k [])
  rw [Nat.add_zero] at st0
  rw [st0, st]
  cases E with
  | nil => exact absurd hk (Nat.not_lt_zero k)
  | cons a E =>
    cases k with
    | zero => exact ⟨E, List.Perm.refl _, rfl⟩
    | succ k =>
      refine ⟨E.set k a, set_perm ?_, rfl⟩
      show E[k]? = some (E.getD k [])
      have hk2 : k < E.length := Nat.lt_of_succ_lt_succ hk
      rw [List.getD_eq_getElem?_getD, List.getElem?_eq_getElem hk2]
      rfl
theorem mid_parts {p : Nat} {l b : List Int} {c : Nat} {D E : List (List Int)} : midZ p l D.length c (D ++ b :: E).length (D ++ b :: E) = (D.map (lessZ p l c) ++ [l]) ++ E.map (lessZ p l c) := by
  refine List.ext_getElem? fun j => ?_
  by_cases hj : j < (D ++ b :: E).length
  · rw [mid_get _ _ j hj, if_pos hj]
    have gD : (D ++ b :: E).getD j [] = if j < D.length then D.getD j [] else (b :: E).getD (j - D.length) [] := by
      by_cases q : j < D.length
      · rw [if_pos q, List.getD_eq_getElem?_getD, List.getD_eq_getElem?_getD, List.getElem?_append_left q]
      · rw [if_neg q, List.getD_eq_getElem?_getD, List.getD_eq_getElem?_getD, List.getElem?_append_right (Nat.le_of_not_lt q)]
    rw [gD]
    rcases Nat.lt_trichotomy j D.length with q | q | q
    · rw [if_neg (Nat.ne_of_lt q), if_pos q, List.append_assoc, List.getElem?_append_left (by rw [List.length_map]; exact q), List.getElem?_map, List.getD_eq_getElem?_getD, List.getElem?_eq_getElem q]
      rfl
    · rw [if_pos q, List.append_assoc, List.getElem?_append_right (by rw [List.length_map]; omega), List.length_map, q, Nat.sub_self]
      rfl
    · rw [if_neg (Nat.ne_of_gt q), if_neg (by omega), List.getElem?_append_right (by rw [List.length_append, List.length_map]; show D.length + 1 ≤ j; omega)]
      rw [List.length_append, List.length_map]
      obtain ⟨k, rfl⟩ : ∃ k, j = D.length + 1 + k := ⟨j - (D.length + 1), by omega⟩
      have e1 : D.length + 1 + k - D.length = k + 1 := by omega
      have e2 : D.length + 1 + k - (D.length + [l].length) = k := by
        show D.length + 1 + k - (D.length + 1) = k
        omega
      have hk : k < E.length := by
        rw [List.length_append, List.length_cons] at hj
        omega
      rw [e1, e2, List.getElem?_map, List.getElem?_eq_getElem hk]
      show some (lessZ p l c ((b :: E).getD (k + 1) [])) = some (lessZ p l c E[k])
      rw [List.getD_cons_succ, List.getD_eq_getElem?_getD, List.getElem?_eq_getElem hk]
      rfl
  · rw [List.getElem?_eq_none (by rw [mid_len]; omega), List.getElem?_eq_none ?_]
    rw [List.length_append, List.length_append, List.length_map, List.length_map]
    rw [List.length_append, List.length_cons] at hj
    show D.length + 1 + E.length ≤ j
    omega
theorem rws_mem {as : List Addr} {i : Nat} {b : Addr} (h : (as.map V.ref)[i]? = some (V.ref b)) : b ∈ as := by
  rw [List.getElem?_map] at h
  obtain ⟨c, hc, e⟩ := Option.map_eq_some_iff.mp h
  cases e
  exact List.mem_of_getElem? hc
theorem rws_some {H : Hp} {as : List Addr} {T : List (List Int)} (h : Rws H as T) {b : Addr} (m : b ∈ as) : ∃ o, H b = some o := by
  induction h with
  | nil => cases m
  | cons r _ ih =>
    rcases List.mem_cons.mp m with q | q
    · rw [q]
      exact ⟨_, r⟩
    · exact ih q
section
variable {P : Program} {w : World} {K : PySem.W.Frag} {mg : Str → Option Value} {base : Heap}
def nat_ (c : Nat) : V := .int (c : Int)
def spElim : Sp := fun vs H Q _ => ∃ (p : Nat) (m : Addr) (L W : Nat) (as : List Addr) (T : List (List Int)), vs = [.int (p : Int), .ref m, .int (W : Int)] ∧ 2 ≤ p ∧ p ≤ 65537 ∧ Prm p ∧ H m = some (.lst (as.map V.ref)) ∧ Rws H as T ∧ (∀ xs ∈ T, Vc (p : Int) L xs) ∧ W ≤ L ∧ L ≤ 1000 ∧ T.length ≤ 1000 ∧
  ∀ (H' : Hp) (tb mt pv : Addr) (as' : List Addr) (D E : List (List Int)) (t : List Nat), Same H H' → H tb = none → H mt = none → H pv = none → mt ≠ pv → H' tb = some (.tup [.ref mt, .ref pv]) → H' mt = some (.lst (as'.map V.ref)) → H' pv = some (.lst (t.map nat_)) → Rws H' as' (D ++ E) → (∀ b ∈ as', H b = none) →
    (∀ [NeZero p], LinA.Way (Fin p) p L T D E t W) → (∀ c ∈ t, c < W) → D.length = t.length → D.length + E.length = T.length → Q (.ref tb) H'
end
end Vb
end L2

set_option Elab.async false
set_option linter.all false
set_option maxRecDepth 100000
set_option maxHeartbeats 4000000
/-! Vb, part 15: bases. -/
namespace L2
namespace Vb
open PySem PySem.Spec PyProof.Rows
theorem rws_take {H : Hp} {as : List Addr} {T : List (List Int)} (h : Rws H as T) (n : Nat) : Rws H (as.take n) (T.take n) := by
  induction h generalizing n with
  | nil => rw [List.take_nil, List.take_nil]; exact .nil
  | cons r _ ih =>
    cases n with
    | zero => exact .nil
    | succ n => exact .cons r (ih n)
/-- what a call of reduced leaves -/
def Reds (H : Hp) (p L : Nat) (T : List (List Int)) (H' : Hp) (d : Addr) (bs : List Addr) (B : List (List Int)) (t : List Nat) : Prop :=
  Same H H' ∧ H d = none ∧ H' d = some (.lst (bs.map V.ref)) ∧ Rws H' bs B ∧ (∀ b ∈ bs, H b = none) ∧ LinA.Bas p L T B t ∧ B.length ≤ T.length
section
variable {P : Program} {w : World} {K : PySem.W.Frag} {mg : Str → Option Value} {base : Heap}
def spBas : Sp := fun vs H Q _ => ∃ (p : Nat) (m : Addr) (L : Nat) (as : List Addr) (T : List (List Int)), vs = [.int (p : Int), .ref m] ∧ 2 ≤ p ∧ p ≤ 65537 ∧ Prm p ∧ H m = some (.lst (as.map V.ref)) ∧ Rws H as T ∧ (∀ xs ∈ T, Vc (p : Int) L xs) ∧ L ≤ 1000 ∧ T.length ≤ 1000 ∧
  ∀ (H' : Hp) (d : Addr) (bs : List Addr) (B : List (List Int)) (t : List Nat), Reds H p L T H' d bs B t → Q (.ref d) H'
def spRed : Sp := fun vs H Q _ => ∃ (p : Nat) (m : Addr) (L : Nat) (as : List Addr) (T : List (List Int)), vs = [.int (p : Int), .ref m] ∧ (p : Int) ∈ goods ∧ H m = some (.lst (as.map V.ref)) ∧ Rws H as T ∧ (∀ xs ∈ T, Vc (p : Int) L xs) ∧ L ≤ 1000 ∧ T.length ≤ 1000 ∧
  ∀ (H' : Hp) (d : Addr) (bs : List Addr) (B : List (List Int)) (t : List Nat), Reds H p L T H' d bs B t → Q (.ref d) H'
def spRank : Sp := fun vs H Q _ => ∃ (p : Nat) (m : Addr) (L : Nat) (as : List Addr) (T : List (List Int)), vs = [.int (p : Int), .ref m] ∧ (p : Int) ∈ goods ∧ H m = some (.lst (as.map V.ref)) ∧ Rws H as T ∧ (∀ xs ∈ T, Vc (p : Int) L xs) ∧ L ≤ 1000 ∧ T.length ≤ 1000 ∧
  ∀ (H' : Hp) (B : List (List Int)) (t : List Nat), Same H H' → LinA.Bas p L T B t → Q (.int (B.length : Int)) H'
end
end Vb
end L2

set_option Elab.async false
set_option linter.all false
set_option maxRecDepth 100000
set_option maxHeartbeats 4000000
/-! Vb, part 40: lists of new rows that grow; any of numbers. -/
namespace L2
namespace Vb
open PySem PySem.Spec PyProof.Rows
section
variable {X : Cx}
def rAnyI (K : PySem.W.Frag) : List V → Hp → VK → Prop := fun vs H Q => ∃ (a : Addr) (ns : List Int), vs = [V.ref a] ∧ SqL K H a (ns.map V.int) ∧ Q (.bl (ns.any fun n => decide (n ≠ 0))) H
theorem any_rangeI : ∀ ns : List Int, (List.range ns.length).any (fun i => decide (ns.getD i 0 ≠ 0)) = ns.any fun n => decide (n ≠ 0)
  | [] => rfl
  | n :: ns => by
    rw [List.length_cons, List.range_succ_eq_map, List.any_cons, List.any_map, List.any_cons, ← any_rangeI ns]
    rfl
theorem cr_anyI (hc : X.calm = true) : CallR X (.builtin "any") (rAnyI X.K) := by
  intro pins s σ H vs us Q I r h
  obtain ⟨a, ns, rfl, hs, q⟩ := h
  obtain ⟨its, rv, hl, _⟩ := I.list hs
  rw [Vals.ref1 r]
  have hi := rv.ints
  refine call_any_walk (iter_any hl.isList fun s₂ e2 st hne => ?_)
  subst e2
  refine ⟨_, _, _, _, _, _, _, rfl, Walks.list (A := X.A.in1) (I.ok.hd hc) _ a hne its.toArray, st, truth_ints hi, fun h' tk hk => ?_⟩
  refine ⟨.bl _, H, I.kept fun b o eo => hk b o (fun hmem => ?_) (Heap.get?_push_of_some _ eo), ?_, q⟩
  · rcases List.mem_cons.mp hmem with e1 | hmem
    · exact absurd (e1 ▸ Heap.lt_size eo) (Nat.lt_irrefl _)
    · cases hmem
  · show Value.bool _ = Value.bool _
    rw [← any_rangeI, List.size_toArray, hi.length]
end
theorem boot_any' : bootBuiltins ("any" : Str) = some (.builtin "any") := by decide +kernel
end Vb
end L2

set_option Elab.async false
set_option linter.all false
set_option maxRecDepth 100000
set_option maxHeartbeats 4000000
/-! Vb, part 41: meeting. -/
namespace L2
namespace Vb
open PySem PySem.Spec PyProof.Rows
open LinA (augZ putZ Meets)
abbrev nMeet : List Str := ["prime", "vectors", "aims", "length", "table", "pivots", "row", "found", "place", "vector", "aim"]
theorem augZ_get {T : List (List Int)} {aims : List Int} {k : Nat} {xs : List Int} {a : Int} (h1 : T[k]? = some xs) (h2 : aims[k]? = some a) : (augZ T aims)[k]? = some (xs ++ [a]) := by
  unfold augZ
  rw [List.getElem?_zipWith, h1, h2]
theorem cut_drop (xs : List V) (n : Nat) : cutV xs (some (n : Int)) none = xs.drop n := by
  unfold cutV
  rw [HT.sIx_none, HT.sIx_nat]
  rcases Nat.le_total n xs.length with h | h
  · rw [Nat.min_eq_left h]
    exact List.take_of_length_le (by rw [List.length_drop]; exact Nat.le_refl _)
  · rw [Nat.min_eq_right h, List.drop_length, List.drop_eq_nil_of_le h, List.take_nil]
theorem rws_drop {H : Hp} {as : List Addr} {T : List (List Int)} (h : Rws H as T) (n : Nat) : Rws H (as.drop n) (T.drop n) := by
  induction h generalizing n with
  | nil => rw [List.drop_nil, List.drop_nil]; exact .nil
  | cons r t ih =>
    cases n with
    | zero => exact .cons r t
    | succ n => exact ih n
/-- v is the answer r, new -/
def OptRw (H H' : Hp) (v : V) : Option (List Int) → Prop
  | none => v = .non
  | some x => ∃ d, v = .ref d ∧ H d = none ∧ Rw H' d x
theorem nat_get {t : List Nat} {k : Nat} {x : V} (h : (t.map nat_)[k]? = some x) : ∃ c, x = nat_ c ∧ t[k]? = some c := by
  rw [List.getElem?_map] at h
  obtain ⟨c, hc, e⟩ := Option.map_eq_some_iff.mp h
  exact ⟨c, e.symm, hc⟩
theorem any_not {E : List (List Int)} {n : Nat} (h : ((E.map fun xs => xs.getD n 0).any fun n => decide (n ≠ 0)) = false) : ∀ e ∈ E, e.getD n 0 = 0 := fun e me => by
  have z := List.any_eq_false.mp h _ (List.mem_map_of_mem me)
  exact Classical.byContradiction fun q => z (decide_eq_true q)
theorem any_yes {E : List (List Int)} {n : Nat} (h : ((E.map fun xs => xs.getD n 0).any fun n => decide (n ≠ 0)) = true) : ∃ e ∈ E, e.getD n 0 ≠ 0 := by
  obtain ⟨x, mx, hx⟩ := List.any_eq_true.mp h
  obtain ⟨e, me, rfl⟩ := List.mem_map.mp mx
  exact ⟨e, me, of_decide_eq_true hx⟩
section
variable {P : Program} {w : World} {K : PySem.W.Frag} {mg : Str → Option Value} {base : Heap}
def spMeet : Sp := fun vs H Q _ => ∃ (p : Nat) (m b : Addr) (n : Nat) (as : List Addr) (T : List (List Int)) (aims : List Int), vs = [.int (p : Int), .ref m, .ref b, .int (n : Int)] ∧ 2 ≤ p ∧ p ≤ 65537 ∧ Prm p ∧ H m = some (.lst (as.map V.ref)) ∧ Rws H as T ∧ (∀ xs ∈ T, Vc (p : Int) n xs) ∧ Rw H b aims ∧ Vc (p : Int) T.length aims ∧ n < 1000 ∧ T.length ≤ 1000 ∧
  ∀ (H' : Hp) (v : V) (r : Option (List Int)), Same H H' → OptRw H H' v r → Meets p n T aims r → Q v H'
end
end Vb
end L2

set_option Elab.async false
set_option linter.all false
set_option maxRecDepth 100000
set_option maxHeartbeats 4000000
/-! Vb, part 43: plain data that is tracked, with empty dicts in it: its type, its repr, lists of the same. -/
namespace L2
namespace Vb
open PySem PySem.Spec PyProof.Rows
/-- numbers, texts, truth values, None -/
def Flat (v : V) (d : PyData) : Prop := (v = .non ∧ d = .none) ∨ (∃ b, v = .bl b ∧ d = .bool b) ∨ (∃ i, v = .int i ∧ d = .int i) ∨ (∃ x, v = .str x ∧ d = .str x)
/-- v is the data d, at most n lists and tuples deep -/
def Sho : Nat → Hp → V → PyData → Prop
  | 0, _, v, d => Flat v d
  | n + 1, H, v, d => Flat v d ∨ (∃ (a : Addr) (xs : List V) (ds : List PyData), v = .ref a ∧ d = .list ds ∧ H a = some (.lst xs) ∧ Paired (Sho n H) xs ds) ∨
      (∃ (a : Addr) (xs : List V) (ds : List PyData), v = .ref a ∧ d = .tuple ds ∧ H a = some (.tup xs) ∧ Paired (Sho n H) xs ds) ∨
      (∃ (a : Addr), v = .ref a ∧ d = .dict [] ∧ H a = some (.dK []))
theorem Sho.mono {H H' : Hp} (k : ∀ b o, H b = some o → H' b = some o) : ∀ {n : Nat} {v : V} {d : PyData}, Sho n H v d → Sho n H' v d
  | 0, _, _, h => h
  | n + 1, _, _, h => by
    rcases h with h | ⟨a, xs, ds, e1, e2, e3, h⟩ | ⟨a, xs, ds, e1, e2, e3, h⟩ | ⟨a, e1, e2, e3⟩
    · exact .inl h
    · exact .inr (.inl ⟨a, xs, ds, e1, e2, k _ _ e3, L2.Paired.mapP h fun _ _ z => Sho.mono k z⟩)
    · exact .inr (.inr (.inl ⟨a, xs, ds, e1, e2, k _ _ e3, L2.Paired.mapP h fun _ _ z => Sho.mono k z⟩))
    · exact .inr (.inr (.inr ⟨a, e1, e2, k _ _ e3⟩))
theorem Sho.up {H H' : Hp} {n : Nat} {v : V} {d : PyData} (h : Sho n H v d) (s : Same H H') : Sho n H' v d := h.mono s
theorem Sho.non {n : Nat} {H : Hp} : Sho n H .non .none := by
  cases n with
  | zero => exact .inl ⟨rfl, rfl⟩
  | succ n => exact .inl (.inl ⟨rfl, rfl⟩)
theorem Sho.bl {n : Nat} {H : Hp} (b : Bool) : Sho n H (.bl b) (.bool b) := by
  cases n with
  | zero => exact .inr (.inl ⟨b, rfl, rfl⟩)
  | succ n => exact .inl (.inr (.inl ⟨b, rfl, rfl⟩))
theorem Sho.int {n : Nat} {H : Hp} (i : Int) : Sho n H (.int i) (.int i) := by
  cases n with
  | zero => exact .inr (.inr (.inl ⟨i, rfl, rfl⟩))
  | succ n => exact .inl (.inr (.inr (.inl ⟨i, rfl, rfl⟩)))
theorem Sho.str {n : Nat} {H : Hp} (x : Str) : Sho n H (.str x) (.str x) := by
  cases n with
  | zero => exact .inr (.inr (.inr ⟨x, rfl, rfl⟩))
  | succ n => exact .inl (.inr (.inr (.inr ⟨x, rfl, rfl⟩)))
theorem Sho.lst {n : Nat} {H : Hp} {a : Addr} {xs : List V} {ds : List PyData} (h : H a = some (.lst xs)) (p : Paired (Sho n H) xs ds) : Sho (n + 1) H (.ref a) (.list ds) := .inr (.inl ⟨a, xs, ds, rfl, rfl, h, p⟩)
theorem Sho.tup {n : Nat} {H : Hp} {a : Addr} {xs : List V} {ds : List PyData} (h : H a = some (.tup xs)) (p : Paired (Sho n H) xs ds) : Sho (n + 1) H (.ref a) (.tuple ds) := .inr (.inr (.inl ⟨a, xs, ds, rfl, rfl, h, p⟩))
theorem Sho.dct {n : Nat} {H : Hp} {a : Addr} (h : H a = some (.dK [])) : Sho (n + 1) H (.ref a) (.dict []) := .inr (.inr (.inr ⟨a, rfl, rfl, h⟩))
theorem Sho.ints {n : Nat} {H : Hp} : ∀ xs : List Int, Paired (Sho n H) (xs.map V.int) (xs.map PyData.int)
  | [] => .nil
  | x :: xs => .cons (.int x) (Sho.ints xs)
theorem Sho.row {n : Nat} {H : Hp} {b : Addr} {xs : List Int} (h : Rw H b xs) : Sho (n + 1) H (.ref b) (.list (xs.map PyData.int)) := .lst h (Sho.ints xs)
theorem Sho.rows {n : Nat} {H : Hp} {as : List Addr} {T : List (List Int)} (h : Rws H as T) : Paired (Sho (n + 1) H) (as.map V.ref) (T.map fun xs => .list (xs.map PyData.int)) := by
  induction h with
  | nil => exact .nil
  | cons r _ ih => exact .cons (Sho.row r) ih
theorem Sho.mat {n : Nat} {H : Hp} {m : Addr} {as : List Addr} {T : List (List Int)} (h : H m = some (.lst (as.map V.ref))) (k : Rws H as T) : Sho (n + 2) H (.ref m) (.list (T.map fun xs => .list (xs.map PyData.int))) := .lst h (Sho.rows k)
/-! ### by their kind -/
theorem Sho.ofInt {n : Nat} {H : Hp} {v : V} {i : Int} (h : Sho n H v (.int i)) : v = .int i := by
  cases n with
  | zero => rcases h with ⟨_, e⟩ | ⟨b, _, e⟩ | ⟨j, e1, e⟩ | ⟨x, _, e⟩ <;> cases e; exact e1
  | succ n =>
    rcases h with (⟨_, e⟩ | ⟨b, _, e⟩ | ⟨j, e1, e⟩ | ⟨x, _, e⟩) | ⟨a, xs, ds, e1, e, _⟩ | ⟨a, xs, ds, e1, e, _⟩ | ⟨a, e1, e, _⟩ <;> cases e
    exact e1
theorem Sho.ofBool {n : Nat} {H : Hp} {v : V} {i : Bool} (h : Sho n H v (.bool i)) : v = .bl i := by
  cases n with
  | zero => rcases h with ⟨_, e⟩ | ⟨b, e1, e⟩ | ⟨j, _, e⟩ | ⟨x, _, e⟩ <;> cases e; exact e1
  | succ n =>
    rcases h with (⟨_, e⟩ | ⟨b, e1, e⟩ | ⟨j, _, e⟩ | ⟨x, _, e⟩) | ⟨a, xs, ds, e1, e, _⟩ | ⟨a, xs, ds, e1, e, _⟩ | ⟨a, e1, e, _⟩ <;> cases e
    exact e1
theorem Sho.ofNone {n : Nat} {H : Hp} {v : V} (h : Sho n H v .none) : v = .non := by
  cases n with
  | zero => rcases h with ⟨e1, e⟩ | ⟨b, _, e⟩ | ⟨j, _, e⟩ | ⟨x, _, e⟩ <;> first | exact e1 | cases e
  | succ n =>
    rcases h with (⟨e1, e⟩ | ⟨b, _, e⟩ | ⟨j, _, e⟩ | ⟨x, _, e⟩) | ⟨a, xs, ds, e1, e, _⟩ | ⟨a, xs, ds, e1, e, _⟩ | ⟨a, e1, e, _⟩ <;> first | exact e1 | cases e
theorem Sho.ofStr {n : Nat} {H : Hp} {v : V} {i : Str} (h : Sho n H v (.str i)) : v = .str i := by
  cases n with
  | zero => rcases h with ⟨_, e⟩ | ⟨b, _, e⟩ | ⟨j, _, e⟩ | ⟨x, e1, e⟩ <;> cases e; exact e1
  | succ n =>
    rcases h with (⟨_, e⟩ | ⟨b, _, e⟩ | ⟨j, _, e⟩ | ⟨x, e1, e⟩) | ⟨a, xs, ds, e1, e, _⟩ | ⟨a, xs, ds, e1, e, _⟩ | ⟨a, e1, e, _⟩ <;> cases e
    exact e1
theorem Sho.ofList {n : Nat} {H : Hp} {v : V} {ds : List PyData} (h : Sho n H v (.list ds)) : ∃ m a xs, n = m + 1 ∧ v = .ref a ∧ H a = some (.lst xs) ∧ Paired (Sho m H) xs ds := by
  cases n with
  | zero => rcases h with ⟨_, e⟩ | ⟨b, _, e⟩ | ⟨j, _, e⟩ | ⟨x, e1, e⟩ <;> cases e
  | succ n =>
    rcases h with (⟨_, e⟩ | ⟨b, _, e⟩ | ⟨j, _, e⟩ | ⟨x, e1, e⟩) | ⟨a, xs, ds, e1, e, e3, p⟩ | ⟨a, xs, ds, e1, e, _⟩ | ⟨a, e1, e, _⟩ <;> cases e
    exact ⟨n, a, xs, rfl, e1, e3, p⟩
theorem Sho.ofTuple {n : Nat} {H : Hp} {v : V} {ds : List PyData} (h : Sho n H v (.tuple ds)) : ∃ m a xs, n = m + 1 ∧ v = .ref a ∧ H a = some (.tup xs) ∧ Paired (Sho m H) xs ds := by
  cases n with
  | zero => rcases h with ⟨_, e⟩ | ⟨b, _, e⟩ | ⟨j, _, e⟩ | ⟨x, e1, e⟩ <;> cases e
  | succ n =>
    rcases h with (⟨_, e⟩ | ⟨b, _, e⟩ | ⟨j, _, e⟩ | ⟨x, e1, e⟩) | ⟨a, xs, ds, e1, e, _⟩ | ⟨a, xs, ds, e1, e, e3, p⟩ | ⟨a, e1, e, _⟩ <;> cases e
    exact ⟨n, a, xs, rfl, e1, e3, p⟩
theorem Sho.ofDict {n : Nat} {H : Hp} {v : V} {ds : List (PyData × PyData)} (h : Sho n H v (.dict ds)) : ∃ a, v = .ref a ∧ ds = [] ∧ H a = some (.dK []) := by
  cases n with
  | zero => rcases h with ⟨_, e⟩ | ⟨b, _, e⟩ | ⟨j, _, e⟩ | ⟨x, e1, e⟩ <;> cases e
  | succ n =>
    rcases h with (⟨_, e⟩ | ⟨b, _, e⟩ | ⟨j, _, e⟩ | ⟨x, e1, e⟩) | ⟨a, xs, ds, e1, e, _⟩ | ⟨a, xs, ds, e1, e, e3, p⟩ | ⟨a, e1, e, e3⟩ <;> cases e
    exact ⟨a, e1, rfl, e3⟩
/-! ### the type -/
def zTyD (x : V) (H : Hp) : Option String :=
  match x with
  | .non => some "NoneType"
  | .bl _ => some "bool"
  | .int _ => some "int"
  | .str _ => some "str"
  | .ref p => (match H p with
    | some (.lst _) => some "list"
    | some (.tup _) => some "tuple"
    | some (.dK _) => some "dict"
    | _ => none)
  | _ => none
def tyD : PyData → String
  | .none => "NoneType"
  | .bool _ => "bool"
  | .int _ => "int"
  | .str _ => "str"
  | .list _ => "list"
  | .tuple _ => "tuple"
  | .dict _ => "dict"
theorem Sho.ty {n : Nat} {H : Hp} {v : V} {d : PyData} (h : Sho n H v d) : zTyD v H = some (tyD d) := by
  cases d with
  | none => rw [h.ofNone]; rfl
  | bool b => rw [h.ofBool]; rfl
  | int i => rw [h.ofInt]; rfl
  | str x => rw [h.ofStr]; rfl
  | list ds =>
    obtain ⟨m, a, xs, _, rfl, e, _⟩ := h.ofList
    simp only [zTyD, e]
    rfl
  | tuple ds =>
    obtain ⟨m, a, xs, _, rfl, e, _⟩ := h.ofTuple
    simp only [zTyD, e]
    rfl
  | dict ds =>
    obtain ⟨a, rfl, _, e⟩ := h.ofDict
    simp only [zTyD, e]
    rfl
def kTypD (x : V) (H : Hp) (Q : VK) : Prop := ∃ n, zTyD x H = some n ∧ Q (.ty n) H
section
variable {X : Cx}
theorem rl_typeD (pins : List (Addr × Obj)) (s : Shared) (σ : St) (H : Hp) (x : V) (v : Value) (Q : VK) (I : Inv X pins σ H s) (r : RelV x v) (h : kTypD x H Q) :
    wpAny (model X.prog X.w) X.A (call (.type "type") [v]) (EP X pins σ Q) X.xe s := by
  obtain ⟨n, e, q⟩ := h
  have fin : EP X pins σ Q (.type n) s := ⟨.ty n, H, I, rfl, q⟩
  cases x with
  | non => cases (show v = Value.none from r); cases e; exact call_type_of (Tx := "NoneType") rfl (by decide +kernel) fin
  | bl y => cases (show v = Value.bool y from r); cases e; exact call_type_of (Tx := "bool") rfl (by decide +kernel) fin
  | int i => obtain ⟨t, rfl⟩ := (show ∃ t, v = Value.int i t from r); cases e; exact call_type_of (Tx := "int") rfl (by decide +kernel) fin
  | str y => obtain ⟨t, rfl⟩ := (show ∃ t, v = Value.str y t from r); cases e; exact call_type_of (Tx := "str") rfl (by decide +kernel) fin
  | byt y => cases e
  | flt y => cases e
  | ty y => cases e
  | ref p =>
    cases (show v = Value.ref p from r)
    simp only [zTyD] at e
    cases ho : H p with
    | none => rw [ho] at e; cases e
    | some o =>
      rw [ho] at e
      have ok := I.hok p o ho
      cases o with
      | lst xs =>
        cases e
        obtain ⟨hz, its, k, r', g⟩ := ok
        exact call_type_of (Tx := "list") ⟨_, g, rfl⟩ (by decide +kernel) fin
      | tup xs =>
        cases e
        obtain ⟨hz, its, r', ob, g, c, k⟩ := ok
        exact call_type_of (Tx := "tuple") ⟨ob, g, c⟩ (by decide +kernel) fin
      | dK kvs =>
        cases e
        obtain ⟨_, _, vs, kv, o, es, ep, g, ex, _⟩ := ok
        exact call_type_of (Tx := "dict") ⟨o, g, ex.1⟩ (by decide +kernel) fin
      | _ => cases e
theorem pe_typeD {a : Expr} {ta : TE} {p pos : Pos} (hg : Gl X "type") (hm : X.mg "type" = none) (ha : PE X a ta) (na : starEach [a] X.env = (false, eval a X.env) :: starEach [] X.env := by rfl) :
    PE X (.Call (.Name "type" p) [a] [] pos) (tThenZ ta kTypD) := pe_callTy (call_r1 rl_typeD) hg hm (by decide +kernel) (pa_cons ha pa_nil na) (he := na)
end
/-! ### repr -/
/-- the modules' dict stands in the written part -/
def SysIn (K : PySem.W.Frag) : Prop := ∃ o es n, K.lookup sysModules = some o ∧ o.data = .dict es n
theorem pair_reads {h : Heap} {F : V → PyData → Prop} (g : ∀ v u d, F v d → RelV v u → ∃ as, Reads h u d as ∧ sysModules ∉ as) : ∀ {xs : List V} {us : List Value} {ds : List PyData}, Paired F xs ds → Vals xs us → ∃ as, ReadsAll h us ds as ∧ sysModules ∉ as
  | _, _, _, .nil, .nil => ⟨_, .nil, fun m => nomatch m⟩
  | _, _, _, .cons p ps, .cons r rs => by
    obtain ⟨a1, h1, n1⟩ := g _ _ _ p r
    obtain ⟨a2, h2, n2⟩ := pair_reads g ps rs
    exact ⟨_, .cons h1 h2, fun m => (List.mem_append.mp m).elim n1 n2⟩
theorem flat_reads {h : Heap} {v : V} {u : Value} {d : PyData} (f : Flat v d) (r : RelV v u) : Reads h u d [] := by
  rcases f with ⟨rfl, rfl⟩ | ⟨b, rfl, rfl⟩ | ⟨i, rfl, rfl⟩ | ⟨x, rfl, rfl⟩
  · cases (show u = Value.none from r)
    exact .none
  · cases (show u = Value.bool b from r)
    exact .bool b
  · obtain ⟨t, rfl⟩ := (show ∃ t, u = Value.int i t from r)
    exact .int i t
  · obtain ⟨t, rfl⟩ := (show ∃ t, u = Value.str x t from r)
    exact .str x t
theorem Sho.reads {P : Program} {w : World} {H : Hp} {h : Heap} (ok : HOk P w H h) (sy : ∃ o es n, h.get? sysModules = some o ∧ o.data = .dict es n) : ∀ {n : Nat} {v : V} {u : Value} {d : PyData}, Sho n H v d → RelV v u → ∃ as, Reads h u d as ∧ sysModules ∉ as
  | 0, _, _, _, f, r => ⟨_, flat_reads f r, fun m => nomatch m⟩
  | n + 1, _, u, _, f, r => by
    have deep : ∀ v u d, Sho n H v d → RelV v u → ∃ as, Reads h u d as ∧ sysModules ∉ as := fun v u d f r => Sho.reads ok sy f r
    obtain ⟨so, se, sn, s1, s2⟩ := sy
    have noS : ∀ {a : Addr} {o : Obj} {vs : Array Value} {k : Nat}, h.get? a = some o → o.data = .seq vs k → a ≠ sysModules := fun {a o vs k} e1 e2 q => by
      rw [q, s1] at e1
      cases e1
      rw [s2] at e2
      cases e2
    rcases f with f | ⟨a, xs, ds, rfl, rfl, e3, f⟩ | ⟨a, xs, ds, rfl, rfl, e3, f⟩ | ⟨a, rfl, rfl, e3⟩
    · exact ⟨_, flat_reads f r, fun m => nomatch m⟩
    · obtain ⟨_, its, m, rv, e⟩ := (show ObjOk P w H h a (.lst xs) from ok a _ e3)
      obtain ⟨as, z, nz⟩ := pair_reads deep f rv
      cases (show u = Value.ref a from r)
      exact ⟨_, .list e rfl rfl z, fun q => (List.mem_cons.mp q).elim (fun q => noS e rfl q.symm) nz⟩
    · obtain ⟨_, its, rv, o, e, ec, m, ed⟩ := (show ObjOk P w H h a (.tup xs) from ok a _ e3)
      obtain ⟨as, z, nz⟩ := pair_reads deep f rv
      cases (show u = Value.ref a from r)
      exact ⟨_, .tuple e ec ed z, nz⟩
    · obtain ⟨_, ns, vs, kv, o, es, ep, e, ex, ed, ks, prs, _⟩ := (show ObjOk P w H h a (.dK []) from ok a _ e3)
      cases kv
      have e0 : es.toList = [] := by
        cases hz : es.toList with
        | nil => rfl
        | cons y ys =>
          rw [hz] at prs
          cases prs
      cases (show u = Value.ref a from r)
      refine ⟨_, .dict (as := []) (bs := []) (kvs := []) e ex.1 ed (by rw [e0]; exact .nil) (by rw [e0]; exact .nil), fun hm => ?_⟩
      have q : sysModules = a := by simpa using hm
      rw [q] at ns
      simp at ns
/-- repr(v) of such data -/
def rShow : List V → Hp → VK → Prop := fun xs H Q => ∃ (v : V) (d : PyData) (n : Nat), xs = [v] ∧ Sho n H v d ∧ d.showable = true ∧ d.depth ≤ 30 ∧ d.shown.length ≤ sizeLine ∧ Q (.str d.shown) H
theorem call_repr {X : Cx} (hgd : X.A.guards = some []) (hu : X.A.units + 64 < cLine) (sy : SysIn X.K) : CallR X (.builtin "repr") rShow := by
  intro pins s σ H xs us Q I r h
  obtain ⟨v, d, n, rfl, f, hs, hd, hz, q⟩ := h
  obtain ⟨u, rfl, rv⟩ : ∃ u, us = [u] ∧ RelV v u := by
    cases r with
    | cons r1 r2 =>
      cases r2
      exact ⟨_, rfl, r1⟩
  obtain ⟨so, se, sn, s1, s2⟩ := sy
  obtain ⟨as, rd, ns⟩ := f.reads I.hok ⟨so, se, sn, I.kIn _ _ s1, s2⟩ rv
  have ns : d.hasDict = true → sysModules ∉ as := fun _ => ns
  cases rd with
  | none => exact PySem.P.repr_of_none ⟨.str _, H, I.tok _, ⟨_, rfl⟩, q⟩
  | bool b => exact PySem.P.repr_of_bool ⟨.str _, H, I.tok _, ⟨_, rfl⟩, q⟩
  | int i t => exact PySem.P.repr_of_int (by simpa [PyData.showable] using hs) ⟨.str _, H, I.tok _, ⟨_, rfl⟩, q⟩
  | str x t => exact PySem.P.repr_of_str ⟨.str _, H, I.tok _, ⟨_, rfl⟩, q⟩ hz
  | list h1 h2 h3 h4 => exact repr_of_reads' (.list h1 h2 h3 h4) hs ns hgd (by omega) (fun _ _ e => e) (fun h' t tk k => ⟨.str _, H, I.kept (t' := tk) k, ⟨_, rfl⟩, q⟩) hz
  | tuple h1 h2 h3 h4 => exact repr_of_reads' (.tuple h1 h2 h3 h4) hs ns hgd (by omega) (fun _ _ e => e) (fun h' t tk k => ⟨.str _, H, I.kept (t' := tk) k, ⟨_, rfl⟩, q⟩) hz
  | dict h1 h2 h3 h4 h5 => exact repr_of_reads' (.dict h1 h2 h3 h4 h5) hs ns hgd (by omega) (fun _ _ e => e) (fun h' t tk k => ⟨.str _, H, I.kept (t' := tk) k, ⟨_, rfl⟩, q⟩) hz
/-! ### lists of one text and the very same thing -/
section
variable {X : Cx}
/-- the answer of == of two things that are the same, or both flat -/
def EqS (x y : V) (b : Bool) : Prop := (x = y ∧ (flatV x = true ∨ ∃ a, x = .ref a) ∧ b = true) ∨ (flatV x = true ∧ flatV y = true ∧ b = eqV x y)
theorem eqV_same {x : V} (h : flatV x = true) : eqV x x = true := by
  cases x with
  | non => rfl
  | bl b => exact beq_self_eq_true b
  | int b => exact beq_self_eq_true b
  | str b => exact beq_self_eq_true b
  | _ => exact absurd (show false = true from h) Bool.false_ne_true
theorem eqS_at {A : Around} {s : Shared} {x y : V} {u v : Value} {b : Bool} (h : EqS x y b) (rx : RelV x u) (ry : RelV y v) : SeqAt.EqAt A s u v b := by
  rcases h with ⟨rfl, h | ⟨a, rfl⟩, rfl⟩ | ⟨h1, h2, rfl⟩
  · have z := eqAt_V (A := A) (s := s) rx ry h h
    rw [eqV_same h] at z
    exact z
  · cases (show u = Value.ref a from rx)
    cases (show v = Value.ref a from ry)
    exact SeqAt.EqAt.same _
  · exact eqAt_V rx ry h1 h2
def rEqL : R2 := fun x y H Q => ∃ (a b : Addr) (x1 x2 y1 y2 : V) (b1 b2 : Bool), x = .ref a ∧ y = .ref b ∧ H a = some (.lst [x1, x2]) ∧ H b = some (.lst [y1, y2]) ∧ EqS x1 y1 b1 ∧ EqS x2 y2 b2 ∧ Q (.bl (b1 && b2)) H
def rNeL : R2 := fun x y H Q => ∃ (a b : Addr) (x1 x2 y1 y2 : V) (b1 b2 : Bool), x = .ref a ∧ y = .ref b ∧ H a = some (.lst [x1, x2]) ∧ H b = some (.lst [y1, y2]) ∧ EqS x1 y1 b1 ∧ EqS x2 y2 b2 ∧ Q (.bl (!(b1 && b2))) H
theorem two_vals {x1 x2 : V} {its : List Value} (r : Vals [x1, x2] its) : ∃ u1 u2, its = [u1, u2] ∧ RelV x1 u1 ∧ RelV x2 u2 := by
  cases r with
  | cons r1 r =>
    cases r with
    | cons r2 r =>
      cases r
      exact ⟨_, _, rfl, r1, r2⟩
theorem op_eqL (hu : X.A.units < cLine) : OpR X (compareOp .Eq) rEqL := by
  intro pins s σ H x y v u Q I rx ry h
  obtain ⟨a, b, x1, x2, y1, y2, b1, b2, rfl, rfl, ha, hb, h1, h2, q⟩ := h
  cases rx
  cases ry
  obtain ⟨_, its, n, r, _, e⟩ := I.lstM ha
  obtain ⟨_, jts, m, r2, _, e2⟩ := I.lstM hb
  obtain ⟨u1, u2, rfl, p1, p2⟩ := two_vals r
  obtain ⟨w1, w2, rfl, q1, q2⟩ := two_vals r2
  have il : s.heap.IsList a [u1, u2].toArray := ⟨_, e, rfl, n, rfl⟩
  have jl : s.heap.IsList b [w1, w2].toArray := ⟨_, e2, rfl, m, rfl⟩
  refine SeqAt.eq_listAt (e := fun j => if j = 0 then b1 else b2) il jl rfl hu (fun j k1 k2 => ?_) ?_
  · match j, k1, k2 with
    | 0, _, _ => exact eqS_at h1 p1 q1
    | 1, _, _ => exact eqS_at h2 p2 q2
  · refine ⟨.bl _, H, I, rfl, ?_⟩
    have e3 : ((List.range [u1, u2].toArray.size).all fun j => if j = 0 then b1 else b2) = (b1 && b2) := by
      show (b1 && (b2 && true)) = (b1 && b2)
      rw [Bool.and_true]
    rw [e3]
    exact q
theorem op_neL (hu : X.A.units < cLine) : OpR X (compareOp .NotEq) rNeL := by
  intro pins s σ H x y v u Q I rx ry h
  obtain ⟨a, b, x1, x2, y1, y2, b1, b2, rfl, rfl, ha, hb, h1, h2, q⟩ := h
  cases rx
  cases ry
  obtain ⟨_, its, n, r, _, e⟩ := I.lstM ha
  obtain ⟨_, jts, m, r2, _, e2⟩ := I.lstM hb
  obtain ⟨u1, u2, rfl, p1, p2⟩ := two_vals r
  obtain ⟨w1, w2, rfl, q1, q2⟩ := two_vals r2
  have il : s.heap.IsList a [u1, u2].toArray := ⟨_, e, rfl, n, rfl⟩
  have jl : s.heap.IsList b [w1, w2].toArray := ⟨_, e2, rfl, m, rfl⟩
  refine SeqAt.RcNeAt.lists (e := fun j => if j = 0 then b1 else b2) il jl rfl hu (fun j k1 k2 => ?_) _ _ _ _ ?_
  · match j, k1, k2 with
    | 0, _, _ => exact eqS_at h1 p1 q1
    | 1, _, _ => exact eqS_at h2 p2 q2
  · refine ⟨.bl _, H, I, rfl, ?_⟩
    have e3 : ((List.range [u1, u2].toArray.size).all fun j => if j = 0 then b1 else b2) = (b1 && b2) := by
      show (b1 && (b2 && true)) = (b1 && b2)
      rw [Bool.and_true]
    rw [e3]
    exact q
end
end Vb
end L2

set_option Elab.async false
set_option linter.all false
set_option maxRecDepth 100000
set_option maxHeartbeats 4000000
/-! Vb, part 44: what is a number, a vector, vectors: asked of any data. -/
namespace L2
namespace Vb
open PySem PySem.Spec PyProof.Rows
def cntD : PyData → Bool
  | .int i => decide (0 ≤ i)
  | _ => false
def numD (p : Int) : PyData → Bool
  | .int i => decide (0 ≤ i) && decide (i < p)
  | _ => false
def facD (p : Int) : PyData → Bool
  | .int i => (decide (0 ≤ i) && decide (i < p)) && decide (0 < i)
  | _ => false
def vecD (p : Int) : PyData → Bool
  | .list ds => ds.all (numD p)
  | _ => false
def lenD : PyData → Nat
  | .list ds => ds.length
  | _ => 0
def vecOfD (p : Int) (L : Nat) (d : PyData) : Bool := vecD p d && decide (lenD d = L)
def evenD : List PyData → Bool
  | [] => true
  | d :: ds => (d :: ds).all fun e => decide (lenD e = lenD d)
def vecsD (p : Int) : PyData → Bool
  | .list ds => ds.all (vecD p) && evenD ds
  | _ => false
def vecsOfD (p : Int) (m L : Nat) : PyData → Bool
  | .list ds => decide (ds.length = m) && ds.all (vecOfD p L)
  | _ => false
/-- lists not too long -/
def Sm1 (d : PyData) : Prop := ∀ ds, d = .list ds → ds.length ≤ 900
def Sm2 (d : PyData) : Prop := ∀ ds, d = .list ds → ds.length ≤ 900 ∧ ∀ e ∈ ds, Sm1 e
theorem paired_at {α β : Type} {R : α → β → Prop} {xs : List α} {ds : List β} (h : Paired R xs ds) : ∀ {k : Nat} {x : α}, xs[k]? = some x → ∃ d, ds[k]? = some d ∧ R x d := by
  induction h with
  | nil =>
    intro k x e
    cases e
  | cons r _ ih =>
    intro k x e
    cases k with
    | zero =>
      cases e
      exact ⟨_, rfl, r⟩
    | succ k => exact ih e
theorem paired_len {α β : Type} {R : α → β → Prop} {xs : List α} {ds : List β} (h : Paired R xs ds) : xs.length = ds.length := by
  induction h with
  | nil => rfl
  | cons _ _ ih => exact congrArg (· + 1) ih
theorem vecD_list {p : Int} {d : PyData} (h : vecD p d = true) : ∃ ds, d = .list ds := by
  cases d with
  | list ds => exact ⟨ds, rfl⟩
  | _ => cases h
theorem all_map_id (f : PyData → Bool) (ds : List PyData) : (ds.map f).all id = ds.all f := by
  rw [List.all_map]
  rfl
section
variable {P : Program} {w : World} {K : PySem.W.Frag} {mg : Str → Option Value} {base : Heap}
def spCountD : Sp := fun vs H Q _ => ∃ (v : V) (d : PyData) (n : Nat), vs = [v] ∧ Sho n H v d ∧ Q (.bl (cntD d)) H
theorem ok_countD {f : Addr} {fd : FuncData} (F : Fun K "is_count" "is_count" sCount f fd) (gT : mg "type" = none) (gI : mg "int" = none) : FnOk P w K mg base CX0 1 f fd ["value"] spCountD := by
  refine F.ok scCount (fun vs H Q E h => ?_) (fun cdv A outer s H vs Q E hr h => ?_)
  · obtain ⟨v, d, n, rfl, _⟩ := h
    rfl
  · obtain ⟨v, d, n, rfl, sh, want⟩ := h
    refine ⟨_, pss_one (ps_ret (pe_and (pe_cmpR op_isTy (pe_typeD rfl gT (pv 0)) (pe_bltn rfl gI boot_int rel_int) (nomark _)) (pe_one (pe_cmpR op_ge (pv 0) pe_int (nomark _))))), ?_⟩
    refine ⟨_, rfl, _, sh.ty, _, _, rfl, rfl, _, rfl, ?_⟩
    cases d with
    | int i =>
      rw [sh.ofInt]
      exact iteT ⟨_, rfl, _, _, rfl, rfl, want⟩
    | none => exact iteF want
    | bool b => exact iteF want
    | str b => exact iteF want
    | list b => exact iteF want
    | tuple b => exact iteF want
    | dict b => exact iteF want
def spNumD : Sp := fun vs H Q _ => ∃ (p : Int) (v : V) (d : PyData) (n : Nat), vs = [.int p, v] ∧ Sho n H v d ∧ Q (.bl (numD p d)) H
theorem ok_numD {f fC : Addr} {fd fdC : FuncData} (F : Fun K "is_number" "is_number" sNumber f fd) (FC : Fun K "is_count" "is_count" sCount fC fdC) (GC : FnOk P w K mg base CX0 1 fC fdC ["value"] spCountD) (gC : mg "is_count" = some (.ref fC)) :
    FnOk P w K mg base CX0 2 f fd ["prime", "value"] spNumD := by
  have bC : Binds K fdC ["value"] [] := FC.binds fun _ _ _ _ _ _ us hl => match us, hl with | [_], _ => rfl
  refine F.ok scNumber (fun vs H Q E h => ?_) (fun cdv A outer s H vs Q E hr h => ?_)
  · obtain ⟨p, v, d, n, rfl, _⟩ := h
    rfl
  · obtain ⟨p, v, d, n, rfl, sh, want⟩ := h
    refine ⟨_, pss_one (ps_ret (pe_and (pe_call GC hr rfl gC FC.kp bC .nil pass0 (pa_cons (pv 1) pa_nil)) (pe_one (pe_cmpR op_lt (pv 1) (pv 0) (nomark _))))), ?_⟩
    refine ⟨_, rfl, v, d, n, rfl, sh, _, rfl, ?_⟩
    cases d with
    | int i =>
      obtain rfl := sh.ofInt
      by_cases h0 : 0 ≤ i
      · have e : cntD (.int i) = true := decide_eq_true h0
        rw [e]
        refine iteT ⟨_, rfl, _, rfl, _, _, rfl, rfl, ?_⟩
        have e2 : numD p (.int i) = decide (i < p) := by
          show (decide (0 ≤ i) && decide (i < p)) = _
          rw [decide_eq_true h0]
          rfl
        rw [e2] at want
        exact want
      · have e : cntD (.int i) = false := decide_eq_false h0
        rw [e]
        have e2 : numD p (.int i) = false := by
          show (decide (0 ≤ i) && decide (i < p)) = _
          rw [decide_eq_false h0]
          rfl
        rw [e2] at want
        exact iteF want
    | none => exact iteF want
    | bool b => exact iteF want
    | str b => exact iteF want
    | list b => exact iteF want
    | tuple b => exact iteF want
    | dict b => exact iteF want
def spFacD : Sp := fun vs H Q _ => ∃ (p : Int) (v : V) (d : PyData) (n : Nat), vs = [.int p, v] ∧ Sho n H v d ∧ Q (.bl (facD p d)) H
theorem ok_facD {f fN : Addr} {fd fdN : FuncData} (F : Fun K "is_factor" "is_factor" sFactor f fd) (FN : Fun K "is_number" "is_number" sNumber fN fdN) (GN : FnOk P w K mg base CX0 2 fN fdN ["prime", "value"] spNumD) (gN : mg "is_number" = some (.ref fN)) :
    FnOk P w K mg base CX0 3 f fd ["prime", "value"] spFacD := by
  have bN : Binds K fdN ["prime", "value"] [] := FN.binds fun _ _ _ _ _ _ us hl => match us, hl with | [_, _], _ => rfl
  refine F.ok scFactor (fun vs H Q E h => ?_) (fun cdv A outer s H vs Q E hr h => ?_)
  · obtain ⟨p, v, d, n, rfl, _⟩ := h
    rfl
  · obtain ⟨p, v, d, n, rfl, sh, want⟩ := h
    refine ⟨_, pss_one (ps_ret (pe_and (pe_call GN hr rfl gN FN.kp bN .nil pass0 (pa_cons (pv 0) (pa_cons (pv 1) pa_nil))) (pe_one (pe_cmpR op_gt (pv 1) pe_int (nomark _))))), ?_⟩
    refine ⟨_, rfl, _, rfl, p, v, d, n, rfl, sh, _, rfl, ?_⟩
    cases d with
    | int i =>
      obtain rfl := sh.ofInt
      cases e : numD p (.int i) with
      | true =>
        refine iteT ⟨_, rfl, _, _, rfl, rfl, ?_⟩
        have e2 : facD p (.int i) = decide (0 < i) := by
          show (numD p (.int i) && decide (0 < i)) = _
          rw [e]
          rfl
        rw [e2] at want
        exact want
      | false =>
        have e2 : facD p (.int i) = false := by
          show (numD p (.int i) && decide (0 < i)) = _
          rw [e]
          rfl
        rw [e2] at want
        exact iteF want
    | none => exact iteF want
    | bool b => exact iteF want
    | str b => exact iteF want
    | list b => exact iteF want
    | tuple b => exact iteF want
    | dict b => exact iteF want
def spVecD : Sp := fun vs H Q _ => ∃ (p : Int) (v : V) (d : PyData) (n : Nat), vs = [.int p, v] ∧ Sho n H v d ∧ Sm1 d ∧ ∀ H', Same H H' → Q (.bl (vecD p d)) H'
def spVecOfD : Sp := fun vs H Q _ => ∃ (p : Int) (v : V) (d : PyData) (n L : Nat), vs = [.int p, v, .int (L : Int)] ∧ Sho n H v d ∧ Sm1 d ∧ ∀ H', Same H H' → Q (.bl (vecOfD p L d)) H'
theorem sho_vec {p : Int} {n : Nat} {H : Hp} {v : V} {d : PyData} (sh : Sho n H v d) (h : vecD p d = true) : ∃ b xs, v = .ref b ∧ H b = some (.lst xs) ∧ xs.length = lenD d := by
  obtain ⟨ds, rfl⟩ := vecD_list h
  obtain ⟨m, b, xs, _, e, hb, prs⟩ := sh.ofList
  exact ⟨b, xs, e, hb, paired_len prs⟩
def spVecsD : Sp := fun vs H Q _ => ∃ (p : Int) (v : V) (d : PyData) (n : Nat), vs = [.int p, v] ∧ Sho n H v d ∧ Sm2 d ∧ ∀ H', Same H H' → Q (.bl (vecsD p d)) H'
def spVecsOfD : Sp := fun vs H Q _ => ∃ (p : Int) (v : V) (d : PyData) (n m L : Nat), vs = [.int p, v, .int (m : Int), .int (L : Int)] ∧ Sho n H v d ∧ Sm2 d ∧ ∀ H', Same H H' → Q (.bl (vecsOfD p m L d)) H'
end
end Vb
end L2

set_option Elab.async false
set_option linter.all false
set_option maxRecDepth 100000
set_option maxHeartbeats 8000000
/-! Vb, k30: rows walked at numbers. -/
namespace L2
namespace Vb
open PySem PySem.Spec PyProof.Rows
/-- the last argument is read -/
theorem tn {σ : St} {H : Hp} {F : List V → Hp → Prop} (h : F [] H) : tNil σ H F := h
/-- rows that fit, each a tuple of its own -/
def RowT (H : Hp) (p : Int) (cells : Nat) (t : Addr) (r : StA.R) : Prop := H t = some (.tup [.str (wordS r.w), .int (r.h : Int), .int r.n]) ∧ StA.fits p cells r
def RowsT (H : Hp) (p : Int) (cells : Nat) (ts : List Addr) (rs : List StA.R) : Prop := Paired (RowT H p cells) ts rs
theorem RowsT.up {H H' : Hp} {p : Int} {cells : Nat} {ts : List Addr} {rs : List StA.R} (h : RowsT H p cells ts rs) (s : Same H H') : RowsT H' p cells ts rs := L2.Paired.mapP h fun _ _ z => ⟨s _ _ z.1, z.2⟩
def endP (p : Int) (cells : Nat) (rs : List StA.R) (xs : List Int) : Int × Int := rs.foldl (StA.stepN p (fun c => xs.getD c 0)) (xs.getD cells 0, xs.getD (cells + 1) 0)
def spEnd : Sp := fun vs H Q _ => ∃ (m b : Addr) (p : Int) (cells : Nat) (ts : List Addr) (rs : List StA.R) (xs : List Int), vs = [.int p, .int (cells : Int), .ref m, .ref b] ∧ 2 ≤ p ∧ p ≤ 65537 ∧ cells ≤ 8 ∧ H m = some (.lst (ts.map V.ref)) ∧ RowsT H p cells ts rs ∧ Rw H b xs ∧ xs.length = cells + 2 ∧
  ∀ H', Same H H' → Q (.int (endP p cells rs xs).1) H'
theorem box_get (x y : Int) {h : Nat} (h2 : h < 2) : atI [V.int x, V.int y] (h : Int) = some (.int (StA.pick (x, y) h)) := by
  obtain rfl | rfl : h = 0 ∨ h = 1 := by omega
  · rfl
  · rfl
theorem box_ix {h : Nat} (h2 : h < 2) : ixN 2 (h : Int) = some h := by
  obtain rfl | rfl : h = 0 ∨ h = 1 := by omega
  · rfl
  · rfl
theorem box_set (x y v : Int) {h : Nat} (h2 : h < 2) : [V.int x, V.int y].set h (.int v) = [.int (StA.put (x, y) h v).1, .int (StA.put (x, y) h v).2] := by
  obtain rfl | rfl : h = 0 ∨ h = 1 := by omega
  · rfl
  · rfl
theorem drop_two {xs : List Int} {n : Nat} (l : xs.length = n + 2) : (xs.map V.int).drop n = [.int (xs.getD n 0), .int (xs.getD (n + 1) 0)] := by
  have e : xs.drop n = [xs.getD n 0, xs.getD (n + 1) 0] := by
    refine List.ext_getElem? fun i => ?_
    rw [List.getElem?_drop]
    rcases i with _ | _ | i
    · rw [List.getD_eq_getElem?_getD, List.getElem?_eq_getElem (by omega : n + 0 < xs.length)]
      rw [List.getElem?_eq_getElem (by omega : n < xs.length)]
      rfl
    · rw [List.getD_eq_getElem?_getD, List.getD_eq_getElem?_getD, List.getElem?_eq_getElem (by omega : n + (0 + 1) < xs.length)]
      rfl
    · rw [List.getElem?_eq_none (by omega)]
      rfl
  rw [← List.map_drop, e]
  rfl
abbrev sEnd : Stmt := topS 58
abbrev nEnd : List Str := ["_law_prime_here", "_law_cells", "_law_rows", "_law_numbers", "_law_box", "_law_row", "_law_word", "_law_here"]
theorem scEnd : FnScope nEnd ["_law_prime_here", "_law_cells", "_law_rows", "_law_numbers"] (defScope sEnd) := ⟨rfl, rfl, rfl, by decide +kernel, rfl, by decide +kernel, by decide +kernel⟩
-- cells set()
section
variable {P : Program} {w : World} {K : PySem.W.Frag} {mg : Str → Option Value} {base : Heap}
theorem ok_ended {f : Addr} {fd : FuncData} (F : Fun K "_law_ended" "_law_ended" sEnd f fd) (gList : mg "list" = none) :
    FnOk P w K mg base CX0 1 f fd ["_law_prime_here", "_law_cells", "_law_rows", "_law_numbers"] spEnd := by
  refine F.ok scEnd (fun vs H Q E h => ?_) (fun cdv A outer s0 H vs Q E hr h => ?_)
  · obtain ⟨m, b, p, cells, ts, rs, xs, rfl, _⟩ := h
    rfl
  · obtain ⟨m, b, p, cells, ts, rs, xs, rfl, p2, p6, c8, hm, hR, hb, lx, want⟩ := h
    refine ⟨_, (pss_cons (ps_set (i := 4) scEnd.nd rfl (Or.inl rfl) (pe_callTy call_list_of (by rfl) gList boot_list2 (pa_cons (pe_slice sl_list (pv 3) (po_some (pv 1)) po_none) pa_nil)))
      (pss_cons (ps_for PassesOwn.never rfl (pi_list (pv 2)) (pg_name (i := 5) scEnd.nd rfl (Or.inl rfl))
        (pss_cons (ps_par (i := 6) (j := 7) (by rfl) scEnd.nd rfl rfl (by decide) rfl rfl (pa_cons (pe_ix ix_tup (pv 5) pe_int (fun _ _ => rfl)) (pa_cons (pe_ix ix_tup (pv 5) pe_int (fun _ _ => rfl)) pa_nil)) (by rfl))
          (pss_cons (ps_if (pt_cmpR op_eq (pv 6) pe_str (nomark _))
            (pss_one (ps_asg (pe_ix ix_tup (pv 5) pe_int (fun _ _ => rfl)) (pg_sub (pv 4) (pv 7) set_list)))
            pss_nil)
          (pss_cons (ps_if (pt_cmpR op_eq (pv 6) pe_str (nomark _))
            (pss_one (ps_asg (pe_ix ix_list (pv 4) (pe_ix ix_tup (pv 5) pe_int (fun _ _ => rfl)) (fun _ _ => rfl)) (pg_sub (pv 4) (pv 7) set_list)))
            pss_nil)
          (pss_cons (ps_if (pt_cmpR op_eq (pv 6) pe_str (nomark _))
            (pss_one (ps_asg (pe_op op_mod (pe_op op_mul (pe_ix ix_list (pv 4) (pv 7) (fun _ _ => rfl)) (pe_ix ix_tup (pv 5) pe_int (fun _ _ => rfl))) (pv 0)) (pg_sub (pv 4) (pv 7) set_list)))
            pss_nil)
          (pss_cons (ps_if (pt_cmpR op_in_seq (pv 6) (pe_tup (pa_cons pe_str (pa_cons pe_str pa_nil))) (by rfl))
            (pss_one (ps_asg (pe_op op_mod (pe_op op_add (pe_ix ix_list (pv 4) (pv 7) (fun _ _ => rfl)) (pe_ifExp (pt_cmpR op_eq (pv 6) pe_str (nomark _)) (pe_ix ix_tup (pv 5) pe_int (fun _ _ => rfl)) (pe_ix ix_list (pv 4) (pe_ix ix_tup (pv 5) pe_int (fun _ _ => rfl)) (fun _ _ => rfl)))) (pv 0)) (pg_sub (pv 4) (pv 7) set_list)))
            pss_nil)
          (pss_one (ps_if (pt_cmpR op_eq (pv 6) pe_str (nomark _))
            (pss_one (ps_asg (pe_ix ix_list (pv 3) (pe_ix ix_tup (pv 5) pe_int (fun _ _ => rfl)) (fun _ _ => rfl)) (pg_sub (pv 4) (pv 7) set_list)))
            pss_nil))))))))
      (pss_one (ps_ret (pe_ix ix_list (pv 4) pe_int (fun _ _ => rfl)))))), ?_⟩
    refine ⟨_, rfl, _, rfl, _, rfl, b, _, rfl, SqL.of hb, fun q hq => ?_⟩
    refine ⟨q, _, rfl, .inl (SqL.of upd_same), fun d hd => ?_⟩
    have e0 : cutV (xs.map V.int) (some (cells : Int)) none = [.int (xs.getD cells 0), .int (xs.getD (cells + 1) 0)] := by
      rw [cut_drop]
      exact drop_two lx
    rw [e0]
    have sd : Same H (upd (upd H q (.lst [.int (xs.getD cells 0), .int (xs.getD (cells + 1) 0)])) d (.lst [.int (xs.getD cells 0), .int (xs.getD (cells + 1) 0)])) := by
      rw [e0] at hd
      exact same_trans (same_new hq) (same_new hd)
    have hd0 : H d = none := (same_new hq).free hd
    refine ⟨_, rfl, m, rfl, ⟨_, SqL.of (sd _ _ hm)⟩, ?_⟩
    refine for_list (xs := ts.map V.ref) (fun i σ H' => (∃ u1 u2 u3 : Option V, σ = [some (.int p), some (.int (cells : Int)), some (.ref m), some (.ref b), some (.ref d), u1, u2, u3]) ∧ Same H H' ∧ H' d = some (.lst [.int (endP p cells (rs.take i) xs).1, .int (endP p cells (rs.take i) xs).2])) ⟨⟨_, _, _, rfl⟩, sd, upd_same⟩ (fun i σ H' _ z => SqL.of (z.2.1 _ _ hm)) ?_ ?_
    · rintro i x σ H2 hx ⟨⟨u1, u2, u3, rfl⟩, s2, hd2⟩
      rw [List.getElem?_map] at hx
      obtain ⟨t, ht, rfl⟩ := Option.map_eq_some_iff.mp hx
      obtain ⟨R, hRi, ⟨ht1, fit⟩⟩ := paired_at hR ht
      have es : endP p cells (rs.take (i + 1)) xs = StA.stepN p (fun c => xs.getD c 0) (endP p cells (rs.take i) xs) R := by
        unfold endP
        rw [List.take_add_one, hRi, List.foldl_append]
        rfl
      generalize endP p cells (rs.take i) xs = bx at es hd2
      obtain ⟨x0, y0⟩ := bx
      have ht2 := s2 _ _ ht1
      obtain ⟨wd, h, n⟩ := R
      obtain ⟨h2, n0, n1⟩ := fit
      have h2 : h < 2 := h2
      have n0 : 0 ≤ n := n0
      have ht2 : H2 t = some (.tup [.str (wordS wd), .int (h : Int), .int n]) := ht2
      have a0 : atI [V.str (wordS wd), V.int (h : Int), V.int n] 0 = some (.str (wordS wd)) := rfl
      have a1 : atI [V.str (wordS wd), V.int (h : Int), V.int n] 1 = some (.int (h : Int)) := rfl
      have a2 : atI [V.str (wordS wd), V.int (h : Int), V.int n] 2 = some (.int n) := rfl
      refine ⟨_, rfl, t, _, 0, _, rfl, rfl, SqT.of ht2, a0, ?_⟩
      refine ⟨_, rfl, t, _, 1, _, rfl, rfl, SqT.of ht2, a1, tn ⟨_, _, rfl, ?_⟩⟩
      have ext : ∀ H3 : Hp, Same H2 H3 → ∀ v : Int, Same H (upd H3 d (.lst ([V.int x0, V.int y0].set h (.int v)))) := fun H3 s3 v => same_set (same_trans s2 s3) hd0
      cases wd with
      | set =>
        refine ⟨_, rfl, rfl, _, rfl, ifT2 (yesW .set (by decide +kernel)) ?_⟩
        refine ⟨_, rfl, t, _, 2, _, rfl, rfl, SqT.of ht2, a2, _, rfl, _, rfl, d, _, (h : Int), h, rfl, rfl, hd2, box_ix h2, ?_⟩
        refine ⟨_, rfl, rfl, _, rfl, ifF2 (noW .set (by decide +kernel)) ?_⟩
        refine ⟨_, rfl, rfl, _, rfl, ifF2 (noW .set (by decide +kernel)) ?_⟩
        refine ⟨_, rfl, by show 2 ≤ sizeLine; decide, fun t2 ht2' => ⟨t2, _, rfl, .inr (SqT.of upd_same), rfl, by decide +kernel, _, rfl, ?_⟩⟩
        refine ifF2 (by decide +kernel) ?_
        refine ⟨_, rfl, rfl, _, rfl, ifF2 (noW .set (by decide +kernel)) ?_⟩
        refine ⟨⟨_, _, _, rfl⟩, same_trans (ext _ same_rfl _) (same_new ht2'), ?_⟩
        rw [upd_ne (fun e => by rw [← e, upd_same] at ht2'; cases ht2'), upd_same, box_set x0 y0 _ h2, es]
        rfl
      | copy =>
        have n1 : n < 2 := n1
        have en : n = (n.toNat : Int) := (Int.toNat_of_nonneg n0).symm
        refine ⟨_, rfl, rfl, _, rfl, ifF2 (noW .copy (by decide +kernel)) ?_⟩
        refine ⟨_, rfl, rfl, _, rfl, ifT2 (yesW .copy (by decide +kernel)) ?_⟩
        refine ⟨_, rfl, _, rfl, t, _, 2, _, rfl, rfl, SqT.of ht2, a2, d, _, n, _, rfl, rfl, SqL.of hd2, by rw [en]; exact box_get x0 y0 (by omega), _, rfl, _, rfl, d, _, (h : Int), h, rfl, rfl, hd2, box_ix h2, ?_⟩
        refine ⟨_, rfl, rfl, _, rfl, ifF2 (noW .copy (by decide +kernel)) ?_⟩
        refine ⟨_, rfl, by show 2 ≤ sizeLine; decide, fun t2 ht2' => ⟨t2, _, rfl, .inr (SqT.of upd_same), rfl, by decide +kernel, _, rfl, ?_⟩⟩
        refine ifF2 (by decide +kernel) ?_
        refine ⟨_, rfl, rfl, _, rfl, ifF2 (noW .copy (by decide +kernel)) ?_⟩
        refine ⟨⟨_, _, _, rfl⟩, same_trans (ext _ same_rfl _) (same_new ht2'), ?_⟩
        rw [upd_ne (fun e => by rw [← e, upd_same] at ht2'; cases ht2'), upd_same, box_set x0 y0 _ h2, es]
        rfl
      | times =>
        have n1 : n < p := n1
        refine ⟨_, rfl, rfl, _, rfl, ifF2 (noW .times (by decide +kernel)) ?_⟩
        refine ⟨_, rfl, rfl, _, rfl, ifF2 (noW .times (by decide +kernel)) ?_⟩
        refine ⟨_, rfl, rfl, _, rfl, ifT2 (yesW .times (by decide +kernel)) ?_⟩
        refine ⟨_, rfl, _, rfl, d, _, (h : Int), _, rfl, rfl, SqL.of hd2, box_get x0 y0 h2, _, rfl, t, _, 2, _, rfl, rfl, SqT.of ht2, a2, _, _, rfl, rfl, .inr ⟨by omega, by omega⟩, _, rfl, _, _, rfl, rfl, by omega, _, rfl, _, rfl, d, _, (h : Int), h, rfl, rfl, hd2, box_ix h2, ?_⟩
        refine ⟨_, rfl, by show 2 ≤ sizeLine; decide, fun t2 ht2' => ⟨t2, _, rfl, .inr (SqT.of upd_same), rfl, by decide +kernel, _, rfl, ?_⟩⟩
        refine ifF2 (by decide +kernel) ?_
        refine ⟨_, rfl, rfl, _, rfl, ifF2 (noW .times (by decide +kernel)) ?_⟩
        refine ⟨⟨_, _, _, rfl⟩, same_trans (ext _ same_rfl _) (same_new ht2'), ?_⟩
        rw [upd_ne (fun e => by rw [← e, upd_same] at ht2'; cases ht2'), upd_same, box_set x0 y0 _ h2, es]
        rfl
      | more =>
        refine ⟨_, rfl, rfl, _, rfl, ifF2 (noW .more (by decide +kernel)) ?_⟩
        refine ⟨_, rfl, rfl, _, rfl, ifF2 (noW .more (by decide +kernel)) ?_⟩
        refine ⟨_, rfl, rfl, _, rfl, ifF2 (noW .more (by decide +kernel)) ?_⟩
        refine ⟨_, rfl, by show 2 ≤ sizeLine; decide, fun t2 ht2' => ⟨t2, _, rfl, .inr (SqT.of upd_same), rfl, by decide +kernel, _, rfl, ?_⟩⟩
        refine ifT2 (by decide +kernel) ?_
        have st := same_new (o := .tup [V.str "more", V.str "add"]) ht2'
        refine ⟨_, rfl, _, rfl, d, _, (h : Int), _, rfl, rfl, SqL.of (st _ _ hd2), box_get x0 y0 h2, ?_⟩
        refine ⟨_, rfl, rfl, _, rfl, ifT2 (yesW .more (by decide +kernel)) ?_⟩
        refine ⟨_, rfl, t, _, 2, _, rfl, rfl, SqT.of (st _ _ ht2), a2, _, _, rfl, rfl, _, rfl, _, _, rfl, rfl, by omega, _, rfl, _, rfl, d, _, (h : Int), h, rfl, rfl, st _ _ hd2, box_ix h2, ?_⟩
        refine ⟨_, rfl, rfl, _, rfl, ifF2 (noW .more (by decide +kernel)) ?_⟩
        refine ⟨⟨_, _, _, rfl⟩, ext _ st _, ?_⟩
        rw [upd_same, box_set x0 y0 _ h2, es]
        rfl
      | add =>
        have n1 : n < 2 := n1
        have en : n = (n.toNat : Int) := (Int.toNat_of_nonneg n0).symm
        refine ⟨_, rfl, rfl, _, rfl, ifF2 (noW .add (by decide +kernel)) ?_⟩
        refine ⟨_, rfl, rfl, _, rfl, ifF2 (noW .add (by decide +kernel)) ?_⟩
        refine ⟨_, rfl, rfl, _, rfl, ifF2 (noW .add (by decide +kernel)) ?_⟩
        refine ⟨_, rfl, by show 2 ≤ sizeLine; decide, fun t2 ht2' => ⟨t2, _, rfl, .inr (SqT.of upd_same), rfl, by decide +kernel, _, rfl, ?_⟩⟩
        refine ifT2 (by decide +kernel) ?_
        have st := same_new (o := .tup [V.str "more", V.str "add"]) ht2'
        refine ⟨_, rfl, _, rfl, d, _, (h : Int), _, rfl, rfl, SqL.of (st _ _ hd2), box_get x0 y0 h2, ?_⟩
        refine ⟨_, rfl, rfl, _, rfl, ifF2 (noW .add (by decide +kernel)) ?_⟩
        refine ⟨_, rfl, _, rfl, t, _, 2, _, rfl, rfl, SqT.of (st _ _ ht2), a2, d, _, n, _, rfl, rfl, SqL.of (st _ _ hd2), by rw [en]; exact box_get x0 y0 (by omega), _, _, rfl, rfl, _, rfl, _, _, rfl, rfl, by omega, _, rfl, _, rfl, d, _, (h : Int), h, rfl, rfl, st _ _ hd2, box_ix h2, ?_⟩
        refine ⟨_, rfl, rfl, _, rfl, ifF2 (noW .add (by decide +kernel)) ?_⟩
        refine ⟨⟨_, _, _, rfl⟩, ext _ st _, ?_⟩
        rw [upd_same, box_set x0 y0 _ h2, es]
        rfl
      | take =>
        have n1 : n < (cells : Int) := n1
        have an : atI (xs.map V.int) n = some (.int (xs.getD n.toNat 0)) := by
          have en : n = (n.toNat : Int) := (Int.toNat_of_nonneg n0).symm
          rw [en]
          refine atI_nat ?_
          rw [List.getElem?_map, Int.toNat_natCast, List.getD_eq_getElem?_getD, List.getElem?_eq_getElem (by omega : n.toNat < xs.length)]
          rfl
        refine ⟨_, rfl, rfl, _, rfl, ifF2 (noW .take (by decide +kernel)) ?_⟩
        refine ⟨_, rfl, rfl, _, rfl, ifF2 (noW .take (by decide +kernel)) ?_⟩
        refine ⟨_, rfl, rfl, _, rfl, ifF2 (noW .take (by decide +kernel)) ?_⟩
        refine ⟨_, rfl, by show 2 ≤ sizeLine; decide, fun t2 ht2' => ⟨t2, _, rfl, .inr (SqT.of upd_same), rfl, by decide +kernel, _, rfl, ?_⟩⟩
        refine ifF2 (by decide +kernel) ?_
        have st := same_new (o := .tup [V.str "more", V.str "add"]) ht2'
        refine ⟨_, rfl, rfl, _, rfl, ifT2 (yesW .take (by decide +kernel)) ?_⟩
        refine ⟨_, rfl, _, rfl, t, _, 2, _, rfl, rfl, SqT.of (st _ _ ht2), a2, b, _, n, _, rfl, rfl, SqL.of (st _ _ (s2 _ _ hb)), an, _, rfl, _, rfl, d, _, (h : Int), h, rfl, rfl, st _ _ hd2, box_ix h2, ?_⟩
        refine ⟨⟨_, _, _, rfl⟩, ext _ st _, ?_⟩
        rw [upd_same, box_set x0 y0 _ h2, es]
        rfl
    · rintro σ H' ⟨⟨u1, u2, u3, rfl⟩, s2, hd2⟩
      have el : rs.take (ts.map V.ref).length = rs := by
        rw [List.length_map, paired_len hR]
        exact List.take_length
      rw [el] at hd2
      exact ⟨_, rfl, d, _, 0, _, rfl, rfl, SqL.of hd2, rfl, want H' s2⟩
end
end Vb
end L2

set_option Elab.async false
set_option linter.all false
set_option maxRecDepth 100000
set_option maxHeartbeats 4000000
/-! Eo, part 1: an own error class over ValueError with an own __init__, called with one keyword. -/
namespace EoM
open PySem PySem.W PySem.Calls PyProof.Rows PySem.HandSPX
section
variable {M : Model} {A : Around} {E : Value → Shared → Prop} {hh : Heap} {gg : Array GenState} {dd : Drawn} {tk : Nat} {oo : OsState}
variable {nm qn : Str} {C N : Addr} {bs bm : List Value} {sn : List Str} {sub : List Value} {ab : Bool} {col : Option Bool} {dc : Option Addr} {k0 k1 k2 k3 k5 : Option Value}
/-- the class object of such a class -/
abbrev ErrObj (nm qn : Str) (C N : Addr) (bs bm : List Value) (sn : List Str) (sub : List Value) (ab : Bool) (col : Option Bool) (dc : Option Addr) (k0 k1 k2 k3 k5 : Option Value) : Obj :=
  excClassObj nm qn C N bs bm true sn sub ab col dc k0 k1 k2 k3 k5 "ValueError.__new__"
theorem mro_ve (hb : refsVE bm = true) (X : String) : bm.contains (.type X) = veTail.contains (.type X) := refsVE_contains X bm hb
theorem kwcheck {name : Str} {v : Value} {Q : Unit → Shared → Prop} (hb : refsVE bm = true) (hC : hh.get? C = some (ErrObj nm qn C N bs bm sn sub ab col dc k0 k1 k2 k3 k5)) (fin : Q () ⟨hh, gg, dd, tk, oo⟩) :
    wpAny M A (checkBuiltinCall "ValueError.__new__" ⟨[.ref C], [(name, v)]⟩) Q E ⟨hh, gg, dd, tk, oo⟩ := by
  have F := F.excBase_ValueError
  have isVE : (Value.ref C :: bm).contains (.type "ValueError") = true := by rw [List.contains_cons, mro_ve hb]; rfl
  simp only [checkBuiltinCall, F.newKind, F.newSplit, F.newRow]
  repeat (first | refine wpAny_loadPart_at hC ?_ | (refine wpAny_isSubtype_exc hC ?_; rw [isVE]) | refine wpAny_staticBase_exc hC ?_ | refine wpAny_madeBy_exc hC ?_ | simp only [bne_self_eq_false, Bool.false_eq_true, if_false] | wp_step)
  exact fin
end
section
variable {prog : Program} {w : World} {A : Around} {E : Value → Shared → Prop} {R : Result → Shared → Prop} {hh : Heap} {gg : Array GenState} {dd : Drawn} {tk : Nat} {oo : OsState}
variable {nm qn : Str} {C N : Addr} {bs bm : List Value} {sn : List Str} {sub : List Value} {ab : Bool} {col : Option Bool} {dc : Option Addr} {k0 k1 k2 k3 k5 : Option Value}
/-- the heap with a fresh error of the class at C behind it -/
abbrev withErr (hh : Heap) (C : Addr) : Heap := (hh.push (W.kdv_tup [])).push (excO C hh.objs.size)
theorem kwnew {name : Str} {v : Value} (hb : refsVE bm = true) (hC : hh.get? C = some (ErrObj nm qn C N bs bm sn sub ab col dc k0 k1 k2 k3 k5))
    (fin : R (.ok (.ret (.ref (hh.objs.size + 1)))) ⟨withErr hh C, gg, dd, tk, oo⟩) : codeAny (model prog w) A (.builtin "ValueError.__new__" ⟨[.ref C], [(name, v)]⟩) R ⟨hh, gg, dd, tk, oo⟩ := by
  have F := F.excBase_ValueError
  have ends := F.ends
  have isVE : (Value.ref C :: bm).contains (.type "ValueError") = true := by rw [List.contains_cons, mro_ve hb]; rfl
  have noA : (Value.ref C :: bm).contains (.type "AttributeError") = false := by rw [List.contains_cons, mro_ve hb]; rfl
  have noN : (Value.ref C :: bm).contains (.type "NameError") = false := by rw [List.contains_cons, mro_ve hb]; rfl
  have room : ([] : List Value).length ≤ sizeLine := Nat.zero_le _
  refine codeAny_builtinAt F.entry ?_
  unfold Builtin.«BaseException.__new__»
  refine PySem.wpAt_bind ?_
  show PySem.wpAt _ _ _ (stack >>= _) _ _ _
  refine PySem.wpAt_bind (PySem.wpAt_stack fun p below => PySem.wpAt_of_wpAny ?_)
  wp_walk
  refine PySem.wpAt_of_wpAny ?_
  rw [F.owner]
  repeat (first | with_reducible refine wpAny_madeHere_exc F.canon hC ?_ | with_reducible refine wpAny_loadPart_at hC ?_ | (with_reducible refine wpAny_isSubtype_exc hC ?_; first | rw [isVE] | rw [noA] | rw [noN]) | wp_step)
  show R _ _
  rw [Heap.size_push]
  exact fin
theorem kwtype {name : Str} {v : Value} {fI : Addr} {Q : Fin → Shared → Prop} (hb : refsVE bm = true) (hC : hh.get? C = some (ErrObj nm qn C N bs bm sn sub ab col dc k0 k1 k2 k3 k5))
    (hi : W.Looks (model prog w) hh (typeLookup (.ref C) "__init__") (some (.ref fI))) (hs : ∀ self, W.Looks (model prog w) hh (bindSpecial (.ref fI) self) (.ref fI, [self]))
    (fin : codeAny (model prog w) A (.call (.ref fI) ⟨[.ref (hh.objs.size + 1)], [(name, v)]⟩)
      (fun r s' => match r with | .ok (.ret u) => u = .none ∧ Q (.done (.ret (.ref (hh.objs.size + 1)))) s' | .ok _ => False | .error e => E e s') ⟨withErr hh C, gg, dd, tk, oo⟩) :
    wpAny (model prog w) A (Builtin.«type.__call__» ⟨[.ref C], [(name, v)]⟩) Q E ⟨hh, gg, dd, tk, oo⟩ := by
  repeat (first | with_reducible refine wpAny_loadPart_at hC ?_ | with_reducible refine wpAny_madeBy_exc hC ?_ | wp_step)
  refine codeAny_call_builtin_code (Code.quiet_builtin _ F.excBase_ValueError.quiet) (kwcheck hb hC ?_)
  refine kwnew hb hC ?_
  show wpAny _ _ _ _ _ _
  have old : ∀ b o, hh.get? b = some o → (withErr hh C).get? b = some o := fun b o e => Heap.get?_push_of_some _ (Heap.get?_push_of_some _ e)
  have atC := old _ _ hC
  have atE : (withErr hh C).get? (hh.objs.size + 1) = some (excO C hh.objs.size) := by heap_get
  have self_in : (Value.ref C :: bm).contains (.ref C) = true := by simp
  have lk := hi.keeps old
  have bd := (hs (.ref (hh.objs.size + 1))).keeps old
  unfold isInstance
  repeat (first | with_reducible refine wpAny_loadPart_at atE ?_ | (with_reducible refine wpAny_isSubtype_exc atC ?_; rw [self_in]) | wp_step)
  show wpAny _ _ (typeLookup (.ref C) _) _ _ _
  refine lk.at ?_
  refine wpAny_holding (wpAny_bind (bd.at ?_))
  refine wpAny_bind (wpAny_call (codeAny_mono fin fun r s' z => ?_))
  rcases r with e | (u | _ | _ | _) <;> first | exact z | exact z.elim | skip
  obtain ⟨rfl, z⟩ := z
  first
    | exact wpAny_pure (wpAny_pure z)
    | (wp_walk; exact z)
theorem kwcall {name : Str} {v : Value} {fI : Addr} (hb : refsVE bm = true) (hC : hh.get? C = some (ErrObj nm qn C N bs bm sn sub ab col dc k0 k1 k2 k3 k5))
    (hi : W.Looks (model prog w) hh (typeLookup (.ref C) "__init__") (some (.ref fI))) (hs : ∀ self, W.Looks (model prog w) hh (bindSpecial (.ref fI) self) (.ref fI, [self]))
    (fin : codeAny (model prog w) (A.under (.builtin "type.__call__" ⟨[.ref C], [(name, v)]⟩)) (.call (.ref fI) ⟨[.ref (hh.objs.size + 1)], [(name, v)]⟩) (W.InitBack (hh.objs.size + 1) R) ⟨withErr hh C, gg, dd, tk, oo⟩) :
    codeAny (model prog w) A (.call (.ref C) ⟨[], [(name, v)]⟩) R ⟨hh, gg, dd, tk, oo⟩ := by
  have f1 := tc_lookup
  have f2 := tc_bind (.ref C)
  have ty : (⟨hh, gg, dd, tk, oo⟩ : Shared).TypeIs (.ref C) "type" := ⟨_, hC, rfl⟩
  refine codeAny_of_tree ?_
  show wpAny _ _ (callAny (.ref C) _) _ _ _
  repeat (any_goals (first | assumption | with_reducible refine wpAny_loadPart_at hC ?_ | wp_step))
  refine ⟨rfl, ?_⟩
  refine codeAny_call_builtin_at (Code.quiet_builtin _ (by decide +kernel)) entry_typeCall (wpAny_check_type_call_sub hC (kwtype hb hC hi hs ?_))
  refine codeAny_mono fin fun r s' z => ?_
  rcases r with e | (u | _ | _ | _) <;> exact z
end
end EoM

set_option Elab.async false
set_option linter.all false
set_option maxRecDepth 100000
set_option maxHeartbeats 4000000
/-! Eo, part 2: errors with a field, made and kept. -/
namespace L2
namespace Eo
open PySem PySem.Spec PyProof.Rows
/-- the heap with an error of the class at C: its object at a, its dict at d -/
def errH (H : Hp) (a d C : Addr) (v : V) : Hp := upd (upd H d (exd d [(("value" : Str), v)])) a (exo a C (some d))
/-- what the written part says of a class of errors with a field -/
structure ErC (K : PySem.W.Frag) (C fI : Addr) : Prop where
  ox : OexC K C
  iC : PySem.W.findIn K (.ref C) "__init__" = some (some (.ref fI))
  tI : PySem.W.typeIn K (.ref fI) = some (.type "function")
  noV : PySem.W.findIn K (.ref C) "value" = some none
def spInit (C : Addr) : Sp := fun vs H Q _ => ∃ (a : Addr) (v : V), vs = [.ref a, v] ∧ H a = some (exo a C none) ∧ ∀ d, H d = none → d ≠ a → Q .non (errH H a d C v)
section
variable {X : Cx} {pins : List (Addr × Obj)} {σ : St} {H : Hp} {s : Shared} {C fI : Addr} {fd : FuncData} {ps : List Str} {k : Nat} {Q : VK}
theorem err_end {hp : Heap} {g : Array GenState} {dr : Drawn} {tk : Nat} {os : OsState} {us : List Value} {kw : List (Str × Value)} {us' : List Value} {v : V}
    (F1 : FnOk X.prog X.w X.K X.mg X.base CX0 k fI fd ps (spInit C)) (hr : Room (k + 1) X.A) (I : Inv X pins σ H ⟨hp, g, dr, tk, os⟩)
    (atE : ((hp.push (PySem.W.kdv_tup us)).push (PySem.HandSPX.excO C hp.objs.size)).get? (hp.objs.size + 1) = some (PySem.HandSPX.excO C hp.objs.size))
    (hb : ∀ s' : Shared, X.K.In s'.heap → BindsTo s' fd ⟨.ref (hp.objs.size + 1) :: us, kw⟩ (ps.zip us')) (rv : Vals [V.ref (hp.objs.size + 1), v] us')
    (h : ∀ a d, H a = none → H d = none → d ≠ a → Q (.ref a) (errH H a d C v)) :
    codeAny (model X.prog X.w) (X.A.under (.builtin "type.__call__" ⟨.ref C :: us, kw⟩)) (.call (.ref fI) ⟨.ref (hp.objs.size + 1) :: us, kw⟩)
      (PySem.W.InitBack (hp.objs.size + 1) (fun r s' => match r with | .ok (.ret u) => EP X pins σ Q u s' | .ok _ => False | .error e => X.xe e s'))
      ⟨(hp.push (PySem.W.kdv_tup us)).push (PySem.HandSPX.excO C hp.objs.size), g, dr, tk, os⟩ := by
  have le : hp.objs.size ≤ hp.objs.size + 1 := Nat.le_succ _
  have fr : H (hp.objs.size + 1) = none := I.hok.fresh le
  have old : ∀ b o, hp.get? b = some o → ((hp.push (PySem.W.kdv_tup us)).push (PySem.HandSPX.excO C hp.objs.size)).get? b = some o := fun b o e => Heap.get?_push_of_some _ (Heap.get?_push_of_some _ e)
  have J : Inv X pins σ (upd H (hp.objs.size + 1) (exo (hp.objs.size + 1) C none)) ⟨(hp.push (PySem.W.kdv_tup us)).push (PySem.HandSPX.excO C hp.objs.size), g, dr, tk, os⟩ :=
    I.laid (t' := tk) (a := hp.objs.size + 1) (o := exo (hp.objs.size + 1) C none) old le (exo_ok atE)
  refine codeAny_mono (F1.run _ X.stack _ _ _ us' [V.ref (hp.objs.size + 1), v] (fun u H2 => u = .non ∧ Q (.ref (hp.objs.size + 1)) H2) (fun _ _ _ => False) (hr.make C us kw) (J.env0.make C us kw) (hb _ J.kIn) rv ?_) fun r s' z => ?_
  · refine ⟨_, v, rfl, upd_same, fun d nd ne => ⟨rfl, ?_⟩⟩
    have nd' : H d = none := by
      rw [upd_ne ne] at nd
      exact nd
    have e : errH (upd H (hp.objs.size + 1) (exo (hp.objs.size + 1) C none)) (hp.objs.size + 1) d C v = errH H (hp.objs.size + 1) d C v := by
      funext b
      unfold errH upd
      by_cases q : b = hp.objs.size + 1
      · simp [q]
      · simp [q]
    rw [e]
    exact h _ d fr nd' ne
  · cases r with
    | error e => exact False.elim z
    | ok fl =>
      cases fl with
      | ret u =>
        obtain ⟨v2, H2, J2, r2, e2, q2⟩ := J.after z
        subst e2
        exact ⟨r2, V.ref (hp.objs.size + 1), H2, J2, rfl, q2⟩
      | next => exact False.elim z
      | brk => exact False.elim z
      | cont => exact False.elim z
/-- C(..) with positional arguments, defaults behind them -/
theorem run_errP {us : List Value} {vs dvs : List V} {ds : List Value} {v : V} (T : ErC X.K C fI) (F1 : FnOk X.prog X.w X.K X.mg X.base CX0 k fI fd ps (spInit C)) (hr : Room (k + 1) X.A) (hb : Binds X.K fd ps ds) (hd : Vals dvs ds)
    (I : Inv X pins σ H s) (r : Vals vs us) (hv : vs ++ dvs = [v]) (hl : ps.length = 2) (h : ∀ a d, H a = none → H d = none → d ≠ a → Q (.ref a) (errH H a d C v)) :
    wpAny (model X.prog X.w) X.A (call (.ref C) us) (EP X pins σ Q) X.xe s := by
  obtain ⟨nm, q, N, bs, bm, sn, sub, ab, col, dc, k0, k1, k2, k3, k5, hC, hbm⟩ := T.ox.cls
  obtain ⟨hp, g, dr, tk, os⟩ := s
  have at1 : ((hp.push (PySem.W.kdv_tup us)).push (PySem.HandSPX.excO C hp.objs.size)).get? (hp.objs.size + 1) = some (PySem.HandSPX.excO C hp.objs.size) := by heap_get
  have r2 : Vals [V.ref (hp.objs.size + 1), v] (Value.ref (hp.objs.size + 1) :: (us ++ ds)) := .cons rfl (by rw [← hv]; exact r.append hd)
  have len2 : (Value.ref (hp.objs.size + 1) :: us ++ ds).length = ps.length := by
    rw [hl]
    exact r2.length.symm
  have lu : us.length ≤ sizeLine := by
    have z := r2.length
    simp only [List.length_cons, List.length_append, List.length_nil] at z
    have z2 : us.length ≤ 1 := by omega
    exact Nat.le_trans z2 (by rw [sizeLine_eq]; decide)
  exact wpAny_call (PySem.HandSPX.call_own F.excBase_ValueError (EoM.mro_ve hbm) (I.kIn _ _ hC) (PySem.W.looks_findIn I.kIn T.iC) (fun self => PySem.W.bind_fn I.kIn self T.tI) lu
    (codeAny_mono (err_end (us := us) (kw := []) F1 hr I at1 (fun s' X' => hb s' _ X' len2) r2 h) fun r s' z => by
      rcases r with e | (u | _ | _ | _) <;> exact z))
/-- C(value=..) -/
theorem run_errK {u : Value} {v : V} {g2 : List Value → List Value → List Value} {gV : List V → List V → List V} (T : ErC X.K C fI) (F1 : FnOk X.prog X.w X.K X.mg X.base CX0 k fI fd ps (spInit C)) (hr : Room (k + 1) X.A) (hb : KBn X.K fd ps 1 ["value"] g2 gV)
    (I : Inv X pins σ H s) (r : RelV v u) (hg : ∀ x y, gV [x] [y] = [x, y]) (h : ∀ a d, H a = none → H d = none → d ≠ a → Q (.ref a) (errH H a d C v)) :
    wpAny (model X.prog X.w) X.A (call (.ref C) [] [(("value" : Str), u)]) (EP X pins σ Q) X.xe s := by
  obtain ⟨nm, q, N, bs, bm, sn, sub, ab, col, dc, k0, k1, k2, k3, k5, hC, hbm⟩ := T.ox.cls
  obtain ⟨hp, g, dr, tk, os⟩ := s
  have at1 : ((hp.push (PySem.W.kdv_tup [])).push (PySem.HandSPX.excO C hp.objs.size)).get? (hp.objs.size + 1) = some (PySem.HandSPX.excO C hp.objs.size) := by heap_get
  have r2 : Vals [V.ref (hp.objs.size + 1), v] (g2 [Value.ref (hp.objs.size + 1)] [u]) := by
    have z := hb.rel (vs := [V.ref (hp.objs.size + 1)]) (us := [Value.ref (hp.objs.size + 1)]) (zs := [v]) (ws := [u]) (.cons rfl .nil) (.cons r .nil)
    rw [hg] at z
    exact z
  exact wpAny_call (EoM.kwcall hbm (I.kIn _ _ hC) (PySem.W.looks_findIn I.kIn T.iC) (fun self => PySem.W.bind_fn I.kIn self T.tI)
    (codeAny_mono (err_end (us := []) (kw := [(("value" : Str), u)]) F1 hr I at1 (fun s' X' => hb.to s' [_] [u] X' rfl rfl) r2 h) fun r s' z => by
      rcases r with e | (u | _ | _ | _) <;> exact z))
end
/-! ### the three calls as expressions -/
/-- what is wanted of a list of one argument -/
def one1 (F : V → Hp → Prop) : List V → Hp → Prop
  | [v], H => F v H
  | _, _ => False
theorem one1_of {F : V → Hp → Prop} : ∀ {vs : List V} {H : Hp}, one1 F vs H → ∃ v, vs = [v] ∧ F v H
  | [v], _, h => ⟨v, rfl, h⟩
  | [], _, h => h.elim
  | _ :: _ :: _, _, h => h.elim
def tErr (C : Addr) (te : TE) : TE := fun σ H Q => te σ H fun v H1 => ∀ a d, H1 a = none → H1 d = none → d ≠ a → Q (.ref a) (errH H1 a d C v)
def tErr0 (C : Addr) : TE := fun _ H Q => ∀ a d, H a = none → H d = none → d ≠ a → Q (.ref a) (errH H a d C .non)
section
variable {X : Cx} {C fI : Addr} {fd : FuncData} {ps : List Str} {k : Nat} {x : Str} {p pos kp : Pos} {e : Expr} {te : TE} {ds : List Value}
theorem pe_errP (T : ErC X.K C fI) (F1 : FnOk X.prog X.w X.K X.mg X.base CX0 k fI fd ps (spInit C)) (hr : Room (k + 1) X.A) (hb : Binds X.K fd ps []) (hl : ps.length = 2) (hg : Gl X x) (hm : X.mg x = some (.ref C)) (he : PE X e te)
    (hdb : (x == ("__debug__" : Str)) = false := by decide) (hs : starEach [e] X.env = (false, eval e X.env) :: starEach [] X.env := by rfl) (hpl : (backTo pos (starEach [] X.env)).any (·.1) = false := by rfl) :
    PE X (.Call (.Name x p) [e] [] pos) (tErr C te) := by
  refine ⟨fun pins s σ H Q I h => ?_⟩
  refine wpAny_Call_Name_kw (ld_glob I hg hm ?_ hdb)
  refine PySem.W.callWith_K (h₀ := X.base) I.ok.mod.kin T.ox.kC (thn ((pa_cons he pa_nil hs).run pos pins s σ H (one1 fun v H1 => ∀ a d, H1 a = none → H1 d = none → d ≠ a → Q (.ref a) (errH H1 a d C v)) I h) fun us s1 ⟨vs, H1, I1, r, q⟩ => ⟨I1.kIn, ?_⟩) hs hpl
  obtain ⟨v, rfl, q⟩ := one1_of q
  exact run_errP (dvs := []) T F1 hr hb .nil I1 r (List.append_nil _) hl q
theorem pe_err0 (T : ErC X.K C fI) (F1 : FnOk X.prog X.w X.K X.mg X.base CX0 k fI fd ps (spInit C)) (hr : Room (k + 1) X.A) (hb : Binds X.K fd ps ds) (hd : Vals [V.non] ds) (hl : ps.length = 2) (hg : Gl X x) (hm : X.mg x = some (.ref C))
    (hdb : (x == ("__debug__" : Str)) = false := by decide) : PE X (.Call (.Name x p) [] [] pos) (tErr0 C) := by
  refine ⟨fun pins s σ H Q I h => ?_⟩
  refine wpAny_Call_Name_kw (ld_glob I hg hm ?_ hdb)
  exact PySem.W.callWith_K0 I.kIn T.ox.kC (run_errP (us := []) (vs := []) T F1 hr hb hd I .nil rfl hl h)
theorem pe_errK {g2 : List Value → List Value → List Value} {gV : List V → List V → List V} (T : ErC X.K C fI) (F1 : FnOk X.prog X.w X.K X.mg X.base CX0 k fI fd ps (spInit C)) (hr : Room (k + 1) X.A) (hb : KBn X.K fd ps 1 ["value"] g2 gV)
    (hgV : ∀ x y, gV [x] [y] = [x, y]) (hg : Gl X x) (hm : X.mg x = some (.ref C)) (he : PE X e te) (hdb : (x == ("__debug__" : Str)) = false := by decide) :
    PE X (.Call (.Name x p) [] [⟨some "value", e, kp⟩] pos) (tErr C te) := by
  refine ⟨fun pins s σ H Q I h => ?_⟩
  refine wpAny_Call_Name_kw (ld_glob I hg hm ?_ hdb)
  refine PySem.W.callWith_KW0 (h₀ := X.base) I.ok.mod.kin T.ox.kC (by rfl) (thn ((pk_cons he pk_nil).run pos pins s σ H (one1 fun v H1 => ∀ a d, H1 a = none → H1 d = none → d ≠ a → Q (.ref a) (errH H1 a d C v)) I h) fun us s1 ⟨vs, H1, I1, r, q⟩ => ⟨I1.kIn, ?_⟩) (by rfl)
  obtain ⟨v, rfl, q⟩ := one1_of q
  cases r with
  | cons r1 r2 =>
    cases r2
    exact run_errK T F1 hr hb I1 r1 hgV q
end
end Eo
end L2

set_option Elab.async false
set_option linter.all false
set_option maxRecDepth 100000
set_option maxHeartbeats 4000000
/-! Eo, part 3: isinstance of errors that are kept, with a dict of their own or without; their fields. -/
namespace EoM
open PySem PySem.Spec PySem.Calls PyProof.Rows PySem.W
section
variable {prog : Program} {w : World} {A : Around} {E : Value → Shared → Prop} {s : Shared} {K : Frag} {x C : Addr} {ox : Obj} {od : Option Obj}
/-- what the written part says of a class of errors, so that its objects are asked rightly -/
structure ErA (K : Frag) (C : Addr) : Prop where
  ga : findIn K (.ref C) "__getattribute__" = some (some (.builtin "BaseException.__getattribute__"))
  gt : findIn K (.ref C) "__getattr__" = some none
  sub : subIn K (.ref C) (.type "BaseException") = some true
  dct : hasDictIn K C = true
  cl : findIn K (.ref C) "__class__" = some (some (.builtin "object.__class__"))
  ob : mroIn K C (.type "object") = some true
theorem cls_get : specialIn K (.builtin "object.__class__") "__get__" = some (some (.builtin "getset_descriptor.__get__")) := by first | rfl | kernel_rfl
theorem cls_takes : takesIn K (.builtin "object.__class__") = some true := by first | rfl | kernel_rfl
theorem cls_found (T : ErA K C) : findObj K C od "__class__" = some (.bind (.builtin "getset_descriptor.__get__") (.builtin "object.__class__")) := by
  obtain ⟨cd, hc, _⟩ := any_some T.dct
  unfold findObj
  rw [hc, Option.bind_some, T.cl, Option.bind_some]
  simp [cls_get, cls_takes]
theorem class_of {Q : Option Value → Shared → Prop} (T : ErA K C) (X : K.In s.heap) (I : InstAt s.heap x ox C od) (fin : Q (some (.ref C)) { s with toks := s.toks + 1 }) : wpAny (model prog w) A (getAttr? (.ref x) "__class__") Q E s := by
  have found := cls_found (od := od) T
  obtain ⟨hp, g, d, t, os⟩ := s
  have ty := I.type (M := model prog w)
  have l1 := looks_findIn (M := model prog w) X T.ga
  have l2 := looks_findIn (M := model prog w) X T.gt
  have l3 := looks_find (M := model prog w) X I found
  have isB : Looks (model prog w) hp (isInstance (.ref x) (.type "BaseException")) true := ty.andThen (looks_subIn X T.sub)
  have n0 : (false && onTheHeap (Value.builtin "BaseException.__getattribute__")) = false := rfl
  have n2 : (Value.builtin "BaseException.__getattribute__" == Value.builtin "object.__getattribute__") = false := by decide +kernel
  have n1 : (onTheHeap (Value.ref C) && Value.builtin "BaseException.__getattribute__" == Value.builtin "object.__getattribute__") = false := by rw [n2]; rfl
  unfold getAttr? getAttrBy? getAttrBy
  refine wpAny_bind (wpAny_mkText (wpAny_bind (wpAny_attempt (wpAny_holding (wpAny_bind (ty.at (wpAny_bind (l1.at ?_))))))))
  show wpAny _ _ (if (onTheHeap (Value.ref C) && Value.builtin "BaseException.__getattribute__" == Value.builtin "object.__getattribute__") = true then _ else _) _ _ _
  rw [n1, if_neg Bool.false_ne_true]
  unfold getAttrByItsOwn hookBefore
  refine wpAny_bind ?_
  rw [if_pos (show onTheHeap (Value.ref C) = true from rfl)]
  refine l2.at ?_
  refine wpAny_bind (wpAny_attempt (wpAny_holding ?_))
  unfold callGetattribute
  rw [n0, if_neg Bool.false_ne_true]
  unfold boundAndCalled
  rw [PySem.F.excAttr_ValueError.ga.bind (.ref x)]
  refine wpAny_bind (wpAny_pure ?_)
  show wpAny _ _ (call (.builtin "BaseException.__getattribute__") [.ref x, .str "__class__" t]) _ _ _
  refine wpAny_call (codeAny_call_builtin PySem.F.excAttr_ValueError.ga.plain PySem.F.entry_bexc_ga ?_)
  refine @check_slot (model prog w) _ _ ⟨hp, g, d, t + 1, os⟩ "BaseException.__getattribute__" "BaseException" "__getattribute__" (.ref x) [.str "__class__" t] [] _ (by decide +kernel) (by decide +kernel) isB (PySem.F.args_bexc_ga (.ref x) (.str "__class__" t)) ?_
  unfold Builtin.«object.__getattribute__»
  refine wpAny_bind (wpAny_of_eq (a := ((Value.ref x : Value), [Value.str "__class__" t])) (by first | rfl | (simp only [slotArgs]; rfl)) ?_)
  refine wpAny_bind (wpAny_pure (wpAny_bind (ty.at (wpAny_bind (l3.at ?_)))))
  show wpAny _ _ (holding [Value.builtin "object.__class__"] (call (.builtin "getset_descriptor.__get__") [.builtin "object.__class__", .ref x, .ref C]) >>= ret) _ _ _
  refine wpAny_bind (wpAny_holding (wpAny_call (class_get (s := ⟨hp, g, d, t + 1, os⟩) (ox := ox) (od := od) X I T.ob ?_)))
  refine wpAny_pure ?_
  show wpAny _ _ (handedOut (.ref C)) _ _ _
  rw [handedOut_of (v := .ref C) rfl]
  first
    | exact wpAny_pure (wpAny_pure fin)
    | exact wpAny_pure fin
    | exact wpAny_pure (wpAny_bind (wpAny_pure (wpAny_pure fin)))
theorem kit_err (T : ErA K C) : KitX K (.ref x) (.ref C) (fun h => InstAt h x ox C od) where
  ty := fun _ _ _ I => I.type
  it := fun _ _ X _ => by
    obtain ⟨cd, hc, _⟩ := any_some T.dct
    unfold clsIn at hc
    split at hc
    · rename_i c' d' cd' sl' ho
      intro A' Q' E' s' k q
      unfold isType loadHead
      exact wpAny_bind (wpAny_loadPart (k _ _ (X _ _ ho)) (wpAny_pure q))
    · cases hc
  ne := fun h tp dd its n sl X htp => by
    obtain ⟨cd, hc, _⟩ := any_some T.dct
    refine Bool.eq_false_iff.mpr fun q => ?_
    have e : C = tp := Value.ref.inj (beq_iff_eq.mp q)
    subst e
    unfold clsIn at hc
    split at hc
    · rename_i c' d' cd' sl' ho
      have z := (X _ _ ho).symm.trans htp
      cases z
    · cases hc
  ca := fun X I k => class_of T X I k
end
end EoM
namespace L2
namespace Eo
open PySem PySem.Spec PyProof.Rows
/-- at a: an error of the class at C, with a field or bare -/
def ErrAt (H : Hp) (a C : Addr) : Prop := (∃ d v, H a = some (exo a C (some d)) ∧ H d = some (exd d [(("value" : Str), v)])) ∨ H a = some (ExO (.ref C) a)
theorem inst_of {P : Program} {w : World} {H : Hp} {h : Heap} {a C : Addr} (ok : HOk P w H h) (e : ErrAt H a C) : ∃ ox od, PySem.W.InstAt h a ox C od := by
  rcases e with ⟨d, v, ea, ed⟩ | ea
  · obtain ⟨t1, ho⟩ := exo_at ok ea
    obtain ⟨mA, ⟨oD, _, _, hd, _⟩, _⟩ := exd_at ok ed
    exact ⟨_, some oD, ho, rfl, rfl, hd⟩
  · obtain ⟨⟨oe, vs, ho, ⟨hz1, hz2⟩, hdt, _⟩, _, _⟩ := ok a _ ea
    obtain ⟨oc, odd, oda, osl⟩ := oe
    dsimp only at hz1 hz2 hdt
    subst hz1 hz2 hdt
    exact ⟨_, none, ho, rfl, rfl, trivial⟩
/-- isinstance(e, c) of such an error -/
def rIsErr (K : PySem.W.Frag) : List V → Hp → VK → Prop := fun xs H Q => ∃ (a C : Addr) (c : V) (cv : Value) (b : Bool), xs = [.ref a, c] ∧ EoM.ErA K C ∧ ErrAt H a C ∧ ClsV c cv ∧ PySem.W.kitOne K (.ref C) cv = some b ∧ Q (.bl b) H
theorem call_isErr {X : Cx} : CallR X (.builtin "isinstance") (rIsErr X.K) := by
  intro pins s σ H xs us Q I r h
  obtain ⟨a, C, c, cv, b, rfl, T, ea, k, e, q⟩ := h
  obtain ⟨u1, u2, rfl, r1, r2⟩ := vals2 r
  have e2 := k.eq r2
  subst e2
  cases (show u1 = Value.ref a from r1)
  obtain ⟨ox, od, J⟩ := inst_of I.hok ea
  exact PySem.W.kia_one (EoM.kit_err T) I.kIn J e (fun z => nomatch z) fun tk => ⟨.bl b, H, I.tok tk, rfl, q⟩
/-- e.value -/
def tVal (K : PySem.W.Frag) (te : TE) : TE := fun σ H Q => te σ H fun x H1 => ∃ (a C d : Addr) (v : V), x = .ref a ∧ EoM.ErA K C ∧ PySem.W.findIn K (.ref C) "value" = some none ∧ H1 a = some (exo a C (some d)) ∧ H1 d = some (exd d [(("value" : Str), v)]) ∧ Q v H1
theorem pe_val {X : Cx} {e : Expr} {te : TE} {pos : Pos} (he : PE X e te) (hb : attributeBase e "value" X.env (eval e X.env) = eval e X.env := by rfl) : PE X (.Attribute e "value" pos) (tVal X.K te) := by
  refine ⟨fun pins s σ H Q I h => ?_⟩
  refine attr_of hb (thn (he.run pins s σ H _ I h) fun u s1 hh => ?_)
  obtain ⟨x, H1, I1, rx, a, C, d, v, rfl, T, noV, ea, ed, q⟩ := hh
  obtain rfl : u = Value.ref a := rx
  obtain ⟨t1, ho⟩ := exo_at I1.hok ea
  obtain ⟨mA, hns, rel⟩ := exd_at I1.hok ed
  obtain ⟨oD, hd, hl⟩ := lookIn_ns hns
  have l : List.lookup ("value" : Str) [(("value" : Str), v)] = some v := by simp [List.lookup]
  obtain ⟨u, hu, ru⟩ := RelO.some_of (v := v) (o := mA "value") (by rw [← l]; exact rel "value")
  have J : PySem.W.InstAt s1.heap a _ C (some oD) := ⟨ho, rfl, rfl, hd⟩
  exact PySem.HandSPX.exc_get I1.kIn J T.ga T.gt T.sub (PySem.W.findObj_own T.dct noV rfl (by rw [hl, hu])) (handed_of ru) ⟨v, H1, I1.tok _, ru, q⟩
end Eo
end L2

set_option Elab.async false
set_option linter.all false
set_option maxRecDepth 100000
set_option maxHeartbeats 4000000
/-! Vb, part 45: errors raised; the doors of prime and vectors. -/
namespace L2
namespace Vb
open PySem PySem.Spec PyProof.Rows
open Eo (ErC spInit errH)
abbrev rowP (xs : List Int) : PyData := .list (xs.map PyData.int)
abbrev matP (T : List (List Int)) : PyData := .list (T.map rowP)
/-- what is wished where an error of the class at C with the field v leaves -/
def Err (H : Hp) (C : Addr) (v : V) (E : XK) : Prop := ∀ (dd : Addr) (H' : Hp), Same H H' → H dd = none → H' dd = some (.xd [(("value" : Str), v)]) → E (.ref C) (some dd) H'
theorem Err.up {H H1 : Hp} {C : Addr} {v : V} {E : XK} (h : Err H C v E) (s : Same H H1) : Err H1 C v E := fun dd H' s' n e => h dd H' (same_trans s s') (s.free n) e
/-- a class of errors with a field: called, raised -/
structure Bad (P : Program) (w : World) (K : PySem.W.Frag) (mg : Str → Option Value) (base : Heap) (x : Str) (C : Addr) : Prop where
  gC : mg x = some (.ref C)
  ex : ∃ fI fd, ErC K C fI ∧ FnOk P w K mg base CX0 1 fI fd ["self", "value"] (spInit C) ∧ Binds K fd ["self", "value"] []
theorem raise_heap {H : Hp} {a d C : Addr} {v : V} (na : H a = none) (nd : H d = none) (ne : d ≠ a) : Same H (upd (del (errH (upd H a (exo a C none)) a d C v) a) d (.xd [(("value" : Str), v)])) := fun b o e => by
  have n1 : b ≠ a := ne_of_none e na
  have n2 : b ≠ d := ne_of_none e nd
  rw [upd_ne n2, del_ne n1]
  unfold errH
  rw [upd_ne n1, upd_ne n2, upd_ne n1]
  exact e
section
variable {X : Cx}
/-- raise C(x), x in slot i -/
def tRaiseN (C : Addr) (W : WX) (i : Nat) : TS := fun _ σ H => ∃ v, σ[i]? = some (some v) ∧ ∀ (dd : Addr) (H' : Hp), Same H H' → H dd = none → H' dd = some (.xd [(("value" : Str), v)]) → W (.ref C) (some dd) σ H'
theorem ps_raiseN {x : Str} {C : Addr} {e : Expr} {i : Nat} {W : WX} {p pos pos2 : Pos} (hc : X.calm = true) (B : Bad X.prog X.w X.K X.mg X.base x C) (hr : Room 2 X.A) (tk : Takes X W) (hg : Gl X x) (he : PE X e (tVar i))
    (hdb : (x == ("__debug__" : Str)) = false := by decide) (hs : starEach (e :: []) X.env = (false, eval e X.env) :: starEach [] X.env := by rfl) (hpl : (backTo pos (starEach [] X.env)).any (·.1) = false := by rfl) :
    PS X (.Raise (some (.Call (.Name x p) [e] [] pos)) none pos2) (tRaiseN C W i) := by
  obtain ⟨fI, fd, T, F1, b1⟩ := B.ex
  have R := ps_raise (pos := pos2) hc tk (pmk_oex (p := p) (CX := CX0) (dvs := []) T.ox T.iC T.tI F1 hr b1 .nil pass0 hg B.gC (pa_cons he pa_nil hs) hdb hs hpl)
  refine ⟨fun pins s σ H D I h => R.run pins s σ H D I ?_⟩
  obtain ⟨v, hv, q⟩ := h
  refine ⟨v, hv, ?_⟩
  refine ⟨by show 1 ≤ 1000; decide, fun a na => ?_⟩
  refine ⟨a, v, rfl, upd_same, fun d nd ne => ⟨rfl, d, [(("value" : Str), v)], ?_, ?_, ?_, ?_⟩⟩
  · unfold errH
    rw [upd_same]
  · unfold errH
    rw [upd_ne ne, upd_same]
  · rw [upd_ne ne] at nd
    exact nd
  · rw [upd_ne ne] at nd
    exact q d _ (raise_heap na nd ne) nd upd_same
end
end Vb
end L2

set_option Elab.async false
set_option linter.all false
set_option maxRecDepth 100000
set_option maxHeartbeats 4000000
/-! Vb, part 18: == of lists of numbers, of lists of such. -/
namespace L2
namespace Vb
open PySem PySem.Spec PyProof.Rows
theorem lay_ints : ∀ xs : List Int, PyData.canLayAll0 (xs.map PyData.int) = true
  | [] => rfl
  | x :: xs => by
    rw [List.map_cons, PyData.canLayAll0, lay_ints xs]
    rfl
theorem dep_ints : ∀ xs : List Int, PyData.depthAll (xs.map PyData.int) = 0
  | [] => rfl
  | x :: xs => by
    rw [List.map_cons, PyData.depthAll, dep_ints xs]
    rfl
theorem lay_rows : ∀ T : List (List Int), PyData.canLayAll0 (T.map rowP) = true
  | [] => rfl
  | x :: T => by
    rw [List.map_cons, PyData.canLayAll0, lay_rows T]
    show (PyData.canLay0 (.list (x.map PyData.int)) && true) = true
    rw [PyData.canLay0, lay_ints]
    rfl
theorem dep_rows : ∀ T : List (List Int), PyData.depthAll (T.map rowP) ≤ 1
  | [] => Nat.zero_le _
  | x :: T => by
    rw [List.map_cons, PyData.depthAll]
    refine Nat.max_le.mpr ⟨?_, dep_rows T⟩
    show PyData.depth (.list (x.map PyData.int)) ≤ 1
    rw [PyData.depth, dep_ints]
    exact Nat.le_refl _
theorem shaped_row (xs : List Int) : SeqAt.shaped (rowP xs) = true := by
  unfold SeqAt.shaped
  refine Bool.and_eq_true_iff.mpr ⟨?_, decide_eq_true ?_⟩
  · show PyData.canLay0 (.list (xs.map PyData.int)) = true
    rw [PyData.canLay0, lay_ints]
  · show PyData.depth (.list (xs.map PyData.int)) ≤ 64
    rw [PyData.depth, dep_ints]
    decide
theorem shaped_mat (T : List (List Int)) : SeqAt.shaped (matP T) = true := by
  unfold SeqAt.shaped
  refine Bool.and_eq_true_iff.mpr ⟨?_, decide_eq_true ?_⟩
  · show PyData.canLay0 (.list (T.map rowP)) = true
    rw [PyData.canLay0, lay_rows]
  · show PyData.depth (.list (T.map rowP)) ≤ 64
    rw [PyData.depth]
    have := dep_rows T
    omega
theorem eqv_row (xs ys : List Int) : PyData.eqv (rowP xs) (rowP ys) = decide (xs = ys) := PySem.W.Datum.eqv (α := List Int) xs ys
theorem eqv_mat (S T : List (List Int)) : PyData.eqv (matP S) (matP T) = decide (S = T) := PySem.W.Datum.eqv (α := List (List Int)) S T
theorem dpa_ints {K : PySem.W.Frag} {H : Hp} : ∀ xs : List Int, DpAll K H (xs.map V.int) (xs.map PyData.int)
  | [] => .nil
  | x :: xs => .cons (.int x) (dpa_ints xs)
theorem dp_row {K : PySem.W.Frag} {H : Hp} {a : Addr} {xs : List Int} (h : Rw H a xs) : Dp K H (.ref a) (rowP xs) := .lst (SqL.of (show H a = some (.lst (xs.map V.int)) from h)) (dpa_ints xs)
theorem dpa_rows {K : PySem.W.Frag} {H : Hp} {as : List Addr} {T : List (List Int)} (h : Rws H as T) : DpAll K H (as.map V.ref) (T.map rowP) := by
  induction h with
  | nil => exact .nil
  | cons r _ ih => exact .cons (dp_row r) ih
theorem dp_mat {K : PySem.W.Frag} {H : Hp} {a : Addr} {as : List Addr} {T : List (List Int)} (h : H a = some (.lst (as.map V.ref))) (hT : Rws H as T) : Dp K H (.ref a) (matP T) := .lst (SqL.of h) (dpa_rows hT)
section
variable {K : PySem.W.Frag} {H : Hp} {a b : Addr} {xs ys : List Int} {as bs : List Addr} {S T : List (List Int)} {Q : VK}
theorem eq_row (h : Rw H a xs) (k : Rw H b ys) (q : Q (.bl (decide (xs = ys))) H) : rEqD K (.ref a) (.ref b) H Q := ⟨_, _, dp_row h, dp_row k, shaped_row xs, shaped_row ys, by rw [eqv_row]; exact q⟩
theorem ne_row (h : Rw H a xs) (k : Rw H b ys) (q : Q (.bl (!decide (xs = ys))) H) : rNeD K (.ref a) (.ref b) H Q := ⟨_, _, dp_row h, dp_row k, shaped_row xs, shaped_row ys, by rw [eqv_row]; exact q⟩
theorem eq_mat (h : H a = some (.lst (as.map V.ref))) (hS : Rws H as S) (k : H b = some (.lst (bs.map V.ref))) (hT : Rws H bs T) (q : Q (.bl (decide (S = T))) H) : rEqD K (.ref a) (.ref b) H Q :=
  ⟨_, _, dp_mat h hS, dp_mat k hT, shaped_mat S, shaped_mat T, by rw [eqv_mat]; exact q⟩
theorem ne_mat (h : H a = some (.lst (as.map V.ref))) (hS : Rws H as S) (k : H b = some (.lst (bs.map V.ref))) (hT : Rws H bs T) (q : Q (.bl (!decide (S = T))) H) : rNeD K (.ref a) (.ref b) H Q :=
  ⟨_, _, dp_mat h hS, dp_mat k hT, shaped_mat S, shaped_mat T, by rw [eqv_mat]; exact q⟩
end
end Vb
end L2

set_option Elab.async false
set_option linter.all false
set_option maxRecDepth 100000
set_option maxHeartbeats 4000000
/-! Vb, k03: is_number, is_list of any data. -/
namespace L2
namespace Vb
open PySem PySem.Spec PyProof.Rows
theorem sho_tyx {K : PySem.W.Frag} {n : Nat} {H : Hp} {v : V} {d : PyData} (h : Sho n H v d) : TyX K H v (.type (tyD d)) := by
  cases d with
  | none => rw [h.ofNone]; exact .base .non
  | bool b => rw [h.ofBool]; exact .base (.bl b)
  | int i => rw [h.ofInt]; exact .base (.int i)
  | str x => rw [h.ofStr]; exact .base (.str x)
  | list ds =>
    obtain ⟨m, a, xs, _, rfl, e, _⟩ := h.ofList
    exact .base (.lst e)
  | tuple ds =>
    obtain ⟨m, a, xs, _, rfl, e, _⟩ := h.ofTuple
    exact .base (.tup e)
  | dict kvs =>
    obtain ⟨a, rfl, _, e⟩ := h.ofDict
    exact .base (.dK e)
theorem kit_int (d : PyData) : kitB (tyD d) "int" = some (match d with | .int _ => true | .bool _ => true | _ => false) := by
  cases d <;> first
    | exact (show kitB "NoneType" "int" = some false from by decide +kernel)
    | exact (show kitB "bool" "int" = some true from by decide +kernel)
    | exact (show kitB "int" "int" = some true from by decide +kernel)
    | exact (show kitB "str" "int" = some false from by decide +kernel)
    | exact (show kitB "list" "int" = some false from by decide +kernel)
    | exact (show kitB "tuple" "int" = some false from by decide +kernel)
    | exact (show kitB "dict" "int" = some false from by decide +kernel)
theorem kit_bool (d : PyData) : kitB (tyD d) "bool" = some (match d with | .bool _ => true | _ => false) := by
  cases d <;> first
    | exact (show kitB "NoneType" "bool" = some false from by decide +kernel)
    | exact (show kitB "bool" "bool" = some true from by decide +kernel)
    | exact (show kitB "int" "bool" = some false from by decide +kernel)
    | exact (show kitB "str" "bool" = some false from by decide +kernel)
    | exact (show kitB "list" "bool" = some false from by decide +kernel)
    | exact (show kitB "tuple" "bool" = some false from by decide +kernel)
    | exact (show kitB "dict" "bool" = some false from by decide +kernel)
theorem kit_list (d : PyData) : kitB (tyD d) "list" = some (match d with | .list _ => true | _ => false) := by
  cases d <;> first
    | exact (show kitB "NoneType" "list" = some false from by decide +kernel)
    | exact (show kitB "bool" "list" = some false from by decide +kernel)
    | exact (show kitB "int" "list" = some false from by decide +kernel)
    | exact (show kitB "str" "list" = some false from by decide +kernel)
    | exact (show kitB "list" "list" = some true from by decide +kernel)
    | exact (show kitB "tuple" "list" = some false from by decide +kernel)
    | exact (show kitB "dict" "list" = some false from by decide +kernel)
theorem kit_tuple (d : PyData) : kitB (tyD d) "tuple" = some (match d with | .tuple _ => true | _ => false) := by
  cases d <;> first
    | exact (show kitB "NoneType" "tuple" = some false from by decide +kernel)
    | exact (show kitB "bool" "tuple" = some false from by decide +kernel)
    | exact (show kitB "int" "tuple" = some false from by decide +kernel)
    | exact (show kitB "str" "tuple" = some false from by decide +kernel)
    | exact (show kitB "list" "tuple" = some false from by decide +kernel)
    | exact (show kitB "tuple" "tuple" = some true from by decide +kernel)
    | exact (show kitB "dict" "tuple" = some false from by decide +kernel)
theorem boot_boolT : bootBuiltins ("bool" : Str) = some (.type "bool") := by decide +kernel
theorem rel_boolT : RelV (.ty "bool") (.type "bool") := rfl
abbrev sIsNum : Stmt := topS 59
theorem scIsNum : FnScope ["_law_value", "_law_bound"] ["_law_value", "_law_bound"] (defScope sIsNum) := ⟨rfl, rfl, rfl, by decide +kernel, rfl, by decide +kernel, by decide +kernel⟩
def spIsNum : Sp := fun vs H Q _ => ∃ (p : Int) (v : V) (d : PyData) (n : Nat), vs = [v, .int p] ∧ Sho n H v d ∧ Q (.bl (numD p d)) H
section
variable {P : Program} {w : World} {K : PySem.W.Frag} {mg : Str → Option Value} {base : Heap}
theorem ok_isNum {f : Addr} {fd : FuncData} (F : Fun K "_law_is_number" "_law_is_number" sIsNum f fd) (gI : mg "isinstance" = none) (gN : mg "int" = none) (gB : mg "bool" = none) : FnOk P w K mg base CX0 1 f fd ["_law_value", "_law_bound"] spIsNum := by
  refine F.ok scIsNum (fun vs H Q E h => ?_) (fun cdv A outer s H vs Q E hr h => ?_)
  · obtain ⟨p, v, d, n, rfl, _⟩ := h
    rfl
  · obtain ⟨p, v, d, n, rfl, sh, want⟩ := h
    refine ⟨_, pss_one (ps_ret (pe_and (pe_callB call_isi (by rfl) gI boot_isinstance (pa_cons (pv 0) (pa_cons (pe_bltn rfl gN boot_int rel_int) pa_nil))) (pe_and (pe_not (pe_callB call_isi (by rfl) gI boot_isinstance (pa_cons (pv 0) (pa_cons (pe_bltn rfl gB boot_boolT rel_boolT) pa_nil)))) (pe_one (pe_chain op_le op_lt pe_int (pv 0) (pv 1)))))), ?_⟩
    refine ⟨_, rfl, v, _, _, _, _, rfl, ClsV.ty _, sho_tyx sh, kit_ty (kit_int d), _, rfl, ?_⟩
    cases d with
    | int i =>
      refine iteT ?_
      refine ⟨_, rfl, v, _, _, _, _, rfl, ClsV.ty _, sho_tyx sh, kit_ty (kit_bool (.int i)), _, rfl, _, rfl, iteT ?_⟩
      obtain rfl := sh.ofInt
      have want : Q (.bl (decide (0 ≤ i) && decide (i < p))) H := want
      refine ⟨_, rfl, _, _, rfl, rfl, _, rfl, ?_⟩
      by_cases q : 0 ≤ i
      · rw [decide_eq_true q] at want ⊢
        rw [Bool.true_and] at want
        exact iteT ⟨_, rfl, _, _, rfl, rfl, want⟩
      · rw [decide_eq_false q] at want ⊢
        exact iteF want
    | bool b =>
      refine iteT ?_
      refine ⟨_, rfl, v, _, _, _, _, rfl, ClsV.ty _, sho_tyx sh, kit_ty (kit_bool (.bool b)), _, rfl, _, rfl, iteF want⟩
    | none => exact iteF want
    | str x => exact iteF want
    | list ds => exact iteF want
    | tuple ds => exact iteF want
    | dict ds => exact iteF want
abbrev nIsLst : List Str := ["_law_value", "_law_bound", "_law_length", "_law_one"]
/-- lists of few and flat enough things -/
def spIsLst : Sp := fun vs H Q _ => ∃ (p : Int) (L : Nat) (v : V) (d : PyData) (n : Nat), vs = [v, .int p, .int (L : Int)] ∧ Sho n H v d ∧ (∀ ds, d = .list ds → ds.length ≤ 1000 ∧ SeqAt.shaped d = true) ∧ ∀ H', Same H H' → Q (.bl (vecOfD p L d)) H'
theorem filt_all {f : PyData → Bool} : ∀ ds : List PyData, (ds.filter fun d => !f d) = [] ↔ ds.all f = true
  | [] => by simp
  | d :: ds => by
    rw [List.filter_cons, List.all_cons]
    cases e : f d with
    | true => simpa [e] using filt_all ds
    | false => simp
theorem lay_filter {f : PyData → Bool} : ∀ ds : List PyData, PyData.canLayAll0 ds = true → PyData.canLayAll0 (ds.filter f) = true
  | [], _ => rfl
  | d :: ds, h => by
    rw [PyData.canLayAll0] at h
    obtain ⟨a, b⟩ := Bool.and_eq_true_iff.mp h
    rw [List.filter_cons]
    split
    · rw [PyData.canLayAll0, a, lay_filter ds b]
      rfl
    · exact lay_filter ds b
theorem dep_filter {f : PyData → Bool} : ∀ ds : List PyData, PyData.depthAll (ds.filter f) ≤ PyData.depthAll ds
  | [] => Nat.le_refl _
  | d :: ds => by
    have ih := dep_filter (f := f) ds
    rw [List.filter_cons, PyData.depthAll]
    split
    · rw [PyData.depthAll]
      exact Nat.max_le.mpr ⟨Nat.le_max_left _ _, Nat.le_trans ih (Nat.le_max_right _ _)⟩
    · exact Nat.le_trans ih (Nat.le_max_right _ _)
theorem shaped_filter {f : PyData → Bool} {ds : List PyData} (h : SeqAt.shaped (.list ds) = true) : SeqAt.shaped (.list (ds.filter f)) = true := by
  obtain ⟨a, b⟩ := Bool.and_eq_true_iff.mp (show (PyData.canLay0 (.list ds) && decide (PyData.depth (.list ds) ≤ 64)) = true from h)
  have b := of_decide_eq_true b
  rw [PyData.canLay0] at a
  rw [PyData.depth] at b
  refine Bool.and_eq_true_iff.mpr ⟨?_, decide_eq_true ?_⟩
  · rw [PyData.canLay0]
    exact lay_filter ds a
  · rw [PyData.depth]
    have := dep_filter (f := f) ds
    omega
theorem flatDp {K : PySem.W.Frag} {H : Hp} {v : V} {d : PyData} (f : Flat v d) : Dp K H v d := by
  rcases f with ⟨rfl, rfl⟩ | ⟨b, rfl, rfl⟩ | ⟨i, rfl, rfl⟩ | ⟨x, rfl, rfl⟩
  · exact .non
  · exact .bl b
  · exact .int i
  · exact .str x
theorem shoDpA {K : PySem.W.Frag} {H : Hp} {F : V → PyData → Prop} (g : ∀ v d, F v d → d.canLay0 = true → Dp K H v d) : ∀ {xs : List V} {ds : List PyData}, Paired F xs ds → PyData.canLayAll0 ds = true → DpAll K H xs ds
  | _, _, .nil, _ => .nil
  | _, _, .cons p ps, h => by
    rw [PyData.canLayAll0] at h
    obtain ⟨a, b⟩ := Bool.and_eq_true_iff.mp h
    exact .cons (g _ _ p a) (shoDpA g ps b)
theorem shoDp {K : PySem.W.Frag} {H : Hp} : ∀ {n : Nat} (v : V) (d : PyData), Sho n H v d → d.canLay0 = true → Dp K H v d
  | 0, _, _, f, _ => flatDp f
  | n + 1, _, _, f, h => by
    rcases f with f | ⟨a, xs, ds, rfl, rfl, e3, f⟩ | ⟨a, xs, ds, rfl, rfl, e3, f⟩ | ⟨a, rfl, rfl, e3⟩
    · exact flatDp f
    · rw [PyData.canLay0] at h
      exact .lst (SqL.of e3) (shoDpA (fun v d => shoDp v d) f h)
    · rw [PyData.canLay0] at h
      exact .tup (SqT.of e3) (shoDpA (fun v d => shoDp v d) f h)
    · rw [PyData.canLay0] at h
      cases h
end
end Vb
end L2

set_option Elab.async false
set_option linter.all false
set_option maxRecDepth 100000
set_option maxHeartbeats 8000000
/-! Vb, k30: what the law takes for a row. -/
namespace L2
namespace Vb
open PySem PySem.Spec PyProof.Rows
def wordsL : List Str := ["set", "copy", "times", "more", "add", "take"]
def boundZ (p : Int) (cells : Nat) (x : Str) : Int := if x ∈ [("set" : Str), "times", "more"] then p else if x = "take" then (cells : Int) else 2
def rowB (p : Int) (cells : Nat) : PyData → Bool
  | .tuple [s, a, b] => (match s with
    | .str x => decide (x ∈ wordsL) && (numD 2 a && numD (boundZ p cells x) b)
    | _ => false)
  | _ => false
theorem rel_tupleT : RelV (.ty "tuple") (.type "tuple") := rfl
theorem in_strs {x : Str} : ∀ (ws : List Str), inV (.str x) (ws.map V.str) = decide (x ∈ ws)
  | [] => rfl
  | y :: ws => by
    show (eqV (.str y) (.str x) || inV (.str x) (ws.map V.str)) = _
    have e : eqV (.str y) (.str x) = decide (x = y) := by
      show decide _ = _
      exact decide_eq_decide.mpr eq_comm
    rw [in_strs ws, e, ← Bool.decide_or]
    exact decide_eq_decide.mpr List.mem_cons.symm
def spRowL : Sp := fun vs H Q _ => ∃ (p : Int) (cells : Nat) (v : V) (d : PyData) (k : Nat), vs = [.int p, .int (cells : Int), v] ∧ Sho k H v d ∧ (∀ ds, d = .tuple ds → ds.length ≤ 1000 ∧ (ds.length = 3 → ∃ x r, ds = .str x :: r)) ∧ ∀ H', Same H H' → Q (.bl (rowB p cells d)) H'
abbrev sRowL : Stmt := topS 60
abbrev nRowL : List Str := ["_law_prime_here", "_law_cells", "_law_row", "_law_bound"]
theorem scRowL : FnScope nRowL ["_law_prime_here", "_law_cells", "_law_row"] (defScope sRowL) := ⟨rfl, rfl, rfl, by decide +kernel, rfl, by decide +kernel, by decide +kernel⟩
-- cells set()
section
variable {P : Program} {w : World} {K : PySem.W.Frag} {mg : Str → Option Value} {base : Heap}
theorem ok_rowL {f fLis_number : Addr} {fd fdLis_number : FuncData} (F : Fun K "_law_is_row" "_law_is_row" sRowL f fd)
    (FLis_number : Fun K "_law_is_number" "_law_is_number" sIsNum fLis_number fdLis_number) (GLis_number : FnOk P w K mg base CX0 1 fLis_number fdLis_number ["_law_value", "_law_bound"] spIsNum) (gLis_number : mg "_law_is_number" = some (.ref fLis_number)) (gIsinstance : mg "isinstance" = none) (gLen : mg "len" = none) (gTuple : mg "tuple" = none) :
    FnOk P w K mg base CX0 2 f fd ["_law_prime_here", "_law_cells", "_law_row"] spRowL := by
  have bLis_number : Binds K fdLis_number ["_law_value", "_law_bound"] [] := FLis_number.binds fun _ _ _ _ _ _ us hl => match us, hl with | [_, _], _ => rfl
  refine F.ok scRowL (fun vs H Q E h => ?_) (fun cdv A outer s0 H vs Q E hr h => ?_)
  · obtain ⟨p, cells, v, d, k, rfl, _⟩ := h
    rfl
  · obtain ⟨p, cells, v, d, k, rfl, sh, ok, want⟩ := h
    refine ⟨_, (pss_cons (ps_if (PW.pt (pw_or (pt_not (pt_val (pe_callB call_isi (by rfl) gIsinstance boot_isinstance (pa_cons (pv 2) (pa_cons (pe_bltn rfl gTuple boot_tuple rel_tupleT) pa_nil))))) (pw_or (pt_cmpR op_ne (pe_callB (call_len_seq) (by rfl) gLen PySem.boot_len (pa_cons (pv 2) pa_nil)) pe_int (nomark _)) (pw_or1 (pt_cmpR op_notIn_seq (pe_ix ix_tup (pv 2) pe_int (fun _ _ => rfl)) (pe_tup (pa_cons pe_str (pa_cons pe_str (pa_cons pe_str (pa_cons pe_str (pa_cons pe_str (pa_cons pe_str pa_nil))))))) (by rfl))))))
        (pss_one (ps_ret pe_bl))
        pss_nil)
      (pss_cons (ps_set (i := 3) scRowL.nd rfl (Or.inl rfl) (pe_ifExp (pt_cmpR op_in_seq (pe_ix ix_tup (pv 2) pe_int (fun _ _ => rfl)) (pe_tup (pa_cons pe_str (pa_cons pe_str (pa_cons pe_str pa_nil)))) (by rfl)) (pv 0) (pe_ifExp (pt_cmpR op_eq (pe_ix ix_tup (pv 2) pe_int (fun _ _ => rfl)) pe_str (nomark _)) (pv 1) pe_int)))
      (pss_one (ps_ret (pe_and (pe_call GLis_number (hr.mono (by decide)) rfl gLis_number FLis_number.kp bLis_number .nil pass0 (pa_cons (pe_ix ix_tup (pv 2) pe_int (fun _ _ => rfl)) (pa_cons pe_int pa_nil))) (pe_one (pe_call GLis_number (hr.mono (by decide)) rfl gLis_number FLis_number.kp bLis_number .nil pass0 (pa_cons (pe_ix ix_tup (pv 2) pe_int (fun _ _ => rfl)) (pa_cons (pv 3) pa_nil))))))))), ?_⟩
    refine ⟨_, rfl, v, _, _, _, _, rfl, ClsV.ty _, sho_tyx sh, kit_ty (kit_tuple d), _, rfl, ?_⟩
    cases d with
    | none => exact iteT (iteT (want _ same_rfl))
    | bool b => exact iteT (iteT (want _ same_rfl))
    | int i => exact iteT (iteT (want _ same_rfl))
    | str x => exact iteT (iteT (want _ same_rfl))
    | list ds => exact iteT (iteT (want _ same_rfl))
    | dict ds => exact iteT (iteT (want _ same_rfl))
    | tuple ds =>
      obtain ⟨m, a, ys, rfl, rfl, ha, ps⟩ := sh.ofTuple
      obtain ⟨l1000, l3⟩ := ok ds rfl
      have ly := paired_len ps
      refine iteF ?_
      refine ⟨_, rfl, a, _, rfl, .inr (SqT.of ha), rfl, _, rfl, ?_⟩
      by_cases q : ds.length = 3
      · obtain ⟨x, r, rfl⟩ := l3 q
        obtain ⟨y, z, rfl⟩ : ∃ y z, r = [y, z] := by
          match r, q with
          | [y, z], _ => exact ⟨y, z, rfl⟩
        cases ps with
        | cons h1 ps =>
          cases ps with
          | cons h2 ps =>
            cases ps with
            | cons h3 ps =>
              cases ps
              obtain rfl := h1.ofStr
              refine ifF2 rfl ?_
              refine ⟨_, rfl, a, _, 0, _, rfl, rfl, SqT.of ha, rfl, by show 6 ≤ sizeLine; decide, fun t ht => ⟨t, _, rfl, .inr (SqT.of upd_same), rfl, by decide +kernel, _, rfl, ?_⟩⟩
              have st := same_new (o := .tup [V.str "set", V.str "copy", V.str "times", V.str "more", V.str "add", V.str "take"]) ht
              have hin : inV (.str x) [V.str "set", V.str "copy", V.str "times", V.str "more", V.str "add", V.str "take"] = decide (x ∈ wordsL) := in_strs wordsL
              by_cases mx : x ∈ wordsL
              · refine ifF2 (by show (!inV _ _) = false; rw [hin, decide_eq_true mx]; rfl) ?_
                refine ⟨_, rfl, a, _, 0, _, rfl, rfl, SqT.of (st _ _ ha), rfl, by show 3 ≤ sizeLine; decide, fun t2 ht2 => ⟨t2, _, rfl, .inr (SqT.of upd_same), rfl, by decide +kernel, _, rfl, ?_⟩⟩
                have st2 := same_trans st (same_new (o := .tup [V.str "set", V.str "times", V.str "more"]) ht2)
                have hin2 : inV (.str x) [V.str "set", V.str "times", V.str "more"] = decide (x ∈ [("set" : Str), "times", "more"]) := in_strs [("set" : Str), "times", "more"]
                by_cases m1 : x ∈ [("set" : Str), "times", "more"]
                · have eb : boundZ p cells x = p := if_pos m1
                  refine ifT2 (by show inV _ _ = true; rw [hin2, decide_eq_true m1]) ?_
                  refine ⟨_, rfl, ?_⟩
                  refine ⟨_, rfl, a, _, 1, _, rfl, rfl, SqT.of (st2 _ _ ha), rfl, 2, _, y, _, rfl, h2.up st2, _, rfl, ?_⟩
                  have er : rowB p cells (.tuple [.str x, y, z]) = (numD 2 y && numD (boundZ p cells x) z) := by
                    show (decide (x ∈ wordsL) && _) = _
                    rw [decide_eq_true mx, Bool.true_and]
                  have want2 := want _ st2
                  rw [er] at want2
                  cases e1 : numD 2 y with
                  | false =>
                    rw [e1, Bool.false_and] at want2
                    exact iteF want2
                  | true =>
                    rw [e1, Bool.true_and] at want2
                    refine iteT ⟨_, rfl, a, _, 2, _, rfl, rfl, SqT.of (st2 _ _ ha), rfl, _, rfl, boundZ p cells x, _, z, _, ?_, h3.up st2, want2⟩
                    rw [eb]
                    rfl
                · refine ifF2 (by show inV _ _ = false; rw [hin2, decide_eq_false m1]) ?_
                  refine ⟨_, rfl, a, _, 0, _, rfl, rfl, SqT.of (st2 _ _ ha), rfl, rfl, _, rfl, ?_⟩
                  by_cases m2 : x = "take"
                  · have eb : boundZ p cells x = (cells : Int) := (if_neg m1).trans (if_pos m2)
                    refine ifT2 (decide_eq_true (congrArg V.str m2)) ?_
                    refine ⟨_, rfl, ?_⟩
                    refine ⟨_, rfl, a, _, 1, _, rfl, rfl, SqT.of (st2 _ _ ha), rfl, 2, _, y, _, rfl, h2.up st2, _, rfl, ?_⟩
                    have er : rowB p cells (.tuple [.str x, y, z]) = (numD 2 y && numD (boundZ p cells x) z) := by
                      show (decide (x ∈ wordsL) && _) = _
                      rw [decide_eq_true mx, Bool.true_and]
                    have want2 := want _ st2
                    rw [er] at want2
                    cases e1 : numD 2 y with
                    | false =>
                      rw [e1, Bool.false_and] at want2
                      exact iteF want2
                    | true =>
                      rw [e1, Bool.true_and] at want2
                      refine iteT ⟨_, rfl, a, _, 2, _, rfl, rfl, SqT.of (st2 _ _ ha), rfl, _, rfl, boundZ p cells x, _, z, _, ?_, h3.up st2, want2⟩
                      rw [eb]
                      rfl
                  · have eb : boundZ p cells x = 2 := (if_neg m1).trans (if_neg m2)
                    refine ifF2 (decide_eq_false fun e => m2 (V.str.inj e)) ?_
                    refine ⟨_, rfl, a, _, 1, _, rfl, rfl, SqT.of (st2 _ _ ha), rfl, 2, _, y, _, rfl, h2.up st2, _, rfl, ?_⟩
                    have er : rowB p cells (.tuple [.str x, y, z]) = (numD 2 y && numD (boundZ p cells x) z) := by
                      show (decide (x ∈ wordsL) && _) = _
                      rw [decide_eq_true mx, Bool.true_and]
                    have want2 := want _ st2
                    rw [er] at want2
                    cases e1 : numD 2 y with
                    | false =>
                      rw [e1, Bool.false_and] at want2
                      exact iteF want2
                    | true =>
                      rw [e1, Bool.true_and] at want2
                      refine iteT ⟨_, rfl, a, _, 2, _, rfl, rfl, SqT.of (st2 _ _ ha), rfl, _, rfl, boundZ p cells x, _, z, _, ?_, h3.up st2, want2⟩
                      rw [eb]
                      rfl
              · refine ifT2 (by show (!inV _ _) = true; rw [hin, decide_eq_false mx]; rfl) ?_
                have e : rowB p cells (.tuple [.str x, y, z]) = false := by
                  show (decide (x ∈ wordsL) && _) = false
                  rw [decide_eq_false mx]
                  rfl
                rw [← e]
                exact want _ st
      · have e : rowB p cells (.tuple ds) = false := by
          match ds, q with
          | [], _ => rfl
          | [_], _ => rfl
          | [_, _], _ => rfl
          | _ :: _ :: _ :: _ :: _, _ => rfl
        refine ifT2 ?_ (ifT2 rfl ?_)
        · rw [ly]
          refine Bool.not_eq_true' _ |>.mpr (decide_eq_false fun h => q ?_)
          have h := V.int.inj h
          omega
        · rw [← e]
          exact want _ same_rfl
end
end Vb
end L2

set_option Elab.async false
set_option linter.all false
set_option maxRecDepth 100000
set_option maxHeartbeats 4000000
/-! Vb, k30: is_sum of a right sum. -/
namespace L2
namespace Vb
open PySem PySem.Spec PyProof.Rows
abbrev sSum : Stmt := topS 19
def spSum : Sp := fun vs H Q _ => ∃ (a : Addr) (W : SumZ) (p : Int), vs = [.int p, .ref a] ∧ Dct H a W ∧ (∀ q ∈ W, 0 < q.2 ∧ q.2 < p) ∧ W.length ≤ 1000 ∧ ∀ H', Same H H' → Q (.bl true) H'
theorem scSum : FnScope ["prime", "value", "key", "factor"] ["prime", "value"] (defScope sSum) := ⟨rfl, rfl, rfl, by decide +kernel, rfl, by decide +kernel, by decide +kernel⟩
theorem boot_dictT : bootBuiltins ("dict" : Str) = some (.type "dict") := by decide +kernel
theorem rel_dictT : RelV (.ty "dict") (.type "dict") := rfl
theorem boot_strT : bootBuiltins ("str" : Str) = some (.type "str") := by decide +kernel
theorem rel_strT : RelV (.ty "str") (.type "str") := rfl
/-- so many truths, laid while the dict at a is locked -/
def GrowL (H : Hp) (a D : Addr) (od : Obj) (u : HO) (k : Nat) (H' : Hp) : Prop := (∀ b o, b ≠ a → H b = some o → H' b = some o) ∧ H' a = some (.frz od u) ∧ H' D = some (.lst ((List.replicate k true).map V.bl))
section
variable {P : Program} {w : World} {K : PySem.W.Frag} {mg : Str → Option Value} {base : Heap}
theorem ok_sum {f fF : Addr} {fd fdF : FuncData} (F : Fun K "is_sum" "is_sum" sSum f fd)
    (FF : Fun K "is_factor" "is_factor" sFactor fF fdF) (GF : FnOk P w K mg base CX0 3 fF fdF ["prime", "value"] spFactor) (gF : mg "is_factor" = some (.ref fF)) (gAll : mg "all" = none) (gType : mg "type" = none) (gDict : mg "dict" = none) (gStr : mg "str" = none) :
    FnOk P w K mg base CX0 4 f fd ["prime", "value"] spSum := by
  have bF : Binds K fdF ["prime", "value"] [] := FF.binds fun _ _ _ _ _ _ us hl => match us, hl with | [_, _], _ => rfl
  refine F.ok scSum (fun vs H Q E h => ?_) (fun cdv A outer s0 H vs Q E hr h => ?_)
  · obtain ⟨a, W, p, rfl, _⟩ := h
    rfl
  · obtain ⟨a, W, p, rfl, ha, hW, hl, want⟩ := h
    have ha : H a = some (.dK (kvsZ W)) := ha
    refine ⟨_, (pss_cons (ps_if (PW.pt (pw_or (pt_cmpR op_isNotTy (pe_typeD rfl gType (pv 1)) (pe_bltn rfl gDict boot_dictT rel_dictT) (nomark _)) (pw_or1 (pt_not (pt_val (pe_callB (cr_all rfl) (by rfl) gAll boot_all (pa_cons (pe_lock (pe_lc (own := [("key", 2)]) (g := (gName 2)) (tt := tYes) rfl scSum.nd (pi_keys (pv 1)) (blkOk_by (N := ["prime", "value", "key", "factor"]) (sc := defScope sSum) (by decide +kernel)) (fun _ _ _ _ _ => pg_name (i := 2) scSum.nd rfl (Or.inl rfl)) (fun _ _ _ _ _ => pts_nil) (fun _ _ _ _ _ => (pe_cmpR op_isTy (pe_typeOf rfl gType (pv 2)) (pe_bltn rfl gStr boot_strT rel_strT) (nomark _))))) pa_nil)))))))
        (pss_one (ps_ret pe_bl))
        pss_nil)
      (pss_one (ps_ret (pe_callB (cr_all rfl) (by rfl) gAll boot_all (pa_cons (pe_lock (pe_lc (own := [("factor", 3)]) (g := (gName 3)) (tt := tYes) rfl scSum.nd (pi_values (pv 1)) (blkOk_by (N := ["prime", "value", "key", "factor"]) (sc := defScope sSum) (by decide +kernel)) (fun _ _ _ _ _ => pg_name (i := 3) scSum.nd rfl (Or.inl rfl)) (fun _ _ _ _ _ => pts_nil) (fun _ _ _ _ _ => (pe_call GF (hr.mono (by decide)) rfl gF FF.kp bF .nil pass0 (pa_cons (pv 0) (pa_cons (pv 3) pa_nil)))))) pa_nil))))), ?_⟩
    refine ⟨_, rfl, "dict", by simp only [zTyD, ha], _, _, rfl, rfl, _, rfl, iteF ?_⟩
    refine ⟨a, .dK (kvsZ W), ha, trivial, fun od => ?_⟩
    refine ⟨_, rfl, a, od, rfl, .inl ⟨kvsZ W, upd_same, fun D hD => ?_⟩⟩
    have lk : (kvsZ W).length = W.length := List.length_map _
    have grow : ∀ {H0 : Hp} {D : Addr} {od : Obj}, H0 a = some (.dK (kvsZ W)) → (upd H0 a (.frz od (.dK (kvsZ W)))) D = none → GrowL H0 a D od (.dK (kvsZ W)) 0 (upd (upd H0 a (.frz od (.dK (kvsZ W)))) D (.lst [])) := fun {H0 D od} h0 hD => by
      have nDa : D ≠ a := fun e => by
        rw [e, upd_same] at hD
        cases hD
      rw [upd_ne nDa] at hD
      refine ⟨fun b o nb e => ?_, ?_, upd_same⟩
      · have n2 : b ≠ D := fun z => by
          rw [z, hD] at e
          cases e
        rw [upd_ne n2, upd_ne nb]
        exact e
      · rw [upd_ne (Ne.symm nDa), upd_same]
    have step : ∀ {H0 H1 : Hp} {D : Addr} {od : Obj} {k : Nat}, H0 D = none → D ≠ a → k < W.length → GrowL H0 a D od (.dK (kvsZ W)) k H1 → ∃ acc, H1 D = some (.lst acc) ∧ acc.length < sizeLine ∧ GrowL H0 a D od (.dK (kvsZ W)) (k + 1) (upd H1 D (.lst (acc ++ [V.bl true]))) := fun {H0 H1 D od k} hD nDa hk g => by
      obtain ⟨g1, g2, g3⟩ := g
      refine ⟨_, g3, by rw [List.length_map, List.length_replicate, sizeLine_eq]; omega, fun b o nb e => ?_, ?_, ?_⟩
      · have n2 : b ≠ D := fun z => by
          rw [z, hD] at e
          cases e
        rw [upd_ne n2]
        exact g1 b o nb e
      · rw [upd_ne (Ne.symm nDa)]
        exact g2
      · rw [upd_same, trues_succ]
    have off : ∀ {H0 : Hp} {D : Addr} {od : Obj}, (upd H0 a (.frz od (.dK (kvsZ W)))) D = none → H0 D = none ∧ D ≠ a := fun {H0 D od} hD => by
      have nDa : D ≠ a := fun e => by
        rw [e, upd_same] at hD
        cases hD
      rw [upd_ne nDa] at hD
      exact ⟨hD, nDa⟩
    have back : ∀ {H0 H1 : Hp} {D : Addr} {od : Obj} {k : Nat}, H0 a = some (.dK (kvsZ W)) → GrowL H0 a D od (.dK (kvsZ W)) k H1 → Same H0 (upd H1 a (.dK (kvsZ W))) := fun {H0 H1 D od k} h0 g b o e => by
      by_cases q : b = a
      · rw [q, upd_same]
        rw [q, h0] at e
        exact e
      · rw [upd_ne q]
        exact g.1 b o q e
    obtain ⟨hD0, nDa⟩ := off hD
    refine lc_it walk_keys (fun k H' => GrowL H a D od (.dK (kvsZ W)) k H') (grow ha hD) (fun k H' _ g => g.2.1) ?_ ?_
    · rintro k x H1 H2 hk g ⟨rfl, ky, v, hkv, rfl⟩
      obtain ⟨nm, fc, hw, e1, e2⟩ := kvs_at (u := kV ky) (v := v) (by rw [hkv]; rfl) (by rw [hkv]; rfl)
      refine ⟨rfl, tyes ?_⟩
      rw [e1]
      refine ⟨_, rfl, "str", rfl, _, _, rfl, rfl, ?_⟩
      exact step hD0 nDa (by omega) g
    · intro H1 g
      refine ⟨g.2.1, ?_⟩
      have s1 := back ha g
      refine ⟨D, _, rfl, SqL.of (by rw [upd_ne nDa]; exact g.2.2), _, rfl, ?_⟩
      rw [all_true]
      refine iteF ?_
      have ha2 : upd H1 a (.dK (kvsZ W)) a = some (.dK (kvsZ W)) := upd_same
      generalize upd H1 a (.dK (kvsZ W)) = H2 at s1 ha2 ⊢
      refine ⟨a, .dK (kvsZ W), ha2, trivial, fun od2 => ?_⟩
      refine ⟨_, rfl, a, od2, kvsZ W, rfl, upd_same, fun D2 hD2 => ?_⟩
      obtain ⟨hE0, nEa⟩ := off hD2
      refine lc_it walk_values (fun k H' => GrowL H2 a D2 od2 (.dK (kvsZ W)) k H') (grow ha2 hD2) (fun k H' _ g => g.2.1) ?_ ?_
      · rintro k x H3 H4 hk g3 ⟨rfl, ky, hkv⟩
        obtain ⟨nm, fc, hw, e1, e2⟩ := kvs_at (u := kV ky) (v := x) (by rw [hkv]; rfl) (by rw [hkv]; rfl)
        obtain ⟨f0, f1⟩ := hW _ (List.mem_of_getElem? hw)
        refine ⟨rfl, tyes ?_⟩
        rw [e2]
        refine ⟨_, rfl, _, rfl, p, fc, rfl, f0, f1, ?_⟩
        exact step hE0 nEa (by omega) g3
      · intro H3 g3
        refine ⟨g3.2.1, ?_⟩
        refine ⟨D2, _, rfl, SqL.of (by rw [upd_ne nEa]; exact g3.2.2), ?_⟩
        rw [all_true]
        exact want _ (same_trans s1 (back ha2 g3))
end
end Vb
end L2

set_option Elab.async false
set_option linter.all false
set_option maxRecDepth 100000
set_option maxHeartbeats 4000000
/-! Vb, part 46: the doors of prime, vectors, questions. -/
namespace L2
namespace Vb
open PySem PySem.Spec PyProof.Rows
def primD : PyData → Bool
  | .int i => decide (2 ≤ i) && (decide (i ≤ 65537) && primI i)
  | _ => false
/-- nothing is asked of the data -/
def okP : PyData → Bool := fun _ => true
def intD : PyData → Int
  | .int i => i
  | _ => 0
theorem primD_int {d : PyData} (h : primD d = true) : d = .int (intD d) ∧ 2 ≤ intD d ∧ intD d ≤ 65537 := by
  cases d with
  | int i =>
    obtain ⟨a, z⟩ := He.ba h
    obtain ⟨b, _⟩ := He.ba z
    exact ⟨rfl, of_decide_eq_true a, of_decide_eq_true b⟩
  | _ => cases h
section
variable {P : Program} {w : World} {K : PySem.W.Frag} {mg : Str → Option Value} {base : Heap}
def spPrimeD : Sp := fun vs H Q _ => ∃ (v : V) (d : PyData) (n : Nat), vs = [v] ∧ Sho n H v d ∧ okP d = true ∧ ∀ H', Same H H' → Q (.bl (primD d)) H'
theorem ok_primeD {f : Addr} {fd : FuncData} (F : Fun K "is_prime" "is_prime" sPrime f fd) (g : PrimG K mg) :
    FnOk P w K mg base CX0 1 f fd ["value"] spPrimeD := by
  obtain ⟨gT, gI, gG, ⟨sa, gS, hS⟩, gP, gC⟩ := g
  refine F.ok scPrime (fun vs H Q E h => ?_) (fun cdv A outer s H vs Q E hr h => ?_)
  · obtain ⟨v, d, n, rfl, _⟩ := h
    rfl
  · obtain ⟨v, d, n, rfl, sh, ok, want⟩ := h
    refine ⟨_, pss_cons (ps_if (PW.pt (pw_or (pt_cmpR op_isNotTy (pe_typeD rfl gT (pv 0)) (pe_bltn rfl gI boot_int rel_int) (nomark _)) (pw_or1 (pt_not (pt_chain op_le op_le pe_int (pv 0) (pe_gint rfl gG))))))
        (pss_one (ps_ret pe_bl)) pss_nil)
      (pss_one (ps_ret (pe_or (pe_cmpR op_in_seq (pv 0) (pe_glob (v := .ref sa) rfl gS rfl (by decide)) (by rfl)) (pe_one (pe_cmpR op_eq (pe_callImp cr_gcd rfl gC (pa_cons (pv 0) (pa_cons (pe_gint rfl gP) pa_nil))) pe_int (nomark _)))))), ?_⟩
    refine ⟨_, rfl, _, sh.ty, _, _, rfl, rfl, _, rfl, ?_⟩
    cases d with
    | int p =>
      obtain rfl := sh.ofInt
      refine iteF ?_
      refine ⟨_, rfl, _, _, rfl, rfl, _, rfl, ?_⟩
      by_cases p2 : 2 ≤ p
      · rw [decide_eq_true p2]
        refine iteT ⟨_, _, rfl, rfl, _, rfl, ?_⟩
        by_cases p6 : p ≤ 65537
        · rw [decide_eq_true p6]
          refine iteF ?_
          have e : primD (.int p) = primI p := by
            show (decide (2 ≤ p) && (decide (p ≤ 65537) && _)) = _
            rw [decide_eq_true p2, decide_eq_true p6]
            rfl
          rw [e] at want
          refine ⟨_, rfl, sa, _, rfl, .inr (hS _), rfl, small_flat, _, rfl, ?_⟩
          unfold primI at want
          cases e2 : inV (.int p) (SMALL_PRIMES_L.map V.int) with
          | true =>
            rw [e2] at want
            exact iteT (want H same_rfl)
          | false =>
            rw [e2, Bool.false_or] at want
            refine iteF ⟨_, rfl, p, smallProduct, rfl, rfl, ?_⟩
            have z2 : decide (V.int ((p.natAbs.gcd smallProduct.natAbs : Nat) : Int) = V.int 1) = decide (((p.natAbs.gcd smallProduct.natAbs : Nat) : Int) = 1) := by
              by_cases q : ((p.natAbs.gcd smallProduct.natAbs : Nat) : Int) = 1
              · rw [decide_eq_true q, decide_eq_true (congrArg V.int q)]
              · rw [decide_eq_false q, decide_eq_false fun r => q (V.int.inj r)]
            rw [z2]
            exact want H same_rfl
        · rw [decide_eq_false p6]
          have e : primD (.int p) = false := by
            show (decide (2 ≤ p) && (decide (p ≤ 65537) && _)) = _
            rw [decide_eq_false p6, Bool.false_and, Bool.and_false]
          rw [e] at want
          exact iteT (want H same_rfl)
      · rw [decide_eq_false p2]
        have e : primD (.int p) = false := by
          show (decide (2 ≤ p) && (decide (p ≤ 65537) && _)) = _
          rw [decide_eq_false p2, Bool.false_and]
        rw [e] at want
        exact iteF ⟨_, rfl, iteT (want H same_rfl)⟩
    | none => exact iteT (want H same_rfl)
    | bool b => exact iteT (want H same_rfl)
    | str b => exact iteT (want H same_rfl)
    | list b => exact iteT (want H same_rfl)
    | tuple b => exact iteT (want H same_rfl)
    | dict b => exact iteT (want H same_rfl)
def spReqPX (CP : Addr) : Sp := fun vs H Q E => ∃ (v : V) (d : PyData) (n : Nat), vs = [v] ∧ Sho n H v d ∧ okP d = true ∧ (primD d = true → ∀ H', Same H H' → Q .non H') ∧ (primD d = false → Err H CP v E)
theorem ok_reqPX {CP f fP : Addr} {fd fdP : FuncData} (BP : Bad P w K mg base "InvalidPrime" CP) (F : Fun K "require_prime" "require_prime" sReqP f fd) (FP : Fun K "is_prime" "is_prime" sPrime fP fdP) (GP : FnOk P w K mg base CX0 1 fP fdP ["value"] spPrimeD) (gP : mg "is_prime" = some (.ref fP)) :
    FnOk P w K mg base (L2.CX P w) 3 f fd ["prime"] (spReqPX CP) := by
  have bP : Binds K fdP ["value"] [] := FP.binds fun _ _ _ _ _ _ us hl => match us, hl with | [_], _ => rfl
  refine F.okX scReqP (fun vs H Q E h => ?_) (fun cdv A outer s H vs Q E hr h => ?_)
  · obtain ⟨v, d, n, rfl, _⟩ := h
    rfl
  · obtain ⟨v, d, n, rfl, sh, ok, yes, no⟩ := h
    refine ⟨_, pss_one (ps_if (pt_not (pt_val (pe_call GP (hr.mono (by decide)) rfl gP FP.kp bP .nil pass0 (pa_cons (pv 0) pa_nil)))) (pss_one (ps_raiseN rfl BP hr (takes_of rfl rfl rfl rfl) rfl (pv 0))) pss_nil), ?_⟩
    refine ⟨_, rfl, v, d, n, rfl, sh, ok, fun H' sm => ⟨_, rfl, ?_⟩⟩
    cases e : primD d with
    | true => exact iteF (yes e H' sm)
    | false =>
      refine iteT ⟨_, rfl, fun dd H2 s2 nd hd => ?_⟩
      exact no e dd H2 (same_trans sm s2) (sm.free nd) hd
def spReqVX (CV : Addr) : Sp := fun vs H Q E => ∃ (p : Int) (v : V) (d : PyData) (n : Nat), vs = [.int p, v] ∧ Sho n H v d ∧ Sm2 d ∧ (vecsD p d = true → ∀ H', Same H H' → Q .non H') ∧ (vecsD p d = false → Err H CV v E)
def someD (p : Int) (d : PyData) : Bool := vecsD p d && decide (lenD d ≠ 0)
def spReqSX (CV : Addr) : Sp := fun vs H Q E => ∃ (p : Int) (v : V) (d : PyData) (n : Nat), vs = [.int p, v] ∧ Sho n H v d ∧ Sm2 d ∧ (someD p d = true → ∀ H', Same H H' → Q .non H') ∧ (someD p d = false → Err H CV v E)
theorem vecsD_list {p : Int} {d : PyData} (h : vecsD p d = true) : ∃ ds, d = .list ds := by
  cases d with
  | list ds => exact ⟨ds, rfl⟩
  | _ => cases h
/-- what is wrong with a question, if anything: the class, the argument -/
def fitD : PyData → PyData → Bool
  | .list (e :: _), x => decide (lenD x = lenD e)
  | _, _ => true
def verQ (du dv dx : PyData) : Option (Nat × Nat) :=
  if primD du = false then some (0, 0) else if vecsD (intD du) dv = false then some (2, 1) else if (vecD (intD du) dx && fitD dv dx) = false then some (2, 2) else none
def verB (du da db dw : PyData) : Option (Nat × Nat) :=
  if primD du = false then some (0, 0) else if someD (intD du) da = false then some (2, 1) else if someD (intD du) db = false then some (2, 2) else
    if vecsOfD (intD du) (lenD da) (lenD (match db with | .list (e :: _) => e | _ => .none)) dw = false then some (2, 3) else none
/-- by what is wrong -/
def Told (CP CN CV : Addr) (H : Hp) (vs : List V) (E : XK) (yes : Prop) : Option (Nat × Nat) → Prop
  | none => yes
  | some (0, i) => Err H CP (vs.getD i .non) E
  | some (1, i) => Err H CN (vs.getD i .non) E
  | some (_ + 2, i) => Err H CV (vs.getD i .non) E
theorem sho_prim {n : Nat} {H : Hp} {u : V} {du : PyData} (sh : Sho n H u du) (h : primD du = true) : u = .int (intD du) := by
  have e := (primD_int h).1
  rw [e] at sh
  exact sh.ofInt
def spReqQX (CP CN CV : Addr) : Sp := fun vs H Q E => ∃ (u v x : V) (du dv dx : PyData) (n : Nat), vs = [u, v, x] ∧ Sho n H u du ∧ Sho n H v dv ∧ Sho n H x dx ∧ okP du = true ∧ Sm2 dv ∧ Sm1 dx ∧ Told CP CN CV H [u, v, x] E (∀ H', Same H H' → Q .non H') (verQ du dv dx)
def headD : PyData → PyData
  | .list (e :: _) => e
  | _ => .none
def spReqBX (CP CN CV : Addr) : Sp := fun vs H Q E => ∃ (u v y x : V) (du dv dy dx : PyData) (n : Nat), vs = [u, v, y, x] ∧ Sho n H u du ∧ Sho n H v dv ∧ Sho n H y dy ∧ Sho n H x dx ∧ okP du = true ∧ Sm2 dv ∧ Sm2 dy ∧ Sm2 dx ∧ Told CP CN CV H [u, v, y, x] E (∀ H', Same H H' → Q .non H') (verB du dv dy dx)
end
end Vb
end L2

set_option Elab.async false
set_option linter.all false
set_option maxRecDepth 100000
set_option maxHeartbeats 8000000
/-! Vb, k03: written data, laid. -/
namespace L2
namespace Vb
open PySem PySem.Spec PyProof.Rows

/-- the heap without one object -/
def msk (a : Addr) (H : Hp) : Hp := fun b => if b = a then none else H b
theorem msk_ne {a b : Addr} {H : Hp} (h : b ≠ a) : msk a H b = H b := if_neg h
theorem msk_le {a : Addr} {H : Hp} : Same (msk a H) H := fun b o e => by
  by_cases q : b = a
  · rw [msk, if_pos q] at e
    cases e
  · rw [msk_ne q] at e
    exact e
theorem msk_but {a : Addr} {H H' : Hp} (h : But a H H') : Same (msk a H) (msk a H') := fun b o e => by
  by_cases q : b = a
  · rw [msk, if_pos q] at e
    cases e
  · rw [msk_ne q] at e ⊢
    exact h b q o e
theorem msk_same {a : Addr} {H H' : Hp} (h : Same H H') : Same (msk a H) (msk a H') := msk_but (but_same h)
theorem msk_new {a p : Addr} {H : Hp} (ha : ∃ o, H a = some o) (hp : H p = none) : p ≠ a := fun e => by
  obtain ⟨o, ha⟩ := ha
  rw [e, ha] at hp
  cases hp
theorem msk_upd {a p : Addr} {H : Hp} {o : HO} (ha : ∃ o, H a = some o) (hp : H p = none) : msk a (upd H p o) p = some o := (msk_ne (msk_new ha hp)).trans upd_same
theorem some_up {a : Addr} {H H' : Hp} (h : ∃ o, H a = some o) (s : Same H H') : ∃ o, H' a = some o := h.elim fun o e => ⟨o, s _ _ e⟩
/-- the expression lays the data d (at most n deep), new things alone, nothing of it at a -/
def Lays (a : Addr) (te : TE) (n : Nat) (σ : St) (H0 : Hp) (d : PyData) : Prop := (∃ o, H0 a = some o) → ∀ (H : Hp) (Q : VK), Same H0 H → (∀ v H', Same H H' → Sho n (msk a H') v d → Q v H') → te σ H Q
def LaysA (a : Addr) (ta : TA) (n : Nat) (σ : St) (H0 : Hp) (ds : List PyData) : Prop := (∃ o, H0 a = some o) → ∀ (H : Hp) (Q : List V → Hp → Prop), Same H0 H → (∀ vs H', Same H H' → Paired (Sho n (msk a H')) vs ds → Q vs H') → ta σ H Q
theorem sh_same {n : Nat} {H H' : Hp} {vs : List V} {ds : List PyData} (h : Paired (Sho n H) vs ds) (s : Same H H') : Paired (Sho n H') vs ds := L2.Paired.mapP h fun _ _ z => z.up s
section
variable {a : Addr} {n : Nat} {σ : St} {H0 : Hp}
theorem Sho.flat {H : Hp} {v : V} {d : PyData} (f : Flat v d) : Sho n H v d := by
  cases n with
  | zero => exact f
  | succ n => exact .inl f
theorem lays_c {v : V} {d : PyData} (f : Flat v d) : Lays a (tC v) n σ H0 d := fun _ H Q s q => q v H same_rfl (Sho.flat f)
theorem lays_int (i : Int) : Lays a (tC (.int i)) n σ H0 (.int i) := lays_c (.inr (.inr (.inl ⟨i, rfl, rfl⟩)))
theorem lays_bl (b : Bool) : Lays a (tC (.bl b)) n σ H0 (.bool b) := lays_c (.inr (.inl ⟨b, rfl, rfl⟩))
theorem lays_non : Lays a (tC .non) n σ H0 .none := lays_c (.inl ⟨rfl, rfl⟩)
theorem lays_str (x : Str) : Lays a (tC (.str x)) n σ H0 (.str x) := lays_c (.inr (.inr (.inr ⟨x, rfl, rfl⟩)))
theorem lays_var {i : Nat} {v : V} {d : PyData} (e : σ[i]? = some (some v)) (f : Sho n (msk a H0) v d) : Lays a (tVar i) n σ H0 d := fun _ H Q s q => ⟨v, e, q v H same_rfl (f.up (msk_same s))⟩
theorem laysA_nil : LaysA a tNil n σ H0 [] := fun _ H Q s q => q [] H same_rfl .nil
theorem laysA_cons {te : TE} {ta : TA} {d : PyData} {ds : List PyData} (h : Lays a te n σ H0 d) (k : LaysA a ta n σ H0 ds) : LaysA a (tCons te ta) n σ H0 (d :: ds) := fun ha H Q s q =>
  h ha H _ s fun v H1 s1 e1 => k ha H1 _ (same_trans s s1) fun vs H2 s2 e2 => q (v :: vs) H2 (same_trans s1 s2) (.cons (e1.up (msk_same s2)) e2)
theorem lays_lst {ta : TA} {ds : List PyData} (h : LaysA a ta n σ H0 ds) (l : ds.length ≤ 1000) : Lays a (tLst ta) (n + 1) σ H0 (.list ds) := fun ha H Q s q =>
  h ha H _ s fun vs H1 s1 e1 => ⟨by rw [paired_len e1, sizeLine_eq]; omega, fun p hp => q _ _ (same_trans s1 (same_new hp)) (Sho.lst (msk_upd (some_up ha (same_trans s s1)) hp) (sh_same e1 (msk_same (same_new hp))))⟩
theorem lays_tup {ta : TA} {ds : List PyData} (h : LaysA a ta n σ H0 ds) (l : ds.length ≤ 1000) : Lays a (tTup ta) (n + 1) σ H0 (.tuple ds) := fun ha H Q s q =>
  h ha H _ s fun vs H1 s1 e1 => ⟨by rw [paired_len e1, sizeLine_eq]; omega, fun p hp => q _ _ (same_trans s1 (same_new hp)) (Sho.tup (msk_upd (some_up ha (same_trans s s1)) hp) (sh_same e1 (msk_same (same_new hp))))⟩
theorem lays_dct : Lays a tDNewK (n + 1) σ H0 (.dict []) := fun ha H Q s q p hp => q _ _ (same_new hp) (Sho.dct (msk_upd (some_up ha s) hp))
theorem paired_app {α β : Type} {R : α → β → Prop} : ∀ {xs ys : List α} {as bs : List β}, Paired R xs as → Paired R ys bs → Paired R (xs ++ ys) (as ++ bs)
  | _, _, _, _, .nil, k => k
  | _, _, _, _, .cons r t, k => .cons r (paired_app t k)
/-- a new list of such, its items as they were ahead of it -/
def LaysN (a : Addr) (te : TE) (n : Nat) (σ : St) (H0 : Hp) (ds : List PyData) : Prop := (∃ o, H0 a = some o) → ∀ (H : Hp) (Q : VK), Same H0 H → (∀ (H1 : Hp) (p : Addr) (vs : List V), Same H H1 → H1 p = none → Paired (Sho n (msk a H1)) vs ds → Q (.ref p) (upd H1 p (.lst vs))) → te σ H Q
theorem lays_catN {ta tb : TE} {xs ys : List PyData} (h : Lays a ta (n + 1) σ H0 (.list xs)) (k : Lays a tb (n + 1) σ H0 (.list ys)) (l : xs.length + ys.length ≤ 1000) : LaysN a (tOp rCat ta tb) n σ H0 (xs ++ ys) := fun ha H Q s q =>
  h ha H _ s fun v H1 s1 e1 => k ha H1 _ (same_trans s s1) fun w H2 s2 e2 => by
    have e1 := e1.up (msk_same s2)
    obtain ⟨m1, b, us, q1, rfl, hb, p1⟩ := e1.ofList
    obtain ⟨m2, c, ws, q2, rfl, hc, p2⟩ := e2.ofList
    cases q1
    cases q2
    exact ⟨b, c, us, ws, rfl, rfl, msk_le _ _ hb, msk_le _ _ hc, by rw [paired_len p1, paired_len p2, sizeLine_eq]; omega, fun p hp => q _ _ _ (same_trans s1 s2) hp (paired_app p1 p2)⟩
theorem lays_lstN {ta : TA} {ds : List PyData} (h : LaysA a ta n σ H0 ds) (l : ds.length ≤ 1000) : LaysN a (tLst ta) n σ H0 ds := fun ha H Q s q =>
  h ha H _ s fun vs H1 s1 e1 => ⟨by rw [paired_len e1, sizeLine_eq]; omega, fun p hp => q _ _ _ s1 hp e1⟩
theorem LaysN.all {te : TE} {ds : List PyData} (h : LaysN a te n σ H0 ds) : Lays a te (n + 1) σ H0 (.list ds) := fun ha H Q s q =>
  h ha H _ s fun H1 p vs s1 hp e1 => q _ _ (same_trans s1 (same_new hp)) (Sho.lst (msk_upd (some_up ha (same_trans s s1)) hp) (sh_same e1 (msk_same (same_new hp))))
theorem lays_cat {ta tb : TE} {xs ys : List PyData} (h : Lays a ta (n + 1) σ H0 (.list xs)) (k : Lays a tb (n + 1) σ H0 (.list ys)) (l : xs.length + ys.length ≤ 1000) : Lays a (tOp rCat ta tb) (n + 1) σ H0 (.list (xs ++ ys)) := (lays_catN h k l).all
theorem paired_take {α β : Type} {R : α → β → Prop} : ∀ (k : Nat) {xs : List α} {as : List β}, Paired R xs as → Paired R (xs.take k) (as.take k)
  | 0, _, _, _ => .nil
  | k + 1, _, _, .nil => .nil
  | k + 1, _, _, .cons r t => .cons r (paired_take k t)
theorem paired_drop {α β : Type} {R : α → β → Prop} : ∀ (k : Nat) {xs : List α} {as : List β}, Paired R xs as → Paired R (xs.drop k) (as.drop k)
  | 0, _, _, h => h
  | k + 1, _, _, .nil => .nil
  | k + 1, _, _, .cons r t => paired_drop k t
theorem lays_take {K : PySem.W.Frag} {te : TE} {th : TO} {ds : List PyData} {k : Nat} (h : Lays a te (n + 1) σ H0 (.list ds)) (hh : ∀ H R, R (some (k : Int)) H → th σ H R) {tl : TO} (hl : ∀ H R, R none H → tl σ H R) : Lays a (tSl (rSlL K) te tl th) (n + 1) σ H0 (.list (ds.take k)) := fun ha H Q s q =>
  h ha H _ s fun v H1 s1 e1 => hl _ _ (hh _ _ (by
    obtain ⟨m1, b, us, q1, rfl, hb, p1⟩ := e1.ofList
    cases q1
    refine ⟨b, us, rfl, SqL.of (msk_le _ _ hb), fun p hp => ?_⟩
    rw [cut_take]
    exact q _ _ (same_trans s1 (same_new hp)) (Sho.lst (msk_upd (some_up ha (same_trans s s1)) hp) (paired_take k (sh_same p1 (msk_same (same_new hp)))))))
theorem lays_drop {K : PySem.W.Frag} {te : TE} {th : TO} {ds : List PyData} {k : Nat} (h : Lays a te (n + 1) σ H0 (.list ds)) {tl : TO} (hl : ∀ H R, R (some (k : Int)) H → tl σ H R) (hh : ∀ H R, R none H → th σ H R) : Lays a (tSl (rSlL K) te tl th) (n + 1) σ H0 (.list (ds.drop k)) := fun ha H Q s q =>
  h ha H _ s fun v H1 s1 e1 => hl _ _ (hh _ _ (by
    obtain ⟨m1, b, us, q1, rfl, hb, p1⟩ := e1.ofList
    cases q1
    refine ⟨b, us, rfl, SqL.of (msk_le _ _ hb), fun p hp => ?_⟩
    rw [cut_drop]
    exact q _ _ (same_trans s1 (same_new hp)) (Sho.lst (msk_upd (some_up ha (same_trans s s1)) hp) (paired_drop k (sh_same p1 (msk_same (same_new hp)))))))
def rTupOf (K : PySem.W.Frag) : List V → Hp → VK → Prop := fun xs H Q => ∃ p ys, xs = [.ref p] ∧ ((SqL K H p ys ∧ ∀ l, H l = none → Q (.ref l) (upd H l (.tup ys))) ∨ (SqT K H p ys ∧ Q (.ref p) H))
theorem lays_tupOf {K : PySem.W.Frag} {te : TE} {ds : List PyData} (h : Lays a te (n + 1) σ H0 (.list ds)) : Lays a (tCB (rTupOf K) (tCons te tNil)) (n + 1) σ H0 (.tuple ds) := fun ha H Q s q =>
  h ha H _ s fun v H1 s1 e1 => by
    obtain ⟨m1, b, us, q1, rfl, hb, p1⟩ := e1.ofList
    cases q1
    exact ⟨b, us, rfl, .inl ⟨SqL.of (msk_le _ _ hb), fun p hp => q _ _ (same_trans s1 (same_new hp)) (Sho.tup (msk_upd (some_up ha (same_trans s s1)) hp) (sh_same p1 (msk_same (same_new hp))))⟩⟩
theorem lays_neg (i : Int) : Lays a (tUn (rU fun i => .int (-i)) (tC (.int i))) n σ H0 (.int (-i)) := fun _ H Q s q => ⟨i, rfl, q _ H same_rfl (Sho.int _)⟩
end
/-! ### data of few and short things -/
def okL : Nat → PyData → Bool
  | _, .none => true
  | _, .bool _ => true
  | _, .int i => decide (i.natAbs < 100000)
  | _, .str x => decide ((reprText x).length ≤ 2000)
  | _, .dict kvs => kvs.isEmpty
  | n + 1, .list ds => decide (ds.length ≤ 10) && ds.all (okL n)
  | n + 1, .tuple ds => decide (ds.length ≤ 10) && ds.all (okL n)
  | 0, .list _ => false
  | 0, .tuple _ => false
def capL : Nat → Nat
  | 0 => 2000
  | n + 1 => 10 * capL n + 23
theorem cap_ge : ∀ n, 2000 ≤ capL n
  | 0 => Nat.le_refl _
  | n + 1 => by
    have := cap_ge n
    show 2000 ≤ 10 * capL n + 23
    omega
theorem log_abs {x : Int} (h : x.natAbs < 100000) : x.natAbs.log2 < 17 := by
  by_cases z : x.natAbs = 0
  · rw [z]
    decide
  · exact (Nat.log2_lt z).mpr (by omega)
def GoodL (n : Nat) (d : PyData) : Prop := d.showable = true ∧ d.shown.length ≤ capL n ∧ d.depth ≤ n + 1
theorem goodL_all {n : Nat} : ∀ ds : List PyData, (∀ d ∈ ds, GoodL n d) → PyData.showableAll ds = true ∧ ((PyData.shownAll ds).map (·.length)).sum ≤ capL n * ds.length ∧ (PyData.shownAll ds).length = ds.length ∧ PyData.depthAll ds ≤ n + 1
  | [], _ => ⟨rfl, Nat.le_refl _, rfl, Nat.zero_le _⟩
  | d :: ds, h => by
    obtain ⟨i1, i2, i3, i4⟩ := goodL_all ds fun x m => h x (List.mem_cons_of_mem _ m)
    obtain ⟨a, b, c⟩ := h d List.mem_cons_self
    refine ⟨?_, ?_, congrArg (· + 1) i3, ?_⟩
    · show (PyData.showable d && PyData.showableAll ds) = true
      rw [a, i1]
      rfl
    · show d.shown.length + ((PyData.shownAll ds).map (·.length)).sum ≤ capL n * (ds.length + 1)
      rw [Nat.mul_succ]
      omega
    · rw [PyData.depthAll]
      exact Nat.max_le.mpr ⟨c, i4⟩
theorem goodL : ∀ (n : Nat) (d : PyData), okL n d = true → GoodL n d
  | n, .none, _ => ⟨rfl, Nat.le_trans (by decide +kernel) (cap_ge n), by rw [PyData.depth]; exact Nat.zero_le _⟩
  | n, .bool b, _ => ⟨rfl, Nat.le_trans (by cases b <;> decide +kernel) (cap_ge n), by rw [PyData.depth]; exact Nat.zero_le _⟩
  | n, .int i, h => by
    have h : i.natAbs < 100000 := by
      cases n <;> exact of_decide_eq_true h
    have l := log_abs h
    exact ⟨decide_eq_true (by omega), Nat.le_trans (int_text_len_1921 (by omega)) (Nat.le_trans (by decide) (cap_ge n)), by rw [PyData.depth]; exact Nat.zero_le _⟩
  | n, .str x, h => by
    have h : (reprText x).length ≤ 2000 := by
      cases n <;> exact of_decide_eq_true h
    exact ⟨rfl, Nat.le_trans h (cap_ge n), by rw [PyData.depth]; exact Nat.zero_le _⟩
  | n, .dict kvs, h => by
    have e : kvs = [] := by
      have h : kvs.isEmpty = true := by
        cases n <;> exact h
      exact List.isEmpty_iff.mp h
    subst e
    exact ⟨rfl, Nat.le_trans (by decide +kernel) (cap_ge n), by
      rw [PyData.depth]
      show 0 + 1 ≤ n + 1
      omega⟩
  | 0, .list _, h => by cases h
  | 0, .tuple _, h => by cases h
  | n + 1, .list ds, h => by
    obtain ⟨h1, h2⟩ := He.ba h
    have h1 := of_decide_eq_true h1
    obtain ⟨k1, k2, k3, k4⟩ := goodL_all ds fun d m => goodL n d (List.all_eq_true.mp h2 d m)
    refine ⟨k1, ?_, by rw [PyData.depth]; omega⟩
    show (listText (PyData.shownAll ds)).length ≤ 10 * capL n + 23
    have z := listText_len_le (PyData.shownAll ds)
    have z2 : capL n * ds.length ≤ capL n * 10 := Nat.mul_le_mul_left _ h1
    rw [k3] at z
    omega
  | n + 1, .tuple ds, h => by
    obtain ⟨h1, h2⟩ := He.ba h
    have h1 := of_decide_eq_true h1
    obtain ⟨k1, k2, k3, k4⟩ := goodL_all ds fun d m => goodL n d (List.all_eq_true.mp h2 d m)
    refine ⟨k1, ?_, by rw [PyData.depth]; omega⟩
    show (tupleText (PyData.shownAll ds)).length ≤ 10 * capL n + 23
    have z := tupleText_len_le (PyData.shownAll ds)
    have z2 : capL n * ds.length ≤ capL n * 10 := Nat.mul_le_mul_left _ h1
    rw [k3] at z
    omega
theorem ok_rep {d : PyData} (h : okL 3 d = true) : d.showable = true ∧ d.depth ≤ 30 ∧ d.shown.length ≤ sizeLine := by
  obtain ⟨a, b, c⟩ := goodL 3 d h
  refine ⟨a, by omega, ?_⟩
  rw [sizeLine_eq]
  have : capL 3 = 2002553 := by decide
  omega
theorem ok_sm1 {n : Nat} {d : PyData} (h : okL n d = true) : Sm1 d := fun ds e => by
  subst e
  cases n with
  | zero => cases h
  | succ n =>
    have := of_decide_eq_true (He.ba h).1
    omega
theorem ok_sm2 {n : Nat} {d : PyData} (h : okL n d = true) : Sm2 d := fun ds e => by
  subst e
  cases n with
  | zero => cases h
  | succ n =>
    obtain ⟨h1, h2⟩ := He.ba h
    have := of_decide_eq_true h1
    exact ⟨by omega, fun e m => ok_sm1 (List.all_eq_true.mp h2 e m)⟩
/-- an expression that lays data where C holds -/
def tDat (a : Addr) (C : St → Hp → Prop) (n : Nat) (d : PyData) : TE := fun σ H Q => C σ H ∧ (∃ o, H a = some o) ∧ ∀ v H', Same H H' → Sho n (msk a H') v d → Q v H'
theorem pe_dat {a : Addr} {X : Cx} {e : Expr} {te : TE} {C : St → Hp → Prop} {n : Nat} {d : PyData} (h : PE X e te) (L : ∀ σ H, C σ H → Lays a te n σ H d) : PE X e (tDat a C n d) := ⟨fun pins s σ H Q I k => h.run pins s σ H Q I (L σ H k.1 k.2.1 H Q same_rfl k.2.2)⟩
def tDatN (a : Addr) (C : St → Hp → Prop) (n : Nat) (ds : List PyData) : TE := fun σ H Q => C σ H ∧ (∃ o, H a = some o) ∧ ∀ (H1 : Hp) (p : Addr) (vs : List V), Same H H1 → H1 p = none → Paired (Sho n (msk a H1)) vs ds → Q (.ref p) (upd H1 p (.lst vs))
theorem pe_datN {a : Addr} {X : Cx} {e : Expr} {te : TE} {C : St → Hp → Prop} {n : Nat} {ds : List PyData} (h : PE X e te) (L : ∀ σ H, C σ H → LaysN a te n σ H ds) : PE X e (tDatN a C n ds) := ⟨fun pins s σ H Q I k => h.run pins s σ H Q I (L σ H k.1 k.2.1 H Q same_rfl k.2.2)⟩
theorem wipe_one {σ : St} {i : Nat} {v : Option V} : wipe ((wipe σ [i]).set i v) [i] = wipe σ [i] := by
  simp [wipe]
theorem var_one {σ : St} {i : Nat} {v : V} (h : i < σ.length) : ((wipe σ [i]).set i (some v))[i]? = some (some v) := by
  simp [wipe, h]
/-- no dict in it -/
def okN : Nat → PyData → Bool
  | _, .none => true
  | _, .bool _ => true
  | _, .int i => decide (i.natAbs < 100000)
  | _, .str x => PyData.canLay0 (.str x) && decide ((reprText x).length ≤ 2000)
  | _, .dict _ => false
  | n + 1, .list ds => decide (ds.length ≤ 10) && ds.all (okN n)
  | n + 1, .tuple ds => decide (ds.length ≤ 10) && ds.all (okN n)
  | 0, .list _ => false
  | 0, .tuple _ => false
theorem okN_lay_all {n : Nat} (ih : ∀ d, okN n d = true → PyData.canLay0 d = true) : ∀ ds : List PyData, ds.all (okN n) = true → PyData.canLayAll0 ds = true
  | [], _ => rfl
  | d :: ds, h => by
    obtain ⟨a, b⟩ := Bool.and_eq_true_iff.mp (show (okN n d && ds.all (okN n)) = true from h)
    rw [PyData.canLayAll0, ih d a, okN_lay_all ih ds b]
    rfl
theorem okN_lay : ∀ (n : Nat) (d : PyData), okN n d = true → PyData.canLay0 d = true
  | n, .none, _ => rfl
  | n, .bool _, _ => rfl
  | n, .int _, _ => rfl
  | n, .str x, h => by
    have h : (PyData.canLay0 (.str x) && decide ((reprText x).length ≤ 2000)) = true := by cases n <;> exact h
    exact (Bool.and_eq_true_iff.mp h).1
  | n, .dict _, h => by cases n <;> cases h
  | 0, .list _, h => by cases h
  | 0, .tuple _, h => by cases h
  | n + 1, .list ds, h => by
    obtain ⟨_, b⟩ := Bool.and_eq_true_iff.mp (show (decide (ds.length ≤ 10) && ds.all (okN n)) = true from h)
    rw [PyData.canLay0]
    exact okN_lay_all (okN_lay n) ds b
  | n + 1, .tuple ds, h => by
    obtain ⟨_, b⟩ := Bool.and_eq_true_iff.mp (show (decide (ds.length ≤ 10) && ds.all (okN n)) = true from h)
    rw [PyData.canLay0]
    exact okN_lay_all (okN_lay n) ds b
theorem okN_okL : ∀ (n : Nat) (d : PyData), okN n d = true → okL n d = true
  | n, .none, _ => by cases n <;> rfl
  | n, .bool _, _ => by cases n <;> rfl
  | n, .int _, h => by cases n <;> exact h
  | n, .str x, h => by
    have h : (PyData.canLay0 (.str x) && decide ((reprText x).length ≤ 2000)) = true := by cases n <;> exact h
    cases n <;> exact (Bool.and_eq_true_iff.mp h).2
  | n, .dict _, h => by cases n <;> cases h
  | 0, .list _, h => by cases h
  | 0, .tuple _, h => by cases h
  | n + 1, .list ds, h => by
    obtain ⟨a, b⟩ := Bool.and_eq_true_iff.mp (show (decide (ds.length ≤ 10) && ds.all (okN n)) = true from h)
    exact Bool.and_eq_true_iff.mpr ⟨a, List.all_eq_true.mpr fun x m => okN_okL n x (List.all_eq_true.mp b x m)⟩
  | n + 1, .tuple ds, h => by
    obtain ⟨a, b⟩ := Bool.and_eq_true_iff.mp (show (decide (ds.length ≤ 10) && ds.all (okN n)) = true from h)
    exact Bool.and_eq_true_iff.mpr ⟨a, List.all_eq_true.mpr fun x m => okN_okL n x (List.all_eq_true.mp b x m)⟩
theorem okN_shaped {n : Nat} {d : PyData} (h : okN n d = true) (l : n ≤ 60) : SeqAt.shaped d = true := by
  have g := (goodL n d (okN_okL n d h)).2.2
  unfold SeqAt.shaped
  exact Bool.and_eq_true_iff.mpr ⟨okN_lay n d h, decide_eq_true (by omega)⟩
theorem ints_okN {n : Nat} {xs : List Int} (h : ∀ x ∈ xs, 0 ≤ x ∧ x < 65537) : (xs.map PyData.int).all (okN n) = true := by
  rw [List.all_map]
  refine List.all_eq_true.mpr fun x m => ?_
  have := h x m
  have q : x.natAbs < 100000 := by omega
  cases n <;> exact decide_eq_true q
theorem row_okN {n : Nat} {xs : List Int} (h : ∀ x ∈ xs, 0 ≤ x ∧ x < 65537) (l : xs.length ≤ 10) : okN (n + 1) (rowP xs) = true := by
  show (decide ((xs.map PyData.int).length ≤ 10) && (xs.map PyData.int).all (okN n)) = true
  rw [List.length_map, decide_eq_true l, ints_okN h]
  rfl
theorem okL_succ : ∀ (n : Nat) (d : PyData), okL n d = true → okL (n + 1) d = true
  | n, .none, _ => rfl
  | n, .bool _, _ => rfl
  | n, .int _, h => by cases n <;> exact h
  | n, .str _, h => by cases n <;> exact h
  | n, .dict _, h => by cases n <;> exact h
  | 0, .list _, h => by cases h
  | 0, .tuple _, h => by cases h
  | n + 1, .list ds, h => by
    obtain ⟨a, b⟩ := Bool.and_eq_true_iff.mp (show (decide (ds.length ≤ 10) && ds.all (okL n)) = true from h)
    exact Bool.and_eq_true_iff.mpr ⟨a, List.all_eq_true.mpr fun x m => okL_succ n x (List.all_eq_true.mp b x m)⟩
  | n + 1, .tuple ds, h => by
    obtain ⟨a, b⟩ := Bool.and_eq_true_iff.mp (show (decide (ds.length ≤ 10) && ds.all (okL n)) = true from h)
    exact Bool.and_eq_true_iff.mpr ⟨a, List.all_eq_true.mpr fun x m => okL_succ n x (List.all_eq_true.mp b x m)⟩
theorem Sho.succ {H : Hp} : ∀ {n : Nat} {v : V} {d : PyData}, Sho n H v d → Sho (n + 1) H v d
  | 0, _, _, h => .inl h
  | n + 1, _, _, h => by
    rcases h with h | ⟨a, xs, ds, e1, e2, e3, h⟩ | ⟨a, xs, ds, e1, e2, e3, h⟩ | h
    · exact .inl h
    · exact .inr (.inl ⟨a, xs, ds, e1, e2, e3, L2.Paired.mapP h fun _ _ z => Sho.succ z⟩)
    · exact .inr (.inr (.inl ⟨a, xs, ds, e1, e2, e3, L2.Paired.mapP h fun _ _ z => Sho.succ z⟩))
    · exact .inr (.inr (.inr h))
/-- the same, with what is known given where it is read -/
def tDatI {ι : Type} (a : Addr) (C : ι → St → Hp → Prop) (n : Nat) (d : ι → PyData) : TE := fun σ H Q => ∃ i, C i σ H ∧ (∃ o, H a = some o) ∧ ∀ v H', Same H H' → Sho n (msk a H') v (d i) → Q v H'
theorem pe_datI {ι : Type} {a : Addr} {X : Cx} {e : Expr} {te : TE} {C : ι → St → Hp → Prop} {n : Nat} {d : ι → PyData} (h : PE X e te) (L : ∀ i σ H, C i σ H → Lays a te n σ H (d i)) : PE X e (tDatI a C n d) := ⟨fun pins s σ H Q I k => by
  obtain ⟨i, c, o, q⟩ := k
  exact h.run pins s σ H Q I (L i σ H c o H Q same_rfl q)⟩
end Vb
end L2

set_option Elab.async false
set_option linter.all false
set_option maxRecDepth 100000
set_option maxHeartbeats 8000000
/-! Vb, k30: what the law takes for right. -/
namespace L2
namespace Vb
open PySem PySem.Spec PyProof.Rows
/-- a row as data, and back -/
def rwD (r : StA.R) : PyData := .tuple [.str (wordS r.w), .int (r.h : Int), .int r.n]
def w6 (x : Str) : StA.W6 := if x = "set" then .set else if x = "copy" then .copy else if x = "times" then .times else if x = "more" then .more else if x = "add" then .add else .take
def rowOf : PyData → StA.R
  | .tuple [.str x, .int h, .int n] => ⟨w6 x, h.toNat, n⟩
  | _ => ⟨.set, 0, 0⟩
theorem w6_word : ∀ w : StA.W6, w6 (wordS w) = w := by
  intro w
  cases w <;> decide +kernel
theorem word_w6 : ∀ x, x ∈ wordsL → wordS (w6 x) = x := by decide +kernel
theorem bound_w6 (p : Int) (cells : Nat) (w : StA.W6) : boundZ p cells (wordS w) = (match w with
  | .set => p
  | .times => p
  | .more => p
  | .copy => 2
  | .add => 2
  | .take => (cells : Int)) := by
  cases w <;> rfl
theorem numD_of {q : Int} {d : PyData} (h : numD q d = true) : ∃ i, d = .int i ∧ 0 ≤ i ∧ i < q := by
  cases d with
  | int i =>
    obtain ⟨a0, a1⟩ := Bool.and_eq_true_iff.mp (show (decide (0 ≤ i) && decide (i < q)) = true from h)
    exact ⟨i, rfl, of_decide_eq_true a0, of_decide_eq_true a1⟩
  | _ => cases h
theorem rowB_parts {p : Int} {cells : Nat} {d : PyData} (h : rowB p cells d = true) : ∃ x a b, d = .tuple [.str x, .int a, .int b] ∧ x ∈ wordsL ∧ 0 ≤ a ∧ a < 2 ∧ 0 ≤ b ∧ b < boundZ p cells x := by
  unfold rowB at h
  split at h
  · split at h
    · obtain ⟨h1, h2⟩ := Bool.and_eq_true_iff.mp h
      obtain ⟨h2, h3⟩ := Bool.and_eq_true_iff.mp h2
      obtain ⟨a, rfl, a0, a1⟩ := numD_of h2
      obtain ⟨b, rfl, b0, b1⟩ := numD_of h3
      exact ⟨_, a, b, rfl, of_decide_eq_true h1, a0, a1, b0, b1⟩
    · cases h
  · cases h
theorem rowB_iff {p : Int} {cells : Nat} {d : PyData} (h : rowB p cells d = true) : d = rwD (rowOf d) ∧ StA.fits p cells (rowOf d) := by
  obtain ⟨x, a, b, rfl, h1, a0, a1, b0, b1⟩ := rowB_parts h
  have e := word_w6 x h1
  refine ⟨?_, ?_, b0, ?_⟩
  · show PyData.tuple [.str x, .int a, .int b] = .tuple [.str (wordS (w6 x)), .int ((a.toNat : Nat) : Int), .int b]
    rw [e, Int.toNat_of_nonneg a0]
  · show a.toNat < 2
    omega
  · show b < (match w6 x with
      | .set => p
      | .times => p
      | .more => p
      | .copy => 2
      | .add => 2
      | .take => (cells : Int))
    rw [← bound_w6 p cells (w6 x), e]
    exact b1
theorem rowB_row {p : Int} {cells : Nat} {r : StA.R} (h : StA.fits p cells r) : rowB p cells (rwD r) = true := by
  obtain ⟨w, hh, n⟩ := r
  obtain ⟨h2, n0, n1⟩ := h
  have h2 : hh < 2 := h2
  have n0 : 0 ≤ n := n0
  show (decide (wordS w ∈ wordsL) && ((decide (0 ≤ (hh : Int)) && decide ((hh : Int) < 2)) && (decide (0 ≤ n) && decide (n < boundZ p cells (wordS w))))) = true
  have m : wordS w ∈ wordsL := by cases w <;> decide +kernel
  have n1 : n < boundZ p cells (wordS w) := by
    rw [bound_w6]
    exact n1
  rw [decide_eq_true m, decide_eq_true n0, decide_eq_true n1, decide_eq_true (by omega : (0 : Int) ≤ (hh : Int)), decide_eq_true (by omega : (hh : Int) < 2)]
  rfl
theorem rowOf_row (r : StA.R) : rowOf (rwD r) = r := by
  obtain ⟨w, h, n⟩ := r
  show (⟨w6 (wordS w), (h : Int).toNat, n⟩ : StA.R) = ⟨w, h, n⟩
  rw [w6_word, Int.toNat_natCast]
/-- the rows that are no rows of plain boxes -/
def oddRows : List PyData := [.tuple [.str "print", .int 0], .tuple [.str "read", .int 0], .tuple [.str "keep", .int 0, .int 0], .tuple [.str "fetch", .int 0, .int 0], .tuple [.str "go", .int 1], .tuple [.str "end"], .tuple [.str "store", .int 0, .int 0], .tuple [.str "mark", .str "m", .list [.tuple [.str "s"]]], .tuple [.str "back"], .tuple [.str "pick", .list [.int 1, .int 1]]]
def smallD : PyData → Bool
  | .int i => decide (i.natAbs < 100000)
  | .bool _ => true
  | _ => false
/-- what stands in the lists that are handed in -/
inductive RowOk : PyData → Prop
  | non : RowOk .none
  | lst {x : Str} {a b : PyData} (h : x ∈ wordsL) (ha : smallD a = true) (hb : smallD b = true) : RowOk (.list [.str x, a, b])
  | row {x : Str} {a b : PyData} (h : x ∈ wordsL) (ha : smallD a = true) (hb : smallD b = true) : RowOk (.tuple [.str x, a, b])
  | odd {d : PyData} (h : d ∈ oddRows) : RowOk d
theorem small_okN {n : Nat} {d : PyData} (h : smallD d = true) : okN n d = true := by
  cases d with
  | int i => cases n <;> exact h
  | bool b => cases n <;> rfl
  | _ => cases h
theorem word_okN : ∀ x, x ∈ wordsL → okN 0 (.str x) = true := by decide +kernel
theorem rowOk_okN {d : PyData} (h : RowOk d) : okN 3 d = true := by
  cases h with
  | non => rfl
  | @lst x a b h ha hb =>
    have e : okN 2 (.str x) = true := word_okN x h
    show (decide (3 ≤ 10) && (okN 2 (.str x) && (okN 2 a && (okN 2 b && true)))) = true
    rw [e, small_okN ha, small_okN hb]
    rfl
  | @row x a b h ha hb =>
    have e : okN 2 (.str x) = true := word_okN x h
    show (decide (3 ≤ 10) && (okN 2 (.str x) && (okN 2 a && (okN 2 b && true)))) = true
    rw [e, small_okN ha, small_okN hb]
    rfl
  | odd h => exact (by decide +kernel : ∀ d, d ∈ oddRows → Vb.okN 3 d = true) d h
def oddB : PyData → Bool
  | .tuple (.str x :: ds) => decide (ds.length ≤ 2) && !decide (x ∈ wordsL)
  | _ => false
theorem odd_row : ∀ d, d ∈ oddRows → oddB d = true := by decide +kernel
theorem oddB_of {d : PyData} (h : oddB d = true) : ∃ x ds, d = .tuple (.str x :: ds) ∧ ds.length ≤ 2 ∧ x ∉ wordsL := by
  unfold oddB at h
  split at h
  · obtain ⟨a, b⟩ := Bool.and_eq_true_iff.mp h
    refine ⟨_, _, rfl, of_decide_eq_true a, fun m => ?_⟩
    rw [decide_eq_true m] at b
    cases b
  · cases h
theorem RowOk.tup {ds : List PyData} (h : RowOk (.tuple ds)) : ds.length ≤ 3 ∧ ∃ x r, ds = .str x :: r := by
  generalize e : PyData.tuple ds = d at h
  cases h with
  | non => cases e
  | lst => cases e
  | @row x a b h ha hb =>
    cases e
    exact ⟨Nat.le_refl _, x, _, rfl⟩
  | odd h =>
    obtain ⟨x, r, e2, l, _⟩ := oddB_of (odd_row _ h)
    rw [e2] at e
    cases e
    exact ⟨by rw [List.length_cons]; omega, x, r, rfl⟩
/-- what is handed in -/
def ValOk (d : PyData) : Prop := (∃ ds : List PyData, (d = .list ds ∨ d = .tuple ds) ∧ ds.length ≤ 20 ∧ ∀ e ∈ ds, RowOk e) ∨ d = .none ∨ d = .int 5 ∨ d = .dict []
def numsA (cells : Nat) (a : Int) : List Int := (List.range (cells + 2)).map fun k : Nat => if ((k : Nat) : Int) = a then (1 : Int) else 0
def dueA (cells : Nat) (W : SumZ) (a : Int) : Int := facZ W "" + (if 0 ≤ a ∧ a < (cells : Int) then facZ W (cellS a.toNat) else 0)
def dueN (p : Int) (cells : Nat) (W : SumZ) (rs : List StA.R) (k : Nat) : Bool := decide ((endP p cells rs (numsA cells (-1 + (k : Int)))).1 = dueA cells W (-1 + (k : Int)) % p)
def dueB (p : Int) (cells : Nat) (W : SumZ) : PyData → Bool
  | .list ds => ds.all (rowB p cells) && (List.range (cells + 3)).all (dueN p cells W (ds.map rowOf))
  | _ => false
theorem boot_intT : bootBuiltins ("int" : Str) = some (.type "int") := by decide +kernel
abbrev rInt1 : List V → Hp → VK → Prop := fun xs H Q => (∃ i, xs = [.int i] ∧ Q (.int i) H) ∨ ∃ k, xs = [.bl k] ∧ Q (.int (if k then 1 else 0)) H
theorem cell_text (c : Nat) : ("@0." : Str) ++ (toString ((c : Nat) : Int) : Str) = cellS c := by
  have e : (((Str.empty ++ ("@" : Str)) ++ (toString (0 : Int) : Str)) ++ ("." : Str)) = "@0." := by decide +kernel
  unfold cellS
  rw [e]
/-- a new list of given things -/
def GrowV (H : Hp) (D : Addr) (xs : List V) (k : Nat) (H' : Hp) : Prop := Same H H' ∧ H' D = some (.lst (xs.take k))
theorem paired_filter {α β : Type} {R : α → β → Prop} (f : β → Bool) : ∀ {xs : List α} {ds : List β}, Paired R xs ds → ∃ ys : List α, Paired R ys (ds.filter f)
  | _, _, .nil => ⟨[], .nil⟩
  | _, _, .cons (b := d) r t => by
    obtain ⟨ys, h⟩ := paired_filter f t
    cases e : f d with
    | true =>
      rw [List.filter_cons_of_pos e]
      exact ⟨_, .cons r h⟩
    | false =>
      rw [List.filter_cons_of_neg (by rw [e]; decide)]
      exact ⟨ys, h⟩
def spDue : Sp := fun vs H Q _ => ∃ (p : Int) (cells : Nat) (a : Addr) (W : SumZ) (v : V) (d : PyData) (k : Nat), vs = [.int p, .int (cells : Int), .ref a, v] ∧ 2 ≤ p ∧ p ≤ 65537 ∧ cells ≤ 8 ∧ Dct H a W ∧ Sho k H v d ∧ ValOk d ∧ ∀ H', Same H H' → Q (.bl (dueB p cells W d)) H'
theorem shaped_lay {d : PyData} (h : SeqAt.shaped d = true) : d.canLay0 = true := (Bool.and_eq_true_iff.mp (show (PyData.canLay0 d && decide (PyData.depth d ≤ 64)) = true from h)).1
theorem shaped_list {ds : List PyData} (h : ∀ e ∈ ds, okN 3 e = true) : SeqAt.shaped (.list ds) = true := by
  have g := goodL_all (n := 3) ds fun e m => goodL 3 e (okN_okL 3 e (h e m))
  unfold SeqAt.shaped
  refine Bool.and_eq_true_iff.mpr ⟨?_, decide_eq_true ?_⟩
  · rw [PyData.canLay0]
    exact okN_lay_all (okN_lay 3) ds (List.all_eq_true.mpr h)
  · rw [PyData.depth]
    have := g.2.2.2
    omega
theorem ne_nil {K : PySem.W.Frag} {m : Nat} {H : Hp} {D e : Addr} {ys : List V} {fs : List PyData} {Q : VK} (hD : H D = some (.lst ys)) (ps : Paired (Sho m H) ys fs) (he : H e = some (.lst [])) (ok : ∀ e ∈ fs, okN 3 e = true) (q : Q (.bl (!fs.isEmpty)) H) : rNeD K (.ref D) (.ref e) H Q := by
  have s1 := shaped_list ok
  refine ⟨.list fs, .list [], shoDp (n := m + 1) _ _ (Sho.lst hD ps) (shaped_lay s1), shoDp (n := m + 1) _ _ (Sho.lst he .nil) rfl, s1, rfl, ?_⟩
  cases fs with
  | nil => exact q
  | cons x xs => exact q
theorem all_filter {α : Type} (f : α → Bool) : ∀ xs : List α, (xs.filter fun x => !f x).isEmpty = xs.all f
  | [] => rfl
  | x :: xs => by
    rw [List.all_cons, ← all_filter f xs]
    cases e : f x with
    | true => rw [List.filter_cons_of_neg (by rw [e]; decide), Bool.true_and]
    | false =>
      rw [List.filter_cons_of_pos (by rw [e]; decide), Bool.false_and]
      rfl
theorem rows_of {p : Int} {cells m : Nat} {H : Hp} : ∀ {xs : List V} {ds : List PyData}, Paired (Sho m H) xs ds → ds.all (rowB p cells) = true → ∃ ts : List Addr, xs = ts.map V.ref ∧ RowsT H p cells ts (ds.map rowOf)
  | _, _, .nil, _ => ⟨[], rfl, .nil⟩
  | _, _, .cons (b := d) r t, h => by
    rw [List.all_cons] at h
    obtain ⟨h1, h2⟩ := Bool.and_eq_true_iff.mp h
    obtain ⟨ts, rfl, rs⟩ := rows_of t h2
    obtain ⟨e, fit⟩ := rowB_iff h1
    rw [e] at r
    obtain ⟨m2, b, ys, _, rfl, hb, ps⟩ := r.ofTuple
    refine ⟨b :: ts, rfl, .cons ⟨?_, fit⟩ rs⟩
    cases ps with
    | cons h1 ps =>
      cases ps with
      | cons h2 ps =>
        cases ps with
        | cons h3 ps =>
          cases ps
          obtain rfl := h1.ofStr
          obtain rfl := h2.ofInt
          obtain rfl := h3.ofInt
          exact hb
theorem nums_at {cells k : Nat} {a : Int} (h : k < cells + 2) : (numsA cells a)[k]? = some (if (k : Int) = a then 1 else 0) := by
  unfold numsA
  rw [List.getElem?_map, List.getElem?_range h]
  rfl
theorem nums_len {cells : Nat} {a : Int} : (numsA cells a).length = cells + 2 := by
  unfold numsA
  rw [List.length_map, List.length_range]
abbrev sDue : Stmt := topS 61
abbrev nDue : List Str := ["_law_prime_here", "_law_cells", "_law_wanted", "_law_value", "_law_at", "_law_numbers", "_law_due_here", "_law_row", "_law_place"]
theorem scDue : FnScope nDue ["_law_prime_here", "_law_cells", "_law_wanted", "_law_value"] (defScope sDue) := ⟨rfl, rfl, rfl, by decide +kernel, rfl, by decide +kernel, by decide +kernel⟩
-- cells {'_law_prime_here', '_law_at', '_law_cells'}
section
variable {P : Program} {w : World} {K : PySem.W.Frag} {mg : Str → Option Value} {base : Heap}
theorem ok_due {f fLis_row fLended : Addr} {fd fdLis_row fdLended : FuncData} (F : Fun K "_law_due" "_law_due" sDue f fd)
    (FLis_row : Fun K "_law_is_row" "_law_is_row" sRowL fLis_row fdLis_row) (GLis_row : FnOk P w K mg base CX0 2 fLis_row fdLis_row ["_law_prime_here", "_law_cells", "_law_row"] spRowL) (gLis_row : mg "_law_is_row" = some (.ref fLis_row))
    (FLended : Fun K "_law_ended" "_law_ended" sEnd fLended fdLended) (GLended : FnOk P w K mg base CX0 1 fLended fdLended ["_law_prime_here", "_law_cells", "_law_rows", "_law_numbers"] spEnd) (gLended : mg "_law_ended" = some (.ref fLended)) (gInt : mg "int" = none) (gStr : mg "str" = none) (gIsinstance : mg "isinstance" = none) (gList : mg "list" = none) (gRange : mg "range" = none) :
    FnOk P w K mg base CX0 3 f fd ["_law_prime_here", "_law_cells", "_law_wanted", "_law_value"] spDue := by
  have bLis_row : Binds K fdLis_row ["_law_prime_here", "_law_cells", "_law_row"] [] := FLis_row.binds fun _ _ _ _ _ _ us hl => match us, hl with | [_, _, _], _ => rfl
  have bLended : Binds K fdLended ["_law_prime_here", "_law_cells", "_law_rows", "_law_numbers"] [] := FLended.binds fun _ _ _ _ _ _ us hl => match us, hl with | [_, _, _, _], _ => rfl
  refine F.ok scDue (fun vs H Q E h => ?_) (fun cdv A outer s0 H vs Q E hr h => ?_)
  · obtain ⟨p, cells, a, W, v, d, k, rfl, _⟩ := h
    rfl
  · obtain ⟨p, cells, a, W, v, d, k, rfl, p2, p6, c8, ha, sh, okd, want⟩ := h
    refine ⟨_, (pss_cons (ps_if (PW.pt (pw_or (pt_not (pt_val (pe_callB call_isi (by rfl) gIsinstance boot_isinstance (pa_cons (pv 3) (pa_cons (pe_bltn rfl gList boot_list rel_list) pa_nil))))) (pw_or1 (pt_cmpR (op_neD hr.units) (pe_lc (own := [("_law_row", 7)]) (g := (gName 7)) (tt := tNot (tB (tCall spRowL [] E0 (tCons (tVar 0) (tCons (tVar 1) (tCons (tVar 7) tNil)))))) (te := tVar 7) rfl scDue.nd (pi_list (pv 3)) (blkOk_by (N := nDue) (sc := defScope sDue) (by decide +kernel)) (fun _ _ _ _ _ => pg_name (i := 7) scDue.nd rfl (Or.inl rfl)) (fun _ _ _ _ _ => (pts_one (pt_not (pt_val (pe_call GLis_row (hr.mono (by decide)) rfl gLis_row FLis_row.kp bLis_row .nil pass0 (pa_cons (pv 0) (pa_cons (pv 1) (pa_cons (pv 7) pa_nil)))))))) (fun _ _ _ _ _ => (pv 7))) (pe_lst pa_nil) (nomark _)))))
        (pss_one (ps_ret pe_bl))
        pss_nil)
      (pss_cons (ps_for PassesOwn.never rfl (pi_range2 rfl gRange (pa_cons (pe_un un_neg pe_int) (pa_cons (pe_op op_add (pv 1) pe_int) pa_nil))) (pg_name (i := 4) scDue.nd rfl (Or.inr rfl))
        (pss_cons (ps_setLc (i := 5) (own := [("_law_place", 8)]) (g := (gName 8)) (te := tCB rInt1 (tCons (tOp rEq (tVar 8) (tVar 4)) tNil)) (tt := tYes) rfl scDue.nd rfl rfl (sw_true rfl rfl rfl (by decide +kernel)) (pi_range1 rfl gRange (pa_cons (pe_op op_add (pv 1) pe_int) pa_nil)) (blkOk_by (N := nDue) (sc := defScope sDue) (by decide +kernel)) (fun _ _ _ _ _ => pg_name (i := 8) scDue.nd rfl (Or.inl rfl)) (fun _ _ _ _ _ => pts_nil) (fun _ _ _ _ _ => (pe_callTy call_int1 (by rfl) gInt boot_intT (pa_cons (pe_cmpR op_eq (pv 8) (pv 4) (nomark _)) pa_nil))))
          (pss_cons (ps_set (i := 6) scDue.nd rfl (Or.inl rfl) (pe_op op_add (pe_dget2 (hu_of hr) (pv 2) pe_str pe_int ⟨rfl, rfl, rfl, rfl⟩) (pe_ifExp (pt_chain op_le op_lt pe_int (pv 4) (pv 1)) (pe_dget2 (hu_of hr) (pv 2) (pe_op op_add_str pe_str (pe_callTy call_str_int (by rfl) gStr boot_strT (pa_cons (pv 4) pa_nil))) pe_int ⟨rfl, rfl, rfl, rfl⟩) pe_int)))
          (pss_one (ps_if (pt_cmpR op_ne (pe_call GLended (hr.mono (by decide)) rfl gLended FLended.kp bLended .nil pass0 (pa_cons (pv 0) (pa_cons (pv 1) (pa_cons (pv 3) (pa_cons (pv 5) pa_nil))))) (pe_op op_mod (pv 6) (pv 0)) (nomark _))
            (pss_one (ps_ret pe_bl))
            pss_nil)))))
      (pss_one (ps_ret pe_bl)))), ?_⟩
    refine ⟨_, rfl, v, _, _, _, _, rfl, ClsV.ty _, sho_tyx sh, kit_ty (kit_list d), _, rfl, ?_⟩
    rcases okd with ⟨ds, rfl | rfl, l20, okr⟩ | rfl | rfl | rfl
    rotate_left
    · exact iteT (iteT (want _ same_rfl))
    · exact iteT (iteT (want _ same_rfl))
    · exact iteT (iteT (want _ same_rfl))
    · exact iteT (iteT (want _ same_rfl))
    obtain ⟨m, b, xs, rfl, rfl, hb, ps⟩ := sh.ofList
    have lx := paired_len ps
    refine iteF ?_
    refine ⟨_, rfl, b, rfl, ⟨xs, SqL.of hb⟩, fun D hD => ?_⟩
    refine lc_list (xs := xs) (fun k H' => Same H H' ∧ ∃ ys, H' D = some (.lst ys) ∧ ys.length ≤ k ∧ Paired (Sho m H) ys ((ds.take k).filter fun e => !rowB p cells e)) ⟨same_new hD, [], upd_same, Nat.le_refl _, .nil⟩ (fun i H' _ z => SqL.of (z.1 _ _ hb)) ?_ ?_
    · rintro i x H1 hx ⟨s1, ys, hy, ly, py⟩
      obtain ⟨e, he, se⟩ := paired_at ps hx
      have me := List.mem_of_getElem? he
      have li := (List.getElem?_eq_some_iff.mp he).1
      have et : (ds.take (i + 1)).filter (fun e => !rowB p cells e) = (ds.take i).filter (fun e => !rowB p cells e) ++ (if rowB p cells e = true then [] else [e]) := by
        rw [List.take_add_one, he, List.filter_append]
        congr 1
        show [e].filter _ = _
        cases eb : rowB p cells e with
        | true => rw [List.filter_cons_of_neg (by rw [eb]; decide), if_pos rfl]; rfl
        | false => rw [List.filter_cons_of_pos (by rw [eb]; decide), if_neg (by decide)]; rfl
      refine ⟨rfl, _, rfl, _, rfl, _, rfl, p, cells, x, e, m, rfl, se.up s1, fun ts ets => ?_, fun H2 s2 => ⟨_, rfl, ?_⟩⟩
      · subst ets
        obtain ⟨q1, q2⟩ := (okr _ me).tup
        exact ⟨by omega, fun _ => q2⟩
      · cases eb : rowB p cells e with
        | true =>
          rw [eb, if_pos rfl, List.append_nil] at et
          refine iteF ⟨same_trans s1 s2, ys, s2 _ _ hy, by omega, ?_⟩
          rw [et]
          exact py
        | false =>
          rw [eb, if_neg (by decide)] at et
          refine iteT ⟨_, rfl, ys, s2 _ _ hy, by rw [sizeLine_eq]; omega, same_set (same_trans s1 s2) hD, _, upd_same, by rw [List.length_append, List.length_singleton]; omega, ?_⟩
          rw [et]
          exact paired_app py (.cons se .nil)
    rintro H1 ⟨s1, ys, hy, ly, py⟩
    rw [List.take_of_length_le (by omega)] at py
    refine ⟨Nat.zero_le _, fun e he => ?_⟩
    have s2 := same_new (o := .lst []) he
    refine ne_nil (m := m) (s2 _ _ hy) (L2.Paired.mapP py fun _ _ z => z.up (same_trans s1 s2)) upd_same (fun e me => rowOk_okN (okr e (List.mem_filter.mp me).1)) ?_
    rw [all_filter]
    cases al : ds.all (rowB p cells) with
    | false =>
      have z : dueB p cells W (.list ds) = false := by
        show (ds.all (rowB p cells) && _) = false
        rw [al]
        rfl
      refine ⟨_, rfl, iteT ?_⟩
      rw [← z]
      exact want _ (same_trans s1 s2)
    | true =>
    refine ⟨_, rfl, iteF ?_⟩
    obtain ⟨ts, rfl, hR⟩ := rows_of ps al
    have s12 := same_trans s1 s2
    generalize upd H1 e (.lst []) = H2 at s12
    have z : dueB p cells W (.list ds) = (List.range (cells + 3)).all (dueN p cells W (ds.map rowOf)) := by
      show (ds.all (rowB p cells) && _) = _
      rw [al]
      rfl
    rw [z] at want
    refine ⟨_, rfl, _, rfl, _, _, rfl, rfl, -1, (cells : Int) + 2, rfl, ⟨by omega, by omega, by omega, by omega⟩, ?_⟩
    have en : ((cells : Int) + 2 - -1).toNat = cells + 3 := by omega
    rw [en]
    refine for_range (lo := -1) (n := cells + 3) (fun k σ H' => Same H H' ∧ (∃ u4 u5 u6 : Option V, σ = [some (.int p), some (.int (cells : Int)), some (.ref a), some (.ref b), u4, u5, u6, none, none]) ∧ ∀ j, j < k → dueN p cells W (ds.map rowOf) j = true) ⟨s12, ⟨_, _, _, rfl⟩, fun j hj => absurd hj (Nat.not_lt_zero _)⟩ ?_ ?_
    · rintro k σ H3 hk ⟨s3, ⟨u4, u5, u6, rfl⟩, al3⟩
      refine ⟨_, rfl, _, _, rfl, rfl, (cells : Int) + 2, rfl, by omega, by omega, fun D2 hD2 => ?_⟩
      have eL : ((cells : Int) + 2).toNat = cells + 2 := by omega
      rw [eL]
      refine lc_range (lo := 0) (n := cells + 2) (fun j H' => GrowI H3 D2 (numsA cells (-1 + (k : Int))) j H') (GrowI.start hD2) ?_ ?_
      · intro j H4 hj g
        have hx := nums_at (a := -1 + (k : Int)) hj
        refine ⟨rfl, tyes ⟨_, rfl, _, rfl, rfl, .inr ⟨_, rfl, ?_⟩⟩⟩
        have ex : (if decide (V.int (0 + (j : Int)) = V.int (-1 + (k : Int))) = true then (1 : Int) else 0) = (if (j : Int) = -1 + (k : Int) then 1 else 0) := by
          rw [Int.zero_add]
          by_cases q : (j : Int) = -1 + (k : Int)
          · rw [if_pos q, if_pos (decide_eq_true (congrArg V.int q))]
          · rw [if_neg q, if_neg (fun h => q (V.int.inj (of_decide_eq_true h)))]
        rw [ex]
        obtain ⟨acc, h1, h2, h3⟩ := GrowI.step hD2 g same_rfl hx
        exact ⟨acc, h1, by rw [sizeLine_eq]; omega, h3⟩
      · intro H4 g
        obtain ⟨s4, h4⟩ := g.done (by rw [nums_len]; exact Nat.le_refl _)
        have s34 := same_trans s3 s4
        have hd4 : H4 a = some (.dK (kvsZ W)) := s34 _ _ ha
        refine ⟨_, rfl, a, rfl, .inl ⟨_, .inl hd4⟩, _, DGet.k (k := Sum.inr "") hd4, ?_⟩
        rw [get_fac]
        have endT : ∀ (x : V) {H5 : Hp}, Same H4 H5 → (if (!decide (V.int (endP p cells (ds.map rowOf) (numsA cells (-1 + (k : Int)))).1 = V.int (dueA cells W (-1 + (k : Int)) % p))) = true then Q (.bl false) H5 else (Same H H5 ∧ (∃ u4 u5 u6 : Option V, [some (V.int p), some (.int (cells : Int)), some (.ref a), some (.ref b), some (.int (-1 + (k : Int))), some (.ref D2), some x, none, none] = [some (.int p), some (.int (cells : Int)), some (.ref a), some (.ref b), u4, u5, u6, none, none]) ∧ ∀ j, j < k + 1 → dueN p cells W (ds.map rowOf) j = true)) := by
          intro x H5 s5
          have s35 := same_trans s34 s5
          by_cases eq : (endP p cells (ds.map rowOf) (numsA cells (-1 + (k : Int)))).1 = dueA cells W (-1 + (k : Int)) % p
          · refine ifF2 (by rw [decide_eq_true (congrArg V.int eq)]; rfl) ⟨s35, ⟨_, _, _, rfl⟩, fun j hj => ?_⟩
            rcases Nat.lt_or_ge j k with lt | ge
            · exact al3 j lt
            · obtain rfl : j = k := by omega
              exact decide_eq_true eq
          · refine ifT2 (by rw [decide_eq_false (fun h => eq (V.int.inj h))]; rfl) ?_
            have zf : (List.range (cells + 3)).all (dueN p cells W (ds.map rowOf)) = false := List.all_eq_false.mpr ⟨k, List.mem_range.mpr hk, by
              show ¬ decide _ = true
              rw [decide_eq_false eq]
              decide⟩
            rw [zf] at want
            exact want _ s35
        refine ⟨_, rfl, _, _, rfl, rfl, _, rfl, ?_⟩
        by_cases q0 : (0 : Int) ≤ -1 + (k : Int)
        · refine ifT2 (decide_eq_true q0) ⟨_, rfl, _, _, rfl, rfl, _, rfl, ?_⟩
          by_cases q1 : -1 + (k : Int) < (cells : Int)
          · have ec : -1 + (k : Int) = (((-1 + (k : Int)).toNat : Nat) : Int) := (Int.toNat_of_nonneg q0).symm
            have et : ("@0." : Str) ++ (toString (-1 + (k : Int)) : Str) = cellS (-1 + (k : Int)).toNat := by
              rw [ec, Int.toNat_natCast]
              exact cell_text _
            have lt := cell_len (-1 + (k : Int)).toNat (by omega)
            refine ifT2 (decide_eq_true q1) ⟨_, rfl, a, rfl, .inl ⟨_, .inl hd4⟩, _, rfl, _, rfl, ?_, _, _, rfl, rfl, ?_, ?_⟩
            · have : (-1 + (k : Int)).natAbs.log2 < 4 := by
                by_cases z : (-1 + (k : Int)).natAbs = 0
                · rw [z]
                  decide
                · exact (Nat.log2_lt z).mpr (by omega)
              omega
            · have z : (("@0." : Str) ++ (toString (-1 + (k : Int)) : Str)).length ≤ sizeLine := by
                rw [et, sizeLine_eq]
                omega
              have z2 : (("@0." : Str) ++ (toString (-1 + (k : Int)) : Str)).length = ("@0." : Str).length + (toString (-1 + (k : Int)) : Str).length := PySem.Str.length_append _ _
              rw [← z2]
              exact z
            rw [et]
            refine ⟨_, DGet.k (k := Sum.inr (cellS (-1 + (k : Int)).toNat)) hd4, ?_⟩
            rw [get_fac]
            refine ⟨_, _, rfl, rfl, ?_⟩
            have ev : facZ W "" + facZ W (cellS (-1 + (k : Int)).toNat) = dueA cells W (-1 + (k : Int)) := by
              unfold dueA
              rw [if_pos ⟨q0, q1⟩]
            refine ⟨_, rfl, _, rfl, _, rfl, _, rfl, b, D2, p, cells, ts, ds.map rowOf, numsA cells (-1 + (k : Int)), rfl, p2, p6, c8, s34 _ _ hb, hR.up s34, h4, nums_len, fun H5 s5 => ⟨_, rfl, _, rfl, _, _, rfl, rfl, by omega, rfl, _, rfl, ?_⟩⟩
            rw [ev]
            exact endT _ s5
          · refine ifF2 (decide_eq_false q1) ?_
            refine ⟨_, _, rfl, rfl, ?_⟩
            have ev : facZ W "" + 0 = dueA cells W (-1 + (k : Int)) := by
              unfold dueA
              rw [if_neg (fun h => q1 h.2)]
            refine ⟨_, rfl, _, rfl, _, rfl, _, rfl, b, D2, p, cells, ts, ds.map rowOf, numsA cells (-1 + (k : Int)), rfl, p2, p6, c8, s34 _ _ hb, hR.up s34, h4, nums_len, fun H5 s5 => ⟨_, rfl, _, rfl, _, _, rfl, rfl, by omega, rfl, _, rfl, ?_⟩⟩
            rw [ev]
            exact endT _ s5
        · refine ifF2 (decide_eq_false q0) ⟨_, rfl, ?_⟩
          refine ifF2 rfl ?_
          refine ⟨_, _, rfl, rfl, ?_⟩
          have ev : facZ W "" + 0 = dueA cells W (-1 + (k : Int)) := by
            unfold dueA
            rw [if_neg (fun h => q0 h.1)]
          refine ⟨_, rfl, _, rfl, _, rfl, _, rfl, b, D2, p, cells, ts, ds.map rowOf, numsA cells (-1 + (k : Int)), rfl, p2, p6, c8, s34 _ _ hb, hR.up s34, h4, nums_len, fun H5 s5 => ⟨_, rfl, _, rfl, _, _, rfl, rfl, by omega, rfl, _, rfl, ?_⟩⟩
          rw [ev]
          exact endT _ s5
    · rintro σ H3 ⟨s3, ⟨u4, u5, u6, rfl⟩, al3⟩
      have zt : (List.range (cells + 3)).all (dueN p cells W (ds.map rowOf)) = true := List.all_eq_true.mpr fun j mj => al3 j (List.mem_range.mp mj)
      rw [zt] at want
      exact want _ s3
end
end Vb
end L2

set_option Elab.async false
set_option linter.all false
set_option maxRecDepth 100000
set_option maxHeartbeats 4000000
/-! Vb, k30: is_known_sum of a right sum. -/
namespace L2
namespace Vb
open PySem PySem.Spec PyProof.Rows
abbrev sKnown : Stmt := topS 39
abbrev nKnown : List Str := ["prime", "value", "keys", "name"]
def spKnown : Sp := fun vs H Q _ => ∃ (a b : Addr) (W : SumZ) (p : Int) (ks : List Str), vs = [.int p, .ref a, .ref b] ∧ Dct H a W ∧ (∀ q ∈ W, 0 < q.2 ∧ q.2 < p ∧ q.1 ∈ ks) ∧ W.length ≤ 1000 ∧ H b = some (.lst (ks.map V.str)) ∧ ∀ H', Same H H' → Q (.bl true) H'
theorem scKnown : FnScope nKnown ["prime", "value", "keys"] (defScope sKnown) := ⟨rfl, rfl, rfl, by decide +kernel, rfl, by decide +kernel, by decide +kernel⟩
section
variable {P : Program} {w : World} {K : PySem.W.Frag} {mg : Str → Option Value} {base : Heap}
theorem ok_known {f fS : Addr} {fd fdS : FuncData} (F : Fun K "is_known_sum" "is_known_sum" sKnown f fd)
    (FS : Fun K "is_sum" "is_sum" sSum fS fdS) (GS : FnOk P w K mg base CX0 4 fS fdS ["prime", "value"] spSum) (gS : mg "is_sum" = some (.ref fS)) (gAll : mg "all" = none) :
    FnOk P w K mg base CX0 5 f fd ["prime", "value", "keys"] spKnown := by
  have bS : Binds K fdS ["prime", "value"] [] := FS.binds fun _ _ _ _ _ _ us hl => match us, hl with | [_, _], _ => rfl
  refine F.ok scKnown (fun vs H Q E h => ?_) (fun cdv A outer s0 H vs Q E hr h => ?_)
  · obtain ⟨a, b, W, p, ks, rfl, _⟩ := h
    rfl
  · obtain ⟨a, b, W, p, ks, rfl, ha, hW, hl, hb, want⟩ := h
    refine ⟨_, (pss_one (ps_ret (pe_and (pe_call GS (hr.mono (by decide)) rfl gS FS.kp bS .nil pass0 (pa_cons (pv 0) (pa_cons (pv 1) pa_nil))) (pe_one (pe_callB (cr_all rfl) (by rfl) gAll boot_all (pa_cons (pe_lock (pe_lc (te := tOp (rIn K false) (tVar 3) (tVar 2)) (own := [("name", 3)]) (g := (gName 3)) (tt := tYes) rfl scKnown.nd (pi_keys (pv 1)) (blkOk_by (N := nKnown) (sc := defScope sKnown) (by decide +kernel)) (fun _ _ _ _ _ => pg_name (i := 3) scKnown.nd rfl (Or.inl rfl)) (fun _ _ _ _ _ => pts_nil) (fun _ _ _ _ _ => (pe_cmpR op_in_seq (pv 3) (pv 2) (by rfl))))) pa_nil)))))), ?_⟩
    refine ⟨_, rfl, _, rfl, a, W, p, rfl, ha, fun q m => ⟨(hW q m).1, (hW q m).2.1⟩, hl, fun H1 s1 => ⟨_, rfl, iteT ?_⟩⟩
    have h1 : H1 a = some (.dK (kvsZ W)) := s1 _ _ ha
    have hb1 := s1 _ _ hb
    have nba : b ≠ a := fun e => by
      rw [e, h1] at hb1
      cases hb1
    refine ⟨a, .dK (kvsZ W), h1, trivial, fun od => ?_⟩
    refine ⟨_, rfl, a, od, rfl, .inl ⟨kvsZ W, upd_same, fun D hD => ?_⟩⟩
    have nDa : D ≠ a := fun e => by
      rw [e, upd_same] at hD
      cases hD
    have hD0 : H1 D = none := by
      rw [upd_ne nDa] at hD
      exact hD
    have lk : (kvsZ W).length = W.length := List.length_map _
    refine lc_it walk_keys (fun k H' => GrowL H1 a D od (.dK (kvsZ W)) k H') ⟨fun c o nc e => ?_, ?_, upd_same⟩ (fun k H' _ g => g.2.1) ?_ ?_
    · have n2 : c ≠ D := fun z => by
        rw [z, hD0] at e
        cases e
      rw [upd_ne n2, upd_ne nc]
      exact e
    · rw [upd_ne (Ne.symm nDa), upd_same]
    · rintro k x H2 H3 hk ⟨g1, g2, g3⟩ ⟨rfl, ky, v, hkv, rfl⟩
      obtain ⟨nm, fc, hw, e1, e2⟩ := kvs_at (u := kV ky) (v := v) (by rw [hkv]; rfl) (by rw [hkv]; rfl)
      have mk := (hW _ (List.mem_of_getElem? hw)).2.2
      refine ⟨rfl, tyes ?_⟩
      rw [e1]
      refine ⟨_, rfl, _, rfl, b, _, rfl, .inl (SqL.of (g1 b _ nba hb1)), rfl, ?_, ?_⟩
      · rw [List.all_map]
        exact List.all_eq_true.mpr fun _ _ => rfl
      have ei : (if false = true then !inV (.str nm) (ks.map V.str) else inV (.str nm) (ks.map V.str)) = true := by
        rw [if_neg Bool.false_ne_true, in_strs ks, decide_eq_true mk]
      rw [ei]
      refine ⟨_, g3, by rw [List.length_map, List.length_replicate, sizeLine_eq]; omega, fun c o nc e => ?_, ?_, ?_⟩
      · have n2 : c ≠ D := fun z => by
          rw [z, hD0] at e
          cases e
        rw [upd_ne n2]
        exact g1 c o nc e
      · rw [upd_ne (Ne.symm nDa)]
        exact g2
      · rw [upd_same, trues_succ]
    · rintro H2 ⟨g1, g2, g3⟩
      refine ⟨g2, ?_⟩
      refine ⟨D, _, rfl, SqL.of (by rw [upd_ne nDa]; exact g3), ?_⟩
      rw [all_true]
      refine want _ (same_trans s1 fun c o e => ?_)
      by_cases q : c = a
      · rw [q, upd_same]
        rw [q, h1] at e
        exact e
      · rw [upd_ne q]
        exact g1 c o q e
end
end Vb
end L2

set_option Elab.async false
set_option linter.all false
set_option maxRecDepth 100000
set_option maxHeartbeats 4000000
/-! Vb, k30: require_straight of a right question. -/
namespace L2
namespace Vb
open PySem PySem.Spec PyProof.Rows
abbrev sReqSt : Stmt := topS 47
/-- a right sum of so many cells -/
def GoodW (p : Int) (cells : Nat) (W : SumZ) : Prop := (∀ q ∈ W, 0 < q.2 ∧ q.2 < p ∧ q.1 ∈ keysZ cells) ∧ (W.map (·.1)).Nodup ∧ W.length ≤ 20
def spReqSt : Sp := fun vs H Q _ => ∃ (a : Addr) (W : SumZ) (p : Int) (cells : Nat), vs = [.int p, .int (cells : Int), .ref a] ∧ p ∈ goods ∧ cells ≤ 8 ∧ Dct H a W ∧ GoodW p cells W ∧ ∀ H', Same H H' → Q .non H'
theorem scReqSt : FnScope ["prime", "cells", "wanted"] ["prime", "cells", "wanted"] (defScope sReqSt) := ⟨rfl, rfl, rfl, by decide +kernel, rfl, by decide +kernel, by decide +kernel⟩
section
variable {P : Program} {w : World} {K : PySem.W.Frag} {mg : Str → Option Value} {base : Heap}
theorem ok_reqSt {f fP fC fN fK : Addr} {fd fdP fdC fdN fdK : FuncData} (F : Fun K "require_straight" "require_straight" sReqSt f fd)
    (FP : Fun K "require_prime" "require_prime" sReqP fP fdP) (GP : FnOk P w K mg base CX0 2 fP fdP ["prime"] spReqP) (gP : mg "require_prime" = some (.ref fP))
    (FC : Fun K "is_count" "is_count" sCount fC fdC) (GC : FnOk P w K mg base CX0 1 fC fdC ["value"] spCount) (gC : mg "is_count" = some (.ref fC))
    (FN : Fun K "is_known_sum" "is_known_sum" sKnown fN fdN) (GN : FnOk P w K mg base CX0 5 fN fdN ["prime", "value", "keys"] spKnown) (gN : mg "is_known_sum" = some (.ref fN))
    (FK : Fun K "keys_of_cells" "keys_of_cells" sKeys fK fdK) (GK : FnOk P w K mg base CX0 2 fK fdK ["cells"] spKeys) (gK : mg "keys_of_cells" = some (.ref fK)) (gM : ∃ t, mg "MOST_CELLS" = some (.int 8 t)) :
    FnOk P w K mg base CX0 6 f fd ["prime", "cells", "wanted"] spReqSt := by
  have bP : Binds K fdP ["prime"] [] := FP.binds fun _ _ _ _ _ _ us hl => match us, hl with | [_], _ => rfl
  have bC : Binds K fdC ["value"] [] := FC.binds fun _ _ _ _ _ _ us hl => match us, hl with | [_], _ => rfl
  have bN : Binds K fdN ["prime", "value", "keys"] [] := FN.binds fun _ _ _ _ _ _ us hl => match us, hl with | [_, _, _], _ => rfl
  have bK : Binds K fdK ["cells"] [] := FK.binds fun _ _ _ _ _ _ us hl => match us, hl with | [_], _ => rfl
  refine F.ok scReqSt (fun vs H Q E h => ?_) (fun cdv A outer s0 H vs Q E hr h => ?_)
  · obtain ⟨a, W, p, cells, rfl, _⟩ := h
    rfl
  · obtain ⟨a, W, p, cells, rfl, mp, c8, ha, gw, want⟩ := h
    refine ⟨_, (pss_cons (ps_expr (pe_call GP (hr.mono (by decide)) rfl gP FP.kp bP .nil pass0 (pa_cons (pv 0) pa_nil)))
      (pss_cons (ps_if (PW.pt (pw_or (pt_not (pt_val (pe_call GC (hr.mono (by decide)) rfl gC FC.kp bC .nil pass0 (pa_cons (pv 1) pa_nil)))) (pw_or1 (pt_cmpR op_gt (pv 1) (pe_gint rfl gM) (nomark _)))))
        pss_never
        pss_nil)
      (pss_one (ps_if (pt_not (pt_val (pe_call GN (hr.mono (by decide)) rfl gN FN.kp bN .nil pass0 (pa_cons (pv 0) (pa_cons (pv 2) (pa_cons (pe_call GK (hr.mono (by decide)) rfl gK FK.kp bK .nil pass0 (pa_cons (pv 1) pa_nil)) pa_nil))))))
        pss_never
        pss_nil)))), ?_⟩
    refine ⟨_, rfl, p, rfl, mp, fun H1 s1 => ?_⟩
    refine ⟨_, rfl, (cells : Int), rfl, _, rfl, ?_⟩
    rw [decide_eq_true (by omega : (0 : Int) ≤ (cells : Int))]
    refine iteF ?_
    refine ⟨_, rfl, _, _, rfl, rfl, _, rfl, ?_⟩
    refine ifF2 (decide_eq_false (by omega)) ?_
    refine ⟨_, rfl, _, rfl, _, rfl, cells, rfl, c8, fun H2 d s2 nd hd => ?_⟩
    refine ⟨a, d, W, p, keysZ cells, rfl, s2 _ _ (s1 _ _ ha), gw.1, by have := gw.2.2; omega, hd, fun H3 s3 => ⟨_, rfl, iteF (want H3 (same_trans s1 (same_trans s2 s3)))⟩⟩
end
end Vb
end L2

set_option Elab.async false
set_option linter.all false
set_option maxRecDepth 100000
set_option maxHeartbeats 8000000
/-! Vb, k30: the rows of a sum. -/
namespace L2
namespace Vb
open PySem PySem.Spec PyProof.Rows
def numC (x : Str) : Nat := ((List.range 9).find? fun c => decide (cellS c = x)).getD 0
theorem numC_cell : ∀ c, c < 9 → numC (cellS c) = c := by decide +kernel
/-- the rows of one name, of all -/
def stepR (W : SumZ) (x : Str) : List StA.R := if x = "" then [] else ⟨.take, 1, ((numC x : Nat) : Int)⟩ :: ((if facZ W x = 1 then [] else [⟨.times, 1, facZ W x⟩]) ++ [⟨.add, 0, 1⟩])
def reckR (W : SumZ) (ys : List Str) : List StA.R := ⟨.set, 0, facZ W ""⟩ :: ys.flatMap (stepR W)
theorem fac_mem {W : SumZ} {q : Str × Int} (nd : (W.map (·.1)).Nodup) (m : q ∈ W) : facZ W q.1 = q.2 := by
  unfold facZ
  have e : W.find? (fun r => decide (r.1 = q.1)) = some q := by
    induction W with
    | nil => cases m
    | cons r W ih =>
      rw [List.map_cons] at nd
      obtain ⟨n1, n2⟩ := List.nodup_cons.mp nd
      rcases List.mem_cons.mp m with rfl | m
      · exact List.find?_cons_of_pos (p := fun r : Str × Int => decide (r.1 = q.1)) (decide_eq_true rfl)
      · rw [List.find?_cons_of_neg (p := fun r : Str × Int => decide (r.1 = q.1))]
        · exact ih n2 m
        · intro h
          exact n1 (List.mem_map.mpr ⟨q, m, (of_decide_eq_true h).symm⟩)
  rw [e]
  rfl
theorem fac_none {W : SumZ} {x : Str} (h : x ∉ W.map (·.1)) : facZ W x = 0 := by
  unfold facZ
  have e : W.find? (fun r => decide (r.1 = x)) = none := by
    rw [List.find?_eq_none]
    intro q m z
    exact h (List.mem_map.mpr ⟨q, m, of_decide_eq_true z⟩)
  rw [e]
  rfl
theorem fac_range {p : Int} {cells : Nat} {W : SumZ} (p2 : 2 ≤ p) (gw : GoodW p cells W) (x : Str) : 0 ≤ facZ W x ∧ facZ W x < p := by
  by_cases h : x ∈ W.map (·.1)
  · obtain ⟨q, m, rfl⟩ := List.mem_map.mp h
    rw [fac_mem gw.2.1 m]
    have := gw.1 q m
    exact ⟨by omega, this.2.1⟩
  · rw [fac_none h]
    exact ⟨Int.le_refl _, by omega⟩
theorem keys_of {cells : Nat} {x : Str} (h : x ∈ keysZ cells) : x = "" ∨ ∃ c, c < cells ∧ x = cellS c := by
  unfold keysZ at h
  rcases List.mem_append.mp h with h | h
  · obtain ⟨c, mc, rfl⟩ := List.mem_map.mp h
    exact .inr ⟨c, List.mem_range.mp mc, rfl⟩
  · exact .inl (List.mem_singleton.mp h)
theorem kvs_names (W : SumZ) : (kvsZ W).map (·.1) = (W.map (·.1)).map Sum.inr := by
  unfold kvsZ
  rw [List.map_map, List.map_map]
  rfl
/-- where the cells are taken -/
def Plc (H : Hp) (b : Addr) (cells : Nat) : Prop := ∃ kvs, H b = some (.dK kvs) ∧ ∀ c, c < cells → ∃ t, valV kvs (Sum.inr (cellS c)) = some (.ref t) ∧ H t = some (.tup [.str "take", .int (c : Int)])
theorem Plc.up {H H' : Hp} {b : Addr} {cells : Nat} (h : Plc H b cells) (s : Same H H') : Plc H' b cells := by
  obtain ⟨kvs, hb, k⟩ := h
  exact ⟨kvs, s _ _ hb, fun c hc => (k c hc).elim fun t z => ⟨t, z.1, s _ _ z.2⟩⟩
theorem rows_put {p : Int} {cells : Nat} {H H' : Hp} {ts : List Addr} {rs : List StA.R} (h : RowsT H p cells ts rs) (k : ∀ t xs, H t = some (.tup xs) → H' t = some (.tup xs)) : RowsT H' p cells ts rs := L2.Paired.mapP h fun _ _ z => ⟨k _ _ z.1, z.2⟩
/-- a row more behind the others -/
theorem rows_app {p : Int} {cells : Nat} {H : Hp} {d t : Addr} {ts : List Addr} {rs : List StA.R} {r : StA.R} (hd : H d = some (.lst (ts.map V.ref))) (hR : RowsT H p cells ts rs) (ht : H t = none) (fit : StA.fits p cells r) :
    let H2 := upd (upd H t (.tup [.str (wordS r.w), .int (r.h : Int), .int r.n])) d (.lst (ts.map V.ref ++ [.ref t]))
    H2 d = some (.lst ((ts ++ [t]).map V.ref)) ∧ RowsT H2 p cells (ts ++ [t]) (rs ++ [r]) ∧ ∀ b o, b ≠ d → H b = some o → H2 b = some o := by
  have ntd : t ≠ d := fun e => by
    rw [e, hd] at ht
    cases ht
  refine ⟨?_, ?_, ?_⟩
  · rw [upd_same, List.map_append]
    rfl
  · refine paired_app (rows_put hR fun t2 xs e => ?_) (.cons ⟨?_, fit⟩ .nil)
    · have n1 : t2 ≠ d := fun z => by
        rw [z, hd] at e
        cases e
      have n2 : t2 ≠ t := fun z => by
        rw [z, ht] at e
        cases e
      rw [upd_ne n1, upd_ne n2]
      exact e
    · rw [upd_ne ntd, upd_same]
  · intro b o nb e
    have n2 : b ≠ t := fun z => by
      rw [z, ht] at e
      cases e
    rw [upd_ne nb, upd_ne n2]
    exact e
def spRck : Sp := fun vs H Q _ => ∃ (p : Int) (cells : Nat) (a b : Addr) (W : SumZ), vs = [.int 0, .int 1, .ref a, .ref b] ∧ 2 ≤ p ∧ cells ≤ 8 ∧ Dct H a W ∧ GoodW p cells W ∧ Plc H b cells ∧
  ∀ (H' : Hp) (d : Addr) (ts : List Addr) (ys : List Str), Same H H' → H d = none → ys.Perm (W.map (·.1)) → sortedS ys = true → H' d = some (.lst (ts.map V.ref)) → RowsT H' p cells ts (reckR W ys) → Q (.ref d) H'
abbrev sRck : Stmt := topS 42
abbrev nRck : List Str := ["box", "helper", "wanted", "places", "rows", "name", "word", "cell"]
theorem scRck : FnScope nRck ["box", "helper", "wanted", "places"] (defScope sRck) := ⟨rfl, rfl, rfl, by decide +kernel, rfl, by decide +kernel, by decide +kernel⟩
-- cells set()
section
variable {P : Program} {w : World} {K : PySem.W.Frag} {mg : Str → Option Value} {base : Heap}
theorem ok_rck {f : Addr} {fd : FuncData} (F : Fun K "reckoning" "reckoning" sRck f fd) (gSorted : mg "sorted" = none) :
    FnOk P w K mg base CX0 1 f fd ["box", "helper", "wanted", "places"] spRck := by
  refine F.ok scRck (fun vs H Q E h => ?_) (fun cdv A outer s0 H vs Q E hr h => ?_)
  · obtain ⟨p, cells, a, b, W, rfl, _⟩ := h
    rfl
  · obtain ⟨p, cells, a, b, W, rfl, p2, c8, ha, gw, pl, want⟩ := h
    refine ⟨_, (pss_cons (ps_set (i := 4) scRck.nd rfl (Or.inl rfl) (pe_lst (pa_cons (pe_tup (pa_cons pe_str (pa_cons (pv 0) (pa_cons (pe_dget2 (hu_of hr) (pv 2) pe_str pe_int ⟨rfl, rfl, rfl, rfl⟩) pa_nil)))) pa_nil)))
      (pss_cons (ps_for PassesOwn.never rfl (pi_list (pe_callB (call_sortedD rfl) (by rfl) gSorted boot_sorted (pa_cons (pv 2) pa_nil))) (pg_name (i := 5) scRck.nd rfl (Or.inl rfl))
        (pss_one (ps_if (pt_truth (pv 5) (by intro _; rfl))
            (pss_cons (ps_asg (pe_dget (hu_of hr) (pv 3) (pv 5) (fun _ _ => rfl)) (pg_tup rfl (pgs_cons (pg_name (i := 6) scRck.nd rfl (Or.inl rfl)) (pgs_cons (pg_name (i := 7) scRck.nd rfl (Or.inl rfl)) pgs_nil))))
              (pss_cons (ps_expr (pe_bm PySem.F.plainAttrs_list PySem.F.slot_list_append PySem.F.type_list_append mt_append (pv 4) (pa_cons (pe_tup (pa_cons (pv 6) (pa_cons (pv 1) (pa_cons (pv 7) pa_nil)))) pa_nil)))
              (pss_cons (ps_if (pt_cmpR op_ne (pe_dget (hu_of hr) (pv 2) (pv 5) (fun _ _ => rfl)) pe_int (nomark _))
                (pss_one (ps_expr (pe_bm PySem.F.plainAttrs_list PySem.F.slot_list_append PySem.F.type_list_append mt_append (pv 4) (pa_cons (pe_tup (pa_cons pe_str (pa_cons (pv 1) (pa_cons (pe_dget (hu_of hr) (pv 2) (pv 5) (fun _ _ => rfl)) pa_nil)))) pa_nil))))
                pss_nil)
              (pss_one (ps_expr (pe_bm PySem.F.plainAttrs_list PySem.F.slot_list_append PySem.F.type_list_append mt_append (pv 4) (pa_cons (pe_tup (pa_cons pe_str (pa_cons (pv 0) (pa_cons (pv 1) pa_nil)))) pa_nil)))))))
            pss_nil)))
      (pss_one (ps_ret (pv 4))))), ?_⟩
    have ha : H a = some (.dK (kvsZ W)) := ha
    refine ⟨_, rfl, _, rfl, a, rfl, .inl ⟨_, .inl ha⟩, _, DGet.k (k := Sum.inr "") ha, ?_⟩
    rw [get_fac]
    refine ⟨by show 3 ≤ sizeLine; decide, fun t ht => ⟨by show 1 ≤ sizeLine; decide, fun d hd => ?_⟩⟩
    have s1 := same_new (o := .tup [V.str "set", V.int 0, V.int (facZ W "")]) ht
    have s2 := same_new (o := .lst [V.ref t]) hd
    have r0 := fac_range (x := "") p2 gw
    have hd0 : H d = none := s1.free hd
    have hR0 : RowsT (upd (upd H t (.tup [V.str "set", V.int 0, V.int (facZ W "")])) d (.lst [V.ref t])) p cells [t] [⟨.set, 0, facZ W ""⟩] := .cons ⟨s2 _ _ upd_same, by show 0 < 2; decide, r0.1, r0.2⟩ .nil
    have hd1 : (upd (upd H t (.tup [V.str "set", V.int 0, V.int (facZ W "")])) d (.lst [V.ref t])) d = some (.lst ([t].map V.ref)) := upd_same
    have s12 := same_trans s1 s2
    generalize upd (upd H t (.tup [V.str "set", V.int 0, V.int (facZ W "")])) d (.lst [V.ref t]) = H1 at s12 hR0 hd1
    refine ⟨_, rfl, a, kvsZ W, W.map (·.1), rfl, .inl (s12 _ _ ha), kvs_names W, by rw [List.length_map]; have := gw.2.2; omega, fun ys s perm srt hs => ?_⟩
    have s3 := same_new (o := .lst (ys.map V.str)) hs
    have nsd : s ≠ d := fun e => by
      rw [e, hd1] at hs
      cases hs
    have ly : ys.length ≤ 20 := by
      have := perm.length_eq
      rw [List.length_map] at this
      have := gw.2.2
      omega
    refine ⟨s, rfl, ⟨_, SqL.of upd_same⟩, ?_⟩
    refine for_list (xs := ys.map V.str) (fun k σ H' => Same H H' ∧ H' s = some (.lst (ys.map V.str)) ∧ (∃ u5 u6 u7 : Option V, σ = [some (.int 0), some (.int 1), some (.ref a), some (.ref b), some (.ref d), u5, u6, u7]) ∧
      ∃ ts, H' d = some (.lst (ts.map V.ref)) ∧ ts.length ≤ 1 + 3 * k ∧ RowsT H' p cells ts (reckR W (ys.take k))) ⟨same_trans s12 s3, upd_same, ⟨_, _, _, rfl⟩, [t], s3 _ _ hd1, by show 1 ≤ 1; decide, hR0.up s3⟩ (fun k σ H' _ z => SqL.of z.2.1) ?_ ?_
    · rintro k x σ H2 hx ⟨sm, hs2, ⟨u5, u6, u7, rfl⟩, ts, hd2, lt, hR⟩
      rw [List.getElem?_map] at hx
      obtain ⟨nm, hk, rfl⟩ := Option.map_eq_some_iff.mp hx
      have mk : nm ∈ W.map (·.1) := perm.mem_iff.mp (List.mem_of_getElem? hk)
      obtain ⟨q, mq, eq⟩ := List.mem_map.mp mk
      have lk := (List.getElem?_eq_some_iff.mp hk).1
      have et : reckR W (ys.take (k + 1)) = reckR W (ys.take k) ++ stepR W nm := by
        unfold reckR
        rw [List.take_add_one, hk, List.flatMap_append, List.cons_append]
        show _ :: (_ ++ (stepR W nm ++ [])) = _
        rw [List.append_nil]
      rcases keys_of (gw.1 q mq).2.2 with e | ⟨c, hc, e⟩
      · obtain rfl : nm = "" := eq.symm.trans e
        refine ⟨_, rfl, false, ⟨Nat.zero_le _, rfl⟩, iteF ⟨sm, hs2, ⟨_, _, _, rfl⟩, ts, hd2, by omega, ?_⟩⟩
        rw [et]
        show RowsT H2 p cells ts (_ ++ [])
        rw [List.append_nil]
        exact hR
      · obtain rfl : nm = cellS c := eq.symm.trans e
        have cl := cell_len c (by omega)
        have cn := cell_ne c (by omega)
        have es : stepR W (cellS c) = ⟨.take, 1, (c : Int)⟩ :: ((if facZ W (cellS c) = 1 then [] else [⟨.times, 1, facZ W (cellS c)⟩]) ++ [⟨.add, 0, 1⟩]) := by
          unfold stepR
          rw [if_neg cn, numC_cell c (by omega)]
        have hl : (cellS c).length ≤ sizeLine := by
          rw [sizeLine_eq]
          omega
        have rf := fac_range (x := cellS c) p2 gw
        obtain ⟨kvs, hb, pl⟩ := pl.up sm
        obtain ⟨tc, hv, htc⟩ := pl c hc
        refine ⟨_, rfl, true, ⟨hl, ?_⟩, iteT ?_⟩
        · exact (by decide +kernel : ∀ c, c < 9 → true = (((cellS c).length : Int) != 0)) c (by omega)
        have g1 : DGet H2 b (.str (cellS c)) (some (.ref tc)) := by
          have z := DGet.k (k := Sum.inr (cellS c)) hb
          rw [hv] at z
          exact z
        refine ⟨_, rfl, _, rfl, b, _, rfl, g1, ?_⟩
        refine ⟨tc, _, rfl, SqT.of htc, rfl, _, _, rfl, _, _, rfl, rfl, ?_⟩
        refine ⟨_, rfl, .inl ⟨rfl, _, SqL.of hd2⟩, _, rfl, _, rfl, _, rfl, by show 3 ≤ sizeLine; decide, fun t1 ht1 => ⟨d, _, _, rfl, rfl, same_new ht1 _ _ hd2, by rw [List.length_map, sizeLine_eq]; omega, ?_⟩⟩
        obtain ⟨hd3, hR3, k3⟩ := rows_app (r := ⟨.take, 1, (c : Int)⟩) hd2 hR ht1 ⟨by show 1 < 2; decide, Int.natCast_nonneg _, by show (c : Int) < (cells : Int); omega⟩
        have hd3 : (upd (upd H2 t1 (.tup [V.str "take", V.int 1, V.int (c : Int)])) d (.lst (ts.map V.ref ++ [.ref t1]))) d = some (.lst ((ts ++ [t1]).map V.ref)) := hd3
        have hR3 : RowsT (upd (upd H2 t1 (.tup [V.str "take", V.int 1, V.int (c : Int)])) d (.lst (ts.map V.ref ++ [.ref t1]))) p cells (ts ++ [t1]) (reckR W (ys.take k) ++ [⟨.take, 1, (c : Int)⟩]) := hR3
        have k3 : ∀ b o, b ≠ d → H2 b = some o → (upd (upd H2 t1 (.tup [V.str "take", V.int 1, V.int (c : Int)])) d (.lst (ts.map V.ref ++ [.ref t1]))) b = some o := k3
        generalize upd (upd H2 t1 (.tup [V.str "take", V.int 1, V.int (c : Int)])) d (.lst (ts.map V.ref ++ [.ref t1])) = H3 at hd3 hR3 k3
        have nad : a ≠ d := fun e => by
          have z := sm _ _ ha
          rw [e, hd2] at z
          cases z
        have ha3 : H3 a = some (.dK (kvsZ W)) := k3 a _ nad (sm _ _ ha)
        have sub : ∀ {H4 : Hp}, (∀ b o, b ≠ d → H2 b = some o → H4 b = some o) → Same H H4 := fun {H4} kk b o e => kk b o (fun z => by rw [z, hd0] at e; cases e) (sm b o e)
        have g2 : ∀ {H4 : Hp}, H4 a = some (.dK (kvsZ W)) → DGet H4 a (.str (cellS c)) (some (.int (facZ W (cellS c)))) := fun {H4} h4 => by
          have z := DGet.k (k := Sum.inr (cellS c)) h4
          have fm : valV (kvsZ W) (Sum.inr (cellS c)) = some (.int (facZ W (cellS c))) := by
            have g := get_fac W (cellS c)
            rw [val_kvs] at g ⊢
            cases ef : W.find? fun q => decide (q.1 = cellS c) with
            | none =>
              rw [List.find?_eq_none] at ef
              exact absurd (decide_eq_true eq) (ef q mq)
            | some r =>
              rw [ef] at g
              exact congrArg some g
          rw [fm] at z
          exact z
        have fin : ∀ {H4 : Hp} {ts4 : List Addr} {rs4 : List StA.R} (x5 x6 x7 : Option V), (∀ b o, b ≠ d → H2 b = some o → H4 b = some o) → H4 d = some (.lst (ts4.map V.ref)) → RowsT H4 p cells ts4 (reckR W (ys.take k) ++ rs4) → ts4.length ≤ ts.length + 2 → stepR W (cellS c) = rs4 ++ [⟨.add, 0, 1⟩] → ∀ t5, H4 t5 = none →
            (Same H (upd (upd H4 t5 (.tup [V.str "add", V.int 0, V.int 1])) d (.lst (ts4.map V.ref ++ [.ref t5]))) ∧ (upd (upd H4 t5 (.tup [V.str "add", V.int 0, V.int 1])) d (.lst (ts4.map V.ref ++ [.ref t5]))) s = some (.lst (ys.map V.str)) ∧ (∃ u5 u6 u7 : Option V, [some (V.int 0), some (.int 1), some (.ref a), some (.ref b), some (.ref d), x5, x6, x7] = [some (.int 0), some (.int 1), some (.ref a), some (.ref b), some (.ref d), u5, u6, u7]) ∧
              ∃ ts, (upd (upd H4 t5 (.tup [V.str "add", V.int 0, V.int 1])) d (.lst (ts4.map V.ref ++ [.ref t5]))) d = some (.lst (ts.map V.ref)) ∧ ts.length ≤ 1 + 3 * (k + 1) ∧ RowsT (upd (upd H4 t5 (.tup [V.str "add", V.int 0, V.int 1])) d (.lst (ts4.map V.ref ++ [.ref t5]))) p cells ts (reckR W (ys.take (k + 1)))) := by
          intro H4 ts4 rs4 x5 x6 x7 kk h4 hR4 l4 e4 t5 ht5
          obtain ⟨z1, z2, z3⟩ := rows_app (r := ⟨.add, 0, 1⟩) h4 hR4 ht5 ⟨by show 0 < 2; decide, by show (0 : Int) ≤ 1; decide, by show (1 : Int) < 2; decide⟩
          refine ⟨sub fun b o nb e => z3 b o nb (kk b o nb e), z3 s _ nsd (kk s _ nsd hs2), ⟨_, _, _, rfl⟩, ts4 ++ [t5], z1, by rw [List.length_append, List.length_singleton]; omega, ?_⟩
          rw [et, e4, ← List.append_assoc]
          exact z2
        refine ⟨_, rfl, _, rfl, a, _, rfl, g2 ha3, rfl, _, rfl, ?_⟩
        by_cases q1 : facZ W (cellS c) = 1
        · refine ifF2 (by rw [q1]; rfl) ?_
          refine ⟨_, rfl, .inl ⟨rfl, _, SqL.of hd3⟩, _, rfl, _, rfl, by show 3 ≤ sizeLine; decide, fun t5 ht5 => ⟨d, _, _, rfl, rfl, same_new ht5 _ _ hd3, by rw [List.length_map, List.length_append, List.length_singleton, sizeLine_eq]; omega, ?_⟩⟩
          exact fin _ _ _ k3 hd3 hR3 (by rw [List.length_append, List.length_singleton]; omega) (by rw [es, if_pos q1]; rfl) t5 ht5
        · refine ifT2 (by rw [decide_eq_false (fun h => q1 (V.int.inj h))]; rfl) ?_
          refine ⟨_, rfl, .inl ⟨rfl, _, SqL.of hd3⟩, _, rfl, _, rfl, _, rfl, a, _, rfl, g2 ha3, by show 3 ≤ sizeLine; decide, fun t4 ht4 => ⟨d, _, _, rfl, rfl, same_new ht4 _ _ hd3, by rw [List.length_map, List.length_append, List.length_singleton, sizeLine_eq]; omega, ?_⟩⟩
          obtain ⟨hd4, hR4, k4⟩ := rows_app (r := ⟨.times, 1, facZ W (cellS c)⟩) hd3 hR3 ht4 ⟨by show 1 < 2; decide, rf.1, rf.2⟩
          have hd4 : (upd (upd H3 t4 (.tup [V.str "times", V.int 1, V.int (facZ W (cellS c))])) d (.lst ((ts ++ [t1]).map V.ref ++ [.ref t4]))) d = some (.lst ((ts ++ [t1] ++ [t4]).map V.ref)) := hd4
          have hR4 : RowsT (upd (upd H3 t4 (.tup [V.str "times", V.int 1, V.int (facZ W (cellS c))])) d (.lst ((ts ++ [t1]).map V.ref ++ [.ref t4]))) p cells (ts ++ [t1] ++ [t4]) (reckR W (ys.take k) ++ [⟨.take, 1, (c : Int)⟩] ++ [⟨.times, 1, facZ W (cellS c)⟩]) := hR4
          have k4 : ∀ b o, b ≠ d → H3 b = some o → (upd (upd H3 t4 (.tup [V.str "times", V.int 1, V.int (facZ W (cellS c))])) d (.lst ((ts ++ [t1]).map V.ref ++ [.ref t4]))) b = some o := k4
          generalize upd (upd H3 t4 (.tup [V.str "times", V.int 1, V.int (facZ W (cellS c))])) d (.lst ((ts ++ [t1]).map V.ref ++ [.ref t4])) = H4 at hd4 hR4 k4
          refine ⟨_, rfl, .inl ⟨rfl, _, SqL.of hd4⟩, _, rfl, _, rfl, by show 3 ≤ sizeLine; decide, fun t5 ht5 => ⟨d, _, _, rfl, rfl, same_new ht5 _ _ hd4, by rw [List.length_map, List.length_append, List.length_append, List.length_singleton, List.length_singleton, sizeLine_eq]; omega, ?_⟩⟩
          rw [List.append_assoc (reckR W (ys.take k))] at hR4
          exact fin _ _ _ (fun b o nb e => k4 b o nb (k3 b o nb e)) hd4 hR4 (by rw [List.length_append, List.length_append, List.length_singleton, List.length_singleton]; omega) (by rw [es, if_neg q1]; rfl) t5 ht5
    · rintro σ H2 ⟨sm, hs2, ⟨u5, u6, u7, rfl⟩, ts, hd2, lt, hR⟩
      refine ⟨_, rfl, ?_⟩
      have e : ys.take (ys.map V.str).length = ys := by
        rw [List.length_map]
        exact List.take_length
      rw [e] at hR
      exact want H2 d ts ys sm hd0 perm srt hd2 hR
end
end Vb
end L2

set_option Elab.async false
set_option linter.all false
set_option maxRecDepth 100000
set_option maxHeartbeats 4000000
/-! Vb, k30: a name set to a dict comprehension. -/
namespace L2
namespace Vb
open PySem PySem.Spec PyProof.Rows
/-- what holds of the parts of a comprehension, wherever its block stands -/
def Inn (X : Cx) (sc : Scope) (F : Cx → Prop) : Prop := ∀ (s : Shared) (H : Hp) (c : Addr) (cells : List (Str × Addr)) (fp : List Addr), F (X.blk s H sc (compEnvC sc cells c X.env) fp)
section
variable {X : Cx}
theorem swD_true {kx vx : Expr} {gs : List Comprehension} {sc : Scope} {at_ pn : Pos} {y : Str} {n : Nat} {env : Env} (fn : env.scope.kind = .function) (loc : env.scope.names.lookup y = some .local) (row : (pn.line == at_.line) = true)
    (none_ : (sc.names.any fun (n, k) => n == y && (k == .local || k == .cell)) = false) : swapsWith (.DictComp kx vx gs sc at_) (some (.Name y pn)) n env = pure true := by
  have own : env.kindOf y = some .local := loc
  have blk : env.blockKind = .function := by
    unfold Env.blockKind
    rw [fn]
    rfl
  simp only [swapsWith, own, blk, none_, Expr.pos, row]
  rfl
/-- a local name takes a new thing: what stands beside it stays -/
theorem local_new {pins : List (Addr × Obj)} {σ : St} {H1 : Hp} {s1 : Shared} {D : Ends} {i : Nat} {m : Str → Option Value} {y : Str} {pn : Pos} {L C : Addr} (inv : Inv X pins σ H1 s1) (nd : X.N.Nodup) (slot : X.N[i]? = some y) (loc : X.env.scope.names.lookup y = some .local) (room : s1.heap.Ns C m) (off : FpOk X pins H1 C) (nx : D.nx (σ.set i (some (.ref L))) H1) :
    wpAny (model X.prog X.w) X.A (assign (.Name y pn) X.env (.ref L)) (fun _ s2 => ∃ k, s2.heap.Ns C k ∧ ∀ h3, Heap.SameBut C s2.heap h3 → SP X pins D .next { s2 with heap := h3 }) X.xe s1 := by
  apply wpAny_assign_Name
  apply store_ok2 inv nd slot (v := .ref L) (.inl loc) rfl _ (.inr loc)
  rintro s2 inv2 ⟨b, same, whose⟩
  have apart : C ≠ b := by
    cases whose with
    | inl e => exact e ▸ off.2.1
    | inr e => exact (off.2.2.2.2.1 y b e).symm
  refine ⟨m, room.sameBut same apart, fun h3 k => ⟨_, H1, ?_, nx⟩⟩
  exact inv2.turned (fun b o ne e => (k.2 b ne).trans e) off.1 off.2.1 off.2.2.2.1 off.2.2.2.2.1 off.2.2.2.2.2
/-- name = {..} on one line, the name a local -/
theorem ps_setDc {i : Nat} {y : Str} {pn : Pos} {kx vx tg it : Expr} {ifs : List Expr} {sc : Scope} {own : List (Str × Nat)} {pos spos : Pos} {wi : TI} {g : TG} {tt : TT} {tk tv : TE} (calm : X.calm = true) (nd : X.N.Nodup) (slot : X.N[i]? = some y) (loc : X.env.scope.names.lookup y = some .local)
    (sw : swapsWith (.DictComp kx vx [⟨tg, it, ifs, 0⟩] sc pos) (some (.Name y pn)) spos.line X.env = pure true) (walk : PI X tg it wi) (ok : BlkOk X.N X.env.scope sc own) (hg : Inn X sc fun Y => PG Y tg g) (ht : Inn X sc fun Y => PTs Y ifs tt) (hk : Inn X sc fun Y => PE Y kx tk) (hv : Inn X sc fun Y => PE Y vx tv)
    (fold : ∀ x, foldedSetIterable it X.env x = pure x := by intro _; rfl) : PS X (.Assign [.Name y pn] (.DictComp kx vx [⟨tg, it, ifs, 0⟩] sc pos) spos) (tAsg (tDc wi g tt tk tv (own.map (·.2))) (gName i)) := by
  constructor
  intro pins s σ H D inv k
  have k : tDc wi g tt tk tv (own.map (·.2)) σ H (fun x H1 => gName i x σ H1 D.nx) := k
  have made := dc_core (Q := fun x H1 => gName i x σ H1 D.nx) (use := some (assign (.Name y pn) X.env)) (pos := pos) (pos' := firstIterPos [⟨tg, it, ifs, 0⟩] pos) (Qf := fun _ s2 => SP X pins D .next s2) calm nd inv walk ok hg ht hk hv fold k fun L C s1 m H1 inv1 q room off => local_new inv1 nd slot loc room off q
  rw [exec_Assign_Name_used y pn _ spos sw]
  apply wpAny_bind
  apply wpAny_standAt
  apply wpAny_bind
  show wpAny _ X.A (comprehension _ sc X.env _ newDict false (eval it X.env) (some (assign (.Name y pn) X.env)) >>= _) _ _ s
  exact wpAny_bind (thn made fun _ s2 q => wpAny_pure (wpAny_pure q))
end
end Vb
end L2

set_option Elab.async false
set_option linter.all false
set_option maxRecDepth 100000
set_option maxHeartbeats 8000000
/-! Vb, k30: straight. -/
namespace L2
namespace Vb
open PySem PySem.Spec PyProof.Rows
theorem good_two : ∀ p, p ∈ goods → 2 ≤ p ∧ p ≤ 65537 := by decide +kernel
def spStr : Sp := fun vs H Q _ => ∃ (p : Int) (cells : Nat) (a : Addr) (W : SumZ), vs = [.int p, .int (cells : Int), .ref a] ∧ p ∈ goods ∧ cells ≤ 8 ∧ Dct H a W ∧ GoodW p cells W ∧
  ∀ (H' : Hp) (d : Addr) (ts : List Addr) (ys : List Str), Same H H' → H d = none → ys.Perm (W.map (·.1)) → sortedS ys = true → H' d = some (.lst (ts.map V.ref)) → RowsT H' p cells ts (reckR W ys) → Q (.ref d) H'
abbrev sStr : Stmt := topS 48
abbrev nStr : List Str := ["prime", "cells", "wanted", "places", "cell"]
theorem scStr : FnScope nStr ["prime", "cells", "wanted"] (defScope sStr) := ⟨rfl, rfl, rfl, by decide +kernel, rfl, by decide +kernel, by decide +kernel⟩
-- cells set()
section
variable {P : Program} {w : World} {K : PySem.W.Frag} {mg : Str → Option Value} {base : Heap}
theorem ok_str {f fname_of_cell frequire_straight freckoning : Addr} {fd fdname_of_cell fdrequire_straight fdreckoning : FuncData} (F : Fun K "straight" "straight" sStr f fd)
    (Frequire_straight : Fun K "require_straight" "require_straight" sReqSt frequire_straight fdrequire_straight) (Grequire_straight : FnOk P w K mg base CX0 6 frequire_straight fdrequire_straight ["prime", "cells", "wanted"] spReqSt) (grequire_straight : mg "require_straight" = some (.ref frequire_straight))
    (Freckoning : Fun K "reckoning" "reckoning" sRck freckoning fdreckoning) (Greckoning : FnOk P w K mg base CX0 1 freckoning fdreckoning ["box", "helper", "wanted", "places"] spRck) (greckoning : mg "reckoning" = some (.ref freckoning)) (Fname_of_cell : Fun K "name_of_cell" "name_of_cell" sCell fname_of_cell fdname_of_cell) (Gname_of_cell : FnOk P w K mg base CX0 1 fname_of_cell fdname_of_cell ["depth", "cell"] spCell) (gname_of_cell : mg "name_of_cell" = some (.ref fname_of_cell)) (gRange : mg "range" = none) :
    FnOk P w K mg base CX0 7 f fd ["prime", "cells", "wanted"] spStr := by
  have brequire_straight : Binds K fdrequire_straight ["prime", "cells", "wanted"] [] := Frequire_straight.binds fun _ _ _ _ _ _ us hl => match us, hl with | [_, _, _], _ => rfl
  have breckoning : Binds K fdreckoning ["box", "helper", "wanted", "places"] [] := Freckoning.binds fun _ _ _ _ _ _ us hl => match us, hl with | [_, _, _, _], _ => rfl
  have bname_of_cell : Binds K fdname_of_cell ["depth", "cell"] [] := Fname_of_cell.binds fun _ _ _ _ _ _ us hl => match us, hl with | [_, _], _ => rfl
  refine F.ok scStr (fun vs H Q E h => ?_) (fun cdv A outer s0 H vs Q E hr h => ?_)
  · obtain ⟨p, cells, a, W, rfl, _⟩ := h
    rfl
  · obtain ⟨p, cells, a, W, rfl, mp, c8, ha, gw, want⟩ := h
    refine ⟨_, (pss_cons (ps_expr (pe_call Grequire_straight (hr.mono (by decide)) rfl grequire_straight Frequire_straight.kp brequire_straight .nil pass0 (pa_cons (pv 0) (pa_cons (pv 1) (pa_cons (pv 2) pa_nil)))))
      (pss_cons (ps_setDc (i := 3) (own := [("cell", 4)]) (g := gName 4) (tt := tYes) (tk := tCall spCell [] E0 (tCons (tC (.int 0)) (tCons (tVar 4) tNil))) (tv := tTup (tCons (tC (.str "take")) (tCons (tVar 4) tNil))) rfl scStr.nd rfl rfl (swD_true rfl rfl rfl (by decide +kernel)) (pi_range1 rfl gRange (pa_cons (pv 1) pa_nil)) (blkOk_by (N := nStr) (sc := defScope sStr) (by decide +kernel)) (fun _ _ _ _ _ => pg_name (i := 4) scStr.nd rfl (Or.inl rfl)) (fun _ _ _ _ _ => pts_nil) (fun _ _ _ _ _ => (pe_call Gname_of_cell (hr.mono (by decide)) rfl gname_of_cell Fname_of_cell.kp bname_of_cell .nil pass0 (pa_cons pe_int (pa_cons (pv 4) pa_nil)))) (fun _ _ _ _ _ => (pe_tup (pa_cons pe_str (pa_cons (pv 4) pa_nil)))))
      (pss_one (ps_ret (pe_call Greckoning (hr.mono (by decide)) rfl greckoning Freckoning.kp breckoning .nil pass0 (pa_cons pe_int (pa_cons pe_int (pa_cons (pv 2) (pa_cons (pv 3) pa_nil))))))))), ?_⟩
    have p2 := good_two p mp
    refine ⟨_, rfl, _, rfl, _, rfl, a, W, p, cells, rfl, mp, c8, ha, gw, fun H1 s1 => ?_⟩
    refine ⟨_, rfl, (cells : Int), rfl, by omega, by omega, fun D hD => ?_⟩
    rw [Int.toNat_natCast]
    refine dc_go (walk_range (lo := 0) (n := cells)) (fun k H' => Same H1 H' ∧ ∃ kvs, H' D = some (.dK kvs) ∧ kvs.length ≤ k ∧ ∀ c, c < k → ∃ t, valV kvs (Sum.inr (cellS c)) = some (.ref t) ∧ H' t = some (.tup [.str "take", .int (c : Int)])) ⟨same_new hD, [], upd_same, Nat.le_refl _, fun c hc => absurd hc (Nat.not_lt_zero _)⟩ (fun _ _ _ _ => trivial) ?_ ?_
    · rintro k v H2 H3 hk ⟨s2, kvs, hd, lk, al⟩ ⟨rfl, rfl⟩
      refine ⟨rfl, tyes ?_⟩
      refine ⟨_, rfl, k, ?_, by omega, ?_⟩
      · show [V.int 0, V.int (0 + (k : Int))] = _
        rw [Int.zero_add]
      refine ⟨_, rfl, by show 2 ≤ sizeLine; decide, fun t ht => ⟨kvs, Sum.inr (cellS k), rfl, same_new ht _ _ hd, by rw [sizeLine_eq]; omega, same_set (same_trans s2 (same_new ht)) hD, _, upd_same, ?_, fun c hc => ?_⟩⟩
      · have := DSub.putK_len kvs (Sum.inr (cellS k)) (V.ref t)
        omega
      · rw [valV_put]
        by_cases q : c = k
        · subst q
          refine ⟨t, if_pos rfl, ?_⟩
          have ntD : t ≠ D := fun e => by
            rw [e, hd] at ht
            cases ht
          rw [upd_ne ntD, upd_same]
          show some (HO.tup [V.str "take", V.int (0 + (c : Int))]) = _
          rw [Int.zero_add]
        · have ne : ¬ ((Sum.inr (cellS c) : Key) = Sum.inr (cellS k)) := fun e => q (cell_inj c (by omega) k (by omega) (Sum.inr.inj e))
          rw [if_neg ne]
          obtain ⟨t2, v2, h2⟩ := al c (by omega)
          refine ⟨t2, v2, ?_⟩
          have n1 : t2 ≠ D := fun e => by
            rw [e, hd] at h2
            cases h2
          rw [upd_ne n1]
          exact same_new ht _ _ h2
    · rintro H2 ⟨s2, kvs, hd, lk, al⟩
      have s12 := same_trans s1 s2
      exact ⟨_, rfl, _, rfl, p, cells, a, D, W, rfl, p2.1, c8, s12 _ _ ha, gw, ⟨kvs, hd, al⟩, fun H3 d ts ys s3 nd perm srt hd3 hR => want H3 d ts ys (same_trans s12 s3) (s12.free nd) perm srt hd3 hR⟩
end
end Vb
end L2

set_option Elab.async false
set_option linter.all false
set_option maxRecDepth 100000
set_option maxHeartbeats 8000000
/-! Vb, k30: parts of rows that are no numbers. -/
namespace L2
namespace Vb
open PySem PySem.Spec PyProof.Rows
def limL : List Str := ["number", "box", "cell", "global"]
/-- what the parts of the rows that are handed in are -/
def partOkB (k : Str) (e : PyData) : Bool := if k ∈ limL then smallD e else if k = "at" then (match e with
  | .int i => decide (i = 1)
  | _ => false) else if k = "ats" then (match e with
  | .list [.int i, .int j] => decide (i = 1) && decide (j = 1)
  | _ => false) else if k = "stops" then (match e with
  | .list [.tuple [.str x]] => decide (x = "s")
  | _ => false) else (match e with
  | .str x => decide (x = "m")
  | _ => false)
/-- an expression that is never reached -/
def tNo : TE := fun _ _ _ => False
theorem pe_no {X : Cx} {e : Expr} : PE X e tNo := ⟨fun _ _ _ _ _ _ h => h.elim⟩
def spName : Sp := fun vs H Q _ => ∃ x : Str, vs = [.str x] ∧ x ∈ [("m" : Str), "s"] ∧ Q (.bl true) H
def spAts : Sp := fun vs H Q _ => ∃ a : Addr, vs = [.ref a] ∧ H a = some (.lst [.int 1, .int 1]) ∧ ∀ H', Same H H' → Q (.bl true) H'
def spLabels : Sp := fun vs H Q _ => ∃ a : Addr, vs = [.ref a] ∧ H a = some (.tup [.str "s"]) ∧ ∀ H', Same H H' → Q (.bl true) H'
def spStops : Sp := fun vs H Q _ => ∃ a t : Addr, vs = [.ref a] ∧ H a = some (.lst [.ref t]) ∧ H t = some (.tup [.str "s"]) ∧ ∀ H', Same H H' → Q (.bl true) H'
def spOther : Sp := fun vs H Q _ => ∃ (k : Str) (v : V) (e : PyData) (n : Nat), vs = [.str k, v] ∧ Sho n H v e ∧ partOkB k e = true ∧ k ∉ limL ∧ ∀ H', Same H H' → Q (.bl true) H'
theorem name_good : ∀ x, x ∈ [("m" : Str), "s"] → x.length = 1 ∧ Txt.isascii x = true ∧ Txt.isalpha x = true ∧ Txt.islower x = true := by decide +kernel
abbrev sName : Stmt := topS 14
abbrev nName : List Str := ["value"]
theorem scName : FnScope nName ["value"] (defScope sName) := ⟨rfl, rfl, rfl, by decide +kernel, rfl, by decide +kernel, by decide +kernel⟩
-- cells set()
abbrev sAts : Stmt := topS 25
abbrev nAts : List Str := ["value", "at"]
theorem scAts : FnScope nAts ["value"] (defScope sAts) := ⟨rfl, rfl, rfl, by decide +kernel, rfl, by decide +kernel, by decide +kernel⟩
-- cells set()
abbrev sLabels : Stmt := topS 26
abbrev nLabels : List Str := ["value", "label"]
theorem scLabels : FnScope nLabels ["value"] (defScope sLabels) := ⟨rfl, rfl, rfl, by decide +kernel, rfl, by decide +kernel, by decide +kernel⟩
-- cells set()
abbrev sStops : Stmt := topS 27
abbrev nStops : List Str := ["value", "stop", "at"]
theorem scStops : FnScope nStops ["value"] (defScope sStops) := ⟨rfl, rfl, rfl, by decide +kernel, rfl, by decide +kernel, by decide +kernel⟩
-- cells {'value'}
abbrev sOther : Stmt := topS 29
abbrev nOther : List Str := ["kind", "value"]
theorem scOther : FnScope nOther ["kind", "value"] (defScope sOther) := ⟨rfl, rfl, rfl, by decide +kernel, rfl, by decide +kernel, by decide +kernel⟩
-- cells set()
section
variable {P : Program} {w : World} {K : PySem.W.Frag} {mg : Str → Option Value} {base : Heap}
theorem ok_Name {f : Addr} {fd : FuncData} (F : Fun K "is_name" "is_name" sName f fd) (gLen : mg "len" = none) (gType : mg "type" = none) (gStr : mg "str" = none) (gL : ∃ t, mg "LONGEST_NAME" = some (.int 8 t)) :
    FnOk P w K mg base CX0 1 f fd ["value"] spName := by
  refine F.ok scName (fun vs H Q E h => ?_) (fun cdv A outer s0 H vs Q E hr h => ?_)
  · obtain ⟨x, rfl, _⟩ := h
    rfl
  · obtain ⟨x, rfl, mx, want⟩ := h
    refine ⟨_, (pss_cons (ps_if (PW.pt (pw_or (pt_cmpR op_isNotTy (pe_typeD rfl gType (pv 0)) (pe_bltn rfl gStr boot_strT rel_strT) (nomark _)) (pw_or1 (pt_not (pt_chain op_le op_le pe_int (pe_callB (call_len) (by rfl) gLen PySem.boot_len (pa_cons (pv 0) pa_nil)) (pe_gint rfl gL))))))
        (pss_one (ps_ret pe_bl))
        pss_nil)
      (pss_one (ps_ret (pe_and (pe_bm0 PySem.F.plainAttrs_str PySem.F.slot_str_isascii PySem.F.type_str_isascii mt_isascii (pv 0)) (pe_and (pe_bm0 PySem.F.plainAttrs_str PySem.F.slot_str_isalpha PySem.F.type_str_isalpha mt_isalpha (pv 0)) (pe_one (pe_bm0 PySem.F.plainAttrs_str PySem.F.slot_str_islower PySem.F.type_str_islower mt_islower (pv 0)))))))), ?_⟩
    obtain ⟨g1, g2, g3, g4⟩ := name_good x mx
    refine ⟨_, rfl, "str", rfl, _, _, rfl, rfl, _, rfl, iteF ?_⟩
    refine ⟨_, rfl, _, _, rfl, ⟨by rw [g1]; decide, rfl⟩, _, _, rfl, rfl, _, rfl, ?_⟩
    rw [g1]
    refine iteT ⟨_, _, rfl, rfl, _, rfl, ?_⟩
    refine iteF ?_
    refine ⟨_, rfl, rfl, _, rfl, rfl, trivial, _, rfl, ?_⟩
    rw [g2]
    refine iteT ⟨_, rfl, rfl, _, rfl, rfl, trivial, _, rfl, ?_⟩
    rw [g3]
    refine iteT ⟨_, rfl, rfl, _, rfl, rfl, trivial, ?_⟩
    rw [g4]
    exact want
theorem ok_Ats {f fis_count : Addr} {fd fdis_count : FuncData} (F : Fun K "are_ats" "are_ats" sAts f fd)
    (Fis_count : Fun K "is_count" "is_count" sCount fis_count fdis_count) (Gis_count : FnOk P w K mg base CX0 1 fis_count fdis_count ["value"] spCount) (gis_count : mg "is_count" = some (.ref fis_count)) (gAll : mg "all" = none) (gLen : mg "len" = none) (gList : mg "list" = none) (gType : mg "type" = none) (gF : ∃ t, mg "FEWEST_WAYS" = some (.int 2 t)) (gM : ∃ t, mg "MOST_WAYS" = some (.int 4 t)) :
    FnOk P w K mg base CX0 2 f fd ["value"] spAts := by
  have bis_count : Binds K fdis_count ["value"] [] := Fis_count.binds fun _ _ _ _ _ _ us hl => match us, hl with | [_], _ => rfl
  refine F.ok scAts (fun vs H Q E h => ?_) (fun cdv A outer s0 H vs Q E hr h => ?_)
  · obtain ⟨a, rfl, _⟩ := h
    rfl
  · obtain ⟨a, rfl, ha, want⟩ := h
    refine ⟨_, (pss_one (ps_ret (pe_and (pe_cmpR op_isTy (pe_typeD rfl gType (pv 0)) (pe_bltn rfl gList boot_list rel_list) (nomark _)) (pe_and (pe_chain op_le op_le (pe_gint rfl gF) (pe_callB (call_len_seq) (by rfl) gLen PySem.boot_len (pa_cons (pv 0) pa_nil)) (pe_gint rfl gM)) (pe_one (pe_callB (cr_all rfl) (by rfl) gAll boot_all (pa_cons (pe_lc (own := [("at", 1)]) (g := (gName 1)) (tt := tYes) rfl scAts.nd (pi_list (pv 0)) (blkOk_by (N := nAts) (sc := defScope sAts) (by decide +kernel)) (fun _ _ _ _ _ => pg_name (i := 1) scAts.nd rfl (Or.inl rfl)) (fun _ _ _ _ _ => pts_nil) (fun _ _ _ _ _ => (pe_call Gis_count (hr.mono (by decide)) rfl gis_count Fis_count.kp bis_count .nil pass0 (pa_cons (pv 1) pa_nil)))) pa_nil))))))), ?_⟩
    refine ⟨_, rfl, "list", by simp only [zTyD, ha], _, _, rfl, rfl, _, rfl, iteT ?_⟩
    refine ⟨_, rfl, a, _, rfl, .inl (SqL.of ha), _, _, rfl, rfl, _, rfl, iteT ⟨_, _, rfl, rfl, _, rfl, iteT ?_⟩⟩
    refine ⟨_, rfl, a, rfl, ⟨_, SqL.of ha⟩, fun D hD => ?_⟩
    refine lc_list (xs := [.int 1, .int 1]) (GrowB H D [true, true]) (GrowB.start hD) (fun i H' _ z => SqL.of (z.1 _ _ ha)) ?_ ?_
    · rintro k x H' hx g
      have e : x = .int 1 ∧ k < 2 := by
        rcases k with _ | _ | k
        · exact ⟨(Option.some.inj hx).symm, by omega⟩
        · exact ⟨(Option.some.inj hx).symm, by omega⟩
        · cases hx
      obtain ⟨rfl, hk⟩ := e
      refine ⟨rfl, tyes ⟨_, rfl, 1, rfl, ?_⟩⟩
      have hb : [true, true][k]? = some true := by
        rcases k with _ | _ | k
        · rfl
        · rfl
        · omega
      obtain ⟨acc, k1, k2, k3⟩ := g.step hD same_rfl hb
      exact ⟨acc, k1, size_ok (by omega), k3⟩
    · intro H1 g
      obtain ⟨s1, hD1⟩ := g.done (by show 2 ≤ 2; decide)
      exact ⟨D, _, rfl, SqL.of hD1, want H1 s1⟩
theorem ok_Labels {f fNm : Addr} {fd fdNm : FuncData} (F : Fun K "are_labels" "are_labels" sLabels f fd)
    (FNm : Fun K "is_name" "is_name" sName fNm fdNm) (GNm : FnOk P w K mg base CX0 1 fNm fdNm ["value"] spName) (gNm : mg "is_name" = some (.ref fNm)) (gType : mg "type" = none) (gAll : mg "all" = none) (gLen : mg "len" = none) (gTuple : mg "tuple" = none) :
    FnOk P w K mg base CX0 2 f fd ["value"] spLabels := by
  have bNm : Binds K fdNm ["value"] [] := FNm.binds fun _ _ _ _ _ _ us hl => match us, hl with | [_], _ => rfl
  refine F.ok scLabels (fun vs H Q E h => ?_) (fun cdv A outer s0 H vs Q E hr h => ?_)
  · obtain ⟨a, rfl, _⟩ := h
    rfl
  · obtain ⟨a, rfl, ha, want⟩ := h
    refine ⟨_, (pss_one (ps_ret (pe_and (pe_cmpR op_isTy (pe_typeD rfl gType (pv 0)) (pe_bltn rfl gTuple boot_tuple rel_tupleT) (nomark _)) (pe_and (pe_cmpR op_gt (pe_callB (call_len_seq) (by rfl) gLen PySem.boot_len (pa_cons (pv 0) pa_nil)) pe_int (nomark _)) (pe_one (pe_callB (cr_all rfl) (by rfl) gAll boot_all (pa_cons (pe_lc (own := [("label", 1)]) (g := (gName 1)) (tt := tYes) rfl scLabels.nd (pi_tup (pv 0)) (blkOk_by (N := nLabels) (sc := defScope sLabels) (by decide +kernel)) (fun _ _ _ _ _ => pg_name (i := 1) scLabels.nd rfl (Or.inl rfl)) (fun _ _ _ _ _ => pts_nil) (fun _ _ _ _ _ => (pe_call GNm (hr.mono (by decide)) rfl gNm FNm.kp bNm .nil pass0 (pa_cons (pv 1) pa_nil)))) pa_nil))))))), ?_⟩
    refine ⟨_, rfl, "tuple", by simp only [zTyD, ha], _, _, rfl, rfl, _, rfl, iteT ?_⟩
    refine ⟨_, rfl, a, _, rfl, .inr (SqT.of ha), _, _, rfl, rfl, _, rfl, iteT ?_⟩
    refine ⟨_, rfl, a, rfl, ⟨_, SqT.of ha⟩, fun D hD => ?_⟩
    refine lc_it walk_tup (GrowB H D [true]) (GrowB.start hD) (fun i H' _ z => SqT.of (z.1 _ _ ha)) ?_ ?_
    · rintro k x H1 H2 hk g ⟨rfl, hx⟩
      have hk : k < 1 := hk
      obtain rfl : k = 0 := by omega
      obtain rfl : V.str "s" = x := Option.some.inj hx
      refine ⟨rfl, tyes ⟨_, rfl, "s", rfl, by decide +kernel, ?_⟩⟩
      obtain ⟨acc, k1, k2, k3⟩ := g.step (x := true) hD same_rfl rfl
      exact ⟨acc, k1, size_ok (by omega), k3⟩
    · intro H1 g
      obtain ⟨s1, hD1⟩ := g.done (by show 1 ≤ 1; decide)
      exact ⟨D, _, rfl, SqL.of hD1, want H1 s1⟩
theorem ok_Stops {f fLb : Addr} {fd fdLb : FuncData} (F : Fun K "are_stops" "are_stops" sStops f fd)
    (FLb : Fun K "are_labels" "are_labels" sLabels fLb fdLb) (GLb : FnOk P w K mg base CX0 2 fLb fdLb ["value"] spLabels) (gLb : mg "are_labels" = some (.ref fLb)) (gType : mg "type" = none) (gAll : mg "all" = none) (gLen : mg "len" = none) (gList : mg "list" = none) (gRange : mg "range" = none) :
    FnOk P w K mg base CX0 3 f fd ["value"] spStops := by
  have bLb : Binds K fdLb ["value"] [] := FLb.binds fun _ _ _ _ _ _ us hl => match us, hl with | [_], _ => rfl
  refine F.ok scStops (fun vs H Q E h => ?_) (fun cdv A outer s0 H vs Q E hr h => ?_)
  · obtain ⟨a, t, rfl, _⟩ := h
    rfl
  · obtain ⟨a, t, rfl, ha, ht, want⟩ := h
    refine ⟨_, (pss_cons (ps_if (PW.pt (pw_or (pt_cmpR op_isNotTy (pe_typeD rfl gType (pv 0)) (pe_bltn rfl gList boot_list rel_list) (nomark _)) (pw_or (pt_not (pt_truth (pv 0) (by intro _; rfl))) (pw_or1 (pt_not (pt_val (pe_callB (cr_all rfl) (by rfl) gAll boot_all (pa_cons (pe_lc (own := [("stop", 1)]) (g := (gName 1)) (tt := tYes) rfl scStops.nd (pi_list (pv 0)) (blkOk_by (N := nStops) (sc := defScope sStops) (by decide +kernel)) (fun _ _ _ _ _ => pg_name (i := 1) scStops.nd rfl (Or.inl rfl)) (fun _ _ _ _ _ => pts_nil) (fun _ _ _ _ _ => (pe_call GLb (hr.mono (by decide)) rfl gLb FLb.kp bLb .nil pass0 (pa_cons (pv 1) pa_nil)))) pa_nil))))))))
        (pss_one (ps_ret pe_bl))
        pss_nil)
      (pss_one (ps_ret (pe_callB (cr_all rfl) (by rfl) gAll boot_all (pa_cons (pe_lc (own := [("at", 2)]) (g := (gName 2)) (tt := tYes) (te := tNo) rfl scStops.nd (pi_range2 rfl gRange (pa_cons pe_int (pa_cons (pe_callB (call_len_seq) (by rfl) gLen PySem.boot_len (pa_cons (pv 0) pa_nil)) pa_nil))) (blkOk_by (N := nStops) (sc := defScope sStops) (by decide +kernel)) (fun _ _ _ _ _ => pg_name (i := 2) scStops.nd rfl (Or.inl rfl)) (fun _ _ _ _ _ => pts_nil) (fun _ _ _ _ _ => pe_no)) pa_nil))))), ?_⟩
    refine ⟨_, rfl, "list", by simp only [zTyD, ha], _, _, rfl, rfl, _, rfl, iteF ?_⟩
    refine ⟨_, rfl, true, .inl ⟨_, SqL.of ha, rfl⟩, iteF ?_⟩
    refine ⟨_, rfl, a, rfl, ⟨_, SqL.of ha⟩, fun D hD => ?_⟩
    refine lc_list (xs := [.ref t]) (GrowB H D [true]) (GrowB.start hD) (fun i H' _ z => SqL.of (z.1 _ _ ha)) ?_ ?_
    · rintro k x H1 hx g
      obtain rfl : k = 0 := by
        rcases k with _ | k
        · rfl
        · cases hx
      obtain rfl : V.ref t = x := Option.some.inj hx
      refine ⟨rfl, tyes ⟨_, rfl, t, rfl, g.1 _ _ ht, fun H2 s2 => ?_⟩⟩
      obtain ⟨acc, k1, k2, k3⟩ := g.step (x := true) hD s2 rfl
      exact ⟨acc, k1, size_ok (by omega), k3⟩
    · intro H1 g
      obtain ⟨s1, hD1⟩ := g.done (by show 1 ≤ 1; decide)
      refine ⟨D, _, rfl, SqL.of hD1, _, rfl, iteF ?_⟩
      refine ⟨_, rfl, a, _, rfl, .inl (SqL.of (s1 _ _ ha)), 1, 1, rfl, ⟨by decide, by decide, by decide, by decide⟩, fun D2 hD2 => ?_⟩
      refine lc_range (lo := 1) (n := 0) (GrowB H1 D2 []) (GrowB.start hD2) (fun k H2 hk => absurd hk (Nat.not_lt_zero _)) ?_
      intro H2 g2
      obtain ⟨s2, hD3⟩ := g2.done (Nat.le_refl _)
      exact ⟨D2, _, rfl, SqL.of hD3, want H2 (same_trans s1 s2)⟩
theorem ok_Other {f fis_count fAt fSp fNm : Addr} {fd fdis_count fdAt fdSp fdNm : FuncData} (F : Fun K "is_other_part" "is_other_part" sOther f fd)
    (Fis_count : Fun K "is_count" "is_count" sCount fis_count fdis_count) (Gis_count : FnOk P w K mg base CX0 1 fis_count fdis_count ["value"] spCount) (gis_count : mg "is_count" = some (.ref fis_count))
    (FAt : Fun K "are_ats" "are_ats" sAts fAt fdAt) (GAt : FnOk P w K mg base CX0 2 fAt fdAt ["value"] spAts) (gAt : mg "are_ats" = some (.ref fAt))
    (FSp : Fun K "are_stops" "are_stops" sStops fSp fdSp) (GSp : FnOk P w K mg base CX0 3 fSp fdSp ["value"] spStops) (gSp : mg "are_stops" = some (.ref fSp))
    (FNm : Fun K "is_name" "is_name" sName fNm fdNm) (GNm : FnOk P w K mg base CX0 1 fNm fdNm ["value"] spName) (gNm : mg "is_name" = some (.ref fNm)) :
    FnOk P w K mg base CX0 4 f fd ["kind", "value"] spOther := by
  have bis_count : Binds K fdis_count ["value"] [] := Fis_count.binds fun _ _ _ _ _ _ us hl => match us, hl with | [_], _ => rfl
  have bAt : Binds K fdAt ["value"] [] := FAt.binds fun _ _ _ _ _ _ us hl => match us, hl with | [_], _ => rfl
  have bSp : Binds K fdSp ["value"] [] := FSp.binds fun _ _ _ _ _ _ us hl => match us, hl with | [_], _ => rfl
  have bNm : Binds K fdNm ["value"] [] := FNm.binds fun _ _ _ _ _ _ us hl => match us, hl with | [_], _ => rfl
  refine F.ok scOther (fun vs H Q E h => ?_) (fun cdv A outer s0 H vs Q E hr h => ?_)
  · obtain ⟨k, v, e, n, rfl, _⟩ := h
    rfl
  · obtain ⟨k, v, e, n, rfl, sh, ok, nl, want⟩ := h
    refine ⟨_, (pss_cons (ps_if (pt_cmpR op_eq (pv 0) pe_str (nomark _))
        (pss_one (ps_ret (pe_call Gis_count (hr.mono (by decide)) rfl gis_count Fis_count.kp bis_count .nil pass0 (pa_cons (pv 1) pa_nil))))
        pss_nil)
      (pss_cons (ps_if (pt_cmpR op_eq (pv 0) pe_str (nomark _))
        (pss_one (ps_ret (pe_call GAt (hr.mono (by decide)) rfl gAt FAt.kp bAt .nil pass0 (pa_cons (pv 1) pa_nil))))
        pss_nil)
      (pss_cons (ps_if (pt_cmpR op_eq (pv 0) pe_str (nomark _))
        (pss_one (ps_ret (pe_call GSp (hr.mono (by decide)) rfl gSp FSp.kp bSp .nil pass0 (pa_cons (pv 1) pa_nil))))
        pss_nil)
      (pss_one (ps_ret (pe_call GNm (hr.mono (by decide)) rfl gNm FNm.kp bNm .nil pass0 (pa_cons (pv 1) pa_nil))))))), ?_⟩
    unfold partOkB at ok
    rw [if_neg nl] at ok
    refine ⟨_, rfl, rfl, _, rfl, ?_⟩
    by_cases k1 : k = "at"
    · rw [if_pos k1] at ok
      refine ifT2 (decide_eq_true (congrArg V.str k1)) ?_
      split at ok
      · obtain rfl := sh.ofInt
        obtain rfl := of_decide_eq_true ok
        exact ⟨_, rfl, 1, rfl, want _ same_rfl⟩
      · cases ok
    rw [if_neg k1] at ok
    refine ifF2 (decide_eq_false fun h => k1 (V.str.inj h)) ⟨_, rfl, rfl, _, rfl, ?_⟩
    by_cases k2 : k = "ats"
    · rw [if_pos k2] at ok
      refine ifT2 (decide_eq_true (congrArg V.str k2)) ?_
      split at ok
      · obtain ⟨a, b⟩ := Bool.and_eq_true_iff.mp ok
        obtain rfl := of_decide_eq_true a
        obtain rfl := of_decide_eq_true b
        obtain ⟨m, a, ys, rfl, rfl, ha, ps⟩ := sh.ofList
        cases ps with
        | cons h1 ps =>
          cases ps with
          | cons h2 ps =>
            cases ps
            obtain rfl := h1.ofInt
            obtain rfl := h2.ofInt
            exact ⟨_, rfl, a, rfl, ha, want⟩
      · cases ok
    rw [if_neg k2] at ok
    refine ifF2 (decide_eq_false fun h => k2 (V.str.inj h)) ⟨_, rfl, rfl, _, rfl, ?_⟩
    by_cases k3 : k = "stops"
    · rw [if_pos k3] at ok
      refine ifT2 (decide_eq_true (congrArg V.str k3)) ?_
      split at ok
      · obtain rfl := of_decide_eq_true ok
        obtain ⟨m, a, ys, rfl, rfl, ha, ps⟩ := sh.ofList
        cases ps with
        | cons h1 ps =>
          cases ps
          obtain ⟨m2, t, zs, rfl, rfl, ht, qs⟩ := h1.ofTuple
          cases qs with
          | cons h2 qs =>
            cases qs
            obtain rfl := h2.ofStr
            exact ⟨_, rfl, a, t, rfl, ha, ht, want⟩
      · cases ok
    rw [if_neg k3] at ok
    refine ifF2 (decide_eq_false fun h => k3 (V.str.inj h)) ?_
    split at ok
    · obtain rfl := of_decide_eq_true ok
      obtain rfl := sh.ofStr
      exact ⟨_, rfl, "m", rfl, by decide +kernel, want _ same_rfl⟩
    · cases ok
end
end Vb
end L2

set_option Elab.async false
set_option linter.all false
set_option maxRecDepth 100000
set_option maxHeartbeats 8000000
/-! Vb, k30: the sizes of rows. -/
namespace L2
namespace Vb
open PySem PySem.Spec PyProof.Rows
/-- the table of the parts of rows, as it is written -/
structure PartsF (K : PySem.W.Frag) (w : World) (aP : Addr) : Prop where
  tab : ∃ es n, KDict K w aP es n
  row : ∀ q, q ∈ PARTS_OF_ROWS_D → ∃ a, PySem.W.nsIn K aP q.1 = some (some (.ref a)) ∧ ∀ H : Hp, SqT K H a (q.2.map V.str)
theorem tupA_ok {K : PySem.W.Frag} {a : Addr} {ws : List Str} (h : tupA K a ws = true) (H : Hp) : SqT K H a (ws.map V.str) := by
  unfold tupA at h
  split at h
  · cases h
  · rename_i o lk
    obtain ⟨h1, h2⟩ := Bool.and_eq_true_iff.mp h
    split at h2
    · rename_i its n e
      obtain ⟨h3, h4⟩ := Bool.and_eq_true_iff.mp h2
      exact .inr ⟨o, its, n, lk, of_decide_eq_true h1, e, of_decide_eq_true h3, He.relAll_ok h4⟩
    · cases h2
theorem parts_of {K : PySem.W.Frag} {w : World} (h : partsB K = true) (t : ∃ es n, KDict K w (He.ga K "PARTS_OF_ROWS") es n) : PartsF K w (He.ga K "PARTS_OF_ROWS") := by
  refine ⟨t, fun q m => ?_⟩
  have z := List.all_eq_true.mp h q m
  split at z
  · rename_i a e
    exact ⟨a, e, tupA_ok z⟩
  · cases z
def limZ (p c : Int) : SumZ := [("number", p), ("box", 2), ("cell", c), ("global", c)]
def limOf (p c : Int) (k : Str) : Int := if k = "number" then p else if k = "box" then 2 else c
theorem lim_in (p c : Int) {k : Str} (h : k ∈ limL) : valV (kvsZ (limZ p c)) (Sum.inr k) = some (.int (limOf p c k)) := by
  rw [val_kvs]
  rcases List.mem_cons.mp h with rfl | h
  · rfl
  rcases List.mem_cons.mp h with rfl | h
  · rfl
  rcases List.mem_cons.mp h with rfl | h
  · rfl
  rcases List.mem_cons.mp h with rfl | h
  · rfl
  cases h
theorem lim_out (p c : Int) {k : Str} (h : k ∉ limL) : valV (kvsZ (limZ p c)) (Sum.inr k) = none := by
  rw [val_kvs]
  have e : (limZ p c).find? (fun q => decide (q.1 = k)) = none := by
    rw [List.find?_eq_none]
    intro q m z
    have z := of_decide_eq_true z
    refine h ?_
    rcases List.mem_cons.mp m with rfl | m
    · rw [← z]; exact (by decide +kernel : ("number" : Str) ∈ limL)
    rcases List.mem_cons.mp m with rfl | m
    · rw [← z]; exact (by decide +kernel : ("box" : Str) ∈ limL)
    rcases List.mem_cons.mp m with rfl | m
    · rw [← z]; exact (by decide +kernel : ("cell" : Str) ∈ limL)
    rcases List.mem_cons.mp m with rfl | m
    · rw [← z]; exact (by decide +kernel : ("global" : Str) ∈ limL)
    cases m
  rw [e]
  rfl
def partB (p c : Int) (k : Str) (e : PyData) : Bool := if k ∈ limL then numD (limOf p c k) e else true
def kindsZ (x : Str) : List Str := ((PARTS_OF_ROWS_D.find? fun q => decide (q.1 = x)).map (·.2)).getD []
def isRowB (p c : Int) : PyData → Bool
  | .tuple (.str x :: r) => ((kindsZ x).zip r).all fun z => partB p c z.1 z.2
  | _ => false
def tupOkB : PyData → Bool
  | .tuple (.str x :: r) => (PARTS_OF_ROWS_D.any fun q => decide (q.1 = x) && decide (q.2 = kindsZ x)) && (decide ((kindsZ x).length = r.length) && ((kindsZ x).zip r).all fun z => partOkB z.1 z.2)
  | _ => false
theorem odd_tup : ∀ d, d ∈ oddRows → tupOkB d = true := by decide +kernel
theorem word_kinds : ∀ x, x ∈ wordsL → (PARTS_OF_ROWS_D.any fun q => decide (q.1 = x) && decide (q.2 = kindsZ x)) = true ∧ (kindsZ x).length = 2 ∧ (kindsZ x).all (fun k => decide (k ∈ limL)) = true := by decide +kernel
theorem small_part {k : Str} {e : PyData} (h : k ∈ limL) (s : smallD e = true) : partOkB k e = true := by
  unfold partOkB
  rw [if_pos h]
  exact s
theorem any_parts {x : Str} (h : (PARTS_OF_ROWS_D.any fun q => decide (q.1 = x) && decide (q.2 = kindsZ x)) = true) : (x, kindsZ x) ∈ PARTS_OF_ROWS_D := by
  obtain ⟨⟨q1, q2⟩, mq, z⟩ := List.any_eq_true.mp h
  obtain ⟨y1, y2⟩ := Bool.and_eq_true_iff.mp z
  obtain rfl : q1 = x := of_decide_eq_true y1
  obtain rfl : q2 = kindsZ q1 := of_decide_eq_true y2
  exact mq
theorem rowOk_tup {ds : List PyData} (h : RowOk (.tuple ds)) : ∃ (x : Str) (r : List PyData), ds = .str x :: r ∧ (x, kindsZ x) ∈ PARTS_OF_ROWS_D ∧ (kindsZ x).length = r.length ∧ ∀ (i : Nat) (k : Str) (e : PyData), (kindsZ x)[i]? = some k → r[i]? = some e → partOkB k e = true := by
  generalize e : PyData.tuple ds = d at h
  cases h with
  | non => cases e
  | lst => cases e
  | @row x a b h ha hb =>
    cases e
    obtain ⟨h1, h2, h3⟩ := word_kinds x h
    refine ⟨x, [a, b], rfl, any_parts h1, h2, fun i k e hk he => ?_⟩
    refine small_part (of_decide_eq_true (List.all_eq_true.mp h3 k (List.mem_of_getElem? hk))) ?_
    rcases i with _ | _ | i
    · cases he
      exact ha
    · cases he
      exact hb
    · cases he
  | odd h =>
    have z := odd_tup _ h
    subst e
    unfold tupOkB at z
    split at z
    · rename_i x r e
      cases e
      obtain ⟨z1, z2⟩ := Bool.and_eq_true_iff.mp z
      obtain ⟨z2, z3⟩ := Bool.and_eq_true_iff.mp z2
      refine ⟨x, r, rfl, any_parts z1, of_decide_eq_true z2, fun i k e hk he => ?_⟩
      have m : (k, e) ∈ (kindsZ x).zip r := List.mem_of_getElem? (i := i) (by rw [List.getElem?_zip_eq_some]; exact ⟨hk, he⟩)
      exact List.all_eq_true.mp z3 _ m
    · cases z
theorem words_kinds : (wordsL.all fun x => decide ((kindsZ x) = [("box" : Str), if x ∈ [("set" : Str), "times", "more"] then ("number" : Str) else if x = "take" then ("cell" : Str) else ("box" : Str)])) = true := by decide +kernel
theorem isRow_words {p : Int} {cells : Nat} {d : PyData} (h : RowOk d) : (isRowB p cells d && (match d with
    | .tuple (.str x :: _) => decide (x ∈ wordsL)
    | _ => false)) = rowB p cells d := by
  cases h with
  | non => rfl
  | lst => rfl
  | @row x a b h ha hb =>
    have k := of_decide_eq_true (List.all_eq_true.mp words_kinds x h)
    show (((kindsZ x).zip [a, b]).all (fun z => partB p cells z.1 z.2) && decide (x ∈ wordsL)) = (decide (x ∈ wordsL) && (numD 2 a && numD (boundZ p cells x) b))
    rw [decide_eq_true h, Bool.true_and, Bool.and_true, k]
    show (partB p cells "box" a && (partB p cells _ b && true)) = _
    rw [Bool.and_true]
    have e1 : partB p cells "box" a = numD 2 a := rfl
    rw [e1]
    unfold boundZ
    by_cases q1 : x ∈ [("set" : Str), "times", "more"]
    · rw [if_pos q1, if_pos q1]
      rfl
    · rw [if_neg q1, if_neg q1]
      by_cases q2 : x = "take"
      · rw [if_pos q2, if_pos q2]
        rfl
      · rw [if_neg q2, if_neg q2]
        rfl
  | odd h =>
    obtain ⟨x, r, rfl, _, nx⟩ := oddB_of (odd_row _ h)
    show (isRowB p cells (.tuple (.str x :: r)) && decide (x ∈ wordsL)) = _
    rw [decide_eq_false nx, Bool.and_false]
    unfold rowB
    split
    · rename_i s a b e
      cases e
      show false = (decide (x ∈ wordsL) && (numD 2 a && numD (boundZ p cells x) b))
      rw [decide_eq_false nx]
      rfl
    · rfl
/-- d[k], d a written dict -/
def tKd (K : PySem.W.Frag) (d : Addr) (td ty : TE) : TE := fun σ H Q => td σ H fun x H1 => ty σ H1 fun y H2 => ∃ (z : Str) (u0 : Value) (v0 : V), x = .ref d ∧ y = .str z ∧ PySem.W.nsIn K d z = some (some u0) ∧ RelV v0 u0 ∧ Q v0 H2
theorem pe_kdget {X : Cx} {o i : Expr} {td ty : TE} {pos : Pos} {d : Addr} {es : Array DictEntry} {n : Nat} (D : KDict X.K X.w d es n) (ho : PE X o td) (hi : PE X i ty) (hs : NoSl i) : PE X (.Subscript o i pos) (tKd X.K d td ty) := by
  refine ⟨fun pins s σ H Q I h => ?_⟩
  refine subD_of PySem.F.slot_dict_getitem.lookup hs (thn (ho.run pins s σ H _ I h) fun u s1 ⟨x, H1, I1, rx, q1⟩ => thn (hi.run pins s1 σ H1 _ I1 q1) fun iv s2 ⟨y, H2, I2, ry, z, u0, v0, ex, ey, e, r, q2⟩ => ?_)
  have k := op_item_kd D pins s2 σ H2 x y u iv Q I2 rx ry ⟨z, u0, v0, ex, ey, e, r, q2⟩
  subst ex
  obtain rfl : u = Value.ref d := rx
  exact ⟨kd_type D I2, k⟩
abbrev sInit : Stmt := stOf 0 (topS 28)
abbrev sIsRow : Stmt := stOf 1 (topS 28)
theorem scInit : FnScope ["self", "prime", "boxes", "cells", "main_cells"] ["self", "prime", "boxes", "cells", "main_cells"] (defScope sInit) := ⟨rfl, rfl, rfl, by decide +kernel, rfl, by decide +kernel, by decide +kernel⟩
theorem scIsRow : FnScope ["self", "value", "kinds", "kind", "part"] ["self", "value"] (defScope sIsRow) := ⟨rfl, rfl, rfl, by decide +kernel, rfl, by decide +kernel, by decide +kernel⟩
def spInit (C : Addr) : Sp := fun vs H Q _ => ∃ (x dx : Addr) (p c : Int), vs = [.ref x, .int p, .int 2, .int c, .int c] ∧ H x = some (.ins C dx []) ∧ ∀ H' l, H l = none → H' l = some (.dK (kvsZ (limZ p c))) → H' x = some (.ins C dx [("limits", .ref l)]) → (∀ b o, b ≠ x → H b = some o → H' b = some o) → Q .non H'
def spIsRow (C : Addr) : Sp := fun vs H Q _ => ∃ (x dx l : Addr) (p : Int) (cells : Nat) (v : V) (d : PyData) (n : Nat), vs = [.ref x, v] ∧ H x = some (.ins C dx [("limits", .ref l)]) ∧ H l = some (.dK (kvsZ (limZ p cells))) ∧ Sho n H v d ∧ RowOk d ∧ ∀ H', Same H H' → Q (.bl (isRowB p cells d)) H'
section
variable {P : Program} {w : World} {K : PySem.W.Frag} {mg : Str → Option Value} {base : Heap}
theorem ok_init {C f : Addr} {fd : FuncData} (F : Fun K "__init__" "Sizes.__init__" sInit f fd) (cC : Cls K C) (nL : NoAttr K C "limits") : FnOk P w K mg base CX0 1 f fd ["self", "prime", "boxes", "cells", "main_cells"] (spInit C) := by
  refine F.ok scInit (fun vs H Q E h => ?_) (fun cdv A outer s0 H vs Q E hr h => ?_)
  · obtain ⟨x, dx, p, c, rfl, _⟩ := h
    rfl
  · obtain ⟨x, dx, p, c, rfl, hx, want⟩ := h
    refine ⟨_, pss_one (ps_fld (pv 0) (pe_disp (pps_cons pe_str (pv 1) (pps_cons pe_str (pv 2) (pps_cons pe_str (pv 3) (pps_cons pe_str (pv 4) pps_nil)))) (by rfl) (by rfl) (fun z => by cases z) (by decide)) rfl), ?_⟩
    refine fun l hl => ⟨_, rfl, _, rfl, _, rfl, _, rfl, upd_same, [(Sum.inr "number", V.int p), (Sum.inr "box", V.int 2), (Sum.inr "cell", V.int c), (Sum.inr "global", V.int c)], rfl, by show 4 ≤ 15; decide, ?_⟩
    have nxl : x ≠ l := fun e => by
      rw [e, hl] at hx
      cases hx
    refine ⟨_, rfl, x, C, dx, [], rfl, ?_, cC, nL, by show 0 < 1000; decide, ?_⟩
    · rw [upd_ne nxl, upd_ne nxl]
      exact hx
    · refine want _ l hl ?_ upd_same fun b o nb e => ?_
      · rw [upd_ne (Ne.symm nxl), upd_same]
        rfl
      · have nl : b ≠ l := fun z => by
          rw [z, hl] at e
          cases e
        rw [upd_ne nb, upd_ne nl, upd_ne nl]
        exact e
theorem ok_isRow {C aP f fO : Addr} {fd fdO : FuncData} (F : Fun K "is_row" "Sizes.is_row" sIsRow f fd) (cC : Cls K C) (nL : NoAttr K C "limits") (PF : PartsF K w aP) (gP : mg "PARTS_OF_ROWS" = some (.ref aP))
    (FO : Fun K "is_other_part" "is_other_part" sOther fO fdO) (GO : FnOk P w K mg base CX0 4 fO fdO ["kind", "value"] spOther) (gO : mg "is_other_part" = some (.ref fO))
    (gType : mg "type" = none) (gTuple : mg "tuple" = none) (gStr : mg "str" = none) (gInt : mg "int" = none) (gLen : mg "len" = none) (gZip : mg "zip" = none) : FnOk P w K mg base CX0 5 f fd ["self", "value"] (spIsRow C) := by
  have bO : Binds K fdO ["kind", "value"] [] := FO.binds fun _ _ _ _ _ _ us hl => match us, hl with | [_, _], _ => rfl
  obtain ⟨es, n0, kd⟩ := PF.tab
  refine F.ok scIsRow (fun vs H Q E h => ?_) (fun cdv A outer s0 H vs Q E hr h => ?_)
  · obtain ⟨x, dx, l, p, cells, v, d, n, rfl, _⟩ := h
    rfl
  · obtain ⟨x, dx, l, p, cells, v, d, n, rfl, hx, hl, sh, okd, want⟩ := h
    refine ⟨_, (pss_cons (ps_if (PW.pt (pw_or (pt_cmpR op_isNotTy (pe_typeD rfl gType (pv 1)) (pe_bltn rfl gTuple boot_tuple rel_tupleT) (nomark _)) (pw_or (pt_not (pt_truth (pv 1) (by intro _; rfl))) (pw_or (pt_cmpR op_isNotTy (pe_typeD rfl gType (pe_ix ix_tup (pv 1) pe_int (fun _ _ => rfl))) (pe_bltn rfl gStr boot_strT rel_strT) (nomark _)) (pw_or1 (pt_cmpR (op_notIn_kd kd) (pe_ix ix_tup (pv 1) pe_int (fun _ _ => rfl)) (pe_glob (v := .ref _) rfl gP rfl (by decide)) (by rfl)))))))
        (pss_one (ps_ret pe_bl))
        pss_nil)
      (pss_cons (ps_set (i := 2) scIsRow.nd rfl (Or.inl rfl) (pe_kdget kd (pe_glob (v := .ref _) rfl gP rfl (by decide)) (pe_ix ix_tup (pv 1) pe_int (fun _ _ => rfl)) (fun _ _ => rfl)))
      (pss_cons (ps_if (pt_cmpR op_ne (pe_callB (call_len_seq) (by rfl) gLen PySem.boot_len (pa_cons (pv 1) pa_nil)) (pe_op op_add pe_int (pe_callB (call_len_seq) (by rfl) gLen PySem.boot_len (pa_cons (pv 2) pa_nil))) (nomark _))
        (pss_one (ps_ret pe_bl))
        pss_nil)
      (pss_cons (ps_for PassesOwn.never rfl (RZ.pi_zipA (by rfl) gZip (pa_cons (pv 2) (pa_cons (pe_slice sl_tup (pv 1) (po_some pe_int) po_none) pa_nil))) (pg_tup rfl (pgs_cons (pg_name (i := 3) scIsRow.nd rfl (Or.inl rfl)) (pgs_cons (pg_name (i := 4) scIsRow.nd rfl (Or.inl rfl)) pgs_nil)))
        (pss_one (ps_if (pt_cmp (pc_din (hu_of hr) (pv 3) (pe_fld (pv 0) rfl)))
            (pss_one (ps_if (PW.pt (pw_or (pt_cmpR op_isNotTy (pe_typeD rfl gType (pv 4)) (pe_bltn rfl gInt boot_int rel_int) (nomark _)) (pw_or1 (pt_not (pt_chain op_le op_lt pe_int (pv 4) (pe_dget (hu_of hr) (pe_fld (pv 0) rfl) (pv 3) (fun _ _ => rfl)))))))
                (pss_one (ps_ret pe_bl))
                pss_nil))
            (pss_one (ps_if (pt_not (pt_val (pe_call GO (hr.mono (by decide)) rfl gO FO.kp bO .nil pass0 (pa_cons (pv 3) (pa_cons (pv 4) pa_nil)))))
                (pss_one (ps_ret pe_bl))
                pss_nil)))))
      (pss_one (ps_ret pe_bl)))))), ?_⟩
    refine ⟨_, rfl, _, sh.ty, _, _, rfl, rfl, _, rfl, ?_⟩
    cases d with
    | none => exact iteT (want _ same_rfl)
    | bool b => exact iteT (want _ same_rfl)
    | int b => exact iteT (want _ same_rfl)
    | str b => exact iteT (want _ same_rfl)
    | list b => exact iteT (want _ same_rfl)
    | dict b => exact iteT (want _ same_rfl)
    | tuple ds =>
      obtain ⟨y, r, rfl, mP, lk, ok⟩ := rowOk_tup okd
      obtain ⟨m, a, ys, rfl, rfl, ha, ps⟩ := sh.ofTuple
      obtain ⟨aK, eK, hK⟩ := PF.row _ mP
      have hK : ∀ H : Hp, SqT K H aK ((kindsZ y).map V.str) := hK
      cases ps with
      | cons h1 ps =>
      rename_i v0 ys
      obtain rfl := h1.ofStr
      have lr := paired_len ps
      have at0 : atI (V.str y :: ys) 0 = some (.str y) := atI_nat (j := 0) rfl
      refine iteF ?_
      refine ⟨_, rfl, true, .inr (.inl ⟨_, SqT.of ha, rfl⟩), iteF ?_⟩
      refine ⟨_, rfl, a, _, 0, .str y, rfl, rfl, SqT.of ha, at0, "str", rfl, _, _, rfl, rfl, _, rfl, iteF ?_⟩
      refine ⟨_, rfl, a, _, 0, .str y, rfl, rfl, SqT.of ha, at0, y, _, rfl, rfl, eK, _, rfl, iteF ?_⟩
      refine ⟨_, rfl, a, _, 0, .str y, rfl, rfl, SqT.of ha, at0, y, .ref aK, .ref aK, rfl, rfl, eK, rfl, ?_⟩
      refine ⟨_, rfl, a, _, rfl, .inr (SqT.of ha), _, rfl, aK, _, rfl, .inr (hK _), _, _, rfl, rfl, rfl, _, rfl, ?_⟩
      refine ifF2 (by
        have e : ((V.str y :: ys).length : Int) = 1 + (((kindsZ y).map V.str).length : Int) := by
          rw [List.length_map, List.length_cons, lr, lk]
          omega
        rw [e, decide_eq_true rfl]
        rfl) ?_
      refine ⟨_, rfl, _, rfl, _, rfl, a, _, rfl, SqT.of ha, ?_, fun tB htB => ?_⟩
      · intro h
        have h1 : HT.sIx (V.str y :: ys).length 0 (some 1) = 0 := h.1
        have e : HT.sIx (ys.length + 1) 0 (some 1) = 1 := by
          have z := HT.sIx_nat (ys.length + 1) 0 1
          rw [Nat.min_eq_left (by omega)] at z
          exact z
        rw [List.length_cons, e] at h1
        cases h1
      have ec : cutV (V.str y :: ys) (some 1) none = ys := cut_drop (V.str y :: ys) 1
      rw [ec]
      have sB := same_new (o := .tup ys) htB
      refine ⟨aK, tB, _, _, rfl, .inr ⟨hK _, SqT.of upd_same, ?_⟩⟩
      refine RZ.for_zipT (xs := (kindsZ y).map V.str) (ys := ys) (by rw [List.length_map, lk, lr]) (fun i σ H' => Same H H' ∧ H' tB = some (.tup ys) ∧ (∃ u3 u4 : Option V, σ = [some (.ref x), some (.ref a), some (.ref aK), u3, u4]) ∧ ∀ j, j < i → ∀ k e, (kindsZ y)[j]? = some k → r[j]? = some e → partB p cells k e = true) ⟨sB, upd_same, ⟨_, _, rfl⟩, fun j hj => absurd hj (Nat.not_lt_zero _)⟩ (fun i σ H' z => ⟨hK _, SqT.of z.2.1⟩) ?_ ?_
      · rintro i kx part T σ H1 hk0 hp ⟨s1, hB1, ⟨u3, u4, rfl⟩, al⟩ hT
        rw [List.getElem?_map] at hk0
        obtain ⟨k, hk, rfl⟩ := Option.map_eq_some_iff.mp hk0
        clear hk0
        obtain ⟨e, he, se⟩ := paired_at ps hp
        have okp := ok i k e hk he
        have sT := same_new (o := .tup [V.str k, part]) hT
        have s2 := same_trans s1 sT
        have hx2 := s2 _ _ hx
        have hl2 := s2 _ _ hl
        have nxt : ∀ {H5 : Hp}, Same (upd H1 T (.tup [V.str k, part])) H5 → partB p cells k e = true → Same H H5 ∧ H5 tB = some (.tup ys) ∧ (∃ u3 u4 : Option V, [some (V.ref x), some (.ref a), some (.ref aK), some (.str k), some part] = [some (.ref x), some (.ref a), some (.ref aK), u3, u4]) ∧ ∀ j, j < i + 1 → ∀ k e, (kindsZ y)[j]? = some k → r[j]? = some e → partB p cells k e = true := fun {H5} s5 hb => ⟨same_trans s2 s5, s5 _ _ (sT _ _ hB1), ⟨_, _, rfl⟩, fun j hj k' e' hk' he' => by
          rcases Nat.lt_or_ge j i with lt | ge
          · exact al j lt k' e' hk' he'
          · obtain rfl : j = i := by omega
            rw [hk] at hk'
            rw [he] at he'
            cases hk'
            cases he'
            exact hb⟩
        have stop : ∀ {H5 : Hp}, Same (upd H1 T (.tup [V.str k, part])) H5 → partB p cells k e = false → Q (.bl false) H5 := fun {H5} s5 hb => by
          have z : isRowB p cells (.tuple (.str y :: r)) = false := by
            refine List.all_eq_false.mpr ⟨(k, e), List.mem_of_getElem? (i := i) (by rw [List.getElem?_zip_eq_some]; exact ⟨hk, he⟩), ?_⟩
            show ¬ partB p cells k e = true
            rw [hb]
            decide
          rw [z] at want
          exact want _ (same_trans s2 s5)
        refine ⟨T, _, rfl, SqT.of upd_same, rfl, _, _, rfl, _, _, rfl, rfl, ?_⟩
        refine ⟨_, rfl, _, rfl, x, C, dx, _, _, rfl, hx2, cC, nL, rfl, l, _, rfl, DGet.k (k := Sum.inr k) hl2, _, rfl, ?_⟩
        by_cases ml : k ∈ limL
        · rw [lim_in p cells ml]
          refine iteT ?_
          have sm : smallD e = true := by
            unfold partOkB at okp
            rw [if_pos ml] at okp
            exact okp
          have pb : partB p cells k e = numD (limOf p cells k) e := if_pos ml
          refine ⟨_, rfl, _, (se.up s2).ty, _, _, rfl, rfl, _, rfl, ?_⟩
          cases e with
          | bool b => exact iteT (stop same_rfl pb)
          | int j =>
            obtain rfl := se.ofInt
            have pb : partB p cells k (.int j) = (decide (0 ≤ j) && decide (j < limOf p cells k)) := pb
            refine iteF ⟨_, rfl, _, _, rfl, rfl, _, rfl, ?_⟩
            by_cases q0 : 0 ≤ j
            · refine ifT2 (decide_eq_true q0) ⟨_, rfl, x, C, dx, _, _, rfl, hx2, cC, nL, rfl, _, rfl, l, _, rfl, (by
                have z := DGet.k (k := Sum.inr k) hl2
                rw [lim_in p cells ml] at z
                exact z), _, _, rfl, rfl, _, rfl, ?_⟩
              by_cases q1 : j < limOf p cells k
              · rw [decide_eq_true q0, decide_eq_true q1] at pb
                exact ifF2 (by rw [decide_eq_true q1]; rfl) (nxt same_rfl pb)
              · rw [decide_eq_true q0, decide_eq_false q1] at pb
                exact ifT2 (by rw [decide_eq_false q1]; rfl) (stop same_rfl pb)
            · rw [decide_eq_false q0] at pb
              exact ifF2 (decide_eq_false q0) ⟨_, rfl, iteT (stop same_rfl pb)⟩
          | _ => cases sm
        · rw [lim_out p cells ml]
          refine iteF ?_
          exact ⟨_, rfl, _, rfl, k, part, e, m, rfl, se.up s2, okp, ml, fun H5 s5 => ⟨_, rfl, iteF (nxt s5 (if_neg ml))⟩⟩
      · rintro σ H1 ⟨s1, hB1, ⟨u3, u4, rfl⟩, al⟩
        have z : isRowB p cells (.tuple (.str y :: r)) = true := by
          refine List.all_eq_true.mpr fun q mq => ?_
          obtain ⟨j, hj⟩ := List.getElem?_of_mem mq
          rw [List.getElem?_zip_eq_some] at hj
          refine al j ?_ _ _ hj.1 hj.2
          rw [List.length_map]
          exact (List.getElem?_eq_some_iff.mp hj.1).1
        rw [z] at want
        exact want _ s1
end
end Vb
end L2

set_option Elab.async false
set_option linter.all false
set_option maxRecDepth 100000
set_option maxHeartbeats 4000000
/-! Vb, k30: columns, and what the law takes for right. -/
namespace L2
namespace Vb
open PySem PySem.Spec PyProof.Rows
def vecF (L : Nat) (f : StA.Fn) : List Int := (List.range L).map f
def colOf (cells : Nat) (s : StA.Fn × StA.Fn) (x : Str) : StA.Fn := if x = boxS 0 then s.1 else if x = boxS 1 then s.2 else if x = "" then StA.E (cells + 2) else StA.E (2 + numC x)
def keyV (cells : Nat) : List Str := [boxS 0, boxS 1] ++ keysZ cells
theorem keys_len (cells : Nat) : (keysZ cells).length = cells + 1 := by
  unfold keysZ
  rw [List.length_append, List.length_map, List.length_range]
  rfl
theorem keyV_len (cells : Nat) : (keyV cells).length = cells + 3 := by
  unfold keyV
  rw [List.length_append, keys_len]
  show 2 + (cells + 1) = cells + 3
  omega
theorem keyV_cell {cells c : Nat} (h : c < cells) : (keyV cells)[2 + c]? = some (cellS c) := by
  unfold keyV keysZ
  rw [List.getElem?_append_right (by show 2 ≤ 2 + c; omega)]
  show (_ ++ _)[2 + c - 2]? = _
  rw [show 2 + c - 2 = c by omega, List.getElem?_append_left (by rw [List.length_map, List.length_range]; exact h), List.getElem?_map, List.getElem?_range h]
  rfl
theorem keyV_last (cells : Nat) : (keyV cells)[cells + 2]? = some "" := by
  unfold keyV keysZ
  rw [List.getElem?_append_right (by show 2 ≤ cells + 2; omega)]
  show (_ ++ _)[cells + 2 - 2]? = _
  rw [show cells + 2 - 2 = cells by omega, List.getElem?_append_right (by rw [List.length_map, List.length_range]; exact Nat.le_refl _), List.length_map, List.length_range, Nat.sub_self]
  rfl
theorem box0_nc : ∀ c, c < 9 → cellS c ≠ boxS 0 ∧ cellS c ≠ boxS 1 := by decide +kernel
/-- the columns of the keys ahead of all rows -/
theorem col_start {cells j : Nat} (c8 : cells ≤ 8) {x : Str} (h : (keyV cells)[j]? = some x) : colOf cells (StA.E 0, StA.E 1) x = StA.E j := by
  have lj := (List.getElem?_eq_some_iff.mp h).1
  rw [keyV_len] at lj
  unfold colOf
  rcases j with _ | _ | j
  · obtain rfl : boxS 0 = x := Option.some.inj h
    rw [if_pos rfl]
  · obtain rfl : boxS 1 = x := Option.some.inj h
    rw [if_neg (by decide +kernel), if_pos rfl]
  · by_cases q : j < cells
    · have e := keyV_cell q
      rw [show 2 + j = j + 1 + 1 by omega, h] at e
      obtain rfl := Option.some.inj e
      have n := box0_nc j (by omega)
      rw [if_neg n.1, if_neg n.2, if_neg (cell_ne j (by omega)), numC_cell j (by omega), show 2 + j = j + 1 + 1 by omega]
    · obtain rfl : j = cells := by omega
      have e := keyV_last j
      rw [show j + 2 = j + 1 + 1 by omega, h] at e
      obtain rfl := Option.some.inj e
      rw [if_neg (by decide +kernel), if_neg (by decide +kernel), if_pos rfl]
theorem col_box {cells : Nat} (s : StA.Fn × StA.Fn) {b : Nat} (h : b < 2) : colOf cells s (boxS b) = StA.pick s b := by
  unfold colOf
  obtain rfl | rfl : b = 0 ∨ b = 1 := by omega
  · rw [if_pos rfl]
    rfl
  · rw [if_neg (by decide +kernel), if_pos rfl]
    rfl
theorem col_cell {cells : Nat} (s : StA.Fn × StA.Fn) {c : Nat} (h : c < 9) : colOf cells s (cellS c) = StA.E (2 + c) := by
  unfold colOf
  have n := box0_nc c h
  rw [if_neg n.1, if_neg n.2, if_neg (cell_ne c h), numC_cell c h]
theorem col_last {cells : Nat} (s : StA.Fn × StA.Fn) : colOf cells s "" = StA.E (cells + 2) := by
  unfold colOf
  rw [if_neg (by decide +kernel), if_neg (by decide +kernel), if_pos rfl]
/-- a box's columns put anew -/
theorem col_put {cells : Nat} (s : StA.Fn × StA.Fn) {h : Nat} (h2 : h < 2) (f : StA.Fn) (x : Str) : colOf cells (StA.put s h f) x = if x = boxS h then f else colOf cells s x := by
  unfold colOf StA.put
  obtain rfl | rfl : h = 0 ∨ h = 1 := by omega
  · rw [if_pos rfl]
    by_cases q : x = boxS 0
    · rw [if_pos q, if_pos q]
    · rw [if_neg q, if_neg q, if_neg q]
  · by_cases q : x = boxS 1
    · have n : x ≠ boxS 0 := fun e => absurd (q.symm.trans e) (by decide +kernel)
      rw [if_pos q, if_neg n, if_pos q]
      rfl
    · rw [if_neg q, if_neg q, if_neg q]
      rfl
/-! ### the sums of the rows -/
def dotW (W : SumZ) (g : Str → Int) : Int := (W.map fun q => q.2 * g q.1).sum
theorem dot_noZ (p : Int) (g : Str → Int) : ∀ W : SumZ, dotW (noZ p W) g % p = dotW W g % p
  | [] => rfl
  | q :: W => by
    have ih := dot_noZ p g W
    have e : noZ p (q :: W) = (if q.2 % p ≠ 0 then [(q.1, q.2 % p)] else []) ++ noZ p W := by
      unfold noZ
      by_cases z : q.2 % p ≠ 0
      · rw [List.filter_cons_of_pos (p := fun q : Str × Int => decide (q.2 % p ≠ 0)) (decide_eq_true z), if_pos z]
        rfl
      · rw [List.filter_cons_of_neg (p := fun q : Str × Int => decide (q.2 % p ≠ 0)) (by rw [decide_eq_false z]; decide), if_neg z]
        rfl
    have e2 : dotW (q :: W) g = q.2 * g q.1 + dotW W g := rfl
    rw [e, e2]
    by_cases z : q.2 % p ≠ 0
    · rw [if_pos z]
      show (q.2 % p * g q.1 + dotW (noZ p W) g) % p = _
      rw [Int.add_emod, ih, Int.mul_emod, Int.emod_emod, ← Int.mul_emod, ← Int.add_emod]
    · rw [if_neg z]
      have z : q.2 % p = 0 := Decidable.not_not.mp z
      show dotW (noZ p W) g % p = _
      rw [ih, Int.add_emod (q.2 * g q.1), Int.mul_emod, z, Int.zero_mul, Int.zero_emod, Int.zero_add, Int.emod_emod]
theorem dot_eq (W : SumZ) (g : Str → Int) : dotZ (W.map (·.2)) (W.map fun q => g q.1) = dotW W g := by
  unfold dotZ dotW
  congr 1
  induction W with
  | nil => rfl
  | cons q W ih =>
    rw [List.map_cons, List.map_cons, List.map_cons, List.zipWith_cons_cons, ih]
theorem get_vecF {L c : Nat} {f : StA.Fn} (h : c < L) : (vecF L f).getD c 0 = f c := by
  unfold vecF
  rw [List.getD_eq_getElem?_getD, List.getElem?_map, List.getElem?_range h]
  rfl
theorem told_dot {p : Int} {cells : Nat} {R : StA.R} (s : StA.Fn × StA.Fn) (fit : StA.fits p cells R) (c8 : cells ≤ 8) (c : Nat) : dotW (told p R) (fun x => colOf cells s x c) % p = StA.colR (cells + 2) R s c % p := by
  obtain ⟨w, h, n⟩ := R
  obtain ⟨h2, n0, n1⟩ := fit
  have h2 : h < 2 := h2
  have n0 : 0 ≤ n := n0
  cases w with
  | set =>
    show dotW (noZ p [("", n)]) _ % p = n * StA.E (cells + 2) c % p
    rw [dot_noZ]
    show (n * colOf cells s "" c + 0) % p = _
    rw [col_last, Int.add_zero]
  | copy =>
    have n1 : n < 2 := n1
    show (1 * colOf cells s (boxS n.toNat) c + 0) % p = StA.pick s n.toNat c % p
    rw [col_box s (by omega), Int.add_zero, Int.one_mul]
  | times =>
    show dotW (noZ p [(boxS h, n)]) _ % p = n * StA.pick s h c % p
    rw [dot_noZ]
    show (n * colOf cells s (boxS h) c + 0) % p = _
    rw [col_box s h2, Int.add_zero]
  | more =>
    show dotW (noZ p [(boxS h, 1), ("", n)]) _ % p = (StA.pick s h c + n * StA.E (cells + 2) c) % p
    rw [dot_noZ]
    show (1 * colOf cells s (boxS h) c + (n * colOf cells s "" c + 0)) % p = _
    rw [col_box s h2, col_last, Int.add_zero, Int.one_mul]
  | add =>
    have n1 : n < 2 := n1
    show dotW (told p ⟨.add, h, n⟩) _ % p = (StA.pick s h c + StA.pick s n.toNat c) % p
    by_cases q : (h : Int) = n
    · have et : told p ⟨.add, h, n⟩ = noZ p [(boxS h, 2)] := if_pos q
      rw [et, dot_noZ]
      show (2 * colOf cells s (boxS h) c + 0) % p = _
      have e : n.toNat = h := by omega
      rw [col_box s h2, e]
      rw [Int.add_zero, Int.two_mul]
    · have et : told p ⟨.add, h, n⟩ = [(boxS h, 1), (boxS n.toNat, 1)] := if_neg q
      rw [et]
      show (1 * colOf cells s (boxS h) c + (1 * colOf cells s (boxS n.toNat) c + 0)) % p = _
      rw [col_box s h2, col_box s (by omega), Int.add_zero, Int.one_mul, Int.one_mul]
  | take =>
    have n1 : n < (cells : Int) := n1
    show (1 * colOf cells s (cellS n.toNat) c + 0) % p = StA.E (2 + n.toNat) c % p
    rw [col_cell s (by omega), Int.add_zero, Int.one_mul]
theorem add_told {p : Int} {cells L : Nat} {R : StA.R} (s : StA.Fn × StA.Fn) (fit : StA.fits p cells R) (c8 : cells ≤ 8) : addZ p ((told p R).map fun q => vecF L (colOf cells s q.1)) ((told p R).map (·.2)) L = vecF L fun c => StA.colR (cells + 2) R s c % p := by
  unfold addZ
  show _ = (List.range L).map _
  refine List.map_congr_left fun c mc => ?_
  have hc := List.mem_range.mp mc
  rw [← told_dot s fit c8 c, ← dot_eq]
  unfold colZ
  rw [List.map_map]
  congr 2
  refine List.map_congr_left fun q _ => ?_
  exact get_vecF hc
theorem told_names {p : Int} {cells : Nat} {R : StA.R} (fit : StA.fits p cells R) : ∀ q ∈ told p R, q.1 ∈ keyV cells := by
  obtain ⟨w, h, n⟩ := R
  obtain ⟨h2, n0, n1⟩ := fit
  have h2 : h < 2 := h2
  have n0 : 0 ≤ n := n0
  have bx : ∀ b, b < 2 → boxS b ∈ keyV cells := fun b hb => by
    unfold keyV
    refine List.mem_append_left _ ?_
    obtain rfl | rfl : b = 0 ∨ b = 1 := by omega
    · exact List.mem_cons_self
    · exact List.mem_cons_of_mem _ List.mem_cons_self
  have lst : ("" : Str) ∈ keyV cells := List.mem_of_getElem? (keyV_last cells)
  have nz : ∀ {W : SumZ}, (∀ q ∈ W, q.1 ∈ keyV cells) → ∀ q ∈ noZ p W, q.1 ∈ keyV cells := fun {W} hW q mq => by
    obtain ⟨r, mr, e⟩ := List.mem_map.mp (noZ_names (List.mem_map.mpr ⟨q, mq, rfl⟩))
    rw [← e]
    exact hW r mr
  intro q mq
  cases w with
  | set => exact nz (fun q m => by rw [List.mem_singleton.mp m]; exact lst) q mq
  | copy =>
    have n1 : n < 2 := n1
    rw [List.mem_singleton.mp (show q ∈ [(boxS n.toNat, (1 : Int))] from mq)]
    exact bx _ (by omega)
  | times => exact nz (fun q m => by rw [List.mem_singleton.mp m]; exact bx _ h2) q mq
  | more =>
    refine nz (fun q m => ?_) q mq
    rcases List.mem_cons.mp m with rfl | m
    · exact bx _ h2
    · rw [List.mem_singleton.mp m]
      exact lst
  | add =>
    have n1 : n < 2 := n1
    by_cases e : (h : Int) = n
    · have et : told p ⟨.add, h, n⟩ = noZ p [(boxS h, 2)] := if_pos e
      rw [et] at mq
      exact nz (fun q m => by rw [List.mem_singleton.mp m]; exact bx _ h2) q mq
    · have et : told p ⟨.add, h, n⟩ = [(boxS h, 1), (boxS n.toNat, 1)] := if_neg e
      rw [et] at mq
      rcases List.mem_cons.mp mq with rfl | m
      · exact bx _ h2
      · rw [List.mem_singleton.mp m]
        exact bx _ (by omega)
  | take =>
    have n1 : n < (cells : Int) := n1
    rw [List.mem_singleton.mp (show q ∈ [(cellS n.toNat, (1 : Int))] from mq)]
    exact List.mem_of_getElem? (keyV_cell (show n.toNat < cells by omega))
theorem told_range {p : Int} {cells : Nat} {R : StA.R} (p2 : 2 ≤ p) : ∀ q ∈ told p R, 0 ≤ q.2 ∧ q.2 < p := by
  have nz : ∀ {W : SumZ}, ∀ q ∈ noZ p W, 0 ≤ q.2 ∧ q.2 < p := fun {W} q mq => by
    obtain ⟨r, mr, rfl⟩ := List.mem_map.mp mq
    exact ⟨Int.emod_nonneg _ (by omega), Int.emod_lt_of_pos _ (by omega)⟩
  obtain ⟨w, h, n⟩ := R
  intro q mq
  cases w with
  | set => exact nz q mq
  | copy =>
    rw [List.mem_singleton.mp (show q ∈ [(boxS n.toNat, (1 : Int))] from mq)]
    exact ⟨Int.one_nonneg, by show (1 : Int) < p; omega⟩
  | times => exact nz q mq
  | more => exact nz q mq
  | add =>
    by_cases e : (h : Int) = n
    · have et : told p ⟨.add, h, n⟩ = noZ p [(boxS h, 2)] := if_pos e
      rw [et] at mq
      exact nz q mq
    · have et : told p ⟨.add, h, n⟩ = [(boxS h, 1), (boxS n.toNat, 1)] := if_neg e
      rw [et] at mq
      rcases List.mem_cons.mp mq with rfl | m
      · exact ⟨Int.one_nonneg, by show (1 : Int) < p; omega⟩
      · rw [List.mem_singleton.mp m]
        exact ⟨Int.one_nonneg, by show (1 : Int) < p; omega⟩
  | take =>
    rw [List.mem_singleton.mp (show q ∈ [(cellS n.toNat, (1 : Int))] from mq)]
    exact ⟨Int.one_nonneg, by show (1 : Int) < p; omega⟩
theorem told_len {p : Int} {R : StA.R} : (told p R).length ≤ 2 := by
  obtain ⟨w, h, n⟩ := R
  cases w with
  | set => exact Nat.le_trans noZ_len (by first | exact Nat.le_refl 2 | exact (show 1 ≤ 2 from by omega))
  | copy => exact (by decide : 1 ≤ 2)
  | times => exact Nat.le_trans noZ_len (by first | exact Nat.le_refl 2 | exact (show 1 ≤ 2 from by omega))
  | more => exact Nat.le_trans noZ_len (by first | exact Nat.le_refl 2 | exact (show 1 ≤ 2 from by omega))
  | add =>
    by_cases e : (h : Int) = n
    · have et : told p ⟨.add, h, n⟩ = noZ p [(boxS h, 2)] := if_pos e
      rw [et]
      exact Nat.le_trans noZ_len (by first | exact Nat.le_refl 2 | exact (show 1 ≤ 2 from by omega))
    · have et : told p ⟨.add, h, n⟩ = [(boxS h, 1), (boxS n.toNat, 1)] := if_neg e
      rw [et]
      exact Nat.le_refl 2
  | take => exact (by decide : 1 ≤ 2)
end Vb
end L2

set_option Elab.async false
set_option linter.all false
set_option maxRecDepth 100000
set_option maxHeartbeats 4000000
/-! Vb, k30: what the law takes for right, by columns. -/
namespace L2
namespace Vb
open PySem PySem.Spec PyProof.Rows
def jOf (cells k : Nat) : Option Nat := if k = 0 then none else if k - 1 < cells then some (2 + (k - 1)) else some (k - 1 - cells)
def colsE (p : Int) (cells : Nat) (rs : List StA.R) : StA.Fn × StA.Fn := rs.foldl (StA.stepF p (cells + 2)) (StA.E 0, StA.E 1)
def gW (cells : Nat) (W : SumZ) : StA.Fn := fun c => facZ W ((keyV cells).getD c "")
theorem nums_getD {cells i : Nat} {a : Int} (h : i < cells + 2) : (numsA cells a).getD i 0 = if (i : Int) = a then 1 else 0 := by
  rw [List.getD_eq_getElem?_getD, nums_at h]
  rfl
theorem jOf_ne {cells k : Nat} (hk : k < cells + 3) : ∀ i, jOf cells k = some i → i ≠ cells + 2 := by
  intro i e
  unfold jOf at e
  by_cases k0 : k = 0
  · rw [if_pos k0] at e
    cases e
  · rw [if_neg k0] at e
    by_cases k1 : k - 1 < cells
    · rw [if_pos k1] at e
      cases e
      omega
    · rw [if_neg k1] at e
      cases e
      omega
theorem iteEq {A B : Prop} [Decidable A] [Decidable B] (h : A ↔ B) : (if A then (1 : Int) else 0) = if B then 1 else 0 := by
  by_cases q : A
  · rw [if_pos q, if_pos (h.mp q)]
  · rw [if_neg q, if_neg (fun b => q (h.mpr b))]
theorem jOf_some {cells k i : Nat} (hk : k < cells + 3) : jOf cells k = some i ↔ (k ≠ 0 ∧ k - 1 < cells ∧ i = 2 + (k - 1)) ∨ (k ≠ 0 ∧ ¬ k - 1 < cells ∧ i = k - 1 - cells) := by
  unfold jOf
  by_cases k0 : k = 0
  · rw [if_pos k0]
    exact ⟨fun e => (by cases e), fun h => (by omega)⟩
  · rw [if_neg k0]
    by_cases k1 : k - 1 < cells
    · rw [if_pos k1]
      exact ⟨fun e => .inl ⟨k0, k1, (Option.some.inj e).symm⟩, fun h => by
        rcases h with h | h
        · rw [h.2.2]
        · omega⟩
    · rw [if_neg k1]
      exact ⟨fun e => .inr ⟨k0, k1, (Option.some.inj e).symm⟩, fun h => by
        rcases h with h | h
        · omega
        · rw [h.2.2]⟩
theorem end_cols {p : Int} {cells k : Nat} {rs : List StA.R} (p2 : 2 ≤ p) (hk : k < cells + 3) (fit : ∀ r ∈ rs, StA.fits p cells r) : (endP p cells rs (numsA cells (-1 + (k : Int)))).1 = StA.ev p (cells + 2) (jOf cells k) (colsE p cells rs).1 := by
  have z := StA.fold_ev (p := p) (last := cells + 2) (cells := cells) (j := jOf cells k) p2 rfl (jOf_ne hk) (nums := fun c => (numsA cells (-1 + (k : Int))).getD c 0) (fun c hc => by
    rw [nums_getD (by omega)]
    refine iteEq ?_
    rw [jOf_some hk]
    omega) rs (StA.E 0, StA.E 1) fit
  unfold endP
  have e0 : (numsA cells (-1 + (k : Int))).getD cells 0 = StA.ev p (cells + 2) (jOf cells k) (StA.E 0) := by
    rw [nums_getD (by omega), StA.ev_col p2 (by omega)]
    refine iteEq ?_
    rw [jOf_some hk]
    omega
  have e1 : (numsA cells (-1 + (k : Int))).getD (cells + 1) 0 = StA.ev p (cells + 2) (jOf cells k) (StA.E 1) := by
    rw [nums_getD (by omega), StA.ev_col p2 (by omega)]
    refine iteEq ?_
    rw [jOf_some hk]
    omega
  rw [e0, e1]
  exact congrArg Prod.fst z
theorem gW_last (cells : Nat) (W : SumZ) : gW cells W (cells + 2) = facZ W "" := by
  unfold gW
  rw [List.getD_eq_getElem?_getD, keyV_last]
  rfl
theorem gW_cell {cells c : Nat} (W : SumZ) (h : c < cells) : gW cells W (2 + c) = facZ W (cellS c) := by
  unfold gW
  rw [List.getD_eq_getElem?_getD, keyV_cell h]
  rfl
theorem keys_box : ∀ cells, cells < 9 → ∀ b, b < 2 → boxS b ∉ keysZ cells := by decide +kernel
theorem gW_box {p : Int} {cells b : Nat} {W : SumZ} (gw : GoodW p cells W) (c8 : cells ≤ 8) (h : b < 2) : gW cells W b = 0 := by
  unfold gW
  have e : (keyV cells).getD b "" = boxS b := by
    obtain rfl | rfl : b = 0 ∨ b = 1 := by omega
    · rfl
    · rfl
  rw [e]
  refine fac_none fun m => ?_
  obtain ⟨q, mq, eq⟩ := List.mem_map.mp m
  have k := (gw.1 q mq).2.2
  rw [eq] at k
  exact keys_box cells (by omega) b h k
theorem due_ev {p : Int} {cells k : Nat} {W : SumZ} (gw : GoodW p cells W) (c8 : cells ≤ 8) (hk : k < cells + 3) : dueA cells W (-1 + (k : Int)) % p = StA.ev p (cells + 2) (jOf cells k) (gW cells W) := by
  unfold dueA StA.ev
  rw [gW_last]
  by_cases k0 : k = 0
  · subst k0
    rw [if_neg (by omega)]
    rfl
  · by_cases k1 : k - 1 < cells
    · have e : jOf cells k = some (2 + (k - 1)) := (jOf_some hk).mpr (.inl ⟨k0, k1, rfl⟩)
      have et : (-1 + (k : Int)).toNat = k - 1 := by omega
      rw [e, if_pos ⟨by omega, by omega⟩, et]
      show _ = (facZ W "" + gW cells W (2 + (k - 1))) % p
      rw [gW_cell W k1]
    · have e : jOf cells k = some (k - 1 - cells) := (jOf_some hk).mpr (.inr ⟨k0, k1, rfl⟩)
      rw [e, if_neg (by omega)]
      show _ = (facZ W "" + gW cells W (k - 1 - cells)) % p
      rw [gW_box gw c8 (by omega)]
theorem step_range {p : Int} {last : Nat} (p2 : 2 ≤ p) : ∀ (rs : List StA.R) (s : StA.Fn × StA.Fn), ((∀ c, 0 ≤ s.1 c ∧ s.1 c < p) ∧ ∀ c, 0 ≤ s.2 c ∧ s.2 c < p) → (∀ c, 0 ≤ (rs.foldl (StA.stepF p last) s).1 c ∧ (rs.foldl (StA.stepF p last) s).1 c < p) ∧ ∀ c, 0 ≤ (rs.foldl (StA.stepF p last) s).2 c ∧ (rs.foldl (StA.stepF p last) s).2 c < p
  | [], _, h => h
  | r :: rs, s, h => by
    rw [List.foldl_cons]
    refine step_range p2 rs _ ?_
    have z : ∀ c, 0 ≤ StA.colR last r s c % p ∧ StA.colR last r s c % p < p := fun c => ⟨Int.emod_nonneg _ (by omega), Int.emod_lt_of_pos _ (by omega)⟩
    unfold StA.stepF StA.put
    by_cases q : r.h = 0
    · rw [if_pos q]
      exact ⟨z, h.2⟩
    · rw [if_neg q]
      exact ⟨h.1, z⟩
theorem E_range {p : Int} (p2 : 2 ≤ p) (j c : Nat) : 0 ≤ StA.E j c ∧ StA.E j c < p := by
  unfold StA.E
  by_cases q : c = j
  · rw [if_pos q]
    exact ⟨Int.one_nonneg, by omega⟩
  · rw [if_neg q]
    exact ⟨Int.le_refl _, by omega⟩
theorem cols_range {p : Int} {cells : Nat} (p2 : 2 ≤ p) (rs : List StA.R) : (∀ c, 0 ≤ (colsE p cells rs).1 c ∧ (colsE p cells rs).1 c < p) ∧ ∀ c, 0 ≤ (colsE p cells rs).2 c ∧ (colsE p cells rs).2 c < p := step_range p2 rs _ ⟨E_range p2 0, E_range p2 1⟩
theorem vecF_iff {L : Nat} {f g : StA.Fn} : vecF L f = vecF L g ↔ ∀ c, c < L → f c = g c := by
  unfold vecF
  constructor
  · intro h c hc
    have z := congrArg (fun l => l[c]?) h
    simp only [List.getElem?_map, List.getElem?_range hc] at z
    exact Option.some.inj z
  · intro h
    exact List.map_congr_left fun c mc => h c (List.mem_range.mp mc)
theorem vecF_keys (cells : Nat) (W : SumZ) : (keyV cells).map (facZ W) = vecF (cells + 3) (gW cells W) := by
  refine List.ext_getElem? fun i => ?_
  unfold vecF
  rw [List.getElem?_map, List.getElem?_map]
  rcases Nat.lt_or_ge i (cells + 3) with h | h
  · rw [List.getElem?_range h]
    have e : (keyV cells)[i]? = some ((keyV cells).getD i "") := by
      rw [List.getD_eq_getElem?_getD, List.getElem?_eq_getElem (by rw [keyV_len]; exact h)]
      rfl
    rw [e]
    rfl
  · rw [List.getElem?_eq_none (by rw [keyV_len]; exact h), List.getElem?_eq_none (by rw [List.length_range]; exact h)]
    rfl
theorem due_cols {p : Int} {cells : Nat} {rs : List StA.R} {W : SumZ} (p2 : 2 ≤ p) (c8 : cells ≤ 8) (fit : ∀ r ∈ rs, StA.fits p cells r) (gw : GoodW p cells W) :
    (List.range (cells + 3)).all (dueN p cells W rs) = decide (vecF (cells + 3) (colsE p cells rs).1 = (keyV cells).map (facZ W)) := by
  rw [vecF_keys]
  have ce := StA.cols_eq (p := p) (last := cells + 2) (by omega) (L := cells + 3) rfl (f := (colsE p cells rs).1) (g := gW cells W) (fun c _ => (cols_range p2 rs).1 c) (fun c _ => fac_range p2 gw _)
  have key : (List.range (cells + 3)).all (dueN p cells W rs) = true ↔ vecF (cells + 3) (colsE p cells rs).1 = vecF (cells + 3) (gW cells W) := by
    rw [vecF_iff, ce, List.all_eq_true]
    have dn : ∀ k, k < cells + 3 → (dueN p cells W rs k = true ↔ StA.ev p (cells + 2) (jOf cells k) (colsE p cells rs).1 = StA.ev p (cells + 2) (jOf cells k) (gW cells W)) := fun k hk => by
      unfold dueN
      rw [decide_eq_true_iff, end_cols p2 hk fit, due_ev gw c8 hk]
    constructor
    · intro h
      have h2 : ∀ k, k < cells + 3 → _ := fun k hk => (dn k hk).mp (h k (List.mem_range.mpr hk))
      refine ⟨h2 0 (by omega), fun i hi => ?_⟩
      by_cases q : i < 2
      · have z := h2 (i + 1 + cells) (by omega)
        have e : jOf cells (i + 1 + cells) = some i := (jOf_some (by omega)).mpr (.inr ⟨by omega, by omega, by omega⟩)
        rw [e] at z
        exact z
      · have z := h2 (i - 1) (by omega)
        have e : jOf cells (i - 1) = some i := (jOf_some (by omega)).mpr (.inl ⟨by omega, by omega, by omega⟩)
        rw [e] at z
        exact z
    · rintro ⟨h0, h1⟩ k mk
      have hk := List.mem_range.mp mk
      refine (dn k hk).mpr ?_
      cases e : jOf cells k with
      | none => exact h0
      | some i =>
        refine h1 i ?_
        rcases (jOf_some hk).mp e with h | h <;> omega
  cases hb : (List.range (cells + 3)).all (dueN p cells W rs) with
  | true => rw [decide_eq_true (key.mp hb)]
  | false => exact (decide_eq_false fun h => by
      rw [key.mpr h] at hb
      cases hb).symm
/-! ### the rows of a sum are right -/
def termZ (W : SumZ) (x : Str) (c : Nat) : Int := if x = "" then 0 else facZ W x * StA.E (2 + numC x) c
theorem one_name {p : Int} {last c : Nat} {W : SumZ} (x : Str) (s : StA.Fn × StA.Fn) (p2 : 2 ≤ p) (hs : s.1 c % p = s.1 c) : ((stepR W x).foldl (StA.stepF p last) s).1 c = (s.1 c + termZ W x c) % p := by
  unfold stepR termZ
  by_cases q : x = ""
  · rw [if_pos q, if_pos q, Int.add_zero]
    exact hs.symm
  · rw [if_neg q, if_neg q]
    by_cases o : facZ W x = 1
    · rw [if_pos o, o, Int.one_mul]
      show (s.1 c + StA.E (2 + numC x) c % p) % p = _
      rw [Int.add_emod_emod]
    · rw [if_neg o]
      show (s.1 c + facZ W x * (StA.E (2 + numC x) c % p) % p) % p = _
      rw [Int.add_emod_emod, Int.add_emod, Int.mul_emod, Int.emod_emod, ← Int.mul_emod, ← Int.add_emod]
theorem all_names {p : Int} {last c : Nat} {W : SumZ} (p2 : 2 ≤ p) : ∀ (ys : List Str) (s : StA.Fn × StA.Fn), s.1 c % p = s.1 c → ((ys.flatMap (stepR W)).foldl (StA.stepF p last) s).1 c = (s.1 c + (ys.map fun x => termZ W x c).sum) % p
  | [], s, h => by
    show s.1 c = (s.1 c + 0) % p
    rw [Int.add_zero, h]
  | x :: ys, s, h => by
    rw [List.flatMap_cons, List.foldl_append]
    have o := one_name (last := last) (W := W) x s p2 h
    have ih := all_names (W := W) (last := last) (c := c) p2 ys ((stepR W x).foldl (StA.stepF p last) s) (by rw [o, Int.emod_emod])
    rw [ih, o, List.map_cons, List.sum_cons, Int.emod_add_emod, Int.add_assoc]
theorem sum_cell {W : SumZ} {c : Nat} (hc : c < 9) : ∀ ys : List Str, ys.Nodup → (∀ x ∈ ys, x = "" ∨ ∃ i, i < 9 ∧ x = cellS i) → (ys.map fun x => termZ W x (2 + c)).sum = if cellS c ∈ ys then facZ W (cellS c) else 0
  | [], _, _ => rfl
  | x :: ys, nd, h => by
    obtain ⟨n1, n2⟩ := List.nodup_cons.mp nd
    have ih := sum_cell (W := W) hc ys n2 fun y m => h y (List.mem_cons_of_mem _ m)
    rw [List.map_cons, List.sum_cons, ih]
    rcases h x List.mem_cons_self with rfl | ⟨i, hi, rfl⟩
    · have e : termZ W "" (2 + c) = 0 := if_pos rfl
      rw [e, Int.zero_add]
      have ne := cell_ne c hc
      by_cases m : cellS c ∈ ys
      · rw [if_pos m, if_pos (List.mem_cons_of_mem _ m)]
      · rw [if_neg m, if_neg (fun z => by
          rcases List.mem_cons.mp z with z | z
          · exact ne z
          · exact m z)]
    · have e : termZ W (cellS i) (2 + c) = facZ W (cellS i) * StA.E (2 + i) (2 + c) := by
        unfold termZ
        rw [if_neg (cell_ne i hi), numC_cell i hi]
      rw [e]
      by_cases q : c = i
      · subst q
        have e1 : StA.E (2 + c) (2 + c) = 1 := if_pos rfl
        rw [e1, Int.mul_one, if_neg n1, if_pos List.mem_cons_self, Int.add_zero]
      · have e1 : StA.E (2 + i) (2 + c) = 0 := if_neg (by omega)
        have ne : cellS c ≠ cellS i := fun z => q (cell_inj c hc i hi z)
        rw [e1, Int.mul_zero, Int.zero_add]
        by_cases m : cellS c ∈ ys
        · rw [if_pos m, if_pos (List.mem_cons_of_mem _ m)]
        · rw [if_neg m, if_neg (fun z => by
            rcases List.mem_cons.mp z with z | z
            · exact ne z
            · exact m z)]
theorem sum_off {W : SumZ} {c : Nat} : ∀ ys : List Str, (∀ x ∈ ys, x = "" ∨ ∃ i, i < 9 ∧ x = cellS i ∧ 2 + i ≠ c) → (ys.map fun x => termZ W x c).sum = 0
  | [], _ => rfl
  | x :: ys, h => by
    rw [List.map_cons, List.sum_cons, sum_off ys fun y m => h y (List.mem_cons_of_mem _ m), Int.add_zero]
    rcases h x List.mem_cons_self with rfl | ⟨i, hi, rfl, n⟩
    · exact if_pos rfl
    · unfold termZ
      rw [if_neg (cell_ne i hi), numC_cell i hi]
      have e1 : StA.E (2 + i) c = 0 := if_neg (fun z => n z.symm)
      rw [e1, Int.mul_zero]
theorem reck_cols {p : Int} {cells : Nat} {W : SumZ} {ys : List Str} (p2 : 2 ≤ p) (c8 : cells ≤ 8) (gw : GoodW p cells W) (perm : ys.Perm (W.map (·.1))) : ∀ c, c < cells + 3 → (colsE p cells (reckR W ys)).1 c = gW cells W c := by
  intro c hc
  have f0 := fac_range p2 gw ""
  have nd : ys.Nodup := perm.nodup_iff.mpr gw.2.1
  have mem : ∀ x ∈ ys, x = "" ∨ ∃ i, i < cells ∧ x = cellS i := fun x m => by
    obtain ⟨q, mq, e⟩ := List.mem_map.mp (perm.mem_iff.mp m)
    have k := keys_of (gw.1 q mq).2.2
    rw [e] at k
    exact k
  have z := all_names (p := p) (last := cells + 2) (c := c) (W := W) p2 ys ((fun c => facZ W "" * StA.E (cells + 2) c % p), StA.E 1) (Int.emod_emod ..)
  have e : (colsE p cells (reckR W ys)).1 c = ((ys.flatMap (stepR W)).foldl (StA.stepF p (cells + 2)) ((fun c => facZ W "" * StA.E (cells + 2) c % p), StA.E 1)).1 c := rfl
  rw [e, z]
  show (facZ W "" * StA.E (cells + 2) c % p + _) % p = _
  rw [Int.emod_add_emod]
  by_cases q : c = cells + 2
  · subst q
    have e1 : StA.E (cells + 2) (cells + 2) = 1 := if_pos rfl
    rw [sum_off ys (fun x m => by
      rcases mem x m with h | ⟨i, hi, h⟩
      · exact .inl h
      · exact .inr ⟨i, by omega, h, by omega⟩), e1, gW_last, Int.mul_one, Int.add_zero, Int.emod_eq_of_lt f0.1 f0.2]
  · have e1 : StA.E (cells + 2) c = 0 := if_neg q
    rw [e1, Int.mul_zero, Int.zero_add]
    by_cases q2 : c < 2
    · rw [sum_off ys (fun x m => by
        rcases mem x m with h | ⟨i, hi, h⟩
        · exact .inl h
        · exact .inr ⟨i, by omega, h, by omega⟩), gW_box gw c8 q2]
      exact Int.zero_emod p
    · obtain ⟨i, rfl⟩ : ∃ i, c = 2 + i := ⟨c - 2, by omega⟩
      have fi := fac_range p2 gw (cellS i)
      rw [sum_cell (by omega) ys nd (fun x m => by
        rcases mem x m with h | ⟨j, hj, h⟩
        · exact .inl h
        · exact .inr ⟨j, by omega, h⟩), gW_cell W (by omega)]
      by_cases m : cellS i ∈ ys
      · rw [if_pos m, Int.emod_eq_of_lt fi.1 fi.2]
      · rw [if_neg m, fac_none fun h => m (perm.mem_iff.mpr h)]
        exact Int.zero_emod p
theorem step_fits {p : Int} {cells : Nat} {W : SumZ} {x : Str} (p2 : 2 ≤ p) (gw : GoodW p cells W) (c8 : cells ≤ 8) (h : x = "" ∨ ∃ i, i < cells ∧ x = cellS i) : ∀ r ∈ stepR W x, StA.fits p cells r := by
  intro r mr
  have f := fac_range p2 gw x
  unfold stepR at mr
  rcases h with h | ⟨i, hi, h⟩
  · rw [if_pos h] at mr
    cases mr
  · rw [if_neg (by rw [h]; exact cell_ne i (by omega)), h, numC_cell i (by omega), ← h] at mr
    rcases List.mem_cons.mp mr with rfl | mr
    · exact ⟨by show 1 < 2; decide, Int.natCast_nonneg _, by show (i : Int) < (cells : Int); omega⟩
    · rcases List.mem_append.mp mr with mr | mr
      · by_cases o : facZ W x = 1
        · rw [if_pos o] at mr
          cases mr
        · rw [if_neg o] at mr
          rw [List.mem_singleton.mp mr]
          exact ⟨by show 1 < 2; decide, f.1, f.2⟩
      · rw [List.mem_singleton.mp mr]
        exact ⟨by show 0 < 2; decide, by show (0 : Int) ≤ 1; decide, by show (1 : Int) < 2; decide⟩
theorem reck_fits {p : Int} {cells : Nat} {W : SumZ} {ys : List Str} (p2 : 2 ≤ p) (c8 : cells ≤ 8) (gw : GoodW p cells W) (perm : ys.Perm (W.map (·.1))) : ∀ r ∈ reckR W ys, StA.fits p cells r := by
  intro r mr
  have f := fac_range p2 gw ""
  rcases List.mem_cons.mp mr with rfl | mr
  · exact ⟨by show 0 < 2; decide, f.1, f.2⟩
  · obtain ⟨x, mx, mr⟩ := List.mem_flatMap.mp mr
    refine step_fits p2 gw c8 ?_ r mr
    obtain ⟨q, mq, e⟩ := List.mem_map.mp (perm.mem_iff.mp mx)
    have k := keys_of (gw.1 q mq).2.2
    rw [e] at k
    exact k
/-- the rows of a sum are right -/
theorem due_reck {p : Int} {cells : Nat} {W : SumZ} {ys : List Str} (p2 : 2 ≤ p) (c8 : cells ≤ 8) (gw : GoodW p cells W) (perm : ys.Perm (W.map (·.1))) : dueB p cells W (.list ((reckR W ys).map rwD)) = true := by
  show (((reckR W ys).map rwD).all (rowB p cells) && (List.range (cells + 3)).all (dueN p cells W (((reckR W ys).map rwD).map rowOf))) = true
  have er : ((reckR W ys).map rwD).map rowOf = reckR W ys := by
    rw [List.map_map]
    have : (rowOf ∘ rwD) = id := funext rowOf_row
    rw [this, List.map_id]
  have ef := reck_fits p2 c8 gw perm
  rw [er, due_cols p2 c8 ef gw, vecF_keys, decide_eq_true (vecF_iff.mpr (reck_cols p2 c8 gw perm)), Bool.and_true, List.all_map]
  exact List.all_eq_true.mpr fun r m => rowB_row (ef r m)
theorem due_same {p : Int} {cells : Nat} {W V : SumZ} (h : ∀ x, facZ W x = facZ V x) (d : PyData) : dueB p cells W d = dueB p cells V d := by
  have e : ∀ rs, dueN p cells W rs = dueN p cells V rs := fun rs => by
    funext k
    unfold dueN dueA
    rw [h, h]
  cases d with
  | list ds =>
    show (_ && _) = (_ && _)
    rw [e]
  | _ => rfl
end Vb
end L2

set_option Elab.async false
set_option linter.all false
set_option maxRecDepth 100000
set_option maxHeartbeats 4000000
/-! Vb, k30: a list turned round has no keys. -/
namespace L2
namespace Vb
open PySem PySem.Spec PyProof.Rows
open MeetsSeq in
theorem lri_bare : typeLookup (.type "list_reverseiterator") "keys" = pure none ∧ typeLookup (.type "list_reverseiterator") "__getattr__" = pure none := ⟨am_miss_of_fast (by decide +kernel), am_miss_of_fast (by decide +kernel)⟩
theorem lri_look : Slot "list_reverseiterator" "__getattribute__" "object.__getattribute__" := Slot.of (n := "__getattribute__") (owner := "object")
  (by rw [typeLookup_type, builtinLookup_eq_fast]; kernel_rfl) (by decide +kernel) (by decide +kernel) (by decide +kernel)
  (.inl (by decide +kernel)) (by rw [isSubtype_type]; kernel_rfl)
/-- object.__getattribute__ finds none there -/
theorem lri_none (a : Addr) (fs : Array Value) (sl : Array (Option Value)) (u : Tok) : Meets (Builtin.«object.__getattribute__» ⟨[.ref a, .str "keys" u], []⟩)
    (fun A R s => s.heap.get? a = some { cls := .type "list_reverseiterator", dict := none, data := .fields fs, slots := sl } ∧ raisesAttr (.ref a) "keys" A R s) := by
  apply Meets.of_wp
  rintro prog w A R ⟨hp, g, d, tk, os⟩ ⟨there, raised⟩
  have kind : (⟨hp, g, d, tk, os⟩ : Shared).TypeIs (.ref a) "list_reverseiterator" := ⟨_, there, rfl⟩
  have bare := lri_bare.1
  unfold Builtin.«object.__getattribute__»
  repeat (any_goals (first | assumption | wp_step))
  refine wpAny_raiseAttrError raised.1 raised.2 (attrMsg_fits (by decide +kernel) ?_)
  show 4 + 100 ≤ sizeLine
  rw [sizeLine_eq]
  decide
/-- getattr(it, "keys", None) -/
theorem lri_keyless {prog : Program} {w : World} {A : Around} {E : Value → Shared → Prop} {s : Shared} {a : Addr} {Q : Option Value → Shared → Prop} {fs : Array Value} {sl : Array (Option Value)} (it : s.heap.get? a = some { cls := .type "list_reverseiterator", dict := none, data := .fields fs, slots := sl }) (calm : A.handled = none)
    (k : ∀ h' tk, (∀ b o, s.heap.get? b = some o → h'.get? b = some o) → Q none { s with heap := h', toks := tk }) : wpAny (model prog w) A (getAttr? (.ref a) "keys") Q E s := by
  obtain ⟨hp, g, d, tk, os⟩ := s
  have kind : ∀ t, (⟨hp, g, d, t, os⟩ : Shared).TypeIs (.ref a) "list_reverseiterator" := fun t => ⟨_, it, rfl⟩
  have g1 := sub_AttributeError
  have g2 := lri_look.lookup
  have g3 := lri_look.bind (.ref a)
  have g4 := lri_bare.2
  unfold getAttr? getAttrBy?
  repeat (any_goals (first
    | assumption
    | exact kind _
    | ((with_reducible show wpAny _ _ (call (Value.builtin "object.__getattribute__") _ _) _ _ _)
       refine call_meets lri_look (kind _) F.entry_object_getattribute (F.args_object_getattribute_2 _ _) (lri_none a _ _ _) ⟨it, calm, fun h' tk' e he => ?_⟩)
    | wp_step))
  obtain ⟨t1, t2, raised⟩ := he.there
  change wpAny _ _ (getattributeRaised _ _ _ _ _ _ _) _ _ _
  simp only [getattributeRaised]
  repeat (any_goals (first | assumption | wp_step))
  exact k h' _ he.keeps
end Vb
end L2

set_option Elab.async false
set_option linter.all false
set_option maxRecDepth 100000
set_option maxHeartbeats 4000000
/-! Vb, k30: views of dicts as values, lists of them; dict(reversed(list(d.items()))). -/
namespace L2
namespace Vb
open PySem PySem.Spec PyProof.Rows
/-- the values, the items of the dict at d as a thing of its own -/
def vwO (T : String) (p d : Addr) : HO := .ext fun h => ∃ ob : Obj, h.get? p = some ob ∧ ob.cls = .type T ∧ ob.data = .fields #[.ref d]
theorem vw_new {P : Program} {w : World} {H : Hp} (h : Heap) (T : String) (d : Addr) : ObjOk P w H (h.push { cls := .type T, data := .fields #[.ref d] }) h.objs.size (vwO T h.objs.size d) := by
  have here := Heap.get?_push_size h (o := { cls := .type T, data := .fields #[.ref d] }) rfl
  exact And.intro ⟨_, here, rfl, rfl⟩ (And.intro ⟨_, here⟩ fun _ _ k up => k.elim fun ob z => ⟨ob, up ob z.1, z.2⟩)
section
variable {X : Cx}
/-- d.values(), d.items() -/
def rVw (T : String) : V → List V → Hp → VK → Prop := fun x xs H Q => ∃ (a : Addr) (kvs : List (Key × V)), x = .ref a ∧ xs = [] ∧ H a = some (.dK kvs) ∧ ∀ p, H p = none → Q (.ref p) (upd H p (vwO T p a))
theorem dict_here {pins : List (Addr × Obj)} {s : Shared} {σ : St} {H : Hp} {a : Addr} {kvs : List (Key × V)} (inv : Inv X pins σ H s) (e : H a = some (.dK kvs)) : ∃ vs ep, kvs.length ≤ sizeLine ∧ (a == sysModules) = false ∧ KV kvs vs ∧ s.heap.DictOf (mixKind X.prog X.w) a vs ∧ s.heap.DictAt (mixKind X.prog X.w) a vs ep := by
  obtain ⟨few, own, vs, rel, is⟩ := (show ObjOk X.prog X.w H s.heap a (.dK kvs) from inv.hok a _ e)
  exact is.dictAt.elim fun ep at_ => ⟨vs, ep, few, own, rel, is, at_⟩
theorem mt_values : MtR X "dict.values" (rVw "dict_values") := by
  rintro pins s σ H _ _ v us Q inv rx rs ⟨a, kvs, rfl, rfl, e, q⟩
  cases rs
  cases rx
  obtain ⟨vs, ep, few, own, rel, is, at_⟩ := dict_here inv e
  have step := inv.laid (t' := s.toks) (fun _ _ k => Heap.get?_push_of_some _ k) (Nat.le_refl _) (vw_new (P := X.prog) (w := X.w) (H := upd H s.heap.objs.size (vwO "dict_values" s.heap.objs.size a)) s.heap "dict_values" a)
  exact call_meetsIn F.slot_dict_values is.typeIs F.entry_dict_values (F.args_dict_values_1 _) (meets_dict_values _ a own) ⟨⟨vs, is⟩, .ref s.heap.objs.size, _, step, rfl, q _ (inv.hok.fresh (Nat.le_refl _))⟩
theorem mt_items : MtR X "dict.items" (rVw "dict_items") := by
  rintro pins s σ H _ _ v us Q inv rx rs ⟨a, kvs, rfl, rfl, e, q⟩
  cases rs
  cases rx
  obtain ⟨vs, ep, few, own, rel, is, at_⟩ := dict_here inv e
  have step := inv.laid (t' := s.toks) (fun _ _ k => Heap.get?_push_of_some _ k) (Nat.le_refl _) (vw_new (P := X.prog) (w := X.w) (H := upd H s.heap.objs.size (vwO "dict_items" s.heap.objs.size a)) s.heap "dict_items" a)
  exact call_meetsIn F.slot_dict_items is.typeIs F.entry_dict_items (F.args_dict_items_1 _) (meets_dict_items _ a own) ⟨⟨vs, is⟩, .ref s.heap.objs.size, _, step, rfl, q _ (inv.hok.fresh (Nat.le_refl _))⟩
/-- list(d.values()) -/
def rListVals : List V → Hp → VK → Prop := fun xs H Q => ∃ (p a : Addr) (kvs : List (Key × V)), xs = [.ref p] ∧ H p = some (vwO "dict_values" p a) ∧ H a = some (.dK kvs) ∧ ∀ q, H q = none → Q (.ref q) (upd H q (.lst (kvs.map (·.2))))
theorem vals_by {xs : List V} {us : List Value} (n : xs.length = us.length) (h : ∀ (j : Nat) (u : Value), us[j]? = some u → ∃ x, xs[j]? = some x ∧ RelV x u) : Vals xs us := by
  induction us generalizing xs with
  | nil =>
    cases xs with
    | nil => exact .nil
    | cons _ _ => cases n
  | cons u us ih =>
    cases xs with
    | nil => cases n
    | cons x xs =>
      obtain ⟨y, e, r⟩ := h 0 u rfl
      cases e
      exact .cons r (ih (Nat.succ.inj n) fun j v k => h (j + 1) v k)
theorem cr_listVals (calm : X.calm = true) : CallR X (.type "list") rListVals := by
  rintro pins s σ H _ us Q inv rs ⟨p, a, kvs, rfl, ep, ea, q⟩
  rw [Vals.ref1 rs]
  have view : s.heap.IsValuesView p a := (show ObjOk X.prog X.w H s.heap p (vwO "dict_values" p a) from inv.hok p _ ep).1
  obtain ⟨vs, n, few, own, rel, is, at_⟩ := dict_here inv ea
  have len : vs.length = kvs.length := (Paired.length rel).symm
  refine PySem.W.kdl_call (PySem.W.kdl_values (kvs := vs) (ep := n)) (inv.ok.hd calm) ⟨view, at_⟩ (len ▸ few) ?_
  intro h1 tk acc c old here items
  have all : Vals (kvs.map (·.2)) acc.toList := by
    refine vals_by ?_ fun j u k => ?_
    · exact (List.length_map _).trans (len.symm.trans (items.1.symm.trans Array.length_toList.symm))
    · rw [Array.getElem?_toList] at k
      obtain ⟨key, e⟩ := items.2 j u k
      obtain ⟨y, e1, r⟩ := KV.at' rel e
      exact ⟨y, by rw [List.getElem?_map, e1]; rfl, r⟩
  have step := inv.laid (o := .lst (kvs.map (·.2))) (t' := tk) old (Nat.le_refl s.heap.objs.size) (show ObjOk X.prog X.w _ h1 _ (.lst (kvs.map (·.2))) from And.intro (by rw [List.length_map]; exact few) ⟨acc.toList, c, all, by rw [Array.toArray_toList]; exact here⟩)
  exact ⟨.ref s.heap.objs.size, _, step, rfl, q _ (inv.hok.fresh (Nat.le_refl _))⟩
/-- two lists turned round -/
theorem kv_back {kvs : List (Key × V)} {vs : List (Key × Value)} (h : KV kvs vs) : KV kvs.reverse vs.reverse := by
  unfold KV at h ⊢
  induction h with
  | nil => exact .nil
  | cons r _ ih =>
    rw [List.reverse_cons, List.reverse_cons]
    exact pairs_end ih r
where
  pairs_end {R : (Key × V) → (Key × Value) → Prop} : ∀ {xs : List (Key × V)} {ys : List (Key × Value)} {x : Key × V} {y : Key × Value}, Paired R xs ys → R x y → Paired R (xs ++ [x]) (ys ++ [y])
    | _, _, _, _, .nil, r => .cons r .nil
    | _, _, _, _, .cons a b, r => .cons a (pairs_end b r)
/-- keys that are all unlike are stored one behind the other -/
theorem merge_new {kvs : List (Key × Value)} : ∀ {acc : List (Key × Value)}, ((acc ++ kvs).map (·.1)).Nodup → merged acc kvs = acc ++ kvs := by
  induction kvs with
  | nil => intro acc _; exact (List.append_nil acc).symm
  | cons q kvs ih =>
    intro acc nd
    have fresh : acc.any (fun z => decide (z.1 = q.1)) = false := by
      rw [List.any_eq_false]
      intro z mz e
      rw [List.map_append, List.nodup_append] at nd
      exact nd.2.2 z.1 (List.mem_map.mpr ⟨z, mz, rfl⟩) q.1 (List.mem_map.mpr ⟨q, List.mem_cons_self, rfl⟩) (of_decide_eq_true e)
    have one : stored acc q.1 q.2 = acc ++ [q] := by
      unfold stored
      rw [if_neg (by rw [fresh]; decide)]
    have go : merged acc (q :: kvs) = merged (stored acc q.1 q.2) kvs := rfl
    rw [go, one, ih (by rw [List.append_assoc]; exact nd), List.append_assoc]
    rfl
/-- a list of pairs, walked from its end, as the argument of dict() -/
def BackAt (X : Cx) (R L : Addr) (acc : Array Value) (as : List Addr) (vs : List (Key × Value)) (h : Heap) : Prop := h.IsList L acc ∧ as.length = vs.length ∧ acc.toList = as.map Value.ref ∧
  ∀ (j : Nat) (b : Addr), as[j]? = some b → ∃ (key : Value) (k : Key) (x : Value), vs[j]? = some (k, x) ∧ (mixKind X.prog X.w).is k key = true ∧ h.IsTuple b #[key, x]
theorem BackAt.up {R L : Addr} {acc : Array Value} {as : List Addr} {vs : List (Key × Value)} {h h' : Heap} (b : BackAt X R L acc as vs h) (k : ∀ c o, c = L ∨ c ∈ as → h.get? c = some o → h'.get? c = some o) : BackAt X R L acc as vs h' := by
  obtain ⟨b1, b2, b3, b4⟩ := b
  refine ⟨b1.at fun o e => k L o (.inl rfl) e, b2, b3, fun j c e => ?_⟩
  obtain ⟨key, q, x, e1, e2, e3⟩ := b4 j c e
  exact ⟨key, q, x, e1, e2, e3.at fun o z => k c o (.inr (List.mem_of_getElem? e)) z⟩
theorem back_arg (R L : Addr) (acc : Array Value) (as : List Addr) (vs : List (Key × Value)) (ne : L ≠ R) (nas : R ∉ as) : PairArg X.prog X.w "list_reverseiterator" R (R :: L :: as) [R] vs.length (fun i key v => ∃ k, vs.reverse[i]? = some (k, v) ∧ (mixKind X.prog X.w).is k key = true)
    (fun h => h.get? R = some (revObj L ((vs.length : Int) - 1)) ∧ BackAt X R L acc as vs h) := by
  have it : ∀ {h : Heap} {i : Int}, h.get? R = some (revObj L i) → h.IsRevIter R L i := fun {h i} e => ⟨_, e, rfl, rfl⟩
  constructor
  · intro s ok
    exact (it ok.1).typeIs
  · decide
  · intro h h' ok k
    exact ⟨k _ _ ok.1, ok.2.up fun c o _ e => k c o e⟩
  · intro h ok b mb
    rcases List.mem_cons.mp mb with rfl | mb
    · exact ⟨_, ok.1⟩
    · rcases List.mem_cons.mp mb with rfl | mb
      · obtain ⟨o, e, _⟩ := ok.2.1
        exact ⟨o, e⟩
      · obtain ⟨j, e⟩ := List.getElem?_of_mem mb
        obtain ⟨_, _, _, _, _, o, e3, _⟩ := ok.2.2.2.2 j b e
        exact ⟨o, e3⟩
  · intro b mb
    rw [List.mem_singleton.mp mb]
    exact List.mem_cons_self
  · intro A s Q E calm ok k
    exact lri_keyless ok.1 calm k
  · intro A s d Q E calm ok ld nd k
    have nR : R ≠ d := fun e => nd (e ▸ List.mem_cons_self)
    have nO : ∀ c, c = L ∨ c ∈ as → c ≠ d := fun c h e => nd (by
      rw [← e]
      rcases h with rfl | h
      · exact List.mem_cons_of_mem _ List.mem_cons_self
      · exact List.mem_cons_of_mem _ (List.mem_cons_of_mem _ h))
    have nB : ∀ c, c = L ∨ c ∈ as → c ≠ R := fun c h e => by
      rcases h with rfl | h
      · exact ne e
      · exact nas (e ▸ h)
    refine wpAny_pyIter_revIter (it ok.1) (k R [R] (fun i h => i ≤ vs.length ∧ h.IsRevIter R L ((vs.length : Int) - 1 - (i : Int)) ∧ BackAt X R L acc as vs h) s.heap s.toks ?_ ⟨Nat.zero_le _, ?_, ok.2⟩ (fun _ _ e => e) (fun b mb => .inl mb))
    · constructor
      · intro m
        exact nR (List.mem_singleton.mp m).symm
      · intro i h h' st up
        exact ⟨st.1, st.2.1.at fun o e => up R o nR e, st.2.2.up fun c o w e => up c o (nO c w) e⟩
      · intro i s1 Q1 E1 lt st ld1 k1
        obtain ⟨le, iter, back⟩ := st
        have el : (vs.length : Int) - 1 - (i : Int) = ((vs.length - 1 - i : Nat) : Int) := by omega
        rw [el] at iter
        obtain ⟨c, hc⟩ : ∃ c, as[vs.length - 1 - i]? = some c := ⟨as[vs.length - 1 - i]'(by have := back.2.1; omega), List.getElem?_eq_getElem _⟩
        have item : acc[vs.length - 1 - i]? = some (.ref c) := by
          rw [← Array.getElem?_toList, back.2.2.1, List.getElem?_map, hc]
          rfl
        obtain ⟨key, q, x, e1, e2, e3⟩ := back.2.2.2 _ c hc
        refine wpAny_pyNext_rev_item iter back.1 item fun h' iter' sb => ?_
        have el2 : ((vs.length - 1 - i : Nat) : Int) - 1 = (vs.length : Int) - 1 - ((i + 1 : Nat) : Int) := by omega
        rw [el2] at iter'
        have back' : BackAt X R L acc as vs h' := back.up fun c o w e => sb.extBut c o (nB c w) e
        refine k1 c key x h' s1.toks ⟨q, ?_, e2⟩ (.inl (e3.at fun o e => sb.extBut c o (nB c (.inr (List.mem_of_getElem? hc))) e)) ⟨lt, iter', back'⟩ fun b o nb e => sb.extBut b o (fun z => nb (List.mem_singleton.mpr z)) e
        rw [List.getElem?_reverse (by omega)]
        exact e1
      · intro s1 Q1 E1 st k1
        obtain ⟨_, iter, _⟩ := st
        have el : (vs.length : Int) - 1 - (vs.length : Int) = -1 := by omega
        rw [el] at iter
        exact wpAny_pyNext_rev_end calm iter fun h' eb => k1 h' s1.toks fun b o nb e => eb b o (fun z => nb (List.mem_singleton.mpr z)) e
    · have el : (vs.length : Int) - 1 - ((0 : Nat) : Int) = (vs.length : Int) - 1 := by omega
      rw [el]
      exact it ok.1
/-- dict(reversed(list(view))) of the items of a dict -/
def tDictRev (te : TE) : TE := fun σ H Q => te σ H fun v H1 => ∃ (p a : Addr) (kvs : List (Key × V)), v = .ref p ∧ H1 p = some (vwO "dict_items" p a) ∧ H1 a = some (.dK kvs) ∧ ∀ q, H1 q = none → Q (.ref q) (upd H1 q (.dK kvs.reverse))
theorem pe_dictRev {e : Expr} {te : TE} {p1 p2 p3 c1 c2 c3 : Pos} (calm : X.calm = true) (g1 : Gl X "dict") (m1 : X.mg "dict" = none) (g2 : Gl X "reversed") (m2 : X.mg "reversed" = none) (g3 : Gl X "list") (m3 : X.mg "list" = none) (he : PE X e te)
    (s3 : starEach [e] X.env = (false, eval e X.env) :: starEach [] X.env := by rfl) (s2 : starEach [.Call (.Name "list" p3) [e] [] c3] X.env = (false, eval (.Call (.Name "list" p3) [e] [] c3) X.env) :: starEach [] X.env := by rfl)
    (s1 : starEach [.Call (.Name "reversed" p2) [.Call (.Name "list" p3) [e] [] c3] [] c2] X.env = (false, eval (.Call (.Name "reversed" p2) [.Call (.Name "list" p3) [e] [] c3] [] c2) X.env) :: starEach [] X.env := by rfl) :
    PE X (.Call (.Name "dict" p1) [.Call (.Name "reversed" p2) [.Call (.Name "list" p3) [e] [] c3] [] c2] [] c1) (tDictRev te) := by
  constructor
  intro pins s σ H Q inv k
  have b1 : bootBuiltins ("dict" : Str) = some (.type "dict") := by decide +kernel
  have b3 : bootBuiltins ("list" : Str) = some (.type "list") := by decide +kernel
  apply Call_ (ld_blt inv g1 m1 b1 (PyProof.Rows.callWith_type1 (args_cons (Call_ (ld_blt inv g2 m2 PyProof.Rows.boot_reversed (PyProof.Rows.callWith_type1 (args_cons (Call_ (ld_blt inv g3 m3 b3 (PyProof.Rows.callWith_type1 (args_cons (thn (he.run pins s σ H _ inv k) fun u t1 ⟨v, H1, inv1, rv, q⟩ => args_nil ?_) s3) s3 rfl))) s2) s2 rfl))) s1) s1 rfl))
  obtain ⟨p, a, kvs, rfl, ep, ea, q⟩ := q
  obtain rfl : u = Value.ref p := rv
  have view : t1.heap.IsItemsView p a := (show ObjOk X.prog X.w H1 t1.heap p (vwO "dict_items" p a) from inv1.hok p _ ep).1
  obtain ⟨vs, n, few, own, rel, is, at_⟩ := dict_here inv1 ea
  have len : vs.length = kvs.length := (Paired.length rel).symm
  have fewV : vs.length ≤ sizeLine := len ▸ few
  refine PySem.W.kdx_call (inv1.ok.hd calm) view at_ fewV ?_
  intro h2 tk acc c as old here las pairs items
  refine args_nil ?_
  have isL : h2.IsList t1.heap.objs.size acc := ⟨_, here, rfl, c, rfl⟩
  refine call_reversed_list (s := { t1 with heap := h2, toks := tk }) isL ?_
  refine args_nil ?_
  have nL : t1.heap.objs.size ≠ h2.objs.size := Nat.ne_of_lt (Heap.lt_size here)
  have nas : h2.objs.size ∉ as := fun m => Nat.lt_irrefl _ (pairs.there m)
  have sz : acc.size = vs.length := by
    rw [← las, ← Array.length_toList, items, List.length_map]
  have e3 : (h2.push (revObj t1.heap.objs.size ((acc.size : Int) - 1))).get? h2.objs.size = some (revObj t1.heap.objs.size ((vs.length : Int) - 1)) := by
    rw [sz]
    exact Heap.get?_push_size _ rfl
  have back : BackAt X h2.objs.size t1.heap.objs.size acc as vs (h2.push (revObj t1.heap.objs.size ((acc.size : Int) - 1))) := by
    refine ⟨isL.push _, las, items, fun j b e => ?_⟩
    obtain ⟨key, kk, x, z1, z2, z3⟩ := pairs.pairs j b e
    exact ⟨key, kk, x, z1, z2, _, Heap.get?_push_of_some _ z3, rfl, _, rfl⟩
  refine PySem.call_dict_pairs (s := { t1 with heap := h2.push (revObj t1.heap.objs.size ((acc.size : Int) - 1)), toks := tk }) (knd := mixKind X.prog X.w) (kvs := vs.reverse) (back_arg (X := X) h2.objs.size t1.heap.objs.size acc as vs nL nas) (inv1.ok.hd calm) ⟨e3, back⟩ ⟨List.length_reverse, fun _ _ _ z => z⟩ fewV ?_
  intro h4 tk4 made keep
  have nd : ((([] : List (Key × Value)) ++ vs.reverse).map (·.1)).Nodup := by
    obtain ⟨_, _, _, _, _, _, _, _, z⟩ := is
    rw [List.nil_append, List.map_reverse]
    exact List.pairwise_reverse.mpr (z.imp fun h => h.symm)
  rw [merge_new nd, List.nil_append] at made
  have old4 : ∀ b o, t1.heap.get? b = some o → h4.get? b = some o := fun b o e => keep b o (fun m => by
    have l := Heap.lt_size e
    rw [List.mem_singleton.mp m] at l
    exact Nat.lt_asymm l (Heap.lt_size here)) (Heap.get?_push_of_some _ (old b o e))
  have low : t1.heap.objs.size ≤ (h2.push (revObj t1.heap.objs.size ((acc.size : Int) - 1))).objs.size := by
    rw [Heap.size_push]
    exact Nat.le_succ_of_le (Nat.le_of_lt (Heap.lt_size here))
  have mine : ((h2.push (revObj t1.heap.objs.size ((acc.size : Int) - 1))).objs.size == sysModules) = false := by
    have l : sysModules < (h2.push (revObj t1.heap.objs.size ((acc.size : Int) - 1))).objs.size := Nat.lt_of_lt_of_le inv1.big low
    cases e : (h2.push (revObj t1.heap.objs.size ((acc.size : Int) - 1))).objs.size == sysModules with
    | false => rfl
    | true => exact absurd (eq_of_beq e).symm (Nat.ne_of_lt l)
  have step := inv1.laid (o := .dK kvs.reverse) (t' := tk4) old4 low (show ObjOk X.prog X.w _ h4 _ (.dK kvs.reverse) from ⟨by rw [List.length_reverse]; exact few, mine, vs.reverse, kv_back rel, made⟩)
  exact ⟨.ref _, _, step, rfl, q _ (inv1.hok.fresh low)⟩
end
end Vb
end L2

set_option Elab.async false
set_option linter.all false
set_option maxRecDepth 100000
set_option maxHeartbeats 8000000
/-! Vb, k30: are_straight. -/
namespace L2
namespace Vb
open PySem PySem.Spec PyProof.Rows
def spAre : Sp := fun vs H Q _ => ∃ (p : Int) (cells : Nat) (a : Addr) (W : SumZ) (v : V) (d : PyData) (k : Nat), vs = [.int p, .int (cells : Int), .ref a, v] ∧ p ∈ goods ∧ cells ≤ 8 ∧ Dct H a W ∧ GoodW p cells W ∧ Sho k H v d ∧ ValOk d ∧ ∀ H', Same H H' → Q (.bl (dueB p cells W d)) H'
theorem unit_vec (L j : Nat) : unitZ L j = vecF L (StA.E j) := by
  unfold unitZ vecF StA.E
  refine List.ext_getElem? fun i => ?_
  rw [List.getElem?_set, List.getElem?_map, List.length_replicate, List.getElem?_replicate]
  rcases Nat.lt_or_ge i L with h | h
  · rw [List.getElem?_range h]
    by_cases q : j = i
    · subst q
      rw [if_pos rfl, if_pos h]
      show some 1 = some (if j = j then (1 : Int) else 0)
      rw [if_pos rfl]
    · rw [if_neg q, if_pos h]
      show some 0 = some (if i = j then (1 : Int) else 0)
      rw [if_neg (fun e => q e.symm)]
  · rw [List.getElem?_eq_none (by rw [List.length_range]; exact h)]
    by_cases q : j = i
    · subst q
      rw [if_pos rfl, if_neg (by omega)]
      rfl
    · rw [if_neg q, if_neg (by omega)]
      rfl
theorem keyV_nd : ∀ cells, cells < 9 → (keyV cells).Nodup := by decide +kernel
/-- all vectors by their names -/
def VecS (cells : Nat) (H : Hp) (D : Addr) (s : StA.Fn × StA.Fn) : Prop := ∃ kvs : List (Key × V), H D = some (.dK kvs) ∧ kvs.length ≤ 20 ∧ ∀ x ∈ keyV cells, ∃ t, valV kvs (Sum.inr x) = some (.ref t) ∧ Rw H t (vecF (cells + 3) (colOf cells s x))
theorem vecs_of {cells : Nat} {H : Hp} {kvs : List (Key × V)} {s : StA.Fn × StA.Fn} (h : ∀ x ∈ keyV cells, ∃ t, valV kvs (Sum.inr x) = some (.ref t) ∧ Rw H t (vecF (cells + 3) (colOf cells s x))) : ∀ {T : SumZ}, (∀ q ∈ T, q.1 ∈ keyV cells) → ∃ as : List Addr, Paired (fun t (q : Str × Int) => valV kvs (Sum.inr q.1) = some (.ref t) ∧ Rw H t (vecF (cells + 3) (colOf cells s q.1))) as T
  | [], _ => ⟨[], .nil⟩
  | q :: T, hT => by
    obtain ⟨t, h1⟩ := h q.1 (hT q List.mem_cons_self)
    obtain ⟨as, h2⟩ := vecs_of h fun r m => hT r (List.mem_cons_of_mem _ m)
    exact ⟨t :: as, .cons h1 h2⟩
theorem vecs_rws {cells : Nat} {H H' : Hp} {kvs : List (Key × V)} {s : StA.Fn × StA.Fn} (k : ∀ b o, H b = some o → H' b = some o) : ∀ {as : List Addr} {T : SumZ}, Paired (fun t (q : Str × Int) => valV kvs (Sum.inr q.1) = some (.ref t) ∧ Rw H t (vecF (cells + 3) (colOf cells s q.1))) as T → Rws H' as (T.map fun q => vecF (cells + 3) (colOf cells s q.1))
  | _, _, .nil => .nil
  | _, _, .cons r t => .cons (k _ _ r.2) (vecs_rws k t)
theorem col_range {p : Int} {cells : Nat} {s : StA.Fn × StA.Fn} (p2 : 2 ≤ p) (h : (∀ c, 0 ≤ s.1 c ∧ s.1 c < p) ∧ ∀ c, 0 ≤ s.2 c ∧ s.2 c < p) (x : Str) (c : Nat) : 0 ≤ colOf cells s x c ∧ colOf cells s x c < p := by
  unfold colOf
  by_cases q0 : x = boxS 0
  · rw [if_pos q0]
    exact h.1 c
  · rw [if_neg q0]
    by_cases q1 : x = boxS 1
    · rw [if_pos q1]
      exact h.2 c
    · rw [if_neg q1]
      by_cases q2 : x = ""
      · rw [if_pos q2]
        exact E_range p2 _ c
      · rw [if_neg q2]
        exact E_range p2 _ c
theorem vecF_vc {p : Int} {L : Nat} {f : StA.Fn} (h : ∀ c, 0 ≤ f c ∧ f c < p) : Vc p L (vecF L f) := by
  refine ⟨by unfold vecF; rw [List.length_map, List.length_range], fun y my => ?_⟩
  obtain ⟨c, _, rfl⟩ := List.mem_map.mp my
  exact h c
theorem putK_in {kvs : List (Key × V)} {x : Str} {v : V} (h : (valV kvs (Sum.inr x : Key)).isSome = true) : (putK kvs (Sum.inr x : Key) v).length ≤ kvs.length := by
  unfold putK
  have e : (kvs.any fun kv => decide (kv.1 = (Sum.inr x : Key))) = true := by
    unfold valV at h
    rw [Option.isSome_map, List.find?_isSome] at h
    obtain ⟨q, mq, z⟩ := h
    exact List.any_eq_true.mpr ⟨q, mq, z⟩
  rw [if_pos e, List.length_map]
  exact Nat.le_refl _
abbrev sAre : Stmt := topS 49
abbrev nAre : List Str := ["prime", "cells", "wanted", "value", "sizes", "boxes", "keys", "vectors", "row", "holder", "told", "box", "at", "key"]
theorem scAre : FnScope nAre ["prime", "cells", "wanted", "value"] (defScope sAre) := ⟨rfl, rfl, rfl, by decide +kernel, rfl, by decide +kernel, by decide +kernel⟩
-- cells {'vectors', 'sizes', 'keys'}
section
variable {P : Program} {w : World} {K : PySem.W.Frag} {mg : Str → Option Value} {base : Heap}
theorem ok_are {C aS aP f fIn fRow fUn frequire_straight fname_of_box fkeys_of_cells fchange_of fadded_up fvector_of : Addr} {fd fdIn fdRow fdUn fdrequire_straight fdname_of_box fdkeys_of_cells fdchange_of fdadded_up fdvector_of : FuncData} (F : Fun K "are_straight" "are_straight" sAre f fd)
    (Frequire_straight : Fun K "require_straight" "require_straight" sReqSt frequire_straight fdrequire_straight) (Grequire_straight : FnOk P w K mg base CX0 6 frequire_straight fdrequire_straight ["prime", "cells", "wanted"] spReqSt) (grequire_straight : mg "require_straight" = some (.ref frequire_straight))
    (Fname_of_box : Fun K "name_of_box" "name_of_box" sBox fname_of_box fdname_of_box) (Gname_of_box : FnOk P w K mg base CX0 1 fname_of_box fdname_of_box ["box"] spBox) (gname_of_box : mg "name_of_box" = some (.ref fname_of_box))
    (Fkeys_of_cells : Fun K "keys_of_cells" "keys_of_cells" sKeys fkeys_of_cells fdkeys_of_cells) (Gkeys_of_cells : FnOk P w K mg base CX0 2 fkeys_of_cells fdkeys_of_cells ["cells"] spKeys) (gkeys_of_cells : mg "keys_of_cells" = some (.ref fkeys_of_cells))
    (Fchange_of : Fun K "change_of" "change_of" sChg fchange_of fdchange_of) (Gchange_of : FnOk P w K mg base CX0 2 fchange_of fdchange_of ["modulus", "row", "depth"] spChg) (gchange_of : mg "change_of" = some (.ref fchange_of))
    (Fadded_up : Fun K "added_up" "added_up" sAdd fadded_up fdadded_up) (Gadded_up : FnOk P w K mg base CX0 1 fadded_up fdadded_up ["prime", "vectors", "factors", "length"] spAdd) (gadded_up : mg "added_up" = some (.ref fadded_up))
    (Fvector_of : Fun K "vector_of" "vector_of" sVecOf fvector_of fdvector_of) (Gvector_of : FnOk P w K mg base CX0 1 fvector_of fdvector_of ["wanted", "keys"] spVecOf) (gvector_of : mg "vector_of" = some (.ref fvector_of)) (gAll : mg "all" = none) (gLen : mg "len" = none) (gList : mg "list" = none) (gRange : mg "range" = none) (gType : mg "type" = none) (gEnumerate : mg "enumerate" = none) (gB : ∃ t, mg "STRAIGHT_BOXES" = some (.int 2 t)) (gS : mg "STRAIGHT" = some (.ref aS)) (hS : ∀ H : Hp, SqT K H aS (wordsL.map V.str)) (gC : mg "Sizes" = some (.ref C)) (MC : Mk K C fIn) (cC : Cls K C) (nL : NoAttr K C "limits") (mR : Meth K C "is_row" fRow)
    (FIn : Fun K "__init__" "Sizes.__init__" sInit fIn fdIn) (GIn : FnOk P w K mg base CX0 1 fIn fdIn ["self", "prime", "boxes", "cells", "main_cells"] (spInit C)) (FRow : Fun K "is_row" "Sizes.is_row" sIsRow fRow fdRow) (GRow : FnOk P w K mg base CX0 5 fRow fdRow ["self", "value"] (spIsRow C)) (FUn : Fun K "unit_vector" "unit_vector" sUnit fUn fdUn) (GUn : FnOk P w K mg base CX0 1 fUn fdUn ["width", "at"] spUnit) (gUn : mg "unit_vector" = some (.ref fUn)) :
    FnOk P w K mg base CX0 7 f fd ["prime", "cells", "wanted", "value"] spAre := by
  have brequire_straight : Binds K fdrequire_straight ["prime", "cells", "wanted"] [] := Frequire_straight.binds fun _ _ _ _ _ _ us hl => match us, hl with | [_, _, _], _ => rfl
  have bname_of_box : Binds K fdname_of_box ["box"] [] := Fname_of_box.binds fun _ _ _ _ _ _ us hl => match us, hl with | [_], _ => rfl
  have bkeys_of_cells : Binds K fdkeys_of_cells ["cells"] [] := Fkeys_of_cells.binds fun _ _ _ _ _ _ us hl => match us, hl with | [_], _ => rfl
  have bchange_of : Binds K fdchange_of ["modulus", "row", "depth"] [] := Fchange_of.binds fun _ _ _ _ _ _ us hl => match us, hl with | [_, _, _], _ => rfl
  have badded_up : Binds K fdadded_up ["prime", "vectors", "factors", "length"] [] := Fadded_up.binds fun _ _ _ _ _ _ us hl => match us, hl with | [_, _, _, _], _ => rfl
  have bvector_of : Binds K fdvector_of ["wanted", "keys"] [] := Fvector_of.binds fun _ _ _ _ _ _ us hl => match us, hl with | [_, _], _ => rfl
  have bIn : Binds K fdIn ["self", "prime", "boxes", "cells", "main_cells"] [] := FIn.binds fun _ _ _ _ _ _ us hl => match us, hl with | [_, _, _, _, _], _ => rfl
  have bRow : Binds K fdRow ["self", "value"] [] := FRow.binds fun _ _ _ _ _ _ us hl => match us, hl with | [_, _], _ => rfl
  have bUn : Binds K fdUn ["width", "at"] [] := FUn.binds fun _ _ _ _ _ _ us hl => match us, hl with | [_, _], _ => rfl
  refine F.ok scAre (fun vs H Q E h => ?_) (fun cdv A outer s0 H vs Q E hr h => ?_)
  · obtain ⟨p, cells, a, W, v, d, k, rfl, _⟩ := h
    rfl
  · obtain ⟨p, cells, a, W, v, d, k, rfl, mp, c8, ha, gw, sh, okd, want⟩ := h
    refine ⟨_, (pss_cons (ps_expr (pe_call Grequire_straight (hr.mono (by decide)) rfl grequire_straight Frequire_straight.kp brequire_straight .nil pass0 (pa_cons (pv 0) (pa_cons (pv 1) (pa_cons (pv 2) pa_nil)))))
      (pss_cons (ps_set (i := 4) scAre.nd rfl (Or.inr rfl) (pe_make MC GIn (hr.mono (by decide)) rfl gC bIn .nil pass0 (pa_cons (pv 0) (pa_cons (pe_gint rfl gB) (pa_cons (pv 1) (pa_cons (pv 1) pa_nil))))))
      (pss_cons (ps_if (PW.pt (pw_or (pt_cmpR op_isNotTy (pe_typeD rfl gType (pv 3)) (pe_bltn rfl gList boot_list rel_list) (nomark _)) (pw_or1 (pt_not (pt_val (pe_callB (cr_all rfl) (by rfl) gAll boot_all (pa_cons (pe_lc (te := tAndV (tMeth C "is_row" (spIsRow C) [] E0 (tVar 4) (tCons (tVar 8) tNil)) (tOp (rIn K false) (tOp (rIxT K) (tVar 8) (tC (.int 0))) (tC (.ref aS)))) (own := [("row", 8)]) (g := (gName 8)) (tt := tYes) rfl scAre.nd (pi_list (pv 3)) (blkOk_by (N := nAre) (sc := defScope sAre) (by decide +kernel)) (fun _ _ _ _ _ => pg_name (i := 8) scAre.nd rfl (Or.inl rfl)) (fun _ _ _ _ _ => pts_nil) (fun _ _ _ _ _ => (pe_and (pe_meth (pv 4) cC mR GRow (hr.mono (by decide)) bRow .nil pass0 (pa_cons (pv 8) pa_nil)) (pe_one (pe_cmpR op_in_seq (pe_ix ix_tup (pv 8) pe_int (fun _ _ => rfl)) (pe_glob (v := .ref aS) rfl gS rfl (by decide)) (by rfl)))))) pa_nil)))))))
        (pss_one (ps_ret pe_bl))
        pss_nil)
      (pss_cons (ps_setLc (i := 5) (own := [("box", 11)]) (g := (gName 11)) (tt := tYes) rfl scAre.nd rfl rfl (sw_true rfl rfl rfl (by decide +kernel)) (pi_range1 rfl gRange (pa_cons (pe_gint rfl gB) pa_nil)) (blkOk_by (N := nAre) (sc := defScope sAre) (by decide +kernel)) (fun _ _ _ _ _ => pg_name (i := 11) scAre.nd rfl (Or.inl rfl)) (fun _ _ _ _ _ => pts_nil) (fun _ _ _ _ _ => (pe_call Gname_of_box (hr.mono (by decide)) rfl gname_of_box Fname_of_box.kp bname_of_box .nil pass0 (pa_cons (pv 11) pa_nil))))
      (pss_cons (ps_set (i := 6) scAre.nd rfl (Or.inr rfl) (pe_op op_cat (pv 5) (pe_call Gkeys_of_cells (hr.mono (by decide)) rfl gkeys_of_cells Fkeys_of_cells.kp bkeys_of_cells .nil pass0 (pa_cons (pv 1) pa_nil))))
      (pss_cons (ps_set (i := 7) scAre.nd rfl (Or.inr rfl) (pe_dc (own := [("at", 12), ("key", 13)]) (g := (gTup K 2 (gCons (gName 12) (gCons (gName 13) gNil)))) (tt := tYes) (tk := tVar 13) (tv := tCall spUnit [] E0 (tCons (tCB (rLenQ K) (tCons (tVar 6) tNil)) (tCons (tVar 12) tNil))) rfl scAre.nd (pi_enum (by rfl) gEnumerate (pa_cons (pv 6) pa_nil)) (blkOk_by (N := nAre) (sc := defScope sAre) (by decide +kernel)) (fun _ _ _ _ _ => (pg_tup rfl (pgs_cons (pg_name (i := 12) scAre.nd rfl (Or.inl rfl)) (pgs_cons (pg_name (i := 13) scAre.nd rfl (Or.inl rfl)) pgs_nil)))) (fun _ _ _ _ _ => pts_nil) (fun _ _ _ _ _ => pv 13) (fun _ _ _ _ _ => (pe_call GUn (hr.mono (by decide)) rfl gUn FUn.kp bUn .nil pass0 (pa_cons (pe_callB (call_len_seq) (by rfl) gLen PySem.boot_len (pa_cons (pv 6) pa_nil)) (pa_cons (pv 12) pa_nil))))))
      (pss_cons (ps_for PassesOwn.never rfl (pi_list (pv 3)) (pg_name (i := 8) scAre.nd rfl (Or.inl rfl))
        (pss_cons (ps_asg (pe_call Gchange_of (hr.mono (by decide)) rfl gchange_of Fchange_of.kp bchange_of .nil pass0 (pa_cons (pv 0) (pa_cons (pv 8) (pa_cons pe_int pa_nil)))) (pg_tup rfl (pgs_cons (pg_name (i := 9) scAre.nd rfl (Or.inl rfl)) (pgs_cons (pg_name (i := 10) scAre.nd rfl (Or.inl rfl)) pgs_nil))))
          (pss_one (ps_dput (hu_of hr) (pv 7) (pv 9) (pe_call Gadded_up (hr.mono (by decide)) rfl gadded_up Fadded_up.kp badded_up .nil pass0 (pa_cons (pv 0) (pa_cons (pe_lock (pe_lc (te := tDGet (tVar 7) (tVar 13)) (own := [("key", 13)]) (g := (gName 13)) (tt := tYes) rfl scAre.nd (pi_keys (pv 10)) (blkOk_by (N := nAre) (sc := defScope sAre) (by decide +kernel)) (fun _ _ _ _ _ => pg_name (i := 13) scAre.nd rfl (Or.inl rfl)) (fun _ _ _ _ _ => pts_nil) (fun _ _ _ _ _ => (pe_dget (hu_of hr) (pv 7) (pv 13) (fun _ _ => rfl))))) (pa_cons (pe_callTy (cr_listVals rfl) (by rfl) gList boot_list2 (pa_cons (pe_bm0 PySem.F.plainAttrs_dict PySem.F.slot_dict_values PySem.F.type_dict_values mt_values (pv 10)) pa_nil)) (pa_cons (pe_callB (call_len_seq) (by rfl) gLen PySem.boot_len (pa_cons (pv 6) pa_nil)) pa_nil))))) rfl))))
      (pss_one (ps_ret (pe_cmpR (op_eqD hr.units) (pe_dget (hu_of hr) (pv 7) (pe_ix ix_list (pv 5) pe_int (fun _ _ => rfl)) (fun _ _ => rfl)) (pe_call Gvector_of (hr.mono (by decide)) rfl gvector_of Fvector_of.kp bvector_of .nil pass0 (pa_cons (pv 2) (pa_cons (pv 6) pa_nil))) (nomark _))))))))))), ?_⟩
    have p2 := good_two p mp
    refine ⟨_, rfl, _, rfl, _, rfl, a, W, p, cells, rfl, mp, c8, ha, gw, fun H1 s1 => ?_⟩
    refine ⟨_, rfl, _, rfl, _, rfl, fun x dx nx ndx nex => ?_⟩
    refine ⟨x, dx, p, (cells : Int), rfl, upd_same, fun H2 l nl hl hx keep => ⟨rfl, ?_⟩⟩
    have s2 : Same H H2 := fun b o e => by
      have e1 := s1 _ _ e
      have n1 : b ≠ x := fun z => by
        rw [z, nx] at e1
        cases e1
      have n2 : b ≠ dx := fun z => by
        rw [z, ndx] at e1
        cases e1
      refine keep b o n1 ?_
      rw [upd_ne n1, upd_ne n2]
      exact e1
    clear keep nl nex ndx nx s1
    have sh := sh.up s2
    refine ⟨_, rfl, _, sh.ty, _, _, rfl, rfl, _, rfl, ?_⟩
    rcases okd with ⟨ds, rfl | rfl, l20, okr⟩ | rfl | rfl | rfl
    rotate_left
    · exact iteT (want _ s2)
    · exact iteT (want _ s2)
    · exact iteT (want _ s2)
    · exact iteT (want _ s2)
    obtain ⟨m, b, xs, rfl, rfl, hb, ps⟩ := sh.ofList
    have lx := paired_len ps
    refine iteF ?_
    refine ⟨_, rfl, b, rfl, ⟨xs, SqL.of hb⟩, fun D hD => ?_⟩
    refine lc_list (xs := xs) (GrowB H2 D (ds.map (rowB p cells))) (GrowB.start hD) (fun i H' _ z => SqL.of (z.1 _ _ hb)) ?_ ?_
    · rintro i y H3 hy g
      obtain ⟨e, he, se⟩ := paired_at ps hy
      have me := List.mem_of_getElem? he
      have li := (List.getElem?_eq_some_iff.mp he).1
      have okr := okr e me
      have irw := isRow_words (p := p) (cells := cells) okr
      have fin : ∀ {H4 : Hp}, Same H3 H4 → ∃ acc, H4 D = some (.lst acc) ∧ acc.length < sizeLine ∧ GrowB H2 D (ds.map (rowB p cells)) (i + 1) (upd H4 D (.lst (acc ++ [V.bl (rowB p cells e)]))) := fun {H4} s4 => by
        obtain ⟨acc, k1, k2, k3⟩ := g.step (x := rowB p cells e) hD s4 (by rw [List.getElem?_map, he]; rfl)
        exact ⟨acc, k1, size_ok (by omega), k3⟩
      refine ⟨rfl, tyes ?_⟩
      refine ⟨_, rfl, x, dx, _, rfl, g.1 _ _ hx, rfl, _, rfl, x, dx, l, p, cells, y, e, m, rfl, g.1 _ _ hx, g.1 _ _ hl, se.up g.1, okr, fun H4 s4 => ⟨_, rfl, ?_⟩⟩
      cases eb : isRowB p cells e with
      | false =>
        rw [eb, Bool.false_and] at irw
        rw [← irw] at fin
        exact iteF (fin s4)
      | true =>
        rw [eb, Bool.true_and] at irw
        refine iteT ?_
        obtain ⟨yy, r, rfl⟩ : ∃ yy r, e = .tuple (.str yy :: r) := by
          unfold isRowB at eb
          split at eb
          · exact ⟨_, _, rfl⟩
          · cases eb
        have irw : decide (yy ∈ wordsL) = rowB p cells (.tuple (.str yy :: r)) := irw
        obtain ⟨m2, t, zs, rfl, rfl, ht, qs⟩ := ((se.up g.1).up s4).ofTuple
        cases qs with
        | cons h1 qs =>
        rename_i v0 zs
        obtain rfl := h1.ofStr
        refine ⟨_, rfl, t, _, 0, .str yy, rfl, rfl, SqT.of ht, atI_nat (j := 0) rfl, aS, _, rfl, .inr (hS _), rfl, ?_, ?_⟩
        · rw [List.all_map]
          exact List.all_eq_true.mpr fun _ _ => rfl
        have ei : (if false = true then !inV (.str yy) (wordsL.map V.str) else inV (.str yy) (wordsL.map V.str)) = rowB p cells (.tuple (.str yy :: r)) := by
          rw [if_neg Bool.false_ne_true, in_strs wordsL, irw]
        rw [ei]
        exact fin s4
    intro H3 g
    obtain ⟨s3, hD3⟩ := g.done (by rw [List.length_map, lx]; exact Nat.le_refl _)
    refine ⟨D, _, rfl, SqL.of hD3, _, rfl, ?_⟩
    rw [all_map_id]
    have s23 := same_trans s2 s3
    cases al : ds.all (rowB p cells) with
    | false =>
      have z : dueB p cells W (.list ds) = false := by
        show (ds.all (rowB p cells) && _) = false
        rw [al]
        rfl
      rw [z] at want
      exact iteT (want _ s23)
    | true =>
    refine iteF ?_
    obtain ⟨ts, rfl, hR⟩ := rows_of ps al
    have hR := hR.up s3
    have hb := s3 _ _ hb
    have fits : ∀ r ∈ ds.map rowOf, StA.fits p cells r := fun r mr => by
      obtain ⟨e, me, rfl⟩ := List.mem_map.mp mr
      exact (rowB_iff (List.all_eq_true.mp al e me)).2
    have z : dueB p cells W (.list ds) = decide (vecF (cells + 3) (colsE p cells (ds.map rowOf)).1 = (keyV cells).map (facZ W)) := by
      show (ds.all (rowB p cells) && _) = _
      rw [al, Bool.true_and, due_cols p2.1 c8 fits gw]
    rw [z] at want
    clear z
    generalize ds.map rowOf = rs at hR fits want
    clear okr l20 sh hx hl
    clear lx ps al hD3 g hD
    -- boxes
    refine ⟨2, rfl, by decide, by decide, fun B hB => ?_⟩
    refine lc_range (lo := 0) (n := 2) (fun k H' => GrowS H3 B [boxS 0, boxS 1] k H') (GrowS.start hB) ?_ ?_
    · intro k H4 hk g
      refine ⟨rfl, tyes ⟨_, rfl, k, ?_, by omega, ?_⟩⟩
      · show [V.int (0 + (k : Int))] = _
        rw [Int.zero_add]
      · have hx : [boxS 0, boxS 1][k]? = some (boxS k) := by
          obtain rfl | rfl : k = 0 ∨ k = 1 := by omega
          · rfl
          · rfl
        obtain ⟨acc, h1, h2, h3⟩ := GrowS.step hB g same_rfl hx
        exact ⟨acc, h1, by rw [sizeLine_eq]; omega, h3⟩
    intro H4 g
    obtain ⟨s4, hB4⟩ := g.done (Nat.le_refl _)
    clear g
    have s24 := same_trans s23 s4
    refine ⟨_, rfl, _, rfl, cells, rfl, c8, fun H5 kd s5 nkd hkd => ?_⟩
    refine ⟨B, kd, _, _, rfl, rfl, s5 _ _ hB4, hkd, by rw [List.length_map, List.length_map, keys_len, sizeLine_eq]; show 2 + _ ≤ _; omega, fun ky hky => ?_⟩
    have ek : ([boxS 0, boxS 1].map V.str ++ (keysZ cells).map V.str) = (keyV cells).map V.str := by
      unfold keyV
      rw [List.map_append]
    rw [ek]
    have s6 := same_new (o := .lst ((keyV cells).map V.str)) hky
    have hB6 := s6 _ _ (s5 _ _ hB4)
    have hK6 : (upd H5 ky (.lst ((keyV cells).map V.str))) ky = some (.lst ((keyV cells).map V.str)) := upd_same
    have s26 := same_trans s24 (same_trans s5 s6)
    have s36 := same_trans s4 (same_trans s5 s6)
    generalize upd H5 ky (.lst ((keyV cells).map V.str)) = H6 at hB6 hK6 s26 s36
    clear s6 hkd nkd s5 hky hB4 s4 s24
    have hR := hR.up s36
    have hb := s36 _ _ hb
    clear s36
    have lkv : ((keyV cells).map V.str).length = cells + 3 := by rw [List.length_map, keyV_len]
    -- vectors
    refine ⟨_, rfl, ky, _, rfl, SqL.of hK6, fun D hD => ?_⟩
    have hDH : H D = none := s26.free hD
    refine dc_go (walk_enum (K := K) (a := ky) (xs := (keyV cells).map V.str)) (fun k H' => Same H6 H' ∧ ∃ kvs, H' D = some (.dK kvs) ∧ kvs.length ≤ k ∧ ∀ j y, j < k → (keyV cells)[j]? = some y → ∃ t, valV kvs (Sum.inr y) = some (.ref t) ∧ Rw H' t (vecF (cells + 3) (StA.E j))) ⟨same_new hD, [], upd_same, Nat.le_refl _, fun j y hj => absurd hj (Nat.not_lt_zero _)⟩ (fun k H' _ z => SqL.of (z.1 _ _ hK6)) ?_ ?_
    · rintro k v H7 H8 hk ⟨s7, kvs, hD7, lkvs, al⟩ ⟨T, x1, x2, rfl, hT, rfl, e1, e2⟩
      obtain rfl := Option.some.inj e1
      have e2 : ((keyV cells).map V.str)[k]? = some x2 := e2
      rw [List.getElem?_map] at e2
      obtain ⟨y, hy, rfl⟩ := Option.map_eq_some_iff.mp e2
      clear e1 e2
      have hk : k < cells + 3 := by
        rw [lkv] at hk
        exact hk
      have sT := same_new (o := .tup [V.int (k : Int), V.str y]) hT
      have s8 := same_trans s7 sT
      refine ⟨T, _, rfl, SqT.of upd_same, rfl, _, _, rfl, _, _, rfl, rfl, rfl, tyes ?_⟩
      refine ⟨_, rfl, _, rfl, ky, _, rfl, .inl (SqL.of (s8 _ _ hK6)), _, rfl, ((keyV cells).map V.str).length, k, rfl, by rw [lkv]; exact hk, by rw [lkv]; omega, fun H9 t s9 nt ht => ?_⟩
      have ht : Rw H9 t (vecF (cells + 3) (StA.E k)) := by
        rw [← unit_vec, ← lkv]
        exact ht
      have sT9 := same_trans sT s9
      refine ⟨kvs, Sum.inr y, rfl, sT9 _ _ hD7, by rw [sizeLine_eq]; omega, same_set (same_trans s7 sT9) hD, _, upd_same, ?_, fun j y2 hj hy2 => ?_⟩
      · have := DSub.putK_len kvs (Sum.inr y) (V.ref t)
        omega
      · have off : ∀ {c : Addr} {xs : List Int}, Rw H9 c xs → Rw (upd H9 D (.dK (putK kvs (Sum.inr y) (.ref t)))) c xs := fun {c xs} hc => by
          have n : c ≠ D := fun e => by
            have z := sT9 _ _ hD7
            have hc : H9 c = some (.lst (xs.map V.int)) := hc
            rw [e, z] at hc
            cases hc
          show upd H9 D _ c = _
          rw [upd_ne n]
          exact hc
        rw [valV_put]
        by_cases q : j = k
        · subst q
          rw [hy] at hy2
          cases hy2
          exact ⟨t, if_pos rfl, off ht⟩
        · have ne : ¬ ((Sum.inr y2 : Key) = Sum.inr y) := fun e => q (by
            have e := Sum.inr.inj e
            have nd := keyV_nd cells (by omega)
            obtain ⟨l1, z1⟩ := List.getElem?_eq_some_iff.mp hy
            obtain ⟨l2, z2⟩ := List.getElem?_eq_some_iff.mp hy2
            exact absurd (by rw [z1, z2, e]) (List.pairwise_iff_getElem.mp nd j k l2 l1 (by omega)))
          rw [if_neg ne]
          obtain ⟨t2, v2, h2⟩ := al j y2 (by omega) hy2
          exact ⟨t2, v2, off (sT9 _ _ h2)⟩
    rintro H7 ⟨s7, kvs, hD7, lkvs, al⟩
    have vs0 : VecS cells H7 D (StA.E 0, StA.E 1) := ⟨kvs, hD7, by rw [lkv] at lkvs; omega, fun y my => by
      obtain ⟨j, hj⟩ := List.getElem?_of_mem my
      obtain ⟨t, h1, h2⟩ := al j y (by rw [lkv]; have := (List.getElem?_eq_some_iff.mp hj).1; rw [keyV_len] at this; exact this) hj
      refine ⟨t, h1, ?_⟩
      rw [col_start c8 hj]
      exact h2⟩
    clear al hD7 lkvs
    have hR := hR.up s7
    have hb := s7 _ _ hb
    have hB7 := s7 _ _ hB6
    have hK7 := s7 _ _ hK6
    have s27 := same_trans s26 s7
    clear hB6 hK6 s7 s26
    have nD : ∀ {c : Addr} {o : HO}, H7 c = some o → (∀ kvs, o ≠ .dK kvs) → c ≠ D := fun {c o} hc n e => by
      obtain ⟨kvs, h1, _⟩ := vs0
      rw [e, h1] at hc
      exact n kvs (Option.some.inj hc).symm
    have nbD := nD hb (fun _ h => by cases h)
    have nBD := nD hB7 (fun _ h => by cases h)
    have nKD := nD hK7 (fun _ h => by cases h)
    -- the rows
    refine ⟨_, rfl, b, rfl, ⟨_, SqL.of hb⟩, ?_⟩
    refine for_list (xs := ts.map V.ref) (fun i σ H' => (∀ c o, c ≠ D → H7 c = some o → H' c = some o) ∧ (∃ u8 u9 u10 : Option V, σ = [some (.int p), some (.int (cells : Int)), some (.ref a), some (.ref b), some (.ref x), some (.ref B), some (.ref ky), some (.ref D), u8, u9, u10, none, none, none]) ∧ VecS cells H' D ((rs.take i).foldl (StA.stepF p (cells + 2)) (StA.E 0, StA.E 1))) ⟨fun c o _ e => e, ⟨_, _, _, rfl⟩, vs0⟩ (fun i σ H' _ z => SqL.of (z.1 _ _ nbD hb)) ?_ ?_
    · rintro i y σ H8 hy ⟨k8, ⟨u8, u9, u10, rfl⟩, vs8⟩
      rw [List.getElem?_map] at hy
      obtain ⟨t, ht, rfl⟩ := Option.map_eq_some_iff.mp hy
      clear hy
      obtain ⟨R, hRi, ht1, fit⟩ := paired_at hR ht
      have et : (rs.take (i + 1)).foldl (StA.stepF p (cells + 2)) (StA.E 0, StA.E 1) = StA.stepF p (cells + 2) ((rs.take i).foldl (StA.stepF p (cells + 2)) (StA.E 0, StA.E 1)) R := by
        rw [List.take_add_one, hRi, List.foldl_append]
        rfl
      rw [et]
      clear et
      have rg : (∀ c, 0 ≤ ((rs.take i).foldl (StA.stepF p (cells + 2)) (StA.E 0, StA.E 1)).1 c ∧ ((rs.take i).foldl (StA.stepF p (cells + 2)) (StA.E 0, StA.E 1)).1 c < p) ∧ ∀ c, 0 ≤ ((rs.take i).foldl (StA.stepF p (cells + 2)) (StA.E 0, StA.E 1)).2 c ∧ ((rs.take i).foldl (StA.stepF p (cells + 2)) (StA.E 0, StA.E 1)).2 c < p := cols_range p2.1 (rs.take i)
      generalize (rs.take i).foldl (StA.stepF p (cells + 2)) (StA.E 0, StA.E 1) = st at vs8 rg
      obtain ⟨kvs, hD8, l8, al⟩ := vs8
      have ntD : t ≠ D := nD ht1 (fun _ h => by cases h)
      refine ⟨_, rfl, _, rfl, t, R, p, cells, rfl, p2.1, fit, c8, k8 _ _ ntD ht1, fun H9 tt d s9 ntt htt hd => ?_⟩
      have hd : H9 d = some (.dK (kvsZ (told p R))) := hd
      refine ⟨tt, _, rfl, SqT.of htt, rfl, _, _, rfl, _, _, rfl, rfl, ?_⟩
      have hD9 := s9 _ _ hD8
      have al9 : ∀ x ∈ keyV cells, ∃ t, valV kvs (Sum.inr x) = some (.ref t) ∧ Rw H9 t (vecF (cells + 3) (colOf cells st x)) := fun x mx => (al x mx).elim fun t z => ⟨t, z.1, s9 _ _ z.2⟩
      obtain ⟨as, pas⟩ := vecs_of al9 (told_names fit)
      have las := paired_len pas
      have ltd := told_len (p := p) (R := R)
      have at9 : ∀ {i t} {q : Str × Int}, as[i]? = some t → (told p R)[i]? = some q → valV kvs (Sum.inr q.1) = some (.ref t) := fun {i t q} h1 h2 => by
        obtain ⟨q2, e, z, _⟩ := paired_at pas h1
        rw [h2] at e
        cases e
        exact z
      have nDd : D ≠ d := fun e => by
        have hd0 := hd
        rw [← e, hD9] at hd0
        have ek : kvs = kvsZ (told p R) := HO.dK.inj (Option.some.inj hd0)
        obtain ⟨t0, v0, _⟩ := al9 (boxS 0) List.mem_cons_self
        rw [ek, val_kvs] at v0
        cases ef : (told p R).find? fun q => decide (q.1 = boxS 0) with
        | none =>
          rw [ef] at v0
          cases v0
        | some r =>
          rw [ef] at v0
          cases v0
      refine ⟨_, rfl, ?_⟩
      refine ⟨d, .dK (kvsZ (told p R)), hd, trivial, fun od => ?_⟩
      refine ⟨_, rfl, d, od, rfl, .inl ⟨kvsZ (told p R), upd_same, fun D2 hD2 => ?_⟩⟩
      have n2d : D2 ≠ d := fun e => by
        rw [e, upd_same] at hD2
        cases hD2
      have hD20 : H9 D2 = none := by
        rw [upd_ne n2d] at hD2
        exact hD2
      have lk : (kvsZ (told p R)).length = (told p R).length := List.length_map _
      refine lc_it walk_keys (fun k H' => (∀ c o, c ≠ d → H9 c = some o → H' c = some o) ∧ H' d = some (.frz od (.dK (kvsZ (told p R)))) ∧ H' D2 = some (.lst ((as.take k).map V.ref))) ⟨fun c o nc e => ?_, ?_, upd_same⟩ (fun k H' _ g => g.2.1) ?_ ?_
      · have n2 : c ≠ D2 := fun z => by
          rw [z, hD20] at e
          cases e
        rw [upd_ne n2, upd_ne nc]
        exact e
      · rw [upd_ne (Ne.symm n2d), upd_same]
      · rintro k y H10 H11 hk ⟨g1, g2, g3⟩ ⟨rfl, kk, v, hkv, rfl⟩
        obtain ⟨nm, fc, hw, e1, e2⟩ := kvs_at (u := kV kk) (v := v) (by rw [hkv]; rfl) (by rw [hkv]; rfl)
        have lw := (List.getElem?_eq_some_iff.mp hw).1
        obtain ⟨tk, htk⟩ : ∃ tk, as[k]? = some tk := ⟨as[k]'(by omega), List.getElem?_eq_getElem _⟩
        refine ⟨rfl, tyes ?_⟩
        rw [e1]
        have gg : DGet H11 D (.str nm) (some (.ref tk)) := by
          have z := DGet.k (k := Sum.inr nm) (g1 _ _ nDd hD9)
          rw [at9 htk hw] at z
          exact z
        refine ⟨_, rfl, _, rfl, D, _, rfl, gg, _, g3, by rw [List.length_map, List.length_take, sizeLine_eq]; omega, fun c o nc e => ?_, ?_, ?_⟩
        · have n2 : c ≠ D2 := fun z => by
            rw [z, hD20] at e
            cases e
          rw [upd_ne n2]
          exact g1 c o nc e
        · rw [upd_ne (Ne.symm n2d)]
          exact g2
        · rw [upd_same, List.take_add_one, htk, List.map_append]
          rfl
      rintro H10 ⟨g1, g2, g3⟩
      rw [lk, ← las, List.take_length] at g3
      refine ⟨g2, ?_⟩
      have s11 : Same H9 (upd H10 d (.dK (kvsZ (told p R)))) := fun c o e => by
        by_cases q : c = d
        · rw [q, upd_same]
          rw [q, hd] at e
          exact e
        · rw [upd_ne q]
          exact g1 c o q e
      have h2 : (upd H10 d (.dK (kvsZ (told p R)))) D2 = some (.lst (as.map V.ref)) := by
        rw [upd_ne n2d]
        exact g3
      generalize upd H10 d (.dK (kvsZ (told p R))) = H11 at s11 h2
      clear g1 g2 g3
      have hd11 := s11 _ _ hd
      refine ⟨_, rfl, .inr (.inr (.inl ⟨rfl, .inl ⟨_, hd11⟩⟩)), d, _, rfl, rfl, hd11, fun pv hpv => ?_⟩
      have s12 := same_new (o := vwO "dict_values" pv d) hpv
      refine ⟨pv, d, _, rfl, upd_same, s12 _ _ hd11, fun fl hfl => ?_⟩
      have s13 := same_new (o := .lst ((kvsZ (told p R)).map (·.2))) hfl
      have hf : (upd (upd H11 pv (vwO "dict_values" pv d)) fl (.lst ((kvsZ (told p R)).map (·.2)))) fl = some (.lst (((told p R).map (·.2)).map V.int)) := by
        rw [upd_same]
        unfold kvsZ
        rw [List.map_map, List.map_map]
        rfl
      have s113 := same_trans s12 s13
      generalize upd (upd H11 pv (vwO "dict_values" pv d)) fl (.lst ((kvsZ (told p R)).map (·.2))) = H13 at s113 hf
      have s913 := same_trans s11 s113
      have k813 : ∀ c o, c ≠ D → H7 c = some o → H13 c = some o := fun c o n e => s913 _ _ (s9 _ _ (k8 c o n e))
      refine ⟨_, rfl, ky, _, rfl, .inl (SqL.of (k813 _ _ nKD hK7)), ?_⟩
      refine ⟨p, D2, fl, ((keyV cells).map V.str).length, as, (told p R).map fun q => vecF (cells + 3) (colOf cells st q.1), (told p R).map (fun q : Str × Int => q.2), rfl, p2.1, p2.2, s113 _ _ h2, vecs_rws (fun b o e => s913 _ _ e) pas, ?_, hf, ?_, by rw [lkv]; omega, by rw [List.length_map]; omega, fun H14 dn s14 ndn hdn => ?_⟩
      · intro y my
        obtain ⟨q, mq, rfl⟩ := List.mem_map.mp my
        rw [lkv]
        exact vecF_vc (col_range p2.1 rg q.1)
      · refine ⟨by rw [List.length_map, List.length_map], fun y my => ?_⟩
        obtain ⟨q, mq, rfl⟩ := List.mem_map.mp my
        exact told_range (cells := cells) p2.1 q mq
      have hdn : Rw H14 dn (addZ p ((told p R).map fun q => vecF (cells + 3) (colOf cells st q.1)) ((told p R).map (·.2)) (cells + 3)) := by
        have z := hdn
        rw [lkv] at z
        exact z
      rw [add_told st fit c8] at hdn
      have s914 := same_trans s913 s14
      have hD14 := s914 _ _ hD9
      refine ⟨_, rfl, _, rfl, D, _, rfl, DPut.k (k := Sum.inr (boxS R.h)) hD14 (by rw [sizeLine_eq]; omega), ?_⟩
      have sy : (boxS R.h) ∈ keyV cells := by
        have h2 : R.h < 2 := fit.1
        unfold keyV
        refine List.mem_append_left _ ?_
        obtain e | e : R.h = 0 ∨ R.h = 1 := by omega
        · rw [e]; exact List.mem_cons_self
        · rw [e]; exact List.mem_cons_of_mem _ List.mem_cons_self
      have k814 : ∀ c o, c ≠ D → H7 c = some o → H14 c = some o := fun c o n e => s14 _ _ (k813 c o n e)
      have off : ∀ {c : Addr} {xs : List Int} {u : HO}, Rw H14 c xs → Rw (upd H14 D u) c xs := fun {c xs u} hc => by
        have n : c ≠ D := fun e => by
          have hc : H14 c = some (.lst (xs.map V.int)) := hc
          rw [e, hD14] at hc
          cases hc
        show upd H14 D _ c = _
        rw [upd_ne n]
        exact hc
      refine ⟨fun c o n e => by rw [upd_ne n]; exact k814 c o n e, ⟨_, _, _, rfl⟩, _, upd_same, ?_, fun y my => ?_⟩
      · have := putK_in (kvs := kvs) (x := boxS R.h) (v := V.ref dn) (by
          obtain ⟨t0, v0, _⟩ := al9 _ sy
          rw [v0]
          rfl)
        omega
      · rw [valV_put]
        have ec := col_put (cells := cells) st fit.1 (fun c => StA.colR (cells + 2) R st c % p) y
        show ∃ t, _ ∧ Rw _ t (vecF (cells + 3) (colOf cells (StA.put st R.h fun c => StA.colR (cells + 2) R st c % p) y))
        rw [ec]
        by_cases q : y = boxS R.h
        · rw [if_pos (congrArg Sum.inr q), if_pos q]
          exact ⟨dn, rfl, off hdn⟩
        · rw [if_neg (fun e => q (Sum.inr.inj e)), if_neg q]
          obtain ⟨t2, v2, h2⟩ := al9 y my
          exact ⟨t2, v2, off (s914 _ _ h2)⟩
    · rintro σ H8 ⟨k8, ⟨u8, u9, u10, rfl⟩, vs8⟩
      have el : rs.take (ts.map V.ref).length = rs := by
        rw [List.length_map, paired_len hR]
        exact List.take_length
      rw [el] at vs8
      obtain ⟨kvs, hD8, l8, al⟩ := vs8
      obtain ⟨t0, v0, h0⟩ := al (boxS 0) List.mem_cons_self
      have e0 : colOf cells (rs.foldl (StA.stepF p (cells + 2)) (StA.E 0, StA.E 1)) (boxS 0) = (colsE p cells rs).1 := if_pos rfl
      rw [e0] at h0
      have g0 : DGet H8 D (.str (boxS 0)) (some (.ref t0)) := by
        have z := DGet.k (k := Sum.inr (boxS 0)) hD8
        rw [v0] at z
        exact z
      have k28 : Same H H8 := fun c o e => k8 c o (fun z => by rw [z, hDH] at e; cases e) (s27 c o e)
      refine ⟨_, rfl, _, rfl, B, _, 0, _, rfl, rfl, SqL.of (k8 _ _ nBD hB7), atI_nat (j := 0) rfl, D, _, rfl, g0, ?_⟩
      refine ⟨_, rfl, _, rfl, a, ky, W, keyV cells, rfl, k28 _ _ ha, k8 _ _ nKD hK7, by rw [keyV_len]; omega, fun H9 d s9 nd hd => ?_⟩
      exact eq_row (s9 _ _ h0) hd (want _ (same_trans k28 s9))
end
end Vb
end L2

set_option Elab.async false
set_option linter.all false
set_option maxRecDepth 100000
set_option maxHeartbeats 4000000
/-! Vb, part 16: the draws. -/
namespace L2
namespace Vb
open PySem PySem.Spec PyProof.Rows
abbrev sPurse : Stmt := topS 51
abbrev sMixed : Stmt := topS 52
abbrev sDraw : Stmt := topS 53
abbrev sPurses : Stmt := topS 54
abbrev sOneOf : Stmt := topS 55
/-- the purse at a: what is left, the seed, the turns so far, its number -/
def Purse (H : Hp) (a : Addr) (p q t i : Int) : Prop := H a = some (.lst [.int p, .int q, .int t, .int i])
abbrev pursed (H : Hp) (a : Addr) (p q t i : Int) : Hp := upd H a (.lst [.int p, .int q, .int t, .int i])
def spMixed : Sp := fun vs H Q _ => ∃ q t i : Int, vs = [.int q, .int t, .int i] ∧ 0 ≤ t ∧ t < 1000000000000 ∧ ∀ n : Int, Q (.int n) H
section
variable {P : Program} {w : World} {K : PySem.W.Frag} {mg : Str → Option Value} {base : Heap}
theorem scMixed : FnScope ["_law_seed", "_law_turn", "_law_at", "_law_mixed_here"] ["_law_seed", "_law_turn", "_law_at"] (defScope sMixed) := ⟨rfl, rfl, rfl, by decide +kernel, rfl, by decide +kernel, by decide +kernel⟩
theorem ok_mixed {f : Addr} {fd : FuncData} (F : Fun K "_law_mixed" "_law_mixed" sMixed f fd) : FnOk P w K mg base CX0 1 f fd ["_law_seed", "_law_turn", "_law_at"] spMixed := by
  refine F.ok scMixed (fun vs H Q E h => ?_) (fun cdv A outer s H vs Q E hr h => ?_)
  · obtain ⟨q, t, i, rfl, _⟩ := h
    rfl
  · obtain ⟨q, t, i, rfl, t0, t1, want⟩ := h
    refine ⟨_, pss_cons (ps_set (i := 3) scMixed.nd rfl (Or.inl rfl) (pe_op op_add (pe_op op_mul (pv 0) pe_int) (pe_op op_mul (pe_op op_mul pe_int (pv 1)) (pv 1))))
      (pss_cons (ps_set (i := 3) scMixed.nd rfl (Or.inl rfl) (pe_op op_mod (pe_op op_add (pe_op op_add (pv 3) (pe_op op_mul pe_int (pv 2))) (pv 1)) pe_int))
      (pss_cons (ps_set (i := 3) scMixed.nd rfl (Or.inl rfl) (pe_op op_mod (pe_op op_add (pe_op op_mul (pv 3) (pv 3)) pe_int) pe_int))
      (pss_one (ps_ret (pe_op op_mod (pe_op op_mul (pv 3) pe_int) pe_int))))), ?_⟩
    refine ⟨_, rfl, _, _, rfl, rfl, .inr ⟨by decide, by decide⟩, _, rfl, _, _, rfl, rfl, .inl ⟨by decide, by decide⟩, _, rfl, _, _, rfl, rfl, .inr ⟨by omega, by omega⟩, _, _, rfl, rfl, ?_⟩
    refine ⟨_, rfl, _, rfl, _, _, rfl, rfl, .inl ⟨by decide, by decide⟩, _, _, rfl, rfl, _, rfl, _, _, rfl, rfl, _, _, rfl, rfl, (by show (0 : Int) < 2147483647; decide), ?_⟩
    refine ⟨_, rfl, _, rfl, _, _, rfl, rfl, .inl ⟨?_, ?_⟩, _, _, rfl, rfl, _, _, rfl, rfl, (by show (0 : Int) < 2147483629; decide), ?_⟩
    · have z := Int.emod_nonneg (q * 69069 + 104729 * t * t + 7919 * i + t) (show (2147483647 : Int) ≠ 0 by decide)
      omega
    · have z := Int.emod_lt_of_pos (q * 69069 + 104729 * t * t + 7919 * i + t) (show (0 : Int) < 2147483647 by decide)
      omega
    refine ⟨_, rfl, _, _, rfl, rfl, .inr ⟨by decide, by decide⟩, _, _, rfl, rfl, (by show (0 : Int) < 2147483587; decide), ?_⟩
    exact want _
/-- a purse with at most n turns -/
def Pur (H : Hp) (a : Addr) (n : Nat) : Prop := ∃ p q t i, Purse H a p q t i ∧ 0 ≤ t ∧ t ≤ (n : Int)
theorem Pur.mono {H : Hp} {a : Addr} {n m : Nat} (h : Pur H a n) (l : n ≤ m) : Pur H a m := by
  obtain ⟨p, q, t, i, e, t0, t1⟩ := h
  exact ⟨p, q, t, i, e, t0, by omega⟩
theorem Pur.same {H H' : Hp} {a : Addr} {n : Nat} (h : Pur H a n) (s : Same H H') : Pur H' a n := by
  obtain ⟨p, q, t, i, e, t0, t1⟩ := h
  exact ⟨p, q, t, i, s _ _ e, t0, t1⟩
theorem Pur.but {H H' : Hp} {a m : Addr} {n : Nat} (h : Pur H a n) (s : But m H H') (ne : a ≠ m) : Pur H' a n := by
  obtain ⟨p, q, t, i, e, t0, t1⟩ := h
  exact ⟨p, q, t, i, s _ ne _ e, t0, t1⟩
theorem Pur.ne {H : Hp} {a b : Addr} {n : Nat} (h : Pur H a n) (e : H b = none) : a ≠ b := by
  obtain ⟨p, q, t, i, e2, _⟩ := h
  exact ne_of_none e2 e
/-- a draw below `many`: what the purse holds behind it, and what is drawn -/
def spDraw : Sp := fun vs H Q _ => ∃ (a : Addr) (m : Int) (n : Nat), vs = [.ref a, .int m] ∧ 0 < m ∧ m < 100000 ∧ Pur H a n ∧ n ≤ 1000000 ∧
  ∀ (H' : Hp) (d : Int), 0 ≤ d → d < m → But a H H' → Pur H' a (n + 1) → Q (.int d) H'
theorem bits28 {m : Int} (h0 : 0 < m) (h1 : m < 100000) : (1 + ((Builtin.Int.intBits m : Nat) : Int) / 28).toNat = 1 := by
  have e : Builtin.Int.intBits m ≤ 17 := PyProof.Rows.intBits_le (k := 17) (by omega)
  omega
theorem at4 {p q t i : Int} : atI [V.int p, V.int q, V.int t, V.int i] 0 = some (.int p) ∧ atI [V.int p, V.int q, V.int t, V.int i] 1 = some (.int q) ∧ atI [V.int p, V.int q, V.int t, V.int i] 2 = some (.int t) ∧ atI [V.int p, V.int q, V.int t, V.int i] 3 = some (.int i) := ⟨rfl, rfl, rfl, rfl⟩
theorem scDraw : FnScope ["_law_purse_here", "_law_many", "_law_drawn", "_law_found", "_law_piece"] ["_law_purse_here", "_law_many"] (defScope sDraw) := ⟨rfl, rfl, rfl, by decide +kernel, rfl, by decide +kernel, by decide +kernel⟩
theorem ok_draw {f fM : Addr} {fd fdM : FuncData} (F : Fun K "_law_draw" "_law_draw" sDraw f fd) (FM : Fun K "_law_mixed" "_law_mixed" sMixed fM fdM) (gM : mg "_law_mixed" = some (.ref fM)) (gR : mg "range" = none) :
    FnOk P w K mg base CX0 2 f fd ["_law_purse_here", "_law_many"] spDraw := by
  have GM : FnOk P w K mg base CX0 1 fM fdM ["_law_seed", "_law_turn", "_law_at"] spMixed := ok_mixed FM
  have bM : Binds K fdM ["_law_seed", "_law_turn", "_law_at"] [] := FM.binds fun _ _ _ _ _ _ us hl => match us, hl with | [_, _, _], _ => rfl
  refine F.ok scDraw (fun vs H Q E h => ?_) (fun cdv A outer s H vs Q E hr h => ?_)
  · obtain ⟨a, m, n, rfl, _⟩ := h
    rfl
  · obtain ⟨a, m, n, rfl, m0, m1, ⟨p, q, t, i, hp, t0, t2⟩, n1, want1⟩ := h
    have t1 : t < 100000000 := by omega
    have want : ∀ p' t' d : Int, 0 ≤ d → d < m → t ≤ t' → t' ≤ t + 1 → Q (.int d) (pursed H a p' q t' i) := fun p' t' d d0 d1 e0 e1 => want1 _ d d0 d1 but_upd ⟨p', q, t', i, upd_same, by omega, by omega⟩
    have hp : H a = some (.lst [.int p, .int q, .int t, .int i]) := hp
    refine ⟨_, pss_cons (ps_if (pt_cmpR op_gt (pe_ix ix_list (pv 0) pe_int (fun _ _ => rfl)) pe_int (nomark _))
        (pss_cons (ps_set (i := 2) scDraw.nd rfl (Or.inl rfl) (pe_op op_mod (pe_ix ix_list (pv 0) pe_int (fun _ _ => rfl)) (pv 1)))
        (pss_cons (ps_asg (pe_op op_fdivW (pe_ix ix_list (pv 0) pe_int (fun _ _ => rfl)) (pv 1)) (pg_sub (pv 0) pe_int set_list))
        (pss_one (ps_ret (pv 2))))) pss_nil)
      (pss_cons (ps_set (i := 3) scDraw.nd rfl (Or.inl rfl) pe_int)
      (pss_cons (ps_for PassesOwn.never rfl (pi_range1 rfl gR (pa_cons (pe_op op_add pe_int (pe_op op_fdiv (pe_bits (pv 1)) pe_int)) pa_nil)) (pg_name (i := 4) scDraw.nd rfl (Or.inl rfl))
        (pss_cons (ps_asg (pe_op op_add (pe_ix ix_list (pv 0) pe_int (fun _ _ => rfl)) pe_int) (pg_sub (pv 0) pe_int set_list))
        (pss_one (ps_set (i := 3) scDraw.nd rfl (Or.inl rfl) (pe_op op_add (pe_op op_mul (pv 3) pe_int)
          (pe_call GM (hr.mono (by decide)) rfl gM FM.kp bM .nil pass0 (pa_cons (pe_ix ix_list (pv 0) pe_int (fun _ _ => rfl)) (pa_cons (pe_ix ix_list (pv 0) pe_int (fun _ _ => rfl)) (pa_cons (pe_ix ix_list (pv 0) pe_int (fun _ _ => rfl)) pa_nil))))))))
      ) (pss_one (ps_ret (pe_op op_mod (pv 3) (pv 1)))))), ?_⟩
    refine ⟨_, rfl, _, _, _, _, rfl, rfl, SqL.of hp, at4.1, _, _, rfl, rfl, _, rfl, ite2 (fun _ => ?_) (fun _ => ?_)⟩
    · refine ⟨_, rfl, _, _, _, _, rfl, rfl, SqL.of hp, at4.1, _, rfl, _, _, rfl, rfl, m0, ?_⟩
      refine ⟨_, rfl, _, _, _, _, rfl, rfl, SqL.of hp, at4.1, _, rfl, _, _, rfl, rfl, wide_div (b := 17) m0 (by omega) (by decide) (by decide), ?_⟩
      refine ⟨_, rfl, _, _, _, 0, rfl, rfl, hp, rfl, ?_⟩
      refine ⟨_, rfl, ?_⟩
      exact want _ t _ (Int.emod_nonneg _ (by omega)) (Int.emod_lt_of_pos _ m0) (Int.le_refl _) (by omega)
    · refine ⟨_, rfl, _, rfl, _, _, rfl, rfl, ⟨by decide, by decide⟩, _, _, rfl, rfl, _, rfl, ?_, ?_, ?_⟩
      · have z : (0 : Int) ≤ ((Builtin.Int.intBits m : Nat) : Int) := Int.natCast_nonneg _
        omega
      · have e : Builtin.Int.intBits m ≤ 17 := PyProof.Rows.intBits_le (k := 17) (by omega)
        omega
      rw [bits28 m0 m1]
      refine for_range (lo := 0) (n := 1) (fun k σ H' => (k = 0 ∧ σ = [some (.ref a), some (.int m), none, some (.int 0), none] ∧ H' = H) ∨ (k = 1 ∧ ∃ (n : Int) (v : Option V), σ = [some (.ref a), some (.int m), none, some (.int n), v] ∧ H' = pursed H a p q (t + 1) i)) (.inl ⟨rfl, rfl, rfl⟩) ?_ ?_
      · rintro k σ H' hk (⟨rfl, rfl, rfl⟩ | ⟨rfl, _⟩)
        · refine ⟨_, rfl, _, _, _, _, rfl, rfl, SqL.of hp, at4.2.2.1, _, _, rfl, rfl, ?_⟩
          refine ⟨_, rfl, _, _, _, 2, rfl, rfl, hp, rfl, ?_⟩
          have hp2 : pursed H' a p q (t + 1) i a = some (.lst [.int p, .int q, .int (t + 1), .int i]) := upd_same
          refine ⟨_, rfl, _, _, rfl, rfl, .inr ⟨by decide, by decide⟩, _, rfl, _, _, _, _, rfl, rfl, SqL.of hp2, at4.2.1, _, rfl, _, _, _, _, rfl, rfl, SqL.of hp2, at4.2.2.1, _, rfl, _, _, _, _, rfl, rfl, SqL.of hp2, at4.2.2.2, ?_⟩
          refine ⟨_, _, _, rfl, by omega, by omega, fun n => ⟨_, _, rfl, rfl, ?_⟩⟩
          exact .inr ⟨rfl, _, _, rfl, rfl⟩
        · omega
      · rintro σ H' (⟨z, _⟩ | ⟨_, n, v, rfl, rfl⟩)
        · omega
        · refine ⟨_, rfl, _, rfl, _, _, rfl, rfl, m0, ?_⟩
          exact want _ _ _ (Int.emod_nonneg _ (by omega)) (Int.emod_lt_of_pos _ m0) (by omega) (Int.le_refl _)
/-- one of a list, drawn -/
def spOneOf : Sp := fun vs H Q _ => ∃ (a l : Addr) (xs : List V) (n : Nat), vs = [.ref a, .ref l] ∧ Pur H a n ∧ n ≤ 1000000 ∧ H l = some (.lst xs) ∧ l ≠ a ∧ 0 < xs.length ∧ xs.length < 100000 ∧
  ∀ (j : Nat) (x : V) (H' : Hp), xs[j]? = some x → But a H H' → Pur H' a (n + 1) → Q x H'
theorem scOneOf : FnScope ["_law_purse_here", "_law_some"] ["_law_purse_here", "_law_some"] (defScope sOneOf) := ⟨rfl, rfl, rfl, by decide +kernel, rfl, by decide +kernel, by decide +kernel⟩
theorem ok_oneOf {f fD fM : Addr} {fd fdD fdM : FuncData} (F : Fun K "_law_one_of" "_law_one_of" sOneOf f fd) (FD : Fun K "_law_draw" "_law_draw" sDraw fD fdD) (FM : Fun K "_law_mixed" "_law_mixed" sMixed fM fdM)
    (gD : mg "_law_draw" = some (.ref fD)) (gM : mg "_law_mixed" = some (.ref fM)) (gR : mg "range" = none) (gL : mg "len" = none) : FnOk P w K mg base CX0 3 f fd ["_law_purse_here", "_law_some"] spOneOf := by
  have GD : FnOk P w K mg base CX0 2 fD fdD ["_law_purse_here", "_law_many"] spDraw := ok_draw FD FM gM gR
  have bD : Binds K fdD ["_law_purse_here", "_law_many"] [] := FD.binds fun _ _ _ _ _ _ us hl => match us, hl with | [_, _], _ => rfl
  refine F.ok scOneOf (fun vs H Q E h => ?_) (fun cdv A outer s H vs Q E hr h => ?_)
  · obtain ⟨a, l, xs, n, rfl, _⟩ := h
    rfl
  · obtain ⟨a, l, xs, n, rfl, hp, nn, hl, la, n0, n1, want⟩ := h
    refine ⟨_, pss_one (ps_ret (pe_ix ix_list (pv 1) (pe_call GD (hr.mono (by decide)) rfl gD FD.kp bD .nil pass0 (pa_cons (pv 0) (pa_cons (pe_callB call_len_seq (by rfl) gL PySem.boot_len (pa_cons (pv 1) pa_nil)) pa_nil))) (fun _ _ => rfl))), ?_⟩
    refine ⟨_, rfl, _, rfl, _, rfl, l, _, rfl, .inl (SqL.of hl), ?_⟩
    refine ⟨a, _, n, rfl, by omega, by omega, hp, nn, fun H' d d0 d1 bt hp' => ?_⟩
    have hl2 : H' l = some (.lst xs) := bt l la _ hl
    obtain ⟨x, hx⟩ : ∃ x, xs[d.toNat]? = some x := ⟨xs[d.toNat]'(by omega), by rw [List.getElem?_eq_getElem]⟩
    have ed : d = ((d.toNat : Nat) : Int) := by omega
    refine ⟨_, _, _, x, rfl, rfl, SqL.of hl2, by rw [ed]; exact atI_nat hx, ?_⟩
    exact want _ x H' hx bt hp'
end
/-- ten to the sixty, to the eight -/
def CPowT (i j : Int) : Prop := i = 10 ^ 60 ∧ j = 8
theorem op_powT {X : Cx} : OpR X (binaryOp .Pow) (rI CPowT fun i j => .int (i ^ j.toNat)) := opI fun i j t u s Q E hc q => by
  obtain ⟨rfl, rfl⟩ := hc
  exact PySem.AutoIntOps.pow_4 (by decide) (by decide) (by decide +kernel) (by decide +kernel) (by decide +kernel) q
theorem ten18 : (10 : Int) ^ (18 : Int).toNat = 1000000000000000000 := by decide +kernel
theorem cut_ints (ns : List Int) (lo hi : Option Int) : ∃ ms : List Int, cutV (ns.map V.int) lo hi = ms.map V.int := by
  refine ⟨(ns.drop (HT.sIx (ns.map V.int).length 0 lo)).take (HT.sIx (ns.map V.int).length (ns.map V.int).length hi - HT.sIx (ns.map V.int).length 0 lo), ?_⟩
  unfold cutV
  rw [List.map_take, List.map_drop]
def spPurse (K : PySem.W.Frag) : Sp := fun vs H Q _ => ∃ (s : Addr) (ns : List Int) (i : Int), vs = [.ref s, .int i] ∧ SqL K H s (ns.map V.int) ∧ ∀ (H' : Hp) (a : Addr) (p q : Int), Same H H' → H a = none → Purse H' a p q 0 i → Q (.ref a) H'
def spPurses (K : PySem.W.Frag) : Sp := fun vs H Q _ => ∃ (s : Addr) (ns : List Int) (few : Int), vs = [.ref s, .int few] ∧ SqL K H s (ns.map V.int) ∧ ns.length ≤ 63 ∧ 0 ≤ few ∧ few ≤ 100 ∧
  ∀ (H' : Hp) (l : Addr) (as : List Addr), Same H H' → H l = none → H' l = some (.lst (as.map V.ref)) → as.length ≤ 100 → as.Nodup → (∀ a ∈ as, H a = none ∧ a ≠ l ∧ ∃ p q i, Purse H' a p q 0 i) → Q (.ref l) H'
section
variable {P : Program} {w : World} {K : PySem.W.Frag} {mg : Str → Option Value} {base : Heap}
theorem scPurse : FnScope ["_law_script", "_law_at", "_law_seed"] ["_law_script", "_law_at"] (defScope sPurse) := ⟨rfl, rfl, rfl, by decide +kernel, rfl, by decide +kernel, by decide +kernel⟩
theorem ok_purse {f : Addr} {fd : FuncData} (F : Fun K "_law_purse" "_law_purse" sPurse f fd) (gS : mg "sum" = none) (gM : mg "max" = none) : FnOk P w K mg base CX0 1 f fd ["_law_script", "_law_at"] (spPurse K) := by
  refine F.ok scPurse (fun vs H Q E h => ?_) (fun cdv A outer s H vs Q E hr h => ?_)
  · obtain ⟨s, ns, i, rfl, _⟩ := h
    rfl
  · obtain ⟨sc, ns, i, rfl, hs, want⟩ := h
    refine ⟨_, pss_cons (ps_set (i := 2) scPurse.nd rfl (Or.inl rfl) (pe_callB (cr_sum rfl) (by rfl) gS boot_sum (pa_cons (pe_slice sl_list (pv 0) (po_some (pv 1)) (po_some (pe_op op_add (pv 1) pe_int))) pa_nil)))
      (pss_one (ps_ret (pe_lst (pa_cons (pe_op op_mod (pe_callB (call_max2 rfl) (by rfl) gM boot_max (pa_cons (pe_op op_sub (pv 2) (pe_op op_pow pe_int pe_int)) (pa_cons pe_int pa_nil))) (pe_op op_powT (pe_op op_pow pe_int pe_int) pe_int))
        (pa_cons (pe_op op_mod (pv 2) pe_int) (pa_cons pe_int (pa_cons (pv 1) pa_nil))))))), ?_⟩
    refine ⟨_, rfl, _, rfl, i, rfl, _, rfl, _, _, rfl, rfl, i + 1, rfl, sc, _, rfl, hs, fun c hc => ?_⟩
    obtain ⟨ms, em⟩ := cut_ints ns (some i) (some (i + 1))
    have hcm : upd H c (.lst (cutV (ns.map V.int) (some i) (some (i + 1)))) c = some (.lst (ms.map V.int)) := by
      rw [upd_same, em]
    refine ⟨c, ms, rfl, SqL.of hcm, ?_⟩
    refine ⟨_, rfl, _, _, rfl, rfl, ⟨by decide, by decide, by decide⟩, _, _, rfl, rfl, _, _, rfl, _, _, rfl, rfl, ⟨by decide, by decide, by decide⟩, _, _, rfl, rfl, ⟨by decide +kernel, rfl⟩, _, _, rfl, rfl, (by show (0 : Int) < (10 ^ Int.toNat 60) ^ Int.toNat 8; decide +kernel), ?_⟩
    refine ⟨_, rfl, _, _, rfl, rfl, (by show (0 : Int) < 2147483629; decide), _, rfl, (by show 4 ≤ sizeLine; decide), fun a ha => ?_⟩
    have nac : a ≠ c := fun z => by
      rw [z, upd_same] at ha
      cases ha
    have ha0 : H a = none := (upd_ne nac).symm.trans ha
    refine want _ a _ _ (fun b o e => ?_) ha0 upd_same
    rw [upd_ne (ne_of_none e ha0), upd_ne (ne_of_none e hc)]
    exact e
theorem scPurses : FnScope ["_law_script", "_law_few", "_law_at"] ["_law_script", "_law_few"] (defScope sPurses) := ⟨rfl, rfl, rfl, by decide +kernel, rfl, by decide +kernel, by decide +kernel⟩
theorem ok_purses {f fP : Addr} {fd fdP : FuncData} (F : Fun K "_law_purses" "_law_purses" sPurses f fd) (FP : Fun K "_law_purse" "_law_purse" sPurse fP fdP) (gP : mg "_law_purse" = some (.ref fP)) (gS : mg "sum" = none) (gX : mg "max" = none) (gN : mg "min" = none) (gR : mg "range" = none) (gL : mg "len" = none) :
    FnOk P w K mg base CX0 2 f fd ["_law_script", "_law_few"] (spPurses K) := by
  have GP : FnOk P w K mg base CX0 1 fP fdP ["_law_script", "_law_at"] (spPurse K) := ok_purse FP gS gX
  have bP : Binds K fdP ["_law_script", "_law_at"] [] := FP.binds fun _ _ _ _ _ _ us hl => match us, hl with | [_, _], _ => rfl
  refine F.ok scPurses (fun vs H Q E h => ?_) (fun cdv A outer s H vs Q E hr h => ?_)
  · obtain ⟨s, ns, few, rfl, _⟩ := h
    rfl
  · obtain ⟨sc, ns, few, rfl, hs, len63, few0, few1, want⟩ := h
    refine ⟨_, pss_one (ps_ret (pe_lc (own := [("_law_at", 2)]) (g := gName 2) (tt := tYes) rfl scPurses.nd
      (pi_range1 rfl gR (pa_cons (pe_callB (call_max2 rfl) (by rfl) gX boot_max (pa_cons pe_int (pa_cons (pe_callB (call_min2 rfl) (by rfl) gN boot_min (pa_cons (pv 1) (pa_cons (pe_callB call_len_seq (by rfl) gL PySem.boot_len (pa_cons (pv 0) pa_nil)) pa_nil))) pa_nil))) pa_nil))
      (blkOk_by (N := ["_law_script", "_law_few", "_law_at"]) (sc := defScope sPurses) (by decide +kernel)) (fun _ _ _ _ _ => pg_name (i := 2) scPurses.nd rfl (Or.inl rfl)) (fun _ _ _ _ _ => pts_nil)
      (fun _ _ _ _ _ => pe_call GP (hr.mono (by decide)) rfl gP FP.kp bP .nil pass0 (pa_cons (pv 0) (pa_cons (pv 2) pa_nil))))), ?_⟩
    refine ⟨_, rfl, _, rfl, sc, _, rfl, .inl hs, _, _, rfl, _, _, rfl, _, rfl, ?_, ?_, ?_⟩
    · rw [List.length_map]
      split <;> split <;> omega
    · rw [List.length_map]
      split <;> split <;> omega
    intro D hD
    obtain ⟨n, hn, n100⟩ : ∃ n : Nat, (if (if ((ns.map V.int).length : Int) < few then ((ns.map V.int).length : Int) else few) > 1 then (if ((ns.map V.int).length : Int) < few then ((ns.map V.int).length : Int) else few) else 1).toNat = n ∧ n ≤ 100 := ⟨_, rfl, by
      rw [List.length_map]
      split <;> split <;> omega⟩
    rw [hn]
    refine lc_range (lo := 0) (n := n) (fun k H' => Same H H' ∧ ∃ as : List Addr, as.length = k ∧ H' D = some (.lst (as.map V.ref)) ∧ as.Nodup ∧ ∀ a ∈ as, H a = none ∧ a ≠ D ∧ ∃ p q i, Purse H' a p q 0 i)
      ⟨fun b o e => by rw [upd_ne (ne_of_none e hD)]; exact e, [], rfl, upd_same, List.nodup_nil, fun a z => (List.not_mem_nil z).elim⟩ ?_ ?_
    · rintro k H' hk ⟨sm, as, la, hDl, nod, hall⟩
      refine ⟨rfl, tyes ?_⟩
      refine ⟨_, rfl, _, rfl, sc, ns, _, rfl, sm.seq hs, fun H2 a p q s2 na pu => ?_⟩
      have hD2 := s2 _ _ hDl
      have naD : a ≠ D := fun z => by
        rw [z, hDl] at na
        cases na
      refine ⟨_, hD2, by rw [List.length_map, la, sizeLine_eq]; omega, ?_⟩
      refine ⟨fun b o e => ?_, as ++ [a], by rw [List.length_append, la]; rfl, ?_, ?_, fun x hx => ?_⟩
      · rw [upd_ne (ne_of_none e hD)]
        exact s2 _ _ (sm _ _ e)
      · rw [upd_same, List.map_append]
        rfl
      · refine List.nodup_append.mpr ⟨nod, by simp, fun x mx y my e => ?_⟩
        rw [List.mem_singleton.mp my] at e
        obtain ⟨_, _, p1, q1, i1, pu1⟩ := hall x mx
        have z : H' x = some _ := pu1
        rw [e, na] at z
        cases z
      · rcases List.mem_append.mp hx with z | z
        · obtain ⟨e1, e2, p1, q1, i1, pu1⟩ := hall x z
          refine ⟨e1, e2, p1, q1, i1, ?_⟩
          unfold Purse
          rw [upd_ne e2]
          exact s2 _ _ pu1
        · rw [List.mem_singleton.mp z]
          refine ⟨sm.free na, naD, p, q, 0 + (k : Int), ?_⟩
          unfold Purse
          rw [upd_ne naD]
          exact pu
    · rintro H' ⟨sm, as, la, hDl, nod, hall⟩
      exact want H' D as sm hD hDl (by omega) nod hall
end
end Vb
end L2

set_option Elab.async false
set_option linter.all false
set_option maxRecDepth 100000
set_option maxHeartbeats 8000000
/-! Vb, k30: _law_bent. -/
namespace L2
namespace Vb
open PySem PySem.Spec PyProof.Rows
/-- what is known in a turn: the place, the row there, the number drawn, what was found -/
structure TI where
  k : Nat
  r : StA.R
  num : Int
  fs : List PyData
  t : Addr
def rowL (r : StA.R) : List PyData := [.str (wordS r.w), .int (r.h : Int), .int r.n]
def bend0 (gs : List PyData) : List PyData := [.none, .int 5, .tuple [], .dict [], .tuple gs, .list gs.dropLast, .list (gs.drop 1), .list gs.reverse, .list (gs ++ [.tuple [.str "set", .int 0, .int 0]]), .list (gs ++ [.none])]
def bend1 (gs : List PyData) : List PyData := [.list ([.tuple [.str "copy", .int 1, .int 0]] ++ gs), .list (gs ++ [.tuple [.str "copy", .int 1, .int 0]]), .list (gs ++ [.tuple [.str "print", .int 0]]), .list ([.tuple [.str "read", .int 0]] ++ gs)]
def bend2 (gs : List PyData) : List PyData := [.list (gs ++ [.tuple [.str "add", .int 0, .int 1]]), .list (gs ++ [.tuple [.str "set", .int 1, .int 1]]), .list (gs ++ [.tuple [.str "keep", .int 0, .int 0]]), .list (gs ++ [.tuple [.str "set", .int 2, .int 0]])]
def bend3 (gs : List PyData) : List PyData := [.list (gs ++ [.tuple [.str "fetch", .int 0, .int 0]]), .list ([.tuple [.str "go", .int 1]] ++ gs), .list (gs ++ [.tuple [.str "end"]]), .list (gs ++ [.tuple [.str "store", .int 0, .int 0]])]
def bend4 (gs : List PyData) : List PyData := [.list ([.tuple [.str "mark", .str "m", .list [.tuple [.str "s"]]]] ++ gs), .list (gs ++ [.tuple [.str "back"]]), .list ([.tuple [.str "pick", .list [.int 1, .int 1]]] ++ gs)]
def turn1 (gs : List PyData) (i : TI) : List PyData := [.list (((gs.take i.k) ++ [.tuple [.str (wordS i.r.w), .int (i.r.h : Int), .int i.num]]) ++ (gs.drop (i.k + 1))), .list ((gs.take i.k) ++ (gs.drop (i.k + 1)))]
def turn2 (gs : List PyData) (i : TI) : List PyData := [.list (((gs.take i.k) ++ [.tuple [.str "times", .int (i.r.h : Int), .int i.num]]) ++ (gs.drop i.k)), .list (((gs.take i.k) ++ [.list (rowL i.r)]) ++ (gs.drop (i.k + 1)))]
def turn3 (gs : List PyData) (i : TI) : PyData := .list (((gs.take i.k) ++ [.tuple [.str (wordS i.r.w), .int (i.r.h : Int), .bool true]]) ++ (gs.drop (i.k + 1)))
structure BR (b : Addr) (gs : List PyData) (a : Addr) (σ : St) (H : Hp) : Prop where
  v : σ[3]? = some (some (.ref b))
  sv : ∀ n, 2 ≤ n → Sho n (msk a H) (.ref b) (.list gs)
def BF (b : Addr) (gs : List PyData) (a : Addr) (fs : List PyData) (σ : St) (H : Hp) : Prop := ∃ (_ : BR b gs a σ H), ∃ vf : V, fs.length ≤ 100 ∧ σ[4]? = some (some vf) ∧ Sho 5 (msk a H) vf (.list fs)
structure BT (b : Addr) (gs : List PyData) (a : Addr) (i : TI) (σ : St) (H : Hp) : Prop where
  c : BR b gs a σ H
  eA : σ[6]? = some (some (.int (i.k : Int)))
  eR : σ[7]? = some (some (.ref i.t))
  sr : ∀ n, 1 ≤ n → Sho n (msk a H) (.ref i.t) (rwD i.r)
  eN : σ[8]? = some (some (.int i.num))
  lf : i.fs.length ≤ 100
  f : ∃ vf : V, σ[4]? = some (some vf) ∧ Sho 5 (msk a H) vf (.list i.fs)
theorem BT.ef {b a : Addr} {gs : List PyData} {i : TI} {σ : St} {H : Hp} (c : BT b gs a i σ H) : σ[4]? = some (some c.f.choose) := c.f.choose_spec.1
theorem BT.sf {b a : Addr} {gs : List PyData} {i : TI} {σ : St} {H : Hp} (c : BT b gs a i σ H) : Sho 5 (msk a H) c.f.choose (.list i.fs) := c.f.choose_spec.2
abbrev rLisOf (K : PySem.W.Frag) : List V → Hp → VK → Prop := fun xs H Q => ∃ p ys, xs = [.ref p] ∧ (SqL K H p ys ∨ SqT K H p ys) ∧ ∀ l, H l = none → Q (.ref l) (upd H l (.lst ys))
section
variable {a : Addr} {n : Nat} {σ : St} {H0 : Hp}
theorem paired_init {α β : Type} {R : α → β → Prop} {xs : List α} {as : List β} (h : Paired R xs as) : Paired R xs.dropLast as.dropLast := by
  rw [List.dropLast_eq_take, List.dropLast_eq_take, paired_len h]
  exact paired_take _ h
theorem paired_rev {α β : Type} {R : α → β → Prop} : ∀ {xs : List α} {as : List β}, Paired R xs as → Paired R xs.reverse as.reverse
  | _, _, .nil => .nil
  | _, _, .cons r t => by
    rw [List.reverse_cons, List.reverse_cons]
    exact paired_app (paired_rev t) (.cons r .nil)
theorem cut_init (xs : List V) : cutV xs none (some (-1)) = xs.dropLast := by
  unfold cutV
  rw [HT.sIx_none, List.drop_zero, List.dropLast_eq_take]
  congr 1
  show (if (-1 : Int) < 0 then (-1 + (xs.length : Int)).toNat else min (-1 : Int).toNat xs.length) - 0 = _
  rw [if_pos (by decide)]
  omega
theorem lays_init {K : PySem.W.Frag} {te : TE} {ds : List PyData} (h : Lays a te (n + 1) σ H0 (.list ds)) : Lays a (tSl (rSlL K) te tNoPart (tPart (tUn (rU fun i => .int (-i)) (tC (.int 1))))) (n + 1) σ H0 (.list ds.dropLast) := fun ha H Q s q =>
  h ha H _ s fun v H1 s1 e1 => ⟨_, rfl, _, rfl, by
    obtain ⟨m1, b, us, q1, rfl, hb, p1⟩ := e1.ofList
    cases q1
    refine ⟨b, us, rfl, SqL.of (msk_le _ _ hb), fun p hp => ?_⟩
    rw [cut_init]
    exact q _ _ (same_trans s1 (same_new hp)) (Sho.lst (msk_upd (some_up ha (same_trans s s1)) hp) (paired_init (sh_same p1 (msk_same (same_new hp)))))⟩
theorem lays_rev {K : PySem.W.Frag} {te : TE} {ds : List PyData} (h : Lays a te (n + 1) σ H0 (.list ds)) : Lays a (tRevL K te) (n + 1) σ H0 (.list ds.reverse) := fun ha H Q s q =>
  h ha H _ s fun v H1 s1 e1 => by
    obtain ⟨m1, b, us, q1, rfl, hb, p1⟩ := e1.ofList
    cases q1
    exact ⟨b, us, rfl, SqL.of (msk_le _ _ hb), fun p hp => q _ _ (same_trans s1 (same_new hp)) (Sho.lst (msk_upd (some_up ha (same_trans s s1)) hp) (paired_rev (sh_same p1 (msk_same (same_new hp)))))⟩
theorem row_at {H : Hp} {t : Addr} {r : StA.R} (h : ∀ n, 1 ≤ n → Sho n (msk a H) (.ref t) (rwD r)) : msk a H t = some (.tup [.str (wordS r.w), .int (r.h : Int), .int r.n]) := by
  obtain ⟨m, b, ys, e, e2, hb, ps⟩ := (h 1 (Nat.le_refl _)).ofTuple
  cases e2
  cases ps with
  | cons h1 ps =>
    cases ps with
    | cons h2 ps =>
      cases ps with
      | cons h3 ps =>
        cases ps
        obtain rfl := h1.ofStr
        obtain rfl := h2.ofInt
        obtain rfl := h3.ofInt
        exact hb
theorem lays_row0 {K : PySem.W.Frag} {t : Addr} {r : StA.R} {j : Nat} (e : σ[j]? = some (some (.ref t))) (h : ∀ n, 1 ≤ n → Sho n (msk a H0) (.ref t) (rwD r)) : Lays a (tOp (rIxT K) (tVar j) (tC (.int 0))) n σ H0 (.str (wordS r.w)) := fun _ H Q s q => ⟨_, e, t, _, 0, _, rfl, rfl, SqT.of (s _ _ (msk_le _ _ (row_at h))), rfl, q _ H same_rfl (Sho.str _)⟩
theorem lays_row1 {K : PySem.W.Frag} {t : Addr} {r : StA.R} {j : Nat} (e : σ[j]? = some (some (.ref t))) (h : ∀ n, 1 ≤ n → Sho n (msk a H0) (.ref t) (rwD r)) : Lays a (tOp (rIxT K) (tVar j) (tC (.int 1))) n σ H0 (.int (r.h : Int)) := fun _ H Q s q => ⟨_, e, t, _, 1, _, rfl, rfl, SqT.of (s _ _ (msk_le _ _ (row_at h))), rfl, q _ H same_rfl (Sho.int _)⟩
theorem lays_listOf {K : PySem.W.Frag} {t : Addr} {r : StA.R} {j : Nat} (e : σ[j]? = some (some (.ref t))) (h : ∀ n, 1 ≤ n → Sho n (msk a H0) (.ref t) (rwD r)) : Lays a (tCB (rLisOf K) (tCons (tVar j) tNil)) (n + 1) σ H0 (.list (rowL r)) := fun ha H Q s q => ⟨_, e, t, _, rfl, .inr (SqT.of (s _ _ (msk_le _ _ (row_at h)))), fun p hp => q _ _ (same_new hp) (Sho.lst (msk_upd (some_up ha s) hp) (.cons (Sho.str _) (.cons (Sho.int _) (.cons (Sho.int _) .nil))))⟩
def tDatNI {ι : Type} (a : Addr) (C : ι → St → Hp → Prop) (n : Nat) (ds : ι → List PyData) : TE := fun σ H Q => ∃ i, C i σ H ∧ (∃ o, H a = some o) ∧ ∀ (H1 : Hp) (p : Addr) (vs : List V), Same H H1 → H1 p = none → Paired (Sho n (msk a H1)) vs (ds i) → Q (.ref p) (upd H1 p (.lst vs))
theorem pe_datNI {ι : Type} {a : Addr} {X : Cx} {e : Expr} {te : TE} {C : ι → St → Hp → Prop} {n : Nat} {ds : ι → List PyData} (h : PE X e te) (L : ∀ i σ H, C i σ H → LaysN a te n σ H (ds i)) : PE X e (tDatNI a C n ds) := ⟨fun pins s σ H Q I k => by
  obtain ⟨i, c, o, q⟩ := k
  exact h.run pins s σ H Q I (L i σ H c o H Q same_rfl q)⟩
end
section
variable {K : PySem.W.Frag} {b a : Addr} {gs : List PyData} {σ : St} {H : Hp}
theorem lays_bend0 (c : BR b gs a σ H) (lg : gs.length ≤ 20) : Lays a (tLst (tCons (tC .non) (tCons (tC (.int 5)) (tCons (tTup tNil) (tCons tDNewK (tCons (tCB (rTupOf K) (tCons (tVar 3) tNil)) (tCons (tSl (rSlL K) (tVar 3) tNoPart (tPart (tUn (rU fun i => .int (-i)) (tC (.int 1))))) (tCons (tSl (rSlL K) (tVar 3) (tPart (tC (.int 1))) tNoPart) (tCons (tRevL K (tVar 3)) (tCons (tOp rCat (tVar 3) (tLst (tCons (tTup (tCons (tC (.str "set")) (tCons (tC (.int 0)) (tCons (tC (.int 0)) tNil)))) tNil))) (tCons (tOp rCat (tVar 3) (tLst (tCons (tC .non) tNil))) tNil))))))))))) 5 σ H (.list (bend0 gs)) := by
  unfold bend0
  exact (lays_lst (laysA_cons lays_non (laysA_cons (lays_int _) (laysA_cons (lays_tup laysA_nil (Nat.le_of_ble_eq_true rfl)) (laysA_cons lays_dct (laysA_cons (lays_tupOf (lays_var c.v (c.sv _ (by decide)))) (laysA_cons (lays_init (lays_var c.v (c.sv _ (by decide)))) (laysA_cons (lays_drop (k := 1) (lays_var c.v (c.sv _ (by decide))) (fun _ _ h => ⟨_, rfl, h⟩) (fun _ _ h => h)) (laysA_cons (lays_rev (lays_var c.v (c.sv _ (by decide)))) (laysA_cons (lays_cat (lays_var c.v (c.sv _ (by decide))) (lays_lst (laysA_cons (lays_tup (laysA_cons (lays_str _) (laysA_cons (lays_int _) (laysA_cons (lays_int _) laysA_nil))) (Nat.le_of_ble_eq_true rfl)) laysA_nil) (Nat.le_of_ble_eq_true rfl)) (by simp only [List.length_append, List.length_cons, List.length_nil, List.length_drop, List.length_take, List.length_dropLast, List.length_reverse, bend0, bend1, bend2, bend3, bend4, turn1, turn2]; omega)) (laysA_cons (lays_cat (lays_var c.v (c.sv _ (by decide))) (lays_lst (laysA_cons lays_non laysA_nil) (Nat.le_of_ble_eq_true rfl)) (by simp only [List.length_append, List.length_cons, List.length_nil, List.length_drop, List.length_take, List.length_dropLast, List.length_reverse, bend0, bend1, bend2, bend3, bend4, turn1, turn2]; omega)) laysA_nil)))))))))) (Nat.le_of_ble_eq_true rfl))
theorem lays_bend1 {fs : List PyData} (c : BR b gs a σ H) (lg : gs.length ≤ 20) (lf : fs.length ≤ 100) {vf : V} (ef : σ[4]? = some (some vf)) (sf : Sho 5 (msk a H) vf (.list fs)) : LaysN a (tOp rCat (tVar 4) (tLst (tCons (tOp rCat (tLst (tCons (tTup (tCons (tC (.str "copy")) (tCons (tC (.int 1)) (tCons (tC (.int 0)) tNil)))) tNil)) (tVar 3)) (tCons (tOp rCat (tVar 3) (tLst (tCons (tTup (tCons (tC (.str "copy")) (tCons (tC (.int 1)) (tCons (tC (.int 0)) tNil)))) tNil))) (tCons (tOp rCat (tVar 3) (tLst (tCons (tTup (tCons (tC (.str "print")) (tCons (tC (.int 0)) tNil))) tNil))) (tCons (tOp rCat (tLst (tCons (tTup (tCons (tC (.str "read")) (tCons (tC (.int 0)) tNil))) tNil)) (tVar 3)) tNil)))))) 4 σ H (fs ++ bend1 gs) := by
  unfold bend1
  exact (lays_catN (lays_var ef sf) (lays_lst (laysA_cons (lays_cat (lays_lst (laysA_cons (lays_tup (laysA_cons (lays_str _) (laysA_cons (lays_int _) (laysA_cons (lays_int _) laysA_nil))) (Nat.le_of_ble_eq_true rfl)) laysA_nil) (Nat.le_of_ble_eq_true rfl)) (lays_var c.v (c.sv _ (by decide))) (by simp only [List.length_append, List.length_cons, List.length_nil, List.length_drop, List.length_take, List.length_dropLast, List.length_reverse, bend0, bend1, bend2, bend3, bend4, turn1, turn2]; omega)) (laysA_cons (lays_cat (lays_var c.v (c.sv _ (by decide))) (lays_lst (laysA_cons (lays_tup (laysA_cons (lays_str _) (laysA_cons (lays_int _) (laysA_cons (lays_int _) laysA_nil))) (Nat.le_of_ble_eq_true rfl)) laysA_nil) (Nat.le_of_ble_eq_true rfl)) (by simp only [List.length_append, List.length_cons, List.length_nil, List.length_drop, List.length_take, List.length_dropLast, List.length_reverse, bend0, bend1, bend2, bend3, bend4, turn1, turn2]; omega)) (laysA_cons (lays_cat (lays_var c.v (c.sv _ (by decide))) (lays_lst (laysA_cons (lays_tup (laysA_cons (lays_str _) (laysA_cons (lays_int _) laysA_nil)) (Nat.le_of_ble_eq_true rfl)) laysA_nil) (Nat.le_of_ble_eq_true rfl)) (by simp only [List.length_append, List.length_cons, List.length_nil, List.length_drop, List.length_take, List.length_dropLast, List.length_reverse, bend0, bend1, bend2, bend3, bend4, turn1, turn2]; omega)) (laysA_cons (lays_cat (lays_lst (laysA_cons (lays_tup (laysA_cons (lays_str _) (laysA_cons (lays_int _) laysA_nil)) (Nat.le_of_ble_eq_true rfl)) laysA_nil) (Nat.le_of_ble_eq_true rfl)) (lays_var c.v (c.sv _ (by decide))) (by simp only [List.length_append, List.length_cons, List.length_nil, List.length_drop, List.length_take, List.length_dropLast, List.length_reverse, bend0, bend1, bend2, bend3, bend4, turn1, turn2]; omega)) laysA_nil)))) (Nat.le_of_ble_eq_true rfl)) (by simp only [List.length_append, List.length_cons, List.length_nil, List.length_drop, List.length_take, List.length_dropLast, List.length_reverse, bend0, bend1, bend2, bend3, bend4, turn1, turn2]; omega))
theorem lays_bend2 {fs : List PyData} (c : BR b gs a σ H) (lg : gs.length ≤ 20) (lf : fs.length ≤ 100) {vf : V} (ef : σ[4]? = some (some vf)) (sf : Sho 5 (msk a H) vf (.list fs)) : LaysN a (tOp rCat (tVar 4) (tLst (tCons (tOp rCat (tVar 3) (tLst (tCons (tTup (tCons (tC (.str "add")) (tCons (tC (.int 0)) (tCons (tC (.int 1)) tNil)))) tNil))) (tCons (tOp rCat (tVar 3) (tLst (tCons (tTup (tCons (tC (.str "set")) (tCons (tC (.int 1)) (tCons (tC (.int 1)) tNil)))) tNil))) (tCons (tOp rCat (tVar 3) (tLst (tCons (tTup (tCons (tC (.str "keep")) (tCons (tC (.int 0)) (tCons (tC (.int 0)) tNil)))) tNil))) (tCons (tOp rCat (tVar 3) (tLst (tCons (tTup (tCons (tC (.str "set")) (tCons (tC (.int 2)) (tCons (tC (.int 0)) tNil)))) tNil))) tNil)))))) 4 σ H (fs ++ bend2 gs) := by
  unfold bend2
  exact (lays_catN (lays_var ef sf) (lays_lst (laysA_cons (lays_cat (lays_var c.v (c.sv _ (by decide))) (lays_lst (laysA_cons (lays_tup (laysA_cons (lays_str _) (laysA_cons (lays_int _) (laysA_cons (lays_int _) laysA_nil))) (Nat.le_of_ble_eq_true rfl)) laysA_nil) (Nat.le_of_ble_eq_true rfl)) (by simp only [List.length_append, List.length_cons, List.length_nil, List.length_drop, List.length_take, List.length_dropLast, List.length_reverse, bend0, bend1, bend2, bend3, bend4, turn1, turn2]; omega)) (laysA_cons (lays_cat (lays_var c.v (c.sv _ (by decide))) (lays_lst (laysA_cons (lays_tup (laysA_cons (lays_str _) (laysA_cons (lays_int _) (laysA_cons (lays_int _) laysA_nil))) (Nat.le_of_ble_eq_true rfl)) laysA_nil) (Nat.le_of_ble_eq_true rfl)) (by simp only [List.length_append, List.length_cons, List.length_nil, List.length_drop, List.length_take, List.length_dropLast, List.length_reverse, bend0, bend1, bend2, bend3, bend4, turn1, turn2]; omega)) (laysA_cons (lays_cat (lays_var c.v (c.sv _ (by decide))) (lays_lst (laysA_cons (lays_tup (laysA_cons (lays_str _) (laysA_cons (lays_int _) (laysA_cons (lays_int _) laysA_nil))) (Nat.le_of_ble_eq_true rfl)) laysA_nil) (Nat.le_of_ble_eq_true rfl)) (by simp only [List.length_append, List.length_cons, List.length_nil, List.length_drop, List.length_take, List.length_dropLast, List.length_reverse, bend0, bend1, bend2, bend3, bend4, turn1, turn2]; omega)) (laysA_cons (lays_cat (lays_var c.v (c.sv _ (by decide))) (lays_lst (laysA_cons (lays_tup (laysA_cons (lays_str _) (laysA_cons (lays_int _) (laysA_cons (lays_int _) laysA_nil))) (Nat.le_of_ble_eq_true rfl)) laysA_nil) (Nat.le_of_ble_eq_true rfl)) (by simp only [List.length_append, List.length_cons, List.length_nil, List.length_drop, List.length_take, List.length_dropLast, List.length_reverse, bend0, bend1, bend2, bend3, bend4, turn1, turn2]; omega)) laysA_nil)))) (Nat.le_of_ble_eq_true rfl)) (by simp only [List.length_append, List.length_cons, List.length_nil, List.length_drop, List.length_take, List.length_dropLast, List.length_reverse, bend0, bend1, bend2, bend3, bend4, turn1, turn2]; omega))
theorem lays_bend3 {fs : List PyData} (c : BR b gs a σ H) (lg : gs.length ≤ 20) (lf : fs.length ≤ 100) {vf : V} (ef : σ[4]? = some (some vf)) (sf : Sho 5 (msk a H) vf (.list fs)) : LaysN a (tOp rCat (tVar 4) (tLst (tCons (tOp rCat (tVar 3) (tLst (tCons (tTup (tCons (tC (.str "fetch")) (tCons (tC (.int 0)) (tCons (tC (.int 0)) tNil)))) tNil))) (tCons (tOp rCat (tLst (tCons (tTup (tCons (tC (.str "go")) (tCons (tC (.int 1)) tNil))) tNil)) (tVar 3)) (tCons (tOp rCat (tVar 3) (tLst (tCons (tTup (tCons (tC (.str "end")) tNil)) tNil))) (tCons (tOp rCat (tVar 3) (tLst (tCons (tTup (tCons (tC (.str "store")) (tCons (tC (.int 0)) (tCons (tC (.int 0)) tNil)))) tNil))) tNil)))))) 4 σ H (fs ++ bend3 gs) := by
  unfold bend3
  exact (lays_catN (lays_var ef sf) (lays_lst (laysA_cons (lays_cat (lays_var c.v (c.sv _ (by decide))) (lays_lst (laysA_cons (lays_tup (laysA_cons (lays_str _) (laysA_cons (lays_int _) (laysA_cons (lays_int _) laysA_nil))) (Nat.le_of_ble_eq_true rfl)) laysA_nil) (Nat.le_of_ble_eq_true rfl)) (by simp only [List.length_append, List.length_cons, List.length_nil, List.length_drop, List.length_take, List.length_dropLast, List.length_reverse, bend0, bend1, bend2, bend3, bend4, turn1, turn2]; omega)) (laysA_cons (lays_cat (lays_lst (laysA_cons (lays_tup (laysA_cons (lays_str _) (laysA_cons (lays_int _) laysA_nil)) (Nat.le_of_ble_eq_true rfl)) laysA_nil) (Nat.le_of_ble_eq_true rfl)) (lays_var c.v (c.sv _ (by decide))) (by simp only [List.length_append, List.length_cons, List.length_nil, List.length_drop, List.length_take, List.length_dropLast, List.length_reverse, bend0, bend1, bend2, bend3, bend4, turn1, turn2]; omega)) (laysA_cons (lays_cat (lays_var c.v (c.sv _ (by decide))) (lays_lst (laysA_cons (lays_tup (laysA_cons (lays_str _) laysA_nil) (Nat.le_of_ble_eq_true rfl)) laysA_nil) (Nat.le_of_ble_eq_true rfl)) (by simp only [List.length_append, List.length_cons, List.length_nil, List.length_drop, List.length_take, List.length_dropLast, List.length_reverse, bend0, bend1, bend2, bend3, bend4, turn1, turn2]; omega)) (laysA_cons (lays_cat (lays_var c.v (c.sv _ (by decide))) (lays_lst (laysA_cons (lays_tup (laysA_cons (lays_str _) (laysA_cons (lays_int _) (laysA_cons (lays_int _) laysA_nil))) (Nat.le_of_ble_eq_true rfl)) laysA_nil) (Nat.le_of_ble_eq_true rfl)) (by simp only [List.length_append, List.length_cons, List.length_nil, List.length_drop, List.length_take, List.length_dropLast, List.length_reverse, bend0, bend1, bend2, bend3, bend4, turn1, turn2]; omega)) laysA_nil)))) (Nat.le_of_ble_eq_true rfl)) (by simp only [List.length_append, List.length_cons, List.length_nil, List.length_drop, List.length_take, List.length_dropLast, List.length_reverse, bend0, bend1, bend2, bend3, bend4, turn1, turn2]; omega))
theorem lays_bend4 {fs : List PyData} (c : BR b gs a σ H) (lg : gs.length ≤ 20) (lf : fs.length ≤ 100) {vf : V} (ef : σ[4]? = some (some vf)) (sf : Sho 5 (msk a H) vf (.list fs)) : LaysN a (tOp rCat (tVar 4) (tLst (tCons (tOp rCat (tLst (tCons (tTup (tCons (tC (.str "mark")) (tCons (tC (.str "m")) (tCons (tLst (tCons (tTup (tCons (tC (.str "s")) tNil)) tNil)) tNil)))) tNil)) (tVar 3)) (tCons (tOp rCat (tVar 3) (tLst (tCons (tTup (tCons (tC (.str "back")) tNil)) tNil))) (tCons (tOp rCat (tLst (tCons (tTup (tCons (tC (.str "pick")) (tCons (tLst (tCons (tC (.int 1)) (tCons (tC (.int 1)) tNil))) tNil))) tNil)) (tVar 3)) tNil))))) 4 σ H (fs ++ bend4 gs) := by
  unfold bend4
  exact (lays_catN (lays_var ef sf) (lays_lst (laysA_cons (lays_cat (lays_lst (laysA_cons (lays_tup (laysA_cons (lays_str _) (laysA_cons (lays_str _) (laysA_cons (lays_lst (laysA_cons (lays_tup (laysA_cons (lays_str _) laysA_nil) (Nat.le_of_ble_eq_true rfl)) laysA_nil) (Nat.le_of_ble_eq_true rfl)) laysA_nil))) (Nat.le_of_ble_eq_true rfl)) laysA_nil) (Nat.le_of_ble_eq_true rfl)) (lays_var c.v (c.sv _ (by decide))) (by simp only [List.length_append, List.length_cons, List.length_nil, List.length_drop, List.length_take, List.length_dropLast, List.length_reverse, bend0, bend1, bend2, bend3, bend4, turn1, turn2]; omega)) (laysA_cons (lays_cat (lays_var c.v (c.sv _ (by decide))) (lays_lst (laysA_cons (lays_tup (laysA_cons (lays_str _) laysA_nil) (Nat.le_of_ble_eq_true rfl)) laysA_nil) (Nat.le_of_ble_eq_true rfl)) (by simp only [List.length_append, List.length_cons, List.length_nil, List.length_drop, List.length_take, List.length_dropLast, List.length_reverse, bend0, bend1, bend2, bend3, bend4, turn1, turn2]; omega)) (laysA_cons (lays_cat (lays_lst (laysA_cons (lays_tup (laysA_cons (lays_str _) (laysA_cons (lays_lst (laysA_cons (lays_int _) (laysA_cons (lays_int _) laysA_nil)) (Nat.le_of_ble_eq_true rfl)) laysA_nil)) (Nat.le_of_ble_eq_true rfl)) laysA_nil) (Nat.le_of_ble_eq_true rfl)) (lays_var c.v (c.sv _ (by decide))) (by simp only [List.length_append, List.length_cons, List.length_nil, List.length_drop, List.length_take, List.length_dropLast, List.length_reverse, bend0, bend1, bend2, bend3, bend4, turn1, turn2]; omega)) laysA_nil))) (Nat.le_of_ble_eq_true rfl)) (by simp only [List.length_append, List.length_cons, List.length_nil, List.length_drop, List.length_take, List.length_dropLast, List.length_reverse, bend0, bend1, bend2, bend3, bend4, turn1, turn2]; omega))
theorem lays_turn1 {fs : List PyData} {i : TI} (c : BR b gs a σ H) (lg : gs.length ≤ 20) (eA : σ[6]? = some (some (.int (i.k : Int)))) {t : Addr} (eR : σ[7]? = some (some (.ref t))) (sr : ∀ n, 1 ≤ n → Sho n (msk a H) (.ref t) (rwD i.r)) (eN : σ[8]? = some (some (.int i.num))) (lf : fs.length ≤ 100) {vf : V} (ef : σ[4]? = some (some vf)) (sf : Sho 5 (msk a H) vf (.list fs)) : LaysN a (tOp rCat (tVar 4) (tLst (tCons (tOp rCat (tOp rCat (tSl (rSlL K) (tVar 3) tNoPart (tPart (tVar 6))) (tLst (tCons (tTup (tCons (tOp (rIxT K) (tVar 7) (tC (.int 0))) (tCons (tOp (rIxT K) (tVar 7) (tC (.int 1))) (tCons (tVar 8) tNil)))) tNil))) (tSl (rSlL K) (tVar 3) (tPart (tOp (rI0 fun i j => .int (i + j)) (tVar 6) (tC (.int 1)))) tNoPart)) (tCons (tOp rCat (tSl (rSlL K) (tVar 3) tNoPart (tPart (tVar 6))) (tSl (rSlL K) (tVar 3) (tPart (tOp (rI0 fun i j => .int (i + j)) (tVar 6) (tC (.int 1)))) tNoPart)) tNil)))) 4 σ H (fs ++ turn1 gs i) := by
  unfold turn1
  exact (lays_catN (lays_var ef sf) (lays_lst (laysA_cons (lays_cat (lays_cat (lays_take (k := i.k) (lays_var c.v (c.sv _ (by decide))) (fun _ _ h => ⟨_, eA, _, rfl, h⟩) (fun _ _ h => h)) (lays_lst (laysA_cons (lays_tup (laysA_cons (lays_row0 eR sr) (laysA_cons (lays_row1 eR sr) (laysA_cons (lays_var eN (Sho.int _)) laysA_nil))) (Nat.le_of_ble_eq_true rfl)) laysA_nil) (Nat.le_of_ble_eq_true rfl)) (by simp only [List.length_append, List.length_cons, List.length_nil, List.length_drop, List.length_take, List.length_dropLast, List.length_reverse, bend0, bend1, bend2, bend3, bend4, turn1, turn2]; omega)) (lays_drop (k := i.k + 1) (lays_var c.v (c.sv _ (by decide))) (fun _ _ h => ⟨_, eA, _, _, rfl, rfl, _, rfl, h⟩) (fun _ _ h => h)) (by simp only [List.length_append, List.length_cons, List.length_nil, List.length_drop, List.length_take, List.length_dropLast, List.length_reverse, bend0, bend1, bend2, bend3, bend4, turn1, turn2]; omega)) (laysA_cons (lays_cat (lays_take (k := i.k) (lays_var c.v (c.sv _ (by decide))) (fun _ _ h => ⟨_, eA, _, rfl, h⟩) (fun _ _ h => h)) (lays_drop (k := i.k + 1) (lays_var c.v (c.sv _ (by decide))) (fun _ _ h => ⟨_, eA, _, _, rfl, rfl, _, rfl, h⟩) (fun _ _ h => h)) (by simp only [List.length_append, List.length_cons, List.length_nil, List.length_drop, List.length_take, List.length_dropLast, List.length_reverse, bend0, bend1, bend2, bend3, bend4, turn1, turn2]; omega)) laysA_nil)) (Nat.le_of_ble_eq_true rfl)) (by simp only [List.length_append, List.length_cons, List.length_nil, List.length_drop, List.length_take, List.length_dropLast, List.length_reverse, bend0, bend1, bend2, bend3, bend4, turn1, turn2]; omega))
theorem lays_turn2 {fs : List PyData} {i : TI} (c : BR b gs a σ H) (lg : gs.length ≤ 20) (eA : σ[6]? = some (some (.int (i.k : Int)))) {t : Addr} (eR : σ[7]? = some (some (.ref t))) (sr : ∀ n, 1 ≤ n → Sho n (msk a H) (.ref t) (rwD i.r)) (eN : σ[8]? = some (some (.int i.num))) (lf : fs.length ≤ 100) {vf : V} (ef : σ[4]? = some (some vf)) (sf : Sho 5 (msk a H) vf (.list fs)) : LaysN a (tOp rCat (tVar 4) (tLst (tCons (tOp rCat (tOp rCat (tSl (rSlL K) (tVar 3) tNoPart (tPart (tVar 6))) (tLst (tCons (tTup (tCons (tC (.str "times")) (tCons (tOp (rIxT K) (tVar 7) (tC (.int 1))) (tCons (tVar 8) tNil)))) tNil))) (tSl (rSlL K) (tVar 3) (tPart (tVar 6)) tNoPart)) (tCons (tOp rCat (tOp rCat (tSl (rSlL K) (tVar 3) tNoPart (tPart (tVar 6))) (tLst (tCons (tCB (rLisOf K) (tCons (tVar 7) tNil)) tNil))) (tSl (rSlL K) (tVar 3) (tPart (tOp (rI0 fun i j => .int (i + j)) (tVar 6) (tC (.int 1)))) tNoPart)) tNil)))) 4 σ H (fs ++ turn2 gs i) := by
  unfold turn2
  exact (lays_catN (lays_var ef sf) (lays_lst (laysA_cons (lays_cat (lays_cat (lays_take (k := i.k) (lays_var c.v (c.sv _ (by decide))) (fun _ _ h => ⟨_, eA, _, rfl, h⟩) (fun _ _ h => h)) (lays_lst (laysA_cons (lays_tup (laysA_cons (lays_str _) (laysA_cons (lays_row1 eR sr) (laysA_cons (lays_var eN (Sho.int _)) laysA_nil))) (Nat.le_of_ble_eq_true rfl)) laysA_nil) (Nat.le_of_ble_eq_true rfl)) (by simp only [List.length_append, List.length_cons, List.length_nil, List.length_drop, List.length_take, List.length_dropLast, List.length_reverse, bend0, bend1, bend2, bend3, bend4, turn1, turn2]; omega)) (lays_drop (k := i.k) (lays_var c.v (c.sv _ (by decide))) (fun _ _ h => ⟨_, eA, _, rfl, h⟩) (fun _ _ h => h)) (by simp only [List.length_append, List.length_cons, List.length_nil, List.length_drop, List.length_take, List.length_dropLast, List.length_reverse, bend0, bend1, bend2, bend3, bend4, turn1, turn2]; omega)) (laysA_cons (lays_cat (lays_cat (lays_take (k := i.k) (lays_var c.v (c.sv _ (by decide))) (fun _ _ h => ⟨_, eA, _, rfl, h⟩) (fun _ _ h => h)) (lays_lst (laysA_cons (lays_listOf eR sr) laysA_nil) (Nat.le_of_ble_eq_true rfl)) (by simp only [List.length_append, List.length_cons, List.length_nil, List.length_drop, List.length_take, List.length_dropLast, List.length_reverse, bend0, bend1, bend2, bend3, bend4, turn1, turn2]; omega)) (lays_drop (k := i.k + 1) (lays_var c.v (c.sv _ (by decide))) (fun _ _ h => ⟨_, eA, _, _, rfl, rfl, _, rfl, h⟩) (fun _ _ h => h)) (by simp only [List.length_append, List.length_cons, List.length_nil, List.length_drop, List.length_take, List.length_dropLast, List.length_reverse, bend0, bend1, bend2, bend3, bend4, turn1, turn2]; omega)) laysA_nil)) (Nat.le_of_ble_eq_true rfl)) (by simp only [List.length_append, List.length_cons, List.length_nil, List.length_drop, List.length_take, List.length_dropLast, List.length_reverse, bend0, bend1, bend2, bend3, bend4, turn1, turn2]; omega))
theorem lays_turn3 {i : TI} (c : BR b gs a σ H) (lg : gs.length ≤ 20) (eA : σ[6]? = some (some (.int (i.k : Int)))) {t : Addr} (eR : σ[7]? = some (some (.ref t))) (sr : ∀ n, 1 ≤ n → Sho n (msk a H) (.ref t) (rwD i.r)) (eN : σ[8]? = some (some (.int i.num))) : Lays a (tOp rCat (tOp rCat (tSl (rSlL K) (tVar 3) tNoPart (tPart (tVar 6))) (tLst (tCons (tTup (tCons (tOp (rIxT K) (tVar 7) (tC (.int 0))) (tCons (tOp (rIxT K) (tVar 7) (tC (.int 1))) (tCons (tC (.bl true)) tNil)))) tNil))) (tSl (rSlL K) (tVar 3) (tPart (tOp (rI0 fun i j => .int (i + j)) (tVar 6) (tC (.int 1)))) tNoPart)) 4 σ H (turn3 gs i) := by
  unfold turn3
  exact (lays_cat (lays_cat (lays_take (k := i.k) (lays_var c.v (c.sv _ (by decide))) (fun _ _ h => ⟨_, eA, _, rfl, h⟩) (fun _ _ h => h)) (lays_lst (laysA_cons (lays_tup (laysA_cons (lays_row0 eR sr) (laysA_cons (lays_row1 eR sr) (laysA_cons (lays_bl _) laysA_nil))) (Nat.le_of_ble_eq_true rfl)) laysA_nil) (Nat.le_of_ble_eq_true rfl)) (by simp only [List.length_append, List.length_cons, List.length_nil, List.length_drop, List.length_take, List.length_dropLast, List.length_reverse, bend0, bend1, bend2, bend3, bend4, turn1, turn2]; omega)) (lays_drop (k := i.k + 1) (lays_var c.v (c.sv _ (by decide))) (fun _ _ h => ⟨_, eA, _, _, rfl, rfl, _, rfl, h⟩) (fun _ _ h => h)) (by simp only [List.length_append, List.length_cons, List.length_nil, List.length_drop, List.length_take, List.length_dropLast, List.length_reverse, bend0, bend1, bend2, bend3, bend4, turn1, turn2]; omega))
end
abbrev sBent : Stmt := topS 62
abbrev nBent : List Str := ["_law_purse_here", "_law_prime_here", "_law_cells", "_law_rows", "_law_found", "_law_turn", "_law_at", "_law_row", "_law_number"]
theorem scBent : FnScope nBent ["_law_purse_here", "_law_prime_here", "_law_cells", "_law_rows"] (defScope sBent) := ⟨rfl, rfl, rfl, by decide +kernel, rfl, by decide +kernel, by decide +kernel⟩
theorem pur_some {H : Hp} {a : Addr} {t : Nat} (h : Pur H a t) : ∃ o, H a = some o := by
  obtain ⟨_, _, _, _, e, _⟩ := h
  exact ⟨_, e⟩
theorem but_set {m a : Addr} {H H' : Hp} {o : HO} (x : But m H H') (n : a ≠ m) (h : H a = none) : But m H (upd H' a o) := fun b nb u e => by rw [upd_ne (ne_of_none e h)]; exact x b nb u e
theorem but_free {m b : Addr} {H H' : Hp} (x : But m H H') (n : b ≠ m) (h : H' b = none) : H b = none := by
  cases e : H b with
  | none => rfl
  | some o =>
    rw [x b n o e] at h
    cases h
theorem ne_msk {a b : Addr} {H : Hp} {o : HO} (h : msk a H b = some o) : b ≠ a := fun e => by
  rw [msk, if_pos e] at h
  cases h
theorem Sho.lift {H : Hp} {v : V} {d : PyData} {m : Nat} (h : Sho m H v d) : ∀ n, m ≤ n → Sho n H v d := by
  intro n l
  induction n with
  | zero =>
    obtain rfl : m = 0 := by omega
    exact h
  | succ n ih =>
    rcases Nat.lt_or_ge n m with q | q
    · obtain rfl : m = n + 1 := by omega
      exact h
    · exact Sho.succ (ih q)
/-- no list in it is long -/
def lenOk : Nat → PyData → Prop
  | n + 1, .list ds => ds.length ≤ 20 ∧ ∀ e ∈ ds, lenOk n e
  | n + 1, .tuple ds => ∀ e ∈ ds, lenOk n e
  | _, _ => True
theorem okN_len : ∀ (n : Nat) (d : PyData), okN n d = true → lenOk n d
  | 0, .none, _ => trivial
  | 0, .bool _, _ => trivial
  | 0, .int _, _ => trivial
  | 0, .str _, _ => trivial
  | 0, .list _, _ => trivial
  | 0, .tuple _, _ => trivial
  | 0, .dict _, _ => trivial
  | n + 1, .none, _ => trivial
  | n + 1, .bool _, _ => trivial
  | n + 1, .int _, _ => trivial
  | n + 1, .str _, _ => trivial
  | n + 1, .dict _, _ => trivial
  | n + 1, .list ds, h => by
    obtain ⟨a, b⟩ := Bool.and_eq_true_iff.mp (show (decide (ds.length ≤ 10) && ds.all (okN n)) = true from h)
    have := of_decide_eq_true a
    exact ⟨by omega, fun e m => okN_len n e (List.all_eq_true.mp b e m)⟩
  | n + 1, .tuple ds, h => by
    obtain ⟨a, b⟩ := Bool.and_eq_true_iff.mp (show (decide (ds.length ≤ 10) && ds.all (okN n)) = true from h)
    exact fun e m => okN_len n e (List.all_eq_true.mp b e m)
theorem pair_off {α : Type} {R S : V → α → Prop} : ∀ {xs : List V} {ds : List α}, Paired R xs ds → (∀ v d, d ∈ ds → R v d → S v d) → Paired S xs ds
  | _, _, .nil, _ => .nil
  | _, _, .cons r t, h => .cons (h _ _ List.mem_cons_self r) (pair_off t fun v d m => h v d (List.mem_cons_of_mem _ m))
/-- a long list is none of it -/
theorem Sho.off {x : Addr} {vs : List V} {H H' : Hp} (hx : H x = some (.lst vs)) (l : 20 < vs.length) (k : ∀ b o, b ≠ x → H b = some o → H' b = some o) : ∀ {n : Nat} {v : V} {d : PyData}, lenOk n d → Sho n H v d → Sho n H' v d
  | 0, _, _, _, h => h
  | n + 1, v, d, ok, h => by
    rcases h with h | ⟨b, xs, ds, rfl, rfl, hb, ps⟩ | ⟨b, xs, ds, rfl, rfl, hb, ps⟩ | ⟨b, rfl, rfl, hb⟩
    · exact .inl h
    · have ok : ds.length ≤ 20 ∧ ∀ e ∈ ds, lenOk n e := ok
      have nb : b ≠ x := fun e => by
        rw [e, hx] at hb
        cases hb
        rw [paired_len ps] at l
        omega
      exact .inr (.inl ⟨b, xs, ds, rfl, rfl, k _ _ nb hb, pair_off ps fun v e m z => Sho.off hx l k (ok.2 e m) z⟩)
    · have ok : ∀ e ∈ ds, lenOk n e := ok
      have nb : b ≠ x := fun e => by
        rw [e, hx] at hb
        cases hb
      exact .inr (.inr (.inl ⟨b, xs, ds, rfl, rfl, k _ _ nb hb, pair_off ps fun v e m z => Sho.off hx l k (ok e m) z⟩))
    · have nb : b ≠ x := fun e => by
        rw [e, hx] at hb
        cases hb
      exact .inr (.inr (.inr ⟨b, rfl, rfl, k _ _ nb hb⟩))
theorem ValOk.len {d : PyData} (h : ValOk d) : lenOk 4 d := by
  rcases h with ⟨ds, rfl | rfl, l, ok⟩ | rfl | rfl | rfl
  · exact ⟨l, fun e m => okN_len 3 e (rowOk_okN (ok e m))⟩
  · exact fun e m => okN_len 3 e (rowOk_okN (ok e m))
  · exact trivial
  · exact trivial
  · exact trivial
theorem val_list {ds : List PyData} (l : ds.length ≤ 20) (h : ∀ e ∈ ds, RowOk e) : ValOk (.list ds) := .inl ⟨ds, .inl rfl, l, h⟩
section
variable {gs : List PyData} (ok : ∀ e ∈ gs, RowOk e) (l : gs.length ≤ 13)
include ok l
theorem val_app {x : PyData} (h : RowOk x) : ValOk (.list (gs ++ [x])) := val_list (by rw [List.length_append]; show gs.length + 1 ≤ 20; omega) fun e m => by
  rcases List.mem_append.mp m with m | m
  · exact ok e m
  · rw [List.mem_singleton.mp m]
    exact h
theorem val_cons {x : PyData} (h : RowOk x) : ValOk (.list ([x] ++ gs)) := val_list (by rw [List.length_append]; show 1 + gs.length ≤ 20; omega) fun e m => by
  rcases List.mem_append.mp m with m | m
  · rw [List.mem_singleton.mp m]
    exact h
  · exact ok e m
theorem val_mid {x : PyData} {i j : Nat} (h : RowOk x) (ij : i ≤ j) : ValOk (.list (gs.take i ++ [x] ++ gs.drop j)) := val_list (by
    rw [List.length_append, List.length_append, List.length_take, List.length_drop]
    show min i gs.length + 1 + _ ≤ 20
    omega) fun e m => by
  rcases List.mem_append.mp m with m | m
  · rcases List.mem_append.mp m with m | m
    · exact ok e (List.mem_of_mem_take m)
    · rw [List.mem_singleton.mp m]
      exact h
  · exact ok e (List.mem_of_mem_drop m)
theorem bend_ok : ∀ x ∈ bend0 gs ++ bend1 gs ++ bend2 gs ++ bend3 gs ++ bend4 gs, ValOk x := by
  intro x m
  have w : ∀ {y : Str} {a b : PyData}, y ∈ wordsL → smallD a = true → smallD b = true → RowOk (.tuple [.str y, a, b]) := fun h1 h2 h3 => .row h1 h2 h3
  have o : ∀ {d : PyData}, d ∈ oddRows → RowOk d := fun h => .odd h
  simp only [bend0, bend1, bend2, bend3, bend4, List.append_assoc, List.mem_append, List.mem_cons, List.not_mem_nil, or_false] at m
  rcases m with (rfl | rfl | rfl | rfl | rfl | rfl | rfl | rfl | rfl | rfl) | (rfl | rfl | rfl | rfl) | (rfl | rfl | rfl | rfl) | (rfl | rfl | rfl | rfl) | (rfl | rfl | rfl)
  · exact .inr (.inl rfl)
  · exact .inr (.inr (.inl rfl))
  · exact .inl ⟨[], .inr rfl, Nat.zero_le _, fun e m => by cases m⟩
  · exact .inr (.inr (.inr rfl))
  · exact .inl ⟨gs, .inr rfl, by omega, ok⟩
  · exact val_list (by rw [List.length_dropLast]; omega) fun e m => ok e ((List.dropLast_sublist gs).subset m)
  · exact val_list (by rw [List.length_drop]; omega) fun e m => ok e (List.mem_of_mem_drop m)
  · exact val_list (by rw [List.length_reverse]; omega) fun e m => ok e (List.mem_reverse.mp m)
  · exact val_app ok l (w (by decide +kernel) rfl rfl)
  · exact val_app ok l .non
  · exact val_cons ok l (w (by decide +kernel) rfl rfl)
  · exact val_app ok l (w (by decide +kernel) rfl rfl)
  · exact val_app ok l (o (by unfold oddRows; simp))
  · exact val_cons ok l (o (by unfold oddRows; simp))
  · exact val_app ok l (w (by decide +kernel) rfl rfl)
  · exact val_app ok l (w (by decide +kernel) rfl rfl)
  · exact val_app ok l (o (by unfold oddRows; simp))
  · exact val_app ok l (w (by decide +kernel) rfl rfl)
  · exact val_app ok l (o (by unfold oddRows; simp))
  · exact val_cons ok l (o (by unfold oddRows; simp))
  · exact val_app ok l (o (by unfold oddRows; simp))
  · exact val_app ok l (o (by unfold oddRows; simp))
  · exact val_cons ok l (o (by unfold oddRows; simp))
  · exact val_app ok l (o (by unfold oddRows; simp))
  · exact val_cons ok l (o (by unfold oddRows; simp))
theorem turn_ok {i : TI} (h2 : i.r.h < 2) (n0 : 0 ≤ i.r.n) (n1 : i.r.n < 100000) (m0 : 0 ≤ i.num) (m1 : i.num < 100000) : ∀ x ∈ turn1 gs i ++ turn2 gs i ++ [turn3 gs i], ValOk x := by
  intro x m
  have wm : wordS i.r.w ∈ wordsL := by cases i.r.w <;> decide +kernel
  have sh : smallD (.int (i.r.h : Int)) = true := decide_eq_true (by omega)
  have sn : smallD (.int i.r.n) = true := decide_eq_true (by omega)
  have sm : smallD (.int i.num) = true := decide_eq_true (by omega)
  simp only [turn1, turn2, turn3, List.append_assoc, List.mem_append, List.mem_cons, List.not_mem_nil, or_false] at m
  rcases m with (rfl | rfl) | (rfl | rfl) | rfl
  · rw [← List.append_assoc]
    exact val_mid ok l (.row wm sh sm) (Nat.le_succ _)
  · exact val_list (by rw [List.length_append, List.length_take, List.length_drop]; omega) fun e m => by
      rcases List.mem_append.mp m with m | m
      · exact ok e (List.mem_of_mem_take m)
      · exact ok e (List.mem_of_mem_drop m)
  · rw [← List.append_assoc]
    exact val_mid ok l (.row (by decide +kernel) sh sm) (Nat.le_refl _)
  · rw [← List.append_assoc]
    exact val_mid ok l (.lst wm sh sn) (Nat.le_succ _)
  · rw [← List.append_assoc]
    exact val_mid ok l (.row wm sh rfl) (Nat.le_succ _)
end
def spBent : Sp := fun vs H Q _ => ∃ (a b : Addr) (p : Int) (cells n : Nat) (rs : List StA.R), vs = [.ref a, .int p, .int (cells : Int), .ref b] ∧ 2 ≤ p ∧ p ≤ 65537 ∧ cells ≤ 8 ∧ Pur H a n ∧ n ≤ 900000 ∧ (∀ r ∈ rs, StA.fits p cells r) ∧ 0 < rs.length ∧ rs.length ≤ 13 ∧ Sho 2 (msk a H) (.ref b) (.list (rs.map rwD)) ∧
  ∀ (H' : Hp) (d : Addr) (vs : List V) (ds : List PyData), But a H H' → Pur H' a (n + 8) → H d = none → H' d = some (.lst vs) → Paired (Sho 4 (msk a H')) vs ds → (∀ e ∈ ds, ValOk e) → ds.length ≤ 60 → Q (.ref d) H'
section
variable {P : Program} {w : World} {K : PySem.W.Frag} {mg : Str → Option Value} {base : Heap}
theorem ok_bent {f fD : Addr} {fd fdD : FuncData} (F : Fun K "_law_bent" "_law_bent" sBent f fd) (FD : Fun K "_law_draw" "_law_draw" sDraw fD fdD) (GD : FnOk P w K mg base CX0 2 fD fdD ["_law_purse_here", "_law_many"] spDraw) (gD : mg "_law_draw" = some (.ref fD)) (gU : mg "tuple" = none) (gLen : mg "len" = none) (gList : mg "list" = none) (gRange : mg "range" = none) :
    FnOk P w K mg base CX0 3 f fd ["_law_purse_here", "_law_prime_here", "_law_cells", "_law_rows"] spBent := by
  have bD : Binds K fdD ["_law_purse_here", "_law_many"] [] := FD.binds fun _ _ _ _ _ _ us hl => match us, hl with | [_, _], _ => rfl
  refine F.ok scBent (fun vs H Q E h => ?_) (fun cdv A outer s0 H vs Q E hr h => ?_)
  · obtain ⟨a, b, p, cells, n, rs, rfl, _⟩ := h
    rfl
  · obtain ⟨a, b, p, cells, n, rs, rfl, p2, p6, c8, hp, nn, fits, l0, l13, sr, want⟩ := h
    have lg : (rs.map rwD).length ≤ 20 := by
      rw [List.length_map]
      omega
    generalize egs : rs.map rwD = gs at lg sr
    refine ⟨_, (pss_cons (ps_set (i := 4) scBent.nd rfl (Or.inl rfl) (pe_datI (a := a) (C := fun (_ : Unit) => BR b gs a) (n := 5) (d := fun _ => .list (bend0 gs)) (pe_lst (pa_cons pe_non (pa_cons pe_int (pa_cons (pe_tup pa_nil) (pa_cons pe_dnewK (pa_cons (pe_callTy call_tuple_of (by rfl) gU boot_tuple (pa_cons (pv 3) pa_nil)) (pa_cons (pe_slice sl_list (pv 3) po_none (po_some (pe_un un_neg pe_int))) (pa_cons (pe_slice sl_list (pv 3) (po_some pe_int) po_none) (pa_cons (pe_revL (pv 3)) (pa_cons (pe_op op_cat (pv 3) (pe_lst (pa_cons (pe_tup (pa_cons pe_str (pa_cons pe_int (pa_cons pe_int pa_nil)))) pa_nil))) (pa_cons (pe_op op_cat (pv 3) (pe_lst (pa_cons pe_non pa_nil))) pa_nil))))))))))) (fun _ _ _ c => lays_bend0 c lg)))
      (pss_cons (ps_set (i := 4) scBent.nd rfl (Or.inl rfl) (pe_datNI (a := a) (C := BF b gs a) (n := 4) (ds := fun fs => fs ++ bend1 gs) (pe_op op_cat (pv 4) (pe_lst (pa_cons (pe_op op_cat (pe_lst (pa_cons (pe_tup (pa_cons pe_str (pa_cons pe_int (pa_cons pe_int pa_nil)))) pa_nil)) (pv 3)) (pa_cons (pe_op op_cat (pv 3) (pe_lst (pa_cons (pe_tup (pa_cons pe_str (pa_cons pe_int (pa_cons pe_int pa_nil)))) pa_nil))) (pa_cons (pe_op op_cat (pv 3) (pe_lst (pa_cons (pe_tup (pa_cons pe_str (pa_cons pe_int pa_nil))) pa_nil))) (pa_cons (pe_op op_cat (pe_lst (pa_cons (pe_tup (pa_cons pe_str (pa_cons pe_int pa_nil))) pa_nil)) (pv 3)) pa_nil)))))) (fun _ _ _ c => c.elim fun c h => h.elim fun vf h => lays_bend1 c lg h.1 h.2.1 h.2.2)))
      (pss_cons (ps_set (i := 4) scBent.nd rfl (Or.inl rfl) (pe_datNI (a := a) (C := BF b gs a) (n := 4) (ds := fun fs => fs ++ bend2 gs) (pe_op op_cat (pv 4) (pe_lst (pa_cons (pe_op op_cat (pv 3) (pe_lst (pa_cons (pe_tup (pa_cons pe_str (pa_cons pe_int (pa_cons pe_int pa_nil)))) pa_nil))) (pa_cons (pe_op op_cat (pv 3) (pe_lst (pa_cons (pe_tup (pa_cons pe_str (pa_cons pe_int (pa_cons pe_int pa_nil)))) pa_nil))) (pa_cons (pe_op op_cat (pv 3) (pe_lst (pa_cons (pe_tup (pa_cons pe_str (pa_cons pe_int (pa_cons pe_int pa_nil)))) pa_nil))) (pa_cons (pe_op op_cat (pv 3) (pe_lst (pa_cons (pe_tup (pa_cons pe_str (pa_cons pe_int (pa_cons pe_int pa_nil)))) pa_nil))) pa_nil)))))) (fun _ _ _ c => c.elim fun c h => h.elim fun vf h => lays_bend2 c lg h.1 h.2.1 h.2.2)))
      (pss_cons (ps_set (i := 4) scBent.nd rfl (Or.inl rfl) (pe_datNI (a := a) (C := BF b gs a) (n := 4) (ds := fun fs => fs ++ bend3 gs) (pe_op op_cat (pv 4) (pe_lst (pa_cons (pe_op op_cat (pv 3) (pe_lst (pa_cons (pe_tup (pa_cons pe_str (pa_cons pe_int (pa_cons pe_int pa_nil)))) pa_nil))) (pa_cons (pe_op op_cat (pe_lst (pa_cons (pe_tup (pa_cons pe_str (pa_cons pe_int pa_nil))) pa_nil)) (pv 3)) (pa_cons (pe_op op_cat (pv 3) (pe_lst (pa_cons (pe_tup (pa_cons pe_str pa_nil)) pa_nil))) (pa_cons (pe_op op_cat (pv 3) (pe_lst (pa_cons (pe_tup (pa_cons pe_str (pa_cons pe_int (pa_cons pe_int pa_nil)))) pa_nil))) pa_nil)))))) (fun _ _ _ c => c.elim fun c h => h.elim fun vf h => lays_bend3 c lg h.1 h.2.1 h.2.2)))
      (pss_cons (ps_set (i := 4) scBent.nd rfl (Or.inl rfl) (pe_datNI (a := a) (C := BF b gs a) (n := 4) (ds := fun fs => fs ++ bend4 gs) (pe_op op_cat (pv 4) (pe_lst (pa_cons (pe_op op_cat (pe_lst (pa_cons (pe_tup (pa_cons pe_str (pa_cons pe_str (pa_cons (pe_lst (pa_cons (pe_tup (pa_cons pe_str pa_nil)) pa_nil)) pa_nil)))) pa_nil)) (pv 3)) (pa_cons (pe_op op_cat (pv 3) (pe_lst (pa_cons (pe_tup (pa_cons pe_str pa_nil)) pa_nil))) (pa_cons (pe_op op_cat (pe_lst (pa_cons (pe_tup (pa_cons pe_str (pa_cons (pe_lst (pa_cons pe_int (pa_cons pe_int pa_nil))) pa_nil))) pa_nil)) (pv 3)) pa_nil))))) (fun _ _ _ c => c.elim fun c h => h.elim fun vf h => lays_bend4 c lg h.1 h.2.1 h.2.2)))
      (pss_cons (ps_for PassesOwn.never rfl (pi_range1 rfl gRange (pa_cons pe_int pa_nil)) (pg_name (i := 5) scBent.nd rfl (Or.inl rfl))
        (pss_cons (ps_set (i := 6) scBent.nd rfl (Or.inl rfl) (pe_call GD (hr.mono (by decide)) rfl gD FD.kp bD .nil pass0 (pa_cons (pv 0) (pa_cons (pe_callB (call_len_seq) (by rfl) gLen PySem.boot_len (pa_cons (pv 3) pa_nil)) pa_nil))))
          (pss_cons (ps_par (i := 7) (j := 8) (by rfl) scBent.nd rfl rfl (by decide) rfl rfl (pa_cons (pe_ix ix_list (pv 3) (pv 6) (fun _ _ => rfl)) (pa_cons (pe_call GD (hr.mono (by decide)) rfl gD FD.kp bD .nil pass0 (pa_cons (pv 0) (pa_cons (pv 1) pa_nil))) pa_nil)) (by rfl))
          (pss_cons (ps_set (i := 4) scBent.nd rfl (Or.inl rfl) (pe_datNI (a := a) (C := BT b gs a) (n := 4) (ds := fun i => i.fs ++ turn1 gs i) (pe_op op_cat (pv 4) (pe_lst (pa_cons (pe_op op_cat (pe_op op_cat (pe_slice sl_list (pv 3) po_none (po_some (pv 6))) (pe_lst (pa_cons (pe_tup (pa_cons (pe_ix ix_tup (pv 7) pe_int (fun _ _ => rfl)) (pa_cons (pe_ix ix_tup (pv 7) pe_int (fun _ _ => rfl)) (pa_cons (pv 8) pa_nil)))) pa_nil))) (pe_slice sl_list (pv 3) (po_some (pe_op op_add (pv 6) pe_int)) po_none)) (pa_cons (pe_op op_cat (pe_slice sl_list (pv 3) po_none (po_some (pv 6))) (pe_slice sl_list (pv 3) (po_some (pe_op op_add (pv 6) pe_int)) po_none)) pa_nil)))) (fun _ _ _ c => lays_turn1 c.c lg c.eA c.eR c.sr c.eN c.lf c.ef c.sf)))
          (pss_cons (ps_set (i := 4) scBent.nd rfl (Or.inl rfl) (pe_datNI (a := a) (C := BT b gs a) (n := 4) (ds := fun i => i.fs ++ turn2 gs i) (pe_op op_cat (pv 4) (pe_lst (pa_cons (pe_op op_cat (pe_op op_cat (pe_slice sl_list (pv 3) po_none (po_some (pv 6))) (pe_lst (pa_cons (pe_tup (pa_cons pe_str (pa_cons (pe_ix ix_tup (pv 7) pe_int (fun _ _ => rfl)) (pa_cons (pv 8) pa_nil)))) pa_nil))) (pe_slice sl_list (pv 3) (po_some (pv 6)) po_none)) (pa_cons (pe_op op_cat (pe_op op_cat (pe_slice sl_list (pv 3) po_none (po_some (pv 6))) (pe_lst (pa_cons (pe_callTy call_list_of (by rfl) gList boot_list2 (pa_cons (pv 7) pa_nil)) pa_nil))) (pe_slice sl_list (pv 3) (po_some (pe_op op_add (pv 6) pe_int)) po_none)) pa_nil)))) (fun _ _ _ c => lays_turn2 c.c lg c.eA c.eR c.sr c.eN c.lf c.ef c.sf)))
          (pss_one (ps_expr (pe_bm PySem.F.plainAttrs_list PySem.F.slot_list_append PySem.F.type_list_append mt_append (pv 4) (pa_cons (pe_datI (a := a) (C := BT b gs a) (n := 4) (d := fun i => turn3 gs i) (pe_op op_cat (pe_op op_cat (pe_slice sl_list (pv 3) po_none (po_some (pv 6))) (pe_lst (pa_cons (pe_tup (pa_cons (pe_ix ix_tup (pv 7) pe_int (fun _ _ => rfl)) (pa_cons (pe_ix ix_tup (pv 7) pe_int (fun _ _ => rfl)) (pa_cons pe_bl pa_nil)))) pa_nil))) (pe_slice sl_list (pv 3) (po_some (pe_op op_add (pv 6) pe_int)) po_none)) (fun _ _ _ c => lays_turn3 c.c lg c.eA c.eR c.sr c.eN)) pa_nil)))))))))
      (pss_one (ps_ret (pv 4))))))))), ?_⟩
    have okr : ∀ e ∈ gs, RowOk e := fun e m => by
      rw [← egs] at m
      obtain ⟨r, mr, rfl⟩ := List.mem_map.mp m
      obtain ⟨h2, n0, n1⟩ := fits r mr
      have n2 : r.n < 100000 := by
        cases ew : r.w <;> rw [ew] at n1 <;> have n1 := n1 <;> simp only at n1 <;> omega
      exact .row (by cases r.w <;> decide +kernel) (decide_eq_true (by omega)) (decide_eq_true (by omega))
    have l13g : gs.length ≤ 13 := by
      rw [← egs, List.length_map]
      exact l13
    have l0g : gs.length = rs.length := by rw [← egs, List.length_map]
    have sv : ∀ {H' : Hp}, Same (msk a H) (msk a H') → ∀ n, 2 ≤ n → Sho n (msk a H') (.ref b) (.list gs) := fun {H'} s n l => (sr.up s).lift n l
    have lys : ∀ {H1 : Hp} {p : Addr} {vs : List V} {fs : List PyData}, Same H H1 → H1 p = none → Paired (Sho 4 (msk a H1)) vs fs → Sho 5 (msk a (upd H1 p (.lst vs))) (.ref p) (.list fs) := fun {H1 p vs fs} s h ps => Sho.lst (msk_upd (some_up (pur_some hp) s) h) (sh_same ps (msk_same (same_new h)))
    have ho := pur_some hp
    refine ⟨(), ⟨rfl, sv same_rfl⟩, ho, fun v0 H1 s1 sh0 => ?_⟩
    refine ⟨bend0 gs, ⟨⟨rfl, sv (msk_same s1)⟩, v0, by show 10 ≤ 100; decide, rfl, sh0⟩, some_up ho s1, fun H2 p2' vs2 s2 h2 ps2 => ?_⟩
    have s2 := same_trans s1 s2
    have t2 := same_trans s2 (same_new (o := .lst vs2) h2)
    refine ⟨bend0 gs ++ bend1 gs, ⟨⟨rfl, sv (msk_same t2)⟩, _, by show 14 ≤ 100; decide, rfl, lys s2 h2 ps2⟩, some_up ho t2, fun H3 p3 vs3 s3 h3 ps3 => ?_⟩
    have s3 := same_trans t2 s3
    have t3 := same_trans s3 (same_new (o := .lst vs3) h3)
    refine ⟨bend0 gs ++ bend1 gs ++ bend2 gs, ⟨⟨rfl, sv (msk_same t3)⟩, _, by show 18 ≤ 100; decide, rfl, lys s3 h3 ps3⟩, some_up ho t3, fun H4 p4 vs4 s4 h4 ps4 => ?_⟩
    have s4 := same_trans t3 s4
    have t4 := same_trans s4 (same_new (o := .lst vs4) h4)
    refine ⟨bend0 gs ++ bend1 gs ++ bend2 gs ++ bend3 gs, ⟨⟨rfl, sv (msk_same t4)⟩, _, by show 22 ≤ 100; decide, rfl, lys s4 h4 ps4⟩, some_up ho t4, fun H5 p5 vs5 s5 h5 ps5 => ?_⟩
    have s5 := same_trans t4 s5
    have t5 := same_trans s5 (same_new (o := .lst vs5) h5)
    have ok5 := bend_ok okr l13g
    have l5 : (bend0 gs ++ bend1 gs ++ bend2 gs ++ bend3 gs ++ bend4 gs).length = 25 := rfl
    have ps5 : Paired (Sho 4 (msk a H5)) vs5 (bend0 gs ++ bend1 gs ++ bend2 gs ++ bend3 gs ++ bend4 gs) := ps5
    generalize bend0 gs ++ bend1 gs ++ bend2 gs ++ bend3 gs ++ bend4 gs = f5 at ps5 ok5 l5
    refine ⟨4, rfl, by decide, by decide, ?_⟩
    refine for_range (lo := 0) (n := 4) (fun k σ H' => But a H H' ∧ Pur H' a (n + 2 * k) ∧ ∃ (d : Addr) (vs : List V) (fs : List PyData) (u5 u6 u7 u8 : Option V), σ = [some (.ref a), some (.int p), some (.int (cells : Int)), some (.ref b), some (.ref d), u5, u6, u7, u8] ∧ H d = none ∧ H' d = some (.lst vs) ∧ Paired (Sho 4 (msk a H')) vs fs ∧ (∀ e ∈ fs, ValOk e) ∧ fs.length = 25 + 5 * k) ⟨but_same t5, (hp.same t5).mono (by omega), p5, vs5, f5, _, _, _, _, rfl, s5.free h5, upd_same, sh_same ps5 (msk_same (same_new h5)), ok5, l5⟩ ?_ ?_
    · rintro k σ H6 hk ⟨b6, hp6, d, vs, fs, u5, u6, u7, u8, rfl, nd, hd, ps, okf, lf⟩
      have svb := sv (msk_but b6)
      obtain ⟨m0, b0, xs, e0, eb, hb, pgs⟩ := (svb 2 (Nat.le_refl _)).ofList
      cases e0
      cases eb
      have hbH := msk_le _ _ hb
      have lxs := paired_len pgs
      refine ⟨_, rfl, _, rfl, b, _, rfl, .inl (SqL.of hbH), a, _, n + 2 * k, rfl, by omega, by omega, hp6, by omega, fun H7 i i0 i1 b7 hp7 => ?_⟩
      obtain ⟨j, rfl⟩ : ∃ j : Nat, i = (j : Int) := ⟨i.toNat, by omega⟩
      have jl : j < rs.length := by omega
      obtain ⟨x, hx⟩ : ∃ x, xs[j]? = some x := ⟨xs[j]'(by omega), List.getElem?_eq_getElem _⟩
      obtain ⟨dx, hdx, sx⟩ := paired_at pgs hx
      obtain ⟨r, hr0, rfl⟩ : ∃ r, rs[j]? = some r ∧ dx = rwD r := by
        rw [← egs, List.getElem?_map] at hdx
        obtain ⟨r, h1, h2⟩ := Option.map_eq_some_iff.mp hdx
        exact ⟨r, h1, h2.symm⟩
      obtain ⟨f2, f0, f1⟩ := fits r (List.mem_of_getElem? hr0)
      have fn : r.n < 100000 := by
        cases ew : r.w <;> rw [ew] at f1 <;> have f1 := f1 <;> simp only at f1 <;> omega
      obtain ⟨t, rfl⟩ : ∃ t, x = .ref t := by
        obtain ⟨_, t, _, _, e, _⟩ := sx.ofTuple
        exact ⟨t, e⟩
      have hb7 : H7 b = some (.lst xs) := b7 b (ne_msk hb) _ hbH
      refine ⟨_, rfl, _, rfl, b, xs, (j : Int), .ref t, rfl, rfl, SqL.of hb7, atI_nat hx, ?_⟩
      refine ⟨_, rfl, _, rfl, a, p, n + 2 * k + 1, rfl, by omega, by omega, hp7, by omega, fun H8 num n0 n1 b8 hp8 => tn ⟨_, _, rfl, ?_⟩⟩
      have b68 : But a H6 H8 := b7.trans b8
      have bH8 : But a H H8 := b6.trans b68
      have m8 := msk_but b68
      have sx8 := sx.up m8
      have srt : ∀ {H' : Hp}, Same (msk a H8) (msk a H') → ∀ n, 1 ≤ n → Sho n (msk a H') (.ref t) (rwD r) := fun {H'} s n l => (sx8.up s).lift n l
      have nda : d ≠ a := (hp.ne nd).symm
      have hd8 : H8 d = some (.lst vs) := b68 d nda _ hd
      have sf8 : Sho 5 (msk a H8) (.ref d) (.list fs) := Sho.lst ((msk_ne nda).trans hd8) (sh_same ps m8)
      have ho8 := pur_some hp8
      have svH8 : ∀ {H' : Hp}, Same (msk a H8) (msk a H') → ∀ n, 2 ≤ n → Sho n (msk a H') (.ref b) (.list gs) := fun {H'} s n l => sv (same_trans (msk_but bH8) s) n l
      refine ⟨⟨j, r, num, fs, t⟩, ⟨⟨rfl, svH8 same_rfl⟩, rfl, rfl, srt same_rfl, rfl, by show fs.length ≤ 100; omega, _, rfl, sf8⟩, ho8, fun H9 p9 vs9 s9 h9 ps9 => ?_⟩
      have t9 := same_trans s9 (same_new (o := .lst vs9) h9)
      have sf9 : Sho 5 (msk a (upd H9 p9 (.lst vs9))) (.ref p9) (.list (fs ++ turn1 gs ⟨j, r, num, fs, t⟩)) := Sho.lst (msk_upd (some_up ho8 s9) h9) (sh_same ps9 (msk_same (same_new h9)))
      refine ⟨⟨j, r, num, fs ++ turn1 gs ⟨j, r, num, fs, t⟩, t⟩, ⟨⟨rfl, svH8 (msk_same t9)⟩, rfl, rfl, srt (msk_same t9), rfl, by show (fs ++ turn1 gs ⟨j, r, num, fs, t⟩).length ≤ 100; rw [List.length_append]; show fs.length + 2 ≤ 100; omega, _, rfl, sf9⟩, some_up ho8 t9, fun H10 p10 vs10 s10 h10 ps10 => ?_⟩
      have s10 := same_trans t9 s10
      have t10 := same_trans s10 (same_new (o := .lst vs10) h10)
      have sf10 : Sho 5 (msk a (upd H10 p10 (.lst vs10))) (.ref p10) (.list (fs ++ turn1 gs ⟨j, r, num, fs, t⟩ ++ turn2 gs ⟨j, r, num, fs, t⟩)) := Sho.lst (msk_upd (some_up ho8 s10) h10) (sh_same ps10 (msk_same (same_new h10)))
      have l10 : (fs ++ turn1 gs ⟨j, r, num, fs, t⟩ ++ turn2 gs ⟨j, r, num, fs, t⟩).length = fs.length + 4 := by rw [List.length_append, List.length_append]; rfl
      have lv10 : vs10.length = fs.length + 4 := (paired_len ps10).trans l10
      refine ⟨_, rfl, .inl ⟨rfl, _, SqL.of upd_same⟩, ⟨j, r, num, fs ++ turn1 gs ⟨j, r, num, fs, t⟩ ++ turn2 gs ⟨j, r, num, fs, t⟩, t⟩, ⟨⟨rfl, svH8 (msk_same t10)⟩, rfl, rfl, srt (msk_same t10), rfl, by show (fs ++ turn1 gs ⟨j, r, num, fs, t⟩ ++ turn2 gs ⟨j, r, num, fs, t⟩).length ≤ 100; rw [l10]; omega, _, rfl, sf10⟩, some_up ho8 t10, fun v H11 s11 sh11 => ?_⟩
      have hd11 := s11 _ _ (upd_same (H := H10) (a := p10) (o := HO.lst vs10))
      have t11 := same_trans t10 s11
      refine ⟨p10, _, _, rfl, rfl, hd11, by rw [lv10, sizeLine_eq]; omega, ?_⟩
      have okt := turn_ok (gs := gs) okr l13g (i := ⟨j, r, num, fs, t⟩) f2 f0 fn n0 (by show num < 100000; omega)
      have np10 : H8 p10 = none := s10.free h10
      have np : H p10 = none := by
        cases e : H p10 with
        | none => rfl
        | some o =>
          have nq : p10 ≠ a := fun q => by
            obtain ⟨o8, e8⟩ := ho8
            rw [q, e8] at np10
            cases np10
          have z := bH8 p10 nq _ e
          rw [np10] at z
          cases z
      have nqa : p10 ≠ a := fun q => by
        obtain ⟨o8, e8⟩ := ho8
        rw [q, e8] at np10
        cases np10
      have bH11 : But a H H11 := bH8.trans (but_same t11)
      have upk : ∀ {c : Addr} {o : HO} {u : HO}, c ≠ p10 → msk a H11 c = some o → msk a (upd H11 p10 u) c = some o := fun {c o u} n e => by
        have nc := ne_msk e
        rw [msk_ne nc] at e ⊢
        rw [upd_ne n]
        exact e
      refine ⟨but_set bH11 nqa np, ?_, p10, vs10 ++ [v], fs ++ turn1 gs ⟨j, r, num, fs, t⟩ ++ turn2 gs ⟨j, r, num, fs, t⟩ ++ [turn3 gs ⟨j, r, num, fs, t⟩], _, _, _, _, rfl, np, upd_same, ?_, fun e me => ?_, ?_⟩
      · obtain ⟨z1, z2, z3, z4, e, z5, z6⟩ := (hp8.same t11).mono (m := n + 2 * (k + 1)) (by omega)
        exact ⟨z1, z2, z3, z4, (upd_ne (Ne.symm nqa)).trans e, z5, z6⟩
      · refine paired_app ?_ (.cons ?_ .nil)
        · refine L2.Paired.mapP ps10 fun _ _ z => z.mono fun c o e => ?_
          have nc : c ≠ p10 := fun q => by
            rw [q, msk_ne nqa, h10] at e
            cases e
          exact upk nc (msk_same (same_trans (same_new (o := .lst vs10) h10) s11) _ _ e)
        · exact Sho.off (x := p10) ((msk_ne nqa).trans hd11) (by rw [lv10]; omega) (fun c o n e => upk n e) (okt _ (List.mem_append_right _ (List.mem_singleton.mpr rfl))).len sh11
      · rcases List.mem_append.mp me with me | me
        · rcases List.mem_append.mp me with me | me
          · rcases List.mem_append.mp me with me | me
            · exact okf e me
            · exact okt e (List.mem_append_left _ (List.mem_append_left _ me))
          · exact okt e (List.mem_append_left _ (List.mem_append_right _ me))
        · exact okt e (List.mem_append_right _ me)
      · rw [List.length_append, l10, lf]
        show 25 + 5 * k + 4 + 1 = _
        omega
    · rintro σ H6 ⟨b6, hp6, d, vs, fs, u5, u6, u7, u8, rfl, nd, hd, ps, okf, lf⟩
      exact ⟨_, rfl, want H6 d vs fs b6 hp6 nd hd ps okf (by omega)⟩

end
end Vb
end L2

set_option Elab.async false
set_option linter.all false
set_option maxRecDepth 100000
set_option maxHeartbeats 8000000
/-! Vb, k30: what is drawn. -/
namespace L2
namespace Vb
open PySem PySem.Spec PyProof.Rows
def spPrL : Sp := fun vs H Q _ => ∃ (a : Addr) (n : Nat), vs = [.ref a] ∧ Pur H a n ∧ n ≤ 900000 ∧ ∀ (H' : Hp) (p : Int), p ∈ goods → But a H H' → Pur H' a (n + 1) → Q (.int p) H'
def spShuf : Sp := fun vs H Q _ => ∃ (a l : Addr) (n : Nat) (xs : List Str), vs = [.ref a, .ref l] ∧ Pur H a n ∧ n ≤ 900000 ∧ H l = some (.lst (xs.map V.str)) ∧ l ≠ a ∧ xs.length ≤ 100 ∧
  ∀ (H' : Hp) (d : Addr) (ys : List Str), But a H H' → Pur H' a (n + xs.length) → H d = none → ys.Perm xs → H' d = some (.lst (ys.map V.str)) → Q (.ref d) H'
def spDrn : Sp := fun vs H Q _ => ∃ (a : Addr) (p : Int) (cells n : Nat), vs = [.ref a, .int p, .int (cells : Int)] ∧ 2 ≤ p ∧ p ≤ 65537 ∧ cells ≤ 8 ∧ Pur H a n ∧ n ≤ 900000 ∧
  ∀ (H' : Hp) (d : Addr) (ts : List Addr) (rs : List StA.R), But a H H' → Pur H' a (n + 20) → H d = none → H' d = some (.lst (ts.map V.ref)) → RowsT H' p cells ts rs → rs.length ≤ 5 → Q (.ref d) H'
theorem pur_upd {a d : Addr} {n : Nat} {H : Hp} {o : HO} (h : Pur H a n) (ne : d ≠ a) : Pur (upd H d o) a n := by
  obtain ⟨z1, z2, z3, z4, e, z5, z6⟩ := h
  exact ⟨z1, z2, z3, z4, (upd_ne (Ne.symm ne)).trans e, z5, z6⟩
theorem rows_but {p : Int} {cells n : Nat} {a : Addr} {H H' : Hp} {ts : List Addr} {rs : List StA.R} (h : RowsT H p cells ts rs) (hp : Pur H a n) (b : But a H H') : RowsT H' p cells ts rs := rows_put h fun t xs e => b t (fun q => by
  obtain ⟨_, _, _, _, z, _⟩ := hp
  have z : H a = some (.lst _) := z
  rw [q, z] at e
  cases e) _ e
def fiveV (c : Bool) : List V := [V.str "set", V.str "copy", V.str "times", V.str "more", V.str "add"] ++ (List.replicate (if c = true then (1 : Int) else 0).toNat (List.replicate (3 : Int).toNat [V.str "take"]).flatten).flatten
theorem five_mem : ∀ c : Bool, (fiveV c).all (fun x => inV x [V.str "set", V.str "copy", V.str "times", V.str "more", V.str "add"] || (c && inV x [V.str "take"])) = true ∧ 0 < (fiveV c).length ∧ (fiveV c).length ≤ 8 := by decide +kernel
theorem five_word {c : Bool} {x : V} (h : x ∈ fiveV c) : ∃ w : StA.W6, x = .str (wordS w) ∧ (w = .take → c = true) := by
  cases c with
  | true =>
    have h : x ∈ [V.str "set", V.str "copy", V.str "times", V.str "more", V.str "add", V.str "take", V.str "take", V.str "take"] := h
    simp only [List.mem_cons, List.not_mem_nil, or_false] at h
    rcases h with rfl | rfl | rfl | rfl | rfl | rfl | rfl | rfl
    · exact ⟨.set, rfl, fun _ => rfl⟩
    · exact ⟨.copy, rfl, fun _ => rfl⟩
    · exact ⟨.times, rfl, fun _ => rfl⟩
    · exact ⟨.more, rfl, fun _ => rfl⟩
    · exact ⟨.add, rfl, fun _ => rfl⟩
    · exact ⟨.take, rfl, fun _ => rfl⟩
    · exact ⟨.take, rfl, fun _ => rfl⟩
    · exact ⟨.take, rfl, fun _ => rfl⟩
  | false =>
    have h : x ∈ [V.str "set", V.str "copy", V.str "times", V.str "more", V.str "add"] := h
    simp only [List.mem_cons, List.not_mem_nil, or_false] at h
    rcases h with rfl | rfl | rfl | rfl | rfl
    · exact ⟨.set, rfl, fun e => by cases e⟩
    · exact ⟨.copy, rfl, fun e => by cases e⟩
    · exact ⟨.times, rfl, fun e => by cases e⟩
    · exact ⟨.more, rfl, fun e => by cases e⟩
    · exact ⟨.add, rfl, fun e => by cases e⟩
abbrev sPrL : Stmt := topS 57
abbrev nPrL : List Str := ["_law_purse_here"]
theorem scPrL : FnScope nPrL ["_law_purse_here"] (defScope sPrL) := ⟨rfl, rfl, rfl, by decide +kernel, rfl, by decide +kernel, by decide +kernel⟩
-- cells set()
abbrev sShuf : Stmt := topS 56
abbrev nShuf : List Str := ["_law_purse_here", "_law_some", "_law_found", "_law_item"]
theorem scShuf : FnScope nShuf ["_law_purse_here", "_law_some"] (defScope sShuf) := ⟨rfl, rfl, rfl, by decide +kernel, rfl, by decide +kernel, by decide +kernel⟩
-- cells set()
abbrev sDrn : Stmt := topS 63
abbrev nDrn : List Str := ["_law_purse_here", "_law_prime_here", "_law_cells", "_law_found", "_law_turn", "_law_word", "_law_bound"]
theorem scDrn : FnScope nDrn ["_law_purse_here", "_law_prime_here", "_law_cells"] (defScope sDrn) := ⟨rfl, rfl, rfl, by decide +kernel, rfl, by decide +kernel, by decide +kernel⟩
-- cells set()
section
variable {P : Program} {w : World} {K : PySem.W.Frag} {mg : Str → Option Value} {base : Heap}
theorem ok_prL {f fLone_of : Addr} {fd fdLone_of : FuncData} (F : Fun K "_law_prime" "_law_prime" sPrL f fd)
    (FLone_of : Fun K "_law_one_of" "_law_one_of" sOneOf fLone_of fdLone_of) (GLone_of : FnOk P w K mg base CX0 3 fLone_of fdLone_of ["_law_purse_here", "_law_some"] spOneOf) (gLone_of : mg "_law_one_of" = some (.ref fLone_of)) :
    FnOk P w K mg base CX0 4 f fd ["_law_purse_here"] spPrL := by
  have bLone_of : Binds K fdLone_of ["_law_purse_here", "_law_some"] [] := FLone_of.binds fun _ _ _ _ _ _ us hl => match us, hl with | [_, _], _ => rfl
  refine F.ok scPrL (fun vs H Q E h => ?_) (fun cdv A outer s0 H vs Q E hr h => ?_)
  · obtain ⟨a, n, rfl, _⟩ := h
    rfl
  · obtain ⟨a, n, rfl, hp, nn, want⟩ := h
    refine ⟨_, (pss_one (ps_ret (pe_call GLone_of (hr.mono (by decide)) rfl gLone_of FLone_of.kp bLone_of .nil pass0 (pa_cons (pv 0) (pa_cons (pe_lst (pa_cons pe_int (pa_cons pe_int (pa_cons pe_int (pa_cons pe_int (pa_cons pe_int (pa_cons pe_int (pa_cons pe_int pa_nil)))))))) pa_nil))))), ?_⟩
    refine ⟨_, rfl, by show 7 ≤ sizeLine; decide, fun l hl => ?_⟩
    have s1 := same_new (o := .lst [V.int 2, V.int 3, V.int 5, V.int 5, V.int 7, V.int 101, V.int 65537]) hl
    refine ⟨a, l, _, n, rfl, hp.same s1, by omega, upd_same, (hp.ne hl).symm, by show 0 < 7; decide, by show 7 < 100000; decide, fun j x H' hx bt hp' => ?_⟩
    have mx : x ∈ [V.int 2, V.int 3, V.int 5, V.int 5, V.int 7, V.int 101, V.int 65537] := List.mem_of_getElem? hx
    have fin : ∀ q : Int, q ∈ goods → Q (.int q) H' := fun q mq => want H' q mq ((but_same s1).trans bt) hp'
    simp only [List.mem_cons, List.not_mem_nil, or_false] at mx
    rcases mx with rfl | rfl | rfl | rfl | rfl | rfl | rfl <;> exact fin _ (by decide)
theorem ok_shuf {f fLdraw : Addr} {fd fdLdraw : FuncData} (F : Fun K "_law_shuffled" "_law_shuffled" sShuf f fd)
    (FLdraw : Fun K "_law_draw" "_law_draw" sDraw fLdraw fdLdraw) (GLdraw : FnOk P w K mg base CX0 2 fLdraw fdLdraw ["_law_purse_here", "_law_many"] spDraw) (gLdraw : mg "_law_draw" = some (.ref fLdraw)) (gLen : mg "len" = none) :
    FnOk P w K mg base CX0 3 f fd ["_law_purse_here", "_law_some"] spShuf := by
  have bLdraw : Binds K fdLdraw ["_law_purse_here", "_law_many"] [] := FLdraw.binds fun _ _ _ _ _ _ us hl => match us, hl with | [_, _], _ => rfl
  refine F.ok scShuf (fun vs H Q E h => ?_) (fun cdv A outer s0 H vs Q E hr h => ?_)
  · obtain ⟨a, l, n, xs, rfl, _⟩ := h
    rfl
  · obtain ⟨a, l, n, xs, rfl, hp, nn, hl, nla, lx, want⟩ := h
    refine ⟨_, (pss_cons (ps_set (i := 2) scShuf.nd rfl (Or.inl rfl) (pe_lst pa_nil))
      (pss_cons (ps_for PassesOwn.never rfl (pi_list (pv 1)) (pg_name (i := 3) scShuf.nd rfl (Or.inl rfl))
        (pss_one (ps_expr (pe_bm PySem.F.plainAttrs_list PySem.F.slot_list_insert PySem.F.type_list_insert mt_insert (pv 2) (pa_cons (pe_call GLdraw (hr.mono (by decide)) rfl gLdraw FLdraw.kp bLdraw .nil pass0 (pa_cons (pv 0) (pa_cons (pe_op op_add (pe_callB (call_len_seq) (by rfl) gLen PySem.boot_len (pa_cons (pv 2) pa_nil)) pe_int) pa_nil))) (pa_cons (pv 3) pa_nil))))))
      (pss_one (ps_ret (pv 2))))), ?_⟩
    refine ⟨by show 0 ≤ sizeLine; decide, fun d hd => ?_⟩
    have s1 := same_new (o := .lst []) hd
    have nda : d ≠ a := (hp.ne hd).symm
    refine ⟨_, rfl, l, rfl, ⟨_, SqL.of (s1 _ _ hl)⟩, ?_⟩
    refine for_list (xs := xs.map V.str) (fun k σ H' => But a H H' ∧ Pur H' a (n + k) ∧ (∃ u : Option V, σ = [some (.ref a), some (.ref l), some (.ref d), u]) ∧ ∃ ys : List Str, H' d = some (.lst (ys.map V.str)) ∧ ys.Perm (xs.take k)) ⟨but_same s1, hp.same s1, ⟨_, rfl⟩, [], upd_same, .nil⟩ (fun k σ H' _ z => SqL.of (z.1 l nla _ hl)) ?_ ?_
    · rintro k x σ H1 hx ⟨b1, hp1, ⟨u, rfl⟩, ys, hd1, pm⟩
      rw [List.getElem?_map] at hx
      obtain ⟨y, hy, rfl⟩ := Option.map_eq_some_iff.mp hx
      have lk := (List.getElem?_eq_some_iff.mp hy).1
      have ly := pm.length_eq
      rw [List.length_take] at ly
      refine ⟨_, rfl, .inl ⟨rfl, _, SqL.of hd1⟩, ?_⟩
      refine ⟨_, rfl, _, rfl, d, _, rfl, .inl (SqL.of hd1), _, _, rfl, rfl, a, _, n + k, rfl, by rw [List.length_map]; omega, by rw [List.length_map]; omega, hp1, by omega, fun H2 i i0 i1 b2 hp2 => ?_⟩
      have hd2 : H2 d = some (.lst (ys.map V.str)) := b2 d nda _ hd1
      refine ⟨_, rfl, d, _, i, _, rfl, rfl, hd2, by rw [List.length_map, sizeLine_eq]; omega, i0, by rw [List.length_map] at i1; omega, ?_⟩
      refine ⟨but_set (b1.trans b2) nda hd, pur_upd hp2 nda, ⟨_, rfl⟩, ys.take i.toNat ++ [y] ++ ys.drop i.toNat, ?_, ?_⟩
      · rw [upd_same, List.map_append, List.map_append, List.map_take, List.map_drop]
        rfl
      · rw [List.take_add_one, hy]
        have p1 : (ys.take i.toNat ++ [y] ++ ys.drop i.toNat).Perm (ys ++ [y]) := by
          have e : ys ++ [y] = (ys.take i.toNat ++ ys.drop i.toNat) ++ [y] := by rw [List.take_append_drop]
          rw [e, List.append_assoc, List.append_assoc]
          exact List.Perm.append_left _ List.perm_append_comm
        exact p1.trans (List.Perm.append_right _ pm)
    · rintro σ H1 ⟨b1, hp1, ⟨u, rfl⟩, ys, hd1, pm⟩
      rw [List.length_map] at hp1 pm
      rw [List.take_length] at pm
      exact ⟨_, rfl, want H1 d ys b1 hp1 hd pm hd1⟩
theorem ok_drn {f fLdraw fLone_of : Addr} {fd fdLdraw fdLone_of : FuncData} (F : Fun K "_law_drawn_rows" "_law_drawn_rows" sDrn f fd)
    (FLdraw : Fun K "_law_draw" "_law_draw" sDraw fLdraw fdLdraw) (GLdraw : FnOk P w K mg base CX0 2 fLdraw fdLdraw ["_law_purse_here", "_law_many"] spDraw) (gLdraw : mg "_law_draw" = some (.ref fLdraw))
    (FLone_of : Fun K "_law_one_of" "_law_one_of" sOneOf fLone_of fdLone_of) (GLone_of : FnOk P w K mg base CX0 3 fLone_of fdLone_of ["_law_purse_here", "_law_some"] spOneOf) (gLone_of : mg "_law_one_of" = some (.ref fLone_of)) (gInt : mg "int" = none) (gRange : mg "range" = none) :
    FnOk P w K mg base CX0 4 f fd ["_law_purse_here", "_law_prime_here", "_law_cells"] spDrn := by
  have bLdraw : Binds K fdLdraw ["_law_purse_here", "_law_many"] [] := FLdraw.binds fun _ _ _ _ _ _ us hl => match us, hl with | [_, _], _ => rfl
  have bLone_of : Binds K fdLone_of ["_law_purse_here", "_law_some"] [] := FLone_of.binds fun _ _ _ _ _ _ us hl => match us, hl with | [_, _], _ => rfl
  refine F.ok scDrn (fun vs H Q E h => ?_) (fun cdv A outer s0 H vs Q E hr h => ?_)
  · obtain ⟨a, p, cells, n, rfl, _⟩ := h
    rfl
  · obtain ⟨a, p, cells, n, rfl, p2, p6, c8, hp, nn, want⟩ := h
    refine ⟨_, (pss_cons (ps_set (i := 3) scDrn.nd rfl (Or.inl rfl) (pe_lst pa_nil))
      (pss_cons (ps_for PassesOwn.never rfl (pi_range1 rfl gRange (pa_cons (pe_call GLdraw (hr.mono (by decide)) rfl gLdraw FLdraw.kp bLdraw .nil pass0 (pa_cons (pv 0) (pa_cons pe_int pa_nil))) pa_nil)) (pg_name (i := 4) scDrn.nd rfl (Or.inl rfl))
        (pss_cons (ps_set (i := 5) scDrn.nd rfl (Or.inl rfl) (pe_call GLone_of (hr.mono (by decide)) rfl gLone_of FLone_of.kp bLone_of .nil pass0 (pa_cons (pv 0) (pa_cons (pe_op op_cat (pe_lst (pa_cons pe_str (pa_cons pe_str (pa_cons pe_str (pa_cons pe_str (pa_cons pe_str pa_nil)))))) (pe_op op_rep (pe_op op_rep (pe_lst (pa_cons pe_str pa_nil)) pe_int) (pe_callTy call_int1 (by rfl) gInt boot_intT (pa_cons (pe_cmpR op_gt (pv 2) pe_int (nomark _)) pa_nil)))) pa_nil))))
          (pss_cons (ps_set (i := 6) scDrn.nd rfl (Or.inl rfl) (pe_ifExp (pt_cmpR op_in_seq (pv 5) (pe_tup (pa_cons pe_str (pa_cons pe_str (pa_cons pe_str pa_nil)))) (by rfl)) (pv 1) (pe_ifExp (pt_cmpR op_eq (pv 5) pe_str (nomark _)) (pv 2) pe_int)))
          (pss_one (ps_expr (pe_bm PySem.F.plainAttrs_list PySem.F.slot_list_append PySem.F.type_list_append mt_append (pv 3) (pa_cons (pe_tup (pa_cons (pv 5) (pa_cons (pe_call GLdraw (hr.mono (by decide)) rfl gLdraw FLdraw.kp bLdraw .nil pass0 (pa_cons (pv 0) (pa_cons pe_int pa_nil))) (pa_cons (pe_call GLdraw (hr.mono (by decide)) rfl gLdraw FLdraw.kp bLdraw .nil pass0 (pa_cons (pv 0) (pa_cons (pv 6) pa_nil))) pa_nil)))) pa_nil)))))))
      (pss_one (ps_ret (pv 3))))), ?_⟩
    refine ⟨by show 0 ≤ sizeLine; decide, fun d hd => ?_⟩
    have s1 := same_new (o := .lst []) hd
    have nda : d ≠ a := (hp.ne hd).symm
    refine ⟨_, rfl, a, 6, n, rfl, by decide, by decide, hp.same s1, by omega, fun H1 m m0 m1 b1 hp1 => ?_⟩
    have hd1 : H1 d = some (.lst []) := b1 d nda _ upd_same
    have b1 : But a H H1 := (but_same s1).trans b1
    refine ⟨m, rfl, by omega, by omega, ?_⟩
    obtain ⟨q, rfl⟩ : ∃ q : Nat, m = (q : Int) := ⟨m.toNat, by omega⟩
    rw [Int.toNat_natCast]
    refine for_range (lo := 0) (n := q) (fun k σ H' => But a H H' ∧ Pur H' a (n + 1 + 3 * k) ∧ (∃ u4 u5 u6 : Option V, σ = [some (.ref a), some (.int p), some (.int (cells : Int)), some (.ref d), u4, u5, u6]) ∧ ∃ ts rs, H' d = some (.lst (ts.map V.ref)) ∧ RowsT H' p cells ts rs ∧ rs.length = k) ⟨b1, hp1, ⟨_, _, _, rfl⟩, [], [], hd1, .nil, rfl⟩ ?_ ?_
    · rintro k σ H2 hk ⟨b2, hp2, ⟨u4, u5, u6, rfl⟩, ts, rs, hd2, hR, lr⟩
      have lts := paired_len hR
      refine ⟨_, rfl, by show 5 ≤ sizeLine; decide, fun l1 hl1 => ⟨by show 1 ≤ sizeLine; decide, fun l2 hl2 => ⟨l2, 3, _, rfl, rfl, upd_same, by decide, by decide, by show 1 * 3 ≤ sizeLine; decide, fun l3 hl3 => ?_⟩⟩⟩
      refine ⟨_, rfl, _, _, rfl, rfl, .inr ⟨decide (0 < (cells : Int)), rfl, l3, _, _, rfl, rfl, upd_same, ?_, ?_, ?_, fun l4 hl4 => ?_⟩⟩
      · split <;> decide
      · split <;> decide
      · split <;> decide
      have n1 := same_new (o := .lst [V.str "take"]) hl2
      have n2 := same_new (o := .lst (List.replicate (3 : Int).toNat [V.str "take"]).flatten) hl3
      have n3 := same_new (o := .lst (List.replicate (if decide (0 < (cells : Int)) = true then (1 : Int) else 0).toNat (List.replicate (3 : Int).toNat [V.str "take"]).flatten).flatten) hl4
      refine ⟨l1, l4, _, _, rfl, rfl, n3 _ _ (n2 _ _ (n1 _ _ upd_same)), upd_same, ?_, fun l5 hl5 => ?_⟩
      · cases decide (0 < (cells : Int)) <;> decide
      have n0 := same_new (o := .lst [V.str "set", V.str "copy", V.str "times", V.str "more", V.str "add"]) hl1
      have n4 := same_new (o := .lst (fiveV (decide (0 < (cells : Int))))) hl5
      have nn4 := same_trans n0 (same_trans n1 (same_trans n2 (same_trans n3 n4)))
      obtain ⟨_, f1, f2⟩ := five_mem (decide (0 < (cells : Int)))
      have hp4 := hp2.same nn4
      refine ⟨a, l5, fiveV (decide (0 < (cells : Int))), n + 1 + 3 * k, rfl, hp4, by omega, upd_same, ?_, f1, by omega, fun j x H5 hx b5 hp5 => ?_⟩
      · intro e
        obtain ⟨_, _, _, _, z, _⟩ := hp2
        have z : H2 a = some (.lst _) := z
        have z2 := n3 _ _ (n2 _ _ (n1 _ _ (n0 _ _ z)))
        rw [← e, hl5] at z2
        cases z2
      have b25 : But a H2 H5 := (but_same nn4).trans b5
      have hd5 : H5 d = some (.lst (ts.map V.ref)) := b25 d nda _ hd2
      have hR5 := rows_but hR hp2 b25
      obtain ⟨w, rfl, hw⟩ := five_word (List.mem_of_getElem? hx)
      have fin : ∀ (w : StA.W6) (h z : Int) {H7 : Hp} {v4 v5 v6 : Option V}, But a H5 H7 → Pur H7 a (n + 1 + 3 * k + 3) → 0 ≤ h → h < 2 → 0 ≤ z → z < (match w with
          | .set => p
          | .times => p
          | .more => p
          | .copy => 2
          | .add => 2
          | .take => (cells : Int)) → ∀ t, H7 t = none → H7 d = some (.lst (ts.map V.ref)) ∧ (ts.map V.ref).length < sizeLine ∧
          (But a H (upd (upd H7 t (.tup [.str (wordS w), .int h, .int z])) d (.lst (ts.map V.ref ++ [.ref t]))) ∧ Pur (upd (upd H7 t (.tup [.str (wordS w), .int h, .int z])) d (.lst (ts.map V.ref ++ [.ref t]))) a (n + 1 + 3 * (k + 1)) ∧ (∃ u4 u5 u6 : Option V, [some (V.ref a), some (.int p), some (.int (cells : Int)), some (.ref d), v4, v5, v6] = [some (.ref a), some (.int p), some (.int (cells : Int)), some (.ref d), u4, u5, u6]) ∧ ∃ ts' rs', (upd (upd H7 t (.tup [.str (wordS w), .int h, .int z])) d (.lst (ts.map V.ref ++ [.ref t]))) d = some (.lst (ts'.map V.ref)) ∧ RowsT (upd (upd H7 t (.tup [.str (wordS w), .int h, .int z])) d (.lst (ts.map V.ref ++ [.ref t]))) p cells ts' rs' ∧ rs'.length = k + 1) := by
        intro w h z H7 v4 v5 v6 b7 hp7 h0 h1 z0 z1 t ht
        have hd7 : H7 d = some (.lst (ts.map V.ref)) := b7 d nda _ hd5
        obtain ⟨j, rfl⟩ : ∃ j : Nat, h = (j : Int) := ⟨h.toNat, by omega⟩
        obtain ⟨e1, e2, e3⟩ := rows_app (p := p) (cells := cells) (r := ⟨w, j, z⟩) hd7 (rows_but hR5 hp5 b7) ht ⟨by show j < 2; omega, z0, z1⟩
        have bH7 : But a H H7 := b2.trans (b25.trans b7)
        have nta : t ≠ a := (hp7.ne ht).symm
        refine ⟨hd7, by rw [List.length_map, lts, lr, sizeLine_eq]; omega, ?_, ?_, ⟨_, _, _, rfl⟩, ts ++ [t], rs ++ [⟨w, j, z⟩], e1, e2, by rw [List.length_append, lr]; rfl⟩
        · exact but_set (bH7.trans (but_same (same_new ht))) nda hd
        · exact pur_upd (pur_upd (hp7.mono (by omega)) nta) nda
      cases w with
      | set =>
        refine ⟨_, rfl, by show 3 ≤ sizeLine; decide, fun t2 ht2 => ⟨t2, _, rfl, .inr (SqT.of upd_same), rfl, by decide +kernel, _, rfl, ?_⟩⟩
        have st2 := same_new (o := .tup [V.str "set", V.str "times", V.str "more"]) ht2
        refine ifT2 (by decide +kernel) ⟨_, rfl, ?_⟩
        refine ⟨_, rfl, .inl ⟨rfl, _, SqL.of (st2 _ _ hd5)⟩, _, rfl, _, rfl, a, 2, n + 1 + 3 * k + 1, rfl, by decide, by decide, hp5.same st2, by omega, fun H6 h h0 h1 b6 hp6 => ?_⟩
        refine ⟨_, rfl, _, rfl, a, p, n + 1 + 3 * k + 2, rfl, by omega, by omega, hp6, by omega, fun H7 z z0 z1 b7 hp7 => ⟨by show 3 ≤ sizeLine; decide, fun t ht => ?_⟩⟩
        have b57 : But a H5 H7 := (but_same st2).trans (b6.trans b7)
        obtain ⟨g1, g2, g3⟩ := fin .set h z b57 hp7 h0 h1 z0 z1 t ht
        exact ⟨d, _, _, rfl, rfl, same_new ht _ _ g1, g2, g3⟩
      | copy =>
        refine ⟨_, rfl, by show 3 ≤ sizeLine; decide, fun t2 ht2 => ⟨t2, _, rfl, .inr (SqT.of upd_same), rfl, by decide +kernel, _, rfl, ?_⟩⟩
        have st2 := same_new (o := .tup [V.str "set", V.str "times", V.str "more"]) ht2
        refine ifF2 (by decide +kernel) ⟨_, rfl, rfl, _, rfl, ifF2 (by decide +kernel) ?_⟩
        refine ⟨_, rfl, .inl ⟨rfl, _, SqL.of (st2 _ _ hd5)⟩, _, rfl, _, rfl, a, 2, n + 1 + 3 * k + 1, rfl, by decide, by decide, hp5.same st2, by omega, fun H6 h h0 h1 b6 hp6 => ?_⟩
        refine ⟨_, rfl, _, rfl, a, 2, n + 1 + 3 * k + 2, rfl, by omega, by omega, hp6, by omega, fun H7 z z0 z1 b7 hp7 => ⟨by show 3 ≤ sizeLine; decide, fun t ht => ?_⟩⟩
        have b57 : But a H5 H7 := (but_same st2).trans (b6.trans b7)
        obtain ⟨g1, g2, g3⟩ := fin .copy h z b57 hp7 h0 h1 z0 z1 t ht
        exact ⟨d, _, _, rfl, rfl, same_new ht _ _ g1, g2, g3⟩
      | times =>
        refine ⟨_, rfl, by show 3 ≤ sizeLine; decide, fun t2 ht2 => ⟨t2, _, rfl, .inr (SqT.of upd_same), rfl, by decide +kernel, _, rfl, ?_⟩⟩
        have st2 := same_new (o := .tup [V.str "set", V.str "times", V.str "more"]) ht2
        refine ifT2 (by decide +kernel) ⟨_, rfl, ?_⟩
        refine ⟨_, rfl, .inl ⟨rfl, _, SqL.of (st2 _ _ hd5)⟩, _, rfl, _, rfl, a, 2, n + 1 + 3 * k + 1, rfl, by decide, by decide, hp5.same st2, by omega, fun H6 h h0 h1 b6 hp6 => ?_⟩
        refine ⟨_, rfl, _, rfl, a, p, n + 1 + 3 * k + 2, rfl, by omega, by omega, hp6, by omega, fun H7 z z0 z1 b7 hp7 => ⟨by show 3 ≤ sizeLine; decide, fun t ht => ?_⟩⟩
        have b57 : But a H5 H7 := (but_same st2).trans (b6.trans b7)
        obtain ⟨g1, g2, g3⟩ := fin .times h z b57 hp7 h0 h1 z0 z1 t ht
        exact ⟨d, _, _, rfl, rfl, same_new ht _ _ g1, g2, g3⟩
      | more =>
        refine ⟨_, rfl, by show 3 ≤ sizeLine; decide, fun t2 ht2 => ⟨t2, _, rfl, .inr (SqT.of upd_same), rfl, by decide +kernel, _, rfl, ?_⟩⟩
        have st2 := same_new (o := .tup [V.str "set", V.str "times", V.str "more"]) ht2
        refine ifT2 (by decide +kernel) ⟨_, rfl, ?_⟩
        refine ⟨_, rfl, .inl ⟨rfl, _, SqL.of (st2 _ _ hd5)⟩, _, rfl, _, rfl, a, 2, n + 1 + 3 * k + 1, rfl, by decide, by decide, hp5.same st2, by omega, fun H6 h h0 h1 b6 hp6 => ?_⟩
        refine ⟨_, rfl, _, rfl, a, p, n + 1 + 3 * k + 2, rfl, by omega, by omega, hp6, by omega, fun H7 z z0 z1 b7 hp7 => ⟨by show 3 ≤ sizeLine; decide, fun t ht => ?_⟩⟩
        have b57 : But a H5 H7 := (but_same st2).trans (b6.trans b7)
        obtain ⟨g1, g2, g3⟩ := fin .more h z b57 hp7 h0 h1 z0 z1 t ht
        exact ⟨d, _, _, rfl, rfl, same_new ht _ _ g1, g2, g3⟩
      | add =>
        refine ⟨_, rfl, by show 3 ≤ sizeLine; decide, fun t2 ht2 => ⟨t2, _, rfl, .inr (SqT.of upd_same), rfl, by decide +kernel, _, rfl, ?_⟩⟩
        have st2 := same_new (o := .tup [V.str "set", V.str "times", V.str "more"]) ht2
        refine ifF2 (by decide +kernel) ⟨_, rfl, rfl, _, rfl, ifF2 (by decide +kernel) ?_⟩
        refine ⟨_, rfl, .inl ⟨rfl, _, SqL.of (st2 _ _ hd5)⟩, _, rfl, _, rfl, a, 2, n + 1 + 3 * k + 1, rfl, by decide, by decide, hp5.same st2, by omega, fun H6 h h0 h1 b6 hp6 => ?_⟩
        refine ⟨_, rfl, _, rfl, a, 2, n + 1 + 3 * k + 2, rfl, by omega, by omega, hp6, by omega, fun H7 z z0 z1 b7 hp7 => ⟨by show 3 ≤ sizeLine; decide, fun t ht => ?_⟩⟩
        have b57 : But a H5 H7 := (but_same st2).trans (b6.trans b7)
        obtain ⟨g1, g2, g3⟩ := fin .add h z b57 hp7 h0 h1 z0 z1 t ht
        exact ⟨d, _, _, rfl, rfl, same_new ht _ _ g1, g2, g3⟩
      | take =>
        have c0 : 0 < (cells : Int) := of_decide_eq_true (hw rfl)
        refine ⟨_, rfl, by show 3 ≤ sizeLine; decide, fun t2 ht2 => ⟨t2, _, rfl, .inr (SqT.of upd_same), rfl, by decide +kernel, _, rfl, ?_⟩⟩
        have st2 := same_new (o := .tup [V.str "set", V.str "times", V.str "more"]) ht2
        refine ifF2 (by decide +kernel) ⟨_, rfl, rfl, _, rfl, ifT2 (by decide +kernel) ⟨_, rfl, ?_⟩⟩
        refine ⟨_, rfl, .inl ⟨rfl, _, SqL.of (st2 _ _ hd5)⟩, _, rfl, _, rfl, a, 2, n + 1 + 3 * k + 1, rfl, by decide, by decide, hp5.same st2, by omega, fun H6 h h0 h1 b6 hp6 => ?_⟩
        refine ⟨_, rfl, _, rfl, a, (cells : Int), n + 1 + 3 * k + 2, rfl, by omega, by omega, hp6, by omega, fun H7 z z0 z1 b7 hp7 => ⟨by show 3 ≤ sizeLine; decide, fun t ht => ?_⟩⟩
        have b57 : But a H5 H7 := (but_same st2).trans (b6.trans b7)
        obtain ⟨g1, g2, g3⟩ := fin .take h z b57 hp7 h0 h1 z0 z1 t ht
        exact ⟨d, _, _, rfl, rfl, same_new ht _ _ g1, g2, g3⟩
    · rintro σ H2 ⟨b2, hp2, ⟨u4, u5, u6, rfl⟩, ts, rs, hd2, hR, lr⟩
      exact ⟨_, rfl, want H2 d ts rs b2 (hp2.mono (by omega)) hd hd2 hR (by omega)⟩
end
end Vb
end L2

set_option Elab.async false
set_option linter.all false
set_option maxRecDepth 100000
set_option maxHeartbeats 4000000
/-! Vb, k30: a sum's text. -/
namespace L2
namespace Vb
open PySem PySem.Spec PyProof.Rows
def sumP (W : SumZ) : List (PyData × PyData) := W.map fun q => (.str q.1, .int q.2)
def sumT (W : SumZ) : Str := PyData.shown (.dict (sumP W))
/-- few names, short ones, numbers of five figures -/
def Few (W : SumZ) : Prop := W.length ≤ 20 ∧ ∀ q ∈ W, (reprText q.1).length ≤ 20 ∧ q.2.natAbs < 100000
theorem few_show : ∀ {W : SumZ}, (∀ q ∈ W, (reprText q.1).length ≤ 20 ∧ q.2.natAbs < 100000) → PyData.showableKv (sumP W) = true ∧ ((PyData.shownKv (sumP W)).map (·.length)).sum ≤ 2000 * W.length ∧ (PyData.shownKv (sumP W)).length = W.length
  | [], _ => ⟨rfl, Nat.le_refl _, rfl⟩
  | q :: W, h => by
    obtain ⟨h1, h2⟩ := h q List.mem_cons_self
    obtain ⟨i1, i2, i3⟩ := few_show fun r m => h r (List.mem_cons_of_mem _ m)
    have l := log_abs h2
    have e1 : PyData.showableKv (sumP (q :: W)) = (PyData.showable (.str q.1) && PyData.showable (.int q.2) && PyData.showableKv (sumP W)) := rfl
    have e2 : PyData.shownKv (sumP (q :: W)) = (reprText q.1 ++ ": " ++ (toString q.2 : Str)) :: PyData.shownKv (sumP W) := rfl
    refine ⟨?_, ?_, ?_⟩
    · rw [e1, i1]
      show (true && decide (q.2.natAbs.log2 < 1920) && true) = true
      rw [decide_eq_true (by omega)]
      rfl
    · have t := int_text_len_1921 (i := q.2) (by omega)
      rw [e2, List.map_cons, List.sum_cons, PySem.Str.length_append, PySem.Str.length_append]
      have c : ((": " : Str)).length = 2 := by decide +kernel
      rw [c]
      show _ ≤ 2000 * (W.length + 1)
      rw [Nat.mul_succ]
      omega
    · rw [e2, List.length_cons, i3]
      rfl
theorem few_len {W : SumZ} (f : Few W) : (sumT W).length ≤ sizeLine := by
  obtain ⟨_, i2, i3⟩ := few_show f.2
  have z := dictText_len_le (PyData.shownKv (sumP W))
  rw [i3] at z
  have l := f.1
  show (dictText (PyData.shownKv (sumP W))).length ≤ _
  rw [sizeLine_eq]
  omega
theorem sum_reads {X : Cx} {h : Heap} : ∀ {W : SumZ} {vs : List (Key × Value)} {es : List DictEntry}, KV (kvsZ W) vs → Pairs (mixKind X.prog X.w) es vs → ReadsAll h (es.map (·.key)) (W.map fun q => .str q.1) [] ∧ ReadsAll h (es.map (·.val)) (W.map fun q => .int q.2) []
  | [], _, _, .nil, .nil => ⟨.nil, .nil⟩
  | q :: W, _, _, .cons (b := b) r t, .cons (e := e) k v p => by
    obtain ⟨e1, e2⟩ := r
    obtain ⟨z1, z2⟩ := sum_reads (h := h) t p
    obtain ⟨bk, bv⟩ := b
    obtain rfl : (Sum.inr q.1 : Key) = bk := e1
    have k1 : Reads h e.key (.str q.1) [] := by
      rcases keyIs_shape (show keyIs (Sum.inr q.1) e.key = true from k) with ⟨i, t, z, _⟩ | ⟨x, t, z, ek⟩
      · cases z
      · cases Sum.inr.inj z
        rw [ek]
        exact .str _ t
    have k2 : Reads h e.val (.int q.2) [] := by
      obtain ⟨t, ev⟩ := (show ∃ t, bv = Value.int q.2 t from e2)
      rw [v]
      show Reads h bv _ _
      rw [ev]
      exact .int _ t
    exact ⟨.cons k1 z1, .cons k2 z2⟩
theorem few_depth : ∀ W : SumZ, PyData.depthKv (sumP W) = 0
  | [] => rfl
  | q :: W => by
    show max (max (PyData.depth (.str q.1)) (PyData.depth (.int q.2))) (PyData.depthKv (sumP W)) = 0
    rw [few_depth W]
    rfl
/-- repr(d), d a sum -/
def rShowS : List V → Hp → VK → Prop := fun xs H Q => ∃ (a : Addr) (W : SumZ), xs = [.ref a] ∧ Dct H a W ∧ Few W ∧ Q (.str (sumT W)) H
theorem cr_showS {X : Cx} (guards : X.A.guards = some []) (units : X.A.units + 64 < cLine) : CallR X (.builtin "repr") rShowS := by
  rintro pins s σ H _ us Q inv rs ⟨a, W, rfl, e, few, q⟩
  rw [Vals.ref1 rs]
  have e : H a = some (.dK (kvsZ W)) := e
  obtain ⟨_, own, vs, rel, o, es, ep, there, exact_, dat, keys, prs, _⟩ := (show ObjOk X.prog X.w H s.heap a (.dK (kvsZ W)) from inv.hok a _ e)
  obtain ⟨r1, r2⟩ := sum_reads (X := X) (h := s.heap) rel prs
  have rd : Reads s.heap (.ref a) (.dict (sumP W)) [a] := by
    refine Reads.dict (as := []) (bs := []) there exact_.1 dat ?_ ?_
    · unfold sumP
      rw [List.map_map]
      exact r1
    · unfold sumP
      rw [List.map_map]
      exact r2
  obtain ⟨s1, _, _⟩ := few_show few.2
  refine repr_of_reads' rd s1 (fun _ m => ?_) guards ?_ (fun _ _ z => z) (fun h' t tk keep => ⟨.str _, H, inv.kept (t' := tk) keep, ⟨_, rfl⟩, q⟩) (few_len few)
  · have z : sysModules = a := List.mem_singleton.mp m
    rw [z] at own
    simp at own
  · rw [PyData.depth, few_depth]
    omega
theorem few_good {p : Int} {cells : Nat} {W : SumZ} (p6 : p ≤ 65537) (c8 : cells ≤ 8) (gw : GoodW p cells W) : Few W := by
  refine ⟨gw.2.2, fun q m => ?_⟩
  obtain ⟨h1, h2, h3⟩ := gw.1 q m
  refine ⟨?_, by omega⟩
  rcases keys_of h3 with e | ⟨c, hc, e⟩
  · rw [e]
    decide +kernel
  · rw [e]
    exact (by decide +kernel : ∀ c, c < 9 → (reprText (cellS c)).length ≤ 20) c (by omega)
/-! ### texts of the things handed in -/
theorem row_short {d : PyData} (h : RowOk d) : d.showable = true ∧ d.shown.length ≤ 8000 ∧ d.depth ≤ 4 := by
  have ok := rowOk_okN h
  obtain ⟨g1, _, g3⟩ := goodL 3 d (okN_okL 3 d ok)
  refine ⟨g1, ?_, g3⟩
  have wl : ∀ x, x ∈ wordsL → (reprText x).length ≤ 20 := by decide +kernel
  have sl : ∀ {e : PyData}, smallD e = true → e.shown.length ≤ 1921 := fun {e} h => by
    cases e with
    | int i =>
      have l := log_abs (of_decide_eq_true h)
      exact int_text_len_1921 (i := i) (by omega)
    | bool b => cases b <;> decide +kernel
    | _ => cases h
  cases h with
  | non => decide +kernel
  | @lst x a b h ha hb =>
    have z := listText_len_le [reprText x, a.shown, b.shown]
    show (listText [reprText x, a.shown, b.shown]).length ≤ _
    have e : ([reprText x, a.shown, b.shown].map (·.length)).sum = (reprText x).length + (a.shown.length + (b.shown.length + 0)) := rfl
    rw [e] at z
    have := wl x h
    have := sl ha
    have := sl hb
    have e3 : [reprText x, a.shown, b.shown].length = 3 := rfl
    rw [e3] at z
    omega
  | @row x a b h ha hb =>
    have z := tupleText_len_le [reprText x, a.shown, b.shown]
    show (tupleText [reprText x, a.shown, b.shown]).length ≤ _
    have e : ([reprText x, a.shown, b.shown].map (·.length)).sum = (reprText x).length + (a.shown.length + (b.shown.length + 0)) := rfl
    rw [e] at z
    have := wl x h
    have := sl ha
    have := sl hb
    have e3 : [reprText x, a.shown, b.shown].length = 3 := rfl
    rw [e3] at z
    omega
  | odd h => exact (by decide +kernel : ∀ d, d ∈ oddRows → d.shown.length ≤ 8000) d h
theorem rows_short : ∀ {ds : List PyData}, (∀ e ∈ ds, RowOk e) → PyData.showableAll ds = true ∧ ((PyData.shownAll ds).map (·.length)).sum ≤ 8000 * ds.length ∧ (PyData.shownAll ds).length = ds.length ∧ PyData.depthAll ds ≤ 4
  | [], _ => ⟨rfl, Nat.le_refl _, rfl, Nat.zero_le _⟩
  | d :: ds, h => by
    obtain ⟨h1, h2, h3⟩ := row_short (h d List.mem_cons_self)
    obtain ⟨i1, i2, i3, i4⟩ := rows_short fun e m => h e (List.mem_cons_of_mem _ m)
    refine ⟨?_, ?_, congrArg (· + 1) i3, ?_⟩
    · show (PyData.showable d && PyData.showableAll ds) = true
      rw [h1, i1]
      rfl
    · show d.shown.length + ((PyData.shownAll ds).map (·.length)).sum ≤ 8000 * (ds.length + 1)
      rw [Nat.mul_succ]
      omega
    · rw [PyData.depthAll]
      exact Nat.max_le.mpr ⟨h3, i4⟩
theorem val_show {d : PyData} (h : ValOk d) : d.showable = true ∧ d.depth ≤ 30 ∧ d.shown.length ≤ sizeLine := by
  rcases h with ⟨ds, rfl | rfl, l, ok⟩ | rfl | rfl | rfl
  · obtain ⟨i1, i2, i3, i4⟩ := rows_short ok
    refine ⟨i1, by rw [PyData.depth]; omega, ?_⟩
    have z := listText_len_le (PyData.shownAll ds)
    rw [i3] at z
    show (listText (PyData.shownAll ds)).length ≤ _
    rw [sizeLine_eq]
    omega
  · obtain ⟨i1, i2, i3, i4⟩ := rows_short ok
    refine ⟨i1, by rw [PyData.depth]; omega, ?_⟩
    have z := tupleText_len_le (PyData.shownAll ds)
    rw [i3] at z
    show (tupleText (PyData.shownAll ds)).length ≤ _
    rw [sizeLine_eq]
    omega
  · exact ⟨rfl, by rw [PyData.depth]; decide, by decide +kernel⟩
  · exact ⟨rfl, by rw [PyData.depth]; decide, by decide +kernel⟩
  · exact ⟨rfl, by rw [PyData.depth]; decide, by decide +kernel⟩
end Vb
end L2

set_option Elab.async false
set_option linter.all false
set_option maxRecDepth 100000
set_option maxHeartbeats 4000000
/-! Vb, from Eo, part 4: promises that hold where no repr is under way (a def that asks for repr wants to know it). -/
namespace L2
namespace Vb
open PySem PySem.Spec PyProof.Rows
/-- a def's promise, kept where no repr is under way and no exception leaves -/
structure FnG (P : Program) (w : World) (K : PySem.W.Frag) (mg : Str → Option Value) (base : Heap) (k : Nat) (f : Addr) (fd : FuncData) (ps : List Str) (sp : Sp) : Prop where
  len : ∀ vs H Q, sp vs H Q E0 → vs.length = ps.length
  run : ∀ (A : Around) (below : List Env) (s : Shared) (H : Hp) (args : Args) (us : List Value) (vs : List V) (Q : VK), A.guards = some [] → Room k A → Env0 P w K mg base A below s H → BindsTo s fd args (ps.zip us) → Vals vs us → sp vs H Q E0 →
    codeAny (model P w) A (.call (.ref f) args) (CR CX0 below P w H s Q E0) s
section
variable {P : Program} {w : World} {K : PySem.W.Frag} {mg : Str → Option Value} {base : Heap} {k : Nat} {f : Addr} {fd : FuncData} {sp : Sp}
theorem guards_deeper {A : Around} {env : Env} (g : A.guards = some []) : (A.deeper env).guards = some [] := g
/-- a def of the text, by its body -/
theorem fnG_of {x qual : Str} {st : Stmt} {names ps : List Str} (F : Fun K x qual st f fd) (S : FnScope names ps (defScope st)) (len : ∀ vs H Q, sp vs H Q E0 → vs.length = ps.length)
    (body : ∀ (cdv : Value) (A : Around) (below : List Env) (s : Shared) (H : Hp) (vs : List V) (Q : VK), (A.deeper (envOfC qual (defScope st) s.heap.objs.size f cdv)).guards = some [] → Room k (A.deeper (envOfC qual (defScope st) s.heap.objs.size f cdv)) → sp vs H Q E0 →
      ∃ t, PSs (cxOf CX0 P w K mg base names qual (defScope st) f cdv A below s H E0).nox (defBody st) t ∧ t { nx := fun _ H' => Q .non H', rt := Q } (start names vs) H) : FnG P w K mg base (k + 1) f fd ps sp := by
  obtain ⟨oc, od, kV, doc, pm, an, cdv, ct, osl, rfl, lk, hcd⟩ := F.ex
  constructor
  · exact len
  · intro A below s H args us vs Q hgd hroom e0 hbinds rel want
    have n2 := len _ _ _ want
    have KX : K.In s.heap := e0.mod.kin.keeps fun b o e => (e0.bs b o e).1
    have lim : s.heap.NoLimit := e0.mod.nolimit.keeps fun b o e => (e0.bs b o e).1
    have kinds : ∀ y ∈ ps.zip us, (defScope st).names.lookup y.1 = some .local ∨ ((defScope st).names.lookup y.1 = some .cell ∧ ((cellsFrom (s.heap.objs.size + 1) (defScope st).names []).lookup y.1).isSome = true) := by
      rintro ⟨y, u⟩ hy
      have z := S.par y (List.of_mem_zip hy).1
      exact z.elim .inl fun q => .inr ⟨q, PySem.W.cellsFrom_some _ _ _ (.inl q)⟩
    refine codeAny_call_function hroom.depth (KX _ _ lk) rfl S.co S.gen rfl (PySem.W.codeRec_of KX hcd) (hbinds _ _ _ _ ?_)
    refine wpAny_newFunctionEnv_cells S.kind kinds fun env he s1 inc => ?_
    subst he
    refine ⟨lim.keeps inc.toInCall.keep, codeAny_func ?_⟩
    obtain ⟨t, ht, hq⟩ := body cdv A below s H vs Q (guards_deeper hgd) (hroom.deeper _) want
    have I0 : Inv (cxOf CX0 P w K mg base names qual (defScope st) f cdv A below s H E0) [] (start names vs) H s1 := inv_start S hroom.hd e0 n2 rel inc
    refine wpAny_mono (ht.nox.run [] s1 (start names vs) H _ I0 hq) (fun fl s' out => ?_) fun e s' out => out
    cases fl with
    | ret u =>
      obtain ⟨v, σ2, H2, J, rv, q⟩ := out
      exact ⟨v, H2, J.os, J.bare, J.base, J.hok, rv, q⟩
    | next =>
      obtain ⟨σ2, H2, J, q⟩ := out
      exact ⟨V.non, H2, J.os, J.bare, J.base, J.hok, rfl, q⟩
    | brk => exact out.elim fun _ z => z.elim fun _ z => z.2.elim
    | cont => exact out.elim fun _ z => z.elim fun _ z => z.2.elim
end
section
variable {X : Cx} {k : Nat} {f : Addr} {fd : FuncData} {ps : List Str} {sp : Sp} {x : Str} {p pos : Pos} {e : Expr} {es : List Expr} {t : TA}
/-- f(e, ..) of such a def -/
theorem pe_callG (F : FnG X.prog X.w X.K X.mg X.base k f fd ps sp) (hgd : X.A.guards = some []) (hr : Room k X.A) (hg : Gl X x) (hm : X.mg x = some (.ref f)) (hk : PySem.W.keepIn X.K (.ref f) = true) (hb : Binds X.K fd ps [])
    (ha : PA X (e :: es) t) (hdb : (x == ("__debug__" : Str)) = false := by decide) (hs : starEach (e :: es) X.env = (false, eval e X.env) :: starEach es X.env := by rfl) (hpl : (backTo pos (starEach es X.env)).any (·.1) = false := by rfl) :
    PE X (.Call (.Name x p) (e :: es) [] pos) (tCall sp [] E0 t) := by
  refine ⟨fun pins s σ H Q I h => ?_⟩
  refine wpAny_Call_Name_kw (ld_glob I hg hm ?_ hdb)
  refine PySem.W.callWith_K (h₀ := X.base) I.ok.mod.kin hk (thn (ha.run pos pins s σ H _ I h) fun us s1 ⟨vs, H1, I1, r, q⟩ => ⟨I1.kIn, ?_⟩) hs hpl
  have q1 : sp vs H1 Q E0 := by
    have z : sp (vs ++ []) H1 Q E0 := q
    rw [List.append_nil] at z
    exact z
  have n1 : (us ++ []).length = ps.length := by rw [List.append_nil, ← r.length, F.len _ _ _ q1]
  have b1 := hb s1 us I1.kIn n1
  rw [List.append_nil] at b1
  refine wpAny_call (codeAny_mono (F.run X.A X.stack s1 H1 ⟨us, []⟩ us vs Q hgd hr I1.env0 b1 r q1) fun r s' z => ?_)
  cases r with
  | error er => exact False.elim z
  | ok fl =>
    cases fl with
    | ret u => exact I1.after z
    | next => exact z.elim
    | brk => exact z.elim
    | cont => exact z.elim
end
/-- the law's call behind the top, by such a promise -/
theorem topG {P : Program} {w : World} {K : PySem.W.Frag} {mg mb : Str → Option Value} {k : Nat} {fa a : Addr} {fd : FuncData} {x : Str} {sp : Sp} {s1 : Shared} {vs : List Value} {ns : List Int}
    (KX : K.In s1.heap) (gm : s1.heap.Ns mainGlobals mg) (gb : s1.heap.Ns builtinsNs mb) (bb : ∀ x : Str, x ≠ "__name__" → mb x = bootBuiltins x) (lim : s1.heap.NoLimit) (gn : s1.gens = #[])
    (ha : s1.heap.get? a = some { cls := .type "list", data := .seq vs.toArray }) (hi : IntsAre vs ns) (hl : ns.length ≤ sizeLine) (hr : Room k callerA)
    (F : ∀ base : Heap, K.In base → base.Ns mainGlobals mg → FnG P w K mg base k fa fd [x] sp) (bind : ∀ (s : Shared) (u : Value), BindsTo s fd ⟨[u], []⟩ [(x, u)])
    (want : ∀ H : Hp, SqL K H a (ns.map V.int) → sp [.ref a] H (fun v _ => v = .bl true) E0) :
    codeAny (model P w) callerA (.call (.ref fa) ⟨[.ref a], []⟩) (fun r s' => r = .ok (.ret (.bool true)) ∧ OldK s1.heap s'.heap ∧ s'.os = s1.os ∧ AllBare s'.gens) s1 := by
  have rints := vals_ints hi
  have nv := hi.length
  obtain ⟨H, hS, hH, hM⟩ : ∃ H : Hp, SqL K H a (ns.map V.int) ∧ (∀ b u, H b = some u → b = a ∧ K.lookup a = none ∧ u = .frz { cls := .type "list", data := .seq vs.toArray } (.lst (ns.map V.int))) ∧ True := by
    cases hk : K.lookup a with
    | some o =>
      have e := (KX a o hk).symm.trans ha
      cases e
      exact ⟨fun _ => none, .inr ⟨_, vs.toArray, _, hk, rfl, rfl, rfl, by rw [List.size_toArray, nv]; exact hl, by simpa using rints⟩, fun b u z => (nomatch z), trivial⟩
    | none =>
      refine ⟨fun b => if b = a then some (.frz { cls := .type "list", data := .seq vs.toArray } (.lst (ns.map V.int))) else none, .inl (.inr ⟨_, if_pos rfl⟩), fun b u z => ?_, trivial⟩
      by_cases q : b = a
      · have z2 : (if b = a then some (HO.frz { cls := .type "list", data := .seq vs.toArray } (.lst (ns.map V.int))) else none) = some u := z
        rw [if_pos q] at z2
        exact ⟨q, rfl, (Option.some.inj z2).symm⟩
      · have z2 : (if b = a then some (HO.frz { cls := .type "list", data := .seq vs.toArray } (.lst (ns.map V.int))) else none) = some u := z
        rw [if_neg q] at z2
        cases z2
  have ok0 : HOk P w H s1.heap := fun b u z => by
    obtain ⟨rfl, _, rfl⟩ := hH b u z
    exact ⟨ha, by rw [List.length_map]; exact hl, vs, _, rints, ha⟩
  have hidden : ∀ {b : Addr} {o : Obj}, s1.heap.get? b = some o → H b = none → (hidT s1.heap H).get? b = some o := fun e n => hidT_get e n
  have dictFree : ∀ {b : Addr} {o : Obj} {es : Array DictEntry} {ep : Nat}, s1.heap.get? b = some o → o.data = .dict es ep → H b = none := fun {b o es ep} e d => by
    cases q : H b with
    | none => rfl
    | some u =>
      obtain ⟨rfl, _⟩ := hH b u q
      have z := ha.symm.trans e
      cases z
      cases d
  have nsk : ∀ {b : Addr} {m : Str → Option Value}, s1.heap.Ns b m → (hidT s1.heap H).Ns b m := fun {b m} ⟨o, es, ep, e, d, r⟩ => ⟨o, es, ep, hidden e (dictFree e d), d, r⟩
  have KB : K.In (hidT s1.heap H) := fun b o e => hidden (KX b o e) (by
    cases q : H b with
    | none => rfl
    | some u =>
      obtain ⟨rfl, z, _⟩ := hH b u q
      rw [z] at e
      cases e)
  obtain ⟨mc, l1, l2⟩ := lim
  have M0 : Mod K mg (hidT s1.heap H) := ⟨KB, nsk gm, ⟨mb, nsk gb, bb⟩, ⟨mc, nsk l1, l2⟩⟩
  have env0 : Env0 P w K mg (hidT s1.heap H) callerA [] s1 H := ⟨rfl, M0, fun b o e => of_hidT e, Nat.le_of_eq (hidT_size _ _), trivial, fun b z => (List.not_mem_nil z).elim, ok0, .of_eq gn⟩
  refine codeAny_mono ((F _ KB (nsk gm)).run callerA [] s1 H ⟨[.ref a], []⟩ [.ref a] [.ref a] _ rfl hr env0 (bind s1 (.ref a)) (.cons rfl .nil) (want H hS)) fun r s' out => ?_
  cases r with
  | error er => exact False.elim out
  | ok fl =>
    cases fl with
    | next => exact out.elim
    | brk => exact out.elim
    | cont => exact out.elim
    | ret u =>
      obtain ⟨v, H2, os2, bare, un, ok2, rv, q⟩ := out
      have q2 : v = .bl true := q
      subst q2
      obtain rfl : u = Value.bool true := rv
      refine ⟨rfl, OldK.of_keep fun b o e => ?_, os2, bare⟩
      cases q : H b with
      | none => exact un.keep b o e q (fun z => (List.not_mem_nil z).elim) (fun z => (List.not_mem_nil z).elim)
      | some u =>
        obtain ⟨rfl, _, rfl⟩ := hH b u q
        have z2 := un.frzs b _ _ q
        have e2 := (ok2 b _ z2).1
        have z3 := ha.symm.trans e
        cases z3
        exact e2
end Vb
end L2

set_option Elab.async false
set_option linter.all false
set_option maxRecDepth 100000
set_option maxHeartbeats 8000000
/-! Vb, k30: _law_right. -/
namespace L2
namespace Vb
open PySem PySem.Spec PyProof.Rows
theorem rows_pair {p : Int} {cells : Nat} {H H' : Hp} (k : ∀ t xs, H t = some (.tup xs) → H' t = some (.tup xs)) : ∀ {ts : List Addr} {rs : List StA.R}, RowsT H p cells ts rs → Paired (Sho 1 H') (ts.map V.ref) (rs.map rwD)
  | _, _, .nil => .nil
  | _, _, .cons r t => .cons (Sho.tup (k _ _ r.1) (.cons (Sho.str _) (.cons (Sho.int _) (.cons (Sho.int _) .nil)))) (rows_pair k t)
theorem pur_tup {a t : Addr} {n : Nat} {H : Hp} {xs : List V} (hp : Pur H a n) (e : H t = some (.tup xs)) : msk a H t = some (.tup xs) := by
  obtain ⟨_, _, _, _, z, _⟩ := hp
  have z : H a = some (.lst _) := z
  refine (msk_ne fun q => ?_).trans e
  rw [q, z] at e
  cases e
/-- rows as data, aside from the purse -/
theorem rows_sho {p : Int} {cells n : Nat} {a d : Addr} {H : Hp} {ts : List Addr} {rs : List StA.R} (hp : Pur H a n) (nd : d ≠ a) (hd : H d = some (.lst (ts.map V.ref))) (hR : RowsT H p cells ts rs) : Sho 2 (msk a H) (.ref d) (.list (rs.map rwD)) :=
  Sho.lst ((msk_ne nd).trans hd) (rows_pair (fun _ _ e => pur_tup hp e) hR)
theorem rows_fit {p : Int} {cells : Nat} {H : Hp} : ∀ {ts : List Addr} {rs : List StA.R}, RowsT H p cells ts rs → ∀ r ∈ rs, StA.fits p cells r
  | _, _, .nil, _, m => by cases m
  | _, _, .cons r t, x, m => by
    rcases List.mem_cons.mp m with rfl | m
    · exact r.2
    · exact rows_fit t x m
theorem fit_row {p : Int} {cells : Nat} {r : StA.R} (p6 : p ≤ 65537) (c8 : cells ≤ 8) (f : StA.fits p cells r) : RowOk (rwD r) := by
  obtain ⟨h2, n0, n1⟩ := f
  have n2 : r.n < 100000 := by
    cases ew : r.w <;> rw [ew] at n1 <;> have n1 := n1 <;> simp only at n1 <;> omega
  exact .row (by cases r.w <;> decide +kernel) (decide_eq_true (by omega)) (decide_eq_true (by omega))
theorem fits_val {p : Int} {cells : Nat} {rs : List StA.R} (p6 : p ≤ 65537) (c8 : cells ≤ 8) (f : ∀ r ∈ rs, StA.fits p cells r) (l : rs.length ≤ 20) : ValOk (.list (rs.map rwD)) := val_list (by rw [List.length_map]; exact l) fun e m => by
  obtain ⟨r, mr, rfl⟩ := List.mem_map.mp m
  exact fit_row p6 c8 (f r mr)
theorem step_len (W : SumZ) (x : Str) : (stepR W x).length ≤ 3 := by
  unfold stepR
  by_cases q : x = ""
  · rw [if_pos q]
    exact Nat.zero_le _
  · rw [if_neg q]
    by_cases o : facZ W x = 1
    · rw [if_pos o]
      exact (by decide : 2 ≤ 3)
    · rw [if_neg o]
      exact (by decide : 3 ≤ 3)
theorem reck_len (W : SumZ) (ys : List Str) : 0 < (reckR W ys).length ∧ (reckR W ys).length ≤ 1 + 3 * ys.length := by
  refine ⟨Nat.succ_pos _, ?_⟩
  show (ys.flatMap (stepR W)).length + 1 ≤ _
  induction ys with
  | nil => exact Nat.le_refl _
  | cons y ys ih =>
    rw [List.flatMap_cons, List.length_append, List.length_cons]
    have := step_len W y
    omega
theorem fac_rev {W : SumZ} (nd : (W.map (·.1)).Nodup) (x : Str) : facZ W.reverse x = facZ W x := by
  have nd2 : (W.reverse.map (·.1)).Nodup := by
    rw [List.map_reverse]
    exact List.pairwise_reverse.mpr (nd.imp fun h => h.symm)
  by_cases m : x ∈ W.map (·.1)
  · obtain ⟨q, mq, rfl⟩ := List.mem_map.mp m
    rw [fac_mem nd mq, fac_mem nd2 (List.mem_reverse.mpr mq)]
  · rw [fac_none m, fac_none fun h => m (by
      rw [List.map_reverse] at h
      exact List.mem_reverse.mp h)]
theorem good_rev {p : Int} {cells : Nat} {W : SumZ} (gw : GoodW p cells W) : GoodW p cells W.reverse := by
  refine ⟨fun q m => gw.1 q (List.mem_reverse.mp m), ?_, by rw [List.length_reverse]; exact gw.2.2⟩
  rw [List.map_reverse]
  exact List.pairwise_reverse.mpr (gw.2.1.imp fun h => h.symm)
theorem kvs_rev (W : SumZ) : (kvsZ W).reverse = kvsZ W.reverse := by
  unfold kvsZ
  rw [List.map_reverse]
/-! ### sorted names are one list -/
def nmL : List Str := "" :: (List.range 9).map cellS
def leS (x y : Str) : Bool := !ltCps y.cps.toList x.cps.toList
theorem nm_trans : ∀ x ∈ nmL, ∀ y ∈ nmL, ∀ z ∈ nmL, leS x y = true → leS y z = true → leS x z = true := by decide +kernel
theorem nm_anti : ∀ x ∈ nmL, ∀ y ∈ nmL, leS x y = true → leS y x = true → x = y := by decide +kernel
theorem rise_pair : ∀ {ys : List Str} {x : Str}, (∀ y ∈ x :: ys, y ∈ nmL) → risingS x ys = true → (x :: ys).Pairwise fun a b => leS a b = true
  | [], x, _, _ => List.pairwise_singleton _ _
  | y :: ys, x, m, h => by
    obtain ⟨h1, h2⟩ := Bool.and_eq_true_iff.mp (show (leS x y && risingS y ys) = true from h)
    have p := rise_pair (fun z mz => m z (List.mem_cons_of_mem _ mz)) h2
    refine List.pairwise_cons.mpr ⟨fun z mz => ?_, p⟩
    rcases List.mem_cons.mp mz with rfl | mz
    · exact h1
    · exact nm_trans x (m x List.mem_cons_self) y (m y (List.mem_cons_of_mem _ List.mem_cons_self)) z (m z (List.mem_cons_of_mem _ (List.mem_cons_of_mem _ mz))) h1 ((List.pairwise_cons.mp p).1 z mz)
theorem sort_pair {ys : List Str} (m : ∀ y ∈ ys, y ∈ nmL) (h : sortedS ys = true) : ys.Pairwise fun a b => leS a b = true := by
  cases ys with
  | nil => exact .nil
  | cons x ys => exact rise_pair m h
theorem sort_one {xs ys zs : List Str} (m : ∀ x ∈ xs, x ∈ nmL) (py : ys.Perm xs) (sy : sortedS ys = true) (pz : zs.Perm xs) (sz : sortedS zs = true) : ys = zs := by
  have my : ∀ y ∈ ys, y ∈ nmL := fun y h => m y (py.mem_iff.mp h)
  have mz : ∀ y ∈ zs, y ∈ nmL := fun y h => m y (pz.mem_iff.mp h)
  exact (py.trans pz.symm).eq_of_pairwise (le := fun a b => leS a b = true) (fun x y hx hy p q => nm_anti x (my x hx) y (mz y hy) p q) (sort_pair my sy) (sort_pair mz sz)
theorem good_nm {p : Int} {cells : Nat} {W : SumZ} (c8 : cells ≤ 8) (gw : GoodW p cells W) : ∀ x ∈ W.map (·.1), x ∈ nmL := by
  intro x m
  obtain ⟨q, mq, rfl⟩ := List.mem_map.mp m
  rcases keys_of (gw.1 q mq).2.2 with e | ⟨c, hc, e⟩
  · rw [e]
    exact List.mem_cons_self
  · rw [e]
    exact List.mem_cons_of_mem _ (List.mem_map.mpr ⟨c, List.mem_range.mpr (by omega), rfl⟩)
theorem show_bl {H : Hp} {Q : VK} (b : Bool) (q : Q (.str (PyData.bool b).shown) H) : rShow [.bl b] H Q := ⟨.bl b, .bool b, 0, rfl, Sho.bl b, rfl, by rw [PyData.depth]; decide, by cases b <;> decide +kernel, q⟩
theorem show_val {n : Nat} {H : Hp} {v : V} {d : PyData} {Q : VK} (sh : Sho n H v d) (ok : ValOk d) (q : Q (.str d.shown) H) : rShow [v] H Q := by
  obtain ⟨x1, x2, x3⟩ := val_show ok
  exact ⟨v, d, n, rfl, sh, x1, x2, x3, q⟩
theorem rows_shaped {rs : List StA.R} (h : ∀ e ∈ rs.map rwD, RowOk e) : SeqAt.shaped (.list (rs.map rwD)) = true := shaped_list fun e m => rowOk_okN (h e m)
def spRgt : Sp := fun vs H Q _ => ∃ (a : Addr) (n : Nat), vs = [.ref a] ∧ Pur H a n ∧ n ≤ 500000 ∧ ∀ H', But a H H' → Q (.bl true) H'
abbrev sRgt : Stmt := topS 64
abbrev nRgt : List Str := ["_law_purse_here", "_law_prime_here", "_law_cells", "_law_names", "_law_wanted", "_law_name", "_law_noted", "_law_rows", "_law_turned", "_law_value", "_law_due_here", "_law_kept", "_law_cell", "_law_turn"]
theorem scRgt : FnScope nRgt ["_law_purse_here"] (defScope sRgt) := ⟨rfl, rfl, rfl, by decide +kernel, rfl, by decide +kernel, by decide +kernel⟩
-- cells {'_law_cells', '_law_prime_here', '_law_purse_here'}
section
variable {P : Program} {w : World} {K : PySem.W.Frag} {mg : Str → Option Value} {base : Heap}
theorem ok_rgt {f fLdraw fLprime fLshuffled fstraight fare_straight fLdue fLbent fLdrawn_rows : Addr} {fd fdLdraw fdLprime fdLshuffled fdstraight fdare_straight fdLdue fdLbent fdLdrawn_rows : FuncData} (F : Fun K "_law_right" "_law_right" sRgt f fd)
    (FLdraw : Fun K "_law_draw" "_law_draw" sDraw fLdraw fdLdraw) (GLdraw : FnOk P w K mg base CX0 2 fLdraw fdLdraw ["_law_purse_here", "_law_many"] spDraw) (gLdraw : mg "_law_draw" = some (.ref fLdraw))
    (FLprime : Fun K "_law_prime" "_law_prime" sPrL fLprime fdLprime) (GLprime : FnOk P w K mg base CX0 4 fLprime fdLprime ["_law_purse_here"] spPrL) (gLprime : mg "_law_prime" = some (.ref fLprime))
    (FLshuffled : Fun K "_law_shuffled" "_law_shuffled" sShuf fLshuffled fdLshuffled) (GLshuffled : FnOk P w K mg base CX0 3 fLshuffled fdLshuffled ["_law_purse_here", "_law_some"] spShuf) (gLshuffled : mg "_law_shuffled" = some (.ref fLshuffled))
    (Fstraight : Fun K "straight" "straight" sStr fstraight fdstraight) (Gstraight : FnOk P w K mg base CX0 7 fstraight fdstraight ["prime", "cells", "wanted"] spStr) (gstraight : mg "straight" = some (.ref fstraight))
    (Fare_straight : Fun K "are_straight" "are_straight" sAre fare_straight fdare_straight) (Gare_straight : FnOk P w K mg base CX0 7 fare_straight fdare_straight ["prime", "cells", "wanted", "value"] spAre) (gare_straight : mg "are_straight" = some (.ref fare_straight))
    (FLdue : Fun K "_law_due" "_law_due" sDue fLdue fdLdue) (GLdue : FnOk P w K mg base CX0 3 fLdue fdLdue ["_law_prime_here", "_law_cells", "_law_wanted", "_law_value"] spDue) (gLdue : mg "_law_due" = some (.ref fLdue))
    (FLbent : Fun K "_law_bent" "_law_bent" sBent fLbent fdLbent) (GLbent : FnOk P w K mg base CX0 3 fLbent fdLbent ["_law_purse_here", "_law_prime_here", "_law_cells", "_law_rows"] spBent) (gLbent : mg "_law_bent" = some (.ref fLbent))
    (FLdrawn_rows : Fun K "_law_drawn_rows" "_law_drawn_rows" sDrn fLdrawn_rows fdLdrawn_rows) (GLdrawn_rows : FnOk P w K mg base CX0 4 fLdrawn_rows fdLdrawn_rows ["_law_purse_here", "_law_prime_here", "_law_cells"] spDrn) (gLdrawn_rows : mg "_law_drawn_rows" = some (.ref fLdrawn_rows)) (gList : mg "list" = none) (gRange : mg "range" = none) (gRepr : mg "repr" = none) (gStr : mg "str" = none) (gDict : mg "dict" = none) (gReversed : mg "reversed" = none) (sy : SysIn K) :
    FnG P w K mg base 9 f fd ["_law_purse_here"] spRgt := by
  have bLdraw : Binds K fdLdraw ["_law_purse_here", "_law_many"] [] := FLdraw.binds fun _ _ _ _ _ _ us hl => match us, hl with | [_, _], _ => rfl
  have bLprime : Binds K fdLprime ["_law_purse_here"] [] := FLprime.binds fun _ _ _ _ _ _ us hl => match us, hl with | [_], _ => rfl
  have bLshuffled : Binds K fdLshuffled ["_law_purse_here", "_law_some"] [] := FLshuffled.binds fun _ _ _ _ _ _ us hl => match us, hl with | [_, _], _ => rfl
  have bstraight : Binds K fdstraight ["prime", "cells", "wanted"] [] := Fstraight.binds fun _ _ _ _ _ _ us hl => match us, hl with | [_, _, _], _ => rfl
  have bare_straight : Binds K fdare_straight ["prime", "cells", "wanted", "value"] [] := Fare_straight.binds fun _ _ _ _ _ _ us hl => match us, hl with | [_, _, _, _], _ => rfl
  have bLdue : Binds K fdLdue ["_law_prime_here", "_law_cells", "_law_wanted", "_law_value"] [] := FLdue.binds fun _ _ _ _ _ _ us hl => match us, hl with | [_, _, _, _], _ => rfl
  have bLbent : Binds K fdLbent ["_law_purse_here", "_law_prime_here", "_law_cells", "_law_rows"] [] := FLbent.binds fun _ _ _ _ _ _ us hl => match us, hl with | [_, _, _, _], _ => rfl
  have bLdrawn_rows : Binds K fdLdrawn_rows ["_law_purse_here", "_law_prime_here", "_law_cells"] [] := FLdrawn_rows.binds fun _ _ _ _ _ _ us hl => match us, hl with | [_, _, _], _ => rfl
  refine fnG_of F scRgt (fun vs H Q h => ?_) (fun cdv A below s0 H vs Q hgd hr h => ?_)
  · obtain ⟨a, n, rfl, _⟩ := h
    rfl
  · obtain ⟨a, n, rfl, hp, nn, want⟩ := h
    refine ⟨_, (pss_cons (ps_asg (pe_tup (pa_cons (pe_call GLprime (hr.mono (by decide)) rfl gLprime FLprime.kp bLprime .nil pass0 (pa_cons (pv 0) pa_nil)) (pa_cons (pe_call GLdraw (hr.mono (by decide)) rfl gLdraw FLdraw.kp bLdraw .nil pass0 (pa_cons (pv 0) (pa_cons pe_int pa_nil))) pa_nil))) (pg_tup rfl (pgs_cons (pg_name (i := 1) scRgt.nd rfl (Or.inr rfl)) (pgs_cons (pg_name (i := 2) scRgt.nd rfl (Or.inr rfl)) pgs_nil))))
      (pss_cons (ps_setLc (i := 3) (own := [("_law_cell", 12)]) (g := (gName 12)) (tt := tYes) rfl scRgt.nd rfl rfl (sw_true rfl rfl rfl (by decide +kernel)) (pi_range1 rfl gRange (pa_cons (pv 2) pa_nil)) (blkOk_by (N := nRgt) (sc := defScope sRgt) (by decide +kernel)) (fun _ _ _ _ _ => pg_name (i := 12) scRgt.nd rfl (Or.inl rfl)) (fun _ _ _ _ _ => pts_nil) (fun _ _ _ _ _ => (pe_op op_add_str pe_str (pe_callTy call_str_int (by rfl) gStr boot_strT (pa_cons (pv 12) pa_nil)))))
      (pss_cons (ps_set (i := 4) scRgt.nd rfl (Or.inl rfl) pe_dnewK)
      (pss_cons (ps_for PassesOwn.never rfl (pi_list (pe_slice sl_list (pe_call GLshuffled (hr.mono (by decide)) rfl gLshuffled FLshuffled.kp bLshuffled .nil pass0 (pa_cons (pv 0) (pa_cons (pe_op op_cat (pv 3) (pe_lst (pa_cons pe_str pa_nil))) pa_nil))) po_none (po_some (pe_call GLdraw (hr.mono (by decide)) rfl gLdraw FLdraw.kp bLdraw .nil pass0 (pa_cons (pv 0) (pa_cons pe_int pa_nil)))))) (pg_name (i := 5) scRgt.nd rfl (Or.inl rfl))
        (pss_one (ps_dput (hu_of hr) (pv 4) (pv 5) (pe_op op_add pe_int (pe_call GLdraw (hr.mono (by decide)) rfl gLdraw FLdraw.kp bLdraw .nil pass0 (pa_cons (pv 0) (pa_cons (pe_op op_sub (pv 1) pe_int) pa_nil)))) rfl)))
      (pss_cons (ps_par (i := 6) (j := 7) (by rfl) scRgt.nd rfl rfl (by decide) rfl rfl (pa_cons (pe_callB (cr_showS hgd hr.units) (by rfl) gRepr boot_repr (pa_cons (pv 4) pa_nil)) (pa_cons (pe_call Gstraight (hr.mono (by decide)) rfl gstraight Fstraight.kp bstraight .nil pass0 (pa_cons (pv 1) (pa_cons (pv 2) (pa_cons (pv 4) pa_nil)))) pa_nil)) (by rfl))
      (pss_cons (ps_if (PW.pt (pw_or (pt_not (pt_val (pe_call GLdue (hr.mono (by decide)) rfl gLdue FLdue.kp bLdue .nil pass0 (pa_cons (pv 1) (pa_cons (pv 2) (pa_cons (pv 4) (pa_cons (pv 7) pa_nil))))))) (pw_or1 (pt_cmpR op_isnot_bl (pe_call Gare_straight (hr.mono (by decide)) rfl gare_straight Fare_straight.kp bare_straight .nil pass0 (pa_cons (pv 1) (pa_cons (pv 2) (pa_cons (pv 4) (pa_cons (pv 7) pa_nil))))) pe_bl (nomark _)))))
        (pss_one (ps_ret pe_bl))
        pss_nil)
      (pss_cons (ps_set (i := 8) scRgt.nd rfl (Or.inl rfl) (pe_call Gstraight (hr.mono (by decide)) rfl gstraight Fstraight.kp bstraight .nil pass0 (pa_cons (pv 1) (pa_cons (pv 2) (pa_cons (pe_dictRev rfl (by rfl) gDict (by rfl) gReversed (by rfl) gList (pe_bm0 PySem.F.plainAttrs_dict PySem.F.slot_dict_items PySem.F.type_dict_items mt_items (pv 4))) pa_nil)))))
      (pss_cons (ps_if (PW.pt (pw_or (pt_not (pt_val (pe_call GLdue (hr.mono (by decide)) rfl gLdue FLdue.kp bLdue .nil pass0 (pa_cons (pv 1) (pa_cons (pv 2) (pa_cons (pv 4) (pa_cons (pv 8) pa_nil))))))) (pw_or1 (pt_cmpR op_ne (pe_callB (cr_showS hgd hr.units) (by rfl) gRepr boot_repr (pa_cons (pv 4) pa_nil)) (pv 6) (nomark _)))))
        (pss_one (ps_ret pe_bl))
        pss_nil)
      (pss_cons (ps_for PassesOwn.never rfl (pi_list (pe_op op_cat (pe_call GLbent (hr.mono (by decide)) rfl gLbent FLbent.kp bLbent .nil pass0 (pa_cons (pv 0) (pa_cons (pv 1) (pa_cons (pv 2) (pa_cons (pv 7) pa_nil))))) (pe_lc (own := [("_law_turn", 13)]) (g := (gName 13)) (tt := tYes) rfl scRgt.nd (pi_range1 rfl gRange (pa_cons pe_int pa_nil)) (blkOk_by (N := nRgt) (sc := defScope sRgt) (by decide +kernel)) (fun _ _ _ _ _ => pg_name (i := 13) scRgt.nd rfl (Or.inl rfl)) (fun _ _ _ _ _ => pts_nil) (fun _ _ _ _ _ => (pe_call GLdrawn_rows (hr.mono (by decide)) rfl gLdrawn_rows FLdrawn_rows.kp bLdrawn_rows .nil pass0 (pa_cons (pv 0) (pa_cons (pv 1) (pa_cons (pv 2) pa_nil)))))))) (pg_name (i := 9) scRgt.nd rfl (Or.inl rfl))
        (pss_cons (ps_par (i := 10) (j := 11) (by rfl) scRgt.nd rfl rfl (by decide) rfl rfl (pa_cons (pe_call GLdue (hr.mono (by decide)) rfl gLdue FLdue.kp bLdue .nil pass0 (pa_cons (pv 1) (pa_cons (pv 2) (pa_cons (pv 4) (pa_cons (pv 9) pa_nil))))) (pa_cons (pe_callB (call_repr hgd hr.units sy) (by rfl) gRepr boot_repr (pa_cons (pv 9) pa_nil)) pa_nil)) (by rfl))
          (pss_one (ps_if (PW.pt (pw_or (pt_cmpR op_ne (pe_callB (call_repr hgd hr.units sy) (by rfl) gRepr boot_repr (pa_cons (pe_call Gare_straight (hr.mono (by decide)) rfl gare_straight Fare_straight.kp bare_straight .nil pass0 (pa_cons (pv 1) (pa_cons (pv 2) (pa_cons (pv 4) (pa_cons (pv 9) pa_nil))))) pa_nil)) (pe_callB (call_repr hgd hr.units sy) (by rfl) gRepr boot_repr (pa_cons (pv 10) pa_nil)) (nomark _)) (pw_or1 (pt_cmpR op_ne (pe_callB (call_repr hgd hr.units sy) (by rfl) gRepr boot_repr (pa_cons (pv 9) pa_nil)) (pv 11) (nomark _)))))
            (pss_one (ps_ret pe_bl))
            pss_nil))))
      (pss_cons (ps_set (i := 11) scRgt.nd rfl (Or.inl rfl) (pe_callTy call_list_of (by rfl) gList boot_list2 (pa_cons (pv 7) pa_nil)))
      (pss_cons (ps_expr (pe_bm PySem.F.plainAttrs_list PySem.F.slot_list_append PySem.F.type_list_append mt_append (pv 7) (pa_cons pe_non pa_nil)))
      (pss_one (ps_ret (pe_cmpR (op_eqD hr.units) (pe_call Gstraight (hr.mono (by decide)) rfl gstraight Fstraight.kp bstraight .nil pass0 (pa_cons (pv 1) (pa_cons (pv 2) (pa_cons (pv 4) pa_nil)))) (pv 11) (nomark _))))))))))))))), ?_⟩
    refine ⟨_, rfl, a, n, rfl, hp, by omega, fun H1 p mp b1 hp1 => ?_⟩
    refine ⟨_, rfl, a, 9, n + 1, rfl, by decide, by decide, hp1, by omega, fun H2 c c0 c1 b2 hp2 => ⟨by show 2 ≤ sizeLine; decide, fun t ht => ?_⟩⟩
    obtain ⟨cells, rfl⟩ : ∃ k : Nat, c = (k : Int) := ⟨c.toNat, by omega⟩
    have c8 : cells ≤ 8 := by omega
    clear c0 c1
    have p2 := good_two p mp
    refine ⟨t, _, rfl, SqT.of upd_same, rfl, _, _, rfl, _, _, rfl, rfl, ?_⟩
    have st := same_new (o := .tup [V.int p, V.int (cells : Int)]) ht
    have hp3 := hp2.same st
    have b3 : But a H (upd H2 t (.tup [V.int p, V.int (cells : Int)])) := (b1.trans b2).trans (but_same st)
    generalize upd H2 t (.tup [V.int p, V.int (cells : Int)]) = H3 at hp3 b3
    clear st ht t hp2 b2 hp1 b1
    -- names
    refine ⟨_, rfl, (cells : Int), rfl, by omega, by omega, fun N hN => ?_⟩
    rw [Int.toNat_natCast]
    refine lc_range (lo := 0) (n := cells) (fun k H' => GrowS H3 N ((List.range cells).map cellS) k H') (GrowS.start hN) ?_ ?_
    · intro k H4 hk g
      have hx : ((List.range cells).map cellS)[k]? = some (cellS k) := by
        rw [List.getElem?_map, List.getElem?_range hk]
        rfl
      have et : ("@0." : Str) ++ (toString (0 + (k : Int)) : Str) = cellS k := by
        rw [Int.zero_add]
        exact cell_text k
      have cl := cell_len k (by omega)
      refine ⟨rfl, tyes ⟨_, rfl, _, rfl, ?_, _, _, rfl, rfl, ?_, ?_⟩⟩
      · have : (0 + (k : Int)).natAbs.log2 < 4 := by
          by_cases z : (0 + (k : Int)).natAbs = 0
          · rw [z]
            decide
          · exact (Nat.log2_lt z).mpr (by omega)
        omega
      · have z2 : (("@0." : Str) ++ (toString (0 + (k : Int)) : Str)).length = ("@0." : Str).length + (toString (0 + (k : Int)) : Str).length := PySem.Str.length_append _ _
        rw [← z2, et, sizeLine_eq]
        omega
      · rw [et]
        obtain ⟨acc, h1, h2, h3⟩ := GrowS.step hN g same_rfl hx
        exact ⟨acc, h1, by rw [sizeLine_eq]; omega, h3⟩
    intro H4 g
    obtain ⟨s4, hN4⟩ := g.done (by rw [List.length_map, List.length_range]; exact Nat.le_refl _)
    clear g
    have hp4 := hp3.same s4
    have b4 : But a H H4 := b3.trans (but_same s4)
    have nNa : N ≠ a := (hp3.ne hN).symm
    clear hN s4 hp3 b3
    -- the sum
    refine fun d hd => ?_
    have nda : d ≠ a := (hp4.ne hd).symm
    have hdH : H d = none := but_free b4 nda hd
    have s5 := same_new (o := .dK []) hd
    have hN5 := s5 _ _ hN4
    have hp5 := hp4.same s5
    have b5 : But a H (upd H4 d (.dK [])) := b4.trans (but_same s5)
    have hd5 : (upd H4 d (.dK [])) d = some (.dK (kvsZ [])) := upd_same
    generalize upd H4 d (.dK []) = H5 at hN5 hp5 b5 hd5
    clear s5 hd b4 hp4 hN4
    refine ⟨_, rfl, _, rfl, by show 1 ≤ sizeLine; decide, fun e he => ⟨N, e, _, _, rfl, rfl, same_new he _ _ hN5, upd_same, by rw [List.length_map, List.length_map, List.length_range, sizeLine_eq]; show cells + 1 ≤ _; omega, fun f hf => ?_⟩⟩
    have ek : ((List.range cells).map cellS).map V.str ++ [V.str ""] = (keysZ cells).map V.str := by
      unfold keysZ
      rw [List.map_append]
      rfl
    rw [ek]
    have s6 := same_trans (same_new (o := .lst [V.str ""]) he) (same_new (o := .lst ((keysZ cells).map V.str)) hf)
    have hp6 := hp5.same s6
    have nfa : f ≠ a := ((hp5.same (same_new he)).ne hf).symm
    refine ⟨a, f, n + 2, keysZ cells, rfl, hp6, by omega, upd_same, nfa, by rw [keys_len]; omega, fun H7 y ys b7 hp7 hy perm hy7 => ?_⟩
    rw [keys_len] at hp7
    have b57 : But a H5 H7 := (but_same s6).trans b7
    have hd7 : H7 d = some (.dK (kvsZ [])) := b57 d nda _ hd5
    refine ⟨_, rfl, a, 5, n + 2 + (cells + 1), rfl, by decide, by decide, hp7, by omega, fun H8 k k0 k1 b8 hp8 => ⟨_, rfl, ?_⟩⟩
    obtain ⟨j, rfl⟩ : ∃ j : Nat, k = (j : Int) := ⟨k.toNat, by omega⟩
    have nya : y ≠ a := (hp6.ne hy).symm
    have hy8 : H8 y = some (.lst (ys.map V.str)) := b8 y nya _ hy7
    have hd8 : H8 d = some (.dK (kvsZ [])) := b8 d nda _ hd7
    have b8H : But a H H8 := b5.trans (b57.trans b8)
    refine ⟨y, _, rfl, SqL.of hy8, fun z hz => ?_⟩
    have ec : cutV (ys.map V.str) none (some (j : Int)) = (ys.take j).map V.str := by
      rw [cut_take, List.map_take]
    rw [ec]
    have nza : z ≠ a := (hp8.ne hz).symm
    have s9 := same_new (o := .lst ((ys.take j).map V.str)) hz
    have nd_ys : ys.Nodup := perm.nodup_iff.mpr (by
      have := keyV_nd cells (by omega)
      unfold keyV at this
      exact (List.nodup_append.mp this).2.1)
    have nzs : (ys.take j).Nodup := (List.take_sublist j ys).nodup nd_ys
    have mzs : ∀ x ∈ ys.take j, x ∈ keysZ cells := fun x m => perm.mem_iff.mp (List.mem_of_mem_take m)
    have lzs : (ys.take j).length ≤ 4 := by
      rw [List.length_take]
      omega
    refine ⟨z, rfl, ⟨_, SqL.of upd_same⟩, ?_⟩
    generalize ys.take j = zs at nzs mzs lzs s9
    have hp9 := (hp8.same s9).mono (m := n + 20) (by omega)
    have hd9 := s9 _ _ hd8
    have hz9 : (upd H8 z (.lst (zs.map V.str))) z = some (.lst (zs.map V.str)) := upd_same
    have b9 : But a H (upd H8 z (.lst (zs.map V.str))) := b8H.trans (but_same s9)
    generalize upd H8 z (.lst (zs.map V.str)) = H9 at hp9 hd9 hz9 b9
    clear s9 hz hd8 hy8 b8H b8 hp8 b57 b7 hp7 hy perm hy7 hd7 hp6 s6 hf he hN5 hp5 b5 hd5 ek ec nd_ys k0 k1
    have nzd : z ≠ d := fun e => by
      rw [e, hd9] at hz9
      cases hz9
    refine for_list (xs := zs.map V.str) (fun k σ H' => (∀ b o, b ≠ a → b ≠ d → H9 b = some o → H' b = some o) ∧ Pur H' a (n + 20 + k) ∧ (∃ u5 : Option V, σ = [some (.ref a), some (.int p), some (.int (cells : Int)), some (.ref N), some (.ref d), u5, none, none, none, none, none, none, none, none]) ∧
      ∃ W : SumZ, H' d = some (.dK (kvsZ W)) ∧ W.map (·.1) = zs.take k ∧ ∀ q ∈ W, 0 < q.2 ∧ q.2 < p) ⟨fun _ _ _ _ e => e, hp9, ⟨_, rfl⟩, [], hd9, rfl, fun q m => by cases m⟩ (fun k σ H' _ z' => SqL.of (z'.1 z _ nza nzd hz9)) ?_ ?_
    · rintro k x σ H10 hx ⟨k10, hp10, ⟨u5, rfl⟩, W, hd10, eW, rW⟩
      rw [List.getElem?_map] at hx
      obtain ⟨nm, hnm, rfl⟩ := Option.map_eq_some_iff.mp hx
      have lk := (List.getElem?_eq_some_iff.mp hnm).1
      refine ⟨_, rfl, _, rfl, _, _, rfl, rfl, a, p - 1, n + 20 + k, rfl, by omega, by omega, hp10, by omega, fun H11 r r0 r1 b11 hp11 => ⟨_, _, rfl, rfl, ?_⟩⟩
      have hd11 : H11 d = some (.dK (kvsZ W)) := b11 d nda _ hd10
      have lW : W.length ≤ 4 := by
        have := congrArg List.length eW
        rw [List.length_map, List.length_take] at this
        omega
      have fresh : nm ∉ W.map (·.1) := fun m => by
        rw [eW] at m
        obtain ⟨i, hi, ei⟩ := List.mem_iff_getElem.mp m
        rw [List.length_take] at hi
        rw [List.getElem_take] at ei
        obtain ⟨_, ek⟩ := List.getElem?_eq_some_iff.mp hnm
        exact List.pairwise_iff_getElem.mp nzs i k (by omega) lk (by omega) (by rw [ei, ek])
      refine ⟨_, rfl, _, rfl, d, _, rfl, DPut.k (k := Sum.inr nm) hd11 (by unfold kvsZ; rw [List.length_map, sizeLine_eq]; omega), ?_⟩
      have ep : putK (kvsZ W) (Sum.inr nm : Key) (V.int (1 + r)) = kvsZ (W ++ [(nm, 1 + r)]) := put_new fresh
      refine ⟨fun b o na nd' e => by rw [upd_ne nd']; exact b11 b na _ (k10 b o na nd' e), pur_upd hp11 nda, ⟨_, rfl⟩, W ++ [(nm, 1 + r)], ?_, ?_, fun q m => ?_⟩
      · rw [← ep, upd_same]
      · rw [List.map_append, eW, List.take_add_one, hnm]
        rfl
      · rcases List.mem_append.mp m with m | m
        · exact rW q m
        · rw [List.mem_singleton.mp m]
          exact ⟨by show 0 < 1 + r; omega, by show 1 + r < p; omega⟩
    rintro σ H10 ⟨k10, hp10, ⟨u5, rfl⟩, W, hd10, eW, rW⟩
    rw [List.length_map, List.take_length] at eW
    rw [List.length_map] at hp10
    have b10 : But a H H10 := fun b nb o e => k10 b o nb (fun q => by rw [q, hdH] at e; cases e) (b9 b nb o e)
    have hp10 := hp10.mono (m := n + 30) (by omega)
    have lW : W.length ≤ 4 := by
      have := congrArg List.length eW
      rw [List.length_map] at this
      omega
    have gw : GoodW p cells W := by
      refine ⟨fun q m => ⟨(rW q m).1, (rW q m).2, mzs _ ?_⟩, by rw [eW]; exact nzs, by omega⟩
      rw [← eW]
      exact List.mem_map.mpr ⟨q, m, rfl⟩
    have few := few_good p2.2 c8 gw
    have hd10 : Dct H10 d W := hd10
    clear k10 eW rW hp9 hd9 hz9 b9 nzd nzs mzs lzs nza nya nfa
    -- the rows
    refine ⟨_, rfl, d, W, rfl, hd10, few, ?_⟩
    refine ⟨_, rfl, _, rfl, _, rfl, p, cells, d, W, rfl, mp, c8, hd10, gw, fun H11 rd ts ys1 s11 nrd pm1 st1 hrd hR => tn ⟨_, _, rfl, ?_⟩⟩
    have hd11 : Dct H11 d W := s11 _ _ hd10
    have hp11 := hp10.same s11
    have b11 : But a H H11 := b10.trans (but_same s11)
    have nra : rd ≠ a := (hp10.ne nrd).symm
    have nrdd : rd ≠ d := fun e => by
      have z : H10 d = some _ := hd10
      rw [e, z] at nrd
      cases nrd
    have fit1 := reck_fits p2.1 c8 gw pm1
    have ly1 : ys1.length ≤ 4 := by
      have := pm1.length_eq
      rw [List.length_map] at this
      omega
    have rl := reck_len W ys1
    have sho1 := rows_sho hp11 nra hrd hR
    have ok1 : ∀ e ∈ (reckR W ys1).map rwD, RowOk e := fun e m => by
      obtain ⟨r, mr, rfl⟩ := List.mem_map.mp m
      exact fit_row p2.2 c8 (fit1 r mr)
    have val1 : ValOk (.list ((reckR W ys1).map rwD)) := fits_val p2.2 c8 fit1 (by omega)
    have due1 := due_reck p2.1 c8 gw pm1
    refine ⟨_, rfl, _, rfl, _, rfl, _, rfl, p, cells, d, W, .ref rd, _, 2, rfl, p2.1, p2.2, c8, hd11, sho1.mono msk_le, val1, fun H12 s12 => ⟨_, rfl, ?_⟩⟩
    rw [due1]
    refine iteF ?_
    have hd12 : Dct H12 d W := s12 _ _ hd11
    refine ⟨_, rfl, _, rfl, _, rfl, _, rfl, p, cells, d, W, .ref rd, _, 2, rfl, mp, c8, hd12, gw, (sho1.mono msk_le).up s12, val1, fun H13 s13 => ⟨_, true, rfl, rfl, _, rfl, ?_⟩⟩
    rw [due1]
    refine iteF ?_
    have s1113 := same_trans s12 s13
    have hd13 : H13 d = some (.dK (kvsZ W)) := s13 _ _ hd12
    -- turned round
    refine ⟨_, rfl, _, rfl, _, rfl, .inr (.inr (.inl ⟨rfl, .inl ⟨_, hd13⟩⟩)), d, _, rfl, rfl, hd13, fun pv hpv => ?_⟩
    have sv := same_new (o := vwO "dict_items" pv d) hpv
    refine ⟨pv, d, _, rfl, upd_same, sv _ _ hd13, fun q hq => ?_⟩
    rw [kvs_rev]
    have sq := same_new (o := .dK (kvsZ W.reverse)) hq
    refine ⟨p, cells, q, W.reverse, rfl, mp, c8, upd_same, good_rev gw, fun H14 rt ts2 ys2 s14 nrt pm2 st2 hrt hR2 => ?_⟩
    have s1314 := same_trans sv (same_trans sq s14)
    have s1114 := same_trans s1113 s1314
    have hd14 : Dct H14 d W := s1114 _ _ hd11
    have hp14 := hp11.same s1114
    have nta : rt ≠ a := (hp11.ne (s1113.free (sv.free (sq.free nrt)))).symm
    have fit2 := reck_fits p2.1 c8 (good_rev gw) pm2
    have ly2 : ys2.length ≤ 4 := by
      have := pm2.length_eq
      rw [List.length_map, List.length_reverse] at this
      omega
    have rl2 := reck_len W.reverse ys2
    have sho2 := rows_sho hp14 nta hrt hR2
    have val2 : ValOk (.list ((reckR W.reverse ys2).map rwD)) := fits_val p2.2 c8 fit2 (by omega)
    have due2 : dueB p cells W (.list ((reckR W.reverse ys2).map rwD)) = true := by
      rw [← due_same (W := W.reverse) (V := W) (fac_rev gw.2.1)]
      exact due_reck p2.1 c8 (good_rev gw) pm2
    refine ⟨_, rfl, _, rfl, _, rfl, _, rfl, p, cells, d, W, .ref rt, _, 2, rfl, p2.1, p2.2, c8, hd14, sho2.mono msk_le, val2, fun H15 s15 => ⟨_, rfl, ?_⟩⟩
    rw [due2]
    refine iteF ?_
    have s1115 := same_trans s1114 s15
    have hd15 : Dct H15 d W := s15 _ _ hd14
    refine ⟨_, rfl, d, W, rfl, hd15, few, _, rfl, rfl, _, rfl, ?_⟩
    rw [decide_eq_true rfl]
    refine iteF ?_
    have hp15 := hp11.same s1115
    have b15 : But a H H15 := b11.trans (but_same s1115)
    have hrd15 := s1115 _ _ hrd
    have hR15 := hR.up s1115
    have sho15 := sho1.up (msk_same s1115)
    clear due2 val2 sho2 fit2 rl2 ly2 nta hp14 hd14 s1114 s1314 hrt hR2 nrt s14 sq hq sv hpv hd13 s1113 s13 s12 hd12 s1115 hd11 hp11 b11 hrd hR sho1 due1
    refine ⟨_, rfl, _, rfl, _, rfl, _, rfl, a, rd, p, cells, n + 30, reckR W ys1, rfl, p2.1, p2.2, c8, hp15, by omega, fit1, rl.1, by omega, sho15, fun H16 l1 vs1 ds1 b1516 hp16 nl1 hl1 ps1 okd1 ld1 => ?_⟩
    have b16 : But a H H16 := b15.trans b1516
    have nl1a : l1 ≠ a := (hp15.ne nl1).symm
    have hd16 : Dct H16 d W := b1516 d nda _ hd15
    have hrd16 : H16 rd = some (.lst (ts.map V.ref)) := b1516 rd nra _ hrd15
    have hR16 := rows_but hR15 hp15 b1516
    clear sho15 hR15 hrd15 b15 hp15 hd15
    refine ⟨4, rfl, by decide, by decide, fun D hD => ?_⟩
    have nDa : D ≠ a := (hp16.ne hD).symm
    have hDH : H D = none := but_free b16 nDa hD
    refine lc_range (lo := 0) (n := 4) (fun k H' => But a H16 H' ∧ Pur H' a (n + 38 + 20 * k) ∧ ∃ (vs : List V) (ds : List PyData), H' D = some (.lst vs) ∧ vs.length = k ∧ Paired (Sho 4 (msk D (msk a H'))) vs ds ∧ ∀ e ∈ ds, ValOk e) ⟨but_same (same_new hD), hp16.same (same_new hD), [], [], upd_same, rfl, .nil, fun e m => by cases m⟩ ?_ ?_
    · rintro k H17 hk ⟨b17, hp17, vs, ds, hD17, lvs, ps, okd⟩
      refine ⟨rfl, tyes ?_⟩
      refine ⟨_, rfl, _, rfl, _, rfl, a, p, cells, n + 38 + 20 * k, rfl, p2.1, p2.2, c8, hp17, by omega, fun H18 dd tsd rsd b18 hp18 ndd hdd hRd lrd => ?_⟩
      have hD18 : H18 D = some (.lst vs) := b18 D nDa _ hD17
      have nDd : dd ≠ D := fun e => by
        rw [e, hD17] at ndd
        cases ndd
      have nda2 : dd ≠ a := (hp17.ne ndd).symm
      have up2 : ∀ {c : Addr} {o : HO} {u : HO}, msk D (msk a H17) c = some o → msk D (msk a (upd H18 D u)) c = some o := fun {c o u} e => by
        have n1 := ne_msk e
        rw [msk_ne n1] at e
        have n2 := ne_msk e
        rw [msk_ne n2] at e
        rw [msk_ne n1, msk_ne n2, upd_ne n1]
        exact b18 c n2 _ e
      have tup2 : ∀ t xs, H18 t = some (.tup xs) → ∀ u, msk D (msk a (upd H18 D u)) t = some (.tup xs) := fun t xs e u => by
        have n1 : t ≠ D := fun z => by
          rw [z, hD18] at e
          cases e
        have z := pur_tup hp18 e
        have n2 := ne_msk z
        rw [msk_ne n1, msk_ne n2, upd_ne n1]
        exact e
      refine ⟨vs, hD18, by rw [lvs, sizeLine_eq]; omega, but_set (b17.trans b18) nDa hD, pur_upd (hp18.mono (by omega)) nDa, vs ++ [.ref dd], ds ++ [.list (rsd.map rwD)], upd_same, by rw [List.length_append, lvs]; rfl, ?_, fun e m => ?_⟩
      · refine paired_app (L2.Paired.mapP ps fun _ _ z => z.mono fun c o e => up2 e) (.cons ?_ .nil)
        refine Sho.lift (m := 2) (Sho.lst ?_ (rows_pair (fun t xs e => tup2 t xs e _) hRd)) 4 (by decide)
        rw [msk_ne nDd, msk_ne nda2, upd_ne nDd]
        exact hdd
      · rcases List.mem_append.mp m with m | m
        · exact okd e m
        · rw [List.mem_singleton.mp m]
          exact fits_val p2.2 c8 (rows_fit hRd) (by omega)
    rintro H17 ⟨b17, hp17, vs2, ds2, hD17, lvs2, ps2, okd2⟩
    have hl17 : H17 l1 = some (.lst vs1) := b17 l1 nl1a _ hl1
    have lv1 := paired_len ps1
    refine ⟨l1, D, _, _, rfl, rfl, hl17, hD17, by rw [lv1, lvs2, sizeLine_eq]; omega, fun l3 hl3 => ?_⟩
    have s18 := same_new (o := .lst (vs1 ++ vs2)) hl3
    have b18 : But a H (upd H17 l3 (.lst (vs1 ++ vs2))) := (b16.trans b17).trans (but_same s18)
    have hd18 : Dct (upd H17 l3 (.lst (vs1 ++ vs2))) d W := s18 _ _ (b17 d nda _ hd16)
    have hrd18 := s18 _ _ (b17 rd nra _ hrd16)
    have hR18 := (rows_but hR16 hp16 b17).up s18
    have ps18 : Paired (Sho 4 (upd H17 l3 (.lst (vs1 ++ vs2)))) (vs1 ++ vs2) (ds1 ++ ds2) := by
      refine paired_app (L2.Paired.mapP ps1 fun _ _ z => ?_) (L2.Paired.mapP ps2 fun _ _ z => ?_)
      · exact ((z.up (msk_but b17)).mono msk_le).up s18
      · exact ((z.mono msk_le).mono msk_le).up s18
    have okd18 : ∀ e ∈ ds1 ++ ds2, ValOk e := fun e m => by
      rcases List.mem_append.mp m with m | m
      · exact okd1 e m
      · exact okd2 e m
    have hl18 : (upd H17 l3 (.lst (vs1 ++ vs2))) l3 = some (.lst (vs1 ++ vs2)) := upd_same
    generalize upd H17 l3 (.lst (vs1 ++ vs2)) = H18 at b18 hd18 hrd18 hR18 ps18 hl18
    generalize vs1 ++ vs2 = vs at ps18 hl18
    generalize ds1 ++ ds2 = ds at ps18 okd18
    clear s18 hl3 lv1 hl17 hD17 lvs2 ps2 okd2 hp17 b17 hDH nDa hD hR16 hrd16 hd16 b16 ps1 hl1 nl1 okd1 ld1 hp16 b1516 nl1a
    have hd18 : H18 d = some (.dK (kvsZ W)) := hd18
    refine ⟨l3, rfl, ⟨_, SqL.of hl18⟩, ?_⟩
    refine for_list (xs := vs) (fun k σ H' => Same H18 H' ∧ ∃ u9 u10 u11 : Option V, σ = [some (.ref a), some (.int p), some (.int (cells : Int)), some (.ref N), some (.ref d), u5, some (.str (sumT W)), some (.ref rd), some (.ref rt), u9, u10, u11, none, none]) ⟨same_rfl, _, _, _, rfl⟩ (fun k σ H' _ z => SqL.of (z.1 _ _ hl18)) ?_ ?_
    · rintro k v σ H19 hv ⟨s19, u9, u10, u11, rfl⟩
      obtain ⟨e, he, se⟩ := paired_at ps18 hv
      have oke := okd18 e (List.mem_of_getElem? he)
      have se19 := se.up s19
      refine ⟨_, rfl, _, rfl, _, rfl, _, rfl, p, cells, d, W, v, e, 4, rfl, p2.1, p2.2, c8, s19 _ _ hd18, se19, oke, fun H20 s20 => ⟨_, rfl, tn (show_val (se19.up s20) oke (tn ⟨_, _, rfl, ?_⟩))⟩⟩
      have s1820 := same_trans s19 s20
      have se20 := se19.up s20
      refine ⟨_, rfl, _, rfl, _, rfl, _, rfl, p, cells, d, W, v, e, 4, rfl, mp, c8, s1820 _ _ hd18, gw, se20, oke, fun H21 s21 => tn (show_bl _ ⟨_, rfl, tn (show_bl _ ⟨rfl, _, rfl, ?_⟩)⟩)⟩
      rw [decide_eq_true rfl]
      refine iteF ⟨_, rfl, tn (show_val (se20.up s21) oke ⟨_, rfl, rfl, _, rfl, ?_⟩)⟩
      rw [decide_eq_true rfl]
      exact iteF ⟨same_trans s1820 s21, _, _, _, rfl⟩
    rintro σ H19 ⟨s19, u9, u10, u11, rfl⟩
    have b19 := b18.trans (but_same s19)
    have hrd19 := s19 _ _ hrd18
    have hR19 := hR18.up s19
    have hd19 := s19 _ _ hd18
    -- once more
    refine ⟨_, rfl, rd, _, rfl, .inl (SqL.of hrd19), fun kp hkp => ?_⟩
    have s20 := same_new (o := .lst (ts.map V.ref)) hkp
    have nkr : kp ≠ rd := fun e => by
      rw [e, hrd19] at hkp
      cases hkp
    refine ⟨_, rfl, .inl ⟨rfl, _, SqL.of (s20 _ _ hrd19)⟩, rd, _, _, rfl, rfl, s20 _ _ hrd19, by rw [List.length_map, paired_len hR19, sizeLine_eq]; omega, ?_⟩
    have hrdH : H rd = none := but_free b10 nra nrd
    have b21 : But a H (upd (upd H19 kp (.lst (ts.map V.ref))) rd (.lst (ts.map V.ref ++ [V.non]))) := but_set (b19.trans (but_same s20)) nra hrdH
    have hd21 : (upd (upd H19 kp (.lst (ts.map V.ref))) rd (.lst (ts.map V.ref ++ [V.non]))) d = some (.dK (kvsZ W)) := by
      rw [upd_ne (Ne.symm nrdd)]
      exact s20 _ _ hd19
    have hk21 : (upd (upd H19 kp (.lst (ts.map V.ref))) rd (.lst (ts.map V.ref ++ [V.non]))) kp = some (.lst (ts.map V.ref)) := by
      rw [upd_ne nkr, upd_same]
    have hR21 : RowsT (upd (upd H19 kp (.lst (ts.map V.ref))) rd (.lst (ts.map V.ref ++ [V.non]))) p cells ts (reckR W ys1) := rows_put hR19 fun t xs e => by
      have n1 : t ≠ rd := fun z => by
        rw [z, hrd19] at e
        cases e
      rw [upd_ne n1]
      exact s20 _ _ e
    generalize upd (upd H19 kp (.lst (ts.map V.ref))) rd (.lst (ts.map V.ref ++ [V.non])) = H21 at b21 hd21 hk21 hR21
    refine ⟨_, rfl, _, rfl, _, rfl, p, cells, d, W, rfl, mp, c8, hd21, gw, fun H22 r3 ts3 ys3 s22 nr3 pm3 st3 hr3 hR3 => ⟨_, rfl, ?_⟩⟩
    obtain rfl : ys3 = ys1 := sort_one (good_nm c8 gw) pm3 st3 pm1 st1
    have shp := rows_shaped ok1
    refine ⟨.list ((reckR W ys3).map rwD), .list ((reckR W ys3).map rwD), shoDp (n := 2) _ _ (Sho.lst hr3 (rows_pair (fun _ _ e => e) hR3)) (shaped_lay shp), shoDp (n := 2) _ _ (Sho.lst (s22 _ _ hk21) (rows_pair (fun _ _ e => e) (hR21.up s22))) (shaped_lay shp), shp, shp, ?_⟩
    rw [PySem.SeqAt.eqv_refl _ (shaped_lay shp)]
    exact want _ (b21.trans (but_same s22))
end
end Vb
end L2

set_option Elab.async false
set_option linter.all false
set_option maxRecDepth 100000
set_option maxHeartbeats 16000000
/-! Vb, k30: the law. -/
namespace L2
namespace Vb
open PySem PySem.Spec PyProof.Rows
def spLaw (K : PySem.W.Frag) : Sp := fun vs H Q _ => ∃ (sc : Addr) (ns : List Int), vs = [.ref sc] ∧ SqL K H sc (ns.map V.int) ∧ ns.length ≤ 63 ∧ ∀ H', Q (.bl true) H'
theorem nodup_at {l : List Addr} (h : l.Nodup) {i j : Nat} {a : Addr} (hi : l[i]? = some a) (hj : l[j]? = some a) : i = j := by
  have h2 : l.Pairwise (· ≠ ·) := h
  have pw := List.pairwise_iff_getElem.mp h2
  obtain ⟨l1, e1⟩ := List.getElem?_eq_some_iff.mp hi
  obtain ⟨l2, e2⟩ := List.getElem?_eq_some_iff.mp hj
  rcases Nat.lt_trichotomy i j with q | q | q
  · exact absurd (e1.trans e2.symm) (pw i j l1 l2 q)
  · exact q
  · exact absurd (e2.trans e1.symm) (pw j i l2 l1 q)
theorem sql_up {K : PySem.W.Frag} {H H' : Hp} {a : Addr} {xs : List V} (h : SqL K H a xs) (s : Same H H') : SqL K H' a xs := by
  rcases h with h | h
  · rcases h with h | ⟨o, h⟩
    · exact .inl (.inl (s _ _ h))
    · exact .inl (.inr ⟨o, s _ _ h⟩)
  · exact .inr h
/-- the rows that are written in the law: two cells turned about -/
def swR : List StA.R := [⟨.take, 1, 0⟩, ⟨.copy, 0, 1⟩, ⟨.add, 0, 1⟩, ⟨.take, 1, 1⟩, ⟨.add, 0, 1⟩]
theorem swR_fit : ∀ r ∈ swR, StA.fits 7 2 r := by
  intro r m
  simp only [swR, List.mem_cons, List.not_mem_nil, or_false] at m
  rcases m with rfl | rfl | rfl | rfl | rfl <;> exact ⟨by decide, by decide, by decide⟩
theorem swR_due : dueB 7 2 [("@0.0", 2), ("@0.1", 1)] (.list (swR.map rwD)) = true := by decide +kernel
theorem no_rows : dueB 2 0 [] (.list []) = false := by decide +kernel
theorem sw_good : GoodW 7 2 [("@0.0", 2), ("@0.1", 1)] := by
  refine ⟨?_, by decide +kernel, by show 2 ≤ 20; decide⟩
  decide +kernel
abbrev sLaw : Stmt := topS 65
abbrev nLaw : List Str := ["_law_script", "_law_purse_here", "_law_swapped"]
theorem scLaw : FnScope nLaw ["_law_script"] (defScope sLaw) := ⟨rfl, rfl, rfl, by decide +kernel, rfl, by decide +kernel, by decide +kernel⟩
-- cells set()
section
variable {P : Program} {w : World} {K : PySem.W.Frag} {mg : Str → Option Value} {base : Heap}
theorem ok_law {f fLpurses fLright fare_straight : Addr} {fd fdLpurses fdLright fdare_straight : FuncData} (F : Fun K "law" "law" sLaw f fd)
    (FLpurses : Fun K "_law_purses" "_law_purses" sPurses fLpurses fdLpurses) (GLpurses : FnOk P w K mg base CX0 2 fLpurses fdLpurses ["_law_script", "_law_few"] (spPurses K)) (gLpurses : mg "_law_purses" = some (.ref fLpurses))
    (FLright : Fun K "_law_right" "_law_right" sRgt fLright fdLright) (GLright : FnG P w K mg base 9 fLright fdLright ["_law_purse_here"] spRgt) (gLright : mg "_law_right" = some (.ref fLright))
    (Fare_straight : Fun K "are_straight" "are_straight" sAre fare_straight fdare_straight) (Gare_straight : FnOk P w K mg base CX0 7 fare_straight fdare_straight ["prime", "cells", "wanted", "value"] spAre) (gare_straight : mg "are_straight" = some (.ref fare_straight)) (sy : SysIn K) :
    FnG P w K mg base 10 f fd ["_law_script"] (spLaw K) := by
  have bLpurses : Binds K fdLpurses ["_law_script", "_law_few"] [] := FLpurses.binds fun _ _ _ _ _ _ us hl => match us, hl with | [_, _], _ => rfl
  have bLright : Binds K fdLright ["_law_purse_here"] [] := FLright.binds fun _ _ _ _ _ _ us hl => match us, hl with | [_], _ => rfl
  have bare_straight : Binds K fdare_straight ["prime", "cells", "wanted", "value"] [] := Fare_straight.binds fun _ _ _ _ _ _ us hl => match us, hl with | [_, _, _, _], _ => rfl
  refine fnG_of F scLaw (fun vs H Q h => ?_) (fun cdv A below s0 H vs Q hgd hr h => ?_)
  · obtain ⟨sc, ns, rfl, _⟩ := h
    rfl
  · obtain ⟨sc, ns, rfl, hs, hl63, want⟩ := h
    refine ⟨_, (pss_cons (ps_for PassesOwn.never rfl (pi_list (pe_call GLpurses (hr.mono (by decide)) rfl gLpurses FLpurses.kp bLpurses .nil pass0 (pa_cons (pv 0) (pa_cons pe_int pa_nil)))) (pg_name (i := 1) scLaw.nd rfl (Or.inl rfl))
        (pss_one (ps_if (pt_not (pt_val (pe_callG GLright hgd (hr.mono (by decide)) rfl gLright FLright.kp bLright (pa_cons (pv 1) pa_nil))))
            (pss_one (ps_ret pe_bl))
            pss_nil)))
      (pss_cons (ps_set (i := 2) scLaw.nd rfl (Or.inl rfl) (pe_lst (pa_cons (pe_tup (pa_cons pe_str (pa_cons pe_int (pa_cons pe_int pa_nil)))) (pa_cons (pe_tup (pa_cons pe_str (pa_cons pe_int (pa_cons pe_int pa_nil)))) (pa_cons (pe_tup (pa_cons pe_str (pa_cons pe_int (pa_cons pe_int pa_nil)))) (pa_cons (pe_tup (pa_cons pe_str (pa_cons pe_int (pa_cons pe_int pa_nil)))) (pa_cons (pe_tup (pa_cons pe_str (pa_cons pe_int (pa_cons pe_int pa_nil)))) pa_nil)))))))
      (pss_one (ps_ret (pe_and (pe_call Gare_straight (hr.mono (by decide)) rfl gare_straight Fare_straight.kp bare_straight .nil pass0 (pa_cons pe_int (pa_cons pe_int (pa_cons (pe_disp (pps_cons pe_str pe_int (pps_cons pe_str pe_int pps_nil)) (by rfl) (by rfl) (fun z => by cases z) (by decide)) (pa_cons (pv 2) pa_nil))))) (pe_one (pe_not (pe_call Gare_straight (hr.mono (by decide)) rfl gare_straight Fare_straight.kp bare_straight .nil pass0 (pa_cons pe_int (pa_cons pe_int (pa_cons pe_dnewK (pa_cons (pe_lst pa_nil) pa_nil)))))))))))), ?_⟩
    refine ⟨_, rfl, sc, ns, 3, rfl, sql_up hs same_rfl, hl63, by decide, by decide, fun H1 l as s1 nl hl l100 nod hall => ?_⟩
    refine ⟨l, rfl, ⟨_, SqL.of hl⟩, ?_⟩
    refine for_list (xs := as.map V.ref) (fun i σ H' => (∃ u1 u2 : Option V, σ = [some (.ref sc), u1, u2]) ∧ H' l = some (.lst (as.map V.ref)) ∧ ∀ j a, i ≤ j → as[j]? = some a → Pur H' a 0) ⟨⟨_, _, rfl⟩, hl, fun j a _ hj => ?_⟩ (fun i σ H' _ z => SqL.of z.2.1) ?_ ?_
    · obtain ⟨_, _, p, q, i, pu⟩ := hall a (List.mem_of_getElem? hj)
      exact ⟨p, q, 0, i, pu, Int.le_refl _, Int.le_refl _⟩
    · rintro i x σ H2 hx ⟨⟨u1, u2, rfl⟩, hl2, purs⟩
      obtain ⟨a, ha, rfl⟩ : ∃ a, as[i]? = some a ∧ x = V.ref a := by
        rw [List.getElem?_map] at hx
        obtain ⟨a, ha, e⟩ := Option.map_eq_some_iff.mp hx
        exact ⟨a, ha, e.symm⟩
      have hp := purs i a (Nat.le_refl _) ha
      have nla : l ≠ a := fun e => (hall a (List.mem_of_getElem? ha)).2.1 e.symm
      refine ⟨_, rfl, a, 0, rfl, hp, by decide, fun H3 b3 => ⟨_, rfl, iteF ?_⟩⟩
      refine ⟨⟨_, _, rfl⟩, b3 l nla _ hl2, fun j c hj hc => ?_⟩
      have nca : c ≠ a := fun e => by
        rw [e] at hc
        have z := nodup_at nod ha hc
        omega
      exact (purs j c (by omega) hc).but b3 nca
    · rintro σ H' ⟨⟨u1, u2, rfl⟩, _, _⟩
      refine ⟨by decide, fun t1 h1 => ?_⟩
      have s1 := same_new (o := .tup [.str "take", .int 1, .int 0]) h1
      have e1 : (upd H' t1 (.tup [.str "take", .int 1, .int 0])) t1 = some (.tup [.str "take", .int 1, .int 0]) := upd_same
      generalize upd H' t1 (.tup [.str "take", .int 1, .int 0]) = G1 at s1 e1 ⊢
      refine ⟨by decide, fun t2 h2 => ?_⟩
      have s2 := same_new (o := .tup [.str "copy", .int 0, .int 1]) h2
      have e2 : (upd G1 t2 (.tup [.str "copy", .int 0, .int 1])) t2 = some (.tup [.str "copy", .int 0, .int 1]) := upd_same
      generalize upd G1 t2 (.tup [.str "copy", .int 0, .int 1]) = G2 at s2 e2 ⊢
      refine ⟨by decide, fun t3 h3 => ?_⟩
      have s3 := same_new (o := .tup [.str "add", .int 0, .int 1]) h3
      have e3 : (upd G2 t3 (.tup [.str "add", .int 0, .int 1])) t3 = some (.tup [.str "add", .int 0, .int 1]) := upd_same
      generalize upd G2 t3 (.tup [.str "add", .int 0, .int 1]) = G3 at s3 e3 ⊢
      refine ⟨by decide, fun t4 h4 => ?_⟩
      have s4 := same_new (o := .tup [.str "take", .int 1, .int 1]) h4
      have e4 : (upd G3 t4 (.tup [.str "take", .int 1, .int 1])) t4 = some (.tup [.str "take", .int 1, .int 1]) := upd_same
      generalize upd G3 t4 (.tup [.str "take", .int 1, .int 1]) = G4 at s4 e4 ⊢
      refine ⟨by decide, fun t5 h5 => ?_⟩
      have s5 := same_new (o := .tup [.str "add", .int 0, .int 1]) h5
      have e5 : (upd G4 t5 (.tup [.str "add", .int 0, .int 1])) t5 = some (.tup [.str "add", .int 0, .int 1]) := upd_same
      generalize upd G4 t5 (.tup [.str "add", .int 0, .int 1]) = G5 at s5 e5 ⊢
      refine ⟨by show 5 ≤ sizeLine; decide, fun l5 h6 => ?_⟩
      have s6 := same_new (o := .lst [V.ref t1, V.ref t2, V.ref t3, V.ref t4, V.ref t5]) h6
      have e6 : (upd G5 l5 (.lst [V.ref t1, V.ref t2, V.ref t3, V.ref t4, V.ref t5])) l5 = some (.lst [V.ref t1, V.ref t2, V.ref t3, V.ref t4, V.ref t5]) := upd_same
      generalize upd G5 l5 (.lst [V.ref t1, V.ref t2, V.ref t3, V.ref t4, V.ref t5]) = G6 at s6 e6 ⊢
      have s5 := same_trans s5 s6
      have s4 := same_trans s4 s5
      have s3 := same_trans s3 s4
      have s2 := same_trans s2 s3
      have rd : ∀ {t : Addr} {x : Str} {i j : Int}, G6 t = some (.tup [.str x, .int i, .int j]) → Sho 1 G6 (.ref t) (.tuple [.str x, .int i, .int j]) := fun e => Sho.tup e (.cons (Sho.str _) (.cons (Sho.int _) (.cons (Sho.int _) .nil)))
      have sh : Sho 2 G6 (.ref l5) (.list (swR.map rwD)) := Sho.lst e6 (.cons (rd (s2 _ _ e1)) (.cons (rd (s3 _ _ e2)) (.cons (rd (s4 _ _ e3)) (.cons (rd (s5 _ _ e4)) (.cons (rd (s6 _ _ e5)) .nil)))))
      clear s2 s3 s4 s5 s6 e1 e2 e3 e4 e5 e6 rd
      refine fun d hd => ⟨upd_same, [(Sum.inr "@0.0", V.int 2), (Sum.inr "@0.1", V.int 1)], rfl, by show 2 ≤ 15; decide, ?_⟩
      rw [merge_two 2 1 (by decide)]
      have sd : Same G6 (upd (upd G6 d (.dK [])) d (.dK (kvsZ [("@0.0", 2), ("@0.1", 1)]))) := fun b o e => by
        have nb : b ≠ d := fun z => by
          rw [z, hd] at e
          cases e
        rw [upd_ne nb, upd_ne nb]
        exact e
      refine ⟨_, rfl, 7, 2, d, [("@0.0", 2), ("@0.1", 1)], .ref l5, _, 2, rfl, by decide +kernel, by decide, upd_same, sw_good, sh.up sd, fits_val (by decide) (by decide) swR_fit (by decide), fun H7 _ => ?_⟩
      rw [swR_due]
      refine ⟨_, rfl, ?_⟩
      refine fun q hq => ⟨by show 0 ≤ sizeLine; decide, fun m hm => ?_⟩
      refine ⟨2, 0, q, [], .ref m, .list [], 1, rfl, by decide +kernel, by decide, same_new hm _ _ upd_same, ⟨(fun _ z => by cases z), .nil, by show 0 ≤ 20; decide⟩, Sho.lst upd_same .nil, .inl ⟨[], .inl rfl, by decide, fun _ z => by cases z⟩, fun H8 _ => ?_⟩
      rw [no_rows]
      exact ⟨_, rfl, want H8⟩
end
end Vb
end L2

set_option Elab.async false
set_option linter.all false
set_option maxRecDepth 100000
set_option maxHeartbeats 8000000
/-! Vb, k30: the row. -/
namespace L2
namespace Vb
open PySem PySem.Spec PyProof.Rows
theorem sys_of {K : PySem.W.Frag} (h : sysB K = true) : SysIn K := by
  unfold sysB at h
  split at h
  · rename_i o ho
    split at h
    · rename_i es n hd
      exact ⟨o, es, n, ho, hd⟩
    · cases h
  · cases h
/-- where all stands -/
structure Stands (P : Program) (w : World) (K : PySem.W.Frag) (mg : Str → Option Value) (base : Heap) : Prop where
  fn : ∀ x i, (x, i) ∈ defs → (∃ fd, Fun K x x (topS i) (He.ga K x) fd) ∧ mg x = some (.ref (He.ga K x))
  me : ∀ m q j, (m, q, j) ∈ meths → ∃ fd, Fun K m q (stOf j (topS 28)) (He.ma K (He.ga K "Sizes") m) fd
  free : ∀ x ∈ frees, mg x = none
  prim : PrimG K mg
  sy : SysIn K
  i_LONGEST_NAME : ∃ t, mg "LONGEST_NAME" = some (.int 8 t)
  i_MOST_CELLS : ∃ t, mg "MOST_CELLS" = some (.int 8 t)
  i_FEWEST_WAYS : ∃ t, mg "FEWEST_WAYS" = some (.int 2 t)
  i_MOST_WAYS : ∃ t, mg "MOST_WAYS" = some (.int 4 t)
  i_STRAIGHT_BOXES : ∃ t, mg "STRAIGHT_BOXES" = some (.int 2 t)
  g_BOXES : mg "BOXES" = some (.ref (He.ga K "BOXES"))
  s_BOXES : ∀ H : Hp, SqT K H (He.ga K "BOXES") (BOXES_S.map V.str)
  g_STRAIGHT : mg "STRAIGHT" = some (.ref (He.ga K "STRAIGHT"))
  s_STRAIGHT : ∀ H : Hp, SqT K H (He.ga K "STRAIGHT") (wordsL.map V.str)
  g_PARTS_OF_ROWS : mg "PARTS_OF_ROWS" = some (.ref (He.ga K "PARTS_OF_ROWS"))
  parts : PartsF K w (He.ga K "PARTS_OF_ROWS")
  g_Sizes : mg "Sizes" = some (.ref (He.ga K "Sizes"))
  cls : Cls K (He.ga K "Sizes")
  mkr : Mk K (He.ga K "Sizes") (He.ma K (He.ga K "Sizes") "__init__")
  meth : Meth K (He.ga K "Sizes") "is_row" (He.ma K (He.ga K "Sizes") "is_row")
  noat : NoAttr K (He.ga K "Sizes") "limits"
section
variable {P : Program} {w : World} {K : PySem.W.Frag} {mg : Str → Option Value} {h base : Heap}
theorem stands_of (G : h.Ns mainGlobals mg) (KX : K.In h) (c : Says w K) : Stands P w K mg base := by
  have cd : He.SaysD fa fn K := c.t.d
  have mI : ∀ {z : He.Fa}, z ∈ [He.Fa.int "GREATEST_PRIME" 65537, He.Fa.int "LONGEST_NAME" 8, He.Fa.int "SMALL_PRODUCT" smallProduct, He.Fa.int "MOST_CELLS" 8, He.Fa.int "FEWEST_WAYS" 2, He.Fa.int "MOST_WAYS" 4, He.Fa.int "STRAIGHT_BOXES" 2] → He.Fa.ok K z = true := fun m => cd.facts (List.mem_append_right _ (List.mem_append_left _ m))
  have mA : ∀ {z : He.Fa}, z ∈ (defs.map fun z => He.Fa.glo z.1) → He.Fa.ok K z = true := fun m => cd.facts (List.mem_append_right _ (List.mem_append_right _ (List.mem_append_left _ m)))
  have mB : ∀ {z : He.Fa}, z ∈ [He.Fa.glo "SMALL_PRIMES", He.Fa.glo "BOXES", He.Fa.glo "STRAIGHT", He.Fa.glo "PARTS_OF_ROWS", He.Fa.glo "Sizes", He.Fa.cls "Sizes", He.Fa.mkr "Sizes", He.Fa.meth "Sizes" "is_row", He.Fa.noat "Sizes" "limits"] → He.Fa.ok K z = true := fun m => cd.facts (List.mem_append_right _ (List.mem_append_right _ (List.mem_append_right _ m)))
  have glo : ∀ x i, (x, i) ∈ defs → mg x = some (.ref (He.ga K x)) := fun x i hx => He.glo_ok KX G (mA (List.mem_map_of_mem (f := fun z : Str × Nat => He.Fa.glo z.1) hx))
  have fr : ∀ x ∈ frees, mg x = none := fun x hx => He.free_ok KX G (cd.facts (List.mem_append_left _ (List.mem_map_of_mem (f := He.Fa.free) hx)))
  obtain ⟨m1, m2⟩ := He.ba c.more
  obtain ⟨k1, k2⟩ := He.ba m2
  obtain ⟨n1, n2⟩ := He.ba m1
  obtain ⟨t1, n3⟩ := He.ba n2
  obtain ⟨t2, t3⟩ := He.ba n3
  refine ⟨fun x i hx => ⟨?_, glo x i hx⟩, fun m q j hx => ?_, fr, ?_, sys_of k2, He.int_ok KX G (mI (List.mem_cons_of_mem _ List.mem_cons_self)), He.int_ok KX G (mI (List.mem_cons_of_mem _ (List.mem_cons_of_mem _ (List.mem_cons_of_mem _ List.mem_cons_self)))), He.int_ok KX G (mI (List.mem_cons_of_mem _ (List.mem_cons_of_mem _ (List.mem_cons_of_mem _ (List.mem_cons_of_mem _ List.mem_cons_self))))), He.int_ok KX G (mI (List.mem_cons_of_mem _ (List.mem_cons_of_mem _ (List.mem_cons_of_mem _ (List.mem_cons_of_mem _ (List.mem_cons_of_mem _ List.mem_cons_self)))))), He.int_ok KX G (mI (List.mem_cons_of_mem _ (List.mem_cons_of_mem _ (List.mem_cons_of_mem _ (List.mem_cons_of_mem _ (List.mem_cons_of_mem _ (List.mem_cons_of_mem _ List.mem_cons_self))))))), He.glo_ok KX G (mB (List.mem_cons_of_mem _ List.mem_cons_self)), fun H => ?_, He.glo_ok KX G (mB (List.mem_cons_of_mem _ (List.mem_cons_of_mem _ List.mem_cons_self))), fun H => ?_, He.glo_ok KX G (mB (List.mem_cons_of_mem _ (List.mem_cons_of_mem _ (List.mem_cons_of_mem _ List.mem_cons_self)))), parts_of k1 (c.t.tab 0), He.glo_ok KX G (mB (List.mem_cons_of_mem _ (List.mem_cons_of_mem _ (List.mem_cons_of_mem _ (List.mem_cons_of_mem _ List.mem_cons_self))))), He.cls_ok (mB (List.mem_cons_of_mem _ (List.mem_cons_of_mem _ (List.mem_cons_of_mem _ (List.mem_cons_of_mem _ (List.mem_cons_of_mem _ List.mem_cons_self)))))), He.mkr_ok (mB (List.mem_cons_of_mem _ (List.mem_cons_of_mem _ (List.mem_cons_of_mem _ (List.mem_cons_of_mem _ (List.mem_cons_of_mem _ (List.mem_cons_of_mem _ List.mem_cons_self))))))), He.meth_ok (mB (List.mem_cons_of_mem _ (List.mem_cons_of_mem _ (List.mem_cons_of_mem _ (List.mem_cons_of_mem _ (List.mem_cons_of_mem _ (List.mem_cons_of_mem _ (List.mem_cons_of_mem _ List.mem_cons_self)))))))), He.noat_ok (mB (List.mem_cons_of_mem _ (List.mem_cons_of_mem _ (List.mem_cons_of_mem _ (List.mem_cons_of_mem _ (List.mem_cons_of_mem _ (List.mem_cons_of_mem _ (List.mem_cons_of_mem _ (List.mem_cons_of_mem _ List.mem_cons_self)))))))))⟩
  · obtain ⟨fd, F⟩ := cd.defs (d := dG x i) (List.mem_append_left _ (List.mem_map_of_mem (f := fun z : Str × Nat => dG z.1 z.2) hx))
    exact ⟨fd, fun_of F⟩
  · obtain ⟨fd, F⟩ := cd.defs (d := dM "Sizes" m q 28 j) (List.mem_append_right _ (List.mem_map_of_mem (f := fun z : Str × Str × Nat => dM "Sizes" z.1 z.2.1 28 z.2.2) hx))
    exact ⟨fd, fun_of F⟩
  · refine ⟨fr _ (by decide), fr _ (by decide), He.int_ok KX G (mI List.mem_cons_self), ⟨_, He.glo_ok KX G (mB List.mem_cons_self), fun H => ?_⟩, He.int_ok KX G (mI (List.mem_cons_of_mem _ (List.mem_cons_of_mem _ List.mem_cons_self))), PySem.W.mg_of KX G (He.eqO_ok n1)⟩
    have z := He.tupB_ok t1 H
    rw [List.map_map] at z
    exact z
  · have z := He.tupB_ok t2 H
    rw [List.map_map] at z
    exact z
  · have z := He.tupB_ok t3 H
    rw [List.map_map] at z
    exact z
theorem law_stands {f : Addr} {fd : FuncData} (S : Stands P w K mg base) (F : Fun K "law" "law" sLaw f fd) : FnG P w K mg base 10 f fd ["_law_script"] (spLaw K) := by
  obtain ⟨_, F___init__⟩ := S.me "__init__" "Sizes.__init__" 0 (by decide)
  obtain ⟨_, F_is_row⟩ := S.me "is_row" "Sizes.is_row" 1 (by decide)
  obtain ⟨⟨_, F__law_purses⟩, g__law_purses⟩ := S.fn "_law_purses" 54 (by decide)
  obtain ⟨⟨_, F__law_purse⟩, g__law_purse⟩ := S.fn "_law_purse" 51 (by decide)
  obtain ⟨⟨_, F__law_right⟩, g__law_right⟩ := S.fn "_law_right" 64 (by decide)
  obtain ⟨⟨_, F__law_draw⟩, g__law_draw⟩ := S.fn "_law_draw" 53 (by decide)
  obtain ⟨⟨_, F__law_mixed⟩, g__law_mixed⟩ := S.fn "_law_mixed" 52 (by decide)
  obtain ⟨⟨_, F__law_prime⟩, g__law_prime⟩ := S.fn "_law_prime" 57 (by decide)
  obtain ⟨⟨_, F__law_one_of⟩, g__law_one_of⟩ := S.fn "_law_one_of" 55 (by decide)
  obtain ⟨⟨_, F__law_shuffled⟩, g__law_shuffled⟩ := S.fn "_law_shuffled" 56 (by decide)
  obtain ⟨⟨_, F_straight⟩, g_straight⟩ := S.fn "straight" 48 (by decide)
  obtain ⟨⟨_, F_require_straight⟩, g_require_straight⟩ := S.fn "require_straight" 47 (by decide)
  obtain ⟨⟨_, F_require_prime⟩, g_require_prime⟩ := S.fn "require_prime" 16 (by decide)
  obtain ⟨⟨_, F_is_prime⟩, g_is_prime⟩ := S.fn "is_prime" 15 (by decide)
  obtain ⟨⟨_, F_is_count⟩, g_is_count⟩ := S.fn "is_count" 13 (by decide)
  obtain ⟨⟨_, F_is_known_sum⟩, g_is_known_sum⟩ := S.fn "is_known_sum" 39 (by decide)
  obtain ⟨⟨_, F_is_sum⟩, g_is_sum⟩ := S.fn "is_sum" 19 (by decide)
  obtain ⟨⟨_, F_is_factor⟩, g_is_factor⟩ := S.fn "is_factor" 18 (by decide)
  obtain ⟨⟨_, F_is_number⟩, g_is_number⟩ := S.fn "is_number" 17 (by decide)
  obtain ⟨⟨_, F_keys_of_cells⟩, g_keys_of_cells⟩ := S.fn "keys_of_cells" 46 (by decide)
  obtain ⟨⟨_, F_name_of_cell⟩, g_name_of_cell⟩ := S.fn "name_of_cell" 33 (by decide)
  obtain ⟨⟨_, F_reckoning⟩, g_reckoning⟩ := S.fn "reckoning" 42 (by decide)
  obtain ⟨⟨_, F_are_straight⟩, g_are_straight⟩ := S.fn "are_straight" 49 (by decide)
  obtain ⟨⟨_, F_name_of_box⟩, g_name_of_box⟩ := S.fn "name_of_box" 32 (by decide)
  obtain ⟨⟨_, F_change_of⟩, g_change_of⟩ := S.fn "change_of" 35 (by decide)
  obtain ⟨⟨_, F_without_noughts⟩, g_without_noughts⟩ := S.fn "without_noughts" 34 (by decide)
  obtain ⟨⟨_, F_added_up⟩, g_added_up⟩ := S.fn "added_up" 37 (by decide)
  obtain ⟨⟨_, F_vector_of⟩, g_vector_of⟩ := S.fn "vector_of" 40 (by decide)
  obtain ⟨⟨_, F_is_other_part⟩, g_is_other_part⟩ := S.fn "is_other_part" 29 (by decide)
  obtain ⟨⟨_, F_are_ats⟩, g_are_ats⟩ := S.fn "are_ats" 25 (by decide)
  obtain ⟨⟨_, F_are_stops⟩, g_are_stops⟩ := S.fn "are_stops" 27 (by decide)
  obtain ⟨⟨_, F_are_labels⟩, g_are_labels⟩ := S.fn "are_labels" 26 (by decide)
  obtain ⟨⟨_, F_is_name⟩, g_is_name⟩ := S.fn "is_name" 14 (by decide)
  obtain ⟨⟨_, F_unit_vector⟩, g_unit_vector⟩ := S.fn "unit_vector" 7 (by decide)
  obtain ⟨⟨_, F__law_due⟩, g__law_due⟩ := S.fn "_law_due" 61 (by decide)
  obtain ⟨⟨_, F__law_is_row⟩, g__law_is_row⟩ := S.fn "_law_is_row" 60 (by decide)
  obtain ⟨⟨_, F__law_is_number⟩, g__law_is_number⟩ := S.fn "_law_is_number" 59 (by decide)
  obtain ⟨⟨_, F__law_ended⟩, g__law_ended⟩ := S.fn "_law_ended" 58 (by decide)
  obtain ⟨⟨_, F__law_bent⟩, g__law_bent⟩ := S.fn "_law_bent" 62 (by decide)
  obtain ⟨⟨_, F__law_drawn_rows⟩, g__law_drawn_rows⟩ := S.fn "_law_drawn_rows" 63 (by decide)
  have f_all := S.free "all" (by decide)
  have f_bool := S.free "bool" (by decide)
  have f_dict := S.free "dict" (by decide)
  have f_enumerate := S.free "enumerate" (by decide)
  have f_int := S.free "int" (by decide)
  have f_isinstance := S.free "isinstance" (by decide)
  have f_len := S.free "len" (by decide)
  have f_list := S.free "list" (by decide)
  have f_max := S.free "max" (by decide)
  have f_min := S.free "min" (by decide)
  have f_range := S.free "range" (by decide)
  have f_repr := S.free "repr" (by decide)
  have f_reversed := S.free "reversed" (by decide)
  have f_sorted := S.free "sorted" (by decide)
  have f_str := S.free "str" (by decide)
  have f_sum := S.free "sum" (by decide)
  have f_tuple := S.free "tuple" (by decide)
  have f_type := S.free "type" (by decide)
  have f_zip := S.free "zip" (by decide)
  have G__law_purses : FnOk P w K mg base CX0 2 _ _ ["_law_script", "_law_few"] (spPurses K) := ok_purses F__law_purses F__law_purse g__law_purse f_sum f_max f_min f_range f_len
  have G__law_draw : FnOk P w K mg base CX0 2 _ _ ["_law_purse_here", "_law_many"] spDraw := ok_draw F__law_draw F__law_mixed g__law_mixed f_range
  have G__law_one_of : FnOk P w K mg base CX0 3 _ _ ["_law_purse_here", "_law_some"] spOneOf := ok_oneOf F__law_one_of F__law_draw F__law_mixed g__law_draw g__law_mixed f_range f_len
  have G__law_prime : FnOk P w K mg base CX0 4 _ _ ["_law_purse_here"] spPrL := ok_prL F__law_prime F__law_one_of G__law_one_of g__law_one_of
  have G__law_shuffled : FnOk P w K mg base CX0 3 _ _ ["_law_purse_here", "_law_some"] spShuf := ok_shuf F__law_shuffled F__law_draw G__law_draw g__law_draw f_len
  have G_is_prime : FnOk P w K mg base CX0 1 _ _ ["value"] spPrime := ok_prime F_is_prime S.prim
  have G_require_prime : FnOk P w K mg base CX0 2 _ _ ["prime"] spReqP := ok_reqP F_require_prime F_is_prime G_is_prime g_is_prime
  have G_is_count : FnOk P w K mg base CX0 1 _ _ ["value"] spCount := ok_count F_is_count f_type f_int
  have G_is_number : FnOk P w K mg base CX0 2 _ _ ["prime", "value"] spNumber := ok_number F_is_number F_is_count G_is_count g_is_count
  have G_is_factor : FnOk P w K mg base CX0 3 _ _ ["prime", "value"] spFactor := ok_factor F_is_factor F_is_number G_is_number g_is_number
  have G_is_sum : FnOk P w K mg base CX0 4 _ _ ["prime", "value"] spSum := ok_sum F_is_sum F_is_factor G_is_factor g_is_factor f_all f_type f_dict f_str
  have G_is_known_sum : FnOk P w K mg base CX0 5 _ _ ["prime", "value", "keys"] spKnown := ok_known F_is_known_sum F_is_sum G_is_sum g_is_sum f_all
  have G_name_of_cell : FnOk P w K mg base CX0 1 _ _ ["depth", "cell"] spCell := ok_cell F_name_of_cell
  have G_keys_of_cells : FnOk P w K mg base CX0 2 _ _ ["cells"] spKeys := ok_keys F_keys_of_cells F_name_of_cell G_name_of_cell g_name_of_cell f_range
  have G_require_straight : FnOk P w K mg base CX0 6 _ _ ["prime", "cells", "wanted"] spReqSt := ok_reqSt F_require_straight F_require_prime G_require_prime g_require_prime F_is_count G_is_count g_is_count F_is_known_sum G_is_known_sum g_is_known_sum F_keys_of_cells G_keys_of_cells g_keys_of_cells S.i_MOST_CELLS
  have G_reckoning : FnOk P w K mg base CX0 1 _ _ ["box", "helper", "wanted", "places"] spRck := ok_rck F_reckoning f_sorted
  have G_straight : FnOk P w K mg base CX0 7 _ _ ["prime", "cells", "wanted"] spStr := ok_str F_straight F_require_straight G_require_straight g_require_straight F_reckoning G_reckoning g_reckoning F_name_of_cell G_name_of_cell g_name_of_cell f_range
  have G_name_of_box : FnOk P w K mg base CX0 1 _ _ ["box"] spBox := ok_box F_name_of_box S.g_BOXES S.s_BOXES
  have G_without_noughts : FnOk P w K mg base CX0 1 _ _ ["modulus", "wanted"] spNoN := ok_noN F_without_noughts
  have G_change_of : FnOk P w K mg base CX0 2 _ _ ["modulus", "row", "depth"] spChg := ok_chg F_change_of F_name_of_box G_name_of_box g_name_of_box F_name_of_cell G_name_of_cell g_name_of_cell F_without_noughts G_without_noughts g_without_noughts
  have G_added_up : FnOk P w K mg base CX0 1 _ _ ["prime", "vectors", "factors", "length"] spAdd := ok_add F_added_up f_zip
  have G_vector_of : FnOk P w K mg base CX0 1 _ _ ["wanted", "keys"] spVecOf := ok_vecOf F_vector_of
  have G___init__ : FnOk P w K mg base CX0 1 _ _ ["self", "prime", "boxes", "cells", "main_cells"] (spInit (He.ga K "Sizes")) := ok_init F___init__ S.cls S.noat
  have G_are_ats : FnOk P w K mg base CX0 2 _ _ ["value"] spAts := ok_Ats F_are_ats F_is_count G_is_count g_is_count f_all f_len f_list f_type S.i_FEWEST_WAYS S.i_MOST_WAYS
  have G_is_name : FnOk P w K mg base CX0 1 _ _ ["value"] spName := ok_Name F_is_name f_len f_type f_str S.i_LONGEST_NAME
  have G_are_labels : FnOk P w K mg base CX0 2 _ _ ["value"] spLabels := ok_Labels F_are_labels F_is_name G_is_name g_is_name f_type f_all f_len f_tuple
  have G_are_stops : FnOk P w K mg base CX0 3 _ _ ["value"] spStops := ok_Stops F_are_stops F_are_labels G_are_labels g_are_labels f_type f_all f_len f_list f_range
  have G_is_other_part : FnOk P w K mg base CX0 4 _ _ ["kind", "value"] spOther := ok_Other F_is_other_part F_is_count G_is_count g_is_count F_are_ats G_are_ats g_are_ats F_are_stops G_are_stops g_are_stops F_is_name G_is_name g_is_name
  have G_is_row : FnOk P w K mg base CX0 5 _ _ ["self", "value"] (spIsRow (He.ga K "Sizes")) := ok_isRow F_is_row S.cls S.noat S.parts S.g_PARTS_OF_ROWS F_is_other_part G_is_other_part g_is_other_part f_type f_tuple f_str f_int f_len f_zip
  have G_unit_vector : FnOk P w K mg base CX0 1 _ _ ["width", "at"] spUnit := ok_unit F_unit_vector
  have G_are_straight : FnOk P w K mg base CX0 7 _ _ ["prime", "cells", "wanted", "value"] spAre := ok_are (aP := He.ga K "PARTS_OF_ROWS") F_are_straight F_require_straight G_require_straight g_require_straight F_name_of_box G_name_of_box g_name_of_box F_keys_of_cells G_keys_of_cells g_keys_of_cells F_change_of G_change_of g_change_of F_added_up G_added_up g_added_up F_vector_of G_vector_of g_vector_of f_all f_len f_list f_range f_type f_enumerate S.i_STRAIGHT_BOXES S.g_STRAIGHT S.s_STRAIGHT S.g_Sizes S.mkr S.cls S.noat S.meth F___init__ G___init__ F_is_row G_is_row F_unit_vector G_unit_vector g_unit_vector
  have G__law_is_number : FnOk P w K mg base CX0 1 _ _ ["_law_value", "_law_bound"] spIsNum := ok_isNum F__law_is_number f_isinstance f_int f_bool
  have G__law_is_row : FnOk P w K mg base CX0 2 _ _ ["_law_prime_here", "_law_cells", "_law_row"] spRowL := ok_rowL F__law_is_row F__law_is_number G__law_is_number g__law_is_number f_isinstance f_len f_tuple
  have G__law_ended : FnOk P w K mg base CX0 1 _ _ ["_law_prime_here", "_law_cells", "_law_rows", "_law_numbers"] spEnd := ok_ended F__law_ended f_list
  have G__law_due : FnOk P w K mg base CX0 3 _ _ ["_law_prime_here", "_law_cells", "_law_wanted", "_law_value"] spDue := ok_due F__law_due F__law_is_row G__law_is_row g__law_is_row F__law_ended G__law_ended g__law_ended f_int f_str f_isinstance f_list f_range
  have G__law_bent : FnOk P w K mg base CX0 3 _ _ ["_law_purse_here", "_law_prime_here", "_law_cells", "_law_rows"] spBent := ok_bent F__law_bent F__law_draw G__law_draw g__law_draw f_tuple f_len f_list f_range
  have G__law_drawn_rows : FnOk P w K mg base CX0 4 _ _ ["_law_purse_here", "_law_prime_here", "_law_cells"] spDrn := ok_drn F__law_drawn_rows F__law_draw G__law_draw g__law_draw F__law_one_of G__law_one_of g__law_one_of f_int f_range
  have G__law_right : FnG P w K mg base 9 _ _ ["_law_purse_here"] spRgt := ok_rgt F__law_right F__law_draw G__law_draw g__law_draw F__law_prime G__law_prime g__law_prime F__law_shuffled G__law_shuffled g__law_shuffled F_straight G_straight g_straight F_are_straight G_are_straight g_are_straight F__law_due G__law_due g__law_due F__law_bent G__law_bent g__law_bent F__law_drawn_rows G__law_drawn_rows g__law_drawn_rows f_list f_range f_repr f_str f_dict f_reversed S.sy
  exact ok_law F F__law_purses G__law_purses g__law_purses F__law_right G__law_right g__law_right F_are_straight G_are_straight g_are_straight S.sy
end
theorem law_end {P : Program} {w : World} {mg mb : Str → Option Value} {fa a : Addr} {s1 : Shared} {vs : List Value} {ns : List Int} (Y : hk.says w s1.heap) (hmg : mg ("law" : Str) = some (.ref fa))
    (gm : s1.heap.Ns mainGlobals mg) (gb : s1.heap.Ns builtinsNs mb) (bb : ∀ x : Str, x ≠ "__name__" → mb x = bootBuiltins x) (lim : s1.heap.NoLimit) (gn : s1.gens = #[])
    (ha : s1.heap.get? a = some { cls := .type "list", data := .seq vs.toArray }) (hi : IntsAre vs ns) (hl : ns.length ≤ 63) :
    codeAny (model P w) callerA (.call (.ref fa) ⟨[.ref a], []⟩) (fun r s' => r = .ok (.ret (.bool true)) ∧ OldK s1.heap s'.heap ∧ s'.os = s1.os ∧ AllBare s'.gens) s1 := by
  obtain ⟨K, KX, c⟩ := Y
  have cd : He.SaysD Vb.fa fn K := c.t.d
  have S : ∀ base : Heap, Stands P w K mg base := fun base => stands_of gm KX c
  obtain ⟨fd, F⟩ := cd.defs (d := dG "law" 65) (List.mem_append_left _ (List.mem_map_of_mem (f := fun z : Str × Nat => dG z.1 z.2) (a := (("law" : Str), 65)) (by decide)))
  have g := ((S s1.heap).fn "law" 65 (by decide)).2
  have e := hmg.symm.trans g
  obtain rfl : fa = He.ga K "law" := by
    cases e
    rfl
  have b := FunD.bindsA (ps := ["_law_script"]) F fun _ _ _ _ _ _ us hl => match us, hl with | [_], _ => rfl
  exact topG (k := 10) (sp := spLaw K) KX gm gb bb lim gn ha hi (Nat.le_trans hl (by decide)) ⟨rfl, by decide, by decide⟩ (fun base _ _ => law_stands (S base) (fun_of F)) (fun s v => b s [v] rfl) fun H hS => ⟨a, ns, rfl, hS, hl, fun _ => rfl⟩
end Vb
end L2
open PySem PySem.W PySem.Calls PyProof.Rows
theorem PySem.Challenge.cw_truestops_k30_whole_straight_rows_holds : PySem.Challenge.rw_truestops_k30_whole_straight_rows.Holds := by
  w_on; o_law
  refine HandSHeadRun.head_imp (r := OpenLaw.row PySem.Challenge.rw_truestops_k30_whole_straight_rows) (q := view (OpenLaw.row PySem.Challenge.rw_truestops_k30_whole_straight_rows).prog [0, 65]) (H := L2.Vb.hk) (ob := L2.Vb.ob) (M := 40000) (loose := L2.Vb.loose) (d := HandSHeadRun.topDef (OpenLaw.row PySem.Challenge.rw_truestops_k30_whole_straight_rows).prog 65) (kwd := []) L2.Vb.ob_eq
    L2.Vb.run (by kernel_rfl) (by kernel_rfl) (by kernel_rfl) (by rfl) (by first | assumption | decide +kernel) (by decide +kernel) ⟨rfl, rfl, rfl, rfl, rfl, by decide +kernel⟩ ?hw ?hc
  case hw => w_witness2
  case hc =>
    refine Att.attach_call (l := PySem.Challenge.rw_truestops_k30_whole_straight_rows) (n := 63) rfl (by kernel_rfl) fun w s₀ s₁ mg mb fa o pm cd doc a vs ns G Y ho hd hcd hmg hobj hints hlen hg => ?_
    have e : (HandSHeadRun.topDef (OpenLaw.row PySem.Challenge.rw_truestops_k30_whole_straight_rows).prog 65).name = ("law" : PySem.Str) := by kernel_rfl
    rw [e] at hmg
    exact L2.Vb.law_end Y hmg G.T.g G.T.b G.T.builtins G.T.nolimit hg hobj hints hlen
