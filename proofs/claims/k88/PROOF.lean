import PyProof.Rows.All
import Wide.All
import OpenK.AllK
import Wide.FinOn
import KE.SortData
import HandS.ForMost
import HandS.SortInts
import PyProof.StrLawsRepr
import PyProof.Rows.NestFoldShow
import PyProof.NeKinds
import HandS.More
import KE.KStateDown
import Lean
import HandS.Exc
import HandS.ExcInit
import HandS.ExcIs
import HandS.IsInst
import HandS.Defaults
import HandS.Head0
import HandS.Head1
import HandS.Head2
import HandS.Head3
import HandS.HeadEnd
import HandS.HeadHook1
import HandS.HeadHook2
import HandS.HeadHook3
import HandS.HeadHook4
import PySem.Challenge.RW_truestops_k88_whole_script_texts
import KE.KMathG
import HandS.WideBits
import HandS.Wide
import HandS.Flow
import HandS.Codes
import HandS.Text
import HandS.Walk
import PyProof.ZipIter
import HandS.Star
import KE.KStar
import HandS.MakeKw
import KE.KIsAll
import KE.KTryMore
import HandS.ExcValue
import HandS.WordsExc
import HandS.StrMore
import PyProof.StrLawsTight
import PyProof.Rows.StrNews2
import KE.KIntText
import HandS.Dict
import PyProof.Rows.TmSorted
import PyProof.Rows.StrMeet
import PyProof.Rows.StrLawsPart
import HandS.Steps
import HandS.FStr
import PyProof.Rows.StrSplitAre
import PyProof.Rows.StrSplitJoin
import HandS.DictComp
import HandS.DeepEq
import HandS.RaiseMore
import HandS.ExcField
import PyProof.StrBlock2
set_option Elab.async false
set_option linter.all false
set_option maxRecDepth 100000
set_option maxHeartbeats 4000000
/-! Vb, part 2: lists of lists of numbers; sorted of such. -/
namespace L2
namespace Vb
open PySem PySem.Spec PyProof.Rows
/-- b is the list of these numbers -/
def Rw (H : Hp) (b : Addr) (xs : List Int) : Prop := H b = some (.lst (xs.map V.int))
/-- they stand one by one -/
def Rws (H : Hp) (as : List Addr) (T : List (List Int)) : Prop := Paired (Rw H) as T
theorem Rws.mono {H H' : Hp} {as : List Addr} {T : List (List Int)} (h : Rws H as T) (k : ∀ b ∈ as, ∀ o, H b = some o → H' b = some o) : Rws H' as T := by
  induction h with
  | nil => exact .nil
  | cons p ps ih => exact .cons (k _ List.mem_cons_self _ p) (ih fun b m => k b (List.mem_cons_of_mem _ m))
theorem Rws.len {H : Hp} {as : List Addr} {T : List (List Int)} (h : Rws H as T) : as.length = T.length := by
  induction h with
  | nil => rfl
  | cons _ _ ih => exact congrArg (· + 1) ih
/-- a and its row -/
abbrev AR : Type := Addr × List Int
theorem rws_zip {H : Hp} {as : List Addr} {T : List (List Int)} (h : Rws H as T) : ∀ z ∈ as.zip T, Rw H z.1 z.2 := by
  induction h with
  | nil => exact fun z m => (List.not_mem_nil m).elim
  | cons p _ ih =>
    intro z m
    rcases List.mem_cons.mp m with q | q
    · rw [q]
      exact p
    · exact ih z q
theorem rws_of {H : Hp} : ∀ {zs : List AR}, (∀ z ∈ zs, Rw H z.1 z.2) → Rws H (zs.map (·.1)) (zs.map (·.2))
  | [], _ => .nil
  | z :: zs, h => .cons (h z List.mem_cons_self) (rws_of fun y m => h y (List.mem_cons_of_mem _ m))
def rSortedM (K : PySem.W.Frag) : List V → Hp → VK → Prop := fun vs H Q => ∃ (a : Addr) (as : List Addr) (T : List (List Int)), vs = [V.ref a] ∧ SqL K H a (as.map V.ref) ∧ Rws H as T ∧
  ∀ (as' : List Addr) (T' : List (List Int)) (p : Addr), Rws H as' T' → T'.Perm T → T'.Pairwise (· ≤ ·) → (∀ b ∈ as', b ∈ as) → H p = none → Q (.ref p) (upd H p (.lst (as'.map V.ref)))
theorem each_refs {R : Value → AR → Prop} (hR : ∀ z : AR, R (.ref z.1) z) : ∀ {zs : List AR} {its : List Value}, Vals ((zs.map (·.1)).map V.ref) its → PySem.W.EachIs R its zs
  | [], _, r => by
    cases r
    exact .nil
  | z :: zs, _, r => by
    cases r with
    | cons h t =>
      cases (show _ = Value.ref z.1 from h)
      exact .cons (hR z) (each_refs hR t)
theorem vals_refs {zs : List AR} : ∀ {out : List Value}, PySem.W.EachIs (fun v z => v = Value.ref z.1) out zs → Vals ((zs.map (·.1)).map V.ref) out := by
  induction zs with
  | nil =>
    intro out e
    cases e
    exact .nil
  | cons z zs ih =>
    intro out e
    cases e with
    | cons h t => exact .cons h (ih t)
theorem reads_ints {h : Heap} : ∀ {ts : List Value} {ns : List Int}, IntsAre ts ns → ReadsAll h ts (ns.map PyData.int) []
  | _, _, .nil => .nil
  | _, _, .cons n t r => .cons (.int n t) (reads_ints r)
abbrev rowD (z : AR) : PyData := .list (z.2.map PyData.int)
theorem row_depth (z : AR) : (rowD z).depth ≤ 1 := by
  show PyData.depth (.list (z.2.map PyData.int)) ≤ 1
  unfold PyData.depth
  rw [PySem.W.depth_ints]
  omega
theorem rows_alike (zs : List AR) : PySem.W.AllAlike (zs.map rowD) := .of fun a b => by
  show PySem.W.alike (.list (a.2.map .int)) (.list (b.2.map .int)) = true
  simp only [PySem.W.alike]
  exact PySem.W.alike_ints _ _
theorem rows_sortable (zs : List AR) : PySem.W.Sortable (zs.map rowD) := .others fun b => ⟨fun e => (nomatch e), fun xs e => (nomatch e)⟩
section
variable {X : Cx}
theorem cr_sortedM (hu : X.A.units + 8 < cLine) : CallR X (.builtin "sorted") (rSortedM X.K) := by
  intro pins s σ H vs us Q I r h
  obtain ⟨a, as, T, rfl, hs, hT, q⟩ := h
  obtain ⟨its, rv, hl, hz⟩ := I.list hs
  rw [Vals.ref1 r]
  have ln := hT.len
  have e1 : (as.zip T).map (·.1) = as := List.map_fst_zip (Nat.le_of_eq ln)
  have e2 : (as.zip T).map (·.2) = T := List.map_snd_zip (Nat.le_of_eq ln.symm)
  have hz2 := rws_zip hT
  have rv2 : Vals (((as.zip T).map (·.1)).map V.ref) its := by
    rw [e1]
    exact rv
  have mem : ∀ z ∈ as.zip T, ∃ bs, Reads s.heap (.ref z.1) (rowD z) bs := fun z m => by
    obtain ⟨_, ts, n, rt, e⟩ := (show ObjOk X.prog X.w H s.heap z.1 (.lst (z.2.map V.int)) from I.hok _ _ (hz2 z m))
    exact ⟨_, .list e rfl rfl (reads_ints rt.ints)⟩
  have ee : PySem.W.EachIs (fun v z => v = Value.ref z.1) its (as.zip T) := each_refs (fun _ => rfl) rv2
  have er : PySem.W.EachIs (fun v z => ∃ bs, Reads s.heap v (rowD z) bs) its (as.zip T) := (PySem.W.each_mem ee).mono fun v z ⟨e, m⟩ => by
    rw [e]
    exact mem z m
  have lz : (as.zip T).length = as.length := by rw [List.length_zip]; omega
  refine PySem.W.sorted_data hl.isList ee er (rows_alike _) (rows_sortable _) (by rw [lz]; rw [List.length_map] at hz; exact hz) (fun b m => by have d := row_depth b; omega) fun out lo eo => ?_
  have pm : ((as.zip T).mergeSort (PySem.W.dataLe false rowD)).Perm (as.zip T) := List.mergeSort_perm _ _
  have srt : ((as.zip T).mergeSort (PySem.W.dataLe false rowD)).Pairwise fun x y => x.2 ≤ y.2 := by
    have el : PySem.W.dataLe false rowD = fun p q : AR => decide (p.2 ≤ q.2) := PySem.W.dataLe_rows (fun z : AR => z.2)
    rw [el]
    refine (List.pairwise_mergeSort (le := fun p q : AR => decide (p.2 ≤ q.2)) (fun x y z h1 h2 => ?_) (fun x y => ?_) _).imp fun h => of_decide_eq_true h
    · exact decide_eq_true (List.le_trans (of_decide_eq_true h1) (of_decide_eq_true h2))
    · rcases List.le_total x.2 y.2 with w | w
      · exact Bool.or_eq_true_iff.mpr (.inl (decide_eq_true w))
      · exact Bool.or_eq_true_iff.mpr (.inr (decide_eq_true w))
  obtain ⟨ep, he'⟩ := PyProof.Rows.sortedAll_at s.heap its out.toArray
  have vo := vals_refs eo
  have ll : ((((as.zip T).mergeSort (PySem.W.dataLe false rowD)).map (·.1)).map V.ref).length ≤ sizeLine := by
    rw [List.length_map, List.length_map, pm.length_eq, lz]
    rw [List.length_map] at hz
    exact hz
  refine ⟨.ref _, upd H (s.heap.objs.size + 1) (.lst ((((as.zip T).mergeSort (PySem.W.dataLe false rowD)).map (·.1)).map V.ref)), I.laid (t' := s.toks) (fun _ _ => PyProof.Rows.sortedAll_old) (Nat.le_succ _) ⟨ll, out, ep, vo, he'⟩, rfl, ?_⟩
  refine q _ _ _ (rws_of fun z m => hz2 z (pm.mem_iff.mp m)) ?_ (List.pairwise_map.mpr srt) (fun b mb => ?_) (I.hok.fresh (Nat.le_succ _))
  · have z := pm.map (·.2)
    rw [e2] at z
    exact z
  · obtain ⟨y, my, rfl⟩ := List.mem_map.mp mb
    exact (List.of_mem_zip (a := y.1) (b := y.2) (pm.mem_iff.mp my)).1
end
end Vb
end L2

set_option Elab.async false
set_option linter.all false
set_option maxRecDepth 100000
set_option maxHeartbeats 4000000
/-! Vb: plain data that is tracked, dicts of names in it: its type, its repr, lists of the same. (In VbDat's place where dicts hold something.) -/
namespace L2
namespace Vb
open PySem PySem.Spec PyProof.Rows
/-- numbers, texts, truth values, None -/
def Flat (v : V) (d : PyData) : Prop := (v = .non ∧ d = .none) ∨ (∃ b, v = .bl b ∧ d = .bool b) ∨ (∃ i, v = .int i ∧ d = .int i) ∨ (∃ x, v = .str x ∧ d = .str x)
/-- v is the data d, at most n lists and tuples deep -/
def Sho : Nat → Hp → V → PyData → Prop
  | 0, _, v, d => Flat v d
  | n + 1, H, v, d => Flat v d ∨ (∃ (a : Addr) (xs : List V) (ds : List PyData), v = .ref a ∧ d = .list ds ∧ H a = some (.lst xs) ∧ Paired (Sho n H) xs ds) ∨
      (∃ (a : Addr) (xs : List V) (ds : List PyData), v = .ref a ∧ d = .tuple ds ∧ H a = some (.tup xs) ∧ Paired (Sho n H) xs ds) ∨
      (∃ (a : Addr) (kvs : List (Key × V)) (ds : List (PyData × PyData)), v = .ref a ∧ d = .dict ds ∧ H a = some (.dK kvs) ∧ Paired (fun kv e => (∃ x : Str, kv.1 = Sum.inr x ∧ e.1 = .str x) ∧ Sho n H kv.2 e.2) kvs ds)
/-- an entry of a dict is the data -/
def ShoE (n : Nat) (H : Hp) (kv : Key × V) (e : PyData × PyData) : Prop := (∃ x : Str, kv.1 = Sum.inr x ∧ e.1 = .str x) ∧ Sho n H kv.2 e.2
theorem Sho.mono {H H' : Hp} (k : ∀ b o, H b = some o → H' b = some o) : ∀ {n : Nat} {v : V} {d : PyData}, Sho n H v d → Sho n H' v d
  | 0, _, _, h => h
  | n + 1, _, _, h => by
    rcases h with h | ⟨a, xs, ds, e1, e2, e3, h⟩ | ⟨a, xs, ds, e1, e2, e3, h⟩ | ⟨a, kvs, ds, e1, e2, e3, h⟩
    · exact .inl h
    · exact .inr (.inl ⟨a, xs, ds, e1, e2, k _ _ e3, L2.Paired.mapP h fun _ _ z => Sho.mono k z⟩)
    · exact .inr (.inr (.inl ⟨a, xs, ds, e1, e2, k _ _ e3, L2.Paired.mapP h fun _ _ z => Sho.mono k z⟩))
    · exact .inr (.inr (.inr ⟨a, kvs, ds, e1, e2, k _ _ e3, L2.Paired.mapP h fun _ _ z => ⟨z.1, Sho.mono k z.2⟩⟩))
theorem Sho.up {H H' : Hp} {n : Nat} {v : V} {d : PyData} (h : Sho n H v d) (s : Same H H') : Sho n H' v d := h.mono s
theorem Sho.non {n : Nat} {H : Hp} : Sho n H .non .none := by
  cases n with
  | zero => exact .inl ⟨rfl, rfl⟩
  | succ n => exact .inl (.inl ⟨rfl, rfl⟩)
theorem Sho.bl {n : Nat} {H : Hp} (b : Bool) : Sho n H (.bl b) (.bool b) := by
  cases n with
  | zero => exact .inr (.inl ⟨b, rfl, rfl⟩)
  | succ n => exact .inl (.inr (.inl ⟨b, rfl, rfl⟩))
theorem Sho.int {n : Nat} {H : Hp} (i : Int) : Sho n H (.int i) (.int i) := by
  cases n with
  | zero => exact .inr (.inr (.inl ⟨i, rfl, rfl⟩))
  | succ n => exact .inl (.inr (.inr (.inl ⟨i, rfl, rfl⟩)))
theorem Sho.str {n : Nat} {H : Hp} (x : Str) : Sho n H (.str x) (.str x) := by
  cases n with
  | zero => exact .inr (.inr (.inr ⟨x, rfl, rfl⟩))
  | succ n => exact .inl (.inr (.inr (.inr ⟨x, rfl, rfl⟩)))
theorem Sho.lst {n : Nat} {H : Hp} {a : Addr} {xs : List V} {ds : List PyData} (h : H a = some (.lst xs)) (p : Paired (Sho n H) xs ds) : Sho (n + 1) H (.ref a) (.list ds) := .inr (.inl ⟨a, xs, ds, rfl, rfl, h, p⟩)
theorem Sho.tup {n : Nat} {H : Hp} {a : Addr} {xs : List V} {ds : List PyData} (h : H a = some (.tup xs)) (p : Paired (Sho n H) xs ds) : Sho (n + 1) H (.ref a) (.tuple ds) := .inr (.inr (.inl ⟨a, xs, ds, rfl, rfl, h, p⟩))
theorem Sho.dict {n : Nat} {H : Hp} {a : Addr} {kvs : List (Key × V)} {ds : List (PyData × PyData)} (h : H a = some (.dK kvs)) (p : Paired (ShoE n H) kvs ds) : Sho (n + 1) H (.ref a) (.dict ds) := .inr (.inr (.inr ⟨a, kvs, ds, rfl, rfl, h, p⟩))
theorem Sho.dct {n : Nat} {H : Hp} {a : Addr} (h : H a = some (.dK [])) : Sho (n + 1) H (.ref a) (.dict []) := .dict h .nil
theorem Sho.ints {n : Nat} {H : Hp} : ∀ xs : List Int, Paired (Sho n H) (xs.map V.int) (xs.map PyData.int)
  | [] => .nil
  | x :: xs => .cons (.int x) (Sho.ints xs)
theorem Sho.row {n : Nat} {H : Hp} {b : Addr} {xs : List Int} (h : Rw H b xs) : Sho (n + 1) H (.ref b) (.list (xs.map PyData.int)) := .lst h (Sho.ints xs)
theorem Sho.rows {n : Nat} {H : Hp} {as : List Addr} {T : List (List Int)} (h : Rws H as T) : Paired (Sho (n + 1) H) (as.map V.ref) (T.map fun xs => .list (xs.map PyData.int)) := by
  induction h with
  | nil => exact .nil
  | cons r _ ih => exact .cons (Sho.row r) ih
theorem Sho.mat {n : Nat} {H : Hp} {m : Addr} {as : List Addr} {T : List (List Int)} (h : H m = some (.lst (as.map V.ref))) (k : Rws H as T) : Sho (n + 2) H (.ref m) (.list (T.map fun xs => .list (xs.map PyData.int))) := .lst h (Sho.rows k)
/-! ### by their kind -/
theorem Sho.ofInt {n : Nat} {H : Hp} {v : V} {i : Int} (h : Sho n H v (.int i)) : v = .int i := by
  cases n with
  | zero => rcases h with ⟨_, e⟩ | ⟨b, _, e⟩ | ⟨j, e1, e⟩ | ⟨x, _, e⟩ <;> cases e; exact e1
  | succ n =>
    rcases h with (⟨_, e⟩ | ⟨b, _, e⟩ | ⟨j, e1, e⟩ | ⟨x, _, e⟩) | ⟨a, xs, ds, e1, e, _⟩ | ⟨a, xs, ds, e1, e, _⟩ | ⟨a, kvs, ds, e1, e, _⟩ <;> cases e
    exact e1
theorem Sho.ofBool {n : Nat} {H : Hp} {v : V} {i : Bool} (h : Sho n H v (.bool i)) : v = .bl i := by
  cases n with
  | zero => rcases h with ⟨_, e⟩ | ⟨b, e1, e⟩ | ⟨j, _, e⟩ | ⟨x, _, e⟩ <;> cases e; exact e1
  | succ n =>
    rcases h with (⟨_, e⟩ | ⟨b, e1, e⟩ | ⟨j, _, e⟩ | ⟨x, _, e⟩) | ⟨a, xs, ds, e1, e, _⟩ | ⟨a, xs, ds, e1, e, _⟩ | ⟨a, kvs, ds, e1, e, _⟩ <;> cases e
    exact e1
theorem Sho.ofNone {n : Nat} {H : Hp} {v : V} (h : Sho n H v .none) : v = .non := by
  cases n with
  | zero => rcases h with ⟨e1, e⟩ | ⟨b, _, e⟩ | ⟨j, _, e⟩ | ⟨x, _, e⟩ <;> first | exact e1 | cases e
  | succ n =>
    rcases h with (⟨e1, e⟩ | ⟨b, _, e⟩ | ⟨j, _, e⟩ | ⟨x, _, e⟩) | ⟨a, xs, ds, e1, e, _⟩ | ⟨a, xs, ds, e1, e, _⟩ | ⟨a, kvs, ds, e1, e, _⟩ <;> first | exact e1 | cases e
theorem Sho.ofStr {n : Nat} {H : Hp} {v : V} {i : Str} (h : Sho n H v (.str i)) : v = .str i := by
  cases n with
  | zero => rcases h with ⟨_, e⟩ | ⟨b, _, e⟩ | ⟨j, _, e⟩ | ⟨x, e1, e⟩ <;> cases e; exact e1
  | succ n =>
    rcases h with (⟨_, e⟩ | ⟨b, _, e⟩ | ⟨j, _, e⟩ | ⟨x, e1, e⟩) | ⟨a, xs, ds, e1, e, _⟩ | ⟨a, xs, ds, e1, e, _⟩ | ⟨a, kvs, ds, e1, e, _⟩ <;> cases e
    exact e1
theorem Sho.ofList {n : Nat} {H : Hp} {v : V} {ds : List PyData} (h : Sho n H v (.list ds)) : ∃ m a xs, n = m + 1 ∧ v = .ref a ∧ H a = some (.lst xs) ∧ Paired (Sho m H) xs ds := by
  cases n with
  | zero => rcases h with ⟨_, e⟩ | ⟨b, _, e⟩ | ⟨j, _, e⟩ | ⟨x, e1, e⟩ <;> cases e
  | succ n =>
    rcases h with (⟨_, e⟩ | ⟨b, _, e⟩ | ⟨j, _, e⟩ | ⟨x, e1, e⟩) | ⟨a, xs, ds, e1, e, e3, p⟩ | ⟨a, xs, ds, e1, e, _⟩ | ⟨a, kvs, ds, e1, e, _⟩ <;> cases e
    exact ⟨n, a, xs, rfl, e1, e3, p⟩
theorem Sho.ofTuple {n : Nat} {H : Hp} {v : V} {ds : List PyData} (h : Sho n H v (.tuple ds)) : ∃ m a xs, n = m + 1 ∧ v = .ref a ∧ H a = some (.tup xs) ∧ Paired (Sho m H) xs ds := by
  cases n with
  | zero => rcases h with ⟨_, e⟩ | ⟨b, _, e⟩ | ⟨j, _, e⟩ | ⟨x, e1, e⟩ <;> cases e
  | succ n =>
    rcases h with (⟨_, e⟩ | ⟨b, _, e⟩ | ⟨j, _, e⟩ | ⟨x, e1, e⟩) | ⟨a, xs, ds, e1, e, _⟩ | ⟨a, xs, ds, e1, e, e3, p⟩ | ⟨a, kvs, ds, e1, e, _⟩ <;> cases e
    exact ⟨n, a, xs, rfl, e1, e3, p⟩
theorem Sho.ofDict {n : Nat} {H : Hp} {v : V} {ds : List (PyData × PyData)} (h : Sho n H v (.dict ds)) : ∃ m a kvs, n = m + 1 ∧ v = .ref a ∧ H a = some (.dK kvs) ∧ Paired (ShoE m H) kvs ds := by
  cases n with
  | zero => rcases h with ⟨_, e⟩ | ⟨b, _, e⟩ | ⟨j, _, e⟩ | ⟨x, e1, e⟩ <;> cases e
  | succ n =>
    rcases h with (⟨_, e⟩ | ⟨b, _, e⟩ | ⟨j, _, e⟩ | ⟨x, e1, e⟩) | ⟨a, xs, ds, e1, e, _⟩ | ⟨a, xs, ds, e1, e, e3, p⟩ | ⟨a, kvs, ds, e1, e, e3, p⟩ <;> cases e
    exact ⟨n, a, kvs, rfl, e1, e3, p⟩
/-! ### the type -/
def zTyD (x : V) (H : Hp) : Option String :=
  match x with
  | .non => some "NoneType"
  | .bl _ => some "bool"
  | .int _ => some "int"
  | .str _ => some "str"
  | .ref p => (match H p with
    | some (.lst _) => some "list"
    | some (.tup _) => some "tuple"
    | some (.dK _) => some "dict"
    | _ => none)
  | _ => none
def tyD : PyData → String
  | .none => "NoneType"
  | .bool _ => "bool"
  | .int _ => "int"
  | .str _ => "str"
  | .list _ => "list"
  | .tuple _ => "tuple"
  | .dict _ => "dict"
theorem Sho.ty {n : Nat} {H : Hp} {v : V} {d : PyData} (h : Sho n H v d) : zTyD v H = some (tyD d) := by
  cases d with
  | none => rw [h.ofNone]; rfl
  | bool b => rw [h.ofBool]; rfl
  | int i => rw [h.ofInt]; rfl
  | str x => rw [h.ofStr]; rfl
  | list ds =>
    obtain ⟨m, a, xs, _, rfl, e, _⟩ := h.ofList
    simp only [zTyD, e]
    rfl
  | tuple ds =>
    obtain ⟨m, a, xs, _, rfl, e, _⟩ := h.ofTuple
    simp only [zTyD, e]
    rfl
  | dict ds =>
    obtain ⟨_, a, kvs, _, rfl, e, _⟩ := h.ofDict
    simp only [zTyD, e]
    rfl
def kTypD (x : V) (H : Hp) (Q : VK) : Prop := ∃ n, zTyD x H = some n ∧ Q (.ty n) H
section
variable {X : Cx}
theorem rl_typeD (pins : List (Addr × Obj)) (s : Shared) (σ : St) (H : Hp) (x : V) (v : Value) (Q : VK) (I : Inv X pins σ H s) (r : RelV x v) (h : kTypD x H Q) :
    wpAny (model X.prog X.w) X.A (call (.type "type") [v]) (EP X pins σ Q) X.xe s := by
  obtain ⟨n, e, q⟩ := h
  have fin : EP X pins σ Q (.type n) s := ⟨.ty n, H, I, rfl, q⟩
  cases x with
  | non => cases (show v = Value.none from r); cases e; exact call_type_of (Tx := "NoneType") rfl (by decide +kernel) fin
  | bl y => cases (show v = Value.bool y from r); cases e; exact call_type_of (Tx := "bool") rfl (by decide +kernel) fin
  | int i => obtain ⟨t, rfl⟩ := (show ∃ t, v = Value.int i t from r); cases e; exact call_type_of (Tx := "int") rfl (by decide +kernel) fin
  | str y => obtain ⟨t, rfl⟩ := (show ∃ t, v = Value.str y t from r); cases e; exact call_type_of (Tx := "str") rfl (by decide +kernel) fin
  | byt y => cases e
  | flt y => cases e
  | ty y => cases e
  | ref p =>
    cases (show v = Value.ref p from r)
    simp only [zTyD] at e
    cases ho : H p with
    | none => rw [ho] at e; cases e
    | some o =>
      rw [ho] at e
      have ok := I.hok p o ho
      cases o with
      | lst xs =>
        cases e
        obtain ⟨hz, its, k, r', g⟩ := ok
        exact call_type_of (Tx := "list") ⟨_, g, rfl⟩ (by decide +kernel) fin
      | tup xs =>
        cases e
        obtain ⟨hz, its, r', ob, g, c, k⟩ := ok
        exact call_type_of (Tx := "tuple") ⟨ob, g, c⟩ (by decide +kernel) fin
      | dK kvs =>
        cases e
        obtain ⟨_, _, vs, kv, o, es, ep, g, ex, _⟩ := ok
        exact call_type_of (Tx := "dict") ⟨o, g, ex.1⟩ (by decide +kernel) fin
      | _ => cases e
theorem pe_typeD {a : Expr} {ta : TE} {p pos : Pos} (hg : Gl X "type") (hm : X.mg "type" = none) (ha : PE X a ta) (na : starEach [a] X.env = (false, eval a X.env) :: starEach [] X.env := by rfl) :
    PE X (.Call (.Name "type" p) [a] [] pos) (tThenZ ta kTypD) := pe_callTy (call_r1 rl_typeD) hg hm (by decide +kernel) (pa_cons ha pa_nil na) (he := na)
end
/-! ### repr -/
/-- the modules' dict stands in the written part -/
def SysIn (K : PySem.W.Frag) : Prop := ∃ o es n, K.lookup sysModules = some o ∧ o.data = .dict es n
theorem pair_reads {h : Heap} {F : V → PyData → Prop} (g : ∀ v u d, F v d → RelV v u → ∃ as, Reads h u d as ∧ sysModules ∉ as) : ∀ {xs : List V} {us : List Value} {ds : List PyData}, Paired F xs ds → Vals xs us → ∃ as, ReadsAll h us ds as ∧ sysModules ∉ as
  | _, _, _, .nil, .nil => ⟨_, .nil, fun m => nomatch m⟩
  | _, _, _, .cons p ps, .cons r rs => by
    obtain ⟨a1, h1, n1⟩ := g _ _ _ p r
    obtain ⟨a2, h2, n2⟩ := pair_reads g ps rs
    exact ⟨_, .cons h1 h2, fun m => (List.mem_append.mp m).elim n1 n2⟩
theorem flat_reads {h : Heap} {v : V} {u : Value} {d : PyData} (f : Flat v d) (r : RelV v u) : Reads h u d [] := by
  rcases f with ⟨rfl, rfl⟩ | ⟨b, rfl, rfl⟩ | ⟨i, rfl, rfl⟩ | ⟨x, rfl, rfl⟩
  · cases (show u = Value.none from r)
    exact .none
  · cases (show u = Value.bool b from r)
    exact .bool b
  · obtain ⟨t, rfl⟩ := (show ∃ t, u = Value.int i t from r)
    exact .int i t
  · obtain ⟨t, rfl⟩ := (show ∃ t, u = Value.str x t from r)
    exact .str x t
theorem entry_reads {P : Program} {w : World} {h : Heap} {F : V → PyData → Prop} (g : ∀ v u d, F v d → RelV v u → ∃ as, Reads h u d as ∧ sysModules ∉ as) : ∀ {kvs : List (Key × V)} {ds : List (PyData × PyData)} {vs : List (Key × Value)} {es : List DictEntry},
    Paired (fun kv e => (∃ x : Str, kv.1 = Sum.inr x ∧ e.1 = .str x) ∧ F kv.2 e.2) kvs ds → KV kvs vs → Pairs (mixKind P w) es vs → ReadsAll h (es.map (·.key)) (ds.map (·.1)) [] ∧ ∃ bs, ReadsAll h (es.map (·.val)) (ds.map (·.2)) bs ∧ sysModules ∉ bs
  | [], _, _, _, .nil, .nil, .nil => ⟨.nil, _, .nil, fun m => nomatch m⟩
  | kv :: kvs, _, _, _, .cons f fs, .cons (b := b) r t, .cons (e := e) k v p => by
    obtain ⟨⟨x, ek1, ed1⟩, f2⟩ := f
    obtain ⟨e1, e2⟩ := r
    obtain ⟨z1, bs, z2, z3⟩ := entry_reads (P := P) (w := w) g fs t p
    obtain ⟨bk, bv⟩ := b
    have e1 : kv.1 = bk := e1
    obtain rfl : (Sum.inr x : Key) = bk := ek1.symm.trans e1
    have k1 : Reads h e.key (.str x) [] := by
      rcases keyIs_shape (show keyIs (Sum.inr x) e.key = true from k) with ⟨i, t, z, _⟩ | ⟨y, t, z, ey⟩
      · cases z
      · cases Sum.inr.inj z
        rw [ey]
        exact .str _ t
    obtain ⟨cs, k2, k3⟩ := g _ _ _ f2 (show RelV kv.2 bv from e2)
    refine ⟨?_, cs ++ bs, ?_, fun m => (List.mem_append.mp m).elim k3 z3⟩
    · rw [List.map_cons, List.map_cons, ed1]
      exact .cons k1 z1
    · rw [List.map_cons, List.map_cons]
      refine .cons ?_ z2
      rw [v]
      exact k2
theorem Sho.reads {P : Program} {w : World} {H : Hp} {h : Heap} (ok : HOk P w H h) (sy : ∃ o es n, h.get? sysModules = some o ∧ o.data = .dict es n) : ∀ {n : Nat} {v : V} {u : Value} {d : PyData}, Sho n H v d → RelV v u → ∃ as, Reads h u d as ∧ sysModules ∉ as
  | 0, _, _, _, f, r => ⟨_, flat_reads f r, fun m => nomatch m⟩
  | n + 1, _, u, _, f, r => by
    have deep : ∀ v u d, Sho n H v d → RelV v u → ∃ as, Reads h u d as ∧ sysModules ∉ as := fun v u d f r => Sho.reads ok sy f r
    obtain ⟨so, se, sn, s1, s2⟩ := sy
    have noS : ∀ {a : Addr} {o : Obj} {vs : Array Value} {k : Nat}, h.get? a = some o → o.data = .seq vs k → a ≠ sysModules := fun {a o vs k} e1 e2 q => by
      rw [q, s1] at e1
      cases e1
      rw [s2] at e2
      cases e2
    rcases f with f | ⟨a, xs, ds, rfl, rfl, e3, f⟩ | ⟨a, xs, ds, rfl, rfl, e3, f⟩ | ⟨a, kvs, ds, rfl, rfl, e3, f⟩
    · exact ⟨_, flat_reads f r, fun m => nomatch m⟩
    · obtain ⟨_, its, m, rv, e⟩ := (show ObjOk P w H h a (.lst xs) from ok a _ e3)
      obtain ⟨as, z, nz⟩ := pair_reads deep f rv
      cases (show u = Value.ref a from r)
      exact ⟨_, .list e rfl rfl z, fun q => (List.mem_cons.mp q).elim (fun q => noS e rfl q.symm) nz⟩
    · obtain ⟨_, its, rv, o, e, ec, m, ed⟩ := (show ObjOk P w H h a (.tup xs) from ok a _ e3)
      obtain ⟨as, z, nz⟩ := pair_reads deep f rv
      cases (show u = Value.ref a from r)
      exact ⟨_, .tuple e ec ed z, nz⟩
    · obtain ⟨_, ns, vs, kv, o, es, ep, e, ex, ed, ks, prs, _⟩ := (show ObjOk P w H h a (.dK kvs) from ok a _ e3)
      obtain ⟨z1, bs, z2, z3⟩ := entry_reads (P := P) (w := w) deep f kv prs
      cases (show u = Value.ref a from r)
      refine ⟨_, .dict (as := []) (bs := bs) e ex.1 ed ?_ ?_, fun hm => ?_⟩
      · exact z1
      · exact z2
      · rcases List.mem_append.mp hm with q | q
        · rw [← List.mem_singleton.mp q] at ns
          simp at ns
        · exact z3 q
/-- repr(v) of such data -/
def rShow : List V → Hp → VK → Prop := fun xs H Q => ∃ (v : V) (d : PyData) (n : Nat), xs = [v] ∧ Sho n H v d ∧ d.showable = true ∧ d.depth ≤ 30 ∧ d.shown.length ≤ sizeLine ∧ Q (.str d.shown) H
theorem call_repr {X : Cx} (hgd : X.A.guards = some []) (hu : X.A.units + 64 < cLine) (sy : SysIn X.K) : CallR X (.builtin "repr") rShow := by
  intro pins s σ H xs us Q I r h
  obtain ⟨v, d, n, rfl, f, hs, hd, hz, q⟩ := h
  obtain ⟨u, rfl, rv⟩ : ∃ u, us = [u] ∧ RelV v u := by
    cases r with
    | cons r1 r2 =>
      cases r2
      exact ⟨_, rfl, r1⟩
  obtain ⟨so, se, sn, s1, s2⟩ := sy
  obtain ⟨as, rd, ns⟩ := f.reads I.hok ⟨so, se, sn, I.kIn _ _ s1, s2⟩ rv
  have ns : d.hasDict = true → sysModules ∉ as := fun _ => ns
  cases rd with
  | none => exact PySem.P.repr_of_none ⟨.str _, H, I.tok _, ⟨_, rfl⟩, q⟩
  | bool b => exact PySem.P.repr_of_bool ⟨.str _, H, I.tok _, ⟨_, rfl⟩, q⟩
  | int i t => exact PySem.P.repr_of_int (by simpa [PyData.showable] using hs) ⟨.str _, H, I.tok _, ⟨_, rfl⟩, q⟩
  | str x t => exact PySem.P.repr_of_str ⟨.str _, H, I.tok _, ⟨_, rfl⟩, q⟩ hz
  | list h1 h2 h3 h4 => exact repr_of_reads' (.list h1 h2 h3 h4) hs ns hgd (by omega) (fun _ _ e => e) (fun h' t tk k => ⟨.str _, H, I.kept (t' := tk) k, ⟨_, rfl⟩, q⟩) hz
  | tuple h1 h2 h3 h4 => exact repr_of_reads' (.tuple h1 h2 h3 h4) hs ns hgd (by omega) (fun _ _ e => e) (fun h' t tk k => ⟨.str _, H, I.kept (t' := tk) k, ⟨_, rfl⟩, q⟩) hz
  | dict h1 h2 h3 h4 h5 => exact repr_of_reads' (.dict h1 h2 h3 h4 h5) hs ns hgd (by omega) (fun _ _ e => e) (fun h' t tk k => ⟨.str _, H, I.kept (t' := tk) k, ⟨_, rfl⟩, q⟩) hz
/-! ### lists of one text and the very same thing -/
section
variable {X : Cx}
/-- the answer of == of two things that are the same, or both flat -/
def EqS (x y : V) (b : Bool) : Prop := (x = y ∧ (flatV x = true ∨ ∃ a, x = .ref a) ∧ b = true) ∨ (flatV x = true ∧ flatV y = true ∧ b = eqV x y)
theorem eqV_same {x : V} (h : flatV x = true) : eqV x x = true := by
  cases x with
  | non => rfl
  | bl b => exact beq_self_eq_true b
  | int b => exact beq_self_eq_true b
  | str b => exact beq_self_eq_true b
  | _ => exact absurd (show false = true from h) Bool.false_ne_true
theorem eqS_at {A : Around} {s : Shared} {x y : V} {u v : Value} {b : Bool} (h : EqS x y b) (rx : RelV x u) (ry : RelV y v) : SeqAt.EqAt A s u v b := by
  rcases h with ⟨rfl, h | ⟨a, rfl⟩, rfl⟩ | ⟨h1, h2, rfl⟩
  · have z := eqAt_V (A := A) (s := s) rx ry h h
    rw [eqV_same h] at z
    exact z
  · cases (show u = Value.ref a from rx)
    cases (show v = Value.ref a from ry)
    exact SeqAt.EqAt.same _
  · exact eqAt_V rx ry h1 h2
def rEqL : R2 := fun x y H Q => ∃ (a b : Addr) (x1 x2 y1 y2 : V) (b1 b2 : Bool), x = .ref a ∧ y = .ref b ∧ H a = some (.lst [x1, x2]) ∧ H b = some (.lst [y1, y2]) ∧ EqS x1 y1 b1 ∧ EqS x2 y2 b2 ∧ Q (.bl (b1 && b2)) H
def rNeL : R2 := fun x y H Q => ∃ (a b : Addr) (x1 x2 y1 y2 : V) (b1 b2 : Bool), x = .ref a ∧ y = .ref b ∧ H a = some (.lst [x1, x2]) ∧ H b = some (.lst [y1, y2]) ∧ EqS x1 y1 b1 ∧ EqS x2 y2 b2 ∧ Q (.bl (!(b1 && b2))) H
theorem two_vals {x1 x2 : V} {its : List Value} (r : Vals [x1, x2] its) : ∃ u1 u2, its = [u1, u2] ∧ RelV x1 u1 ∧ RelV x2 u2 := by
  cases r with
  | cons r1 r =>
    cases r with
    | cons r2 r =>
      cases r
      exact ⟨_, _, rfl, r1, r2⟩
theorem op_eqL (hu : X.A.units < cLine) : OpR X (compareOp .Eq) rEqL := by
  intro pins s σ H x y v u Q I rx ry h
  obtain ⟨a, b, x1, x2, y1, y2, b1, b2, rfl, rfl, ha, hb, h1, h2, q⟩ := h
  cases rx
  cases ry
  obtain ⟨_, its, n, r, _, e⟩ := I.lstM ha
  obtain ⟨_, jts, m, r2, _, e2⟩ := I.lstM hb
  obtain ⟨u1, u2, rfl, p1, p2⟩ := two_vals r
  obtain ⟨w1, w2, rfl, q1, q2⟩ := two_vals r2
  have il : s.heap.IsList a [u1, u2].toArray := ⟨_, e, rfl, n, rfl⟩
  have jl : s.heap.IsList b [w1, w2].toArray := ⟨_, e2, rfl, m, rfl⟩
  refine SeqAt.eq_listAt (e := fun j => if j = 0 then b1 else b2) il jl rfl hu (fun j k1 k2 => ?_) ?_
  · match j, k1, k2 with
    | 0, _, _ => exact eqS_at h1 p1 q1
    | 1, _, _ => exact eqS_at h2 p2 q2
  · refine ⟨.bl _, H, I, rfl, ?_⟩
    have e3 : ((List.range [u1, u2].toArray.size).all fun j => if j = 0 then b1 else b2) = (b1 && b2) := by
      show (b1 && (b2 && true)) = (b1 && b2)
      rw [Bool.and_true]
    rw [e3]
    exact q
theorem op_neL (hu : X.A.units < cLine) : OpR X (compareOp .NotEq) rNeL := by
  intro pins s σ H x y v u Q I rx ry h
  obtain ⟨a, b, x1, x2, y1, y2, b1, b2, rfl, rfl, ha, hb, h1, h2, q⟩ := h
  cases rx
  cases ry
  obtain ⟨_, its, n, r, _, e⟩ := I.lstM ha
  obtain ⟨_, jts, m, r2, _, e2⟩ := I.lstM hb
  obtain ⟨u1, u2, rfl, p1, p2⟩ := two_vals r
  obtain ⟨w1, w2, rfl, q1, q2⟩ := two_vals r2
  have il : s.heap.IsList a [u1, u2].toArray := ⟨_, e, rfl, n, rfl⟩
  have jl : s.heap.IsList b [w1, w2].toArray := ⟨_, e2, rfl, m, rfl⟩
  refine SeqAt.RcNeAt.lists (e := fun j => if j = 0 then b1 else b2) il jl rfl hu (fun j k1 k2 => ?_) _ _ _ _ ?_
  · match j, k1, k2 with
    | 0, _, _ => exact eqS_at h1 p1 q1
    | 1, _, _ => exact eqS_at h2 p2 q2
  · refine ⟨.bl _, H, I, rfl, ?_⟩
    have e3 : ((List.range [u1, u2].toArray.size).all fun j => if j = 0 then b1 else b2) = (b1 && b2) := by
      show (b1 && (b2 && true)) = (b1 && b2)
      rw [Bool.and_true]
    rw [e3]
    exact q
end
end Vb
end L2

set_option Elab.async false
set_option linter.all false
set_option maxRecDepth 100000
set_option maxHeartbeats 0
/-! Vb, part 1: the head. -/
namespace L2
namespace Vb
open PySem PySem.Spec PyProof.Rows
abbrev Pw : Program := PySem.Challenge.pw_truestops_k88_whole_script_texts
def topS (i : Nat) : Stmt := Pw.main.body.getD i (.Pass ⟨0, 0, 0, 0⟩)
def dG (x : Str) (i : Nat) : He.DefD := ⟨(x, none), x, x, defArgs (topS i), defBody (topS i), defScope (topS i), [], []⟩
def defs : List (Str × Nat) := [(("is_count" : Str), (6 : Nat)), (("is_name" : Str), (7 : Nat)), (("sum_words" : Str), (9 : Nat)), (("read_count" : Str), (13 : Nat)), (("read_sum" : Str), (14 : Nat)), (("is_row_holder" : Str), (16 : Nat)), (("is_holder" : Str), (17 : Nat)), (("is_written_sum" : Str), (19 : Nat)), (("are_labels" : Str), (20 : Nat)), (("is_mark_form" : Str), (21 : Nat)), (("path_words" : Str), (22 : Nat)), (("mark_words" : Str), (23 : Nat)), (("read_sum_words" : Str), (24 : Nat)), (("read_path_words" : Str), (25 : Nat)), (("read_mark_words" : Str), (26 : Nat)), (("is_command" : Str), (32 : Nat)), (("is_script" : Str), (33 : Nat)), (("require_script" : Str), (34 : Nat)), (("command_lines" : Str), (35 : Nat)), (("script_lines" : Str), (36 : Nat)), (("script_text" : Str), (37 : Nat)), (("read_command" : Str), (38 : Nat)), (("read_script_lines" : Str), (39 : Nat)), (("read_script" : Str), (40 : Nat)), (("_law_purse" : Str), (42 : Nat)), (("_law_mixed" : Str), (43 : Nat)), (("_law_draw" : Str), (44 : Nat)), (("_law_purses" : Str), (45 : Nat)), (("_law_one_of" : Str), (46 : Nat)), (("_law_shuffled" : Str), (47 : Nat)), (("_law_drawn_prime" : Str), (48 : Nat)), (("_law_told_dict" : Str), (49 : Nat)), (("_law_command" : Str), (50 : Nat)), (("_law_script" : Str), (51 : Nat)), (("_law_many" : Str), (52 : Nat)), (("_law_sum_line" : Str), (53 : Nat)), (("_law_script_lines" : Str), (54 : Nat)), (("_law_refused" : Str), (55 : Nat)), (("_law_is_bent" : Str), (56 : Nat)), (("_law_spoilt" : Str), (57 : Nat)), (("_law_odd_texts" : Str), (58 : Nat)), (("law" : Str), (59 : Nat))]
/-- the first statement of a class -/
def initOf : Stmt → Stmt
  | .ClassDef (body := b) .. => b.getD 0 (.Pass ⟨0, 0, 0, 0⟩)
  | s => s
def dI (x q : Str) (i : Nat) : He.DefD := ⟨(x, some "__init__"), "__init__", q, defArgs (initOf (topS i)), defBody (initOf (topS i)), defScope (initOf (topS i)), [.non], []⟩
def kinds : List Str := [("InvalidText" : Str), ("InvalidScript" : Str)]
def inits : List (Str × Str × Nat) := [(("InvalidText" : Str), ("InvalidText.__init__" : Str), 2), (("InvalidScript" : Str), ("InvalidScript.__init__" : Str), 3)]
def fn : List He.DefD := (defs.map fun z => dG z.1 z.2) ++ inits.map fun z => dI z.1 z.2.1 z.2.2
def frees : List Str := [("ValueError" : Str), ("all" : Str), ("dict" : Str), ("int" : Str), ("isinstance" : Str), ("len" : Str), ("list" : Str), ("max" : Str), ("min" : Str), ("range" : Str), ("repr" : Str), ("sorted" : Str), ("str" : Str), ("sum" : Str), ("tuple" : Str), ("type" : Str)]
def fa : List He.Fa := frees.map He.Fa.free ++ (([He.Fa.int "LONGEST_NAME" 8, He.Fa.int "MOST_DIGITS" 400] ++ [He.Fa.str "DIGITS" "0123456789", He.Fa.str "LEAD" "  "]) ++ (((defs.map fun z => He.Fa.glo z.1) ++ (("StopError" : Str) :: kinds).map He.Fa.glo) ++ [He.Fa.glo "BARE", He.Fa.glo "LETTERS", He.Fa.glo "WITH_SUMS"]))
def loose : List Str := [("LONGEST_NAME" : Str), ("DIGITS" : Str), ("MOST_DIGITS" : Str), ("LEAD" : Str), ("BARE" : Str), ("LETTERS" : Str), ("WITH_SUMS" : Str), ("StopError" : Str), ("InvalidText" : Str), ("InvalidScript" : Str), ("is_count" : Str), ("is_name" : Str), ("sum_words" : Str), ("read_count" : Str), ("read_sum" : Str), ("is_row_holder" : Str), ("is_holder" : Str), ("is_written_sum" : Str), ("are_labels" : Str), ("is_mark_form" : Str), ("path_words" : Str), ("mark_words" : Str), ("read_sum_words" : Str), ("read_path_words" : Str), ("read_mark_words" : Str), ("is_command" : Str), ("is_script" : Str), ("require_script" : Str), ("command_lines" : Str), ("script_lines" : Str), ("script_text" : Str), ("read_command" : Str), ("read_script_lines" : Str), ("read_script" : Str), ("_law_purse" : Str), ("_law_mixed" : Str), ("_law_draw" : Str), ("_law_purses" : Str), ("_law_one_of" : Str), ("_law_shuffled" : Str), ("_law_drawn_prime" : Str), ("_law_told_dict" : Str), ("_law_command" : Str), ("_law_script" : Str), ("_law_many" : Str), ("_law_sum_line" : Str), ("_law_script_lines" : Str), ("_law_refused" : Str), ("_law_is_bent" : Str), ("_law_spoilt" : Str), ("_law_odd_texts" : Str)]
def veT : List Value := [.type "ValueError", .type "Exception", .type "BaseException", .type "object"]
def tailOf (K : PySem.W.Frag) : List Value := .ref (He.ga K "StopError") :: veT
/-- the class object stands as it should: tl is what its bases bring -/
def clsOk (K : PySem.W.Frag) (tl : List Value) (x : Str) : Bool := (match K.lookup (He.ga K x) with
  | some ⟨.type "type", _, .cls cd, sl⟩ => (match sl.toList with
    | [_, _, _, _, some (.builtin n), _] => n == "ValueError.__new__" && (cd.mro == (.ref (He.ga K x) :: tl) && (cd.hasDict && !cd.hasDel))
    | _ => false)
  | _ => false)
def clsMore (K : PySem.W.Frag) (x : Str) : Bool :=
  He.eqO (PySem.W.findIn K (.ref (He.ga K x)) "__setattr__") (some (some (.builtin "object.__setattr__"))) &&
  (He.eqO (PySem.W.findIn K (.ref (He.ga K x)) "__getattribute__") (some (some (.builtin "BaseException.__getattribute__"))) &&
  (He.eqO (PySem.W.findIn K (.ref (He.ga K x)) "__getattr__") (some none) &&
  (He.eqO (PySem.W.findIn K (.ref (He.ga K x)) "__class__") (some (some (.builtin "object.__class__"))) &&
  (He.eqO (PySem.W.findIn K (.ref (He.ga K x)) "value") (some none) &&
  (PySem.W.keepIn K (.ref (He.ga K x)))))))
def initOk (K : PySem.W.Frag) (x : Str) : Bool :=
  He.eqO (PySem.W.findIn K (.ref (He.ga K x)) "__init__") (some (some (.ref (He.ma K (He.ga K x) "__init__")))) && PySem.W.isFn K (.ref (He.ma K (He.ga K x) "__init__"))
def nodupB : List Nat → Bool
  | [] => true
  | a :: r => !(r.contains a) && nodupB r
def clsB (K : PySem.W.Frag) : Bool := (kinds.all fun x => clsOk K (tailOf K) x && (clsMore K x && initOk K x)) && ((clsOk K veT "StopError" && clsMore K "StopError") && nodupB ((("StopError" : Str) :: kinds).map (He.ga K)))
def sysB (K : PySem.W.Frag) : Bool := match K.lookup PySem.sysModules with
  | some o => (match o.data with
    | .dict _ _ => true
    | _ => false)
  | none => false
def BARE_S : List Str := [("go" : Str), ("undo" : Str), ("redo" : Str), ("here" : Str), ("beats" : Str), ("would" : Str)]
def LETTERS_S : List Str := [("number" : Str), ("choice" : Str)]
def WITH_SUMS_S : List Str := [("read" : Str), ("move" : Str), ("suppose" : Str), ("put" : Str)]
def exB (K : PySem.W.Frag) : Bool := He.tupB K "BARE" (BARE_S.map He.Dv.str) && (He.tupB K "LETTERS" (LETTERS_S.map He.Dv.str) && (He.tupB K "WITH_SUMS" (WITH_SUMS_S.map He.Dv.str)))
def ex (K : PySem.W.Frag) : Bool := exB K && (clsB K && sysB K)
abbrev R : PySem.W.OpenRow := PySem.W.OpenLaw.row PySem.Challenge.rw_truestops_k88_whole_script_texts
/-! the Hook, with one address more -/
def asY (g : Addr → Option Obj) : List Addr := PySem.sysModules :: He.asD g 5
abbrev frY (g : Addr → Option Obj) : PySem.W.Frag := He.frT g (asY g)
abbrev AlY : Type := He.AlT × Bool
def obY (g : Addr → Option Obj) : AlY := (He.obsT fa fn [] (frY g), ex (frY g))
def valY (w : World) : AlY := (He.valT fn [] w, true)
structure Says (w : World) (K : PySem.W.Frag) : Prop where
  t : He.SaysT fa fn [] w K
  more : ex K = true
def hk : PySem.W.Hook where
  α := AlY
  obs := fun s => obY s.heap.get?
  val := fun w => valY w
  says := fun w h => ∃ K : PySem.W.Frag, K.In h ∧ Says w K
  of := fun _ _ e => ⟨_, He.frT_in, ⟨congrArg (fun z : AlY => z.1) e, congrArg (fun z : AlY => z.2) e⟩⟩
  keeps := fun _ _ _ ⟨K, hK, c⟩ k => ⟨K, PySem.W.Frag.In.keeps hK k, c⟩
def ob (s : PySem.W.SharedT) : AlY := obY (HandSHeadRun.getT s)
theorem obY_eq {g : Addr → Option Obj} {s : Shared} (h : ∀ a, g a = s.heap.get? a) : obY g = hk.obs s := by
  have e : g = s.heap.get? := funext h
  rw [e] <;> rfl
theorem ob_eq (s : PySem.W.SharedT) : ob s = hk.obs s.abs := obY_eq (HandSHeadRun.getT_eq s)
open HandSHeadRun PySem.W in
theorem run_a (w : World) : (wholeF (fun p => stepQ (denQ tabQ) p w) fenceQ 40000 R.prog).map (fun x => looksF R.prog x.1.heap x.2.abs) = some true := by kernel_rfl
open HandSHeadRun PySem.W in
theorem run_b (w : World) : (wholeF (fun p => stepQ (denQ tabQ) p w) fenceQ 40000 R.prog).map (fun x => seenQ (view R.prog [59]) loose (importedModules R.prog.main.body) (fun s => xlAt (view R.prog [59]) [] s && recOk R.toRowW.records s) x.2.abs) = some (openGood (view R.prog [59]) loose) := by kernel_rfl
abbrev frS (s : PySem.W.SharedT) : PySem.W.Frag := frY (HandSHeadRun.getT s)
open HandSHeadRun PySem.W in
theorem run_c1 (w : World) : (wholeF (fun p => stepQ (denQ tabQ) p w) fenceQ 40000 R.prog).map (fun x => exB (frS x.2)) = some true := by kernel_rfl
open HandSHeadRun PySem.W in
theorem run_c2 (w : World) : (wholeF (fun p => stepQ (denQ tabQ) p w) fenceQ 40000 R.prog).map (fun x => clsB (frS x.2)) = some true := by kernel_rfl
open HandSHeadRun PySem.W in
theorem run_c3 (w : World) : (wholeF (fun p => stepQ (denQ tabQ) p w) fenceQ 40000 R.prog).map (fun x => sysB (frS x.2)) = some true := by kernel_rfl
theorem three {α : Type} {o : Option α} {f g h : α → Bool} (hf : o.map f = some true) (hg : o.map g = some true) (hh : o.map h = some true) : o.map (fun s => f s && (g s && h s)) = some true := by
  cases o with
  | none => cases hf
  | some x =>
    have a : f x = true := Option.some.inj hf
    have b : g x = true := Option.some.inj hg
    have c : h x = true := Option.some.inj hh
    show some (f x && (g x && h x)) = some true
    rw [a, b, c]
    rfl
open HandSHeadRun PySem.W in
theorem run_c (w : World) : (wholeF (fun p => stepQ (denQ tabQ) p w) fenceQ 40000 R.prog).map (fun x => (ob x.2).2) = some true := three (run_c1 w) (run_c2 w) (run_c3 w)
open HandSHeadRun PySem.W in
theorem run_d (w : World) : (wholeF (fun p => stepQ (denQ tabQ) p w) fenceQ 40000 R.prog).map (fun x => (ob x.2).1) = some (He.valT fn [] w) := by kernel_rfl
/-- four looks at one end are one look -/
theorem four {α β γ δ ε : Type} {o : Option α} {f : α → β} {g : α → γ} {h : α → δ} {k : α → ε} {b : β} {c : γ} {d : δ} {e : ε} (hf : o.map f = some b) (hg : o.map g = some c) (hh : o.map h = some d) (hk : o.map k = some e) :
    o.map (fun s => (f s, g s, (h s, k s))) = some (b, c, (d, e)) := by
  cases o with
  | none => cases hf
  | some x =>
    cases hf
    cases hg
    cases hh
    cases hk
    rfl
theorem run (w : World) : HandSHeadRun.RunEqI R (PySem.W.view R.prog [59]) hk ob 40000 loose w := by
  have z := four (run_a w) (run_b w) (run_d w) (run_c w)
  exact z
end Vb
end L2

set_option Elab.async false
set_option linter.all false
set_option maxRecDepth 100000
set_option maxHeartbeats 4000000
/-! Vb, part 3: calls that the layer lacks: a global that is a built-in, isqrt, all of numbers. -/
namespace L2
namespace Vb
open PySem PySem.Spec PyProof.Rows
section
variable {X : Cx} {x : Str} {id : String} {r : List V → Hp → VK → Prop} {p pos : Pos} {e : Expr} {es : List Expr} {t : TA}
/-- f(e, ..), f an imported built-in -/
theorem pe_callImp (hc : CallR X (.builtin id) r) (hg : Gl X x) (hm : X.mg x = some (.builtin id)) (ha : PA X (e :: es) t) (hdb : (x == ("__debug__" : Str)) = false := by decide)
    (he : starEach (e :: es) X.env = (false, eval e X.env) :: starEach es X.env := by rfl) (hpl : (backTo pos (starEach es X.env)).any (·.1) = false := by rfl) : PE X (.Call (.Name x p) (e :: es) [] pos) (tCB r t) := by
  refine ⟨fun pins s σ H Q I h => ?_⟩
  refine wpAny_Call_Name_kw (ld_glob I hg hm ?_ hdb)
  exact PyProof.Rows.callWith_builtin1 (thn (ha.run pos pins s σ H _ I h) fun us s1 ⟨vs, H1, I1, r1, q1⟩ => hc pins s1 σ H1 vs us Q I1 r1 q1) he hpl
def rGcd : List V → Hp → VK → Prop := fun vs H Q => ∃ a b : Int, vs = [V.int a, V.int b] ∧ Q (.int ((a.natAbs.gcd b.natAbs : Nat) : Int)) H
theorem cr_gcd : CallR X (.builtin "math.gcd") rGcd := by
  intro pins s σ H vs us Q I rr h
  obtain ⟨a, b, rfl, q⟩ := h
  obtain ⟨u, v, rfl, ru, rv⟩ := vals2 rr
  obtain ⟨tk, rfl⟩ := (show ∃ tk, u = Value.int a tk from ru)
  obtain ⟨tl, rfl⟩ := (show ∃ tk, v = Value.int b tk from rv)
  exact PySem.W.mg_gcd fun _ => ⟨.int _, H, I.kept (t' := s.toks + 1) fun b o eo => eo, ⟨_, rfl⟩, q⟩
def rIsqrt : List V → Hp → VK → Prop := fun vs H Q => ∃ a : Int, vs = [V.int a] ∧ 0 ≤ a ∧ a < 2 ^ 64 ∧ Q (.int ((Float64.isqrt a.toNat : Nat) : Int)) H
theorem cr_isqrt : CallR X (.builtin "math.isqrt") rIsqrt := by
  intro pins s σ H vs us Q I rr h
  obtain ⟨a, rfl, h0, h1, q⟩ := h
  obtain ⟨u, rfl, ru⟩ := vals1 rr
  obtain ⟨tk, rfl⟩ := (show ∃ tk, u = Value.int a tk from ru)
  exact PySem.W.mg_isqrt h0 h1 ⟨.int _, H, I.kept (t' := s.toks + 1) fun b o eo => eo, ⟨_, rfl⟩, q⟩
theorem truth_ints {prog : Program} {w : World} {A : Around} {its : List Value} {ns : List Int} (e : IntsAre its ns) :
    TruthOf prog w A (fun i v => its.toArray[i]? = some v) (fun i => decide (ns.getD i 0 ≠ 0)) := fun i v s Q E hv hq => by
  have hv' : its[i]? = some v := by simpa using hv
  have key : ∃ n t, v = Value.int n t ∧ ns.getD i 0 = n := by
    clear hq hv
    induction e generalizing i with
    | nil => cases hv'
    | cons n t r ih =>
      cases i with
      | zero =>
        cases hv'
        exact ⟨n, t, rfl, rfl⟩
      | succ i => exact ih i hv'
  obtain ⟨n, t, rfl, en⟩ := key
  have hq' : Q (decide (ns.getD i 0 ≠ 0)) s := hq
  rw [en] at hq'
  have eb : (n != 0) = decide (n ≠ 0) := by
    by_cases h : n = 0
    · rw [h]
      rfl
    · rw [decide_eq_true h]
      exact bne_iff_ne.mpr h
  have hq2 : Q (n != 0) s := by
    rw [eb]
    exact hq'
  first | exact truthy_int hq2 | exact PyProof.Rows.truthy_int hq2 | exact PureInt.truthy_int hq2 | exact PySem.PureInt.truthy_int hq2 | exact PyProof.Rows.RuleU_int.truthy_int hq2
def rAllI (K : PySem.W.Frag) : List V → Hp → VK → Prop := fun vs H Q => ∃ (a : Addr) (ns : List Int), vs = [V.ref a] ∧ SqL K H a (ns.map V.int) ∧ Q (.bl (ns.all fun n => decide (n ≠ 0))) H
theorem all_rangeI : ∀ ns : List Int, (List.range ns.length).all (fun i => decide (ns.getD i 0 ≠ 0)) = ns.all fun n => decide (n ≠ 0)
  | [] => rfl
  | n :: ns => by
    rw [List.length_cons, List.range_succ_eq_map, List.all_cons, List.all_map, List.all_cons, ← all_rangeI ns]
    rfl
theorem cr_allI (hc : X.calm = true) : CallR X (.builtin "all") (rAllI X.K) := by
  intro pins s σ H vs us Q I r h
  obtain ⟨a, ns, rfl, hs, q⟩ := h
  obtain ⟨its, rv, hl, _⟩ := I.list hs
  rw [Vals.ref1 r]
  have hi := rv.ints
  refine call_all_walk (iter_any hl.isList fun s₂ e2 st hne => ?_)
  subst e2
  refine ⟨_, _, _, _, _, _, _, rfl, Walks.list (A := X.A.in1) (I.ok.hd hc) _ a hne its.toArray, st, truth_ints hi, fun h' tk hk => ?_⟩
  refine ⟨.bl _, H, I.kept fun b o eo => hk b o (fun hmem => ?_) (Heap.get?_push_of_some _ eo), ?_, q⟩
  · rcases List.mem_cons.mp hmem with e1 | hmem
    · exact absurd (e1 ▸ Heap.lt_size eo) (Nat.lt_irrefl _)
    · cases hmem
  · show Value.bool _ = Value.bool _
    rw [← all_rangeI, List.size_toArray, hi.length]
end
end Vb
end L2

set_option Elab.async false
set_option linter.all false
set_option maxRecDepth 100000
set_option maxHeartbeats 4000000
/-! Vb, part 4: numbers. -/
namespace L2
namespace Vb
open PySem PySem.Spec PyProof.Rows
theorem fun_of {K : PySem.W.Frag} {x q : Str} {st : Stmt} {f : Addr} {fd : FuncData} (F : FunD K x q (defArgs st) (defBody st) (defScope st) [] [] f fd) : Fun K x q st f fd := by
  obtain ⟨⟨oc, od, dV, kV, doc, pm, an, cdv, ct, osl, e, lk, hc, hD, _⟩, kp⟩ := F
  rcases hD with ⟨_, rfl⟩ | ⟨z, _⟩
  · exact ⟨⟨oc, od, kV, doc, pm, an, cdv, ct, osl, e, lk, hc⟩, kp⟩
  · exact absurd rfl z
abbrev sCount : Stmt := topS 6
theorem boot_int : bootBuiltins ("int" : Str) = some (.type "int") := by decide +kernel
theorem boot_list : bootBuiltins ("list" : Str) = some (.type "list") := by decide +kernel
theorem rel_int : RelV (.ty "int") (.type "int") := rfl
theorem rel_list : RelV (.ty "list") (.type "list") := rfl
def spCount : Sp := fun vs H Q _ => ∃ i : Int, vs = [.int i] ∧ Q (.bl (decide (0 ≤ i))) H
/-- the primes that the law asks of -/
def goods : List Int := [2, 3, 5, 7, 101, 251, 257, 4099, 65521, 65537]
abbrev smallProduct : Int := 64266330917908644872330635228106713310880186591609208114244758680898150367880703152525200743234420230
abbrev Prm (p : Nat) : Prop := ∀ d, 2 ≤ d → d < p → p % d ≠ 0
theorem prm_of {p : Nat} (hp : p < 257 * 257) (h : ((List.range 257).all fun d => decide (d < 2) || (decide (p ≤ d) || decide (p % d ≠ 0))) = true) : Prm p := fun d d2 dp e => by
  have key : ∀ k, 2 ≤ k → k < 257 → k < p → p % k ≠ 0 := fun k k2 k3 k4 => by
    have z := List.all_eq_true.mp h k (List.mem_range.mpr k3)
    rcases Bool.or_eq_true_iff.mp z with q | q
    · have := of_decide_eq_true q
      omega
    · rcases Bool.or_eq_true_iff.mp q with q | q
      · have := of_decide_eq_true q
        omega
      · exact of_decide_eq_true q
  by_cases q : d < 257
  · exact key d d2 q dp e
  · obtain ⟨c, hc⟩ := Nat.dvd_of_mod_eq_zero e
    have c257 : c < 257 := by
      refine Nat.lt_of_not_le fun z => ?_
      have z2 : 257 * 257 ≤ d * c := Nat.mul_le_mul (by omega) z
      omega
    have c2 : 2 ≤ c := by
      rcases Nat.lt_or_ge c 2 with z | z
      · have z2 : c = 0 ∨ c = 1 := by omega
        rcases z2 with z2 | z2
        · rw [z2, Nat.mul_zero] at hc
          omega
        · rw [z2, Nat.mul_one] at hc
          omega
      · exact z
    refine key c c2 c257 (by omega) ?_
    rw [hc]
    exact Nat.mul_mod_left d c
def goodP (p : Int) : Bool := decide (2 ≤ p) && (decide (p ≤ 65537) && (decide (p.toNat < 257 * 257) && ((List.range 257).all fun d => decide (d < 2) || (decide (p.toNat ≤ d) || decide (p.toNat % d ≠ 0)))))
theorem goodP_all : goods.all goodP = true := by decide +kernel
theorem good_prm {p : Nat} (h : (p : Int) ∈ goods) : 2 ≤ p ∧ p ≤ 65537 ∧ Prm p := by
  have z := List.all_eq_true.mp goodP_all _ h
  obtain ⟨a, z⟩ := He.ba z
  obtain ⟨b, z⟩ := He.ba z
  obtain ⟨c, z⟩ := He.ba z
  have a' := of_decide_eq_true a
  have b' := of_decide_eq_true b
  have c' := of_decide_eq_true c
  rw [Int.toNat_natCast] at c' z
  exact ⟨by omega, by omega, prm_of c' z⟩
theorem same_rfl {H : Hp} : Same H H := fun _ _ e => e
theorem same_trans {H H1 H2 : Hp} (a : Same H H1) (b : Same H1 H2) : Same H H2 := fun x o e => b x o (a x o e)
theorem same_new {H : Hp} {a : Addr} {o : HO} (h : H a = none) : Same H (upd H a o) := fun b u e => by rw [upd_ne (ne_of_none e h)]; exact e
theorem same_set {H H' : Hp} {a : Addr} {o : HO} (x : Same H H') (h : H a = none) : Same H (upd H' a o) := fun b u e => by rw [upd_ne (ne_of_none e h)]; exact x b u e
theorem pe_gint {X : Cx} {x : Str} {i : Int} {p : Pos} (hg : Gl X x) (h : ∃ t, X.mg x = some (.int i t)) (hd : (x == ("__debug__" : Str)) = false := by decide) : PE X (.Name x p) (tC (.int i)) := h.elim fun t e => pe_glob (v := .int i) hg e ⟨t, rfl⟩ hd
theorem tyes {σ : St} {H : Hp} {A B : Hp → Prop} (h : A H) : tYes σ H (fun b H3 => if b = true then A H3 else B H3) := iteT (B := B H) h
def spPrime : Sp := fun vs H Q _ => ∃ p : Int, vs = [.int p] ∧ p ∈ goods ∧ ∀ H', Same H H' → Q (.bl true) H'
section
variable {P : Program} {w : World} {K : PySem.W.Frag} {mg : Str → Option Value} {base : Heap}
theorem scCount : FnScope ["value"] ["value"] (defScope sCount) := ⟨rfl, rfl, rfl, by decide +kernel, rfl, by decide +kernel, by decide +kernel⟩
theorem ok_count {f : Addr} {fd : FuncData} (F : Fun K "is_count" "is_count" sCount f fd) (gT : mg "type" = none) (gI : mg "int" = none) : FnOk P w K mg base CX0 1 f fd ["value"] spCount := by
  refine F.ok scCount (fun vs H Q E h => ?_) (fun cdv A outer s H vs Q E hr h => ?_)
  · obtain ⟨i, rfl, _⟩ := h
    rfl
  · obtain ⟨i, rfl, want⟩ := h
    refine ⟨_, pss_one (ps_ret (pe_and (pe_cmpR op_isTy (pe_typeOf rfl gT (pv 0)) (pe_bltn rfl gI boot_int rel_int) (nomark _)) (pe_one (pe_cmpR op_ge (pv 0) pe_int (nomark _))))), ?_⟩
    refine ⟨_, rfl, _, rfl, _, _, rfl, rfl, _, rfl, iteT ?_⟩
    exact ⟨_, rfl, _, _, rfl, rfl, want⟩
def spReqP : Sp := fun vs H Q _ => ∃ p : Int, vs = [.int p] ∧ p ∈ goods ∧ ∀ H', Same H H' → Q .non H'
def spNumber : Sp := fun vs H Q _ => ∃ p v : Int, vs = [.int p, .int v] ∧ 0 ≤ v ∧ v < p ∧ Q (.bl true) H
def spFactor : Sp := fun vs H Q _ => ∃ p v : Int, vs = [.int p, .int v] ∧ 0 < v ∧ v < p ∧ Q (.bl true) H
end
end Vb
end L2

set_option Elab.async false
set_option linter.all false
set_option maxRecDepth 100000
set_option maxHeartbeats 4000000
/-! Vb, part 5: what is a vector. -/
namespace L2
namespace Vb
open PySem PySem.Spec PyProof.Rows
/-- L numbers, each below p -/
def Vc (p : Int) (L : Nat) (xs : List Int) : Prop := xs.length = L ∧ ∀ x ∈ xs, 0 ≤ x ∧ x < p
def spVector : Sp := fun vs H Q _ => ∃ (p : Int) (b : Addr) (xs : List Int) (L : Nat), vs = [.int p, .ref b] ∧ Rw H b xs ∧ Vc p L xs ∧ L ≤ 1000 ∧ ∀ H', Same H H' → Q (.bl true) H'
def spVectors : Sp := fun vs H Q _ => ∃ (p : Int) (m : Addr) (as : List Addr) (T : List (List Int)) (L : Nat), vs = [.int p, .ref m] ∧ H m = some (.lst (as.map V.ref)) ∧ Rws H as T ∧ (∀ xs ∈ T, Vc p L xs) ∧ L ≤ 1000 ∧ T.length ≤ 1000 ∧ ∀ H', Same H H' → Q (.bl true) H'
theorem all_true (n : Nat) : (List.replicate n true).all id = true := by simp
theorem trues_succ (n : Nat) : (List.replicate n true).map V.bl ++ [V.bl true] = (List.replicate (n + 1) true).map V.bl := by
  rw [List.replicate_succ', List.map_append]
  rfl
theorem mem_ints {xs : List Int} {i : Nat} {x : V} (h : (xs.map V.int)[i]? = some x) : ∃ n, x = .int n ∧ n ∈ xs ∧ xs[i]? = some n := by
  rw [List.getElem?_map] at h
  obtain ⟨n, hn, e⟩ := Option.map_eq_some_iff.mp h
  exact ⟨n, e.symm, List.mem_of_getElem? hn, hn⟩
section
variable {P : Program} {w : World} {K : PySem.W.Frag} {mg : Str → Option Value} {base : Heap}
def spVectorOf : Sp := fun vs H Q _ => ∃ (p : Int) (b : Addr) (xs : List Int) (L : Nat), vs = [.int p, .ref b, .int (L : Int)] ∧ Rw H b xs ∧ Vc p L xs ∧ L ≤ 1000 ∧ ∀ H', Same H H' → Q (.bl true) H'
def rLenQ (K : PySem.W.Frag) : List V → Hp → VK → Prop := fun xs H Q => ∃ p ys, xs = [.ref p] ∧ (SqL K H p ys ∨ SqT K H p ys) ∧ Q (.int ys.length) H
theorem rws_at {H : Hp} {as : List Addr} {T : List (List Int)} (h : Rws H as T) : ∀ {i : Nat} {x : V}, (as.map V.ref)[i]? = some x → ∃ b xs, x = .ref b ∧ Rw H b xs ∧ xs ∈ T ∧ T[i]? = some xs ∧ as[i]? = some b := by
  induction h with
  | nil =>
    intro i x e
    cases e
  | @cons b xs as T p ps ih =>
    intro i x e
    cases i with
    | zero =>
      cases e
      exact ⟨b, xs, rfl, p, List.mem_cons_self, rfl, rfl⟩
    | succ i =>
      obtain ⟨c, ys, e1, e2, e3, e4, e5⟩ := ih (i := i) (x := x) e
      exact ⟨c, ys, e1, e2, List.mem_cons_of_mem _ e3, e4, e5⟩
end
end Vb
end L2

set_option Elab.async false
set_option linter.all false
/-! LinA: rows over a field, what they span, reduced rows: their shape is one alone. Rows are functions of the place. -/
namespace LinA
open Lean.Grind
universe u
variable {K : Type u} [CommRing K]
abbrev Row (K : Type u) : Type u := Nat → K
def zr : Row K := fun _ => 0
/-- c times v, and w -/
def ax (c : K) (v w : Row K) : Row K := fun j => c * v j + w j
/-- what rows span; the order of the rows doesn't matter -/
inductive Span (S : List (Row K)) : Row K → Prop
  | zero : Span S zr
  | add (c : K) (v w : Row K) : v ∈ S → Span S w → Span S (ax c v w)
theorem Span.mem {S : List (Row K)} {v : Row K} (h : v ∈ S) : Span S v := by
  have e : v = ax 1 v zr := by
    funext j
    show v j = 1 * v j + 0
    grind
  rw [e]
  exact .add 1 v zr h .zero
theorem Span.ax {S : List (Row K)} {v w : Row K} (c : K) (hv : Span S v) (hw : Span S w) : Span S (ax c v w) := by
  induction hv with
  | zero =>
    have e : LinA.ax c zr w = w := by
      funext j
      show c * 0 + w j = w j
      grind
    rw [e]
    exact hw
  | add d v1 w1 m1 h1 ih =>
    have e : LinA.ax c (LinA.ax d v1 w1) w = LinA.ax (c * d) v1 (LinA.ax c w1 w) := by
      funext j
      show c * (d * v1 j + w1 j) + w j = c * d * v1 j + (c * w1 j + w j)
      grind
    rw [e]
    exact .add _ _ _ m1 ih
theorem Span.sub {S T : List (Row K)} (h : ∀ v ∈ S, Span T v) {v : Row K} (hv : Span S v) : Span T v := by
  induction hv with
  | zero => exact .zero
  | add c v w m h1 ih => exact .ax c (h v m) ih
theorem Span.mono {S T : List (Row K)} (h : ∀ v ∈ S, v ∈ T) {v : Row K} (hv : Span S v) : Span T v := hv.sub fun v m => .mem (h v m)
/-- two lists of rows span the same -/
def Same (S T : List (Row K)) : Prop := ∀ v, Span S v ↔ Span T v
theorem Same.of {S T : List (Row K)} (h1 : ∀ v ∈ S, Span T v) (h2 : ∀ v ∈ T, Span S v) : Same S T := fun _ => ⟨fun h => h.sub h1, fun h => h.sub h2⟩
theorem Same.rfl {S : List (Row K)} : Same S S := fun _ => Iff.rfl
theorem Same.symm {S T : List (Row K)} (h : Same S T) : Same T S := fun v => (h v).symm
theorem Same.trans {S T U : List (Row K)} (h : Same S T) (k : Same T U) : Same S U := fun v => (h v).trans (k v)
theorem Same.perm {S T : List (Row K)} (h : S.Perm T) : Same S T := fun _ => ⟨fun z => z.mono fun _ m => h.mem_iff.mp m, fun z => z.mono fun _ m => h.mem_iff.mpr m⟩
/-- more rows out of the span change nothing -/
theorem Same.more {S T : List (Row K)} (h : ∀ v ∈ T, Span S v) : Same (S ++ T) S := .of (fun v m => (List.mem_append.mp m).elim .mem (h v)) fun _ m => .mem (List.mem_append_left _ m)
/-! ### reduced rows, each with its top -/
abbrev Tops (K : Type u) : Type u := List (Row K × Nat)
structure Rref (P : Tops K) : Prop where
  one : ∀ x ∈ P, x.1 x.2 = 1
  low : ∀ x ∈ P, ∀ j, j < x.2 → x.1 j = 0
  two : P.Pairwise fun x y => x.2 < y.2 ∧ x.1 y.2 = 0
abbrev rows (P : Tops K) : List (Row K) := P.map (·.1)
abbrev tops (P : Tops K) : List Nat := P.map (·.2)
theorem Rref.tail {x : Row K × Nat} {P : Tops K} (h : Rref (x :: P)) : Rref P := ⟨fun y m => h.one y (List.mem_cons_of_mem _ m), fun y m => h.low y (List.mem_cons_of_mem _ m), (List.pairwise_cons.mp h.two).2⟩
/-- at another's top a row is 0 -/
theorem Rref.off {P : Tops K} (h : Rref P) : ∀ x ∈ P, ∀ y ∈ P, x.2 ≠ y.2 → x.1 y.2 = 0 := by
  induction P with
  | nil => exact fun x m => (List.not_mem_nil m).elim
  | cons z P ih =>
    intro x mx y my ne
    obtain ⟨h1, h2⟩ := List.pairwise_cons.mp h.two
    rcases List.mem_cons.mp mx with qx | qx
    · rcases List.mem_cons.mp my with qy | qy
      · exact absurd (by rw [qx, qy]) ne
      · rw [qx]
        exact (h1 y qy).2
    · rcases List.mem_cons.mp my with qy | qy
      · rw [qy]
        exact h.low x (List.mem_cons_of_mem _ qx) _ (h1 x qx).1
      · exact ih h.tail x qx y qy ne
/-- the same top, the same row -/
theorem Rref.inj {P : Tops K} (h : Rref P) : ∀ x ∈ P, ∀ y ∈ P, x.2 = y.2 → x = y := by
  induction P with
  | nil => exact fun x m => (List.not_mem_nil m).elim
  | cons z P ih =>
    intro x mx y my e
    obtain ⟨h1, h2⟩ := List.pairwise_cons.mp h.two
    rcases List.mem_cons.mp mx with qx | qx
    · rcases List.mem_cons.mp my with qy | qy
      · rw [qx, qy]
      · have z1 := (h1 y qy).1
        rw [qx] at e
        omega
    · rcases List.mem_cons.mp my with qy | qy
      · have z1 := (h1 x qx).1
        rw [qy] at e
        omega
      · exact ih h.tail x qx y qy e
/-- v's numbers at the tops, put onto the rows -/
def coord (v : Row K) : Tops K → Row K
  | [] => zr
  | x :: P => ax (v x.2) x.1 (coord v P)
theorem coord_zero (P : Tops K) : coord (zr : Row K) P = zr := by
  induction P with
  | nil => rfl
  | cons x P ih =>
    funext j
    show (0 : K) * x.1 j + coord zr P j = 0
    rw [ih]
    show (0 : K) * x.1 j + 0 = 0
    grind
theorem coord_ax (c : K) (v w : Row K) (P : Tops K) : coord (ax c v w) P = ax c (coord v P) (coord w P) := by
  induction P with
  | nil =>
    funext j
    show (0 : K) = c * 0 + 0
    grind
  | cons x P ih =>
    funext j
    show (c * v x.2 + w x.2) * x.1 j + coord (ax c v w) P j = c * (v x.2 * x.1 j + coord v P j) + (w x.2 * x.1 j + coord w P j)
    rw [ih]
    show (c * v x.2 + w x.2) * x.1 j + (c * coord v P j + coord w P j) = _
    grind
/-- only the numbers at the tops count -/
theorem coord_congr {v w : Row K} {P : Tops K} (h : ∀ x ∈ P, v x.2 = w x.2) : coord v P = coord w P := by
  induction P with
  | nil => rfl
  | cons x P ih =>
    show ax (v x.2) x.1 (coord v P) = ax (w x.2) x.1 (coord w P)
    rw [h x List.mem_cons_self, ih fun y m => h y (List.mem_cons_of_mem _ m)]
theorem coord_none {v : Row K} {P : Tops K} (h : ∀ x ∈ P, v x.2 = 0) : coord v P = zr := by
  rw [coord_congr (w := zr) h, coord_zero]
theorem coord_mem {P : Tops K} (h : Rref P) : ∀ x ∈ P, coord x.1 P = x.1 := by
  induction P with
  | nil => exact fun x m => (List.not_mem_nil m).elim
  | cons z P ih =>
    intro x mx
    obtain ⟨h1, h2⟩ := List.pairwise_cons.mp h.two
    rcases List.mem_cons.mp mx with qx | qx
    · rw [qx]
      show ax (z.1 z.2) z.1 (coord z.1 P) = z.1
      rw [coord_none fun y m => (h1 y m).2, h.one z List.mem_cons_self]
      funext j
      show 1 * z.1 j + 0 = z.1 j
      grind
    · show ax (x.1 z.2) z.1 (coord x.1 P) = x.1
      rw [ih h.tail x qx, h.low x mx _ (h1 x qx).1]
      funext j
      show 0 * z.1 j + x.1 j = x.1 j
      grind
/-- what reduced rows span is told by its numbers at the tops -/
theorem span_coord {P : Tops K} (h : Rref P) {v : Row K} (hv : Span (rows P) v) : coord v P = v := by
  induction hv with
  | zero => exact coord_zero P
  | add c v w m hw ih =>
    obtain ⟨x, mx, rfl⟩ := List.mem_map.mp m
    rw [coord_ax, ih, coord_mem h x mx]
theorem coord_span (v : Row K) : ∀ P Q : Tops K, (∀ x ∈ P, x ∈ Q) → Span (rows Q) (coord v P)
  | [], _, _ => .zero
  | x :: P, Q, h => .add _ _ _ (List.mem_map_of_mem (f := fun x : Row K × Nat => x.1) (h x List.mem_cons_self)) (coord_span v P Q fun y m => h y (List.mem_cons_of_mem _ m))
/-- the first place where it isn't 0 -/
def Lead (v : Row K) (t : Nat) : Prop := v t ≠ 0 ∧ ∀ j, j < t → v j = 0
theorem Lead.uniq {v : Row K} {s t : Nat} (h : Lead v s) (k : Lead v t) : s = t := by
  rcases Nat.lt_trichotomy s t with q | q | q
  · exact absurd (k.2 s q) h.1
  · exact q
  · exact absurd (h.2 t q) k.1
theorem coord_low {v : Row K} {j : Nat} : ∀ {P : Tops K}, (∀ x ∈ P, v x.2 = 0 ∨ x.1 j = 0) → coord v P j = 0
  | [], _ => rfl
  | x :: P, h => by
    show v x.2 * x.1 j + coord v P j = 0
    rw [coord_low fun y m => h y (List.mem_cons_of_mem _ m)]
    rcases h x List.mem_cons_self with q | q
    · rw [q]
      grind
    · rw [q]
      grind
/-- the first place of what is spanned is a top -/
theorem lead_top {P : Tops K} (h : Rref P) {v : Row K} (hv : Span (rows P) v) {t : Nat} (l : Lead v t) : t ∈ tops P := by
  have e := span_coord h hv
  refine Classical.byContradiction fun no => l.1 ?_
  rw [← e]
  refine coord_low fun x m => ?_
  rcases Nat.lt_trichotomy x.2 t with q | q | q
  · exact .inl (l.2 _ q)
  · exact absurd (List.mem_map.mpr ⟨x, m, q⟩) no
  · exact .inr (h.low x m t q)
theorem Rref.lead {P : Tops K} (h : Rref P) (h01 : (1 : K) ≠ 0) {x : Row K × Nat} (m : x ∈ P) : Lead x.1 x.2 := ⟨by rw [h.one x m]; exact h01, h.low x m⟩
theorem tops_sub {P Q : Tops K} (hP : Rref P) (hQ : Rref Q) (h01 : (1 : K) ≠ 0) (s : ∀ v, Span (rows P) v → Span (rows Q) v) : ∀ t ∈ tops P, t ∈ tops Q := fun t m => by
  obtain ⟨x, mx, rfl⟩ := List.mem_map.mp m
  exact lead_top hQ (s _ (.mem (List.mem_map_of_mem (f := fun x : Row K × Nat => x.1) mx))) (hP.lead h01 mx)
theorem tops_nodup {P : Tops K} (h : Rref P) : (tops P).Nodup := by
  have z : P.Pairwise fun x y => x.2 ≠ y.2 := h.two.imp fun q => Nat.ne_of_lt q.1
  exact List.Pairwise.map _ (fun _ _ q => q) z
theorem nodup_len {a b : List Nat} (n : a.Nodup) (h : ∀ x ∈ a, x ∈ b) : a.length ≤ b.length := by
  induction a generalizing b with
  | nil => exact Nat.zero_le _
  | cons x a ih =>
    obtain ⟨n1, n2⟩ := List.nodup_cons.mp n
    have mx := h x List.mem_cons_self
    have z := ih (b := b.erase x) n2 fun y my => (List.mem_erase_of_ne (a := y) (b := x) fun q => n1 (by rw [← q]; exact my)).mpr (h y (List.mem_cons_of_mem _ my))
    rw [List.length_erase_of_mem mx] at z
    have p := List.length_pos_of_mem mx
    show a.length + 1 ≤ b.length
    omega
/-- fewer spanned, fewer rows -/
theorem rank_le {P Q : Tops K} (hP : Rref P) (hQ : Rref Q) (h01 : (1 : K) ≠ 0) (s : ∀ v, Span (rows P) v → Span (rows Q) v) : P.length ≤ Q.length := by
  have z := nodup_len (tops_nodup hP) (tops_sub hP hQ h01 s)
  simpa using z
theorem mem_of_same {P Q : Tops K} (hP : Rref P) (hQ : Rref Q) (h01 : (1 : K) ≠ 0) (s : Same (rows P) (rows Q)) : ∀ x ∈ P, x ∈ Q := fun x mx => by
  obtain ⟨y, my, ey⟩ := List.mem_map.mp (tops_sub hP hQ h01 (fun v => (s v).mp) x.2 (List.mem_map_of_mem (f := fun x : Row K × Nat => x.2) mx))
  have sy : Span (rows P) y.1 := (s _).mpr (.mem (List.mem_map_of_mem (f := fun x : Row K × Nat => x.1) my))
  have e : y.1 = x.1 := by
    rw [← span_coord hP sy, ← coord_mem hP x mx]
    refine coord_congr fun z mz => ?_
    obtain ⟨u, mu, eu⟩ := List.mem_map.mp (tops_sub hP hQ h01 (fun v => (s v).mp) z.2 (List.mem_map_of_mem (f := fun x : Row K × Nat => x.2) mz))
    by_cases q : z.2 = x.2
    · rw [hP.inj z mz x mx q, hP.one x mx, ← ey]
      exact hQ.one y my
    · rw [hP.off x mx z mz (Ne.symm q), ← eu]
      exact hQ.off y my u mu fun w => q (by rw [← eu, ← ey, w])
  have e2 : x = y := Prod.ext e.symm ey.symm
  rw [e2]
  exact my
theorem sorted_eq {P Q : Tops K} (h : P.Pairwise fun x y => x.2 < y.2) (k : Q.Pairwise fun x y => x.2 < y.2) (a : ∀ x ∈ P, x ∈ Q) (b : ∀ x ∈ Q, x ∈ P) : P = Q := by
  induction P generalizing Q with
  | nil =>
    cases Q with
    | nil => rfl
    | cons y Q => exact (List.not_mem_nil (b y List.mem_cons_self)).elim
  | cons x P ih =>
    cases Q with
    | nil => exact (List.not_mem_nil (a x List.mem_cons_self)).elim
    | cons y Q =>
      obtain ⟨h1, h2⟩ := List.pairwise_cons.mp h
      obtain ⟨k1, k2⟩ := List.pairwise_cons.mp k
      have e : x = y := by
        rcases List.mem_cons.mp (a x List.mem_cons_self) with q | q
        · exact q
        · rcases List.mem_cons.mp (b y List.mem_cons_self) with r | r
          · exact r.symm
          · have z1 := k1 x q
            have z2 := h1 y r
            omega
      subst e
      rw [ih h2 k2 (fun z m => ?_) fun z m => ?_]
      · rcases List.mem_cons.mp (a z (List.mem_cons_of_mem _ m)) with q | q
        · have z1 := h1 z m
          rw [q] at z1
          omega
        · exact q
      · rcases List.mem_cons.mp (b z (List.mem_cons_of_mem _ m)) with q | q
        · have z1 := k1 z m
          rw [q] at z1
          omega
        · exact q
/-- the reduced rows of a span are one alone -/
theorem rref_one {P Q : Tops K} (hP : Rref P) (hQ : Rref Q) (h01 : (1 : K) ≠ 0) (s : Same (rows P) (rows Q)) : P = Q :=
  sorted_eq (hP.two.imp fun q => q.1) (hQ.two.imp fun q => q.1) (mem_of_same hP hQ h01 s) (mem_of_same hQ hP h01 s.symm)
/-! ### the way there, place by place -/
/-- behind the places below c: P are done, R are 0 there -/
structure Upto (P : Tops K) (R : List (Row K)) (c : Nat) : Prop where
  rr : Rref P
  lt : ∀ x ∈ P, x.2 < c
  low : ∀ v ∈ R, ∀ j, j < c → v j = 0
theorem Upto.start (R : List (Row K)) : Upto ([] : Tops K) R 0 := ⟨⟨fun x m => (List.not_mem_nil m).elim, fun x m => (List.not_mem_nil m).elim, .nil⟩, fun x m => (List.not_mem_nil m).elim, fun v m j h => (Nat.not_lt_zero j h).elim⟩
theorem Upto.none {P : Tops K} {R : List (Row K)} {c : Nat} (h : Upto P R c) (z : ∀ v ∈ R, v c = 0) : Upto P R (c + 1) := ⟨h.rr, fun x m => Nat.lt_succ_of_lt (h.lt x m), fun v m j hj => by
  rcases Nat.lt_succ_iff_lt_or_eq.mp hj with q | q
  · exact h.low v m j q
  · rw [q]
    exact z v m⟩
/-- v, less v's number at c times a -/
def less (a : Row K) (c : Nat) (v : Row K) : Row K := ax (-(v c)) a v
theorem less_at {a : Row K} {c : Nat} (h : a c = 1) (v : Row K) : less a c v c = 0 := by
  show -(v c) * a c + v c = 0
  rw [h]
  grind
theorem less_low {a v : Row K} {c j : Nat} (h : a j = 0) : less a c v j = v j := by
  show -(v c) * a j + v j = v j
  rw [h]
  grind
theorem less_none {a v : Row K} {c : Nat} (h : v c = 0) : less a c v = v := by
  funext j
  show -(v c) * a j + v j = v j
  rw [h]
  grind
abbrev lessP (a : Row K) (c : Nat) (P : Tops K) : Tops K := P.map fun x => (less a c x.1, x.2)
/-- a row of the rest, scaled to 1 at c, is taken out and off all others -/
theorem Upto.found {P : Tops K} {R : List (Row K)} {a : Row K} {c : Nat} (h : Upto P R c) (ha : a c = 1) (low : ∀ j, j < c → a j = 0) : Upto (lessP a c P ++ [(a, c)]) (R.map (less a c)) (c + 1) := by
  have offA : ∀ x ∈ P, a x.2 = 0 := fun x m => low _ (h.lt x m)
  refine ⟨⟨fun x m => ?_, fun x m j hj => ?_, ?_⟩, fun x m => ?_, fun v m j hj => ?_⟩
  · rcases List.mem_append.mp m with q | q
    · obtain ⟨y, my, rfl⟩ := List.mem_map.mp q
      exact (less_low (offA y my)).trans (h.rr.one y my)
    · rw [List.mem_singleton.mp q]
      exact ha
  · rcases List.mem_append.mp m with q | q
    · obtain ⟨y, my, rfl⟩ := List.mem_map.mp q
      have lt := h.lt y my
      exact (less_low (low j (Nat.lt_trans hj lt))).trans (h.rr.low y my j hj)
    · rw [List.mem_singleton.mp q] at hj ⊢
      exact low j hj
  · refine List.pairwise_append.mpr ⟨?_, List.pairwise_singleton _ _, fun x m y my => ?_⟩
    · refine List.pairwise_map.mpr ?_
      have z : P.Pairwise fun x y => y ∈ P ∧ (x.2 < y.2 ∧ x.1 y.2 = 0) := by
        refine List.pairwise_iff_forall_sublist.mpr fun {x y} sl => ⟨sl.subset (by simp), List.pairwise_iff_forall_sublist.mp h.rr.two sl⟩
      exact z.imp fun {x y} q => ⟨q.2.1, (less_low (offA y q.1)).trans q.2.2⟩
    · rw [List.mem_singleton.mp my]
      obtain ⟨u, mu, rfl⟩ := List.mem_map.mp m
      exact ⟨h.lt u mu, less_at ha u.1⟩
  · rcases List.mem_append.mp m with q | q
    · obtain ⟨y, my, rfl⟩ := List.mem_map.mp q
      exact Nat.lt_succ_of_lt (h.lt y my)
    · rw [List.mem_singleton.mp q]
      exact Nat.lt_succ_self c
  · obtain ⟨u, mu, rfl⟩ := List.mem_map.mp m
    rcases Nat.lt_succ_iff_lt_or_eq.mp hj with q | q
    · exact (less_low (low j q)).trans (h.low u mu j q)
    · rw [q]
      exact less_at ha u
theorem less_back {a : Row K} {c : Nat} (v : Row K) : v = ax (v c) a (less a c v) := by
  funext j
  show v j = v c * a j + (-(v c) * a j + v j)
  grind
/-- taking a row off others leaves the span -/
theorem same_less {S T : List (Row K)} {a : Row K} {c : Nat} (ha : a ∈ S) (hb : a ∈ T) (h1 : ∀ v ∈ S, v = a ∨ less a c v ∈ T) (h2 : ∀ v ∈ T, v = a ∨ ∃ u ∈ S, v = less a c u) : Same S T := by
  refine .of (fun v m => ?_) fun v m => ?_
  · rcases h1 v m with q | q
    · rw [q]
      exact .mem hb
    · rw [less_back (a := a) (c := c) v]
      exact .ax _ (.mem hb) (.mem q)
  · rcases h2 v m with q | ⟨u, mu, q⟩
    · rw [q]
      exact .mem ha
    · rw [q]
      exact .ax _ (.mem ha) (.mem mu)
/-- scaling one row by what has an inverse leaves the span -/
theorem same_scale {S : List (Row K)} {b : Row K} {s t : K} (h : t * s = 1) : Same (b :: S) (ax s b zr :: S) := by
  refine .of (fun v m => ?_) fun v m => ?_
  · rcases List.mem_cons.mp m with q | q
    · have e : v = ax t (ax s b zr) zr := by
        funext j
        show v j = t * (s * b j + 0) + 0
        have e2 : t * (s * b j + 0) + 0 = (t * s) * b j := by grind
        rw [e2, h, q]
        grind
      rw [e]
      exact .ax _ (.mem List.mem_cons_self) .zero
    · exact .mem (List.mem_cons_of_mem _ q)
  · rcases List.mem_cons.mp m with q | q
    · rw [q]
      exact .ax _ (.mem List.mem_cons_self) .zero
    · exact .mem (List.mem_cons_of_mem _ q)
/-- a row of 0 brings nothing -/
theorem same_zeros {S T : List (Row K)} (h : ∀ v ∈ T, v = zr) : Same (S ++ T) S := .more fun v m => by
  rw [h v m]
  exact .zero
end LinA

set_option Elab.async false
set_option linter.all false
/-! LinZ: lists of numbers below p as rows. -/
namespace LinA
open Lean.Grind
universe u
/-- a number among the numbers of K -/
def ic (K : Type u) [CommRing K] (a : Int) : K := @Int.cast K Ring.intCast a
theorem ic_add {K : Type u} [CommRing K] (a b : Int) : ic K (a + b) = ic K a + ic K b := Ring.intCast_add a b
theorem ic_mul {K : Type u} [CommRing K] (a b : Int) : ic K (a * b) = ic K a * ic K b := Ring.intCast_mul a b
theorem ic_sub {K : Type u} [CommRing K] (a b : Int) : ic K (a - b) = ic K a - ic K b := Ring.intCast_sub a b
theorem ic_neg {K : Type u} [CommRing K] (a : Int) : ic K (-a) = -ic K a := Ring.intCast_neg a
theorem ic_one {K : Type u} [CommRing K] : ic K 1 = 1 := Ring.intCast_one
theorem ic_zero {K : Type u} [CommRing K] : ic K 0 = 0 := Ring.intCast_zero
/-- a list of numbers as a row; behind its end 0 -/
def row (K : Type u) [CommRing K] (xs : List Int) : Row K := fun j => ic K (xs.getD j 0)
/-- L numbers, each below p -/
def Vec (p : Nat) (L : Nat) (xs : List Int) : Prop := xs.length = L ∧ ∀ x ∈ xs, 0 ≤ x ∧ x < (p : Int)
section
variable {K : Type u} [CommRing K] {p : Nat} [IsCharP K p]
theorem cast_mod (a : Int) : ic K (a % (p : Int)) = (ic K a) := (IsCharP.intCast_ext_iff p).mpr (Int.emod_emod_of_dvd a (Int.dvd_refl _))
theorem cast_eq {a b : Int} (h : (ic K a) = (ic K b)) (a0 : 0 ≤ a) (a1 : a < p) (b0 : 0 ≤ b) (b1 : b < p) : a = b := by
  have z := (IsCharP.intCast_ext_iff p).mp h
  rwa [Int.emod_eq_of_lt a0 a1, Int.emod_eq_of_lt b0 b1] at z
theorem cast_zero {a : Int} (a0 : 0 ≤ a) (a1 : a < p) : (ic K a) = 0 ↔ a = 0 := by
  show (@Int.cast K Ring.intCast a = 0) ↔ _
  rw [IsCharP.intCast_eq_zero_iff p, Int.emod_eq_of_lt a0 a1]
theorem one_ne (h : 1 < p) : (1 : K) ≠ 0 := fun e => by
  have z : ic K (1) = 0 := by
    rw [ic_one]
    exact e
  rw [cast_zero (p := p) (by omega) (by omega)] at z
  cases z
theorem getD_lt {xs : List Int} {j : Nat} (h : j < xs.length) : xs.getD j 0 = xs[j] := by
  rw [List.getD_eq_getElem?_getD, List.getElem?_eq_getElem h]
  rfl
theorem getD_ge {xs : List Int} {j : Nat} (h : xs.length ≤ j) : xs.getD j 0 = 0 := by
  rw [List.getD_eq_getElem?_getD, List.getElem?_eq_none h]
  rfl
theorem row_ge {xs : List Int} {j : Nat} (h : xs.length ≤ j) : row K xs j = 0 := by
  show ic K (xs.getD j 0) = 0
  rw [getD_ge h]
  exact ic_zero
theorem row_eq {L : Nat} {xs ys : List Int} (hx : Vec p L xs) (hy : Vec p L ys) (h : row K xs = row K ys) : xs = ys := by
  refine List.ext_getElem (hx.1.trans hy.1.symm) fun j h1 h2 => ?_
  have z : ic K (xs.getD j 0) = ic K (ys.getD j 0) := congrFun h j
  rw [getD_lt h1, getD_lt h2] at z
  obtain ⟨a0, a1⟩ := hx.2 _ (List.getElem_mem h1)
  obtain ⟨b0, b1⟩ := hy.2 _ (List.getElem_mem h2)
  exact cast_eq z a0 a1 b0 b1
/-- two lists of one length, number by number: u + f v -/
theorem row_zip {f : Int} {g : Int → Int → Int} (hg : ∀ a b, ic K (g a b) = (ic K f) * (ic K b) + (ic K a)) {xs ys : List Int} (hl : xs.length = ys.length) : row K (List.zipWith g xs ys) = ax (ic K f) (row K ys) (row K xs) := by
  funext j
  show ic K ((List.zipWith g xs ys).getD j 0) = (ic K f) * ic K (ys.getD j 0) + ic K (xs.getD j 0)
  by_cases h : j < xs.length
  · have h2 : j < ys.length := by omega
    have h3 : j < (List.zipWith g xs ys).length := by
      rw [List.length_zipWith]
      omega
    rw [getD_lt h, getD_lt h2, getD_lt h3, List.getElem_zipWith]
    exact hg _ _
  · have h2 : ys.length ≤ j := by omega
    have h3 : (List.zipWith g xs ys).length ≤ j := by
      rw [List.length_zipWith]
      omega
    rw [getD_ge (Nat.le_of_not_lt h), getD_ge h2, getD_ge h3, ic_zero]
    grind
/-- (a + f b) % p -/
theorem row_more {f : Int} {xs ys : List Int} (hl : xs.length = ys.length) : row K (List.zipWith (fun a b => (a + f * b) % (p : Int)) xs ys) = ax (ic K f) (row K ys) (row K xs) := row_zip (fun a b => by
  rw [cast_mod (p := p), ic_add, ic_mul]
  grind) hl
/-- (a - f b) % p -/
theorem row_less {f : Int} {xs ys : List Int} (hl : xs.length = ys.length) : row K (List.zipWith (fun a b => (a - f * b) % (p : Int)) xs ys) = ax (-(ic K f)) (row K ys) (row K xs) := by
  have z := row_zip (K := K) (f := -f) (g := fun a b => (a - f * b) % (p : Int)) (fun a b => by
    rw [cast_mod (p := p), ic_sub, ic_mul, ic_neg]
    grind) hl
  rw [z, ic_neg]
theorem row_scale {s : Int} {xs : List Int} : row K (xs.map fun n => n * s % (p : Int)) = ax (ic K s) (row K xs) zr := by
  funext j
  show ic K ((xs.map fun n => n * s % (p : Int)).getD j 0) = (ic K s) * ic K (xs.getD j 0) + 0
  by_cases h : j < xs.length
  · rw [getD_lt h, getD_lt (by rw [List.length_map]; exact h), List.getElem_map, cast_mod (p := p), ic_mul]
    grind
  · rw [getD_ge (Nat.le_of_not_lt h), getD_ge (by rw [List.length_map]; omega), ic_zero]
    grind
end
/-! ### rows stay below p -/
section
variable {p L : Nat}
theorem mod_in (hp : 0 < p) (a : Int) : 0 ≤ a % (p : Int) ∧ a % (p : Int) < (p : Int) := ⟨Int.emod_nonneg _ (by omega), Int.emod_lt_of_pos _ (by omega)⟩
theorem vec_zip (hp : 0 < p) {h : Int → Int → Int} {xs ys : List Int} (hx : xs.length = L) (hy : ys.length = L) : Vec p L (List.zipWith (fun a b => h a b % (p : Int)) xs ys) := ⟨by rw [List.length_zipWith, hx, hy, Nat.min_self], fun z m => by
  obtain ⟨i, hi, e⟩ := List.mem_iff_getElem.mp m
  rw [← e, List.getElem_zipWith]
  exact mod_in hp _⟩
theorem vec_map (hp : 0 < p) {h : Int → Int} {xs : List Int} (hx : xs.length = L) : Vec p L (xs.map fun a => h a % (p : Int)) := ⟨by rw [List.length_map, hx], fun z m => by
  obtain ⟨a, _, e⟩ := List.mem_map.mp m
  rw [← e]
  exact mod_in hp _⟩
end
/-! ### one place of the way -/
/-- a row less its number at c times the lead -/
def lessZ (p : Nat) (lead : List Int) (c : Nat) (xs : List Int) : List Int := if xs.getD c 0 = 0 then xs else List.zipWith (fun a b => (a - xs.getD c 0 * b) % (p : Int)) xs lead
def scaleZ (p : Nat) (s : Int) (xs : List Int) : List Int := xs.map fun n => n * s % (p : Int)
section
variable {K : Type u} [CommRing K] {p : Nat} [IsCharP K p] {L : Nat}
theorem row_lessZ {lead xs : List Int} {c : Nat} (hl : xs.length = lead.length) : row K (lessZ p lead c xs) = less (row K lead) c (row K xs) := by
  unfold lessZ
  by_cases h : xs.getD c 0 = 0
  · rw [if_pos h]
    refine (less_none ?_).symm
    show ic K (xs.getD c 0) = 0
    rw [h, ic_zero]
  · rw [if_neg h, row_less hl]
    rfl
omit [IsCharP K p] in
theorem vec_lessZ (hp : 0 < p) {lead xs : List Int} {c : Nat} (hx : Vec p L xs) (hl : lead.length = L) : Vec p L (lessZ p lead c xs) := by
  unfold lessZ
  by_cases h : xs.getD c 0 = 0
  · rw [if_pos h]
    exact hx
  · rw [if_neg h]
    exact vec_zip hp (h := fun a b => a - xs.getD c 0 * b) hx.1 hl
abbrev rowsOf (K : Type u) [CommRing K] (T : List (List Int)) : List (Row K) := T.map (row K)
/-- what stands behind the places below c: D are done with their tops t, E is the rest; V was given -/
structure Way (K : Type u) [CommRing K] (p L : Nat) (V D E : List (List Int)) (t : List Nat) (c : Nat) : Prop where
  vd : ∀ xs ∈ D, Vec p L xs
  ve : ∀ xs ∈ E, Vec p L xs
  len : D.length = t.length
  up : Upto ((rowsOf K D).zip t) (rowsOf K E) c
  same : Same (rowsOf K (D ++ E)) (rowsOf K V)
omit [IsCharP K p] in
theorem Way.start {V : List (List Int)} (h : ∀ xs ∈ V, Vec p L xs) : Way K p L V [] V [] 0 := ⟨fun xs m => (List.not_mem_nil m).elim, h, rfl, Upto.start _, Same.rfl⟩
omit [IsCharP K p] in
theorem Way.none {V D E : List (List Int)} {t : List Nat} {c : Nat} (w : Way K p L V D E t c) (h : ∀ xs ∈ E, xs.getD c 0 = 0) : Way K p L V D E t (c + 1) := ⟨w.vd, w.ve, w.len, w.up.none fun v m => by
  obtain ⟨xs, mx, rfl⟩ := List.mem_map.mp m
  show ic K (xs.getD c 0) = 0
  rw [h xs mx, ic_zero], w.same⟩
theorem zip_less {a : List Int} {c : Nat} : ∀ {D : List (List Int)} {t : List Nat}, (∀ xs ∈ D, xs.length = a.length) → (rowsOf K (D.map (lessZ p a c))).zip t = lessP (row K a) c ((rowsOf K D).zip t)
  | [], _, _ => rfl
  | xs :: D, [], _ => rfl
  | xs :: D, y :: t, h => by
    show (row K (lessZ p a c xs), y) :: (rowsOf K (D.map (lessZ p a c))).zip t = (less (row K a) c (row K xs), y) :: lessP (row K a) c ((rowsOf K D).zip t)
    rw [row_lessZ (h xs List.mem_cons_self), zip_less fun z m => h z (List.mem_cons_of_mem _ m)]
/-- a row b of the rest, not 0 at c, scaled by s; E' is what else is left, in any order -/
theorem Way.found {V D E E' : List (List Int)} {t : List Nat} {c : Nat} {b : List Int} {s : Int} (hp : 1 < p) (w : Way K p L V D E t c) (pm : E.Perm (b :: E')) (hs : b.getD c 0 * s % (p : Int) = 1) :
    Way K p L V (D.map (lessZ p (scaleZ p s b) c) ++ [scaleZ p s b]) (E'.map (lessZ p (scaleZ p s b) c)) (t ++ [c]) (c + 1) := by
  have p0 : 0 < p := by omega
  have mb : b ∈ E := pm.mem_iff.mpr List.mem_cons_self
  have me : ∀ xs ∈ E', xs ∈ E := fun xs m => pm.mem_iff.mpr (List.mem_cons_of_mem _ m)
  have vb := w.ve b mb
  have vl : Vec p L (scaleZ p s b) := vec_map p0 (h := fun n => n * s) vb.1
  have eD : ∀ xs ∈ D, xs.length = (scaleZ p s b).length := fun xs m => (w.vd xs m).1.trans vl.1.symm
  have eE : ∀ xs ∈ E', xs.length = (scaleZ p s b).length := fun xs m => (w.ve xs (me xs m)).1.trans vl.1.symm
  have rl : row K (scaleZ p s b) = ax (ic K s) (row K b) zr := row_scale (p := p)
  have unit : ic K (b.getD c 0) * (ic K s) = 1 := by
    rw [← ic_mul, ← cast_mod (p := p), hs, ic_one]
  have one : row K (scaleZ p s b) c = 1 := by
    rw [rl]
    show (ic K s) * ic K (b.getD c 0) + 0 = 1
    grind
  have low : ∀ j, j < c → row K (scaleZ p s b) j = 0 := fun j hj => by
    have z : row K b j = 0 := w.up.low _ (List.mem_map_of_mem mb) j hj
    rw [rl]
    show (ic K s) * row K b j + 0 = 0
    rw [z]
    grind
  have upE : Upto ((rowsOf K D).zip t) (rowsOf K E') c := ⟨w.up.rr, w.up.lt, fun v m j hj => by
    obtain ⟨xs, mx, rfl⟩ := List.mem_map.mp m
    exact w.up.low _ (List.mem_map_of_mem (me xs mx)) j hj⟩
  have up := upE.found one low
  refine ⟨fun xs m => ?_, fun xs m => ?_, ?_, ?_, ?_⟩
  · rcases List.mem_append.mp m with q | q
    · obtain ⟨ys, my, rfl⟩ := List.mem_map.mp q
      exact vec_lessZ p0 (w.vd ys my) vl.1
    · rw [List.mem_singleton.mp q]
      exact vl
  · obtain ⟨ys, my, rfl⟩ := List.mem_map.mp m
    exact vec_lessZ p0 (w.ve ys (me ys my)) vl.1
  · rw [List.length_append, List.length_append, List.length_map, w.len]
    rfl
  · have e1 : (rowsOf K (D.map (lessZ p (scaleZ p s b) c) ++ [scaleZ p s b])).zip (t ++ [c]) = lessP (row K (scaleZ p s b)) c ((rowsOf K D).zip t) ++ [(row K (scaleZ p s b), c)] := by
      rw [show rowsOf K (D.map (lessZ p (scaleZ p s b) c) ++ [scaleZ p s b]) = rowsOf K (D.map (lessZ p (scaleZ p s b) c)) ++ [row K (scaleZ p s b)] from List.map_append, List.zip_append (by rw [List.length_map, List.length_map, w.len]), zip_less eD]
      rfl
    have e2 : rowsOf K (E'.map (lessZ p (scaleZ p s b) c)) = (rowsOf K E').map (less (row K (scaleZ p s b)) c) := by
      show (E'.map (lessZ p (scaleZ p s b) c)).map (row K) = (E'.map (row K)).map (less (row K (scaleZ p s b)) c)
      rw [List.map_map, List.map_map]
      exact List.map_congr_left fun xs m => row_lessZ (eE xs m)
    rw [e1, e2]
    exact up
  · refine Same.trans ?_ w.same
    have s1 : Same (rowsOf K (D ++ E)) (row K b :: rowsOf K (D ++ E')) := .perm (by
      refine (((List.Perm.refl D).append pm).map (row K)).trans ?_
      exact (List.perm_middle (l₁ := D) (l₂ := E') (a := b)).map (row K))
    have s2 : Same (row K b :: rowsOf K (D ++ E')) (ax (ic K s) (row K b) zr :: rowsOf K (D ++ E')) := same_scale unit
    rw [← rl] at s2
    have s3 : Same (row K (scaleZ p s b) :: rowsOf K (D ++ E')) (rowsOf K ((D.map (lessZ p (scaleZ p s b) c) ++ [scaleZ p s b]) ++ E'.map (lessZ p (scaleZ p s b) c))) := by
      have inB : row K (scaleZ p s b) ∈ rowsOf K ((D.map (lessZ p (scaleZ p s b) c) ++ [scaleZ p s b]) ++ E'.map (lessZ p (scaleZ p s b) c)) := List.mem_map_of_mem (by simp)
      refine same_less (a := row K (scaleZ p s b)) (c := c) List.mem_cons_self inB (fun v m => ?_) fun v m => ?_
      · rcases List.mem_cons.mp m with q | q
        · exact .inl q
        · obtain ⟨xs, mx, rfl⟩ := List.mem_map.mp q
          refine .inr ?_
          rcases List.mem_append.mp mx with r | r
          · rw [← row_lessZ (eD xs r)]
            exact List.mem_map_of_mem (List.mem_append_left _ (List.mem_append_left _ (List.mem_map_of_mem r)))
          · rw [← row_lessZ (eE xs r)]
            exact List.mem_map_of_mem (List.mem_append_right _ (List.mem_map_of_mem r))
      · obtain ⟨xs, mx, rfl⟩ := List.mem_map.mp m
        rcases List.mem_append.mp mx with r | r
        · rcases List.mem_append.mp r with r | r
          · obtain ⟨ys, my, rfl⟩ := List.mem_map.mp r
            exact .inr ⟨row K ys, List.mem_cons_of_mem _ (List.mem_map_of_mem (List.mem_append_left _ my)), row_lessZ (eD ys my)⟩
          · rw [List.mem_singleton.mp r]
            exact .inl rfl
        · obtain ⟨ys, my, rfl⟩ := List.mem_map.mp r
          exact .inr ⟨row K ys, List.mem_cons_of_mem _ (List.mem_map_of_mem (List.mem_append_right _ my)), row_lessZ (eE ys my)⟩
    exact ((s1.trans s2).trans s3).symm
/-- at the end: D spans what was given, and is reduced -/
theorem Way.fin {V D E : List (List Int)} {t : List Nat} (w : Way K p L V D E t L) : Rref ((rowsOf K D).zip t) ∧ Same (rowsOf K D) (rowsOf K V) ∧ rows ((rowsOf K D).zip t) = rowsOf K D := by
  refine ⟨w.up.rr, ?_, ?_⟩
  · refine Same.trans (Same.symm ?_) w.same
    rw [show rowsOf K (D ++ E) = rowsOf K D ++ rowsOf K E from List.map_append]
    refine same_zeros fun v m => ?_
    obtain ⟨xs, mx, rfl⟩ := List.mem_map.mp m
    funext j
    by_cases q : j < L
    · exact w.up.low _ m j q
    · exact row_ge (by rw [(w.ve xs mx).1]; omega)
  · exact List.map_fst_zip (by rw [List.length_map, w.len]; exact Nat.le_refl _)
end
end LinA

set_option Elab.async false
set_option linter.all false
/-! LinF: a number below a prime, to the prime less one, leaves 1. -/
namespace LinA
theorem cop {p k : Nat} (hp : ∀ d, 2 ≤ d → d < p → p % d ≠ 0) (k0 : 0 < k) (kp : k < p) : Nat.Coprime p k := by
  have g0 : 0 < Nat.gcd p k := Nat.gcd_pos_of_pos_right p k0
  have gk : Nat.gcd p k ≤ k := Nat.le_of_dvd k0 (Nat.gcd_dvd_right p k)
  have gp : p % Nat.gcd p k = 0 := Nat.mod_eq_zero_of_dvd (Nat.gcd_dvd_left p k)
  show Nat.gcd p k = 1
  rcases Nat.lt_or_ge (Nat.gcd p k) 2 with h | h
  · omega
  · exact absurd gp (hp _ h (by omega))
theorem len_nodup {a b : List Nat} (n : a.Nodup) (h : ∀ x ∈ a, x ∈ b) : a.length ≤ b.length := by
  induction a generalizing b with
  | nil => exact Nat.zero_le _
  | cons x a ih =>
    obtain ⟨n1, n2⟩ := List.nodup_cons.mp n
    have mx := h x List.mem_cons_self
    have z := ih (b := b.erase x) n2 fun y my => (List.mem_erase_of_ne (a := y) (b := x) fun q => n1 (by rw [← q]; exact my)).mpr (h y (List.mem_cons_of_mem _ my))
    rw [List.length_erase_of_mem mx] at z
    have p := List.length_pos_of_mem mx
    show a.length + 1 ≤ b.length
    omega
theorem perm_nodup {a b : List Nat} (n : a.Nodup) (m : b.Nodup) (h : ∀ x ∈ a, x ∈ b) (l : b.length ≤ a.length) : a.Perm b := by
  refine (List.perm_ext_iff_of_nodup n m).mpr fun x => ⟨h x, fun mx => ?_⟩
  refine Classical.byContradiction fun no => ?_
  have z := len_nodup (b := b.erase x) n fun y my => (List.mem_erase_of_ne (a := y) (b := x) fun q => no (by rw [← q]; exact my)).mpr (h y my)
  rw [List.length_erase_of_mem mx] at z
  have p := List.length_pos_of_mem mx
  omega
def prodL : List Nat → Nat
  | [] => 1
  | x :: xs => x * prodL xs
theorem prodL_perm {a b : List Nat} (h : a.Perm b) : prodL a = prodL b := by
  induction h with
  | nil => rfl
  | cons x _ ih => exact congrArg (x * ·) ih
  | swap x y l =>
    show y * (x * prodL l) = x * (y * prodL l)
    exact Nat.mul_left_comm y x (prodL l)
  | trans _ _ i j => exact i.trans j
theorem prodL_map (p a : Nat) : ∀ l : List Nat, prodL (l.map fun k => a * k % p) % p = a ^ l.length * prodL l % p
  | [] => by
    show 1 % p = a ^ 0 * 1 % p
    rw [Nat.pow_zero]
  | k :: l => by
    show (a * k % p) * prodL (l.map fun k => a * k % p) % p = a ^ (l.length + 1) * (k * prodL l) % p
    rw [Nat.mul_mod, Nat.mod_mod, prodL_map p a l, ← Nat.mul_mod]
    congr 1
    rw [Nat.pow_succ]
    grind
theorem prodL_cop {p : Nat} : ∀ {l : List Nat}, (∀ k ∈ l, Nat.Coprime p k) → Nat.Coprime p (prodL l)
  | [], _ => Nat.coprime_one_right p
  | k :: l, h => Nat.Coprime.mul_right (h k List.mem_cons_self) (prodL_cop fun x m => h x (List.mem_cons_of_mem _ m))
theorem fermat {p a : Nat} (hp : ∀ d, 2 ≤ d → d < p → p % d ≠ 0) (h2 : 2 ≤ p) (a0 : 0 < a) (ap : a < p) : a ^ (p - 1) % p = 1 := by
  have ca := cop hp a0 ap
  let L : List Nat := List.range' 1 (p - 1)
  have mL : ∀ k, k ∈ L ↔ 1 ≤ k ∧ k < p := fun k => by
    show k ∈ List.range' 1 (p - 1) ↔ _
    rw [List.mem_range'_1]
    omega
  have lL : L.length = p - 1 := List.length_range'
  have nL : L.Nodup := List.nodup_range' 1 (by decide)
  have key : ∀ x y, x ≤ y → y < p → a * x % p = a * y % p → x = y := fun x y xy yp e => by
    have d : p ∣ a * (y - x) := by
      rw [Nat.mul_sub]
      exact Nat.dvd_of_mod_eq_zero (Nat.sub_mod_eq_zero_of_mod_eq e.symm)
    have d2 : p ∣ y - x := ca.dvd_of_dvd_mul_left d
    rcases Nat.eq_zero_or_pos (y - x) with z | z
    · omega
    · have := Nat.le_of_dvd z d2
      omega
  have nM : (L.map fun k => a * k % p).Nodup := by
    refine List.pairwise_map.mpr (nL.imp_of_mem fun {x y} mx my ne e => ne ?_)
    rcases Nat.le_total x y with q | q
    · exact key x y q ((mL y).mp my).2 e
    · exact (key y x q ((mL x).mp mx).2 e.symm).symm
  have sub : ∀ x ∈ L.map fun k => a * k % p, x ∈ L := fun x mx => by
    obtain ⟨k, mk, rfl⟩ := List.mem_map.mp mx
    obtain ⟨k0, kp⟩ := (mL k).mp mk
    refine (mL _).mpr ⟨?_, Nat.mod_lt _ (by omega)⟩
    rcases Nat.eq_zero_or_pos (a * k % p) with z | z
    · have d : p ∣ k := ca.dvd_of_dvd_mul_left (Nat.dvd_of_mod_eq_zero z)
      have := Nat.le_of_dvd k0 d
      omega
    · exact z
  have pm := prodL_perm (perm_nodup nM nL sub (by rw [List.length_map]; exact Nat.le_refl _))
  have e := prodL_map p a L
  rw [pm, lL] at e
  have cF : Nat.Coprime p (prodL L) := prodL_cop fun k mk => cop hp ((mL k).mp mk).1 ((mL k).mp mk).2
  have a1 : 1 ≤ a ^ (p - 1) := Nat.pow_pos a0
  have d : p ∣ prodL L * (a ^ (p - 1) - 1) := by
    rw [Nat.mul_sub, Nat.mul_one, Nat.mul_comm (prodL L)]
    exact Nat.dvd_of_mod_eq_zero (Nat.sub_mod_eq_zero_of_mod_eq e.symm)
  have d2 : p ∣ a ^ (p - 1) - 1 := cF.dvd_of_dvd_mul_left d
  obtain ⟨c, hc⟩ := d2
  have e2 : a ^ (p - 1) = 1 + p * c := by omega
  rw [e2, Nat.add_mul_mod_self_left]
  exact Nat.mod_eq_of_lt (by omega)
end LinA

set_option Elab.async false
set_option linter.all false
/-! LinS: all that vectors span, as one sorted list; sums of vectors by factors; how many there are. -/
namespace LinA
open Lean.Grind
/-! ### a sorted list without doubles -/
def stepU (acc : List (List Int)) (x : List Int) : List (List Int) := if acc.getLast? = some x then acc else acc ++ [x]
structure Asc (xs : List (List Int)) : Prop where
  nd : xs.Nodup
  le : xs.Pairwise (· ≤ ·)
theorem Asc.nil : Asc [] := ⟨List.nodup_nil, .nil⟩
theorem Asc.eq {xs ys : List (List Int)} (h : Asc xs) (k : Asc ys) (m : ∀ v, v ∈ xs ↔ v ∈ ys) : xs = ys :=
  ((List.perm_ext_iff_of_nodup h.nd k.nd).mpr m).eq_of_pairwise (fun _ _ _ _ p q => List.le_antisymm p q) h.le k.le
theorem le_last {acc : List (List Int)} {z : List Int} (h : acc.Pairwise (· ≤ ·)) (e : acc.getLast? = some z) : ∀ a ∈ acc, a ≤ z := by
  obtain ⟨ys, rfl⟩ := List.getLast?_eq_some_iff.mp e
  intro a m
  rcases List.mem_append.mp m with q | q
  · exact (List.pairwise_append.mp h).2.2 a q z (by simp)
  · rw [List.mem_singleton.mp q]
    exact List.le_refl z
theorem stepU_asc {acc : List (List Int)} {x : List Int} (h : Asc acc) (u : ∀ a ∈ acc, a ≤ x) : Asc (stepU acc x) ∧ ∀ v, v ∈ stepU acc x ↔ v ∈ acc ∨ v = x := by
  unfold stepU
  by_cases e : acc.getLast? = some x
  · rw [if_pos e]
    refine ⟨h, fun v => ⟨.inl, fun m => m.elim id fun q => ?_⟩⟩
    rw [q]
    exact List.mem_of_getLast? e
  · rw [if_neg e]
    refine ⟨⟨List.nodup_append.mpr ⟨h.nd, by simp, fun a ma b mb q => ?_⟩, List.pairwise_append.mpr ⟨h.le, by simp, fun a ma b mb => ?_⟩⟩, fun v => by simp⟩
    · rw [List.mem_singleton.mp mb] at q
      subst q
      cases hl : acc.getLast? with
      | none =>
        rw [List.getLast?_eq_none_iff.mp hl] at ma
        cases ma
      | some z =>
        have z1 := le_last h.le hl a ma
        have z2 := u z (List.mem_of_getLast? hl)
        rw [List.le_antisymm z1 z2] at e
        exact e hl
    · rw [List.mem_singleton.mp mb]
      exact u a ma
theorem foldU : ∀ {xs acc : List (List Int)}, Asc acc → xs.Pairwise (· ≤ ·) → (∀ a ∈ acc, ∀ x ∈ xs, a ≤ x) → Asc (xs.foldl stepU acc) ∧ ∀ v, v ∈ xs.foldl stepU acc ↔ v ∈ acc ∨ v ∈ xs
  | [], acc, h, _, _ => ⟨h, fun v => by simp⟩
  | x :: xs, acc, h, p, u => by
    obtain ⟨p1, p2⟩ := List.pairwise_cons.mp p
    obtain ⟨a1, m1⟩ := stepU_asc h fun a ma => u a ma x List.mem_cons_self
    obtain ⟨a2, m2⟩ := foldU (xs := xs) a1 p2 fun a ma y my => by
      rcases (m1 a).mp ma with q | q
      · exact u a q y (List.mem_cons_of_mem _ my)
      · rw [q]
        exact p1 y my
    refine ⟨a2, fun v => ?_⟩
    show v ∈ xs.foldl stepU (stepU acc x) ↔ _
    rw [m2, m1, List.mem_cons, _root_.or_assoc]
/-- what unlike tells of a sorted list -/
def uniqU (xs : List (List Int)) : List (List Int) := xs.foldl stepU []
theorem uniqU_asc {xs : List (List Int)} (p : xs.Pairwise (· ≤ ·)) : Asc (uniqU xs) ∧ ∀ v, v ∈ uniqU xs ↔ v ∈ xs := by
  obtain ⟨a, m⟩ := foldU (xs := xs) Asc.nil p fun a ma => nomatch ma
  exact ⟨a, fun v => by rw [uniqU, m]; simp⟩
theorem stepU_len (acc : List (List Int)) (x : List Int) : (stepU acc x).length ≤ acc.length + 1 := by
  unfold stepU
  split
  · omega
  · simp
theorem foldU_len : ∀ (xs acc : List (List Int)), (xs.foldl stepU acc).length ≤ acc.length + xs.length
  | [], acc => by simp
  | x :: xs, acc => by
    have z := foldU_len xs (stepU acc x)
    have y := stepU_len acc x
    show (xs.foldl stepU (stepU acc x)).length ≤ acc.length + (xs.length + 1)
    omega
theorem uniqU_len (xs : List (List Int)) : (uniqU xs).length ≤ xs.length := by
  have z := foldU_len xs []
  show (xs.foldl stepU []).length ≤ xs.length
  simpa using z
theorem uniqU_len_take (xs : List (List Int)) (k : Nat) : ((xs.take k).foldl stepU []).length ≤ xs.length := by
  have z := foldU_len (xs.take k) []
  have y : (xs.take k).length ≤ xs.length := by rw [List.length_take]; omega
  simp at z y
  omega
/-! ### sums -/
section
variable {K : Type} [CommRing K]
theorem span_snoc {S : List (Row K)} {v w : Row K} : Span (S ++ [v]) w ↔ ∃ c u, Span S u ∧ w = ax c v u := by
  constructor
  · intro h
    induction h with
    | zero =>
      refine ⟨0, zr, .zero, ?_⟩
      funext j
      show (0 : K) = 0 * v j + 0
      grind
    | add d x w' m _ ih =>
      obtain ⟨c, u, hu, rfl⟩ := ih
      rcases List.mem_append.mp m with q | q
      · refine ⟨c, ax d x u, .ax d (.mem q) hu, ?_⟩
        funext j
        show d * x j + (c * v j + u j) = c * v j + (d * x j + u j)
        grind
      · rw [List.mem_singleton.mp q]
        refine ⟨d + c, u, hu, ?_⟩
        funext j
        show d * v j + (c * v j + u j) = (d + c) * v j + u j
        grind
  · rintro ⟨c, u, hu, rfl⟩
    exact .ax c (.mem (by simp)) (hu.mono fun x m => List.mem_append_left _ m)
theorem span_nil {w : Row K} : Span [] w ↔ w = zr := by
  constructor
  · intro h
    cases h with
    | zero => rfl
    | add c v w m _ => exact nomatch m
  · intro h
    rw [h]
    exact .zero
/-- rows, each times its factor -/
def comb : List (Row K) → List Int → Row K
  | v :: vs, c :: cs => ax (ic K c) v (comb vs cs)
  | _, _ => zr
theorem comb_span : ∀ (vs : List (Row K)) (cs : List Int), Span vs (comb vs cs)
  | [], _ => .zero
  | _ :: _, [] => .zero
  | v :: vs, c :: cs => .ax _ (.mem List.mem_cons_self) ((comb_span vs cs).mono fun x m => List.mem_cons_of_mem _ m)
end
def addF (p : Nat) (acc : List Int) (z : List Int × Int) : List Int := List.zipWith (fun a b => (a + z.2 * b) % (p : Int)) acc z.1
/-- vectors, each times its factor, as the law adds them up -/
def sumZ (p L : Nat) (T : List (List Int)) (fs : List Int) : List Int := (T.zip fs).foldl (addF p) (List.replicate L 0)
section
variable {p L : Nat}
theorem zeros_vec (h : 0 < p) : Vec p L (List.replicate L 0) := ⟨List.length_replicate, fun x m => by
  rw [(List.mem_replicate.mp m).2]
  omega⟩
theorem fold_vec (h : 0 < p) : ∀ {zs : List (List Int × Int)} {acc : List Int}, Vec p L acc → (∀ z ∈ zs, Vec p L z.1) → Vec p L (zs.foldl (addF p) acc)
  | [], acc, v, _ => v
  | z :: zs, acc, v, k => fold_vec h (zs := zs) (vec_zip h (h := fun a b => a + z.2 * b) v.1 (k z List.mem_cons_self).1) fun y m => k y (List.mem_cons_of_mem _ m)
theorem sumZ_vec (h : 0 < p) {T : List (List Int)} {fs : List Int} (hT : ∀ xs ∈ T, Vec p L xs) : Vec p L (sumZ p L T fs) := fold_vec h (zeros_vec h) fun z m => hT _ (List.of_mem_zip m).1
end
section
variable {K : Type} [CommRing K] {p : Nat} [IsCharP K p] {L : Nat}
theorem row_zeros : row K (List.replicate L 0) = zr := by
  funext j
  show ic K ((List.replicate L 0).getD j 0) = 0
  rw [List.getD_eq_getElem?_getD, List.getElem?_replicate]
  by_cases h : j < L
  · rw [if_pos h]
    exact ic_zero
  · rw [if_neg h]
    exact ic_zero
theorem fold_row (h : 0 < p) : ∀ {zs : List (List Int × Int)} {acc : List Int}, Vec p L acc → (∀ z ∈ zs, Vec p L z.1) → ∀ j, row K (zs.foldl (addF p) acc) j = row K acc j + comb (zs.map fun z => row K z.1) (zs.map (·.2)) j
  | [], acc, v, _, j => by
    show row K acc j = row K acc j + 0
    grind
  | z :: zs, acc, v, k, j => by
    have kz := k z List.mem_cons_self
    have va : Vec p L (addF p acc z) := vec_zip h (h := fun a b => a + z.2 * b) v.1 kz.1
    show row K (zs.foldl (addF p) (addF p acc z)) j = _
    rw [fold_row h (zs := zs) va (fun y m => k y (List.mem_cons_of_mem _ m)) j]
    have e : row K (addF p acc z) = ax (ic K z.2) (row K z.1) (row K acc) := row_more (v.1.trans kz.1.symm)
    rw [e]
    show (ic K z.2 * row K z.1 j + row K acc j) + comb _ _ j = row K acc j + (ic K z.2 * row K z.1 j + comb _ _ j)
    grind
theorem zip_maps {T : List (List Int)} {fs : List Int} (e : T.length = fs.length) : ((T.zip fs).map fun z => row K z.1) = rowsOf K T ∧ (T.zip fs).map (·.2) = fs := by
  constructor
  · have z : (T.zip fs).map (fun z => row K z.1) = ((T.zip fs).map (·.1)).map (row K) := by rw [List.map_map]; rfl
    rw [z, List.map_fst_zip (Nat.le_of_eq e)]
  · exact List.map_snd_zip (Nat.le_of_eq e.symm)
theorem sumZ_row (h : 0 < p) {T : List (List Int)} {fs : List Int} (hT : ∀ xs ∈ T, Vec p L xs) (e : T.length = fs.length) : row K (sumZ p L T fs) = comb (rowsOf K T) fs := by
  funext j
  rw [sumZ, fold_row h (zeros_vec h) (fun z m => hT _ (List.of_mem_zip m).1), (zip_maps (K := K) e).1, (zip_maps (K := K) e).2, row_zeros]
  show (0 : K) + _ = _
  grind
end
end LinA

set_option Elab.async false
set_option linter.all false
/-! LinT: what vectors span by numbers below p; spans in Fin p; bases: one alone, how many sums. -/
namespace LinA
open Lean.Grind
/-- what S adds up to by factors -/
def InS (p L : Nat) (S : List (List Int)) (xs : List Int) : Prop := ∃ fs, Vec p S.length fs ∧ xs = sumZ p L S fs
def IsSpan (p L : Nat) (S found : List (List Int)) : Prop := Asc found ∧ ∀ xs, xs ∈ found ↔ InS p L S xs
section
variable {p L : Nat}
theorem zip_snoc {α β : Type} {a : List α} {b : List β} (h : a.length = b.length) (x : α) (y : β) : (a ++ [x]).zip (b ++ [y]) = a.zip b ++ [(x, y)] := by
  rw [List.zip_append h]
  rfl
theorem sumZ_snoc {S : List (List Int)} {fs : List Int} (h : S.length = fs.length) (v : List Int) (f : Int) : sumZ p L (S ++ [v]) (fs ++ [f]) = addF p (sumZ p L S fs) (v, f) := by
  unfold sumZ
  rw [zip_snoc h, List.foldl_append]
  rfl
theorem add_zeros {xs : List Int} (h : Vec p L xs) : addF p (List.replicate L 0) (xs, 1) = xs := by
  have e : addF p (List.replicate L 0) (xs, 1) = List.zipWith (fun a b => (a + 1 * b) % (p : Int)) (List.replicate L 0) xs := rfl
  rw [e]
  refine List.ext_getElem ?_ fun j h1 h2 => ?_
  · rw [List.length_zipWith, List.length_replicate, h.1, Nat.min_self]
  · rw [List.getElem_zipWith, List.getElem_replicate]
    obtain ⟨a0, a1⟩ := h.2 _ (List.getElem_mem h2)
    rw [Int.zero_add, Int.one_mul, Int.emod_eq_of_lt a0 a1]
theorem sumZ_two {one v : List Int} (h : Vec p L one) (f : Int) : sumZ p L [one, v] [1, f] = addF p one (v, f) := by
  show addF p (addF p (List.replicate L 0) (one, 1)) (v, f) = _
  rw [add_zeros h]
theorem InS.vec (hp : 0 < p) {S : List (List Int)} {xs : List Int} (hS : ∀ v ∈ S, Vec p L v) (h : InS p L S xs) : Vec p L xs := by
  obtain ⟨fs, _, rfl⟩ := h
  exact sumZ_vec hp hS
theorem span_start : IsSpan p L [] [List.replicate L 0] := ⟨⟨by simp, by simp⟩, fun xs => by
  constructor
  · intro m
    exact ⟨[], ⟨rfl, fun x m => nomatch m⟩, List.mem_singleton.mp m⟩
  · rintro ⟨fs, ⟨h1, _⟩, rfl⟩
    rw [List.eq_nil_of_length_eq_zero h1]
    exact List.mem_singleton.mpr rfl⟩
/-- all ones and multiples of v below k -/
def moreZ (p L : Nat) (v : List Int) (found : List (List Int)) (k : Nat) : List (List Int) := (List.range k).flatMap fun f : Nat => found.map fun one => sumZ p L [one, v] [1, (f : Int)]
theorem moreZ_succ (v : List Int) (found : List (List Int)) (k : Nat) : moreZ p L v found (k + 1) = moreZ p L v found k ++ found.map fun one => sumZ p L [one, v] [1, (k : Int)] := by
  unfold moreZ
  rw [List.range_succ, List.flatMap_append]
  simp
theorem moreZ_len (v : List Int) (found : List (List Int)) : ∀ k : Nat, (moreZ p L v found k).length = k * found.length
  | 0 => by simp [moreZ]
  | k + 1 => by
    rw [moreZ_succ, List.length_append, moreZ_len v found k, List.length_map, Nat.succ_mul]
theorem span_step (hp : 0 < p) {S found sorted : List (List Int)} {v : List Int} (hS : ∀ v ∈ S, Vec p L v) (hv : Vec p L v) (h : IsSpan p L S found) (pm : sorted.Perm (moreZ p L v found p)) (le : sorted.Pairwise (· ≤ ·)) : IsSpan p L (S ++ [v]) (uniqU sorted) := by
  obtain ⟨a, m⟩ := uniqU_asc le
  refine ⟨a, fun xs => ?_⟩
  rw [m, pm.mem_iff]
  unfold moreZ
  rw [List.mem_flatMap]
  constructor
  · rintro ⟨f, mf, mx⟩
    obtain ⟨one, mo, rfl⟩ := List.mem_map.mp mx
    obtain ⟨fs, hf, rfl⟩ := (h.2 one).mp mo
    refine ⟨fs ++ [(f : Int)], ⟨by rw [List.length_append, List.length_append, hf.1]; rfl, fun x m => ?_⟩, ?_⟩
    · rcases List.mem_append.mp m with q | q
      · exact hf.2 x q
      · rw [List.mem_singleton.mp q]
        have := List.mem_range.mp mf
        omega
    · rw [sumZ_snoc hf.1.symm, sumZ_two (sumZ_vec hp hS)]
  · rintro ⟨fs, hf, rfl⟩
    have l1 : fs.length = S.length + 1 := by rw [hf.1, List.length_append]; rfl
    have e : fs = fs.dropLast ++ [fs.getLast (by intro z; rw [z] at l1; cases l1)] := (List.dropLast_concat_getLast _).symm
    generalize hl : fs.getLast _ = f at e
    have mf : f ∈ fs := by rw [← hl]; exact List.getLast_mem _
    obtain ⟨f0, f1⟩ := hf.2 f mf
    have ld : fs.dropLast.length = S.length := by rw [List.length_dropLast, l1]; rfl
    have hd : Vec p S.length fs.dropLast := ⟨ld, fun x m => hf.2 x (List.dropLast_subset _ m)⟩
    refine ⟨f.toNat, List.mem_range.mpr (by omega), List.mem_map.mpr ⟨sumZ p L S fs.dropLast, (h.2 _).mpr ⟨_, hd, rfl⟩, ?_⟩⟩
    have ef : ((f.toNat : Nat) : Int) = f := Int.toNat_of_nonneg f0
    rw [sumZ_two (sumZ_vec hp hS), ef]
    conv => rhs; rw [e]
    rw [sumZ_snoc ld.symm]
/-! ### in Fin p -/
theorem ic_val [NeZero p] (c : Fin p) : ic (Fin p) (c.val : Int) = c := by
  show @Int.cast (Fin p) Ring.intCast (c.val : Int) = c
  rw [@Ring.intCast_natCast (Fin p) _ c.val]
  exact Fin.ofNat_val_eq_self c
theorem span_cons {K : Type} [CommRing K] {S : List (Row K)} {v w : Row K} : Span (v :: S) w ↔ ∃ c u, Span S u ∧ w = ax c v u := by
  rw [← span_snoc]
  exact Same.perm (by simpa using (List.perm_append_comm (l₁ := [v]) (l₂ := S))) w
theorem span_comb [NeZero p] : ∀ {T : List (List Int)} {w : Row (Fin p)}, Span (rowsOf (Fin p) T) w → ∃ fs, Vec p T.length fs ∧ w = comb (rowsOf (Fin p) T) fs
  | [], w, h => ⟨[], ⟨rfl, fun x m => nomatch m⟩, span_nil.mp h⟩
  | v :: T, w, h => by
    obtain ⟨c, u, hu, rfl⟩ := span_cons.mp h
    obtain ⟨fs, hf, rfl⟩ := span_comb hu
    refine ⟨(c.val : Int) :: fs, ⟨by rw [List.length_cons, hf.1]; rfl, fun x m => ?_⟩, ?_⟩
    · rcases List.mem_cons.mp m with q | q
      · rw [q]
        have := c.isLt
        omega
      · exact hf.2 x q
    · show ax c (row (Fin p) v) (comb _ fs) = ax (ic (Fin p) (c.val : Int)) (row (Fin p) v) (comb _ fs)
      rw [ic_val]
theorem inS_iff [NeZero p] {T : List (List Int)} {xs : List Int} (hT : ∀ v ∈ T, Vec p L v) : InS p L T xs ↔ Vec p L xs ∧ Span (rowsOf (Fin p) T) (row (Fin p) xs) := by
  have hp : 0 < p := Nat.pos_of_ne_zero (NeZero.ne p)
  constructor
  · intro h
    refine ⟨h.vec hp hT, ?_⟩
    obtain ⟨fs, hf, rfl⟩ := h
    rw [sumZ_row hp hT hf.1.symm]
    exact comb_span _ _
  · rintro ⟨hx, h⟩
    obtain ⟨fs, hf, e⟩ := span_comb h
    refine ⟨fs, hf, row_eq (K := Fin p) hx (sumZ_vec hp hT) ?_⟩
    rw [sumZ_row hp hT hf.1.symm]
    exact e
end
end LinA

set_option Elab.async false
set_option linter.all false
/-! LinU: bases in numbers: one alone, coordinates, how many sums; a place's clearing in the list. -/
namespace LinA
open Lean.Grind
structure Bas (p L : Nat) (T B : List (List Int)) (t : List Nat) : Prop where
  vec : ∀ xs ∈ B, Vec p L xs
  len : B.length = t.length
  top : ∀ c ∈ t, c < L
  one : ∀ x ∈ B.zip t, x.1.getD x.2 0 = 1
  low : ∀ x ∈ B.zip t, ∀ j, j < x.2 → x.1.getD j 0 = 0
  two : (B.zip t).Pairwise fun x y => x.2 < y.2 ∧ x.1.getD y.2 0 = 0
  same : ∀ xs, InS p L B xs ↔ InS p L T xs
abbrev topsOf (p : Nat) [NeZero p] (B : List (List Int)) (t : List Nat) : Tops (Fin p) := (rowsOf (Fin p) B).zip t
section
variable {p L : Nat}
theorem zip_rows [NeZero p] (B : List (List Int)) (t : List Nat) : topsOf p B t = (B.zip t).map fun x => (row (Fin p) x.1, x.2) := by
  show (B.map (row (Fin p))).zip t = _
  rw [List.zip_map_left]
  rfl
theorem inS_sub [NeZero p] {S T : List (List Int)} (hS : ∀ v ∈ S, Vec p L v) (hT : ∀ v ∈ T, Vec p L v) (h : ∀ v ∈ S, InS p L T v) {xs : List Int} (k : InS p L S xs) : InS p L T xs := by
  obtain ⟨a, b⟩ := (inS_iff hS).mp k
  refine (inS_iff hT).mpr ⟨a, b.sub fun v m => ?_⟩
  obtain ⟨ys, my, rfl⟩ := List.mem_map.mp m
  exact ((inS_iff hT).mp (h ys my)).2
theorem inS_mem [NeZero p] {S : List (List Int)} (hS : ∀ v ∈ S, Vec p L v) {v : List Int} (m : v ∈ S) : InS p L S v := (inS_iff hS).mpr ⟨hS v m, .mem (List.mem_map_of_mem m)⟩
theorem same_of [NeZero p] {S T : List (List Int)} (hS : ∀ v ∈ S, Vec p L v) (hT : ∀ v ∈ T, Vec p L v) (h : ∀ xs, InS p L S xs ↔ InS p L T xs) : Same (rowsOf (Fin p) S) (rowsOf (Fin p) T) := by
  refine .of (fun v m => ?_) fun v m => ?_
  · obtain ⟨ys, my, rfl⟩ := List.mem_map.mp m
    exact ((inS_iff hT).mp ((h ys).mp (inS_mem hS my))).2
  · obtain ⟨ys, my, rfl⟩ := List.mem_map.mp m
    exact ((inS_iff hS).mp ((h ys).mpr (inS_mem hT my))).2
theorem inS_same [NeZero p] {S T : List (List Int)} (hS : ∀ v ∈ S, Vec p L v) (hT : ∀ v ∈ T, Vec p L v) (h : Same (rowsOf (Fin p) S) (rowsOf (Fin p) T)) (xs : List Int) : InS p L S xs ↔ InS p L T xs := by
  rw [inS_iff hS, inS_iff hT, h]
theorem Bas.rref [NeZero p] {T B : List (List Int)} {t : List Nat} (h : Bas p L T B t) : Rref (topsOf p B t) := by
  rw [zip_rows]
  refine ⟨fun x m => ?_, fun x m j hj => ?_, ?_⟩
  · obtain ⟨y, my, rfl⟩ := List.mem_map.mp m
    show ic (Fin p) (y.1.getD y.2 0) = 1
    rw [h.one y my, ic_one]
  · obtain ⟨y, my, rfl⟩ := List.mem_map.mp m
    show ic (Fin p) (y.1.getD j 0) = 0
    rw [h.low y my j hj, ic_zero]
  · refine List.pairwise_map.mpr (h.two.imp fun {x y} q => ⟨q.1, ?_⟩)
    show ic (Fin p) (x.1.getD y.2 0) = 0
    rw [q.2, ic_zero]
theorem vec_at {xs : List Int} (h : Vec p L xs) (hp : 0 < p) (j : Nat) : 0 ≤ xs.getD j 0 ∧ xs.getD j 0 < p := by
  by_cases q : j < xs.length
  · rw [getD_lt q]
    exact h.2 _ (List.getElem_mem q)
  · rw [getD_ge (Nat.le_of_not_lt q)]
    omega
theorem Bas.of_way [NeZero p] (p1 : 1 < p) {T D E : List (List Int)} {t : List Nat} (hT : ∀ v ∈ T, Vec p L v) (w : Way (Fin p) p L T D E t L) : Bas p L T D t := by
  obtain ⟨r, s, _⟩ := w.fin
  have r2 : Rref (topsOf p D t) := r
  have lt : ∀ x ∈ topsOf p D t, x.2 < L := w.up.lt
  rw [zip_rows] at r2 lt
  have hz : ∀ x ∈ D.zip t, Vec p L x.1 := fun x m => w.vd _ (List.of_mem_zip m).1
  have p0 : 0 < p := by omega
  refine ⟨w.vd, w.len, fun c m => ?_, fun x m => ?_, fun x m j hj => ?_, ?_, inS_same w.vd hT s⟩
  · obtain ⟨i, hi, e⟩ := List.mem_iff_getElem.mp m
    have hi2 : i < (D.zip t).length := by rw [List.length_zip, w.len]; omega
    have z := lt _ (List.mem_map_of_mem (f := fun x : List Int × Nat => (row (Fin p) x.1, x.2)) (List.getElem_mem hi2))
    rw [← e]
    simpa using z
  · have z : ic (Fin p) (x.1.getD x.2 0) = 1 := r2.one _ (List.mem_map_of_mem (f := fun x : List Int × Nat => (row (Fin p) x.1, x.2)) m)
    obtain ⟨a0, a1⟩ := vec_at (hz x m) p0 x.2
    refine cast_eq (K := Fin p) (p := p) (by rw [z, ic_one]) a0 a1 (by omega) (by omega)
  · have z : ic (Fin p) (x.1.getD j 0) = 0 := r2.low _ (List.mem_map_of_mem (f := fun x : List Int × Nat => (row (Fin p) x.1, x.2)) m) j hj
    obtain ⟨a0, a1⟩ := vec_at (hz x m) p0 j
    exact (cast_zero (K := Fin p) a0 a1).mp z
  · have z := List.pairwise_map.mp r2.two
    refine z.imp_of_mem fun {x y} mx my q => ⟨q.1, ?_⟩
    obtain ⟨a0, a1⟩ := vec_at (hz x mx) p0 y.2
    exact (cast_zero (K := Fin p) a0 a1).mp q.2
theorem rows_of_tops [NeZero p] {T B : List (List Int)} {t : List Nat} (h : Bas p L T B t) : rows (topsOf p B t) = rowsOf (Fin p) B := List.map_fst_zip (by rw [List.length_map, h.len]; exact Nat.le_refl _)
theorem rows_inj [NeZero p] : ∀ {B C : List (List Int)}, (∀ v ∈ B, Vec p L v) → (∀ v ∈ C, Vec p L v) → rowsOf (Fin p) B = rowsOf (Fin p) C → B = C
  | [], [], _, _, _ => rfl
  | [], _ :: _, _, _, e => nomatch e
  | _ :: _, [], _, _, e => nomatch e
  | x :: B, y :: C, h, k, e => by
    obtain ⟨e1, e2⟩ := List.cons.inj e
    rw [row_eq (K := Fin p) (h x List.mem_cons_self) (k y List.mem_cons_self) e1, rows_inj (fun v m => h v (List.mem_cons_of_mem _ m)) (fun v m => k v (List.mem_cons_of_mem _ m)) e2]
/-- the reduced basis is one alone -/
theorem Bas.uniq (p1 : 1 < p) {S T B C : List (List Int)} {s t : List Nat} (h : Bas p L S B s) (k : Bas p L T C t) (e : ∀ xs, InS p L S xs ↔ InS p L T xs) : B = C ∧ s = t := by
  haveI : NeZero p := ⟨by omega⟩
  have q : Same (rows (topsOf p B s)) (rows (topsOf p C t)) := by
    rw [rows_of_tops h, rows_of_tops k]
    exact same_of h.vec k.vec fun xs => by rw [h.same, k.same, e]
  have z := rref_one h.rref k.rref (one_ne (p := p) p1) q
  have z1 := congrArg (fun P => P.map (·.1)) z
  have z2 := congrArg (fun P => P.map (·.2)) z
  have e1 : rowsOf (Fin p) B = rowsOf (Fin p) C := by
    rw [← rows_of_tops h, ← rows_of_tops k]
    exact z1
  refine ⟨rows_inj h.vec k.vec e1, ?_⟩
  have t1 : (topsOf p B s).map (·.2) = s := List.map_snd_zip (by rw [List.length_map, h.len]; exact Nat.le_refl _)
  have t2 : (topsOf p C t).map (·.2) = t := List.map_snd_zip (by rw [List.length_map, k.len]; exact Nat.le_refl _)
  rw [← t1, ← t2]
  exact z2
theorem Bas.rank_le (p1 : 1 < p) {S T B C : List (List Int)} {s t : List Nat} (h : Bas p L S B s) (k : Bas p L T C t) (e : ∀ xs, InS p L S xs → InS p L T xs) : B.length ≤ C.length := by
  haveI : NeZero p := ⟨by omega⟩
  have q : ∀ v, Span (rows (topsOf p B s)) v → Span (rows (topsOf p C t)) v := by
    rw [rows_of_tops h, rows_of_tops k]
    intro v hv
    refine hv.sub fun u m => ?_
    obtain ⟨ys, my, rfl⟩ := List.mem_map.mp m
    exact ((inS_iff k.vec).mp ((k.same ys).mpr (e ys ((h.same ys).mp (inS_mem h.vec my))))).2
  have z := LinA.rank_le h.rref k.rref (one_ne (p := p) p1) q
  rw [List.length_zip, List.length_map, List.length_zip, List.length_map, h.len, k.len] at z
  rw [h.len, k.len]
  omega
theorem comb_coord [NeZero p] {xs : List Int} : ∀ (B : List (List Int)) (t : List Nat), comb (rowsOf (Fin p) B) (t.map fun c => xs.getD c 0) = coord (row (Fin p) xs) (topsOf p B t)
  | [], _ => rfl
  | _ :: _, [] => rfl
  | b :: B, c :: t => by
    show ax (ic (Fin p) (xs.getD c 0)) (row (Fin p) b) (comb _ _) = ax (row (Fin p) xs c) (row (Fin p) b) (coord _ _)
    rw [comb_coord B t]
    rfl
/-- the numbers at the tops put it together -/
theorem Bas.coords (p1 : 1 < p) {T B : List (List Int)} {t : List Nat} (h : Bas p L T B t) {xs : List Int} (k : InS p L T xs) : sumZ p L B (t.map fun c => xs.getD c 0) = xs := by
  haveI : NeZero p := ⟨by omega⟩
  have p0 : 0 < p := by omega
  obtain ⟨hx, hs⟩ := (inS_iff h.vec).mp ((h.same xs).mpr k)
  refine row_eq (K := Fin p) (sumZ_vec p0 h.vec) hx ?_
  rw [sumZ_row p0 h.vec (by rw [List.length_map, h.len]), comb_coord]
  refine span_coord h.rref ?_
  rw [rows_of_tops h]
  exact hs
/-- the factors are the numbers at the tops -/
theorem comb_tops [NeZero p] : ∀ {B : List (List Int)} {t : List Nat} {cs : List Int}, (topsOf p B t).Pairwise (fun x y => x.2 < y.2 ∧ x.1 y.2 = 0) → (∀ x ∈ topsOf p B t, x.1 x.2 = 1) → (∀ x ∈ topsOf p B t, ∀ j, j < x.2 → x.1 j = 0) → B.length = t.length → cs.length = t.length → t.map (comb (rowsOf (Fin p) B) cs) = cs.map (ic (Fin p)) ∧ ∀ j, (∀ c ∈ t, j < c) → comb (rowsOf (Fin p) B) cs j = 0
  | [], [], [], _, _, _, _, _ => ⟨rfl, fun _ _ => rfl⟩
  | b :: B, c :: t, f :: cs, h2, h1, hl, l1, l2 => by
    obtain ⟨q1, q2⟩ := List.pairwise_cons.mp h2
    obtain ⟨e, z⟩ := comb_tops (B := B) (t := t) (cs := cs) q2 (fun x m => h1 x (List.mem_cons_of_mem _ m)) (fun x m => hl x (List.mem_cons_of_mem _ m)) (Nat.succ.inj l1) (Nat.succ.inj l2)
    have one : row (Fin p) b c = 1 := h1 (row (Fin p) b, c) List.mem_cons_self
    have mem : ∀ d ∈ t, ∃ x ∈ topsOf p B t, x.2 = d := fun d m => by
      have w : (topsOf p B t).map (·.2) = t := List.map_snd_zip (by rw [List.length_map]; exact Nat.le_of_eq (Nat.succ.inj l1).symm)
      rw [← w] at m
      obtain ⟨x, mx, ex⟩ := List.mem_map.mp m
      exact ⟨x, mx, ex⟩
    have lt : ∀ d ∈ t, c < d := fun d m => by
      obtain ⟨x, mx, rfl⟩ := mem d m
      exact (q1 x mx).1
    have off : ∀ d ∈ t, row (Fin p) b d = 0 := fun d m => by
      obtain ⟨x, mx, rfl⟩ := mem d m
      exact (q1 x mx).2
    constructor
    · show (ic (Fin p) f * row (Fin p) b c + comb _ cs c) :: t.map (fun d => ic (Fin p) f * row (Fin p) b d + comb _ cs d) = ic (Fin p) f :: cs.map _
      rw [one, z c lt, ← e]
      congr 1
      · grind
      · refine List.map_congr_left fun d m => ?_
        rw [off d m]
        grind
    · intro j hj
      show ic (Fin p) f * row (Fin p) b j + comb _ cs j = 0
      have zb : row (Fin p) b j = 0 := hl (row (Fin p) b, c) List.mem_cons_self j (hj c List.mem_cons_self)
      rw [zb, z j fun d m => hj d (List.mem_cons_of_mem _ m)]
      grind
/-- all lists of n numbers below p -/
def allZ (p : Nat) : Nat → List (List Int)
  | 0 => [[]]
  | n + 1 => (List.range p).flatMap fun f : Nat => (allZ p n).map fun cs => (f : Int) :: cs
theorem sum_const {α : Type} (n : Nat) : ∀ l : List α, (l.map fun _ => n).sum = l.length * n
  | [] => by simp
  | _ :: l => by
    show n + (l.map fun _ => n).sum = (l.length + 1) * n
    rw [sum_const n l, Nat.succ_mul, Nat.add_comm]
theorem allZ_len : ∀ n : Nat, (allZ p n).length = p ^ n
  | 0 => rfl
  | n + 1 => by
    unfold allZ
    rw [List.length_flatMap]
    have e : (fun f : Nat => ((allZ p n).map fun cs => (f : Int) :: cs).length) = fun _ => p ^ n := by
      funext f
      rw [List.length_map, allZ_len n]
    rw [e, sum_const, List.length_range, Nat.pow_succ, Nat.mul_comm]
theorem allZ_mem : ∀ {n : Nat} {cs : List Int}, cs ∈ allZ p n ↔ Vec p n cs
  | 0, cs => by
    constructor
    · intro m
      rw [List.mem_singleton.mp m]
      exact ⟨rfl, fun x m => nomatch m⟩
    · rintro ⟨h, _⟩
      rw [List.eq_nil_of_length_eq_zero h]
      exact List.mem_singleton.mpr rfl
  | n + 1, cs => by
    unfold allZ
    rw [List.mem_flatMap]
    constructor
    · rintro ⟨f, mf, m⟩
      obtain ⟨ds, md, rfl⟩ := List.mem_map.mp m
      obtain ⟨l, h⟩ := allZ_mem.mp md
      refine ⟨by rw [List.length_cons, l], fun x m => ?_⟩
      rcases List.mem_cons.mp m with q | q
      · rw [q]
        have := List.mem_range.mp mf
        omega
      · exact h x q
    · rintro ⟨l, h⟩
      cases cs with
      | nil => cases l
      | cons c cs =>
        obtain ⟨c0, c1⟩ := h c List.mem_cons_self
        refine ⟨c.toNat, List.mem_range.mpr (by omega), List.mem_map.mpr ⟨cs, allZ_mem.mpr ⟨Nat.succ.inj l, fun x m => h x (List.mem_cons_of_mem _ m)⟩, ?_⟩⟩
        rw [Int.toNat_of_nonneg c0]
theorem allZ_nodup : ∀ n : Nat, (allZ p n).Nodup
  | 0 => by simp [allZ]
  | n + 1 => by
    unfold allZ
    refine List.pairwise_flatMap.mpr ⟨fun f _ => ?_, ?_⟩
    · exact List.pairwise_map.mpr ((allZ_nodup n).imp fun q e => q (List.cons.inj e).2)
    · refine (List.nodup_range (n := p)).imp fun {f g} q x mx y my e => ?_
      obtain ⟨a, _, rfl⟩ := List.mem_map.mp mx
      obtain ⟨b, _, rfl⟩ := List.mem_map.mp my
      have z := (List.cons.inj e).1
      omega
/-- as many sums as lists of factors -/
theorem Bas.count (p1 : 1 < p) {T B found : List (List Int)} {t : List Nat} (h : Bas p L T B t) (k : IsSpan p L T found) : found.length = p ^ B.length := by
  haveI : NeZero p := ⟨by omega⟩
  have p0 : 0 < p := by omega
  have r := h.rref
  have key : ∀ cs, cs ∈ allZ p B.length → t.map (fun c => (sumZ p L B cs).getD c 0) = cs := fun cs m => by
    obtain ⟨l, hc⟩ := allZ_mem.mp m
    have z := (comb_tops (B := B) (t := t) (cs := cs) r.two r.one r.low h.len (by rw [l, h.len])).1
    rw [← sumZ_row p0 h.vec (by rw [l])] at z
    refine List.ext_getElem (by rw [List.length_map, l, h.len]) fun i h1 h2 => ?_
    have z2 : (t.map (row (Fin p) (sumZ p L B cs)))[i]? = (cs.map (ic (Fin p)))[i]? := by rw [z]
    have it : i < t.length := by
      rw [List.length_map] at h1
      exact h1
    rw [List.getElem?_map, List.getElem?_map, List.getElem?_eq_getElem h2, List.getElem?_eq_getElem (by rw [List.length_map] at h1; exact h1)] at z2
    have z3 : ic (Fin p) ((sumZ p L B cs).getD t[i] 0) = ic (Fin p) cs[i] := Option.some.inj z2
    obtain ⟨a0, a1⟩ := vec_at (sumZ_vec p0 h.vec (fs := cs)) p0 (t[i]'it)
    obtain ⟨b0, b1⟩ := hc _ (List.getElem_mem h2)
    rw [List.getElem_map]
    exact cast_eq (K := Fin p) z3 a0 a1 b0 b1
  have nd : ((allZ p B.length).map (sumZ p L B)).Nodup := by
    refine List.pairwise_map.mpr ((allZ_nodup B.length).imp_of_mem fun {a b} ma mb q e => q ?_)
    rw [← key a ma, ← key b mb, e]
  have pm : found.Perm ((allZ p B.length).map (sumZ p L B)) := (List.perm_ext_iff_of_nodup k.1.nd nd).mpr fun xs => by
    rw [k.2, ← h.same, List.mem_map]
    constructor
    · rintro ⟨fs, hf, rfl⟩
      exact ⟨fs, allZ_mem.mpr hf, rfl⟩
    · rintro ⟨fs, hf, rfl⟩
      exact ⟨fs, allZ_mem.mp hf, rfl⟩
  rw [pm.length_eq, List.length_map, allZ_len]
/-- one of the basis alone -/
theorem Bas.single {T B : List (List Int)} {t : List Nat} (h : Bas p L T B t) {x : List Int × Nat} (m : x ∈ B.zip t) : Bas p L [x.1] [x.1] [x.2] := by
  obtain ⟨m1, m2⟩ := List.of_mem_zip (a := x.1) (b := x.2) m
  refine ⟨fun xs q => ?_, rfl, fun c q => ?_, fun y q => ?_, fun y q j hj => ?_, by simp, fun xs => Iff.rfl⟩
  · rw [List.mem_singleton.mp q]
    exact h.vec _ m1
  · rw [List.mem_singleton.mp q]
    exact h.top _ m2
  · rw [show y = x from List.mem_singleton.mp q]
    exact h.one x m
  · rw [show y = x from List.mem_singleton.mp q] at hj ⊢
    exact h.low x m j hj
theorem Bas.none : Bas p L [] [] [] where
  vec xs m := nomatch m
  len := rfl
  top c m := nomatch m
  one x m := nomatch m
  low x m := nomatch m
  two := .nil
  same _ := Iff.rfl
end
end LinA

set_option Elab.async false
set_option linter.all false
/-! LinE: the inverse by taking off, down to 1. -/
namespace LinA
/-- one and the other less and less, with what each is of the number -/
structure Eu (p a : Nat) (g l : Nat) (k f : Int) : Prop where
  g1 : Nat.Coprime g l
  l0 : 0 < l
  lg : l ≤ p
  gp : g ≤ p
  eg : (k * (a : Int) - (g : Int)) % (p : Int) = 0
  el : (f * (a : Int) - (l : Int)) % (p : Int) = 0
theorem Eu.start {p a : Nat} (c : Nat.Coprime p a) (a0 : 0 < a) (ap : a < p) : Eu p a p a 0 1 := by
  refine ⟨c, a0, by omega, Nat.le_refl _, ?_, ?_⟩
  · rw [Int.zero_mul, Int.zero_sub, Int.neg_emod_self]
  · rw [Int.one_mul, Int.sub_self, Int.zero_emod]
theorem Eu.step {p a g l : Nat} {k f : Int} (h : Eu p a g l k f) (l1 : 1 < l) : Eu p a l (g % l) f (k - ((g / l : Nat) : Int) * f) := by
  obtain ⟨g1, l0, lg, gp, eg, el⟩ := h
  have r0 : 0 < g % l := by
    refine Nat.pos_of_ne_zero fun e => ?_
    have d : l ∣ g := Nat.dvd_of_mod_eq_zero e
    have z : Nat.gcd g l = l := Nat.gcd_eq_right d
    have z2 : Nat.gcd g l = 1 := g1
    omega
  have rl : g % l < l := Nat.mod_lt _ l0
  refine ⟨?_, r0, by omega, lg, el, ?_⟩
  · have z : Nat.gcd g l = 1 := g1
    show Nat.gcd l (g % l) = 1
    rw [Nat.gcd_comm, ← Nat.gcd_rec, Nat.gcd_comm]
    exact z
  · have e1 : (g : Int) = ((g / l : Nat) : Int) * (l : Int) + ((g % l : Nat) : Int) := by
      have z := Nat.div_add_mod g l
      have z2 : (l : Int) * ((g / l : Nat) : Int) + ((g % l : Nat) : Int) = (g : Int) := by
        rw [← Int.natCast_mul, ← Int.natCast_add, z]
      rw [Int.mul_comm]
      exact z2.symm
    have e2 : (k - ((g / l : Nat) : Int) * f) * (a : Int) - ((g % l : Nat) : Int) = (k * (a : Int) - (g : Int)) - ((g / l : Nat) : Int) * (f * (a : Int) - (l : Int)) := by
      rw [Int.sub_mul, Int.mul_sub, Int.mul_assoc]
      generalize ((g / l : Nat) : Int) * (f * (a : Int)) = u at *
      generalize k * (a : Int) = v at *
      omega
    rw [e2]
    have d1 := Int.dvd_of_emod_eq_zero eg
    have d2 := Int.dvd_of_emod_eq_zero el
    exact Int.emod_eq_zero_of_dvd (Int.dvd_sub d1 (Int.dvd_mul_of_dvd_right d2))
theorem Eu.fin {p a g l : Nat} {k f : Int} (h : Eu p a g l k f) (p2 : 2 ≤ p) (l1 : ¬ 1 < l) : f * (a : Int) % (p : Int) = 1 := by
  obtain ⟨g1, l0, lg, gp, eg, el⟩ := h
  have e : l = 1 := by omega
  subst e
  obtain ⟨c, hc⟩ := Int.dvd_of_emod_eq_zero el
  have z : f * (a : Int) = 1 + (p : Int) * c := by
    have : ((1 : Nat) : Int) = 1 := rfl
    omega
  rw [z, Int.add_mul_emod_self_left]
  exact Int.emod_eq_of_lt (by omega) (by omega)
/-- there is one inverse alone -/
theorem inv_uniq {p a : Nat} {x y : Int} (c : Nat.Coprime p a) (p2 : 2 ≤ p) (hx : x * (a : Int) % (p : Int) = 1) (hy : y * (a : Int) % (p : Int) = 1) : x % (p : Int) = y % (p : Int) := by
  have e : x * 1 % (p : Int) = y * 1 % (p : Int) := by
    have e1 : x * (y * (a : Int)) % (p : Int) = y * (x * (a : Int)) % (p : Int) := by
      have : x * (y * (a : Int)) = y * (x * (a : Int)) := by
        rw [← Int.mul_assoc, ← Int.mul_assoc, Int.mul_comm x y]
      rw [this]
    have h1 : (1 : Int) % (p : Int) = 1 := Int.emod_eq_of_lt (by omega) (by omega)
    have a1 : x * (y * (a : Int)) % (p : Int) = x * 1 % (p : Int) := by
      rw [Int.mul_emod, hy, Int.mul_emod x 1, h1]
    have a2 : y * (x * (a : Int)) % (p : Int) = y * 1 % (p : Int) := by
      rw [Int.mul_emod, hx, Int.mul_emod y 1, h1]
    rw [← a1, ← a2, e1]
  rw [Int.mul_one, Int.mul_one] at e
  exact e
end LinA

set_option Elab.async false
set_option linter.all false
/-! LinQ: products of rows; what vectors add up to, or what bars it; all that is nought on them. -/
namespace LinA
open Lean.Grind
section
variable {K : Type} [CommRing K]
/-- the product of two rows, of their first n places -/
def ip (x : Row K) : Nat → Row K → K
  | 0, _ => 0
  | n + 1, r => ip x n r + r n * x n
theorem ip_ax (x : Row K) (c : K) (v w : Row K) : ∀ n, ip x n (ax c v w) = c * ip x n v + ip x n w
  | 0 => by
    show (0 : K) = c * 0 + 0
    grind
  | n + 1 => by
    show ip x n (ax c v w) + (c * v n + w n) * x n = c * (ip x n v + v n * x n) + (ip x n w + w n * x n)
    rw [ip_ax x c v w n]
    grind
theorem ip_xa (c : K) (x y r : Row K) : ∀ n, ip (ax c x y) n r = c * ip x n r + ip y n r
  | 0 => by
    show (0 : K) = c * 0 + 0
    grind
  | n + 1 => by
    show ip (ax c x y) n r + r n * (c * x n + y n) = c * (ip x n r + r n * x n) + (ip y n r + r n * y n)
    rw [ip_xa c x y r n]
    grind
theorem ip_zr (x : Row K) : ∀ n, ip x n zr = 0
  | 0 => rfl
  | n + 1 => by
    show ip x n zr + 0 * x n = 0
    rw [ip_zr x n]
    grind
theorem ip_rz (r : Row K) : ∀ n, ip zr n r = 0
  | 0 => rfl
  | n + 1 => by
    show ip zr n r + r n * 0 = 0
    rw [ip_rz r n]
    grind
theorem ip_comm (x y : Row K) : ∀ n, ip x n y = ip y n x
  | 0 => rfl
  | n + 1 => by
    show ip x n y + y n * x n = ip y n x + x n * y n
    rw [ip_comm x y n]
    grind
theorem ip_congr {x y r s : Row K} : ∀ {n : Nat}, (∀ j, j < n → x j = y j ∧ r j = s j) → ip x n r = ip y n s
  | 0, _ => rfl
  | n + 1, h => by
    show ip x n r + r n * x n = ip y n s + s n * y n
    rw [ip_congr (n := n) fun j hj => h j (Nat.lt_succ_of_lt hj), (h n (Nat.lt_succ_self n)).1, (h n (Nat.lt_succ_self n)).2]
theorem ip_none {x r : Row K} : ∀ {n : Nat}, (∀ j, j < n → r j * x j = 0) → ip x n r = 0
  | 0, _ => rfl
  | n + 1, h => by
    show ip x n r + r n * x n = 0
    rw [ip_none (n := n) fun j hj => h j (Nat.lt_succ_of_lt hj), h n (Nat.lt_succ_self n)]
    grind
/-- one place alone counts -/
theorem ip_one {x r : Row K} {c : Nat} : ∀ {n : Nat}, c < n → (∀ j, j < n → j ≠ c → r j * x j = 0) → ip x n r = r c * x c
  | 0, h, _ => (Nat.not_lt_zero c h).elim
  | n + 1, h, k => by
    show ip x n r + r n * x n = r c * x c
    by_cases q : c = n
    · subst q
      rw [ip_none fun j hj => k j (Nat.lt_succ_of_lt hj) (Nat.ne_of_lt hj)]
      grind
    · rw [ip_one (n := n) (by omega) fun j hj => k j (Nat.lt_succ_of_lt hj), k n (Nat.lt_succ_self n) (Ne.symm q)]
      grind
theorem ip_span {x : Row K} {n : Nat} {S : List (Row K)} (h : ∀ v ∈ S, ip x n v = 0) {v : Row K} (hv : Span S v) : ip x n v = 0 := by
  induction hv with
  | zero => exact ip_zr x n
  | add c v w m _ ih =>
    rw [ip_ax, h v m, ih]
    grind
/-- factors times numbers, added up -/
def csum : List K → List Int → K
  | k :: ks, c :: cs => ic K c * k + csum ks cs
  | _, _ => 0
theorem ip_comb (x : Row K) (n : Nat) : ∀ (vs : List (Row K)) (cs : List Int), ip x n (comb vs cs) = csum (vs.map (ip x n)) cs
  | [], cs => by
    cases cs <;> exact ip_zr x n
  | v :: vs, [] => ip_zr x n
  | v :: vs, c :: cs => by
    show ip x n (ax (ic K c) v (comb vs cs)) = ic K c * ip x n v + csum (vs.map (ip x n)) cs
    rw [ip_ax, ip_comb x n vs cs]
theorem csum_none : ∀ {ks : List K} {cs : List Int}, (∀ k ∈ ks, k = 0) → csum ks cs = 0
  | [], cs, _ => by cases cs <;> rfl
  | _ :: _, [], _ => rfl
  | k :: ks, c :: cs, h => by
    show ic K c * k + csum ks cs = 0
    rw [h k List.mem_cons_self, csum_none fun y m => h y (List.mem_cons_of_mem _ m)]
    grind
end
/-- products of two lists, added up -/
def dotA (xs ys : List Int) : Int := (List.zipWith (· * ·) xs ys).sum
theorem dotA_comm (xs ys : List Int) : dotA xs ys = dotA ys xs := by
  unfold dotA
  rw [List.zipWith_comm]
  have e : (fun (b a : Int) => a * b) = fun (a b : Int) => a * b := by
    funext a b
    exact Int.mul_comm b a
  rw [e]
section
variable {K : Type} [CommRing K]
theorem ic_dot : ∀ (xs ys : List Int), ic K (dotA xs ys) = csum (xs.map (ic K)) ys
  | [], ys => by
    have e : dotA [] ys = 0 := by simp [dotA]
    rw [e, ic_zero]
    cases ys <;> rfl
  | x :: xs, [] => by
    have e : dotA (x :: xs) [] = 0 := by simp [dotA]
    rw [e, ic_zero]
    rfl
  | x :: xs, y :: ys => by
    have e : dotA (x :: xs) (y :: ys) = x * y + dotA xs ys := by simp [dotA]
    rw [e, ic_add, ic_mul, ic_dot xs ys]
    show ic K x * ic K y + _ = ic K y * ic K x + _
    grind
theorem row_snoc_lt {xs : List Int} {a : Int} {j : Nat} (h : j < xs.length) : row K (xs ++ [a]) j = row K xs j := by
  show ic K ((xs ++ [a]).getD j 0) = ic K (xs.getD j 0)
  rw [List.getD_eq_getElem?_getD, List.getElem?_append_left h, List.getD_eq_getElem?_getD]
theorem row_snoc_at {xs : List Int} {a : Int} : row K (xs ++ [a]) xs.length = ic K a := by
  show ic K ((xs ++ [a]).getD xs.length 0) = ic K a
  rw [List.getD_eq_getElem?_getD, List.getElem?_append_right (Nat.le_refl _), Nat.sub_self]
  rfl
theorem snoc_of {α : Type} {n : Nat} : ∀ {xs : List α}, xs.length = n + 1 → ∃ ys a, xs = ys ++ [a] ∧ ys.length = n := fun {xs} h => by
  have ne : xs ≠ [] := fun e => by
    rw [e] at h
    cases h
  exact ⟨xs.dropLast, xs.getLast ne, (List.dropLast_concat_getLast ne).symm, by rw [List.length_dropLast, h]; rfl⟩
theorem dot_ip : ∀ {n : Nat} {xs ys : List Int}, xs.length = n → ys.length = n → ic K (dotA xs ys) = ip (row K ys) n (row K xs)
  | 0, xs, ys, hx, hy => by
    rw [List.eq_nil_of_length_eq_zero hx]
    have e : dotA [] ys = 0 := by simp [dotA]
    rw [e, ic_zero]
    rfl
  | n + 1, xs, ys, hx, hy => by
    obtain ⟨xs, a, rfl, lx⟩ := snoc_of hx
    obtain ⟨ys, b, rfl, ly⟩ := snoc_of hy
    have e : dotA (xs ++ [a]) (ys ++ [b]) = dotA xs ys + a * b := by
      unfold dotA
      rw [List.zipWith_append (by rw [lx, ly]), List.sum_append]
      show _ + (a * b + 0) = _
      rw [Int.add_zero]
    rw [e, ic_add, ic_mul, dot_ip lx ly]
    show _ = ip (row K (ys ++ [b])) n (row K (xs ++ [a])) + row K (xs ++ [a]) n * row K (ys ++ [b]) n
    have e1 : row K (xs ++ [a]) n = ic K a := by
      have z := row_snoc_at (K := K) (xs := xs) (a := a)
      rw [lx] at z
      exact z
    have e2 : row K (ys ++ [b]) n = ic K b := by
      have z := row_snoc_at (K := K) (xs := ys) (a := b)
      rw [ly] at z
      exact z
    rw [e1, e2, ip_congr (x := row K (ys ++ [b])) (y := row K ys) (r := row K (xs ++ [a])) (s := row K xs) fun j hj => ⟨row_snoc_lt (by omega), row_snoc_lt (by omega)⟩]
end
/-! ### the way there is always one -/
abbrev Prm' (p : Nat) : Prop := ∀ d, 2 ≤ d → d < p → p % d ≠ 0
theorem inv_ex {p : Nat} (pr : Prm' p) (p2 : 2 ≤ p) {a : Int} (a0 : 0 < a) (a1 : a < (p : Int)) : ∃ s : Int, a * s % (p : Int) = 1 := by
  obtain ⟨n, rfl⟩ : ∃ n : Nat, a = (n : Int) := ⟨a.toNat, (Int.toNat_of_nonneg (by omega)).symm⟩
  have f := fermat pr p2 (a := n) (by omega) (by omega)
  refine ⟨((n ^ (p - 2) : Nat) : Int), ?_⟩
  have z : n * n ^ (p - 2) % p = 1 := by
    rw [Nat.mul_comm, ← Nat.pow_succ]
    have e2 : (p - 2).succ = p - 1 := by omega
    rw [e2]
    exact f
  rw [← Int.natCast_mul, ← Int.natCast_emod, z]
  rfl
theorem way_ex {p L : Nat} [NeZero p] (pr : Prm' p) (p2 : 2 ≤ p) {T : List (List Int)} (hT : ∀ v ∈ T, Vec p L v) : ∀ c, c ≤ L → ∃ D E t, Way (Fin p) p L T D E t c
  | 0, _ => ⟨[], T, [], Way.start hT⟩
  | c + 1, h => by
    obtain ⟨D, E, t, w⟩ := way_ex pr p2 hT c (Nat.le_of_succ_le h)
    by_cases q : ∀ xs ∈ E, xs.getD c 0 = 0
    · exact ⟨D, E, t, w.none q⟩
    · obtain ⟨b, q⟩ := Classical.not_forall.mp q
      obtain ⟨mb, q⟩ := Classical.not_imp.mp q
      obtain ⟨a0, a1⟩ := vec_at (w.ve b mb) (by omega) c
      obtain ⟨s, hs⟩ := inv_ex pr p2 (a := b.getD c 0) (by omega) a1
      exact ⟨_, _, _, w.found (E' := E.erase b) (by omega) (List.perm_cons_erase mb) hs⟩
end LinA

set_option Elab.async false
set_option linter.all false
/-! LinR: vectors whose products with given ones are given; none, if a row of the rest says so. -/
namespace LinA
open Lean.Grind
/-! ### numbers put to places -/
section
variable {α : Type} (k : α → Nat) (f : α → Int)
def putF (zs : List α) (acc : List Int) : List Int := zs.foldl (fun acc z => acc.set (k z) (f z)) acc
theorem putF_len : ∀ (zs : List α) (acc : List Int), (putF k f zs acc).length = acc.length
  | [], acc => rfl
  | z :: zs, acc => by
    show (putF k f zs (acc.set (k z) (f z))).length = _
    rw [putF_len zs, List.length_set]
theorem getD_set_ne {xs : List Int} {i j : Nat} {a : Int} (h : i ≠ j) : (xs.set i a).getD j 0 = xs.getD j 0 := by
  rw [List.getD_eq_getElem?_getD, List.getElem?_set_ne h, List.getD_eq_getElem?_getD]
theorem getD_set_at {xs : List Int} {i : Nat} {a : Int} (h : i < xs.length) : (xs.set i a).getD i 0 = a := by
  rw [List.getD_eq_getElem?_getD, List.getElem?_set_self h]
  rfl
theorem putF_off {j : Nat} : ∀ {zs : List α} {acc : List Int}, (∀ z ∈ zs, k z ≠ j) → (putF k f zs acc).getD j 0 = acc.getD j 0
  | [], acc, _ => rfl
  | z :: zs, acc, h => by
    show (putF k f zs (acc.set (k z) (f z))).getD j 0 = _
    rw [putF_off fun y m => h y (List.mem_cons_of_mem _ m), getD_set_ne (h z List.mem_cons_self)]
theorem putF_at : ∀ {zs : List α} {acc : List Int}, (zs.map k).Nodup → (∀ z ∈ zs, k z < acc.length) → ∀ z ∈ zs, (putF k f zs acc).getD (k z) 0 = f z
  | [], _, _, _, z, m => nomatch m
  | y :: zs, acc, nd, lt, z, m => by
    obtain ⟨n1, n2⟩ := List.nodup_cons.mp nd
    show (putF k f zs (acc.set (k y) (f y))).getD (k z) 0 = _
    rcases List.mem_cons.mp m with q | q
    · subst q
      rw [putF_off k f fun x mx e => n1 (by rw [← e]; exact List.mem_map_of_mem mx), getD_set_at (lt z List.mem_cons_self)]
    · exact putF_at n2 (fun x mx => by rw [List.length_set]; exact lt x (List.mem_cons_of_mem _ mx)) z q
theorem putF_vec {p L : Nat} (hf : ∀ z : α, 0 ≤ f z ∧ f z < (p : Int)) : ∀ {zs : List α} {acc : List Int}, Vec p L acc → Vec p L (putF k f zs acc)
  | [], _, v => v
  | z :: zs, acc, v => putF_vec hf (zs := zs) ⟨by rw [List.length_set]; exact v.1, fun x m => by
    rcases List.mem_or_eq_of_mem_set m with q | q
    · exact v.2 x q
    · rw [q]
      exact hf z⟩
end
/-! ### with the aims behind -/
def augZ (V : List (List Int)) (aims : List Int) : List (List Int) := List.zipWith (fun v a => v ++ [a]) V aims
def Sol (p n : Nat) (V : List (List Int)) (aims x : List Int) : Prop := Vec p n x ∧ ∀ z ∈ V.zip aims, dotA z.1 x % (p : Int) = z.2
def putZ (n : Nat) (D : List (List Int)) (t : List Nat) : List Int := putF (fun z : List Int × Nat => z.2) (fun z => z.1.getD n 0) (D.zip t) (List.replicate n 0)
theorem augZ_mem {V : List (List Int)} {aims : List Int} {r : List Int} (h : r ∈ augZ V aims) : ∃ z ∈ V.zip aims, r = z.1 ++ [z.2] := by
  unfold augZ at h
  rw [← List.map_uncurry_zip_eq_zipWith] at h
  obtain ⟨z, mz, e⟩ := List.mem_map.mp h
  exact ⟨z, mz, e.symm⟩
theorem augZ_of {V : List (List Int)} {aims : List Int} {z : List Int × Int} (h : z ∈ V.zip aims) : z.1 ++ [z.2] ∈ augZ V aims := by
  unfold augZ
  rw [← List.map_uncurry_zip_eq_zipWith]
  exact List.mem_map.mpr ⟨z, h, rfl⟩
theorem augZ_vec {p n m : Nat} {V : List (List Int)} {aims : List Int} (hV : ∀ v ∈ V, Vec p n v) (ha : Vec p m aims) : ∀ r ∈ augZ V aims, Vec p (n + 1) r := fun r mr => by
  obtain ⟨z, mz, rfl⟩ := augZ_mem mr
  obtain ⟨m1, m2⟩ := List.of_mem_zip (a := z.1) (b := z.2) mz
  refine ⟨by rw [List.length_append, (hV _ m1).1]; rfl, fun x mx => ?_⟩
  rcases List.mem_append.mp mx with q | q
  · exact (hV _ m1).2 x q
  · rw [List.mem_singleton.mp q]
    exact ha.2 _ m2
section
variable {p n m : Nat} [NeZero p]
/-- the row that tells by how much x misses -/
def mis (p n : Nat) [NeZero p] (x : List Int) : Row (Fin p) := fun j => if j < n then row (Fin p) x j else -1
theorem ip_mis (x : List Int) (r : Row (Fin p)) : ip (mis p n x) (n + 1) r = ip (row (Fin p) x) n r - r n := by
  show ip (mis p n x) n r + r n * mis p n x n = _
  have e : mis p n x n = -1 := by
    unfold mis
    rw [if_neg (Nat.lt_irrefl n)]
  rw [e, ip_congr (y := row (Fin p) x) (s := r) fun j hj => ⟨by unfold mis; rw [if_pos hj], rfl⟩]
  grind
theorem mis_aug {v x : List Int} {a : Int} (lv : v.length = n) (lx : x.length = n) : ip (mis p n x) (n + 1) (row (Fin p) (v ++ [a])) = ic (Fin p) (dotA v x) - ic (Fin p) a := by
  rw [ip_mis, dot_ip lv lx, ip_congr (x := row (Fin p) x) (y := row (Fin p) x) (r := row (Fin p) (v ++ [a])) (s := row (Fin p) v) fun j hj => ⟨rfl, row_snoc_lt (by omega)⟩]
  have z := row_snoc_at (K := Fin p) (xs := v) (a := a)
  rw [lv] at z
  rw [z]
theorem dot_hit {v x : List Int} {a : Int} (a0 : 0 ≤ a) (a1 : a < (p : Int)) : dotA v x % (p : Int) = a ↔ ic (Fin p) (dotA v x) - ic (Fin p) a = 0 := by
  have hp : 0 < p := Nat.pos_of_ne_zero (NeZero.ne p)
  constructor
  · intro h
    rw [← cast_mod (K := Fin p) (p := p), h]
    grind
  · intro h
    obtain ⟨q0, q1⟩ := mod_in hp (dotA v x)
    refine cast_eq (K := Fin p) (p := p) ?_ q0 q1 a0 a1
    rw [cast_mod (K := Fin p) (p := p)]
    grind
theorem sol_iff {V : List (List Int)} {aims x : List Int} (hV : ∀ v ∈ V, Vec p n v) (ha : Vec p m aims) (hx : x.length = n) : (∀ z ∈ V.zip aims, dotA z.1 x % (p : Int) = z.2) ↔ ∀ r ∈ rowsOf (Fin p) (augZ V aims), ip (mis p n x) (n + 1) r = 0 := by
  constructor
  · intro h r mr
    obtain ⟨y, my, rfl⟩ := List.mem_map.mp mr
    obtain ⟨z, mz, rfl⟩ := augZ_mem my
    obtain ⟨m1, m2⟩ := List.of_mem_zip (a := z.1) (b := z.2) mz
    rw [mis_aug (hV _ m1).1 hx]
    exact (dot_hit (ha.2 _ m2).1 (ha.2 _ m2).2).mp (h z mz)
  · intro h z mz
    obtain ⟨m1, m2⟩ := List.of_mem_zip (a := z.1) (b := z.2) mz
    refine (dot_hit (ha.2 _ m2).1 (ha.2 _ m2).2).mpr ?_
    rw [← mis_aug (hV _ m1).1 hx]
    exact h _ (List.mem_map_of_mem (augZ_of mz))
/-- a row of the rest with something at the end: no vector -/
theorem way_no {V D E : List (List Int)} {aims : List Int} {t : List Nat} (hV : ∀ v ∈ V, Vec p n v) (ha : Vec p m aims) (w : Way (Fin p) p (n + 1) (augZ V aims) D E t n) {e : List Int} (me : e ∈ E) (ne : e.getD n 0 ≠ 0) : ¬ ∃ x, Sol p n V aims x := by
  rintro ⟨x, hx, h⟩
  have hp : 0 < p := Nat.pos_of_ne_zero (NeZero.ne p)
  have z := (sol_iff hV ha hx.1).mp h
  have s : Span (rowsOf (Fin p) (augZ V aims)) (row (Fin p) e) := (w.same _).mp (.mem (List.mem_map_of_mem (List.mem_append_right _ me)))
  have q := ip_span z s
  rw [ip_mis, ip_none fun j hj => ?_] at q
  · obtain ⟨a0, a1⟩ := vec_at (w.ve e me) hp n
    refine ne ((cast_zero (K := Fin p) a0 a1).mp ?_)
    have q2 : (0 : Fin p) - ic (Fin p) (e.getD n 0) = 0 := q
    grind
  · have z0 : row (Fin p) e j = 0 := w.up.low _ (List.mem_map_of_mem me) j hj
    rw [z0]
    grind
theorem tops_zip {D : List (List Int)} {t : List Nat} (l : D.length = t.length) : tops ((rowsOf (Fin p) D).zip t) = t := List.map_snd_zip (by rw [List.length_map, l]; exact Nat.le_refl _)
theorem snd_zip {D : List (List Int)} {t : List Nat} (l : D.length = t.length) : (D.zip t).map (fun z : List Int × Nat => z.2) = t := List.map_snd_zip (by rw [l]; exact Nat.le_refl _)
theorem mem_zip_snd {D : List (List Int)} {t : List Nat} (l : D.length = t.length) {c : Nat} (m : c ∈ t) : ∃ z ∈ D.zip t, z.2 = c := by
  rw [← snd_zip l] at m
  exact List.mem_map.mp m
theorem top_row {D : List (List Int)} {t : List Nat} {z : List Int × Nat} (m : z ∈ D.zip t) : (row (Fin p) z.1, z.2) ∈ (rowsOf (Fin p) D).zip t := by
  have e := zip_rows (p := p) D t
  show _ ∈ topsOf p D t
  rw [e]
  exact List.mem_map_of_mem (f := fun x : List Int × Nat => (row (Fin p) x.1, x.2)) m
section
variable {D : List (List Int)} {t : List Nat} (r : Rref ((rowsOf (Fin p) D).zip t)) (l : D.length = t.length) (lt : ∀ c ∈ t, c < n)
include r l lt
omit lt in
theorem t_nodup : t.Nodup := by
  have z := tops_nodup r
  rw [tops_zip l] at z
  exact z
theorem putZ_at {z : List Int × Nat} (m : z ∈ D.zip t) : (putZ n D t).getD z.2 0 = z.1.getD n 0 := by
  refine putF_at (fun z : List Int × Nat => z.2) (fun z => z.1.getD n 0) ?_ (fun y my => ?_) z m
  · rw [snd_zip l]
    exact t_nodup r l
  · rw [List.length_replicate]
    exact lt _ (List.of_mem_zip (a := y.1) (b := y.2) my).2
omit r l lt in
theorem putZ_off {j : Nat} (h : j ∉ t) : (putZ n D t).getD j 0 = 0 := by
  unfold putZ
  rw [putF_off (fun z : List Int × Nat => z.2) (fun z => z.1.getD n 0) fun z mz e => h (by rw [← e]; exact (List.of_mem_zip (a := z.1) (b := z.2) mz).2)]
  by_cases q : j < n
  · rw [List.getD_eq_getElem?_getD, List.getElem?_replicate_of_lt q]
    rfl
  · rw [List.getD_eq_getElem?_getD, List.getElem?_eq_none (by rw [List.length_replicate]; omega)]
    rfl
/-- a reduced row, by x that is nought but at tops -/
theorem ip_top {x : Row (Fin p)} (off : ∀ j, j ∉ t → x j = 0) {z : List Int × Nat} (m : z ∈ D.zip t) : ip x n (row (Fin p) z.1) = x z.2 := by
  have mz := top_row (p := p) m
  have one : row (Fin p) z.1 z.2 = 1 := r.one _ mz
  have hz : z.2 < n := lt _ (List.of_mem_zip (a := z.1) (b := z.2) m).2
  rw [ip_one (c := z.2) hz fun j hj ne => ?_, one]
  · grind
  · by_cases q : j ∈ t
    · obtain ⟨y, my, e⟩ := mem_zip_snd l q
      have o : row (Fin p) z.1 y.2 = 0 := r.off _ mz _ (top_row (p := p) my) (by show z.2 ≠ y.2; rw [e]; exact Ne.symm ne)
      rw [e] at o
      rw [o]
      grind
    · rw [off j q]
      grind
end
theorem way_yes {V D E : List (List Int)} {aims : List Int} {t : List Nat} (hV : ∀ v ∈ V, Vec p n v) (ha : Vec p m aims) (w : Way (Fin p) p (n + 1) (augZ V aims) D E t n) (z : ∀ e ∈ E, e.getD n 0 = 0) : Sol p n V aims (putZ n D t) := by
  have hp : 0 < p := Nat.pos_of_ne_zero (NeZero.ne p)
  have lt : ∀ c ∈ t, c < n := fun c m => by
    obtain ⟨y, my, e⟩ := mem_zip_snd w.len m
    have q := w.up.lt _ (top_row (p := p) my)
    rw [← e]
    exact q
  have lx : (putZ n D t).length = n := by
    unfold putZ
    rw [putF_len, List.length_replicate]
  refine ⟨⟨lx, fun x m => ?_⟩, (sol_iff hV ha lx).mpr fun r mr => ip_span (S := rowsOf (Fin p) (D ++ E)) (fun v mv => ?_) ((w.same _).mpr (.mem mr))⟩
  · obtain ⟨j, hj, e⟩ := List.mem_iff_getElem.mp m
    have g : (putZ n D t).getD j 0 = x := by
      rw [List.getD_eq_getElem?_getD, List.getElem?_eq_getElem hj, e]
      rfl
    by_cases q : j ∈ t
    · obtain ⟨y, my, ey⟩ := mem_zip_snd w.len q
      rw [← g, ← ey, putZ_at w.up.rr w.len lt my]
      exact vec_at (w.vd _ (List.of_mem_zip (a := y.1) (b := y.2) my).1) hp n
    · rw [← g, putZ_off q]
      omega
  · obtain ⟨y, my, rfl⟩ := List.mem_map.mp mv
    rw [ip_mis]
    rcases List.mem_append.mp my with q | q
    · obtain ⟨i, hi, e⟩ := List.mem_iff_getElem.mp q
      have hi2 : i < t.length := by rw [← w.len]; exact hi
      have mz : (y, t[i]) ∈ D.zip t := by
        rw [List.mem_iff_getElem]
        exact ⟨i, by rw [List.length_zip]; omega, by rw [List.getElem_zip, e]⟩
      have e1 := ip_top (x := row (Fin p) (putZ n D t)) w.up.rr w.len lt (fun j hj => by
        show ic (Fin p) ((putZ n D t).getD j 0) = 0
        rw [putZ_off hj, ic_zero]) mz
      have e2 := putZ_at w.up.rr w.len lt mz
      rw [e1]
      show ic (Fin p) ((putZ n D t).getD t[i] 0) - ic (Fin p) (y.getD n 0) = 0
      have e3 : (putZ n D t).getD t[i] 0 = y.getD n 0 := e2
      rw [e3]
      grind
    · rw [ip_none fun j hj => ?_]
      · show (0 : Fin p) - ic (Fin p) (y.getD n 0) = 0
        rw [z y q, ic_zero]
        grind
      · have z0 : row (Fin p) y j = 0 := w.up.low _ (List.mem_map_of_mem q) j hj
        rw [z0]
        grind
end
/-- what meeting tells -/
def Meets (p n : Nat) (V : List (List Int)) (aims : List Int) : Option (List Int) → Prop
  | none => ¬ ∃ x, Sol p n V aims x
  | some x => Sol p n V aims x ∧ ∃ D t, Bas p (n + 1) (augZ V aims) D t ∧ (∀ c ∈ t, c < n) ∧ x = putZ n D t
theorem Meets.uniq {p n : Nat} {V : List (List Int)} {aims : List Int} (p1 : 1 < p) : ∀ {r s : Option (List Int)}, Meets p n V aims r → Meets p n V aims s → r = s
  | none, none, _, _ => rfl
  | none, some x, h, k => (h ⟨x, k.1⟩).elim
  | some x, none, h, k => (k ⟨x, h.1⟩).elim
  | some x, some y, ⟨_, D, t, b, _, e⟩, ⟨_, D2, t2, b2, _, e2⟩ => by
    obtain ⟨e3, e4⟩ := b.uniq p1 b2 fun _ => Iff.rfl
    rw [e, e2, e3, e4]
theorem meets_way {p n m : Nat} [NeZero p] (p1 : 1 < p) {V D E : List (List Int)} {aims : List Int} {t : List Nat} (hV : ∀ v ∈ V, Vec p n v) (ha : Vec p m aims) (w : Way (Fin p) p (n + 1) (augZ V aims) D E t n) :
    ((∃ e ∈ E, e.getD n 0 ≠ 0) → Meets p n V aims none) ∧ ((∀ e ∈ E, e.getD n 0 = 0) → Meets p n V aims (some (putZ n D t))) :=
  ⟨fun ⟨e, me, ne⟩ => way_no hV ha w me ne, fun z => ⟨way_yes hV ha w z, D, t, Bas.of_way p1 (augZ_vec hV ha) (w.none z), fun c m => by
    obtain ⟨y, my, e⟩ := mem_zip_snd w.len m
    have q := w.up.lt _ (top_row (p := p) my)
    rw [← e]
    exact q, rfl⟩⟩
theorem meets_ex {p n m : Nat} (pr : Prm' p) (p2 : 2 ≤ p) {V : List (List Int)} {aims : List Int} (hV : ∀ v ∈ V, Vec p n v) (ha : Vec p m aims) : ∃ r, Meets p n V aims r := by
  haveI : NeZero p := ⟨by omega⟩
  obtain ⟨D, E, t, w⟩ := way_ex pr p2 (augZ_vec hV ha) n (Nat.le_succ n)
  obtain ⟨h1, h2⟩ := meets_way (by omega) hV ha w
  by_cases q : ∃ e ∈ E, e.getD n 0 ≠ 0
  · exact ⟨_, h1 q⟩
  · refine ⟨_, h2 fun e me => Classical.byContradiction fun z => q ⟨e, me, z⟩⟩
end LinA

set_option Elab.async false
set_option linter.all false
/-! LinV: columns; a vector is added up, or one bars it; all that is nought on vectors. -/
namespace LinA
open Lean.Grind
def colA (T : List (List Int)) (c : Nat) : List Int := T.map fun xs => xs.getD c 0
def colsA (T : List (List Int)) (L : Nat) : List (List Int) := (List.range L).map (colA T)
def addA (p : Int) (T : List (List Int)) (fs : List Int) (L : Nat) : List Int := (List.range L).map fun c => dotA fs (colA T c) % p
section
variable {p L : Nat}
theorem colA_vec (p0 : 0 < p) {T : List (List Int)} {c : Nat} (hv : ∀ xs ∈ T, Vec p L xs) : Vec p T.length (colA T c) := ⟨List.length_map .., fun x m => by
  obtain ⟨xs, mx, rfl⟩ := List.mem_map.mp m
  exact vec_at (hv xs mx) p0 c⟩
theorem colsA_vec (p0 : 0 < p) {T : List (List Int)} {M : Nat} (hv : ∀ xs ∈ T, Vec p L xs) : ∀ v ∈ colsA T M, Vec p T.length v := fun v m => by
  obtain ⟨c, _, rfl⟩ := List.mem_map.mp m
  exact colA_vec p0 hv
theorem colsA_len {T : List (List Int)} : (colsA T L).length = L := by
  unfold colsA
  rw [List.length_map, List.length_range]
theorem addA_get {T : List (List Int)} {fs : List Int} {c : Nat} (h : c < L) : (addA (p : Int) T fs L).getD c 0 = dotA fs (colA T c) % (p : Int) := by
  unfold addA
  rw [List.getD_eq_getElem?_getD, List.getElem?_map, List.getElem?_range h]
  rfl
theorem addA_vec (p0 : 0 < p) (T : List (List Int)) (fs : List Int) : Vec p L (addA (p : Int) T fs L) := ⟨by unfold addA; rw [List.length_map, List.length_range], fun x m => by
  obtain ⟨c, _, rfl⟩ := List.mem_map.mp m
  exact mod_in p0 _⟩
theorem dot_comb [NeZero p] {c : Nat} : ∀ (T : List (List Int)) (fs : List Int), ic (Fin p) (dotA fs (colA T c)) = comb (rowsOf (Fin p) T) fs c
  | [], fs => by
    have e : dotA fs (colA [] c) = 0 := by
      unfold dotA colA
      rw [List.map_nil, List.zipWith_nil_right]
      rfl
    rw [e]
    exact ic_zero
  | _ :: _, [] => ic_zero
  | xs :: T, f :: fs => by
    show ic (Fin p) (f * xs.getD c 0 + dotA fs (colA T c)) = ic (Fin p) f * ic (Fin p) (xs.getD c 0) + comb _ fs c
    rw [ic_add, ic_mul, dot_comb T fs]
theorem comb_ge [NeZero p] {T : List (List Int)} (hT : ∀ xs ∈ T, Vec p L xs) : ∀ (fs : List Int) {c : Nat}, L ≤ c → comb (rowsOf (Fin p) T) fs c = 0 := by
  induction T with
  | nil => exact fun fs c _ => rfl
  | cons xs T ih =>
    intro fs c h
    cases fs with
    | nil => rfl
    | cons f fs =>
      show ic (Fin p) f * row (Fin p) xs c + comb (rowsOf (Fin p) T) fs c = 0
      rw [ih (fun v m => hT v (List.mem_cons_of_mem _ m)) fs h, row_ge (by rw [(hT xs List.mem_cons_self).1]; exact h)]
      grind
theorem add_row [NeZero p] {T : List (List Int)} {fs : List Int} (hT : ∀ xs ∈ T, Vec p L xs) : row (Fin p) (addA (p : Int) T fs L) = comb (rowsOf (Fin p) T) fs := by
  have p0 : 0 < p := Nat.pos_of_ne_zero (NeZero.ne p)
  funext c
  by_cases h : c < L
  · show ic (Fin p) ((addA (p : Int) T fs L).getD c 0) = _
    rw [addA_get h, cast_mod (p := p), dot_comb]
  · rw [row_ge (by rw [(addA_vec p0 T fs).1]; omega), comb_ge hT fs (Nat.le_of_not_lt h)]
theorem add_sum [NeZero p] {T : List (List Int)} {fs : List Int} (hT : ∀ xs ∈ T, Vec p L xs) (e : T.length = fs.length) : addA (p : Int) T fs L = sumZ p L T fs := by
  have p0 : 0 < p := Nat.pos_of_ne_zero (NeZero.ne p)
  refine row_eq (K := Fin p) (addA_vec p0 T fs) (sumZ_vec p0 hT) ?_
  rw [sumZ_row p0 hT e, add_row hT]
theorem inS_add [NeZero p] {T : List (List Int)} {xs : List Int} (hT : ∀ xs ∈ T, Vec p L xs) : InS p L T xs ↔ ∃ fs, Vec p T.length fs ∧ addA (p : Int) T fs L = xs := by
  constructor
  · rintro ⟨fs, h, e⟩
    exact ⟨fs, h, by rw [add_sum hT h.1.symm, e]⟩
  · rintro ⟨fs, h, e⟩
    exact ⟨fs, h, by rw [← add_sum hT h.1.symm, e]⟩
theorem getD_ext {xs ys : List Int} (l : xs.length = L) (k : ys.length = L) (h : ∀ j, j < L → xs.getD j 0 = ys.getD j 0) : xs = ys := by
  refine List.ext_getElem (l.trans k.symm) fun j h1 h2 => ?_
  have z := h j (by omega)
  rw [getD_lt h1, getD_lt h2] at z
  exact z
/-- columns hit what is wanted: the vectors add up to it -/
theorem sol_cols (p0 : 0 < p) {V : List (List Int)} {w x : List Int} (hw : Vec p L w) : Sol p V.length (colsA V L) w x ↔ Vec p V.length x ∧ addA (p : Int) V x L = w := by
  unfold Sol
  refine and_congr_right fun hx => ?_
  constructor
  · intro h
    refine getD_ext (L := L) (addA_vec p0 V x).1 hw.1 fun j hj => ?_
    rw [addA_get hj, dotA_comm]
    have m : (colA V j, w.getD j 0) ∈ (colsA V L).zip w := by
      rw [List.mem_iff_getElem]
      refine ⟨j, by rw [List.length_zip, colsA_len, hw.1]; omega, ?_⟩
      rw [List.getElem_zip]
      unfold colsA
      rw [List.getElem_map, List.getElem_range, getD_lt (by rw [hw.1]; exact hj)]
    exact h _ m
  · rintro rfl z mz
    obtain ⟨j, hj, e⟩ := List.mem_iff_getElem.mp mz
    have jL : j < L := by
      rw [List.length_zip, colsA_len] at hj
      omega
    rw [List.getElem_zip] at e
    unfold colsA at e
    rw [List.getElem_map, List.getElem_range] at e
    rw [← e]
    have jl : j < (addA (p : Int) V x L).length := by rw [hw.1]; exact jL
    show dotA (colA V j) x % (p : Int) = (addA (p : Int) V x L)[j]'jl
    rw [dotA_comm, ← addA_get jL, getD_lt jl]
/-- what solved tells -/
theorem solve_iff (p2 : 2 ≤ p) {V : List (List Int)} {w : List Int} (hV : ∀ v ∈ V, Vec p L v) (hw : Vec p L w) {r : Option (List Int)} (h : Meets p V.length (colsA V L) w r) :
    (r = none ↔ ¬ InS p L V w) ∧ ∀ x, r = some x → Vec p V.length x ∧ addA (p : Int) V x L = w := by
  haveI : NeZero p := ⟨by omega⟩
  have key : (∃ x, Sol p V.length (colsA V L) w x) ↔ InS p L V w := by
    rw [inS_add hV]
    exact exists_congr fun x => sol_cols (by omega) hw
  cases r with
  | none => exact ⟨⟨fun _ q => h (key.mpr q), fun _ => rfl⟩, fun x e => nomatch e⟩
  | some x => exact ⟨⟨fun e => (nomatch e), fun q => (q (key.mp ⟨x, h.1⟩)).elim⟩, fun y e => by
      cases e
      exact (sol_cols (by omega) hw).mp h.1⟩
end
/-! ### added up, or barred -/
section
variable {p n : Nat}
def cut (n : Nat) {K : Type} [CommRing K] (r : Row K) : Row K := fun j => if j < n then r j else 0
theorem cut_zr {K : Type} [CommRing K] : cut n (zr : Row K) = zr := by
  funext j
  unfold cut
  split <;> rfl
theorem cut_ax {K : Type} [CommRing K] (c : K) (v w : Row K) : cut n (ax c v w) = ax c (cut n v) (cut n w) := by
  funext j
  show cut n (ax c v w) j = c * cut n v j + cut n w j
  unfold cut
  split
  · rfl
  · grind
theorem span_cut {K : Type} [CommRing K] {S T : List (Row K)} (h : ∀ v ∈ S, Span T (cut n v)) {v : Row K} (hv : Span S v) : Span T (cut n v) := by
  induction hv with
  | zero => rw [cut_zr]; exact .zero
  | add c v w m _ ih => rw [cut_ax]; exact .ax c (h v m) ih
theorem span_at {K : Type} [CommRing K] {S : List (Row K)} {j : Nat} (h : ∀ v ∈ S, v j = 0) {v : Row K} (hv : Span S v) : v j = 0 := by
  induction hv with
  | zero => rfl
  | add c v w m _ ih =>
    show c * v j + w j = 0
    rw [h v m, ih]
    grind
theorem cut_snoc [NeZero p] {v : List Int} {a : Int} (l : v.length = n) : cut n (row (Fin p) (v ++ [a])) = row (Fin p) v := by
  funext j
  unfold cut
  by_cases q : j < n
  · rw [if_pos q, row_snoc_lt (by omega)]
  · rw [if_neg q, row_ge (by omega)]
def bars (k : Nat) : List Int := List.replicate k 0 ++ [1]
theorem bars_vec (p2 : 2 ≤ p) (k : Nat) : Vec p (k + 1) (bars k) := ⟨by unfold bars; rw [List.length_append, List.length_replicate]; rfl, fun x m => by
  rcases List.mem_append.mp m with q | q
  · rw [(List.mem_replicate.mp q).2]
    omega
  · rw [List.mem_singleton.mp q]
    omega⟩
theorem zip_bars (V : List (List Int)) (w : List Int) : (V ++ [w]).zip (bars V.length) = V.zip (List.replicate V.length 0) ++ [(w, 1)] := by
  unfold bars
  rw [List.zip_append (by rw [List.length_replicate])]
  rfl
theorem sol_bars (V : List (List Int)) (w x : List Int) : Sol p n (V ++ [w]) (bars V.length) x ↔ Vec p n x ∧ (∀ v ∈ V, dotA v x % (p : Int) = 0) ∧ dotA w x % (p : Int) = 1 := by
  unfold Sol
  refine and_congr_right fun _ => ?_
  rw [zip_bars]
  constructor
  · intro h
    refine ⟨fun v mv => ?_, h (w, 1) (by simp)⟩
    obtain ⟨i, hi, e⟩ := List.mem_iff_getElem.mp mv
    refine h (v, 0) (List.mem_append_left _ ?_)
    rw [List.mem_iff_getElem]
    exact ⟨i, by rw [List.length_zip, List.length_replicate]; omega, by rw [List.getElem_zip, List.getElem_replicate, e]⟩
  · rintro ⟨h1, h2⟩ z mz
    rcases List.mem_append.mp mz with q | q
    · obtain ⟨m1, m2⟩ := List.of_mem_zip (a := z.1) (b := z.2) q
      rw [(List.mem_replicate.mp m2).2]
      exact h1 _ m1
    · rw [List.mem_singleton.mp q]
      exact h2
/-- nothing bars it: it is added up -/
theorem bar_alt (pr : Prm' p) (p2 : 2 ≤ p) {V : List (List Int)} {w : List Int} (hV : ∀ v ∈ V, Vec p n v) (hw : Vec p n w) : InS p n V w ∨ ∃ x, Vec p n x ∧ (∀ v ∈ V, dotA v x % (p : Int) = 0) ∧ dotA w x % (p : Int) = 1 := by
  haveI : NeZero p := ⟨by omega⟩
  have hVw : ∀ v ∈ V ++ [w], Vec p n v := fun v m => (List.mem_append.mp m).elim (hV v) fun q => by rw [List.mem_singleton.mp q]; exact hw
  obtain ⟨D, E, t, wy⟩ := way_ex pr p2 (augZ_vec hVw (bars_vec p2 V.length)) n (Nat.le_succ n)
  by_cases q : ∃ e ∈ E, e.getD n 0 ≠ 0
  · refine .inl ?_
    obtain ⟨e, me, ne⟩ := q
    obtain ⟨a0, a1⟩ := vec_at (wy.ve e me) (by omega) n
    obtain ⟨s, hs⟩ := inv_ex pr p2 (a := e.getD n 0) (by omega) a1
    have unit : ic (Fin p) (e.getD n 0) * ic (Fin p) s = 1 := by
      rw [← ic_mul, ← cast_mod (p := p), hs, ic_one]
    have sp : Span (rowsOf (Fin p) (augZ (V ++ [w]) (bars V.length))) (row (Fin p) e) := (wy.same _).mp (.mem (List.mem_map_of_mem (List.mem_append_right _ me)))
    have eA : rowsOf (Fin p) (augZ (V ++ [w]) (bars V.length)) = rowsOf (Fin p) (augZ V (List.replicate V.length 0)) ++ [row (Fin p) (w ++ [1])] := by
      have e1 : augZ (V ++ [w]) (bars V.length) = augZ V (List.replicate V.length 0) ++ [w ++ [1]] := by
        unfold augZ bars
        rw [List.zipWith_append (by rw [List.length_replicate])]
        rfl
      rw [e1]
      exact List.map_append
    rw [eA] at sp
    obtain ⟨c, u, hu, eu⟩ := span_snoc.mp sp
    have un : u n = 0 := by
      refine span_at (fun v mv => ?_) hu
      obtain ⟨y, my, rfl⟩ := List.mem_map.mp mv
      obtain ⟨z, mz, rfl⟩ := augZ_mem my
      obtain ⟨m1, m2⟩ := List.of_mem_zip (a := z.1) (b := z.2) mz
      have k := row_snoc_at (K := Fin p) (xs := z.1) (a := z.2)
      rw [(hV _ m1).1] at k
      rw [k, (List.mem_replicate.mp m2).2, ic_zero]
    have wn : row (Fin p) (w ++ [1]) n = 1 := by
      have k := row_snoc_at (K := Fin p) (xs := w) (a := 1)
      rw [hw.1] at k
      rw [k, ic_one]
    have ec : c = ic (Fin p) (e.getD n 0) := by
      have k : row (Fin p) e n = c * row (Fin p) (w ++ [1]) n + u n := congrFun eu n
      rw [un, wn] at k
      have k2 : ic (Fin p) (e.getD n 0) = row (Fin p) e n := rfl
      rw [k2, k]
      grind
    have hcu : Span (rowsOf (Fin p) V) (cut n u) := by
      refine span_cut (fun v mv => ?_) hu
      obtain ⟨y, my, rfl⟩ := List.mem_map.mp mv
      obtain ⟨z, mz, rfl⟩ := augZ_mem my
      obtain ⟨m1, m2⟩ := List.of_mem_zip (a := z.1) (b := z.2) mz
      rw [cut_snoc (hV _ m1).1]
      exact .mem (List.mem_map_of_mem m1)
    refine (inS_iff hV).mpr ⟨hw, ?_⟩
    have ew : row (Fin p) w = ax (-(ic (Fin p) s)) (cut n u) zr := by
      funext j
      show row (Fin p) w j = -(ic (Fin p) s) * cut n u j + 0
      by_cases hj : j < n
      · have k : row (Fin p) e j = c * row (Fin p) (w ++ [1]) j + u j := congrFun eu j
        have z0 : row (Fin p) e j = 0 := wy.up.low _ (List.mem_map_of_mem me) j hj
        rw [z0, row_snoc_lt (by rw [hw.1]; exact hj), ec] at k
        have cu : cut n u j = u j := by
          unfold cut
          rw [if_pos hj]
        rw [cu]
        have k2 : u j = -(ic (Fin p) (e.getD n 0) * row (Fin p) w j) := by grind
        rw [k2]
        have k3 : -(ic (Fin p) s) * -(ic (Fin p) (e.getD n 0) * row (Fin p) w j) = (ic (Fin p) (e.getD n 0) * ic (Fin p) s) * row (Fin p) w j := by grind
        rw [k3, unit]
        grind
      · have cu : cut n u j = 0 := by
          unfold cut
          rw [if_neg hj]
        rw [cu, row_ge (by rw [hw.1]; omega)]
        grind
    rw [ew]
    exact .ax _ hcu .zero
  · have z : ∀ e ∈ E, e.getD n 0 = 0 := fun e me => Classical.byContradiction fun k => q ⟨e, me, k⟩
    exact .inr ⟨_, (sol_bars V w _).mp (way_yes hVw (bars_vec p2 V.length) wy z)⟩
theorem bar_not [NeZero p] (p2 : 2 ≤ p) {V : List (List Int)} {w x : List Int} (hV : ∀ v ∈ V, Vec p n v) (hw : Vec p n w) (lx : x.length = n) (h : ∀ v ∈ V, dotA v x % (p : Int) = 0) (k : InS p n V w) : dotA w x % (p : Int) = 0 := by
  obtain ⟨_, s⟩ := (inS_iff hV).mp k
  have z : ip (row (Fin p) x) n (row (Fin p) w) = 0 := ip_span (fun v mv => by
    obtain ⟨y, my, rfl⟩ := List.mem_map.mp mv
    rw [← dot_ip (hV y my).1 lx, ← cast_mod (p := p), h y my, ic_zero]) s
  rw [← dot_ip hw.1 lx, ← cast_mod (p := p)] at z
  obtain ⟨a0, a1⟩ := mod_in (show 0 < p by omega) (dotA w x)
  exact (cast_zero (K := Fin p) a0 a1).mp z
/-- what barred tells -/
theorem bar_iff (pr : Prm' p) (p2 : 2 ≤ p) {V : List (List Int)} {w : List Int} (hV : ∀ v ∈ V, Vec p n v) (hw : Vec p n w) {r : Option (List Int)} (h : Meets p n (V ++ [w]) (bars V.length) r) :
    (r = none ↔ InS p n V w) ∧ ∀ x, r = some x → Vec p n x ∧ (∀ v ∈ V, dotA v x % (p : Int) = 0) ∧ dotA w x % (p : Int) = 1 := by
  haveI : NeZero p := ⟨by omega⟩
  cases r with
  | none => exact ⟨⟨fun _ => (bar_alt pr p2 hV hw).elim id fun ⟨x, k⟩ => (h ⟨x, (sol_bars V w x).mpr k⟩).elim, fun _ => rfl⟩, fun x e => nomatch e⟩
  | some x =>
    obtain ⟨h1, h2, h3⟩ := (sol_bars V w x).mp h.1
    refine ⟨⟨fun e => (nomatch e), fun q => ?_⟩, fun y e => by cases e; exact ⟨h1, h2, h3⟩⟩
    rw [bar_not p2 hV hw h1.1 h2 q] at h3
    cases h3
end
/-! ### what is nought on vectors -/
section
variable {p L : Nat}
def Ker (p L : Nat) (V : List (List Int)) (x : List Int) : Prop := Vec p L x ∧ ∀ v ∈ V, dotA v x % (p : Int) = 0
def kerZ (p L : Nat) (D : List (List Int)) (t : List Nat) (f : Nat) : List Int := putF (fun z : List Int × Nat => z.2) (fun z => -(z.1.getD f 0) % (p : Int)) (D.zip t) ((List.replicate L 0).set f 1)
def kersZ (p L : Nat) (D : List (List Int)) (t : List Nat) : List (List Int) := ((List.range L).filter fun f => decide (f ∉ t)).map (kerZ p L D t)
variable [NeZero p]
theorem ker_ip {V : List (List Int)} {x : List Int} (hV : ∀ v ∈ V, Vec p L v) (lx : x.length = L) : (∀ v ∈ V, dotA v x % (p : Int) = 0) ↔ ∀ v ∈ rowsOf (Fin p) V, ip (row (Fin p) x) L v = 0 := by
  have p0 : 0 < p := Nat.pos_of_ne_zero (NeZero.ne p)
  constructor
  · intro h v mv
    obtain ⟨y, my, rfl⟩ := List.mem_map.mp mv
    rw [← dot_ip (hV y my).1 lx, ← cast_mod (p := p), h y my, ic_zero]
  · intro h v mv
    have z := h _ (List.mem_map_of_mem mv)
    rw [← dot_ip (hV v mv).1 lx, ← cast_mod (p := p)] at z
    obtain ⟨a0, a1⟩ := mod_in p0 (dotA v x)
    exact (cast_zero (K := Fin p) a0 a1).mp z
/-- noughts are added up to noughts -/
theorem ker_span {V B : List (List Int)} (hV : ∀ v ∈ V, Vec p L v) (hB : ∀ b ∈ B, Ker p L V b) {x : List Int} (k : InS p L B x) : Ker p L V x := by
  obtain ⟨hx, s⟩ := (inS_iff fun b m => (hB b m).1).mp k
  refine ⟨hx, (ker_ip hV hx.1).mpr fun v mv => ?_⟩
  rw [ip_comm]
  refine ip_span (fun b mb => ?_) s
  obtain ⟨y, my, rfl⟩ := List.mem_map.mp mb
  rw [ip_comm]
  exact (ker_ip hV (hB y my).1.1).mp (hB y my).2 v mv
variable {D E V : List (List Int)} {t : List Nat}
theorem way_lt (w : Way (Fin p) p L V D E t L) : ∀ c ∈ t, c < L := fun c m => by
  obtain ⟨y, my, e⟩ := mem_zip_snd w.len m
  have q := w.up.lt _ (top_row (p := p) my)
  rw [← e]
  exact q
theorem kerZ_at (w : Way (Fin p) p L V D E t L) {f : Nat} {z : List Int × Nat} (m : z ∈ D.zip t) : (kerZ p L D t f).getD z.2 0 = -(z.1.getD f 0) % (p : Int) := by
  refine putF_at (fun z : List Int × Nat => z.2) (fun z => -(z.1.getD f 0) % (p : Int)) ?_ (fun y my => ?_) z m
  · rw [snd_zip w.len]
    exact t_nodup w.up.rr w.len
  · rw [List.length_set, List.length_replicate]
    exact way_lt w _ (List.of_mem_zip (a := y.1) (b := y.2) my).2
theorem kerZ_off {f j : Nat} (hj : j < L) (h : j ∉ t) : (kerZ p L D t f).getD j 0 = if j = f then 1 else 0 := by
  unfold kerZ
  rw [putF_off (fun z : List Int × Nat => z.2) (fun z => -(z.1.getD f 0) % (p : Int)) fun z mz e => h (by rw [← e]; exact (List.of_mem_zip (a := z.1) (b := z.2) mz).2)]
  by_cases q : j = f
  · subst q
    rw [if_pos rfl, getD_set_at (by rw [List.length_replicate]; exact hj)]
  · rw [if_neg q, getD_set_ne (Ne.symm q), List.getD_eq_getElem?_getD, List.getElem?_replicate_of_lt hj]
    rfl
theorem kerZ_vec (p2 : 2 ≤ p) (f : Nat) : Vec p L (kerZ p L D t f) := by
  refine putF_vec _ _ (fun z => mod_in (by omega) _) ⟨by rw [List.length_set, List.length_replicate], fun x m => ?_⟩
  rcases List.mem_or_eq_of_mem_set m with q | q
  · rw [(List.mem_replicate.mp q).2]
    omega
  · rw [q]
    omega
/-- a row is nought on x just if the numbers of x tell its number at the top -/
theorem ip_ker (w : Way (Fin p) p L V D E t L) {x : Row (Fin p)} {z : List Int × Nat} (m : z ∈ D.zip t) (y : Row (Fin p)) (hy : ∀ j, j ∉ t → y j = 0) (e : ∀ j, j < L → x j = y j + (if j ∈ t then 0 else x j)) : ip x L (row (Fin p) z.1) = y z.2 + ip (fun j => if j ∈ t then 0 else x j) L (row (Fin p) z.1) := by
  have k : ip x L (row (Fin p) z.1) = ip (ax 1 y fun j => if j ∈ t then 0 else x j) L (row (Fin p) z.1) := ip_congr fun j hj => ⟨by
    show x j = 1 * y j + (if j ∈ t then 0 else x j)
    have z := e j hj
    grind, rfl⟩
  rw [k, ip_xa, ip_top w.up.rr w.len (way_lt w) hy m]
  grind
theorem kers_ker (p2 : 2 ≤ p) (hV : ∀ v ∈ V, Vec p L v) (w : Way (Fin p) p L V D E t L) {f : Nat} (hf : f < L) (nf : f ∉ t) : Ker p L V (kerZ p L D t f) := by
  have kv : Vec p L (kerZ p L D t f) := kerZ_vec p2 f
  refine ⟨kv, (ker_ip hV kv.1).mpr fun v mv => ip_span (S := rowsOf (Fin p) (D ++ E)) (fun u mu => ?_) ((w.same _).mpr (.mem mv))⟩
  obtain ⟨y, my, rfl⟩ := List.mem_map.mp mu
  rcases List.mem_append.mp my with q | q
  · obtain ⟨i, hi, e⟩ := List.mem_iff_getElem.mp q
    have hi2 : i < t.length := by rw [← w.len]; exact hi
    have mz : (y, t[i]) ∈ D.zip t := by
      rw [List.mem_iff_getElem]
      exact ⟨i, by rw [List.length_zip]; omega, by rw [List.getElem_zip, e]⟩
    have k := ip_ker w (x := row (Fin p) (kerZ p L D t f)) mz (fun j => if j ∈ t then row (Fin p) (kerZ p L D t f) j else 0) (fun j hj => if_neg hj) fun j hj => by
      by_cases q : j ∈ t
      · rw [if_pos q, if_pos q]
        grind
      · rw [if_neg q, if_neg q]
        grind
    rw [k]
    have mt : t[i] ∈ t := List.getElem_mem hi2
    have e1 : (if t[i] ∈ t then row (Fin p) (kerZ p L D t f) t[i] else 0) = -(row (Fin p) y f) := by
      rw [if_pos mt]
      show ic (Fin p) ((kerZ p L D t f).getD t[i] 0) = -(ic (Fin p) (y.getD f 0))
      have g := kerZ_at w (f := f) mz
      have g2 : (kerZ p L D t f).getD t[i] 0 = -(y.getD f 0) % (p : Int) := g
      rw [g2, cast_mod (p := p), ic_neg]
    have e2 : ip (fun j => if j ∈ t then 0 else row (Fin p) (kerZ p L D t f) j) L (row (Fin p) y) = row (Fin p) y f := by
      rw [ip_one (c := f) hf fun j hj ne => ?_]
      · rw [if_neg nf]
        have g : row (Fin p) (kerZ p L D t f) f = 1 := by
          show ic (Fin p) ((kerZ p L D t f).getD f 0) = 1
          rw [kerZ_off hf nf, if_pos rfl, ic_one]
        rw [g]
        grind
      · by_cases q : j ∈ t
        · rw [if_pos q]
          grind
        · rw [if_neg q]
          have g : row (Fin p) (kerZ p L D t f) j = 0 := by
            show ic (Fin p) ((kerZ p L D t f).getD j 0) = 0
            rw [kerZ_off hj q, if_neg ne, ic_zero]
          rw [g]
          grind
    rw [e1, e2]
    grind
  · refine ip_none fun j hj => ?_
    have z0 : row (Fin p) y j = 0 := w.up.low _ (List.mem_map_of_mem q) j hj
    rw [z0]
    grind
/-- the numbers of x at the free places, put onto the rows of these places -/
def ksum (p L : Nat) [NeZero p] (D : List (List Int)) (t : List Nat) (x : List Int) : List Nat → Row (Fin p)
  | [] => zr
  | f :: fs => ax (row (Fin p) x f) (row (Fin p) (kerZ p L D t f)) (ksum p L D t x fs)
theorem ksum_span (x : List Int) : ∀ (fs : List Nat), Span (rowsOf (Fin p) (fs.map (kerZ p L D t))) (ksum p L D t x fs)
  | [] => .zero
  | f :: fs => .ax _ (.mem List.mem_cons_self) ((ksum_span x fs).mono fun v m => List.mem_cons_of_mem _ m)
theorem ksum_at {x : List Int} {j : Nat} (hj : j < L) (h : j ∉ t) : ∀ {fs : List Nat}, fs.Nodup → ksum p L D t x fs j = if j ∈ fs then row (Fin p) x j else 0
  | [], _ => by simp [ksum, zr]
  | f :: fs, nd => by
    obtain ⟨n1, n2⟩ := List.nodup_cons.mp nd
    show row (Fin p) x f * row (Fin p) (kerZ p L D t f) j + ksum p L D t x fs j = _
    rw [ksum_at hj h n2]
    have g : row (Fin p) (kerZ p L D t f) j = if j = f then 1 else 0 := by
      show ic (Fin p) ((kerZ p L D t f).getD j 0) = _
      rw [kerZ_off hj h]
      split
      · exact ic_one
      · exact ic_zero
    rw [g]
    by_cases q : j = f
    · subst q
      rw [if_pos rfl, if_neg n1, if_pos List.mem_cons_self]
      grind
    · rw [if_neg q]
      by_cases q2 : j ∈ fs
      · rw [if_pos q2, if_pos (List.mem_cons_of_mem _ q2)]
        grind
      · rw [if_neg q2, if_neg fun m => (List.mem_cons.mp m).elim q q2]
        grind
/-- the rows of the free places span all that is nought -/
theorem kers_span (p2 : 2 ≤ p) (hV : ∀ v ∈ V, Vec p L v) (w : Way (Fin p) p L V D E t L) (x : List Int) : InS p L (kersZ p L D t) x ↔ Ker p L V x := by
  have hk : ∀ b ∈ kersZ p L D t, Ker p L V b := fun b mb => by
    obtain ⟨f, mf, rfl⟩ := List.mem_map.mp mb
    obtain ⟨m1, m2⟩ := List.mem_filter.mp mf
    exact kers_ker p2 hV w (List.mem_range.mp m1) (of_decide_eq_true m2)
  refine ⟨ker_span hV hk, fun h => (inS_iff fun b m => (hk b m).1).mpr ⟨h.1, ?_⟩⟩
  let fs := (List.range L).filter fun f => decide (f ∉ t)
  have nd : fs.Nodup := (List.nodup_range (n := L)).sublist List.filter_sublist
  let s := ksum p L D t x fs
  have hs : Span (rowsOf (Fin p) (kersZ p L D t)) s := ksum_span x fs
  have e : row (Fin p) x = s := by
    -- the difference is nought at the free places, so at the tops too
    let y : Row (Fin p) := ax (-1) s (row (Fin p) x)
    have yo : ∀ j, j ∉ t → j < L → y j = 0 := fun j hj jL => by
      show -1 * s j + row (Fin p) x j = 0
      have g : s j = row (Fin p) x j := by
        show ksum p L D t x fs j = _
        rw [ksum_at jL hj nd, if_pos (List.mem_filter.mpr ⟨List.mem_range.mpr jL, decide_eq_true hj⟩)]
      rw [g]
      grind
    have sz : ∀ v, Span (rowsOf (Fin p) V) v → ip y L v = 0 := fun v hv => by
      rw [ip_xa]
      have a1 : ip (row (Fin p) x) L v = 0 := ip_span ((ker_ip hV h.1.1).mp h.2) hv
      have a2 : ip s L v = 0 := by
        rw [ip_comm]
        refine ip_span (fun b mb => ?_) hs
        obtain ⟨z, mz, rfl⟩ := List.mem_map.mp mb
        rw [ip_comm]
        exact ip_span ((ker_ip hV (hk z mz).1.1).mp (hk z mz).2) hv
      rw [a1, a2]
      grind
    have yz : ∀ j, j < L → y j = 0 := fun j jL => by
      by_cases q : j ∈ t
      · obtain ⟨z, mz, ez⟩ := mem_zip_snd w.len q
        have k := sz (row (Fin p) z.1) ((w.same _).mp (.mem (List.mem_map_of_mem (List.mem_append_left _ (List.of_mem_zip (a := z.1) (b := z.2) mz).1))))
        have k2 : ip y L (row (Fin p) z.1) = ip (fun i => if i < L then y i else 0) L (row (Fin p) z.1) := ip_congr fun i hi => ⟨by rw [if_pos hi], rfl⟩
        rw [k2, ip_top w.up.rr w.len (way_lt w) (fun i hi => by
          by_cases q2 : i < L
          · rw [if_pos q2, yo i hi q2]
          · rw [if_neg q2]) mz, ez, if_pos jL] at k
        exact k
      · exact yo j q jL
    funext j
    by_cases jL : j < L
    · have k : -1 * s j + row (Fin p) x j = 0 := yz j jL
      grind
    · rw [row_ge (by rw [h.1.1]; omega)]
      refine (span_at (fun v mv => ?_) hs).symm
      obtain ⟨z, mz, rfl⟩ := List.mem_map.mp mv
      exact row_ge (by rw [(hk z mz).1.1]; omega)
  rw [e]
  exact hs
end
end LinA

set_option Elab.async false
set_option linter.all false
/-! LinW: what stands between two lists of vectors, or bars it. -/
namespace LinA
open Lean.Grind
/-- nothing on the left bars it -/
def LCond (p n o : Nat) (F W : List (List Int)) : Prop := ∀ u, Ker p F.length (colsA F n) u → ∀ c, c < o → dotA u (colA W c) % (p : Int) = 0
/-- nothing on the right bars it -/
def RCond (p o : Nat) (S W : List (List Int)) : Prop := ∀ z, Ker p o S z → ∀ w ∈ W, dotA w z % (p : Int) = 0
/-- the middle ones, column by column -/
def Mids (p n o : Nat) (F W xs : List (List Int)) : Prop := xs.length = o ∧ ∀ c x, xs[c]? = some x → Meets p n F (colA W c) (some x)
section
variable {p n m : Nat} [NeZero p]
theorem cut_lt {K : Type} [CommRing K] {r : Row K} {j : Nat} (h : j < n) : cut n r j = r j := by
  unfold cut
  rw [if_pos h]
theorem bas_cut (p2 : 2 ≤ p) {F D : List (List Int)} {aims : List Int} {t : List Nat} (hF : ∀ v ∈ F, Vec p n v) (ha : Vec p F.length aims) (b : Bas p (n + 1) (augZ F aims) D t) (lt : ∀ c ∈ t, c < n) :
    Rref ((topsOf p D t).map fun x => (cut n x.1, x.2)) ∧ Same (rows ((topsOf p D t).map fun x => (cut n x.1, x.2))) (rowsOf (Fin p) F) ∧ tops ((topsOf p D t).map fun x => (cut n x.1, x.2)) = t := by
  have r := b.rref
  have ht : ∀ x ∈ topsOf p D t, x.2 < n := fun x m => lt _ (List.of_mem_zip (a := x.1) (b := x.2) m).2
  have hA := augZ_vec hF ha
  have sm : Same (rowsOf (Fin p) D) (rowsOf (Fin p) (augZ F aims)) := same_of b.vec hA b.same
  have er : rows ((topsOf p D t).map fun x => (cut n x.1, x.2)) = (rowsOf (Fin p) D).map (cut n) := by
    rw [← rows_of_tops b]
    show (((topsOf p D t).map fun x => (cut n x.1, x.2)).map fun x => x.1) = ((topsOf p D t).map fun x => x.1).map (cut n)
    rw [List.map_map, List.map_map]
    rfl
  refine ⟨⟨fun x m => ?_, fun x m j hj => ?_, ?_⟩, ?_, ?_⟩
  · obtain ⟨y, my, rfl⟩ := List.mem_map.mp m
    exact (cut_lt (ht y my)).trans (r.one y my)
  · obtain ⟨y, my, rfl⟩ := List.mem_map.mp m
    have hj : j < y.2 := hj
    exact (cut_lt (Nat.lt_trans hj (ht y my))).trans (r.low y my j hj)
  · refine List.pairwise_map.mpr (r.two.imp_of_mem fun {x y} mx my q => ⟨q.1, ?_⟩)
    exact (cut_lt (ht y my)).trans q.2
  · rw [er]
    refine .of (fun v mv => ?_) fun v mv => ?_
    · obtain ⟨y, my, rfl⟩ := List.mem_map.mp mv
      refine span_cut (fun u mu => ?_) ((sm _).mp (.mem my))
      obtain ⟨a, ma, rfl⟩ := List.mem_map.mp mu
      obtain ⟨z, mz, rfl⟩ := augZ_mem ma
      obtain ⟨m1, m2⟩ := List.of_mem_zip (a := z.1) (b := z.2) mz
      rw [cut_snoc (hF _ m1).1]
      exact .mem (List.mem_map_of_mem m1)
    · obtain ⟨f, mf, rfl⟩ := List.mem_map.mp mv
      obtain ⟨i, hi, e⟩ := List.mem_iff_getElem.mp mf
      have hi2 : i < aims.length := by rw [ha.1]; exact hi
      have mz : (f, aims[i]) ∈ F.zip aims := by
        rw [List.mem_iff_getElem]
        exact ⟨i, by rw [List.length_zip]; omega, by rw [List.getElem_zip, e]⟩
      have sp : Span (rowsOf (Fin p) D) (row (Fin p) (f ++ [aims[i]])) := (sm _).mpr (.mem (List.mem_map_of_mem (augZ_of mz)))
      rw [← cut_snoc (a := aims[i]) (hF f mf).1]
      exact span_cut (fun u mu => .mem (List.mem_map_of_mem mu)) sp
  · show (((topsOf p D t).map fun x => (cut n x.1, x.2)).map fun x => x.2) = t
    rw [List.map_map]
    exact tops_zip b.len
/-- where the vector that meeting tells isn't nought -/
theorem meets_sup (p2 : 2 ≤ p) {F D E : List (List Int)} {aims x : List Int} {t : List Nat} (hF : ∀ v ∈ F, Vec p n v) (ha : Vec p F.length aims) (w : Way (Fin p) p n F D E t n) (h : Meets p n F aims (some x)) {j : Nat} (hj : j ∉ t) : row (Fin p) x j = 0 := by
  obtain ⟨_, D2, t2, b, lt, e⟩ := h
  obtain ⟨r1, s1, e1⟩ := bas_cut p2 hF ha b lt
  obtain ⟨r2, s2, e2⟩ := w.fin
  have q : Same (rows ((topsOf p D2 t2).map fun x => (cut n x.1, x.2))) (rows ((rowsOf (Fin p) D).zip t)) := by
    rw [e2]
    exact s1.trans s2.symm
  have z := rref_one r1 r2 (one_ne (p := p) (by omega)) q
  have et : t2 = t := by
    rw [← e1, z]
    exact tops_zip w.len
  rw [e]
  show ic (Fin p) ((putZ n D2 t2).getD j 0) = 0
  rw [putZ_off (by rw [et]; exact hj), ic_zero]
end
section
variable {p n o : Nat} [NeZero p] {F S W xs : List (List Int)}
theorem zip_col {f w : List Int} (h : (f, w) ∈ F.zip W) (c : Nat) : (f, w.getD c 0) ∈ F.zip (colA W c) := by
  unfold colA
  rw [List.zip_map_right]
  exact List.mem_map.mpr ⟨_, h, rfl⟩
theorem mids_dot (p0 : 0 < p) (h : Mids p n o F W xs) {f w : List Int} (m : (f, w) ∈ F.zip W) (lf : f.length = n) (lw : w.length = o) : (rowsOf (Fin p) xs).map (ip (row (Fin p) f) n) = w.map (ic (Fin p)) := by
  obtain ⟨lx, h⟩ := h
  refine List.ext_getElem (by rw [List.length_map, List.length_map, List.length_map, lx, lw]) fun c h1 h2 => ?_
  have hc : c < xs.length := by
    rw [List.length_map, List.length_map] at h1
    exact h1
  have hw : c < w.length := by omega
  rw [List.getElem_map, List.getElem_map, List.getElem_map]
  obtain ⟨⟨v, s⟩, _⟩ := h c xs[c] (List.getElem?_eq_getElem hc)
  have z := s _ (zip_col m c)
  have z2 : dotA f xs[c] % (p : Int) = w.getD c 0 := z
  rw [ip_comm, ← dot_ip lf v.1, ← cast_mod (p := p), z2, getD_lt hw]
/-- what is nought on all wanted ones is nought on the middle ones -/
theorem mids_lin (pr : Prm' p) (p2 : 2 ≤ p) (hF : ∀ v ∈ F, Vec p n v) (hW : ∀ v ∈ W, Vec p o v) (lW : W.length = F.length) (h : Mids p n o F W xs) {z : List Int} (hz : z.length = o) (k : ∀ w ∈ W, dotA w z % (p : Int) = 0) :
    ∀ r, r < n → dotA (colA xs r) z % (p : Int) = 0 := by
  have p0 : 0 < p := by omega
  obtain ⟨D, E, t, w⟩ := way_ex pr p2 hF n (Nat.le_refl n)
  have hx : ∀ x ∈ xs, ∀ j, j ∉ t → row (Fin p) x j = 0 := fun x mx j hj => by
    obtain ⟨c, hc, e⟩ := List.mem_iff_getElem.mp mx
    have q := h.2 c xs[c] (List.getElem?_eq_getElem hc)
    rw [e] at q
    refine meets_sup p2 hF ?_ w q hj
    have v := colA_vec (c := c) p0 hW
    rw [lW] at v
    exact v
  let y : Row (Fin p) := comb (rowsOf (Fin p) xs) z
  have yo : ∀ j, j ∉ t → y j = 0 := fun j hj => span_at (fun v mv => by
    obtain ⟨x, mx, rfl⟩ := List.mem_map.mp mv
    exact hx x mx j hj) (comb_span _ _)
  have yF : ∀ v ∈ rowsOf (Fin p) F, ip y n v = 0 := fun v mv => by
    obtain ⟨f, mf, rfl⟩ := List.mem_map.mp mv
    obtain ⟨i, hi, e⟩ := List.mem_iff_getElem.mp mf
    have hi2 : i < W.length := by omega
    have mz : (f, W[i]) ∈ F.zip W := by
      rw [List.mem_iff_getElem]
      exact ⟨i, by rw [List.length_zip]; omega, by rw [List.getElem_zip, e]⟩
    have mW : W[i] ∈ W := List.getElem_mem hi2
    rw [ip_comm, ip_comb, mids_dot p0 h mz (hF f mf).1 (hW _ mW).1, ← ic_dot, ← cast_mod (p := p), k _ mW, ic_zero]
  have yt : ∀ j, y j = 0 := fun j => by
    by_cases q : j ∈ t
    · obtain ⟨d, md, ed⟩ := mem_zip_snd w.len q
      have s : Span (rowsOf (Fin p) F) (row (Fin p) d.1) := (w.same _).mp (.mem (List.mem_map_of_mem (List.mem_append_left _ (List.of_mem_zip (a := d.1) (b := d.2) md).1)))
      have g := ip_span yF s
      rw [ip_top w.up.rr w.len (way_lt w) yo md, ed] at g
      exact g
    · exact yo j q
  intro r hr
  have g : ic (Fin p) (dotA z (colA xs r)) = 0 := by
    rw [dot_comb]
    exact yt r
  rw [← cast_mod (p := p)] at g
  obtain ⟨a0, a1⟩ := mod_in p0 (dotA z (colA xs r))
  rw [dotA_comm]
  exact (cast_zero (K := Fin p) a0 a1).mp g
/-- nothing on the left: each column is met -/
theorem mid_some (pr : Prm' p) (p2 : 2 ≤ p) (hF : ∀ v ∈ F, Vec p n v) (hW : ∀ v ∈ W, Vec p o v) (lW : W.length = F.length) (L : LCond p n o F W) {c : Nat} (hc : c < o) : ¬ Meets p n F (colA W c) none := by
  have p0 : 0 < p := by omega
  have hcol : Vec p F.length (colA W c) := by
    have v := colA_vec (c := c) p0 hW
    rw [lW] at v
    exact v
  intro no
  refine no ?_
  rcases bar_alt pr p2 (colsA_vec (M := n) p0 hF) hcol with q | ⟨u, hu, k, one⟩
  · obtain ⟨x, hx, e⟩ := (inS_add (colsA_vec (M := n) p0 hF)).mp q
    rw [colsA_len] at hx
    refine ⟨x, hx, fun z mz => ?_⟩
    obtain ⟨i, hi, ez⟩ := List.mem_iff_getElem.mp mz
    rw [List.getElem_zip] at ez
    have hi1 : i < F.length := by
      rw [List.length_zip] at hi
      omega
    have hi2 : i < (colA W c).length := by
      rw [List.length_zip] at hi
      omega
    have g : (addA (p : Int) (colsA F n) x F.length).getD i 0 = (colA W c).getD i 0 := by rw [e]
    rw [addA_get hi1, getD_lt hi2] at g
    rw [← ez]
    show dotA F[i] x % (p : Int) = (colA W c)[i]
    rw [← g]
    have er : colA (colsA F n) i = F[i] := by
      refine getD_ext (L := n) (by unfold colA; rw [List.length_map, colsA_len]) (hF _ (List.getElem_mem hi1)).1 fun j hj => ?_
      unfold colA colsA
      rw [List.map_map, List.getD_eq_getElem?_getD, List.getElem?_map, List.getElem?_range hj]
      show (colA F j).getD i 0 = F[i].getD j 0
      unfold colA
      rw [List.getD_eq_getElem?_getD, List.getElem?_map, List.getElem?_eq_getElem hi1]
      rfl
    rw [er, dotA_comm]
  · have z := L u ⟨hu, k⟩ c hc
    rw [dotA_comm, one] at z
    cases z
/-- nothing on the right: the middle ones are sums of the second ones -/
theorem mid_span (pr : Prm' p) (p2 : 2 ≤ p) (hF : ∀ v ∈ F, Vec p n v) (hS : ∀ v ∈ S, Vec p o v) (hW : ∀ v ∈ W, Vec p o v) (lW : W.length = F.length) (R : RCond p o S W) (h : Mids p n o F W xs) {r : Nat} (hr : r < n) : InS p o S (colA xs r) := by
  have p0 : 0 < p := by omega
  have hv : Vec p o (colA xs r) := by
    have v := colA_vec (p := p) (L := n) (c := r) p0 (T := xs) fun x mx => by
      obtain ⟨c, hc, e⟩ := List.mem_iff_getElem.mp mx
      have q := (h.2 c xs[c] (List.getElem?_eq_getElem hc)).1.1
      rw [e] at q
      exact q
    rw [h.1] at v
    exact v
  rcases bar_alt pr p2 hS hv with q | ⟨z, hz, k, one⟩
  · exact q
  · rw [mids_lin pr p2 hF hW lW h hz.1 (R z ⟨hz, k⟩) r hr] at one
    cases one
/-- what stands between is barred by nothing -/
theorem mid_left (p2 : 2 ≤ p) (hF : ∀ v ∈ F, Vec p n v) (lW : W.length = F.length) (h : Mids p n o F W xs) : LCond p n o F W := by
  have p0 : 0 < p := by omega
  intro u ⟨hu, k⟩ c hc
  have hx : c < xs.length := by rw [h.1]; exact hc
  obtain ⟨⟨v, s⟩, _⟩ := h.2 c xs[c] (List.getElem?_eq_getElem hx)
  have e : (rowsOf (Fin p) F).map (ip (row (Fin p) xs[c]) n) = (colA W c).map (ic (Fin p)) := by
    refine List.ext_getElem (by unfold colA; rw [List.length_map, List.length_map, List.length_map, List.length_map, lW]) fun i h1 h2 => ?_
    have hi : i < F.length := by
      rw [List.length_map, List.length_map] at h1
      exact h1
    have hi2 : i < (colA W c).length := by
      unfold colA
      rw [List.length_map, lW]
      exact hi
    rw [List.getElem_map, List.getElem_map, List.getElem_map, ← dot_ip (hF _ (List.getElem_mem hi)).1 v.1, ← cast_mod (p := p)]
    have mz : (F[i], (colA W c)[i]) ∈ F.zip (colA W c) := by
      rw [List.mem_iff_getElem]
      exact ⟨i, by rw [List.length_zip]; omega, by rw [List.getElem_zip]⟩
    rw [s _ mz]
  have z : ip (row (Fin p) xs[c]) n (comb (rowsOf (Fin p) F) u) = 0 := ip_none fun j hj => by
    have g : comb (rowsOf (Fin p) F) u j = 0 := by
      rw [← dot_comb, ← cast_mod (p := p), dotA_comm, k _ (List.mem_map_of_mem (List.mem_range.mpr hj)), ic_zero]
    rw [g]
    grind
  rw [ip_comb, e, ← ic_dot, ← cast_mod (p := p)] at z
  obtain ⟨a0, a1⟩ := mod_in p0 (dotA (colA W c) u)
  rw [dotA_comm]
  exact (cast_zero (K := Fin p) a0 a1).mp z
theorem mid_right (p2 : 2 ≤ p) (hF : ∀ v ∈ F, Vec p n v) (hS : ∀ v ∈ S, Vec p o v) (hW : ∀ v ∈ W, Vec p o v) (lW : W.length = F.length) (h : Mids p n o F W xs) (k : ∀ r, r < n → InS p o S (colA xs r)) : RCond p o S W := by
  have p0 : 0 < p := by omega
  intro z ⟨hz, kz⟩ w mw
  obtain ⟨i, hi, e⟩ := List.mem_iff_getElem.mp mw
  have hi2 : i < F.length := by omega
  have mz : (F[i], w) ∈ F.zip W := by
    rw [List.mem_iff_getElem]
    exact ⟨i, by rw [List.length_zip]; omega, by rw [List.getElem_zip, e]⟩
  have g : ip (row (Fin p) F[i]) n (comb (rowsOf (Fin p) xs) z) = 0 := ip_none fun j hj => by
    have hv := (k j hj).vec p0 hS
    have g : comb (rowsOf (Fin p) xs) z j = 0 := by
      rw [← dot_comb, ← cast_mod (p := p), dotA_comm, bar_not p2 hS hv hz.1 kz (k j hj), ic_zero]
    rw [g]
    grind
  rw [ip_comb, mids_dot p0 h mz (hF _ (List.getElem_mem hi2)).1 (hW w mw).1, ← ic_dot, ← cast_mod (p := p)] at g
  obtain ⟨a0, a1⟩ := mod_in p0 (dotA w z)
  exact (cast_zero (K := Fin p) a0 a1).mp g
/-- the left and the right, asked of what spans them -/
theorem left_basis (p2 : 2 ≤ p) {B T : List (List Int)} (hW : ∀ v ∈ W, Vec p o v) (lW : W.length = F.length) (hB : ∀ xs, InS p F.length B xs ↔ Ker p F.length (colsA F n) xs) (vB : ∀ b ∈ B, Vec p F.length b)
    (h : ∀ b ∈ B, ∀ c, c < o → dotA b (colA W c) % (p : Int) = 0) : LCond p n o F W := by
  have p0 : 0 < p := by omega
  intro u hu c hc
  have hv : Vec p F.length (colA W c) := by
    have v := colA_vec (c := c) p0 hW
    rw [lW] at v
    exact v
  exact bar_not p2 vB hu.1 hv.1 (fun b mb => h b mb c hc) ((hB u).mpr hu)
theorem right_basis (p2 : 2 ≤ p) {B : List (List Int)} (hW : ∀ v ∈ W, Vec p o v) (hB : ∀ xs, InS p o B xs ↔ Ker p o S xs) (vB : ∀ b ∈ B, Vec p o b)
    (h : ∀ b ∈ B, ∀ w ∈ W, dotA w b % (p : Int) = 0) : RCond p o S W := by
  intro z hz w mw
  rw [dotA_comm]
  exact bar_not p2 vB hz.1 (hW w mw).1 (fun b mb => by rw [dotA_comm]; exact h b mb w mw) ((hB z).mpr hz)
end
end LinA

set_option Elab.async false
set_option linter.all false
/-! LinN: as many factors that make noughts as the rank leaves. -/
namespace LinA
open Lean.Grind
theorem len_sub {α : Type} [BEq α] [LawfulBEq α] : ∀ {A C : List α}, A.Nodup → (∀ a ∈ A, a ∈ C) → A.length ≤ C.length
  | [], _, _, _ => Nat.zero_le _
  | a :: A, C, h, k => by
    obtain ⟨n1, n2⟩ := List.nodup_cons.mp h
    have m := k a List.mem_cons_self
    have z := len_sub (A := A) (C := C.erase a) n2 fun x mx => (List.mem_erase_of_ne (fun e => n1 (by rw [← e]; exact mx))).mpr (k x (List.mem_cons_of_mem _ mx))
    rw [List.length_erase_of_mem m] at z
    have := List.length_pos_of_mem m
    show A.length + 1 ≤ C.length
    omega
section
variable {p L n : Nat}
theorem span_ge (p1 : 1 < p) {U : List (List Int)} (h : ∀ x, Vec p n x → InS p n U x) : n ≤ U.length := by
  have z := len_sub (A := allZ p n) (C := (allZ p U.length).map (sumZ p n U)) (allZ_nodup n) fun x m => by
    obtain ⟨fs, hf, e⟩ := h x (allZ_mem.mp m)
    exact List.mem_map.mpr ⟨fs, allZ_mem.mpr hf, e.symm⟩
  rw [List.length_map, allZ_len, allZ_len] at z
  exact (Nat.pow_le_pow_iff_right p1).mp z
theorem free_le (p1 : 1 < p) {U : List (List Int)} (hU : ∀ u ∈ U, Vec p n u) (h : ∀ fs gs, Vec p U.length fs → Vec p U.length gs → sumZ p n U fs = sumZ p n U gs → fs = gs) : U.length ≤ n := by
  have z := len_sub (A := (allZ p U.length).map (sumZ p n U)) (C := allZ p n) (List.pairwise_map.mpr ((allZ_nodup U.length).imp_of_mem fun {a b} ma mb q e => q (h a b (allZ_mem.mp ma) (allZ_mem.mp mb) e))) fun x m => by
    obtain ⟨fs, mf, rfl⟩ := List.mem_map.mp m
    exact allZ_mem.mpr (sumZ_vec (by omega) hU)
  rw [List.length_map, allZ_len, allZ_len] at z
  exact (Nat.pow_le_pow_iff_right p1).mp z
/-- the factors of a basis are told by the sum -/
theorem Bas.inj (p1 : 1 < p) {T B : List (List Int)} {t : List Nat} (h : Bas p L T B t) {cs ds : List Int} (hc : Vec p B.length cs) (hd : Vec p B.length ds) (e : sumZ p L B cs = sumZ p L B ds) : cs = ds := by
  haveI : NeZero p := ⟨by omega⟩
  have p0 : 0 < p := by omega
  have r := h.rref
  have key : ∀ cs, Vec p B.length cs → t.map (fun c => (sumZ p L B cs).getD c 0) = cs := fun cs hcs => by
    obtain ⟨l, hc⟩ := hcs
    have z := (comb_tops (B := B) (t := t) (cs := cs) r.two r.one r.low h.len (by rw [l, h.len])).1
    rw [← sumZ_row p0 h.vec (by rw [l])] at z
    refine List.ext_getElem (by rw [List.length_map, l, h.len]) fun i h1 h2 => ?_
    have z2 : (t.map (row (Fin p) (sumZ p L B cs)))[i]? = (cs.map (ic (Fin p)))[i]? := by rw [z]
    have it : i < t.length := by
      rw [List.length_map] at h1
      exact h1
    rw [List.getElem?_map, List.getElem?_map, List.getElem?_eq_getElem h2, List.getElem?_eq_getElem (by rw [List.length_map] at h1; exact h1)] at z2
    have z3 : ic (Fin p) ((sumZ p L B cs).getD t[i] 0) = ic (Fin p) cs[i] := Option.some.inj z2
    obtain ⟨a0, a1⟩ := vec_at (sumZ_vec p0 h.vec (fs := cs)) p0 (t[i]'it)
    obtain ⟨b0, b1⟩ := hc _ (List.getElem_mem h2)
    rw [List.getElem_map]
    exact cast_eq (K := Fin p) z3 a0 a1 b0 b1
  rw [← key cs hc, ← key ds hd, e]
theorem comb_append {K : Type} [CommRing K] : ∀ {A B : List (Row K)} {c d : List Int}, A.length = c.length → comb (A ++ B) (c ++ d) = ax 1 (comb A c) (comb B d)
  | [], B, [], d, _ => by
    funext j
    show comb B d j = 1 * 0 + comb B d j
    grind
  | a :: A, B, c :: cs, d, h => by
    show ax (ic K c) a (comb (A ++ B) (cs ++ d)) = ax 1 (ax (ic K c) a (comb A cs)) (comb B d)
    rw [comb_append (Nat.succ.inj h)]
    funext j
    show ic K c * a j + (1 * comb A cs j + comb B d j) = 1 * (ic K c * a j + comb A cs j) + comb B d j
    grind
theorem csum_comb {K : Type} [CommRing K] (j : Nat) : ∀ (vs : List (Row K)) (cs : List Int), csum (vs.map fun v => v j) cs = comb vs cs j
  | [], cs => by cases cs <;> rfl
  | v :: vs, [] => rfl
  | v :: vs, c :: cs => by
    show ic K c * v j + csum (vs.map fun v => v j) cs = ic K c * v j + comb vs cs j
    rw [csum_comb j vs cs]
/-- what factors make, place by place -/
theorem comb_ip [NeZero p] {T : List (List Int)} {x : List Int} (lx : x.length = T.length) (j : Nat) : comb (rowsOf (Fin p) T) x j = ip (row (Fin p) (colA T j)) T.length (row (Fin p) x) := by
  rw [← dot_comb, dot_ip lx (by unfold colA; rw [List.length_map])]
theorem vec_mem {T : List (List Int)} {j : Nat} (h : j < L) : colA T j ∈ colsA T L := List.mem_map_of_mem (List.mem_range.mpr h)
theorem nullity (p1 : 1 < p) {T B F H : List (List Int)} {t s : List Nat} (hT : ∀ v ∈ T, Vec p L v) (b : Bas p L T B t) (k : Bas p T.length F H s) (e : ∀ xs, InS p T.length F xs ↔ Ker p T.length (colsA T L) xs) : H.length + B.length = T.length := by
  haveI : NeZero p := ⟨by omega⟩
  have p0 : 0 < p := by omega
  have hc : ∀ v ∈ colsA T L, Vec p T.length v := colsA_vec p0 hT
  have lift0 : ∀ v, ∃ l, v ∈ B → Vec p T.length l ∧ addA (p : Int) T l L = v := fun v => by
    by_cases m : v ∈ B
    · obtain ⟨l, h1, h2⟩ := (inS_add hT).mp ((b.same v).mp (inS_mem b.vec m))
      exact ⟨l, fun _ => ⟨h1, h2⟩⟩
    · exact ⟨[], fun q => absurd q m⟩
  let lift : List Int → List Int := fun v => Classical.choose (lift0 v)
  have hl : ∀ v ∈ B, Vec p T.length (lift v) ∧ addA (p : Int) T (lift v) L = v := fun v m => Classical.choose_spec (lift0 v) m
  have hk : ∀ h ∈ H, Ker p T.length (colsA T L) h := fun h m => (e h).mp ((k.same h).mp (inS_mem k.vec m))
  have hLs : ∀ u ∈ B.map lift, Vec p T.length u := fun u m => by
    obtain ⟨v, mv, rfl⟩ := List.mem_map.mp m
    exact (hl v mv).1
  have hU : ∀ u ∈ H ++ B.map lift, Vec p T.length u := fun u m => (List.mem_append.mp m).elim (k.vec u) (hLs u)
  -- what the ones of H make, what the lifted ones make
  have A : ∀ j, j < L → ∀ h ∈ H, ip (row (Fin p) (colA T j)) T.length (row (Fin p) h) = 0 := fun j hj h m => by
    obtain ⟨hv, z⟩ := hk h m
    rw [ip_comm]
    exact (ker_ip hc hv.1).mp z _ (List.mem_map_of_mem (vec_mem hj))
  have Bp : ∀ j, j < L → ∀ v ∈ B, ip (row (Fin p) (colA T j)) T.length (row (Fin p) (lift v)) = row (Fin p) v j := fun j hj v m => by
    obtain ⟨h1, h2⟩ := hl v m
    rw [← comb_ip h1.1, ← add_row hT, h2]
  have LsP : ∀ j, j < L → ∀ d : List Int, ip (row (Fin p) (colA T j)) T.length (comb (rowsOf (Fin p) (B.map lift)) d) = comb (rowsOf (Fin p) B) d j := fun j hj d => by
    rw [ip_comb, ← csum_comb]
    congr 1
    rw [List.map_map, List.map_map, List.map_map]
    exact List.map_congr_left fun v m => Bp j hj v m
  have HP : ∀ j, j < L → ∀ c : List Int, ip (row (Fin p) (colA T j)) T.length (comb (rowsOf (Fin p) H) c) = 0 := fun j hj c => by
    rw [ip_comb]
    refine csum_none fun q m => ?_
    rw [List.map_map] at m
    obtain ⟨h, mh, rfl⟩ := List.mem_map.mp m
    exact A j hj h mh
  have one : (H ++ B.map lift).length ≤ T.length := by
    refine free_le p1 hU fun fs gs hf hg q => ?_
    have ll : (H ++ B.map lift).length = H.length + B.length := by rw [List.length_append, List.length_map]
    rw [ll] at hf hg
    have parts : ∀ fs, Vec p (H.length + B.length) fs → ∃ c d, fs = c ++ d ∧ Vec p H.length c ∧ Vec p B.length d := fun fs hf => ⟨fs.take H.length, fs.drop H.length, (List.take_append_drop _ _).symm, ⟨by rw [List.length_take, hf.1]; omega, fun x m => hf.2 x (List.mem_of_mem_take m)⟩, ⟨by rw [List.length_drop, hf.1]; omega, fun x m => hf.2 x (List.mem_of_mem_drop m)⟩⟩
    obtain ⟨c, d, rfl, vc, vd⟩ := parts fs hf
    obtain ⟨c', d', rfl, vc', vd'⟩ := parts gs hg
    have q := congrArg (row (Fin p)) q
    rw [sumZ_row p0 hU (by rw [ll, hf.1]), sumZ_row p0 hU (by rw [ll, hg.1])] at q
    have cat : ∀ {c d : List Int}, c.length = H.length → comb (rowsOf (Fin p) (H ++ B.map lift)) (c ++ d) = ax 1 (comb (rowsOf (Fin p) H) c) (comb (rowsOf (Fin p) (B.map lift)) d) := fun l => by
      show comb ((H ++ B.map lift).map (row (Fin p))) _ = _
      rw [List.map_append]
      exact comb_append (by rw [List.length_map, l])
    rw [cat vc.1, cat vc'.1] at q
    have ed : d = d' := by
      refine b.inj p1 vd vd' (row_eq (K := Fin p) (sumZ_vec p0 b.vec) (sumZ_vec p0 b.vec) ?_)
      rw [sumZ_row p0 b.vec vd.1.symm, sumZ_row p0 b.vec vd'.1.symm]
      funext j
      by_cases hj : j < L
      · have z := congrArg (ip (row (Fin p) (colA T j)) T.length) q
        rw [ip_ax, ip_ax, HP j hj, HP j hj, LsP j hj, LsP j hj] at z
        have z : (1 : Fin p) * 0 + comb (rowsOf (Fin p) B) d j = 1 * 0 + comb (rowsOf (Fin p) B) d' j := z
        grind
      · rw [comb_ge b.vec d (by omega), comb_ge b.vec d' (by omega)]
    subst ed
    have ec : c = c' := by
      refine k.inj p1 vc vc' (row_eq (K := Fin p) (sumZ_vec p0 k.vec) (sumZ_vec p0 k.vec) ?_)
      rw [sumZ_row p0 k.vec vc.1.symm, sumZ_row p0 k.vec vc'.1.symm]
      funext j
      have z : (1 : Fin p) * comb (rowsOf (Fin p) H) c j + comb (rowsOf (Fin p) (B.map lift)) d j = 1 * comb (rowsOf (Fin p) H) c' j + comb (rowsOf (Fin p) (B.map lift)) d j := congrFun q j
      grind
    rw [ec]
  have two : T.length ≤ (H ++ B.map lift).length := by
    refine span_ge p1 fun x hx => ?_
    obtain ⟨d, vd, ey⟩ := (b.same (addA (p : Int) T x L)).mpr ((inS_add hT).mpr ⟨x, hx, rfl⟩)
    have vl : Vec p T.length (sumZ p T.length (B.map lift) d) := sumZ_vec p0 hLs
    have rl := sumZ_row (K := Fin p) p0 hLs (fs := d) (by rw [List.length_map, vd.1])
    have ry := congrArg (row (Fin p)) ey
    rw [add_row hT, sumZ_row p0 b.vec vd.1.symm] at ry
    generalize hz : addF p x (sumZ p T.length (B.map lift) d, -1) = z
    have vz : Vec p T.length z := by
      rw [← hz]
      exact vec_zip p0 (h := fun a b => a + -1 * b) hx.1 vl.1
    have rz : row (Fin p) z = ax (ic (Fin p) (-1)) (row (Fin p) (sumZ p T.length (B.map lift) d)) (row (Fin p) x) := by
      rw [← hz]
      refine row_zip (f := -1) (fun a b => ?_) (by rw [hx.1, vl.1])
      show ic (Fin p) ((a + -1 * b) % (p : Int)) = _
      rw [cast_mod, ic_add, ic_mul]
      grind
    have kz : Ker p T.length (colsA T L) z := by
      refine ⟨vz, (ker_ip hc vz.1).mpr fun v mv => ?_⟩
      obtain ⟨v0, m0, rfl⟩ := List.mem_map.mp mv
      obtain ⟨j, mj, rfl⟩ := List.mem_map.mp m0
      have hj := List.mem_range.mp mj
      rw [ip_comm, rz, ip_ax, rl, LsP j hj, ← comb_ip hx.1, ry, ic_neg, ic_one]
      grind
    have sz := ((inS_iff k.vec).mp ((k.same z).mpr ((e z).mpr kz))).2
    refine (inS_iff hU).mpr ⟨hx, ?_⟩
    have ex : row (Fin p) x = ax 1 (row (Fin p) (sumZ p T.length (B.map lift) d)) (row (Fin p) z) := by
      rw [rz]
      funext j
      show row (Fin p) x j = 1 * row (Fin p) (sumZ p T.length (B.map lift) d) j + (ic (Fin p) (-1) * row (Fin p) (sumZ p T.length (B.map lift) d) j + row (Fin p) x j)
      rw [ic_neg, ic_one]
      grind
    have em : rowsOf (Fin p) (H ++ B.map lift) = rowsOf (Fin p) H ++ rowsOf (Fin p) (B.map lift) := List.map_append
    rw [ex, em]
    refine .ax 1 ?_ (sz.mono fun v m => List.mem_append_left _ m)
    rw [rl]
    exact (comb_span _ _).mono fun v m => List.mem_append_right _ m
  rw [List.length_append, List.length_map] at one two
  omega
end
end LinA

set_option Elab.async false
set_option linter.all false
/-! LinB: what comes of first ones, middle ones and second ones; where none come, something bars them. -/
namespace LinA
open Lean.Grind
section
variable {p n m o : Nat} {F S M W : List (List Int)}
def comesA (p o m : Nat) (F S M : List (List Int)) : List (List Int) := F.map fun r => addA (p : Int) S (addA (p : Int) M r m) o
theorem colA_get {T : List (List Int)} {c i : Nat} (h : i < T.length) : (colA T c).getD i 0 = (T.getD i []).getD c 0 := by
  unfold colA
  rw [List.getD_eq_getElem?_getD, List.getElem?_map, List.getD_eq_getElem?_getD (l := T), List.getElem?_eq_getElem h]
  rfl
theorem left_sol (p0 : 0 < p) (hF : ∀ v ∈ F, Vec p n v) (lW : W.length = F.length) {c : Nat} {x : List Int} (v : Vec p n x) (s : ∀ z ∈ F.zip (colA W c), dotA z.1 x % (p : Int) = z.2) {u : List Int} (k : Ker p F.length (colsA F n) u) : dotA u (colA W c) % (p : Int) = 0 := by
  haveI : NeZero p := ⟨by omega⟩
  obtain ⟨hu, k⟩ := k
  have e : (rowsOf (Fin p) F).map (ip (row (Fin p) x) n) = (colA W c).map (ic (Fin p)) := by
    refine List.ext_getElem (by unfold colA; rw [List.length_map, List.length_map, List.length_map, List.length_map, lW]) fun i h1 h2 => ?_
    have hi : i < F.length := by
      rw [List.length_map, List.length_map] at h1
      exact h1
    have hi2 : i < (colA W c).length := by
      unfold colA
      rw [List.length_map, lW]
      exact hi
    rw [List.getElem_map, List.getElem_map, List.getElem_map, ← dot_ip (hF _ (List.getElem_mem hi)).1 v.1, ← cast_mod (p := p)]
    have mz : (F[i], (colA W c)[i]) ∈ F.zip (colA W c) := by
      rw [List.mem_iff_getElem]
      exact ⟨i, by rw [List.length_zip]; omega, by rw [List.getElem_zip]⟩
    rw [s _ mz]
  have z : ip (row (Fin p) x) n (comb (rowsOf (Fin p) F) u) = 0 := ip_none fun j hj => by
    have g : comb (rowsOf (Fin p) F) u j = 0 := by
      rw [← dot_comb, ← cast_mod (p := p), dotA_comm, k _ (List.mem_map_of_mem (List.mem_range.mpr hj)), ic_zero]
    rw [g]
    grind
  rw [ip_comb, e, ← ic_dot, ← cast_mod (p := p)] at z
  obtain ⟨a0, a1⟩ := mod_in p0 (dotA (colA W c) u)
  rw [dotA_comm]
  exact (cast_zero (K := Fin p) a0 a1).mp z
/-- the middle ones led over the second ones first -/
theorem add_assoc (p0 : 0 < p) (hS : ∀ v ∈ S, Vec p o v) (hM : ∀ v ∈ M, Vec p S.length v) {r : List Int} : addA (p : Int) S (addA (p : Int) M r S.length) o = addA (p : Int) (M.map fun v => addA (p : Int) S v o) r o := by
  haveI : NeZero p := ⟨by omega⟩
  have hN : ∀ v ∈ M.map (fun v => addA (p : Int) S v o), Vec p o v := fun v mv => by
    obtain ⟨y, _, rfl⟩ := List.mem_map.mp mv
    exact addA_vec p0 S y
  refine row_eq (K := Fin p) (addA_vec p0 _ _) (addA_vec p0 _ _) ?_
  rw [add_row hS, add_row hN]
  funext j
  rw [comb_ip (addA_vec p0 M r).1, add_row hM, ip_comb, ← csum_comb]
  congr 1
  rw [List.map_map, List.map_map, List.map_map]
  refine List.map_congr_left fun v mv => ?_
  show ip (row (Fin p) (colA S j)) S.length (row (Fin p) v) = row (Fin p) (addA (p : Int) S v o) j
  rw [add_row hS, comb_ip (hM v mv).1]
theorem comes_cond (p2 : 2 ≤ p) (hF : ∀ v ∈ F, Vec p n v) (hS : ∀ v ∈ S, Vec p o v) (hM : ∀ v ∈ M, Vec p S.length v) (lM : M.length = n) (h : comesA p o S.length F S M = W) : LCond p n o F W ∧ RCond p o S W := by
  have p0 : 0 < p := by omega
  haveI : NeZero p := ⟨by omega⟩
  have hN : ∀ v ∈ M.map (fun v => addA (p : Int) S v o), Vec p o v := fun v mv => by
    obtain ⟨y, _, rfl⟩ := List.mem_map.mp mv
    exact addA_vec p0 S y
  have eW : W = F.map fun r => addA (p : Int) (M.map fun v => addA (p : Int) S v o) r o := by
    rw [← h]
    exact List.map_congr_left fun r _ => add_assoc p0 hS hM
  constructor
  · intro u k c hc
    have vc : Vec p n (colA (M.map fun v => addA (p : Int) S v o) c) := by
      have z := colA_vec (c := c) p0 hN
      rw [List.length_map, lM] at z
      exact z
    refine left_sol p0 hF (by rw [eW, List.length_map]) vc (fun z mz => ?_) k
    obtain ⟨i, hi, e⟩ := List.mem_iff_getElem.mp mz
    rw [List.getElem_zip] at e
    rw [← e]
    have hi2 : i < F.length := by
      rw [List.length_zip] at hi
      omega
    show dotA F[i] _ % (p : Int) = (colA W c)[i]'_
    rw [← getD_lt, colA_get (by rw [eW, List.length_map]; exact hi2), eW, List.getD_eq_getElem?_getD (l := List.map _ F), List.getElem?_map, List.getElem?_eq_getElem hi2]
    show _ = (addA (p : Int) _ F[i] o).getD c 0
    rw [addA_get hc]
  · intro z ⟨hz, kz⟩ w mw
    rw [← h] at mw
    obtain ⟨r, _, rfl⟩ := List.mem_map.mp mw
    exact bar_not p2 hS (addA_vec p0 _ _) hz.1 kz ((inS_add hS).mpr ⟨_, addA_vec p0 M r, rfl⟩)
/-- what between tells comes -/
theorem comes_of (p2 : 2 ≤ p) (hF : ∀ v ∈ F, Vec p n v) (hS : ∀ v ∈ S, Vec p o v) (hW : ∀ v ∈ W, Vec p o v) (lW : W.length = F.length) {xs : List (List Int)} (h : Mids p n o F W xs) (lM : M.length = n)
    (k : ∀ r x, M[r]? = some x → Meets p S.length (colsA S o) (colA xs r) (some x)) : (∀ v ∈ M, Vec p S.length v) ∧ comesA p o S.length F S M = W := by
  have p0 : 0 < p := by omega
  haveI : NeZero p := ⟨by omega⟩
  have hx : ∀ x ∈ xs, Vec p n x := fun x mx => by
    obtain ⟨c, hc, e⟩ := List.mem_iff_getElem.mp mx
    have q := (h.2 c xs[c] (List.getElem?_eq_getElem hc)).1.1
    rw [e] at q
    exact q
  have hcol : ∀ r, Vec p o (colA xs r) := fun r => by
    have z := colA_vec (c := r) p0 hx
    rw [h.1] at z
    exact z
  have hM : ∀ r y, M[r]? = some y → Vec p S.length y ∧ addA (p : Int) S y o = colA xs r := fun r y e => (sol_cols p0 (hcol r)).mp (k r y e).1
  have vM : ∀ v ∈ M, Vec p S.length v := fun v mv => by
    obtain ⟨i, hi, e⟩ := List.mem_iff_getElem.mp mv
    exact (hM i v (by rw [List.getElem?_eq_getElem hi, e])).1
  refine ⟨vM, ?_⟩
  unfold comesA
  refine List.ext_getElem (by rw [List.length_map, lW]) fun i h1 h2 => ?_
  have hi : i < F.length := by omega
  rw [List.getElem_map, add_assoc p0 hS vM]
  have vw := hW _ (List.getElem_mem h2)
  refine getD_ext (L := o) (addA_vec p0 _ _).1 vw.1 fun c hc => ?_
  rw [addA_get hc]
  have hxc : c < xs.length := by rw [h.1]; exact hc
  have ec : colA (M.map fun v => addA (p : Int) S v o) c = xs[c] := by
    have vx := hx _ (List.getElem_mem hxc)
    refine getD_ext (L := n) (by unfold colA; rw [List.length_map, List.length_map, lM]) vx.1 fun r hr => ?_
    rw [colA_get (by rw [List.length_map, lM]; exact hr), List.getD_eq_getElem?_getD (l := List.map _ M), List.getElem?_map]
    have hrM : r < M.length := by rw [lM]; exact hr
    rw [List.getElem?_eq_getElem hrM]
    show (addA (p : Int) S M[r] o).getD c 0 = _
    rw [(hM r M[r] (List.getElem?_eq_getElem hrM)).2, colA_get hxc, List.getD_eq_getElem?_getD (l := xs), List.getElem?_eq_getElem hxc]
    rfl
  rw [ec]
  have s := (h.2 c xs[c] (List.getElem?_eq_getElem hxc)).1.2
  have lc : i < (colA W c).length := by
    unfold colA
    rw [List.length_map]
    exact h2
  have mz : (F[i], (colA W c)[i]) ∈ F.zip (colA W c) := by
    rw [List.mem_iff_getElem]
    exact ⟨i, by rw [List.length_zip]; omega, by rw [List.getElem_zip]⟩
  have z := s _ mz
  have z : dotA F[i] xs[c] % (p : Int) = (colA W c)[i] := z
  rw [z, ← getD_lt, colA_get h2, List.getD_eq_getElem?_getD (l := W), List.getElem?_eq_getElem h2]
  rfl
/-- between tells the same each time -/
theorem mids_uniq (p1 : 1 < p) {xs ys : List (List Int)} (h : Mids p n o F W xs) (k : Mids p n o F W ys) : xs = ys := by
  refine List.ext_getElem (by rw [h.1, k.1]) fun c h1 h2 => ?_
  have z := Meets.uniq p1 (h.2 c xs[c] (List.getElem?_eq_getElem h1)) (k.2 c ys[c] (List.getElem?_eq_getElem h2))
  exact Option.some.inj z
theorem mid_uniq (p1 : 1 < p) {M N xs : List (List Int)} (lM : M.length = n) (lN : N.length = n) (h : ∀ r x, M[r]? = some x → Meets p S.length (colsA S o) (colA xs r) (some x)) (k : ∀ r x, N[r]? = some x → Meets p S.length (colsA S o) (colA xs r) (some x)) : M = N := by
  refine List.ext_getElem (by rw [lM, lN]) fun r h1 h2 => ?_
  exact Option.some.inj (Meets.uniq p1 (h r M[r] (List.getElem?_eq_getElem h1)) (k r N[r] (List.getElem?_eq_getElem h2)))
end
end LinA


set_option Elab.async false
set_option linter.all false
set_option maxRecDepth 100000
set_option maxHeartbeats 4000000
/-! Vb, part 6: the inverse. -/
namespace L2
namespace Vb
open PySem PySem.Spec PyProof.Rows
def spInvOf : Sp := fun vs H Q _ => ∃ p a : Nat, vs = [.int (p : Int), .int (a : Int)] ∧ 2 ≤ p ∧ p ≤ 65537 ∧ Prm p ∧ 0 < a ∧ a < p ∧ ∀ H', Same H H' → Q (.int ((a ^ (p - 2) % p : Nat) : Int)) H'
theorem inv_pow {p a : Nat} (pr : Prm p) (p2 : 2 ≤ p) (a0 : 0 < a) (ap : a < p) : ((a ^ (p - 2) % p : Nat) : Int) * (a : Int) % (p : Int) = 1 := by
  have f := LinA.fermat pr p2 a0 ap
  have z : a ^ (p - 2) % p * a % p = 1 := by
    rw [Nat.mul_mod, Nat.mod_mod, ← Nat.mul_mod, ← Nat.pow_succ]
    have e2 : (p - 2).succ = p - 1 := by omega
    rw [e2]
    exact f
  rw [← Int.natCast_mul, ← Int.natCast_emod, z]
  rfl
theorem eu_end {p a g l : Nat} {k f : Int} (pr : Prm p) (p2 : 2 ≤ p) (a0 : 0 < a) (ap : a < p) (h : LinA.Eu p a g l k f) (l1 : ¬ 1 < l) : f % (p : Int) = ((a ^ (p - 2) % p : Nat) : Int) := by
  have z := LinA.inv_uniq (LinA.cop pr a0 ap) p2 (h.fin p2 l1) (inv_pow pr p2 a0 ap)
  rw [z]
  have lt : a ^ (p - 2) % p < p := Nat.mod_lt _ (by omega)
  exact Int.emod_eq_of_lt (by omega) (by omega)
section
variable {P : Program} {w : World} {K : PySem.W.Frag} {mg : Str → Option Value} {base : Heap}
abbrev nInvOf : List Str := ["prime", "number", "greater", "less", "known", "found", "times"]
end
end Vb
end L2

set_option Elab.async false
set_option linter.all false
set_option maxRecDepth 100000
set_option maxHeartbeats 4000000
/-! Vb, part 8: the next row with a number at a place. -/
namespace L2
namespace Vb
open PySem PySem.Spec PyProof.Rows
/-- the number of row i at place c -/
abbrev at_ (T : List (List Int)) (i c : Nat) : Int := (T.getD i []).getD c 0
def spPivot : Sp := fun vs H Q _ => ∃ (m : Addr) (s c L : Nat) (as : List Addr) (T : List (List Int)) (p : Int), vs = [.ref m, .int (s : Int), .int (c : Int)] ∧ H m = some (.lst (as.map V.ref)) ∧ Rws H as T ∧ (∀ xs ∈ T, Vc p L xs) ∧ c < L ∧ s ≤ T.length ∧ T.length ≤ 1000 ∧
  (∀ i, s ≤ i → i < T.length → at_ T i c ≠ 0 → (∀ j, s ≤ j → j < i → at_ T j c = 0) → Q (.int (i : Int)) H) ∧ ((∀ j, s ≤ j → j < T.length → at_ T j c = 0) → Q .non H)
section
variable {P : Program} {w : World} {K : PySem.W.Frag} {mg : Str → Option Value} {base : Heap}
end
end Vb
end L2

set_option Elab.async false
set_option linter.all false
set_option maxRecDepth 100000
set_option maxHeartbeats 4000000
/-! Vb, part 9b: lists of new rows that grow. -/
namespace L2
namespace Vb
open PySem PySem.Spec PyProof.Rows
theorem paired_snoc {α β : Type} {R : α → β → Prop} {as : List α} {bs : List β} {a : α} {b : β} (h : Paired R as bs) (r : R a b) : Paired R (as ++ [a]) (bs ++ [b]) := by
  induction h with
  | nil => exact .cons r .nil
  | cons p _ ih => exact .cons p ih
theorem cut_take (xs : List V) (n : Nat) : cutV xs none (some (n : Int)) = xs.take n := by
  unfold cutV
  rw [HT.sIx_none, HT.sIx_nat, List.drop_zero, Nat.sub_zero]
  rcases Nat.le_total n xs.length with h | h
  · rw [Nat.min_eq_left h]
  · rw [Nat.min_eq_right h, List.take_length, List.take_of_length_le h]
theorem rws_up {H H' : Hp} {as : List Addr} {T : List (List Int)} (h : Rws H as T) (s : Same H H') : Rws H' as T := h.mono fun b _ o e => s _ _ e
/-- at D stands a new list of new rows, the first k of T -/
def Grow (H : Hp) (D : Addr) (T : List (List Int)) (k : Nat) (H' : Hp) : Prop := Same H H' ∧ ∃ cs : List Addr, cs.length = k ∧ H' D = some (.lst (cs.map V.ref)) ∧ Rws H' cs (T.take k) ∧ (∀ b ∈ cs, b ≠ D) ∧ ∀ b ∈ cs, H b = none
theorem Grow.start {H : Hp} {D : Addr} {T : List (List Int)} (h : H D = none) : Grow H D T 0 (upd H D (.lst [])) := ⟨same_new h, [], rfl, upd_same, .nil, fun b z => (List.not_mem_nil z).elim, fun b z => (List.not_mem_nil z).elim⟩
theorem Grow.step {H H1 H2 : Hp} {D d : Addr} {T : List (List Int)} {k : Nat} {row : List Int} (hD : H D = none) (g : Grow H D T k H1) (s : Same H1 H2) (nd : H1 d = none) (hd : Rw H2 d row) (ht : T[k]? = some row) :
    ∃ acc, H2 D = some (.lst acc) ∧ acc.length = k ∧ Grow H D T (k + 1) (upd H2 D (.lst (acc ++ [.ref d]))) := by
  obtain ⟨sm, cs, lc, h1, h2, h3, h4⟩ := g
  have ne : d ≠ D := fun e => by
    rw [e, h1] at nd
    cases nd
  have st : ∀ b, b ≠ D → ∀ o, H2 b = some o → upd H2 D (.lst (cs.map V.ref ++ [V.ref d])) b = some o := fun b n o e => (upd_ne n).trans e
  refine ⟨_, s _ _ h1, by rw [List.length_map, lc], same_set (same_trans sm s) hD, cs ++ [d], by rw [List.length_append, lc]; rfl, ?_, ?_, fun b m => ?_, fun b m => ?_⟩
  · rw [upd_same, List.map_append]
    rfl
  · rw [List.take_succ, ht]
    exact paired_snoc ((h2.mono fun b _ o e => s _ _ e).mono fun b m o e => st b (h3 b m) o e) (st d ne _ hd)
  · rcases List.mem_append.mp m with q | q
    · exact h3 b q
    · rw [List.mem_singleton.mp q]
      exact ne
  · rcases List.mem_append.mp m with q | q
    · exact h4 b q
    · rw [List.mem_singleton.mp q]
      exact sm.free nd
theorem Grow.done {H H' : Hp} {D : Addr} {T : List (List Int)} {k : Nat} (g : Grow H D T k H') (h : T.length ≤ k) : Same H H' ∧ ∃ cs : List Addr, H' D = some (.lst (cs.map V.ref)) ∧ Rws H' cs T ∧ (∀ b ∈ cs, H b = none) ∧ cs.length = T.length := by
  obtain ⟨sm, cs, lc, h1, h2, h3, h4⟩ := g
  rw [List.take_of_length_le h] at h2
  exact ⟨sm, cs, h1, h2, h4, h2.len⟩
/-- .. a list of numbers -/
def GrowI (H : Hp) (D : Addr) (xs : List Int) (k : Nat) (H' : Hp) : Prop := Same H H' ∧ H' D = some (.lst ((xs.take k).map V.int))
theorem GrowI.start {H : Hp} {D : Addr} {xs : List Int} (h : H D = none) : GrowI H D xs 0 (upd H D (.lst [])) := ⟨same_new h, upd_same⟩
theorem GrowI.step {H H1 H2 : Hp} {D : Addr} {xs : List Int} {k : Nat} {x : Int} (hD : H D = none) (g : GrowI H D xs k H1) (s : Same H1 H2) (ht : xs[k]? = some x) :
    ∃ acc, H2 D = some (.lst acc) ∧ acc.length ≤ k ∧ GrowI H D xs (k + 1) (upd H2 D (.lst (acc ++ [.int x]))) := by
  obtain ⟨sm, h1⟩ := g
  refine ⟨_, s _ _ h1, by rw [List.length_map, List.length_take]; omega, same_set (same_trans sm s) hD, ?_⟩
  rw [upd_same, List.take_succ, ht, List.map_append]
  rfl
theorem GrowI.done {H H' : Hp} {D : Addr} {xs : List Int} {k : Nat} (g : GrowI H D xs k H') (h : xs.length ≤ k) : Same H H' ∧ H' D = some (.lst (xs.map V.int)) := by
  obtain ⟨sm, h1⟩ := g
  rw [List.take_of_length_le h] at h1
  exact ⟨sm, h1⟩
/-- .. a list of truths -/
def GrowB (H : Hp) (D : Addr) (xs : List Bool) (k : Nat) (H' : Hp) : Prop := Same H H' ∧ H' D = some (.lst ((xs.take k).map V.bl))
theorem GrowB.start {H : Hp} {D : Addr} {xs : List Bool} (h : H D = none) : GrowB H D xs 0 (upd H D (.lst [])) := ⟨same_new h, upd_same⟩
theorem GrowB.step {H H1 H2 : Hp} {D : Addr} {xs : List Bool} {k : Nat} {x : Bool} (hD : H D = none) (g : GrowB H D xs k H1) (s : Same H1 H2) (ht : xs[k]? = some x) :
    ∃ acc, H2 D = some (.lst acc) ∧ acc.length ≤ k ∧ GrowB H D xs (k + 1) (upd H2 D (.lst (acc ++ [.bl x]))) := by
  obtain ⟨sm, h1⟩ := g
  refine ⟨_, s _ _ h1, by rw [List.length_map, List.length_take]; omega, same_set (same_trans sm s) hD, ?_⟩
  rw [upd_same, List.take_succ, ht, List.map_append]
  rfl
theorem GrowB.done {H H' : Hp} {D : Addr} {xs : List Bool} {k : Nat} (g : GrowB H D xs k H') (h : xs.length ≤ k) : Same H H' ∧ H' D = some (.lst (xs.map V.bl)) := by
  obtain ⟨sm, h1⟩ := g
  rw [List.take_of_length_le h] at h1
  exact ⟨sm, h1⟩
theorem size_ok {k : Nat} (h : k ≤ 1000000) : k < sizeLine := by
  rw [sizeLine_eq]
  omega
theorem rep_zeros (n : Nat) : (List.replicate ((n : Int)).toNat [V.int 0]).flatten = (List.replicate n (0 : Int)).map V.int := by
  rw [Int.toNat_natCast]
  induction n with
  | zero => rfl
  | succ n ih =>
    rw [List.replicate_succ, List.replicate_succ, List.flatten_cons, ih]
    rfl
def rLO (K : PySem.W.Frag) : List V → Hp → VK → Prop := fun xs H Q => ∃ p ys, xs = [.ref p] ∧ (SqL K H p ys ∨ SqT K H p ys) ∧ ∀ l, H l = none → Q (.ref l) (upd H l (.lst ys))
theorem boot_list2 : bootBuiltins ("list" : Str) = some (.type "list") := by decide +kernel
end Vb
end L2

set_option Elab.async false
set_option linter.all false
set_option maxRecDepth 100000
set_option maxHeartbeats 4000000
/-! Vb, part 10: vectors added up. -/
namespace L2
namespace Vb
open PySem PySem.Spec PyProof.Rows
def dotZ (xs ys : List Int) : Int := (List.zipWith (· * ·) xs ys).sum
def colZ (T : List (List Int)) (c : Nat) : List Int := T.map fun xs => xs.getD c 0
def addZ (p : Int) (T : List (List Int)) (fs : List Int) (L : Nat) : List Int := (List.range L).map fun c => dotZ fs (colZ T c) % p
theorem vc_col {p : Int} {L : Nat} {T : List (List Int)} {c : Nat} (hv : ∀ xs ∈ T, Vc p L xs) (hc : c < L) : Vc p T.length (colZ T c) := ⟨List.length_map .., fun x m => by
  obtain ⟨xs, mx, rfl⟩ := List.mem_map.mp m
  obtain ⟨l, h⟩ := hv xs mx
  rw [List.getD_eq_getElem?_getD, List.getElem?_eq_getElem (by omega)]
  exact h _ (List.getElem_mem _)⟩
/-- the sums so far, place by place, not yet cut by the prime -/
def sumsZ (T : List (List Int)) (fs : List Int) (L k : Nat) : List Int := (List.range L).map fun c => dotZ (fs.take k) (colZ (T.take k) c)
theorem sumsZ_len (T : List (List Int)) (fs : List Int) (L k : Nat) : (sumsZ T fs L k).length = L := by
  unfold sumsZ
  rw [List.length_map, List.length_range]
theorem dotZ_snoc (xs ys : List Int) (x y : Int) (h : xs.length = ys.length) : dotZ (xs ++ [x]) (ys ++ [y]) = dotZ xs ys + x * y := by
  unfold dotZ
  rw [List.zipWith_append h, List.sum_append]
  show _ + (x * y + 0) = _
  rw [Int.add_zero]
theorem colZ_take (T : List (List Int)) (k c : Nat) : colZ (T.take k) c = (colZ T c).take k := List.map_take
theorem sum_at {T : List (List Int)} {fs : List Int} {k c : Nat} {f : Int} {xs : List Int} (hf : fs[k]? = some f) (hx : T[k]? = some xs) : dotZ (fs.take (k + 1)) (colZ (T.take (k + 1)) c) = dotZ (fs.take k) (colZ (T.take k) c) + f * xs.getD c 0 := by
  rw [List.take_succ, hf, colZ_take, colZ_take, List.take_succ (l := colZ T c)]
  have e : (colZ T c)[k]? = some (xs.getD c 0) := by
    unfold colZ
    rw [List.getElem?_map, hx]
    rfl
  rw [e]
  have kf := (List.getElem?_eq_some_iff.mp hf).1
  have kt := (List.getElem?_eq_some_iff.mp hx).1
  refine dotZ_snoc _ _ _ _ ?_
  unfold colZ
  rw [List.length_take, List.length_take, List.length_map]
  omega
/-- all factors so far are noughts -/
def Noughts (fs : List Int) (k : Nat) : Prop := ∀ i, i < k → fs.getD i 0 = 0
theorem noughts_sum {T : List (List Int)} {fs : List Int} (ht : T.length = fs.length) {k : Nat} (h : Noughts fs k) (hk : k ≤ fs.length) (c : Nat) : dotZ (fs.take k) (colZ (T.take k) c) = 0 := by
  induction k with
  | zero => rfl
  | succ k ih =>
    have hf : fs[k]? = some (fs[k]'(by omega)) := List.getElem?_eq_getElem _
    have hx : T[k]? = some (T[k]'(by omega)) := List.getElem?_eq_getElem _
    rw [sum_at hf hx, ih (fun i hi => h i (by omega)) (by omega)]
    have z := h k (by omega)
    rw [List.getD_eq_getElem?_getD, hf] at z
    have z2 : fs[k]'(by omega) = 0 := z
    rw [z2, Int.zero_mul]
    rfl
theorem get_sums {T : List (List Int)} {fs : List Int} {L k c : Nat} (h : c < L) : (sumsZ T fs L k)[c]? = some (dotZ (fs.take k) (colZ (T.take k) c)) := by
  unfold sumsZ
  rw [List.getElem?_map, List.getElem?_range h]
  rfl
theorem sums_nought {T : List (List Int)} {fs : List Int} {L k : Nat} {f : Int} {xs : List Int} (hf : fs[k]? = some f) (hx : T[k]? = some xs) (f0 : f = 0) : sumsZ T fs L (k + 1) = sumsZ T fs L k := by
  refine List.ext_getElem? fun c => ?_
  by_cases h : c < L
  · rw [get_sums h, get_sums h, sum_at hf hx, f0, Int.zero_mul, Int.add_zero]
  · rw [List.getElem?_eq_none (by rw [sumsZ_len]; omega), List.getElem?_eq_none (by rw [sumsZ_len]; omega)]
theorem sums_first {T : List (List Int)} {fs : List Int} (ht : T.length = fs.length) {L k : Nat} {f : Int} {xs : List Int} (hf : fs[k]? = some f) (hx : T[k]? = some xs) (lx : xs.length = L) (h : Noughts fs k) : xs.map (fun n => f * n) = sumsZ T fs L (k + 1) := by
  have kf := (List.getElem?_eq_some_iff.mp hf).1
  refine List.ext_getElem? fun c => ?_
  by_cases q : c < L
  · rw [get_sums q, sum_at hf hx, noughts_sum ht h (by omega), Int.zero_add, List.getElem?_map, List.getElem?_eq_getElem (by omega), List.getD_eq_getElem?_getD, List.getElem?_eq_getElem (by omega)]
    rfl
  · rw [List.getElem?_eq_none (by rw [List.length_map]; omega), List.getElem?_eq_none (by rw [sumsZ_len]; omega)]
theorem sums_next {T : List (List Int)} {fs : List Int} {L k : Nat} {f : Int} {xs : List Int} (hf : fs[k]? = some f) (hx : T[k]? = some xs) (lx : xs.length = L) : List.zipWith (fun a b => a + f * b) (sumsZ T fs L k) xs = sumsZ T fs L (k + 1) := by
  refine List.ext_getElem? fun c => ?_
  by_cases q : c < L
  · rw [get_sums q, sum_at hf hx, List.getElem?_zipWith, get_sums q, List.getElem?_eq_getElem (by omega), List.getD_eq_getElem?_getD, List.getElem?_eq_getElem (by omega)]
    rfl
  · rw [List.getElem?_eq_none (by rw [List.length_zipWith, sumsZ_len]; omega), List.getElem?_eq_none (by rw [sumsZ_len]; omega)]
theorem add_all {p : Int} {T : List (List Int)} {fs : List Int} {L : Nat} (ht : T.length = fs.length) : (sumsZ T fs L T.length).map (fun n => n % p) = addZ p T fs L := by
  unfold sumsZ addZ
  rw [List.map_map]
  refine List.map_congr_left fun c _ => ?_
  show dotZ (fs.take T.length) (colZ (T.take T.length) c) % p = _
  rw [List.take_of_length_le (by omega), List.take_of_length_le (Nat.le_refl _)]
theorem add_none {p : Int} {T : List (List Int)} {fs : List Int} {L : Nat} (ht : T.length = fs.length) (h : Noughts fs T.length) : addZ p T fs L = List.replicate L 0 := by
  rw [← add_all ht]
  refine List.ext_getElem? fun c => ?_
  by_cases q : c < L
  · rw [List.getElem?_map, get_sums q, noughts_sum ht h (by omega), List.getElem?_replicate, if_pos q]
    show some (0 % p) = _
    rw [Int.zero_emod]
  · rw [List.getElem?_eq_none (by rw [List.length_map, sumsZ_len]; omega), List.getElem?_eq_none (by rw [List.length_replicate]; omega)]
section
variable {P : Program} {w : World} {K : PySem.W.Frag} {mg : Str → Option Value} {base : Heap}
def spAdd : Sp := fun vs H Q _ => ∃ (p : Int) (m b : Addr) (L : Nat) (as : List Addr) (T : List (List Int)) (fs : List Int), vs = [.int p, .ref m, .ref b, .int (L : Int)] ∧ 2 ≤ p ∧ p ≤ 65537 ∧ H m = some (.lst (as.map V.ref)) ∧ Rws H as T ∧ (∀ xs ∈ T, Vc p L xs) ∧ Rw H b fs ∧ Vc p T.length fs ∧ L ≤ 1000 ∧ T.length ≤ 1000 ∧
  ∀ (H' : Hp) (d : Addr), Same H H' → H d = none → Rw H' d (addZ p T fs L) → Q (.ref d) H'
abbrev nAdd : List Str := ["prime", "vectors", "factors", "length", "total", "factor", "vector", "number", "a", "b"]
/-- the total so far: none, or a new list of the sums -/
def Tot (H H' : Hp) (T : List (List Int)) (fs : List Int) (L k : Nat) (v : V) : Prop := (v = .non ∧ Noughts fs k) ∨ ∃ d, v = .ref d ∧ H d = none ∧ Rw H' d (sumsZ T fs L k)
end
end Vb
end L2

set_option Elab.async false
set_option linter.all false
set_option maxRecDepth 100000
set_option maxHeartbeats 4000000
/-! Vb, part 11: inverse, combined. -/
namespace L2
namespace Vb
open PySem PySem.Spec PyProof.Rows
section
variable {P : Program} {w : World} {K : PySem.W.Frag} {mg : Str → Option Value} {base : Heap}
def spReqV : Sp := fun vs H Q _ => ∃ (p : Int) (m : Addr) (as : List Addr) (T : List (List Int)) (L : Nat), vs = [.int p, .ref m] ∧ H m = some (.lst (as.map V.ref)) ∧ Rws H as T ∧ (∀ xs ∈ T, Vc p L xs) ∧ L ≤ 1000 ∧ T.length ≤ 1000 ∧ ∀ H', Same H H' → Q .non H'
def spReqS : Sp := fun vs H Q _ => ∃ (p : Int) (m : Addr) (as : List Addr) (T : List (List Int)) (L : Nat), vs = [.int p, .ref m] ∧ H m = some (.lst (as.map V.ref)) ∧ Rws H as T ∧ (∀ xs ∈ T, Vc p L xs) ∧ L ≤ 1000 ∧ T.length ≤ 1000 ∧ 0 < T.length ∧ ∀ H', Same H H' → Q .non H'
def spInv : Sp := fun vs H Q _ => ∃ p a : Nat, vs = [.int (p : Int), .int (a : Int)] ∧ (p : Int) ∈ goods ∧ 0 < a ∧ a < p ∧ ∀ H', Same H H' → Q (.int ((a ^ (p - 2) % p : Nat) : Int)) H'
end
end Vb
end L2

set_option Elab.async false
set_option linter.all false
set_option maxRecDepth 100000
set_option maxHeartbeats 4000000
/-! Vb, part 12: combined. -/
namespace L2
namespace Vb
open PySem PySem.Spec PyProof.Rows
section
variable {P : Program} {w : World} {K : PySem.W.Frag} {mg : Str → Option Value} {base : Heap}
def spComb : Sp := fun vs H Q _ => ∃ (p : Int) (m b : Addr) (L : Nat) (as : List Addr) (T : List (List Int)) (fs : List Int), vs = [.int p, .ref m, .ref b] ∧ p ∈ goods ∧ H m = some (.lst (as.map V.ref)) ∧ Rws H as T ∧ (∀ xs ∈ T, Vc p L xs) ∧ Rw H b fs ∧ Vc p T.length fs ∧ L ≤ 1000 ∧ T.length ≤ 1000 ∧ 0 < T.length ∧
  ∀ (H' : Hp) (d : Addr), Same H H' → H d = none → Rw H' d (addZ p T fs L) → Q (.ref d) H'
end
end Vb
end L2

set_option Elab.async false
set_option linter.all false
set_option maxRecDepth 100000
set_option maxHeartbeats 4000000
/-! VbZipN: zip of as many lists as there are. -/
namespace ZN
open PySem
open PySem.Sem (wp)
theorem sizeN : sizeLine = 16777216 := rfl
theorem typeCall_n (args : List Value) : checkTypeCall "zip" ⟨args, []⟩ = pure () := by kernel_rfl
theorem newCall_n (args : List Value) : checkBuiltinCall "zip.__new__" ⟨.type "zip" :: args, []⟩ = pure () := by
  cases args with
  | nil => kernel_rfl
  | cons a as => kernel_rfl
theorem args_n (obj : Value) (args : List Value) : argsOk "object.__init__" ⟨obj :: args, []⟩ := by
  unfold argsOk; rw [signature?_of (id := "object.__init__") (n := ['_', '_', 't', 'i', 'n', 'i', '_', '_']) (o := ['t', 'c', 'e', 'j', 'b', 'o']) (by kernel_rfl) F.owner_object]; kernel_rfl
abbrev IsZipN (h : Heap) (z TI TO : Addr) (f0 f1 : Value) : Prop :=
  h.get? z = some { cls := .type "zip", dict := none, data := .fields #[f0, f1, .bool false, .ref TI, .ref TO], slots := #[] }
abbrev IsTupN (h : Heap) (T : Addr) (vs : Array Value) : Prop := h.get? T = some { cls := .type "tuple", data := .seq vs }
section
variable {M : Model} {A : Around} {E : Value → Shared → Prop}
/-- a for over a list, by what holds at each turn -/
theorem forIn_inv {α β : Type} {l : List α} {f : α → β → Sem (ForInStep β)} (I : Nat → β → Shared → Prop) {Q : β → Shared → Prop} {b : β} {s : Shared}
    (h0 : I 0 b s) (hs : ∀ k x b s, l[k]? = some x → I k b s → wpAny M A (f x b) (fun r s' => match r with | .yield b' => I (k + 1) b' s' | .done b' => Q b' s') E s) (hq : ∀ b s, I l.length b s → Q b s) :
    wpAny M A (forIn l b f) Q E s := by
  have key : ∀ (m : List α) (k : Nat) (b : β) (s : Shared), l.drop k = m → k ≤ l.length → I k b s → wpAny M A (forIn m b f) Q E s := by
    intro m
    induction m with
    | nil =>
      intro k b s e hk hi
      rw [List.forIn_nil]
      have hk2 : l.length ≤ k := List.drop_eq_nil_iff.mp e
      have q : k = l.length := by omega
      subst q
      exact wpAny_pure (hq b s hi)
    | cons x m ih =>
      intro k b s e hk hi
      rw [List.forIn_cons]
      have hx : l[k]? = some x := by
        have z := congrArg (fun y => y[0]?) e
        simp at z
        exact z
      have kl := (List.getElem?_eq_some_iff.mp hx).1
      refine wpAny_bind (wpAny_mono (hs k x b s hx hi) (fun r s' q => ?_) fun e s' q => q)
      cases r with
      | done b' => exact wpAny_pure q
      | yield b' =>
        refine ih (k + 1) b' s' ?_ kl q
        have z := congrArg List.tail e
        rw [List.tail_drop] at z
        exact z
  exact key l 0 b s rfl (Nat.zero_le _) h0
end
section
variable {prog : Program} {w : World} {A : Around} {E : Value → Shared → Prop} {s : Shared}
/-- iterators of lists, one after the other -/
def Its (h : Heap) (is ls : List Addr) (c : Nat → Nat) : Prop := is.length = ls.length ∧ ∀ j i l, is[j]? = some i → ls[j]? = some l → h.IsListIter i l (c j)
theorem iterAll_lists {ls : List Addr} {Q : List Value → Shared → Prop} (hl : ∀ l ∈ ls, ∃ xs, s.heap.IsList l xs)
    (h : ∀ h' : Heap, Its h' (List.range' s.heap.objs.size ls.length) ls (fun _ => 0) → h'.objs.size = s.heap.objs.size + ls.length → (∀ c o, s.heap.get? c = some o → h'.get? c = some o) →
      Q ((List.range' s.heap.objs.size ls.length).map Value.ref) { s with heap := h' }) :
    wpAny (model prog w) A (Builtin.SmallTypes.iterAll (ls.map Value.ref)) Q E s := by
  unfold Builtin.SmallTypes.iterAll
  refine wpAny_bind ?_
  refine forIn_inv (I := fun k b s' => ∃ h' : Heap, s' = { s with heap := h' } ∧ b = ((List.range' s.heap.objs.size k).map Value.ref).toArray ∧ Its h' (List.range' s.heap.objs.size k) (ls.take k) (fun _ => 0) ∧ h'.objs.size = s.heap.objs.size + k ∧ ∀ c o, s.heap.get? c = some o → h'.get? c = some o)
    ⟨s.heap, rfl, rfl, ⟨rfl, fun j i l e => nomatch e⟩, rfl, fun c o e => e⟩ ?_ ?_
  · rintro k x b s' hx ⟨h', rfl, rfl, it, sz, kp⟩
    rw [List.getElem?_map] at hx
    obtain ⟨l, hx2, rfl⟩ := Option.map_eq_some_iff.mp hx
    obtain ⟨xs, o, ho, r⟩ := hl l (List.mem_of_getElem? hx2)
    have hl' : h'.IsList l xs := ⟨o, kp _ _ ho, r⟩
    refine wpAny_bind (wpAny_holding (wpAny_pyIter_list hl' (wpAny_pure ?_)))
    refine ⟨_, rfl, ?_, ⟨?_, fun j i l' h1 h2 => ?_⟩, ?_, fun c o e => Heap.get?_push_of_some _ (kp c o e)⟩
    · show Array.push _ (Value.ref h'.objs.size) = _
      rw [sz, List.range'_concat, List.map_append]
      simp
    · rw [List.length_range', List.length_take]
      have := (List.getElem?_eq_some_iff.mp hx2).1
      omega
    · have kl := (List.getElem?_eq_some_iff.mp hx2).1
      have jk : j < k + 1 := by
        have := (List.getElem?_eq_some_iff.mp h1).1
        rw [List.length_range'] at this
        exact this
      rw [List.getElem?_range' jk] at h1
      rw [List.getElem?_take, if_pos jk] at h2
      by_cases q : j < k
      · obtain ⟨o2, e1, e2⟩ := it.2 j i l' (by rw [List.getElem?_range' q]; exact h1) (by rw [List.getElem?_take, if_pos q]; exact h2)
        exact ⟨o2, Heap.get?_push_of_some _ e1, e2⟩
      · have e : j = k := by omega
        subst e
        rw [hx2] at h2
        cases h2
        have e2 : i = h'.objs.size := by
          have z := Option.some.inj h1
          rw [sz, ← z, Nat.one_mul]
        rw [e2]
        exact ⟨_, Heap.get?_push_size _ rfl, rfl, rfl⟩
    · show (h'.push _).objs.size = _
      rw [Heap.size_push, sz]
      omega
  · rintro b s' ⟨h', rfl, rfl, it, sz, kp⟩
    refine wpAny_pure ?_
    rw [List.length_map] at it sz ⊢
    rw [List.take_of_length_le (Nat.le_refl _)] at it
    exact h h' it sz kp
/-- nothing of the zip's is another thing of it, or a list -/
structure ApartN (z TI TO : Addr) (is ls : List Addr) : Prop where
  TIz : TI ≠ z
  TOz : TO ≠ z
  TITO : TI ≠ TO
  iz : ∀ i ∈ is, i ≠ z
  iTI : ∀ i ∈ is, i ≠ TI
  iTO : ∀ i ∈ is, i ≠ TO
  nd : is.Nodup
  lz : ∀ l ∈ ls, l ≠ z ∧ l ≠ TO ∧ ∀ i ∈ is, l ≠ i
/-- the zip between two turns, behind c of them -/
structure StN (h : Heap) (z TI TO : Addr) (is ls : List Addr) (c : Nat) : Prop where
  zip : ∃ f0 f1, IsZipN h z TI TO f0 f1 ∧ (f0 = .none ∨ ∃ a : Int, f0 = rawInt a)
  ti : IsTupN h TI (is.map Value.ref).toArray
  to : ∃ vs : Array Value, IsTupN h TO vs ∧ vs.size = is.length
  its : Its h is ls fun _ => c
theorem wpAny_loadIfAlive {M : Model} {a : Addr} {Q : Option Obj → Shared → Prop} (h : Q (s.heap.get? a) s) : wpAny M A (loadIfAlive a) Q E s := by
  intro Γ p _
  unfold loadIfAlive
  rw [Sem.wp_loadIfAlive]
  exact h
theorem free_of {z TI TO : Addr} {f0 f1 : Value} {Q : Bool → Shared → Prop} (hz : IsZipN s.heap z TI TO f0 f1) (hf : f0 = .none ∨ ∃ a : Int, f0 = rawInt a)
    (h : ∀ (b : Bool) (h' : Heap) (f1' : Value), IsZipN h' z TI TO f0 f1' → Heap.SameBut z s.heap h' → Q b { s with heap := h' }) :
    wpAny (model prog w) A (Builtin.SmallTypes.ownedTupleIsFree (.ref z)) Q E s := by
  unfold Builtin.SmallTypes.ownedTupleIsFree
  rcases hf with rfl | ⟨a, rfl⟩
  · exact wpAny_bind (wpAny_field hz rfl (x := .none) rfl (wpAny_pure (h true s.heap f1 hz (Heap.SameBut.refl _ _))))
  · refine wpAny_bind (wpAny_field hz rfl (x := rawInt a) rfl ?_)
    refine wpAny_bind (wpAny_loadIfAlive ?_)
    cases q : s.heap.get? a.toNat with
    | none => exact wpAny_pure (h true s.heap f1 hz (Heap.SameBut.refl _ _))
    | some o =>
      refine wpAny_bind (wpAny_field hz rfl (x := f1) rfl ?_)
      by_cases q : (f1 != Value.bool true) = true
      · simp only [q, if_true]
        refine wpAny_bind (wpAny_setField_rec hz (by simp) fun h₁ hz₁ hs₁ => wpAny_pure (h false h₁ (.bool true) hz₁ hs₁))
      · simp only [q]
        exact wpAny_pure (h false s.heap f1 hz (Heap.SameBut.refl _ _))
/-- what is drawn at turn c -/
def DrawsN (h : Heap) (ls : List Addr) (c : Nat) (ys : List Value) : Prop := ys.length = ls.length ∧ ∀ (j : Nat) (l : Addr), ls[j]? = some l → ∃ (xs : Array Value) (y : Value), h.IsList l xs ∧ xs[c]? = some y ∧ ys[j]? = some y
theorem take_snoc {ys : List Value} {k : Nat} {y : Value} (h : ys[k]? = some y) : (ys.take k).toArray.push y = (ys.take (k + 1)).toArray := by
  rw [List.take_succ, h]
  simp
theorem its_step {h h' : Heap} {is ls : List Addr} {k c : Nat} {i l : Addr} (nd : is.Nodup) (hx : is[k]? = some i) (hl : ls[k]? = some l) (it : ∀ j i l, is[j]? = some i → ls[j]? = some l → h.IsListIter i l (if j < k then c + 1 else c))
    (n : h'.IsListIter i l (c + 1)) (hs : Heap.SameBut i h h') : ∀ j i l, is[j]? = some i → ls[j]? = some l → h'.IsListIter i l (if j < k + 1 then c + 1 else c) := by
  intro j i' l' e1 e2
  by_cases q : j = k
  · subst q
    rw [hx] at e1
    rw [hl] at e2
    cases e1
    cases e2
    rw [if_pos (Nat.lt_succ_self j)]
    exact n
  · have ne : i' ≠ i := fun e => by
      subst e
      obtain ⟨l1, x1⟩ := List.getElem?_eq_some_iff.mp hx
      obtain ⟨l2, x2⟩ := List.getElem?_eq_some_iff.mp e1
      have pw := List.pairwise_iff_getElem.mp (show is.Pairwise (· ≠ ·) from nd)
      rcases Nat.lt_or_gt_of_ne q with r | r
      · exact pw j k l2 l1 r (x2.trans x1.symm)
      · exact pw k j l1 l2 r (x1.trans x2.symm)
    have z := it j i' l' e1 e2
    have e3 : (if j < k + 1 then c + 1 else c) = (if j < k then c + 1 else c) := by
      by_cases r : j < k
      · rw [if_pos r, if_pos (by omega)]
      · rw [if_neg r, if_neg (by omega)]
    rw [e3]
    exact z.extBut hs.extBut ne
theorem its_all {h : Heap} {is ls : List Addr} {c : Nat} (e : is.length = ls.length) (it : ∀ j i l, is[j]? = some i → ls[j]? = some l → h.IsListIter i l (if j < is.length then c + 1 else c)) : Its h is ls fun _ => c + 1 := ⟨e, fun j i l h1 h2 => by
  have z := it j i l h1 h2
  rw [if_pos (List.getElem?_eq_some_iff.mp h1).1] at z
  exact z⟩
theorem list_kept {h h' : Heap} {l : Addr} {xs : Array Value} (hl : h.IsList l xs) (k : ∀ o, h.get? l = some o → h'.get? l = some o) : h'.IsList l xs := by
  obtain ⟨o, ho, r⟩ := hl
  exact ⟨o, k _ ho, r⟩
theorem updateSeq_tup {T : Addr} {us : Array Value} {x : Value} {k : Nat} {Q : Unit → Shared → Prop} (hT : IsTupN s.heap T us) (hz : us.size ≤ 1000)
    (h : ∀ h' : Heap, IsTupN h' T (us.setIfInBounds k x) → Heap.SameBut T s.heap h' → Q () { s with heap := h' }) : wpAny (model prog w) A (updateSeq T (·.setIfInBounds k x)) Q E s := by
  refine wpAny_updateSeq hT rfl (h _ ?_ (Heap.SameBut.update ..)) (by rw [sizeN]; omega) (by rw [Array.size_setIfInBounds, sizeN]; omega)
  show (s.heap.update T _).get? T = _
  rw [Heap.get?_update_self _ hT rfl]
  simp [Obj.mapSeq]
theorem next_item {z TI TO : Addr} {is ls : List Addr} {c : Nat} {ys : List Value} {Q : Fin → Shared → Prop} (D : ApartN z TI TO is ls) (hne : is ≠ []) (small : is.length ≤ 1000) (st : StN s.heap z TI TO is ls c) (hd : DrawsN s.heap ls c ys)
    (hQ : ∀ h' : Heap, StN h' z TI TO is ls (c + 1) → IsTupN h' s.heap.objs.size ys.toArray → h'.objs.size = s.heap.objs.size + 1 → (∀ b o, b ≠ z → b ≠ TO → b ∉ is → s.heap.get? b = some o → h'.get? b = some o) →
      Q (.done (.ret (.ref s.heap.objs.size))) { s with heap := h' }) :
    wpAny (model prog w) A (Builtin.«zip.__next__» ⟨[.ref z], []⟩) Q E s := by
  obtain ⟨⟨f0, f1, hz, hf⟩, hTI, ⟨vs, hTO, vsz⟩, hi⟩ := st
  show wpAny _ _ (field (.ref z) 2 >>= _) _ _ _
  refine wpAny_bind (wpAny_field hz rfl (x := .bool false) rfl ?_)
  show wpAny _ _ (field (.ref z) 3 >>= _) _ _ _
  refine wpAny_bind (wpAny_field hz rfl (x := .ref TI) rfl ?_)
  refine wpAny_bind (wpAny_seqItems hTI rfl ?_)
  have e0 : (is.map Value.ref).toArray.isEmpty = false := by
    cases is with
    | nil => exact absurd rfl hne
    | cons x xs => rfl
  simp only [e0]
  show wpAny _ _ (Builtin.SmallTypes.ownedTupleIsFree (.ref z) >>= _) _ _ _
  refine wpAny_bind (free_of hz hf fun b h' f1' hz' hs' => ?_)
  cases b with
  | false =>
    simp only [Bool.false_eq_true, if_false]
    refine wpAny_bind ?_
    rw [List.forIn_toArray]
    refine forIn_inv (I := fun k b s' => ∃ h2 : Heap, s' = { s with heap := h2 } ∧ b = (none, (ys.take k).toArray) ∧ IsZipN h2 z TI TO f0 f1' ∧ (∀ j i l, is[j]? = some i → ls[j]? = some l → h2.IsListIter i l (if j < k then c + 1 else c)) ∧ h2.objs.size = s.heap.objs.size ∧ ∀ b o, b ≠ z → b ∉ is → s.heap.get? b = some o → h2.get? b = some o)
      ⟨h', rfl, rfl, hz', fun j i l e1 e2 => ?_, hs'.1, fun b o n1 _ e => hs'.extBut _ _ n1 e⟩ ?_ ?_
    · rw [if_neg (Nat.not_lt_zero j)]
      exact (hi.2 j i l e1 e2).extBut hs'.extBut (D.iz i (List.mem_of_getElem? e1))
    · rintro k x b s' hx ⟨h2, rfl, rfl, hz2, it2, sz2, kp2⟩
      rw [List.getElem?_map] at hx
      obtain ⟨i, hx2, rfl⟩ := Option.map_eq_some_iff.mp hx
      have kl := (List.getElem?_eq_some_iff.mp hx2).1
      have hlk : ls[k]? = some (ls[k]'(by have := hi.1; omega)) := List.getElem?_eq_getElem _
      generalize ls[k]'(by have := hi.1; omega) = l at hlk
      obtain ⟨xs, y, l1, l2, l3⟩ := hd.2 k l hlk
      have lm := D.lz l (List.mem_of_getElem? hlk)
      have hit := it2 k i l hx2 hlk
      rw [if_neg (Nat.lt_irrefl k)] at hit
      refine wpAny_bind (wpAny_holding ?_)
      show wpAny _ _ (Builtin.SmallTypes.nextOf (.ref i) >>= _) _ _ _
      refine wpAny_bind (wpAny_nextOf_list_item hit (list_kept l1 fun o e => kp2 l o lm.1 (fun m => lm.2.2 l m rfl) e) l2 fun h3 hi3 hs3 => wpAny_pure ?_)
      refine wpAny_pure ?_
      have im := List.mem_of_getElem? hx2
      refine ⟨h3, rfl, ?_, hs3.extBut _ _ (Ne.symm (D.iz i im)) hz2, its_step D.nd hx2 hlk it2 hi3 hs3, hs3.1.trans sz2, fun b o n1 n2 e => hs3.extBut _ _ (fun q => n2 (q ▸ im)) (kp2 b o n1 n2 e)⟩
      show (none, (ys.take k).toArray.push y) = _
      rw [take_snoc l3]
    · rintro b s' ⟨h2, rfl, rfl, hz2, it2, sz2, kp2⟩
      rw [List.length_map] at it2 ⊢
      rw [List.take_of_length_le (by have := hd.1; have := hi.1; omega)]
      refine wpAny_bind (wpAny_newTuple ?_ (by show ys.length ≤ sizeLine; rw [hd.1, ← hi.1, sizeN]; omega))
      refine wpAny_pure ?_
      have e4 : (ys.toArray.toList).toArray = ys.toArray := rfl
      rw [sz2]
      refine hQ _ ⟨⟨f0, f1', Heap.get?_push_of_some _ hz2, hf⟩, Heap.get?_push_of_some _ (kp2 _ _ D.TIz (fun m => D.iTI _ m rfl) hTI), ⟨vs, Heap.get?_push_of_some _ (kp2 _ _ D.TOz (fun m => D.iTO _ m rfl) hTO), vsz⟩, hi.1, fun j i l e1 e2 => ?_⟩ ?_ ?_ (fun b o n1 n2 n3 e => Heap.get?_push_of_some _ (kp2 b o n1 n3 e))
      · obtain ⟨o, q1, q2⟩ := (its_all hi.1 it2).2 j i l e1 e2
        exact ⟨o, Heap.get?_push_of_some _ q1, q2⟩
      · have z := Heap.get?_push_size h2 (o := { cls := .type "tuple", data := .seq ys.toArray }) rfl
        rw [sz2] at z
        exact z
      · show (h2.push _).objs.size = _
        rw [Heap.size_push, sz2]
  | true =>
    simp only [if_true]
    refine wpAny_bind (wpAny_rule ?_)
    refine wpAny_bind (wpAny_field hz' rfl (x := .ref TO) rfl ?_)
    refine wpAny_bind (wpAny_setField_rec hz' (by simp) fun h₁ hz₁ hs₁ => ?_)
    replace hz₁ : IsZipN h₁ z TI TO .ellipsis f1' := hz₁
    refine wpAny_bind ?_
    have s01 : ∀ b o, b ≠ z → s.heap.get? b = some o → h₁.get? b = some o := fun b o n e => hs₁.extBut _ _ n (hs'.extBut _ _ n e)
    refine forIn_inv (I := fun k b s' => ∃ (h2 : Heap) (us : Array Value), s' = { s with heap := h2 } ∧ b = (none, ()) ∧ IsZipN h2 z TI TO .ellipsis f1' ∧ IsTupN h2 TO us ∧ us.size = is.length ∧ (∀ j, j < k → us[j]? = ys[j]?) ∧ (∀ j i l, is[j]? = some i → ls[j]? = some l → h2.IsListIter i l (if j < k then c + 1 else c)) ∧ h2.objs.size = s.heap.objs.size ∧ ∀ b o, b ≠ z → b ≠ TO → b ∉ is → s.heap.get? b = some o → h2.get? b = some o)
      ⟨h₁, vs, rfl, rfl, hz₁, s01 _ _ D.TOz hTO, vsz, fun j hj => absurd hj (Nat.not_lt_zero j), fun j i l e1 e2 => ?_, hs₁.1.trans hs'.1, fun b o n1 _ _ e => s01 b o n1 e⟩ ?_ ?_
    · rw [if_neg (Nat.not_lt_zero j)]
      obtain ⟨o, q1, q2⟩ := hi.2 j i l e1 e2
      exact ⟨o, s01 _ _ (D.iz i (List.mem_of_getElem? e1)) q1, q2⟩
    · rintro k x b s' hx ⟨h2, us, rfl, rfl, hz2, hTO2, usz, uy, it2, sz2, kp2⟩
      rw [List.getElem?_zipIdx, List.getElem?_map] at hx
      obtain ⟨u, hu, rfl⟩ := Option.map_eq_some_iff.mp hx
      obtain ⟨i, hx2, rfl⟩ := Option.map_eq_some_iff.mp hu
      have kl := (List.getElem?_eq_some_iff.mp hx2).1
      have hlk : ls[k]? = some (ls[k]'(by have := hi.1; omega)) := List.getElem?_eq_getElem _
      generalize ls[k]'(by have := hi.1; omega) = l at hlk
      obtain ⟨xs, y, l1, l2, l3⟩ := hd.2 k l hlk
      have lm := D.lz l (List.mem_of_getElem? hlk)
      have hit := it2 k i l hx2 hlk
      rw [if_neg (Nat.lt_irrefl k)] at hit
      have im := List.mem_of_getElem? hx2
      refine wpAny_bind (wpAny_onRaise ?_)
      show wpAny _ _ (Builtin.SmallTypes.nextOf (.ref i) >>= _) _ _ _
      refine wpAny_bind (wpAny_nextOf_list_item hit (list_kept l1 fun o e => kp2 l o lm.1 lm.2.1 (fun m => lm.2.2 l m rfl) e) l2 fun h3 hi3 hs3 => wpAny_pure ?_)
      have hTO3 : IsTupN h3 TO us := hs3.extBut _ _ (Ne.symm (D.iTO i im)) hTO2
      refine wpAny_bind (wpAny_seqItems hTO3 rfl ?_)
      refine wpAny_bind (updateSeq_tup (s := { s with heap := h3 }) hTO3 (by omega) fun h4 hTO4 hs4 => ?_)
      refine wpAny_bind (wpAny_letGo (wpAny_pure ?_))
      have st3 := its_step D.nd hx2 hlk it2 hi3 hs3
      have ek : 0 + k = k := Nat.zero_add k
      refine ⟨h4, us.setIfInBounds (0 + k) y, rfl, rfl, hs4.extBut _ _ (Ne.symm D.TOz) (hs3.extBut _ _ (Ne.symm (D.iz i im)) hz2), hTO4, by rw [Array.size_setIfInBounds]; exact usz, fun j hj => ?_, fun j i' l' e1 e2 => ?_, hs4.1.trans (hs3.1.trans sz2), fun b o n1 n2 n3 e => hs4.extBut _ _ n2 (hs3.extBut _ _ (fun q => n3 (q ▸ im)) (kp2 b o n1 n2 n3 e))⟩
      · rw [ek, Array.getElem?_setIfInBounds]
        by_cases q : k = j
        · subst q
          rw [if_pos rfl, if_pos (by omega), l3]
        · rw [if_neg q]
          exact uy j (by omega)
      · exact (st3 j i' l' e1 e2).extBut hs4.extBut (D.iTO i' (List.mem_of_getElem? e1))
    · rintro b s' ⟨h2, us, rfl, rfl, hz2, hTO2, usz, uy, it2, sz2, kp2⟩
      rw [List.length_zipIdx, List.length_map] at it2 uy
      have eu : us = ys.toArray := by
        refine Array.ext_getElem? fun j => ?_
        by_cases q : j < is.length
        · rw [uy j q]
          simp
        · have := hd.1
          have := hi.1
          rw [Array.getElem?_eq_none (by omega), Array.getElem?_eq_none (by simp; omega)]
      subst eu
      refine wpAny_bind (wpAny_seqItems hTO2 rfl ?_)
      refine wpAny_bind (wpAny_newTuple ?_ (by show ys.length ≤ sizeLine; rw [hd.1, ← hi.1, sizeN]; omega))
      show wpAny _ _ (Builtin.SmallTypes.ownedTupleHandOut (.ref z) (.ref h2.objs.size) >>= _) _ _ _
      refine wpAny_bind ?_
      unfold Builtin.SmallTypes.ownedTupleHandOut
      have hz₆ : IsZipN (h2.push { cls := .type "tuple", data := .seq ys.toArray }) z TI TO .ellipsis f1' := Heap.get?_push_of_some _ hz2
      refine wpAny_bind (wpAny_setField_rec hz₆ (by simp) fun h₇ hz₇ hs₇ => ?_)
      replace hz₇ : IsZipN h₇ z TI TO (rawInt h2.objs.size) f1' := hz₇
      refine wpAny_setField_rec hz₇ (by simp) fun h₈ hz₈ hs₈ => ?_
      replace hz₈ : IsZipN h₈ z TI TO (rawInt h2.objs.size) (.bool false) := hz₈
      have up : ∀ b o, b ≠ z → h2.get? b = some o → h₈.get? b = some o := fun b o n e => hs₈.extBut _ _ n (hs₇.extBut _ _ n (Heap.get?_push_of_some _ e))
      have zl : z < h2.objs.size := Heap.lt_size hz2
      refine wpAny_pure ?_
      rw [sz2] at hz₈ zl ⊢
      refine hQ h₈ ⟨⟨_, _, hz₈, .inr ⟨_, rfl⟩⟩, up _ _ D.TIz (kp2 _ _ D.TIz D.TITO (fun m => D.iTI _ m rfl) hTI), ⟨_, up _ _ D.TOz hTO2, by rw [List.size_toArray, hd.1, hi.1]⟩, hi.1, fun j i l e1 e2 => ?_⟩ ?_ ?_ (fun b o n1 n2 n3 e => up b o n1 (kp2 b o n1 n2 n3 e))
      · obtain ⟨o, q1, q2⟩ := (its_all hi.1 it2).2 j i l e1 e2
        exact ⟨o, up _ _ (D.iz i (List.mem_of_getElem? e1)) q1, q2⟩
      · have z9 := Heap.get?_push_size h2 (o := { cls := .type "tuple", data := .seq ys.toArray }) rfl
        rw [sz2] at z9
        exact hs₈.extBut _ _ (Nat.ne_of_gt zl) (hs₇.extBut _ _ (Nat.ne_of_gt zl) z9)
      · rw [hs₈.1, hs₇.1, Heap.size_push, sz2]
theorem next_end {z TI TO : Addr} {is ls : List Addr} {c : Nat} {Q : Fin → Shared → Prop} (hh : A.handled = none) (D : ApartN z TI TO is ls) (st : StN s.heap z TI TO is ls c) {l : Addr} {xs : Array Value} (h0 : ls[0]? = some l) (hl : s.heap.IsList l xs) (hx : xs[c]? = none)
    (hE : ∀ h' e, (∀ b o, b ≠ z → b ≠ TO → b ∉ is → s.heap.get? b = some o → h'.get? b = some o) → (∃ o, h'.get? e = some o ∧ o.cls = .type "StopIteration") → E (.ref e) { s with heap := h' }) :
    wpAny (model prog w) A (Builtin.«zip.__next__» ⟨[.ref z], []⟩) Q E s := by
  obtain ⟨⟨f0, f1, hz, hf⟩, hTI, ⟨vs, hTO, vsz⟩, hi⟩ := st
  have hx0 : is[0]? = some (is[0]'(by have := hi.1; have := (List.getElem?_eq_some_iff.mp h0).1; omega)) := List.getElem?_eq_getElem _
  generalize is[0]'(by have := hi.1; have := (List.getElem?_eq_some_iff.mp h0).1; omega) = i at hx0
  have im := List.mem_of_getElem? hx0
  have lm := D.lz l (List.mem_of_getElem? h0)
  have hit := hi.2 0 i l hx0 h0
  obtain ⟨is', eis⟩ : ∃ is', is = i :: is' := by
    cases is with
    | nil => cases hx0
    | cons x r =>
      cases hx0
      exact ⟨r, rfl⟩
  show wpAny _ _ (field (.ref z) 2 >>= _) _ _ _
  refine wpAny_bind (wpAny_field hz rfl (x := .bool false) rfl ?_)
  show wpAny _ _ (field (.ref z) 3 >>= _) _ _ _
  refine wpAny_bind (wpAny_field hz rfl (x := .ref TI) rfl ?_)
  refine wpAny_bind (wpAny_seqItems hTI rfl ?_)
  have e0 : (is.map Value.ref).toArray.isEmpty = false := by
    rw [eis]
    rfl
  simp only [e0]
  show wpAny _ _ (Builtin.SmallTypes.ownedTupleIsFree (.ref z) >>= _) _ _ _
  refine wpAny_bind (free_of hz hf fun b h' f1' hz' hs' => ?_)
  cases b with
  | false =>
    simp only [Bool.false_eq_true, if_false]
    refine wpAny_bind ?_
    rw [List.forIn_toArray]
    conv => arg 3; rw [eis, List.map_cons, List.forIn_cons]
    refine wpAny_bind (wpAny_bind (wpAny_holding ?_))
    show wpAny _ _ (Builtin.SmallTypes.nextOf (.ref i) >>= _) _ _ _
    refine wpAny_bind (wpAny_nextOf_list_end hh (hit.extBut hs'.extBut (D.iz i im)) (hl.extBut hs'.extBut lm.1) hx fun h₂ e hs₂ he => ?_)
    exact hE h₂ e (fun b o n1 n2 n3 q => hs₂ _ _ (fun y => n3 (y ▸ im)) (hs'.extBut _ _ n1 q)) he
  | true =>
    simp only [if_true]
    refine wpAny_bind (wpAny_rule ?_)
    refine wpAny_bind (wpAny_field hz' rfl (x := .ref TO) rfl ?_)
    refine wpAny_bind (wpAny_setField_rec hz' (by simp) fun h₁ hz₁ hs₁ => ?_)
    replace hz₁ : IsZipN h₁ z TI TO .ellipsis f1' := hz₁
    refine wpAny_bind ?_
    conv => arg 3; rw [eis, List.map_cons, List.zipIdx_cons, List.forIn_cons]
    refine wpAny_bind (wpAny_bind (wpAny_onRaise ?_))
    show wpAny _ _ (Builtin.SmallTypes.nextOf (.ref i) >>= _) _ _ _
    refine wpAny_bind (wpAny_nextOf_list_end hh ((hit.extBut hs'.extBut (D.iz i im)).extBut hs₁.extBut (D.iz i im)) ((hl.extBut hs'.extBut lm.1).extBut hs₁.extBut lm.1) hx fun h₂ e hs₂ he => ?_)
    obtain ⟨oe, hoe, hce⟩ := he
    have hz₂ : IsZipN h₂ z TI TO .ellipsis f1' := hs₂ _ _ (Ne.symm (D.iz i im)) hz₁
    have hez : e ≠ z := fun y => by subst y; rw [hz₂] at hoe; cases hoe; simp at hce
    exact wpAny_setField_rec hz₂ (by simp) fun h₃ _ hs₃ => hE h₃ e (fun b o n1 n2 n3 q => hs₃.extBut _ _ n1 (hs₂ _ _ (fun y => n3 (y ▸ im)) (hs₁.extBut _ _ n1 (hs'.extBut _ _ n1 q)))) ⟨oe, hs₃.extBut _ _ hez hoe, hce⟩
theorem pyNext_item {z TI TO : Addr} {is ls : List Addr} {c : Nat} {ys : List Value} {Q : Option Value → Shared → Prop} (D : ApartN z TI TO is ls) (hne : is ≠ []) (small : is.length ≤ 1000) (st : StN s.heap z TI TO is ls c) (hd : DrawsN s.heap ls c ys)
    (hQ : ∀ h' : Heap, StN h' z TI TO is ls (c + 1) → IsTupN h' s.heap.objs.size ys.toArray → h'.objs.size = s.heap.objs.size + 1 → (∀ b o, b ≠ z → b ≠ TO → b ∉ is → s.heap.get? b = some o → h'.get? b = some o) →
      Q (some (.ref s.heap.objs.size)) { s with heap := h' }) :
    wpAny (model prog w) A (pyNext (.ref z)) Q E s := by
  obtain ⟨f0, f1, hz, _⟩ := st.zip
  have hT : s.TypeIs (.ref z) "zip" := ⟨_, hz, rfl⟩
  unfold pyNext
  exact wpAny_bind (wpAny_attempt (wpAny_callSpecial?_slot (name := Str.ofString "__next__") hT F.slot_zip_next
    (wpAny_call_entry F.slot_zip_next hT F.entry_zip_next
      (next_item D hne small st hd fun h' a1 a2 a3 a4 => ⟨_, rfl, wpAny_pure (hQ h' a1 a2 a3 a4)⟩) (F.args_zip_next_1 _))))
theorem pyNext_end {z TI TO : Addr} {is ls : List Addr} {c : Nat} {Q : Option Value → Shared → Prop} (hh : A.handled = none) (D : ApartN z TI TO is ls) (st : StN s.heap z TI TO is ls c) {l : Addr} {xs : Array Value} (h0 : ls[0]? = some l) (hl : s.heap.IsList l xs) (hx : xs[c]? = none)
    (hQ : ∀ h', (∀ b o, b ≠ z → b ≠ TO → b ∉ is → s.heap.get? b = some o → h'.get? b = some o) → Q none { s with heap := h' }) :
    wpAny (model prog w) A (pyNext (.ref z)) Q E s := by
  obtain ⟨f0, f1, hz, _⟩ := st.zip
  have hT : s.TypeIs (.ref z) "zip" := ⟨_, hz, rfl⟩
  unfold pyNext
  refine wpAny_bind (wpAny_attempt (wpAny_callSpecial?_slot (name := Str.ofString "__next__") hT F.slot_zip_next
    (wpAny_call_entry F.slot_zip_next hT F.entry_zip_next (next_end hh D st h0 hl hx fun h' e hk he => ?_) (F.args_zip_next_1 _))))
  obtain ⟨o, ho, hc⟩ := he
  refine wpAny_bind (wpAny_isInstance (T := "StopIteration") (b := true) ⟨o, ho, hc⟩ isSubtype_stop ?_)
  exact wpAny_pure (hQ _ hk)
end
end ZN

set_option Elab.async false
set_option linter.all false
set_option maxRecDepth 100000
set_option maxHeartbeats 4000000
namespace ZN
open PySem
open PySem.Sem (wp)
theorem new_n (ls : List Addr) (small : ls.length ≤ 1000) :
    Meets (Builtin.«zip.__new__» ⟨.type "zip" :: ls.map Value.ref, []⟩) (fun _ R s => (∀ l ∈ ls, ∃ xs, s.heap.IsList l xs) ∧
      ∀ h' : Heap, IsZipN h' (s.heap.objs.size + ls.length + 2) (s.heap.objs.size + ls.length) (s.heap.objs.size + ls.length + 1) .none (.bool false) →
        IsTupN h' (s.heap.objs.size + ls.length) ((List.range' s.heap.objs.size ls.length).map Value.ref).toArray → (∃ vs : Array Value, IsTupN h' (s.heap.objs.size + ls.length + 1) vs ∧ vs.size = ls.length) →
        Its h' (List.range' s.heap.objs.size ls.length) ls (fun _ => 0) → h'.objs.size = s.heap.objs.size + ls.length + 3 → (∀ b o, s.heap.get? b = some o → h'.get? b = some o) →
        R (.ok (.ret (.ref (s.heap.objs.size + ls.length + 2)))) { s with heap := h' }) :=
  .of_wp fun prog w A R s h => by
    obtain ⟨hl, h⟩ := h
    have hsub := sub_zip
    have e : Builtin.SmallTypes.newClass "zip" ⟨.type "zip" :: ls.map Value.ref, []⟩ = pure (.type "zip", ls.map Value.ref) := by
      unfold Builtin.SmallTypes.newClass
      show (isType (Value.type "zip") >>= _) = _
      have e1 : isType (Value.type "zip") = pure true := rfl
      rw [e1]
      show (isSubtype (Value.type "zip") (Value.type "zip") >>= _) = _
      rw [hsub]
      rfl
    show wpAny _ _ (Builtin.SmallTypes.newClass "zip" _ >>= _) _ _ _
    rw [e]
    show wpAny _ _ (Builtin.SmallTypes.iterAll (ls.map Value.ref) >>= _) _ _ _
    refine wpAny_bind (iterAll_lists hl fun h1 it sz kp => ?_)
    refine wpAny_bind (wpAny_newTuple ?_ (by rw [List.length_map, List.length_range', sizeN]; omega))
    refine wpAny_bind (wpAny_newTuple ?_ (by rw [List.length_map, List.length_map, List.length_range', sizeN]; omega))
    unfold Builtin.SmallTypes.newRecord
    refine wpAny_bind (wpAny_newObj_type ?_ (by show 5 ≤ sizeLine + 2; decide))
    refine wpAny_pure ⟨_, rfl, ?_⟩
    obtain ⟨t1, et1⟩ : ∃ t1 : Obj, t1 = { cls := .type "tuple", data := .seq ((List.range' s.heap.objs.size ls.length).map Value.ref).toArray } := ⟨_, rfl⟩
    obtain ⟨t2, et2⟩ : ∃ t2 : Obj, t2 = { cls := .type "tuple", data := .seq (((List.range' s.heap.objs.size ls.length).map Value.ref).map fun _ => Value.none).toArray } := ⟨_, rfl⟩
    show R (.ok (.ret (.ref ((h1.push { cls := .type "tuple", data := .seq ((List.range' s.heap.objs.size ls.length).map Value.ref).toArray }).push { cls := .type "tuple", data := .seq (((List.range' s.heap.objs.size ls.length).map Value.ref).map fun _ => Value.none).toArray }).objs.size)))
      { s with heap := (((h1.push { cls := .type "tuple", data := .seq ((List.range' s.heap.objs.size ls.length).map Value.ref).toArray }).push { cls := .type "tuple", data := .seq (((List.range' s.heap.objs.size ls.length).map Value.ref).map fun _ => Value.none).toArray }).push
        { cls := .type "zip", dict := none, data := .fields #[.none, .bool false, .bool false, .ref h1.objs.size, .ref (h1.push { cls := .type "tuple", data := .seq ((List.range' s.heap.objs.size ls.length).map Value.ref).toArray }).objs.size], slots := #[] }) }
    rw [← et1, ← et2]
    have f1 : t1.isFreed = false := by rw [et1]; rfl
    have f2 : t2.isFreed = false := by rw [et2]; rfl
    have z1 : (h1.push t1).objs.size = s.heap.objs.size + ls.length + 1 := by rw [Heap.size_push, sz]
    have z2 : ((h1.push t1).push t2).objs.size = s.heap.objs.size + ls.length + 2 := by rw [Heap.size_push, z1]
    have g1 := Heap.get?_push_size h1 (o := t1) f1
    have g2 := Heap.get?_push_size (h1.push t1) (o := t2) f2
    have g3 := Heap.get?_push_size ((h1.push t1).push t2) (o := { cls := .type "zip", dict := none, data := .fields #[.none, .bool false, .bool false, .ref h1.objs.size, .ref (h1.push t1).objs.size], slots := #[] }) rfl
    have k1 : ∀ b o, h1.get? b = some o → ((h1.push t1).push t2).get? b = some o := fun b o e => Heap.get?_push_of_some _ (Heap.get?_push_of_some _ e)
    rw [z2, z1, sz] at g3
    rw [sz] at g1
    rw [z1] at g2
    rw [z2, z1, sz]
    refine h _ g3 (Heap.get?_push_of_some _ (Heap.get?_push_of_some _ (by rw [← et1]; exact g1))) ⟨_, Heap.get?_push_of_some _ (g2.trans (congrArg some et2)), ?_⟩ ⟨it.1, fun j i l e1 e2 => ?_⟩ ?_ (fun b o e => Heap.get?_push_of_some _ (k1 _ _ (kp b o e)))
    · simp
    · obtain ⟨o, q1, q2⟩ := it.2 j i l e1 e2
      exact ⟨o, Heap.get?_push_of_some _ (k1 _ _ q1), q2⟩
    · rw [Heap.size_push, z2]
section
variable {prog : Program} {w : World} {A : Around} {E : Value → Shared → Prop} {s : Shared}
theorem call_n {ls : List Addr} {Q : Value → Shared → Prop} (small : ls.length ≤ 1000) (hl : ∀ l ∈ ls, ∃ xs, s.heap.IsList l xs)
    (h : ∀ h' : Heap, StN h' (s.heap.objs.size + ls.length + 2) (s.heap.objs.size + ls.length) (s.heap.objs.size + ls.length + 1) (List.range' s.heap.objs.size ls.length) ls 0 → h'.objs.size = s.heap.objs.size + ls.length + 3 →
      (∀ b o, s.heap.get? b = some o → h'.get? b = some o) → Q (.ref (s.heap.objs.size + ls.length + 2)) { s with heap := h' }) :
    wpAny (model prog w) A (call (.type "zip") (ls.map Value.ref)) Q E s := by
  refine callType_new F.called_zip (by decide) (typeCall_n _) (newCall_n _) (fun obj => args_n obj _) F.entry_zip_new (new_n ls small) ⟨hl, fun h' a1 a2 a3 a4 a5 a6 => ?_⟩
  obtain ⟨vs, a3, a7⟩ := a3
  exact ⟨⟨_, a1, rfl⟩, h h' ⟨⟨_, _, a1, .inl rfl⟩, a2, ⟨vs, a3, by rw [a7, List.length_range']⟩, a4⟩ a5 a6⟩
theorem apart_n {ls : List Addr} {n : Nat} (h : ∀ l ∈ ls, l < n) : ApartN (n + ls.length + 2) (n + ls.length) (n + ls.length + 1) (List.range' n ls.length) ls := by
  have m : ∀ i ∈ List.range' n ls.length, n ≤ i ∧ i < n + ls.length := fun i hi => by
    have z := List.mem_range'_1.mp hi
    exact z
  have ne : ∀ {a b : Nat}, a < b → a ≠ b := fun h e => Nat.lt_irrefl _ (e ▸ h)
  have ne2 : ∀ {a b : Nat}, b < a → a ≠ b := fun h e => Nat.lt_irrefl _ (e ▸ h)
  exact ⟨ne (by omega), ne (by omega), ne (by omega), fun i hi => ne (Nat.lt_of_lt_of_le (m i hi).2 (Nat.le_add_right _ 2)), fun i hi => ne (m i hi).2, fun i hi => ne (Nat.lt_of_lt_of_le (m i hi).2 (Nat.le_add_right _ 1)), List.nodup_range' ..,
    fun l hl => ⟨ne (Nat.lt_of_lt_of_le (h l hl) (Nat.le_trans (Nat.le_add_right n ls.length) (Nat.le_add_right _ 2))), ne (Nat.lt_of_lt_of_le (h l hl) (Nat.le_trans (Nat.le_add_right n ls.length) (Nat.le_add_right _ 1))), fun i hi => ne (Nat.lt_of_lt_of_le (h l hl) (m i hi).1)⟩⟩
end
end ZN

set_option Elab.async false
set_option linter.all false
set_option maxRecDepth 100000
set_option maxHeartbeats 4000000
namespace L2
open PySem PySem.Spec PyProof.Rows
open ZN (ApartN StN IsZipN IsTupN DrawsN)
/-- the lists at as as they stand at each turn, the items in a new tuple -/
def ItzN (K : PySem.W.Frag) (as : List Addr) : It :=
  ⟨fun i H => ∃ ys : List V, ys.length = as.length ∧ ∀ (j : Nat) (a : Addr), as[j]? = some a → ∃ xs y, SqL K H a xs ∧ xs[i]? = some y ∧ ys[j]? = some y,
    fun i H v H' => ∃ T ys, v = .ref T ∧ H T = none ∧ H' = upd H T (.tup ys) ∧ ys.length = as.length ∧ ∀ (j : Nat) (a : Addr) (xs : List V), as[j]? = some a → SqL K H a xs → ys[j]? = xs[i]?,
    fun i H => ∃ a xs, as[0]? = some a ∧ SqL K H a xs ∧ xs.length ≤ i⟩
theorem choose_list {α : Type} (P : Nat → α → Prop) : ∀ n : Nat, (∀ j, j < n → ∃ u, P j u) → ∃ us : List α, us.length = n ∧ ∀ (j : Nat) (u : α), us[j]? = some u → P j u
  | 0, _ => ⟨[], rfl, fun j u e => by cases e⟩
  | n + 1, h => by
    obtain ⟨us, l, k⟩ := choose_list P n fun j hj => h j (Nat.lt_succ_of_lt hj)
    obtain ⟨u, hu⟩ := h n (Nat.lt_succ_self n)
    refine ⟨us ++ [u], by rw [List.length_append, l]; rfl, fun j v e => ?_⟩
    by_cases q : j < n
    · rw [List.getElem?_append_left (by omega)] at e
      exact k j v e
    · have lt := (List.getElem?_eq_some_iff.mp e).1
      rw [List.length_append, l] at lt
      have ej : j = n := by
        have : [u].length = 1 := rfl
        omega
      subst ej
      rw [List.getElem?_append_right (by omega), l, Nat.sub_self] at e
      cases e
      exact hu
theorem vals_at : ∀ {ys : List V} {us : List Value}, ys.length = us.length → (∀ (j : Nat) y u, ys[j]? = some y → us[j]? = some u → RelV y u) → Vals ys us
  | [], [], _, _ => .nil
  | [], _ :: _, h, _ => by cases h
  | _ :: _, [], h, _ => by cases h
  | y :: ys, u :: us, h, k => .cons (k 0 y u rfl rfl) (vals_at (Nat.succ.inj h) fun j y u e1 e2 => k (j + 1) y u e1 e2)
theorem turn_zipN {P : Program} {w : World} {K : PySem.W.Frag} {nm : Str} {tpos : Pos} {as is : List Addr} {z TI TO : Addr} (D : ApartN z TI TO is as) (hne : as ≠ []) (small : as.length ≤ 1000) (hla : is.length = as.length) :
    Turn P w K (.Name nm tpos) (ItzN K as) (z :: TI :: TO :: is) z (fun i h => StN h z TI TO is as i) where
  mem := by simp
  obj := fun i h st c hc => by
    obtain ⟨⟨f0, f1, hz, _⟩, hTI, ⟨vs, hTO, _⟩, hi⟩ := st
    rcases List.mem_cons.mp hc with q | hc
    · rw [q]; exact ⟨_, hz, fun v q => nomatch q⟩
    rcases List.mem_cons.mp hc with q | hc
    · rw [q]; exact ⟨_, hTI, fun v q => nomatch q⟩
    rcases List.mem_cons.mp hc with q | hc
    · rw [q]; exact ⟨_, hTO, fun v q => nomatch q⟩
    obtain ⟨j, hj, e⟩ := List.mem_iff_getElem.mp hc
    obtain ⟨o, e1, _, d1⟩ := hi.2 j c (as[j]'(by rw [← hla]; exact hj)) (by rw [List.getElem?_eq_getElem hj, e]) (List.getElem?_eq_getElem _)
    exact ⟨o, e1, fun v q => by rw [d1] at q; cases q⟩
  keep := fun i h h' st k => by
    obtain ⟨⟨f0, f1, hz, hf⟩, hTI, ⟨vs, hTO, hv⟩, hi⟩ := st
    refine ⟨⟨f0, f1, k z (by simp) _ hz, hf⟩, k TI (by simp) _ hTI, ⟨vs, k TO (by simp) _ hTO, hv⟩, hi.1, fun j a l e1 e2 => ?_⟩
    obtain ⟨o, q1, q2⟩ := hi.2 j a l e1 e2
    exact ⟨o, k a (List.mem_cons_of_mem _ (List.mem_cons_of_mem _ (List.mem_cons_of_mem _ (List.mem_of_getElem? e1)))) _ q1, q2⟩
  item := by
    intro X hP hw hK hc i pins s σ H E I hf st hg
    subst hP hw hK
    obtain ⟨ys, ly, hy⟩ := hg
    obtain ⟨us, lu, hu⟩ := choose_list (fun j u => ∃ a its y, as[j]? = some a ∧ s.heap.IsList a its ∧ its[i]? = some u ∧ ys[j]? = some y ∧ RelV y u) as.length fun j hj => by
      obtain ⟨xs, y, q1, q2, q3⟩ := hy j _ (List.getElem?_eq_getElem hj)
      obtain ⟨its, rv, p, _⟩ := I.list q1
      obtain ⟨u, h1, h2⟩ := rv.get q2
      exact ⟨u, _, its.toArray, y, List.getElem?_eq_getElem hj, p.isList, by simpa using h1, q3, h2⟩
    have rv : Vals ys us := vals_at (by omega) fun j y u e1 e2 => by
      obtain ⟨_, _, y2, _, _, _, e3, r⟩ := hu j u e2
      rw [e1] at e3
      cases e3
      exact r
    have ine : is ≠ [] := fun e => hne (List.length_eq_zero_iff.mp (by rw [← hla, e]; rfl))
    have hd : DrawsN s.heap as i us := ⟨lu, fun j l e => by
      have jl := (List.getElem?_eq_some_iff.mp e).1
      obtain ⟨a, its, y, e1, q1, q2, _, _⟩ := hu j _ (List.getElem?_eq_getElem (by omega))
      rw [e] at e1
      cases e1
      exact ⟨its, _, q1, q2, List.getElem?_eq_getElem _⟩⟩
    have hz : z < s.heap.objs.size := by
      obtain ⟨f0, f1, hz, _⟩ := st.zip
      exact Heap.lt_size hz
    refine ZN.pyNext_item D ine (by omega) st hd fun h' st' hT hsz hk => ?_
    refine ⟨_, rfl, ?_⟩
    unfold letOwnedTupleGo
    refine wpAny_pure ?_
    have new : ObjOk X.prog X.w (upd H s.heap.objs.size (.tup ys)) h' s.heap.objs.size (.tup ys) :=
      ⟨by rw [ly, ZN.sizeN]; omega, us, rv, ⟨_, hT, rfl, _, rfl⟩⟩
    have I1 : Inv X pins σ (upd H s.heap.objs.size (.tup ys)) { s with heap := h' } :=
      I.turnedNew (t' := s.toks) (ch := z :: TI :: TO :: is) (fun c o hb q => hk c o (fun q' => hb (by simp [q'])) (fun q' => hb (by simp [q'])) (fun q' => hb (by simp [q'])) q) hf (Nat.le_refl _) new
    refine ⟨.ref s.heap.objs.size, _, I1, rfl, ⟨_, ys, rfl, I.hok.fresh (Nat.le_refl _), rfl, ly, fun j a xs e hl => ?_⟩, st', fun c hcm => ?_⟩
    · obtain ⟨xs2, y, q1, q2, q3⟩ := hy j a e
      rw [I.list_inj hl q1, q2, q3]
    · have hlt : c < s.heap.objs.size := by
        obtain ⟨o, e, _⟩ := (show ∃ o, s.heap.get? c = some o ∧ True from by
          obtain ⟨⟨f0, f1, hz, _⟩, hTI, ⟨vs, hTO, _⟩, hi⟩ := st
          rcases List.mem_cons.mp hcm with q | hc
          · rw [q]; exact ⟨_, hz, trivial⟩
          rcases List.mem_cons.mp hc with q | hc
          · rw [q]; exact ⟨_, hTI, trivial⟩
          rcases List.mem_cons.mp hc with q | hc
          · rw [q]; exact ⟨_, hTO, trivial⟩
          obtain ⟨j, hj, e⟩ := List.mem_iff_getElem.mp hc
          obtain ⟨o, e1, _⟩ := hi.2 j c (as[j]'(by rw [← hla]; exact hj)) (by rw [List.getElem?_eq_getElem hj, e]) (List.getElem?_eq_getElem _)
          exact ⟨o, e1, trivial⟩)
        exact Heap.lt_size e
      rw [upd_ne (Nat.ne_of_lt hlt)]
      exact (hf c hcm).1
  done := by
    intro X hP hw hK hc i pins s σ H E I hf st hg
    subst hP hw hK
    obtain ⟨a, xs, h0, hq, hend⟩ := hg
    obtain ⟨its, rv, p, _⟩ := I.list hq
    have l1 := rv.length
    exact ZN.pyNext_end (I.ok.hd hc) D st h0 p.isList (by simp; omega) fun h' hk => ⟨rfl, I.turnedL (t' := s.toks) (ch := z :: TI :: TO :: is) (fun c o hb q =>
      hk c o (fun q' => hb (by simp [q'])) (fun q' => hb (by simp [q'])) (fun q' => hb (by simp [q'])) q) hf⟩
  self := fun A i s Q E st h => by
    obtain ⟨f0, f1, hz, _⟩ := st.zip
    have hT : s.TypeIs (.ref z) "zip" := ⟨_, hz, rfl⟩
    refine wpAny_pyIter_slot hT F.slot_zip_iter (wpAny_call_entry F.slot_zip_iter hT F.entry_zip_iter ?_ (F.args_zip_iter_1 _))
    show wpAny _ _ (ret (.ref z)) _ _ s
    exact wpAny_pure ⟨_, rfl, "zip", _, hT, F.slot_zip_next.lookup, h⟩
def iZipN (K : PySem.W.Frag) (te : TE) : TI := fun σ H R => te σ H fun x H1 => ∃ (m : Addr) (as : List Addr), x = .ref m ∧ SqL K H1 m (as.map V.ref) ∧ as ≠ [] ∧ as.length ≤ 1000 ∧ (∀ a ∈ as, ∃ xs, SqL K H1 a xs) ∧ R (ItzN K as) H1
theorem vals_refs' {as : List Addr} : ∀ {us : List Value}, Vals (as.map V.ref) us → us = as.map Value.ref := by
  induction as with
  | nil =>
    intro us r
    cases r
    rfl
  | cons a as ih =>
    intro us r
    cases r with
    | cons h t =>
      cases (show _ = Value.ref a from h)
      rw [ih t]
      rfl
theorem callWith_typeS {M : Model} {A : Around} {E : Value → Shared → Prop} {s : Shared} {T : String} {env : Env} {e : Expr} {p pos : Pos} {Q : Value → Shared → Prop}
    (h : wpAny M A (eval e env) (fun v s₁ => PySem.W.StarOf M A E v (fun vs s₂ => wpAny M A (call (.type T) vs) Q E s₂) s₁) E s) (he : starEach [.Starred e p] env = [(true, eval e env)] := by rfl) :
    wpAny M A (callWith pos (.type T) [] (backTo pos (starEach [.Starred e p] env)) []) Q E s := by
  rw [he]
  refine PySem.W.ks_call (P := fun _ => True) rfl (fun h _ => ⟨.machine, .inr (.inl rfl), PySem.W.Looks.of_pure rfl⟩) (PySem.W.ks_lone ?_)
  refine wpAny_mono h (fun v s1 q => ?_) fun _ _ y => y
  unfold PySem.W.StarOf at q ⊢
  refine wpAny_mono q (fun b s2 ⟨eb, q2⟩ => ⟨eb, wpAny_mono q2 (fun vs s3 q3 => ⟨trivial, q3⟩) fun _ _ y => y⟩) fun _ _ y => y
theorem pi_zipN {X : Cx} {e : Expr} {te : TE} {nm : Str} {p pos spos tpos : Pos} (hg : Gl X "zip") (hm : X.mg "zip" = none) (he : PE X e te)
    (hs : starEach [.Starred e spos] X.env = [(true, eval e X.env)] := by rfl) :
    PI X (.Name nm tpos) (.Call (.Name "zip" p) [.Starred e spos] [] pos) (iZipN X.K te) := by
  refine ⟨fun pins s σ H R I h => ?_⟩
  refine Call_ (ld_blt I hg hm PyProof.Rows.boot_zip (callWith_typeS (thn (he.run pins s σ H _ I h) fun v s1 ⟨y, H1, I1, ry, m, as, ey, hq, hne, small, hal, q⟩ => ?_) hs))
  subst ey
  obtain rfl : v = Value.ref m := ry
  refine StX.star_any I1 (.inr hq) fun us s2 I2 rv => ?_
  rw [vals_refs' rv]
  refine ZN.call_n small (fun l ml => ?_) fun h' st hsz hk => ?_
  · obtain ⟨xs, hx⟩ := hal l ml
    obtain ⟨its, _, p1, _⟩ := I2.list hx
    exact ⟨_, p1.isList⟩
  · have lt : ∀ l ∈ as, l < s2.heap.objs.size := fun l ml => by
      obtain ⟨xs, hx⟩ := hal l ml
      obtain ⟨its, _, p1, _⟩ := I2.list hx
      exact p1.lt
    have I3 : Inv X pins σ H1 { s2 with heap := h' } := I2.kept (t' := s2.toks) hk
    have T := turn_zipN (P := X.prog) (w := X.w) (K := X.K) (nm := nm) (tpos := tpos) (ZN.apart_n lt) hne small (List.length_range' ..)
    refine T.self _ 0 _ _ _ st ⟨_, _, _, _, H1, rfl, I3, T, st, fun c hcm => ?_, q⟩
    have hle : s2.heap.objs.size ≤ c := by
      rcases List.mem_cons.mp hcm with z | hc
      · rw [z]; exact Nat.le_trans (Nat.le_add_right _ _) (Nat.le_add_right _ _)
      rcases List.mem_cons.mp hc with z | hc
      · rw [z]; exact Nat.le_add_right _ _
      rcases List.mem_cons.mp hc with z | hc
      · rw [z]; exact Nat.le_trans (Nat.le_add_right _ _) (Nat.le_add_right _ _)
      exact (List.mem_range'_1.mp hc).1
    exact I2.fpOk hle (I2.hok.fresh hle)
/-- the walk where all lists are as long -/
theorem walk_zipN {K : PySem.W.Frag} {as : List Addr} {L : Nat} (xss : List (List V)) (hne : as ≠ []) (hl : xss.length = as.length) (hL : ∀ xs ∈ xss, xs.length = L) :
    Walk (ItzN K as) L (fun H => ∀ (j : Nat) (a : Addr) (xs : List V), as[j]? = some a → xss[j]? = some xs → SqL K H a xs)
      (fun i H v H' => ∃ T, v = .ref T ∧ H T = none ∧ H' = upd H T (.tup (xss.map fun xs => xs.getD i .non))) where
  goes := fun i H hi hG => by
    refine ⟨xss.map fun xs => xs.getD i .non, by rw [List.length_map, hl], fun j a e => ?_⟩
    have jl := (List.getElem?_eq_some_iff.mp e).1
    have hx : xss[j]? = some (xss[j]'(by omega)) := List.getElem?_eq_getElem _
    refine ⟨_, (xss[j]'(by omega)).getD i .non, hG j a _ e hx, ?_, ?_⟩
    · have z := hL _ (List.mem_of_getElem? hx)
      rw [List.getD_eq_getElem?_getD, List.getElem?_eq_getElem (by omega)]
      rfl
    · rw [List.getElem?_map, hx]
      rfl
  stops := fun H hG => by
    cases as with
    | nil => exact absurd rfl hne
    | cons a as =>
      cases xss with
      | nil => cases hl
      | cons xs xss => exact ⟨a, xs, rfl, hG 0 a xs rfl rfl, Nat.le_of_eq (hL xs List.mem_cons_self)⟩
  yields := fun i H v H' hi hG ⟨T, ys, e1, e2, e3, e4, e5⟩ => by
    refine ⟨T, e1, e2, ?_⟩
    have ey : ys = xss.map fun xs => xs.getD i .non := by
      refine List.ext_getElem? fun j => ?_
      by_cases q : j < as.length
      · have ha : as[j]? = some as[j] := List.getElem?_eq_getElem q
        have hx : xss[j]? = some (xss[j]'(by omega)) := List.getElem?_eq_getElem _
        rw [e5 j _ _ ha (hG j _ _ ha hx), List.getElem?_map, hx]
        have z := hL _ (List.mem_of_getElem? hx)
        rw [List.getElem?_eq_getElem (by omega)]
        show _ = some (List.getD _ _ _)
        rw [List.getD_eq_getElem?_getD, List.getElem?_eq_getElem (by omega)]
        rfl
      · rw [List.getElem?_eq_none (by omega), List.getElem?_eq_none (by rw [List.length_map]; omega)]
    rw [e3, ey]
end L2

set_option Elab.async false
set_option linter.all false
set_option maxRecDepth 100000
set_option maxHeartbeats 4000000
/-! Vb, part 9: columns. -/
namespace L2
namespace Vb
open PySem PySem.Spec PyProof.Rows
abbrev nCols : List Str := ["vectors", "length", "_", "column"]
theorem rws_lists {H : Hp} {as : List Addr} {T : List (List Int)} (h : Rws H as T) {j : Nat} {a : Addr} {xs : List V} (h1 : as[j]? = some a) (h2 : (T.map fun xs => xs.map V.int)[j]? = some xs) : H a = some (.lst xs) := by
  obtain ⟨b, ys, e1, e2, e3, e4, e5⟩ := rws_at h (i := j) (x := .ref a) (by rw [List.getElem?_map, h1]; rfl)
  cases e1
  rw [List.getElem?_map, e4] at h2
  cases h2
  exact e2
theorem col_at {T : List (List Int)} {p : Int} {L k : Nat} (hv : ∀ xs ∈ T, Vc p L xs) (hk : k < L) : ((T.map fun xs => xs.map V.int).map fun xs => xs.getD k .non) = (T.map fun xs => xs.getD k 0).map V.int := by
  rw [List.map_map, List.map_map]
  refine List.map_congr_left fun xs mx => ?_
  show (xs.map V.int).getD k .non = V.int (xs.getD k 0)
  rw [List.getD_eq_getElem?_getD, List.getElem?_map, List.getElem?_eq_getElem (by rw [(hv xs mx).1]; exact hk), List.getD_eq_getElem?_getD, List.getElem?_eq_getElem (by rw [(hv xs mx).1]; exact hk)]
  rfl
section
variable {P : Program} {w : World} {K : PySem.W.Frag} {mg : Str → Option Value} {base : Heap}
def spCols : Sp := fun vs H Q _ => ∃ (m : Addr) (L : Nat) (as : List Addr) (T : List (List Int)) (p : Int), vs = [.ref m, .int (L : Int)] ∧ H m = some (.lst (as.map V.ref)) ∧ Rws H as T ∧ (∀ xs ∈ T, Vc p L xs) ∧ L ≤ 1000 ∧ T.length ≤ 1000 ∧
  ∀ (H' : Hp) (d : Addr) (cs : List Addr), Same H H' → H d = none → H' d = some (.lst (cs.map V.ref)) → Rws H' cs ((List.range L).map fun c => T.map fun xs => xs.getD c 0) → Q (.ref d) H'
end
end Vb
end L2

set_option Elab.async false
set_option linter.all false
set_option maxRecDepth 100000
set_option maxHeartbeats 4000000
/-! Vb, part 7: products and columns. -/
namespace L2
namespace Vb
open PySem PySem.Spec PyProof.Rows
def spProd : Sp := fun vs H Q _ => ∃ (p : Int) (a b : Addr) (xs ys : List Int) (L : Nat), vs = [.int p, .ref a, .ref b] ∧ 2 ≤ p ∧ p ≤ 65537 ∧ Rw H a xs ∧ Rw H b ys ∧ Vc p L xs ∧ Vc p L ys ∧ L ≤ 1000 ∧ ∀ H', Same H H' → Q (.int (dotZ xs ys % p)) H'
section
variable {P : Program} {w : World} {K : PySem.W.Frag} {mg : Str → Option Value} {base : Heap}
end
end Vb
end L2


set_option Elab.async false
set_option linter.all false
set_option maxRecDepth 100000
set_option maxHeartbeats 4000000
/-! Vb, part 13: a place cleared. -/
namespace L2
namespace Vb
open PySem PySem.Spec PyProof.Rows
open LinA (scaleZ lessZ)
/-- row i is scaled by s, all others lose their number at c -/
def midZ (p : Nat) (l : List Int) (i c k : Nat) (T : List (List Int)) : List (List Int) := T.mapIdx fun j xs => if j = i then l else if j < k then lessZ p l c xs else xs
def invN (p : Nat) (T : List (List Int)) (i c : Nat) : Int := (((at_ T i c).toNat ^ (p - 2) % p : Nat) : Int)
def leadZ (p : Nat) (T : List (List Int)) (i c : Nat) : List Int := scaleZ p (invN p T i c) (T.getD i [])
/-- all but m stands -/
def But (m : Addr) (H H' : Hp) : Prop := ∀ b, b ≠ m → ∀ o, H b = some o → H' b = some o
theorem but_same {m : Addr} {H H' : Hp} (h : Same H H') : But m H H' := fun b _ o e => h b o e
theorem But.trans {m : Addr} {H H1 H2 : Hp} (h : But m H H1) (k : But m H1 H2) : But m H H2 := fun b n o e => k b n o (h b n o e)
theorem but_upd {m : Addr} {H : Hp} {o : HO} : But m H (upd H m o) := fun b n u e => (upd_ne n).trans e
theorem rws_ne {H : Hp} {m : Addr} {as : List Addr} {T : List (List Int)} (hm : H m = some (.lst (as.map V.ref))) (hT : Rws H as T) : ∀ b ∈ as, b ≠ m := by
  intro b mb e
  subst e
  have key : ∀ {bs : List Addr} {U : List (List Int)}, Rws H bs U → b ∈ bs → ∃ xs : List Int, H b = some (.lst (xs.map V.int)) := by
    intro bs U h
    induction h with
    | nil => exact fun z => (List.not_mem_nil z).elim
    | cons p _ ih =>
      intro z
      rcases List.mem_cons.mp z with q | q
      · rw [q]
        exact ⟨_, p⟩
      · exact ih q
  obtain ⟨xs, hx⟩ := key hT mb
  rw [hm] at hx
  have e2 : as.map V.ref = xs.map V.int := by
    injection hx with z
    injection z
  cases as with
  | nil => cases mb
  | cons a as =>
    cases xs with
    | nil => cases e2
    | cons x xs =>
      injection e2 with z1 z2
      cases z1
theorem rws_but {H H' : Hp} {m : Addr} {as : List Addr} {T : List (List Int)} (hT : Rws H as T) (n : ∀ b ∈ as, b ≠ m) (h : But m H H') : Rws H' as T := hT.mono fun b mb o e => h b (n b mb) o e
theorem rws_set {H : Hp} {as : List Addr} {T : List (List Int)} (h : Rws H as T) (i : Nat) {a : Addr} {xs : List Int} (r : Rw H a xs) : Rws H (as.set i a) (T.set i xs) := by
  induction h generalizing i with
  | nil => exact .nil
  | cons p ps ih =>
    cases i with
    | zero => exact .cons r ps
    | succ i => exact .cons p (ih i)
theorem rws_get {H : Hp} {as : List Addr} {T : List (List Int)} (h : Rws H as T) {i : Nat} (hi : i < T.length) : ∃ b, (as.map V.ref)[i]? = some (V.ref b) ∧ Rw H b (T.getD i []) ∧ T.getD i [] ∈ T := by
  have hx : (as.map V.ref)[i]? = some ((as.map V.ref)[i]'(by rw [List.length_map, h.len]; exact hi)) := List.getElem?_eq_getElem _
  obtain ⟨b, xs, e1, hb, mx, ht, _⟩ := rws_at h hx
  have e : T.getD i [] = xs := by rw [List.getD_eq_getElem?_getD, ht]; rfl
  rw [e]
  rw [e1] at hx
  exact ⟨b, hx, hb, mx⟩
theorem int_get {xs : List Int} {c L : Nat} (h : xs.length = L) (hc : c < L) : (xs.map V.int)[c]? = some (V.int (xs.getD c 0)) := by
  rw [List.getElem?_map, List.getD_eq_getElem?_getD, List.getElem?_eq_getElem (by omega)]
  rfl
theorem ixN_nat {n j : Nat} (h : j < n) : ixN n (j : Int) = some j := by
  unfold ixN
  rw [if_pos (by omega), if_pos (by omega), Int.toNat_natCast]
section
variable {p : Nat} {l : List Int} {i c : Nat}
theorem mid_len (k : Nat) (T : List (List Int)) : (midZ p l i c k T).length = T.length := List.length_mapIdx
theorem mid_get (k : Nat) (T : List (List Int)) (j : Nat) (hj : j < T.length) : (midZ p l i c k T)[j]? = some (if j = i then l else if j < k then lessZ p l c (T.getD j []) else T.getD j []) := by
  unfold midZ
  rw [List.getElem?_mapIdx, List.getElem?_eq_getElem hj, List.getD_eq_getElem?_getD, List.getElem?_eq_getElem hj]
  rfl
theorem mid_zero {T : List (List Int)} (hi : i < T.length) : midZ p l i c 0 T = T.set i l := by
  refine List.ext_getElem? fun j => ?_
  by_cases hj : j < T.length
  · rw [mid_get 0 T j hj, List.getElem?_set, List.getElem?_eq_getElem hj, List.getD_eq_getElem?_getD, List.getElem?_eq_getElem hj]
    by_cases e : i = j
    · subst e
      rw [if_pos rfl, if_pos rfl, if_pos hj]
    · rw [if_neg e, if_neg (Ne.symm e), if_neg (Nat.not_lt_zero j)]
      rfl
  · rw [List.getElem?_eq_none (by rw [mid_len]; omega), List.getElem?_eq_none (by rw [List.length_set]; omega)]
theorem mid_same {k : Nat} {T : List (List Int)} (h : k = i ∨ lessZ p l c (T.getD k []) = T.getD k []) (hk : k < T.length) : midZ p l i c (k + 1) T = midZ p l i c k T := by
  refine List.ext_getElem? fun j => ?_
  by_cases hj : j < T.length
  · rw [mid_get _ T j hj, mid_get _ T j hj]
    by_cases e : j = i
    · rw [if_pos e, if_pos e]
    · rw [if_neg e, if_neg e]
      by_cases q : j = k
      · subst q
        rw [if_pos (Nat.lt_succ_self j), if_neg (Nat.lt_irrefl j)]
        rcases h with h | h
        · exact absurd h e
        · rw [h]
      · by_cases r : j < k
        · rw [if_pos r, if_pos (Nat.lt_succ_of_lt r)]
        · rw [if_neg r, if_neg (by omega)]
  · rw [List.getElem?_eq_none (by rw [mid_len]; omega), List.getElem?_eq_none (by rw [mid_len]; omega)]
theorem mid_next {k : Nat} {T : List (List Int)} (h : k ≠ i) (hk : k < T.length) : midZ p l i c (k + 1) T = (midZ p l i c k T).set k (lessZ p l c (T.getD k [])) := by
  refine List.ext_getElem? fun j => ?_
  by_cases hj : j < T.length
  · rw [mid_get _ T j hj, List.getElem?_set, mid_get _ T j hj, mid_len]
    by_cases q : k = j
    · subst q
      rw [if_neg h, if_pos (Nat.lt_succ_self k), if_pos rfl, if_pos hk]
    · rw [if_neg q]
      by_cases e : j = i
      · rw [if_pos e, if_pos e]
      · rw [if_neg e, if_neg e]
        by_cases r : j < k
        · rw [if_pos r, if_pos (Nat.lt_succ_of_lt r)]
        · rw [if_neg r, if_neg (by omega)]
  · rw [List.getElem?_eq_none (by rw [mid_len]; omega), List.getElem?_eq_none (by rw [List.length_set, mid_len]; omega)]
end
section
variable {P : Program} {w : World} {K : PySem.W.Frag} {mg : Str → Option Value} {base : Heap}
def spClear : Sp := fun vs H Q _ => ∃ (p : Nat) (m : Addr) (i c L : Nat) (as : List Addr) (T : List (List Int)), vs = [.int (p : Int), .ref m, .int (i : Int), .int (c : Int)] ∧ 2 ≤ p ∧ p ≤ 65537 ∧ Prm p ∧ H m = some (.lst (as.map V.ref)) ∧ Rws H as T ∧ (∀ xs ∈ T, Vc (p : Int) L xs) ∧ i < T.length ∧ c < L ∧ at_ T i c ≠ 0 ∧ L ≤ 1000 ∧ T.length ≤ 1000 ∧
  ∀ (H' : Hp) (as' : List Addr), But m H H' → H' m = some (.lst (as'.map V.ref)) → Rws H' as' (midZ p (leadZ p T i c) i c T.length T) → (∀ b ∈ as', b ∈ as ∨ H b = none) → Q .non H'
theorem one_pow {p : Nat} (p2 : 2 ≤ p) : (1 ^ (p - 2) % p : Nat) = 1 := by
  rw [Nat.one_pow]
  exact Nat.mod_eq_of_lt (by omega)
theorem lead_one {p : Nat} {T : List (List Int)} {i c : Nat} (p2 : 2 ≤ p) (h : at_ T i c = 1) (hv : ∀ n ∈ T.getD i [], 0 ≤ n ∧ n < (p : Int)) : leadZ p T i c = T.getD i [] := by
  unfold leadZ invN
  rw [h]
  show scaleZ p ((((1 : Int).toNat ^ (p - 2) % p : Nat) : Int)) (T.getD i []) = _
  have e : ((1 : Int).toNat) = 1 := rfl
  rw [e, one_pow p2]
  unfold scaleZ
  have z : ∀ xs : List Int, (∀ n ∈ xs, 0 ≤ n ∧ n < (p : Int)) → xs.map (fun n => n * ((1 : Nat) : Int) % (p : Int)) = xs := by
    intro xs hx
    induction xs with
    | nil => rfl
    | cons x xs ih =>
      obtain ⟨x0, x1⟩ := hx x List.mem_cons_self
      rw [List.map_cons, ih fun n m => hx n (List.mem_cons_of_mem _ m)]
      have e2 : x * ((1 : Nat) : Int) % (p : Int) = x := by
        have e3 : ((1 : Nat) : Int) = 1 := rfl
        rw [e3, Int.mul_one]
        exact Int.emod_eq_of_lt x0 x1
      rw [e2]
  exact z _ hv
theorem set_same {T : List (List Int)} {i : Nat} (h : i < T.length) : T.set i (T.getD i []) = T := by
  refine List.ext_getElem? fun j => ?_
  rw [List.getElem?_set]
  by_cases e : i = j
  · subst e
    rw [if_pos rfl, if_pos h, List.getD_eq_getElem?_getD, List.getElem?_eq_getElem h]
    rfl
  · rw [if_neg e]
abbrev nClear : List Str := ["prime", "table", "at", "place", "lead", "scale", "row", "factor", "number", "a", "b"]
end
end Vb
end L2

set_option Elab.async false
set_option linter.all false
set_option maxRecDepth 100000
set_option maxHeartbeats 4000000
/-! Vb, part 14: elimination. -/
namespace L2
namespace Vb
open PySem PySem.Spec PyProof.Rows
open LinA (scaleZ lessZ)
theorem inv_one {p : Nat} (pr : Prm p) (p2 : 2 ≤ p) {a : Int} (a0 : 0 < a) (a1 : a < (p : Int)) : a * (((a.toNat ^ (p - 2) % p : Nat) : Int)) % (p : Int) = 1 := by
  have f := LinA.fermat pr p2 (a := a.toNat) (by omega) (by omega)
  have e : ((a.toNat : Nat) : Int) = a := Int.toNat_of_nonneg (by omega)
  have z : a.toNat * (a.toNat ^ (p - 2) % p) % p = 1 := by
    rw [Nat.mul_mod, Nat.mod_mod, ← Nat.mul_mod, Nat.mul_comm, ← Nat.pow_succ]
    have e2 : (p - 2).succ = p - 1 := by omega
    rw [e2]
    exact f
  rw [← e, Int.toNat_natCast, ← Int.natCast_mul, ← Int.natCast_emod, z]
  rfl
theorem set_perm {a b : List Int} : ∀ {E : List (List Int)} {k : Nat}, E[k]? = some b → (a :: E).Perm (b :: E.set k a)
  | [], k, h => by cases h
  | x :: E, 0, h => by
    cases h
    exact List.Perm.swap _ _ _
  | x :: E, k + 1, h => by
    have z := set_perm (a := a) (b := b) (E := E) (k := k) h
    show (a :: x :: E).Perm (b :: x :: E.set k a)
    exact ((List.Perm.swap x a E).trans (z.cons x)).trans (List.Perm.swap b x _)
theorem swap_rest {D E : List (List Int)} {f : Nat} (h1 : D.length ≤ f) (h2 : f < (D ++ E).length) : ∃ E', E.Perm ((D ++ E).getD f [] :: E') ∧ (((D ++ E).set D.length ((D ++ E).getD f [])).set f ((D ++ E).getD D.length [])) = D ++ (D ++ E).getD f [] :: E' := by
  obtain ⟨k, rfl⟩ : ∃ k, f = D.length + k := ⟨f - D.length, by omega⟩
  have hk : k < E.length := by rw [List.length_append] at h2; omega
  have g : ∀ j, (D ++ E).getD (D.length + j) [] = E.getD j [] := fun j => by
    rw [List.getD_eq_getElem?_getD, List.getD_eq_getElem?_getD, List.getElem?_append_right (by omega), Nat.add_sub_cancel_left]
  have g0 := g 0
  rw [Nat.add_zero] at g0
  rw [g k, g0]
  have st : ∀ (X : List (List Int)) (j : Nat) (v : List Int), (D ++ X).set (D.length + j) v = D ++ X.set j v := fun X j v => by
    rw [List.set_append_right _ _ (by omega), Nat.add_sub_cancel_left]
  have st0 := st E 0 (E.getD k [])
  rw [Nat.add_zero] at st0
  rw [st0, st]
  cases E with
  | nil => exact absurd hk (Nat.not_lt_zero k)
  | cons a E =>
    cases k with
    | zero => exact ⟨E, List.Perm.refl _, rfl⟩
    | succ k =>
      refine ⟨E.set k a, set_perm ?_, rfl⟩
      show E[k]? = some (E.getD k [])
      have hk2 : k < E.length := Nat.lt_of_succ_lt_succ hk
      rw [List.getD_eq_getElem?_getD, List.getElem?_eq_getElem hk2]
      rfl
theorem mid_parts {p : Nat} {l b : List Int} {c : Nat} {D E : List (List Int)} : midZ p l D.length c (D ++ b :: E).length (D ++ b :: E) = (D.map (lessZ p l c) ++ [l]) ++ E.map (lessZ p l c) := by
  refine List.ext_getElem? fun j => ?_
  by_cases hj : j < (D ++ b :: E).length
  · rw [mid_get _ _ j hj, if_pos hj]
    have gD : (D ++ b :: E).getD j [] = if j < D.length then D.getD j [] else (b :: E).getD (j - D.length) [] := by
      by_cases q : j < D.length
      · rw [if_pos q, List.getD_eq_getElem?_getD, List.getD_eq_getElem?_getD, List.getElem?_append_left q]
      · rw [if_neg q, List.getD_eq_getElem?_getD, List.getD_eq_getElem?_getD, List.getElem?_append_right (Nat.le_of_not_lt q)]
    rw [gD]
    rcases Nat.lt_trichotomy j D.length with q | q | q
    · rw [if_neg (Nat.ne_of_lt q), if_pos q, List.append_assoc, List.getElem?_append_left (by rw [List.length_map]; exact q), List.getElem?_map, List.getD_eq_getElem?_getD, List.getElem?_eq_getElem q]
      rfl
    · rw [if_pos q, List.append_assoc, List.getElem?_append_right (by rw [List.length_map]; omega), List.length_map, q, Nat.sub_self]
      rfl
    · rw [if_neg (Nat.ne_of_gt q), if_neg (by omega), List.getElem?_append_right (by rw [List.length_append, List.length_map]; show D.length + 1 ≤ j; omega)]
      rw [List.length_append, List.length_map]
      obtain ⟨k, rfl⟩ : ∃ k, j = D.length + 1 + k := ⟨j - (D.length + 1), by omega⟩
      have e1 : D.length + 1 + k - D.length = k + 1 := by omega
      have e2 : D.length + 1 + k - (D.length + [l].length) = k := by
        show D.length + 1 + k - (D.length + 1) = k
        omega
      have hk : k < E.length := by
        rw [List.length_append, List.length_cons] at hj
        omega
      rw [e1, e2, List.getElem?_map, List.getElem?_eq_getElem hk]
      show some (lessZ p l c ((b :: E).getD (k + 1) [])) = some (lessZ p l c E[k])
      rw [List.getD_cons_succ, List.getD_eq_getElem?_getD, List.getElem?_eq_getElem hk]
      rfl
  · rw [List.getElem?_eq_none (by rw [mid_len]; omega), List.getElem?_eq_none ?_]
    rw [List.length_append, List.length_append, List.length_map, List.length_map]
    rw [List.length_append, List.length_cons] at hj
    show D.length + 1 + E.length ≤ j
    omega
theorem rws_mem {as : List Addr} {i : Nat} {b : Addr} (h : (as.map V.ref)[i]? = some (V.ref b)) : b ∈ as := by
  rw [List.getElem?_map] at h
  obtain ⟨c, hc, e⟩ := Option.map_eq_some_iff.mp h
  cases e
  exact List.mem_of_getElem? hc
theorem rws_some {H : Hp} {as : List Addr} {T : List (List Int)} (h : Rws H as T) {b : Addr} (m : b ∈ as) : ∃ o, H b = some o := by
  induction h with
  | nil => cases m
  | cons r _ ih =>
    rcases List.mem_cons.mp m with q | q
    · rw [q]
      exact ⟨_, r⟩
    · exact ih q
section
variable {P : Program} {w : World} {K : PySem.W.Frag} {mg : Str → Option Value} {base : Heap}
def nat_ (c : Nat) : V := .int (c : Int)
def spElim : Sp := fun vs H Q _ => ∃ (p : Nat) (m : Addr) (L W : Nat) (as : List Addr) (T : List (List Int)), vs = [.int (p : Int), .ref m, .int (W : Int)] ∧ 2 ≤ p ∧ p ≤ 65537 ∧ Prm p ∧ H m = some (.lst (as.map V.ref)) ∧ Rws H as T ∧ (∀ xs ∈ T, Vc (p : Int) L xs) ∧ W ≤ L ∧ L ≤ 1000 ∧ T.length ≤ 1000 ∧
  ∀ (H' : Hp) (tb mt pv : Addr) (as' : List Addr) (D E : List (List Int)) (t : List Nat), Same H H' → H tb = none → H mt = none → H pv = none → mt ≠ pv → H' tb = some (.tup [.ref mt, .ref pv]) → H' mt = some (.lst (as'.map V.ref)) → H' pv = some (.lst (t.map nat_)) → Rws H' as' (D ++ E) → (∀ b ∈ as', H b = none) →
    (∀ [NeZero p], LinA.Way (Fin p) p L T D E t W) → (∀ c ∈ t, c < W) → D.length = t.length → D.length + E.length = T.length → Q (.ref tb) H'
end
end Vb
end L2

set_option Elab.async false
set_option linter.all false
set_option maxRecDepth 100000
set_option maxHeartbeats 4000000
/-! Vb, part 15: bases. -/
namespace L2
namespace Vb
open PySem PySem.Spec PyProof.Rows
theorem rws_take {H : Hp} {as : List Addr} {T : List (List Int)} (h : Rws H as T) (n : Nat) : Rws H (as.take n) (T.take n) := by
  induction h generalizing n with
  | nil => rw [List.take_nil, List.take_nil]; exact .nil
  | cons r _ ih =>
    cases n with
    | zero => exact .nil
    | succ n => exact .cons r (ih n)
/-- what a call of reduced leaves -/
def Reds (H : Hp) (p L : Nat) (T : List (List Int)) (H' : Hp) (d : Addr) (bs : List Addr) (B : List (List Int)) (t : List Nat) : Prop :=
  Same H H' ∧ H d = none ∧ H' d = some (.lst (bs.map V.ref)) ∧ Rws H' bs B ∧ (∀ b ∈ bs, H b = none) ∧ LinA.Bas p L T B t ∧ B.length ≤ T.length
section
variable {P : Program} {w : World} {K : PySem.W.Frag} {mg : Str → Option Value} {base : Heap}
def spBas : Sp := fun vs H Q _ => ∃ (p : Nat) (m : Addr) (L : Nat) (as : List Addr) (T : List (List Int)), vs = [.int (p : Int), .ref m] ∧ 2 ≤ p ∧ p ≤ 65537 ∧ Prm p ∧ H m = some (.lst (as.map V.ref)) ∧ Rws H as T ∧ (∀ xs ∈ T, Vc (p : Int) L xs) ∧ L ≤ 1000 ∧ T.length ≤ 1000 ∧
  ∀ (H' : Hp) (d : Addr) (bs : List Addr) (B : List (List Int)) (t : List Nat), Reds H p L T H' d bs B t → Q (.ref d) H'
def spRed : Sp := fun vs H Q _ => ∃ (p : Nat) (m : Addr) (L : Nat) (as : List Addr) (T : List (List Int)), vs = [.int (p : Int), .ref m] ∧ (p : Int) ∈ goods ∧ H m = some (.lst (as.map V.ref)) ∧ Rws H as T ∧ (∀ xs ∈ T, Vc (p : Int) L xs) ∧ L ≤ 1000 ∧ T.length ≤ 1000 ∧
  ∀ (H' : Hp) (d : Addr) (bs : List Addr) (B : List (List Int)) (t : List Nat), Reds H p L T H' d bs B t → Q (.ref d) H'
def spRank : Sp := fun vs H Q _ => ∃ (p : Nat) (m : Addr) (L : Nat) (as : List Addr) (T : List (List Int)), vs = [.int (p : Int), .ref m] ∧ (p : Int) ∈ goods ∧ H m = some (.lst (as.map V.ref)) ∧ Rws H as T ∧ (∀ xs ∈ T, Vc (p : Int) L xs) ∧ L ≤ 1000 ∧ T.length ≤ 1000 ∧
  ∀ (H' : Hp) (B : List (List Int)) (t : List Nat), Same H H' → LinA.Bas p L T B t → Q (.int (B.length : Int)) H'
end
end Vb
end L2

set_option Elab.async false
set_option linter.all false
set_option maxRecDepth 100000
set_option maxHeartbeats 4000000
/-! Vb, part 40: lists of new rows that grow; any of numbers. -/
namespace L2
namespace Vb
open PySem PySem.Spec PyProof.Rows
section
variable {X : Cx}
def rAnyI (K : PySem.W.Frag) : List V → Hp → VK → Prop := fun vs H Q => ∃ (a : Addr) (ns : List Int), vs = [V.ref a] ∧ SqL K H a (ns.map V.int) ∧ Q (.bl (ns.any fun n => decide (n ≠ 0))) H
theorem any_rangeI : ∀ ns : List Int, (List.range ns.length).any (fun i => decide (ns.getD i 0 ≠ 0)) = ns.any fun n => decide (n ≠ 0)
  | [] => rfl
  | n :: ns => by
    rw [List.length_cons, List.range_succ_eq_map, List.any_cons, List.any_map, List.any_cons, ← any_rangeI ns]
    rfl
theorem cr_anyI (hc : X.calm = true) : CallR X (.builtin "any") (rAnyI X.K) := by
  intro pins s σ H vs us Q I r h
  obtain ⟨a, ns, rfl, hs, q⟩ := h
  obtain ⟨its, rv, hl, _⟩ := I.list hs
  rw [Vals.ref1 r]
  have hi := rv.ints
  refine call_any_walk (iter_any hl.isList fun s₂ e2 st hne => ?_)
  subst e2
  refine ⟨_, _, _, _, _, _, _, rfl, Walks.list (A := X.A.in1) (I.ok.hd hc) _ a hne its.toArray, st, truth_ints hi, fun h' tk hk => ?_⟩
  refine ⟨.bl _, H, I.kept fun b o eo => hk b o (fun hmem => ?_) (Heap.get?_push_of_some _ eo), ?_, q⟩
  · rcases List.mem_cons.mp hmem with e1 | hmem
    · exact absurd (e1 ▸ Heap.lt_size eo) (Nat.lt_irrefl _)
    · cases hmem
  · show Value.bool _ = Value.bool _
    rw [← any_rangeI, List.size_toArray, hi.length]
end
theorem boot_any' : bootBuiltins ("any" : Str) = some (.builtin "any") := by decide +kernel
end Vb
end L2

set_option Elab.async false
set_option linter.all false
set_option maxRecDepth 100000
set_option maxHeartbeats 4000000
/-! Vb, part 44: what is a number, a vector, vectors: asked of any data. -/
namespace L2
namespace Vb
open PySem PySem.Spec PyProof.Rows
def cntD : PyData → Bool
  | .int i => decide (0 ≤ i)
  | _ => false
def numD (p : Int) : PyData → Bool
  | .int i => decide (0 ≤ i) && decide (i < p)
  | _ => false
def facD (p : Int) : PyData → Bool
  | .int i => (decide (0 ≤ i) && decide (i < p)) && decide (0 < i)
  | _ => false
def vecD (p : Int) : PyData → Bool
  | .list ds => ds.all (numD p)
  | _ => false
def lenD : PyData → Nat
  | .list ds => ds.length
  | _ => 0
def vecOfD (p : Int) (L : Nat) (d : PyData) : Bool := vecD p d && decide (lenD d = L)
def evenD : List PyData → Bool
  | [] => true
  | d :: ds => (d :: ds).all fun e => decide (lenD e = lenD d)
def vecsD (p : Int) : PyData → Bool
  | .list ds => ds.all (vecD p) && evenD ds
  | _ => false
def vecsOfD (p : Int) (m L : Nat) : PyData → Bool
  | .list ds => decide (ds.length = m) && ds.all (vecOfD p L)
  | _ => false
/-- lists not too long -/
def Sm1 (d : PyData) : Prop := ∀ ds, d = .list ds → ds.length ≤ 900
def Sm2 (d : PyData) : Prop := ∀ ds, d = .list ds → ds.length ≤ 900 ∧ ∀ e ∈ ds, Sm1 e
theorem paired_at {α β : Type} {R : α → β → Prop} {xs : List α} {ds : List β} (h : Paired R xs ds) : ∀ {k : Nat} {x : α}, xs[k]? = some x → ∃ d, ds[k]? = some d ∧ R x d := by
  induction h with
  | nil =>
    intro k x e
    cases e
  | cons r _ ih =>
    intro k x e
    cases k with
    | zero =>
      cases e
      exact ⟨_, rfl, r⟩
    | succ k => exact ih e
theorem paired_len {α β : Type} {R : α → β → Prop} {xs : List α} {ds : List β} (h : Paired R xs ds) : xs.length = ds.length := by
  induction h with
  | nil => rfl
  | cons _ _ ih => exact congrArg (· + 1) ih
theorem vecD_list {p : Int} {d : PyData} (h : vecD p d = true) : ∃ ds, d = .list ds := by
  cases d with
  | list ds => exact ⟨ds, rfl⟩
  | _ => cases h
theorem all_map_id (f : PyData → Bool) (ds : List PyData) : (ds.map f).all id = ds.all f := by
  rw [List.all_map]
  rfl
section
variable {P : Program} {w : World} {K : PySem.W.Frag} {mg : Str → Option Value} {base : Heap}
def spCountD : Sp := fun vs H Q _ => ∃ (v : V) (d : PyData) (n : Nat), vs = [v] ∧ Sho n H v d ∧ Q (.bl (cntD d)) H
theorem ok_countD {f : Addr} {fd : FuncData} (F : Fun K "is_count" "is_count" sCount f fd) (gT : mg "type" = none) (gI : mg "int" = none) : FnOk P w K mg base CX0 1 f fd ["value"] spCountD := by
  refine F.ok scCount (fun vs H Q E h => ?_) (fun cdv A outer s H vs Q E hr h => ?_)
  · obtain ⟨v, d, n, rfl, _⟩ := h
    rfl
  · obtain ⟨v, d, n, rfl, sh, want⟩ := h
    refine ⟨_, pss_one (ps_ret (pe_and (pe_cmpR op_isTy (pe_typeD rfl gT (pv 0)) (pe_bltn rfl gI boot_int rel_int) (nomark _)) (pe_one (pe_cmpR op_ge (pv 0) pe_int (nomark _))))), ?_⟩
    refine ⟨_, rfl, _, sh.ty, _, _, rfl, rfl, _, rfl, ?_⟩
    cases d with
    | int i =>
      rw [sh.ofInt]
      exact iteT ⟨_, rfl, _, _, rfl, rfl, want⟩
    | none => exact iteF want
    | bool b => exact iteF want
    | str b => exact iteF want
    | list b => exact iteF want
    | tuple b => exact iteF want
    | dict b => exact iteF want
def spNumD : Sp := fun vs H Q _ => ∃ (p : Int) (v : V) (d : PyData) (n : Nat), vs = [.int p, v] ∧ Sho n H v d ∧ Q (.bl (numD p d)) H
def spFacD : Sp := fun vs H Q _ => ∃ (p : Int) (v : V) (d : PyData) (n : Nat), vs = [.int p, v] ∧ Sho n H v d ∧ Q (.bl (facD p d)) H
def spVecD : Sp := fun vs H Q _ => ∃ (p : Int) (v : V) (d : PyData) (n : Nat), vs = [.int p, v] ∧ Sho n H v d ∧ Sm1 d ∧ ∀ H', Same H H' → Q (.bl (vecD p d)) H'
def spVecOfD : Sp := fun vs H Q _ => ∃ (p : Int) (v : V) (d : PyData) (n L : Nat), vs = [.int p, v, .int (L : Int)] ∧ Sho n H v d ∧ Sm1 d ∧ ∀ H', Same H H' → Q (.bl (vecOfD p L d)) H'
theorem sho_vec {p : Int} {n : Nat} {H : Hp} {v : V} {d : PyData} (sh : Sho n H v d) (h : vecD p d = true) : ∃ b xs, v = .ref b ∧ H b = some (.lst xs) ∧ xs.length = lenD d := by
  obtain ⟨ds, rfl⟩ := vecD_list h
  obtain ⟨m, b, xs, _, e, hb, prs⟩ := sh.ofList
  exact ⟨b, xs, e, hb, paired_len prs⟩
def spVecsD : Sp := fun vs H Q _ => ∃ (p : Int) (v : V) (d : PyData) (n : Nat), vs = [.int p, v] ∧ Sho n H v d ∧ Sm2 d ∧ ∀ H', Same H H' → Q (.bl (vecsD p d)) H'
def spVecsOfD : Sp := fun vs H Q _ => ∃ (p : Int) (v : V) (d : PyData) (n m L : Nat), vs = [.int p, v, .int (m : Int), .int (L : Int)] ∧ Sho n H v d ∧ Sm2 d ∧ ∀ H', Same H H' → Q (.bl (vecsOfD p m L d)) H'
end
end Vb
end L2

set_option Elab.async false
set_option linter.all false
set_option maxRecDepth 100000
set_option maxHeartbeats 4000000
/-! Eo, part 1: an own error class over ValueError with an own __init__, called with one keyword. -/
namespace EoM
open PySem PySem.W PySem.Calls PyProof.Rows PySem.HandSPX
section
variable {M : Model} {A : Around} {E : Value → Shared → Prop} {hh : Heap} {gg : Array GenState} {dd : Drawn} {tk : Nat} {oo : OsState}
variable {nm qn : Str} {C N : Addr} {bs bm : List Value} {sn : List Str} {sub : List Value} {ab : Bool} {col : Option Bool} {dc : Option Addr} {k0 k1 k2 k3 k5 : Option Value}
/-- the class object of such a class -/
abbrev ErrObj (nm qn : Str) (C N : Addr) (bs bm : List Value) (sn : List Str) (sub : List Value) (ab : Bool) (col : Option Bool) (dc : Option Addr) (k0 k1 k2 k3 k5 : Option Value) : Obj :=
  excClassObj nm qn C N bs bm true sn sub ab col dc k0 k1 k2 k3 k5 "ValueError.__new__"
theorem mro_ve (hb : refsVE bm = true) (X : String) : bm.contains (.type X) = veTail.contains (.type X) := refsVE_contains X bm hb
theorem kwcheck {name : Str} {v : Value} {Q : Unit → Shared → Prop} (hb : refsVE bm = true) (hC : hh.get? C = some (ErrObj nm qn C N bs bm sn sub ab col dc k0 k1 k2 k3 k5)) (fin : Q () ⟨hh, gg, dd, tk, oo⟩) :
    wpAny M A (checkBuiltinCall "ValueError.__new__" ⟨[.ref C], [(name, v)]⟩) Q E ⟨hh, gg, dd, tk, oo⟩ := by
  have F := F.excBase_ValueError
  have isVE : (Value.ref C :: bm).contains (.type "ValueError") = true := by rw [List.contains_cons, mro_ve hb]; rfl
  simp only [checkBuiltinCall, F.newKind, F.newSplit, F.newRow]
  repeat (first | refine wpAny_loadPart_at hC ?_ | (refine wpAny_isSubtype_exc hC ?_; rw [isVE]) | refine wpAny_staticBase_exc hC ?_ | refine wpAny_madeBy_exc hC ?_ | simp only [bne_self_eq_false, Bool.false_eq_true, if_false] | wp_step)
  exact fin
end
section
variable {prog : Program} {w : World} {A : Around} {E : Value → Shared → Prop} {R : Result → Shared → Prop} {hh : Heap} {gg : Array GenState} {dd : Drawn} {tk : Nat} {oo : OsState}
variable {nm qn : Str} {C N : Addr} {bs bm : List Value} {sn : List Str} {sub : List Value} {ab : Bool} {col : Option Bool} {dc : Option Addr} {k0 k1 k2 k3 k5 : Option Value}
/-- the heap with a fresh error of the class at C behind it -/
abbrev withErr (hh : Heap) (C : Addr) : Heap := (hh.push (W.kdv_tup [])).push (excO C hh.objs.size)
theorem kwnew {name : Str} {v : Value} (hb : refsVE bm = true) (hC : hh.get? C = some (ErrObj nm qn C N bs bm sn sub ab col dc k0 k1 k2 k3 k5))
    (fin : R (.ok (.ret (.ref (hh.objs.size + 1)))) ⟨withErr hh C, gg, dd, tk, oo⟩) : codeAny (model prog w) A (.builtin "ValueError.__new__" ⟨[.ref C], [(name, v)]⟩) R ⟨hh, gg, dd, tk, oo⟩ := by
  have F := F.excBase_ValueError
  have ends := F.ends
  have isVE : (Value.ref C :: bm).contains (.type "ValueError") = true := by rw [List.contains_cons, mro_ve hb]; rfl
  have noA : (Value.ref C :: bm).contains (.type "AttributeError") = false := by rw [List.contains_cons, mro_ve hb]; rfl
  have noN : (Value.ref C :: bm).contains (.type "NameError") = false := by rw [List.contains_cons, mro_ve hb]; rfl
  have room : ([] : List Value).length ≤ sizeLine := Nat.zero_le _
  refine codeAny_builtinAt F.entry ?_
  unfold Builtin.«BaseException.__new__»
  refine PySem.wpAt_bind ?_
  show PySem.wpAt _ _ _ (stack >>= _) _ _ _
  refine PySem.wpAt_bind (PySem.wpAt_stack fun p below => PySem.wpAt_of_wpAny ?_)
  wp_walk
  refine PySem.wpAt_of_wpAny ?_
  rw [F.owner]
  repeat (first | with_reducible refine wpAny_madeHere_exc F.canon hC ?_ | with_reducible refine wpAny_loadPart_at hC ?_ | (with_reducible refine wpAny_isSubtype_exc hC ?_; first | rw [isVE] | rw [noA] | rw [noN]) | wp_step)
  show R _ _
  rw [Heap.size_push]
  exact fin
theorem kwtype {name : Str} {v : Value} {fI : Addr} {Q : Fin → Shared → Prop} (hb : refsVE bm = true) (hC : hh.get? C = some (ErrObj nm qn C N bs bm sn sub ab col dc k0 k1 k2 k3 k5))
    (hi : W.Looks (model prog w) hh (typeLookup (.ref C) "__init__") (some (.ref fI))) (hs : ∀ self, W.Looks (model prog w) hh (bindSpecial (.ref fI) self) (.ref fI, [self]))
    (fin : codeAny (model prog w) A (.call (.ref fI) ⟨[.ref (hh.objs.size + 1)], [(name, v)]⟩)
      (fun r s' => match r with | .ok (.ret u) => u = .none ∧ Q (.done (.ret (.ref (hh.objs.size + 1)))) s' | .ok _ => False | .error e => E e s') ⟨withErr hh C, gg, dd, tk, oo⟩) :
    wpAny (model prog w) A (Builtin.«type.__call__» ⟨[.ref C], [(name, v)]⟩) Q E ⟨hh, gg, dd, tk, oo⟩ := by
  repeat (first | with_reducible refine wpAny_loadPart_at hC ?_ | with_reducible refine wpAny_madeBy_exc hC ?_ | wp_step)
  refine codeAny_call_builtin_code (Code.quiet_builtin _ F.excBase_ValueError.quiet) (kwcheck hb hC ?_)
  refine kwnew hb hC ?_
  show wpAny _ _ _ _ _ _
  have old : ∀ b o, hh.get? b = some o → (withErr hh C).get? b = some o := fun b o e => Heap.get?_push_of_some _ (Heap.get?_push_of_some _ e)
  have atC := old _ _ hC
  have atE : (withErr hh C).get? (hh.objs.size + 1) = some (excO C hh.objs.size) := by heap_get
  have self_in : (Value.ref C :: bm).contains (.ref C) = true := by simp
  have lk := hi.keeps old
  have bd := (hs (.ref (hh.objs.size + 1))).keeps old
  unfold isInstance
  repeat (first | with_reducible refine wpAny_loadPart_at atE ?_ | (with_reducible refine wpAny_isSubtype_exc atC ?_; rw [self_in]) | wp_step)
  show wpAny _ _ (typeLookup (.ref C) _) _ _ _
  refine lk.at ?_
  refine wpAny_holding (wpAny_bind (bd.at ?_))
  refine wpAny_bind (wpAny_call (codeAny_mono fin fun r s' z => ?_))
  rcases r with e | (u | _ | _ | _) <;> first | exact z | exact z.elim | skip
  obtain ⟨rfl, z⟩ := z
  first
    | exact wpAny_pure (wpAny_pure z)
    | (wp_walk; exact z)
theorem kwcall {name : Str} {v : Value} {fI : Addr} (hb : refsVE bm = true) (hC : hh.get? C = some (ErrObj nm qn C N bs bm sn sub ab col dc k0 k1 k2 k3 k5))
    (hi : W.Looks (model prog w) hh (typeLookup (.ref C) "__init__") (some (.ref fI))) (hs : ∀ self, W.Looks (model prog w) hh (bindSpecial (.ref fI) self) (.ref fI, [self]))
    (fin : codeAny (model prog w) (A.under (.builtin "type.__call__" ⟨[.ref C], [(name, v)]⟩)) (.call (.ref fI) ⟨[.ref (hh.objs.size + 1)], [(name, v)]⟩) (W.InitBack (hh.objs.size + 1) R) ⟨withErr hh C, gg, dd, tk, oo⟩) :
    codeAny (model prog w) A (.call (.ref C) ⟨[], [(name, v)]⟩) R ⟨hh, gg, dd, tk, oo⟩ := by
  have f1 := tc_lookup
  have f2 := tc_bind (.ref C)
  have ty : (⟨hh, gg, dd, tk, oo⟩ : Shared).TypeIs (.ref C) "type" := ⟨_, hC, rfl⟩
  refine codeAny_of_tree ?_
  show wpAny _ _ (callAny (.ref C) _) _ _ _
  repeat (any_goals (first | assumption | with_reducible refine wpAny_loadPart_at hC ?_ | wp_step))
  refine ⟨rfl, ?_⟩
  refine codeAny_call_builtin_at (Code.quiet_builtin _ (by decide +kernel)) entry_typeCall (wpAny_check_type_call_sub hC (kwtype hb hC hi hs ?_))
  refine codeAny_mono fin fun r s' z => ?_
  rcases r with e | (u | _ | _ | _) <;> exact z
end
end EoM

set_option Elab.async false
set_option linter.all false
set_option maxRecDepth 100000
set_option maxHeartbeats 4000000
/-! Eo, part 2: errors with a field, made and kept. -/
namespace L2
namespace Eo
open PySem PySem.Spec PyProof.Rows
/-- the heap with an error of the class at C: its object at a, its dict at d -/
def errH (H : Hp) (a d C : Addr) (v : V) : Hp := upd (upd H d (exd d [(("value" : Str), v)])) a (exo a C (some d))
/-- what the written part says of a class of errors with a field -/
structure ErC (K : PySem.W.Frag) (C fI : Addr) : Prop where
  ox : OexC K C
  iC : PySem.W.findIn K (.ref C) "__init__" = some (some (.ref fI))
  tI : PySem.W.typeIn K (.ref fI) = some (.type "function")
  noV : PySem.W.findIn K (.ref C) "value" = some none
def spInit (C : Addr) : Sp := fun vs H Q _ => ∃ (a : Addr) (v : V), vs = [.ref a, v] ∧ H a = some (exo a C none) ∧ ∀ d, H d = none → d ≠ a → Q .non (errH H a d C v)
section
variable {X : Cx} {pins : List (Addr × Obj)} {σ : St} {H : Hp} {s : Shared} {C fI : Addr} {fd : FuncData} {ps : List Str} {k : Nat} {Q : VK}
theorem err_end {hp : Heap} {g : Array GenState} {dr : Drawn} {tk : Nat} {os : OsState} {us : List Value} {kw : List (Str × Value)} {us' : List Value} {v : V}
    (F1 : FnOk X.prog X.w X.K X.mg X.base CX0 k fI fd ps (spInit C)) (hr : Room (k + 1) X.A) (I : Inv X pins σ H ⟨hp, g, dr, tk, os⟩)
    (atE : ((hp.push (PySem.W.kdv_tup us)).push (PySem.HandSPX.excO C hp.objs.size)).get? (hp.objs.size + 1) = some (PySem.HandSPX.excO C hp.objs.size))
    (hb : ∀ s' : Shared, X.K.In s'.heap → BindsTo s' fd ⟨.ref (hp.objs.size + 1) :: us, kw⟩ (ps.zip us')) (rv : Vals [V.ref (hp.objs.size + 1), v] us')
    (h : ∀ a d, H a = none → H d = none → d ≠ a → Q (.ref a) (errH H a d C v)) :
    codeAny (model X.prog X.w) (X.A.under (.builtin "type.__call__" ⟨.ref C :: us, kw⟩)) (.call (.ref fI) ⟨.ref (hp.objs.size + 1) :: us, kw⟩)
      (PySem.W.InitBack (hp.objs.size + 1) (fun r s' => match r with | .ok (.ret u) => EP X pins σ Q u s' | .ok _ => False | .error e => X.xe e s'))
      ⟨(hp.push (PySem.W.kdv_tup us)).push (PySem.HandSPX.excO C hp.objs.size), g, dr, tk, os⟩ := by
  have le : hp.objs.size ≤ hp.objs.size + 1 := Nat.le_succ _
  have fr : H (hp.objs.size + 1) = none := I.hok.fresh le
  have old : ∀ b o, hp.get? b = some o → ((hp.push (PySem.W.kdv_tup us)).push (PySem.HandSPX.excO C hp.objs.size)).get? b = some o := fun b o e => Heap.get?_push_of_some _ (Heap.get?_push_of_some _ e)
  have J : Inv X pins σ (upd H (hp.objs.size + 1) (exo (hp.objs.size + 1) C none)) ⟨(hp.push (PySem.W.kdv_tup us)).push (PySem.HandSPX.excO C hp.objs.size), g, dr, tk, os⟩ :=
    I.laid (t' := tk) (a := hp.objs.size + 1) (o := exo (hp.objs.size + 1) C none) old le (exo_ok atE)
  refine codeAny_mono (F1.run _ X.stack _ _ _ us' [V.ref (hp.objs.size + 1), v] (fun u H2 => u = .non ∧ Q (.ref (hp.objs.size + 1)) H2) (fun _ _ _ => False) (hr.make C us kw) (J.env0.make C us kw) (hb _ J.kIn) rv ?_) fun r s' z => ?_
  · refine ⟨_, v, rfl, upd_same, fun d nd ne => ⟨rfl, ?_⟩⟩
    have nd' : H d = none := by
      rw [upd_ne ne] at nd
      exact nd
    have e : errH (upd H (hp.objs.size + 1) (exo (hp.objs.size + 1) C none)) (hp.objs.size + 1) d C v = errH H (hp.objs.size + 1) d C v := by
      funext b
      unfold errH upd
      by_cases q : b = hp.objs.size + 1
      · simp [q]
      · simp [q]
    rw [e]
    exact h _ d fr nd' ne
  · cases r with
    | error e => exact False.elim z
    | ok fl =>
      cases fl with
      | ret u =>
        obtain ⟨v2, H2, J2, r2, e2, q2⟩ := J.after z
        subst e2
        exact ⟨r2, V.ref (hp.objs.size + 1), H2, J2, rfl, q2⟩
      | next => exact False.elim z
      | brk => exact False.elim z
      | cont => exact False.elim z
/-- C(..) with positional arguments, defaults behind them -/
theorem run_errP {us : List Value} {vs dvs : List V} {ds : List Value} {v : V} (T : ErC X.K C fI) (F1 : FnOk X.prog X.w X.K X.mg X.base CX0 k fI fd ps (spInit C)) (hr : Room (k + 1) X.A) (hb : Binds X.K fd ps ds) (hd : Vals dvs ds)
    (I : Inv X pins σ H s) (r : Vals vs us) (hv : vs ++ dvs = [v]) (hl : ps.length = 2) (h : ∀ a d, H a = none → H d = none → d ≠ a → Q (.ref a) (errH H a d C v)) :
    wpAny (model X.prog X.w) X.A (call (.ref C) us) (EP X pins σ Q) X.xe s := by
  obtain ⟨nm, q, N, bs, bm, sn, sub, ab, col, dc, k0, k1, k2, k3, k5, hC, hbm⟩ := T.ox.cls
  obtain ⟨hp, g, dr, tk, os⟩ := s
  have at1 : ((hp.push (PySem.W.kdv_tup us)).push (PySem.HandSPX.excO C hp.objs.size)).get? (hp.objs.size + 1) = some (PySem.HandSPX.excO C hp.objs.size) := by heap_get
  have r2 : Vals [V.ref (hp.objs.size + 1), v] (Value.ref (hp.objs.size + 1) :: (us ++ ds)) := .cons rfl (by rw [← hv]; exact r.append hd)
  have len2 : (Value.ref (hp.objs.size + 1) :: us ++ ds).length = ps.length := by
    rw [hl]
    exact r2.length.symm
  have lu : us.length ≤ sizeLine := by
    have z := r2.length
    simp only [List.length_cons, List.length_append, List.length_nil] at z
    have z2 : us.length ≤ 1 := by omega
    exact Nat.le_trans z2 (by rw [sizeLine_eq]; decide)
  exact wpAny_call (PySem.HandSPX.call_own F.excBase_ValueError (EoM.mro_ve hbm) (I.kIn _ _ hC) (PySem.W.looks_findIn I.kIn T.iC) (fun self => PySem.W.bind_fn I.kIn self T.tI) lu
    (codeAny_mono (err_end (us := us) (kw := []) F1 hr I at1 (fun s' X' => hb s' _ X' len2) r2 h) fun r s' z => by
      rcases r with e | (u | _ | _ | _) <;> exact z))
/-- C(value=..) -/
theorem run_errK {u : Value} {v : V} {g2 : List Value → List Value → List Value} {gV : List V → List V → List V} (T : ErC X.K C fI) (F1 : FnOk X.prog X.w X.K X.mg X.base CX0 k fI fd ps (spInit C)) (hr : Room (k + 1) X.A) (hb : KBn X.K fd ps 1 ["value"] g2 gV)
    (I : Inv X pins σ H s) (r : RelV v u) (hg : ∀ x y, gV [x] [y] = [x, y]) (h : ∀ a d, H a = none → H d = none → d ≠ a → Q (.ref a) (errH H a d C v)) :
    wpAny (model X.prog X.w) X.A (call (.ref C) [] [(("value" : Str), u)]) (EP X pins σ Q) X.xe s := by
  obtain ⟨nm, q, N, bs, bm, sn, sub, ab, col, dc, k0, k1, k2, k3, k5, hC, hbm⟩ := T.ox.cls
  obtain ⟨hp, g, dr, tk, os⟩ := s
  have at1 : ((hp.push (PySem.W.kdv_tup [])).push (PySem.HandSPX.excO C hp.objs.size)).get? (hp.objs.size + 1) = some (PySem.HandSPX.excO C hp.objs.size) := by heap_get
  have r2 : Vals [V.ref (hp.objs.size + 1), v] (g2 [Value.ref (hp.objs.size + 1)] [u]) := by
    have z := hb.rel (vs := [V.ref (hp.objs.size + 1)]) (us := [Value.ref (hp.objs.size + 1)]) (zs := [v]) (ws := [u]) (.cons rfl .nil) (.cons r .nil)
    rw [hg] at z
    exact z
  exact wpAny_call (EoM.kwcall hbm (I.kIn _ _ hC) (PySem.W.looks_findIn I.kIn T.iC) (fun self => PySem.W.bind_fn I.kIn self T.tI)
    (codeAny_mono (err_end (us := []) (kw := [(("value" : Str), u)]) F1 hr I at1 (fun s' X' => hb.to s' [_] [u] X' rfl rfl) r2 h) fun r s' z => by
      rcases r with e | (u | _ | _ | _) <;> exact z))
end
/-! ### the three calls as expressions -/
/-- what is wanted of a list of one argument -/
def one1 (F : V → Hp → Prop) : List V → Hp → Prop
  | [v], H => F v H
  | _, _ => False
theorem one1_of {F : V → Hp → Prop} : ∀ {vs : List V} {H : Hp}, one1 F vs H → ∃ v, vs = [v] ∧ F v H
  | [v], _, h => ⟨v, rfl, h⟩
  | [], _, h => h.elim
  | _ :: _ :: _, _, h => h.elim
def tErr (C : Addr) (te : TE) : TE := fun σ H Q => te σ H fun v H1 => ∀ a d, H1 a = none → H1 d = none → d ≠ a → Q (.ref a) (errH H1 a d C v)
def tErr0 (C : Addr) : TE := fun _ H Q => ∀ a d, H a = none → H d = none → d ≠ a → Q (.ref a) (errH H a d C .non)
section
variable {X : Cx} {C fI : Addr} {fd : FuncData} {ps : List Str} {k : Nat} {x : Str} {p pos kp : Pos} {e : Expr} {te : TE} {ds : List Value}
theorem pe_errP (T : ErC X.K C fI) (F1 : FnOk X.prog X.w X.K X.mg X.base CX0 k fI fd ps (spInit C)) (hr : Room (k + 1) X.A) (hb : Binds X.K fd ps []) (hl : ps.length = 2) (hg : Gl X x) (hm : X.mg x = some (.ref C)) (he : PE X e te)
    (hdb : (x == ("__debug__" : Str)) = false := by decide) (hs : starEach [e] X.env = (false, eval e X.env) :: starEach [] X.env := by rfl) (hpl : (backTo pos (starEach [] X.env)).any (·.1) = false := by rfl) :
    PE X (.Call (.Name x p) [e] [] pos) (tErr C te) := by
  refine ⟨fun pins s σ H Q I h => ?_⟩
  refine wpAny_Call_Name_kw (ld_glob I hg hm ?_ hdb)
  refine PySem.W.callWith_K (h₀ := X.base) I.ok.mod.kin T.ox.kC (thn ((pa_cons he pa_nil hs).run pos pins s σ H (one1 fun v H1 => ∀ a d, H1 a = none → H1 d = none → d ≠ a → Q (.ref a) (errH H1 a d C v)) I h) fun us s1 ⟨vs, H1, I1, r, q⟩ => ⟨I1.kIn, ?_⟩) hs hpl
  obtain ⟨v, rfl, q⟩ := one1_of q
  exact run_errP (dvs := []) T F1 hr hb .nil I1 r (List.append_nil _) hl q
theorem pe_err0 (T : ErC X.K C fI) (F1 : FnOk X.prog X.w X.K X.mg X.base CX0 k fI fd ps (spInit C)) (hr : Room (k + 1) X.A) (hb : Binds X.K fd ps ds) (hd : Vals [V.non] ds) (hl : ps.length = 2) (hg : Gl X x) (hm : X.mg x = some (.ref C))
    (hdb : (x == ("__debug__" : Str)) = false := by decide) : PE X (.Call (.Name x p) [] [] pos) (tErr0 C) := by
  refine ⟨fun pins s σ H Q I h => ?_⟩
  refine wpAny_Call_Name_kw (ld_glob I hg hm ?_ hdb)
  exact PySem.W.callWith_K0 I.kIn T.ox.kC (run_errP (us := []) (vs := []) T F1 hr hb hd I .nil rfl hl h)
theorem pe_errK {g2 : List Value → List Value → List Value} {gV : List V → List V → List V} (T : ErC X.K C fI) (F1 : FnOk X.prog X.w X.K X.mg X.base CX0 k fI fd ps (spInit C)) (hr : Room (k + 1) X.A) (hb : KBn X.K fd ps 1 ["value"] g2 gV)
    (hgV : ∀ x y, gV [x] [y] = [x, y]) (hg : Gl X x) (hm : X.mg x = some (.ref C)) (he : PE X e te) (hdb : (x == ("__debug__" : Str)) = false := by decide) :
    PE X (.Call (.Name x p) [] [⟨some "value", e, kp⟩] pos) (tErr C te) := by
  refine ⟨fun pins s σ H Q I h => ?_⟩
  refine wpAny_Call_Name_kw (ld_glob I hg hm ?_ hdb)
  refine PySem.W.callWith_KW0 (h₀ := X.base) I.ok.mod.kin T.ox.kC (by rfl) (thn ((pk_cons he pk_nil).run pos pins s σ H (one1 fun v H1 => ∀ a d, H1 a = none → H1 d = none → d ≠ a → Q (.ref a) (errH H1 a d C v)) I h) fun us s1 ⟨vs, H1, I1, r, q⟩ => ⟨I1.kIn, ?_⟩) (by rfl)
  obtain ⟨v, rfl, q⟩ := one1_of q
  cases r with
  | cons r1 r2 =>
    cases r2
    exact run_errK T F1 hr hb I1 r1 hgV q
end
end Eo
end L2

set_option Elab.async false
set_option linter.all false
set_option maxRecDepth 100000
set_option maxHeartbeats 4000000
/-! Eo, part 3: isinstance of errors that are kept, with a dict of their own or without; their fields. -/
namespace EoM
open PySem PySem.Spec PySem.Calls PyProof.Rows PySem.W
section
variable {prog : Program} {w : World} {A : Around} {E : Value → Shared → Prop} {s : Shared} {K : Frag} {x C : Addr} {ox : Obj} {od : Option Obj}
/-- what the written part says of a class of errors, so that its objects are asked rightly -/
structure ErA (K : Frag) (C : Addr) : Prop where
  ga : findIn K (.ref C) "__getattribute__" = some (some (.builtin "BaseException.__getattribute__"))
  gt : findIn K (.ref C) "__getattr__" = some none
  sub : subIn K (.ref C) (.type "BaseException") = some true
  dct : hasDictIn K C = true
  cl : findIn K (.ref C) "__class__" = some (some (.builtin "object.__class__"))
  ob : mroIn K C (.type "object") = some true
theorem cls_get : specialIn K (.builtin "object.__class__") "__get__" = some (some (.builtin "getset_descriptor.__get__")) := by first | rfl | kernel_rfl
theorem cls_takes : takesIn K (.builtin "object.__class__") = some true := by first | rfl | kernel_rfl
theorem cls_found (T : ErA K C) : findObj K C od "__class__" = some (.bind (.builtin "getset_descriptor.__get__") (.builtin "object.__class__")) := by
  obtain ⟨cd, hc, _⟩ := any_some T.dct
  unfold findObj
  rw [hc, Option.bind_some, T.cl, Option.bind_some]
  simp [cls_get, cls_takes]
theorem class_of {Q : Option Value → Shared → Prop} (T : ErA K C) (X : K.In s.heap) (I : InstAt s.heap x ox C od) (fin : Q (some (.ref C)) { s with toks := s.toks + 1 }) : wpAny (model prog w) A (getAttr? (.ref x) "__class__") Q E s := by
  have found := cls_found (od := od) T
  obtain ⟨hp, g, d, t, os⟩ := s
  have ty := I.type (M := model prog w)
  have l1 := looks_findIn (M := model prog w) X T.ga
  have l2 := looks_findIn (M := model prog w) X T.gt
  have l3 := looks_find (M := model prog w) X I found
  have isB : Looks (model prog w) hp (isInstance (.ref x) (.type "BaseException")) true := ty.andThen (looks_subIn X T.sub)
  have n0 : (false && onTheHeap (Value.builtin "BaseException.__getattribute__")) = false := rfl
  have n2 : (Value.builtin "BaseException.__getattribute__" == Value.builtin "object.__getattribute__") = false := by decide +kernel
  have n1 : (onTheHeap (Value.ref C) && Value.builtin "BaseException.__getattribute__" == Value.builtin "object.__getattribute__") = false := by rw [n2]; rfl
  unfold getAttr? getAttrBy? getAttrBy
  refine wpAny_bind (wpAny_mkText (wpAny_bind (wpAny_attempt (wpAny_holding (wpAny_bind (ty.at (wpAny_bind (l1.at ?_))))))))
  show wpAny _ _ (if (onTheHeap (Value.ref C) && Value.builtin "BaseException.__getattribute__" == Value.builtin "object.__getattribute__") = true then _ else _) _ _ _
  rw [n1, if_neg Bool.false_ne_true]
  unfold getAttrByItsOwn hookBefore
  refine wpAny_bind ?_
  rw [if_pos (show onTheHeap (Value.ref C) = true from rfl)]
  refine l2.at ?_
  refine wpAny_bind (wpAny_attempt (wpAny_holding ?_))
  unfold callGetattribute
  rw [n0, if_neg Bool.false_ne_true]
  unfold boundAndCalled
  rw [PySem.F.excAttr_ValueError.ga.bind (.ref x)]
  refine wpAny_bind (wpAny_pure ?_)
  show wpAny _ _ (call (.builtin "BaseException.__getattribute__") [.ref x, .str "__class__" t]) _ _ _
  refine wpAny_call (codeAny_call_builtin PySem.F.excAttr_ValueError.ga.plain PySem.F.entry_bexc_ga ?_)
  refine @check_slot (model prog w) _ _ ⟨hp, g, d, t + 1, os⟩ "BaseException.__getattribute__" "BaseException" "__getattribute__" (.ref x) [.str "__class__" t] [] _ (by decide +kernel) (by decide +kernel) isB (PySem.F.args_bexc_ga (.ref x) (.str "__class__" t)) ?_
  unfold Builtin.«object.__getattribute__»
  refine wpAny_bind (wpAny_of_eq (a := ((Value.ref x : Value), [Value.str "__class__" t])) (by first | rfl | (simp only [slotArgs]; rfl)) ?_)
  refine wpAny_bind (wpAny_pure (wpAny_bind (ty.at (wpAny_bind (l3.at ?_)))))
  show wpAny _ _ (holding [Value.builtin "object.__class__"] (call (.builtin "getset_descriptor.__get__") [.builtin "object.__class__", .ref x, .ref C]) >>= ret) _ _ _
  refine wpAny_bind (wpAny_holding (wpAny_call (class_get (s := ⟨hp, g, d, t + 1, os⟩) (ox := ox) (od := od) X I T.ob ?_)))
  refine wpAny_pure ?_
  show wpAny _ _ (handedOut (.ref C)) _ _ _
  rw [handedOut_of (v := .ref C) rfl]
  first
    | exact wpAny_pure (wpAny_pure fin)
    | exact wpAny_pure fin
    | exact wpAny_pure (wpAny_bind (wpAny_pure (wpAny_pure fin)))
theorem kit_err (T : ErA K C) : KitX K (.ref x) (.ref C) (fun h => InstAt h x ox C od) where
  ty := fun _ _ _ I => I.type
  it := fun _ _ X _ => by
    obtain ⟨cd, hc, _⟩ := any_some T.dct
    unfold clsIn at hc
    split at hc
    · rename_i c' d' cd' sl' ho
      intro A' Q' E' s' k q
      unfold isType loadHead
      exact wpAny_bind (wpAny_loadPart (k _ _ (X _ _ ho)) (wpAny_pure q))
    · cases hc
  ne := fun h tp dd its n sl X htp => by
    obtain ⟨cd, hc, _⟩ := any_some T.dct
    refine Bool.eq_false_iff.mpr fun q => ?_
    have e : C = tp := Value.ref.inj (beq_iff_eq.mp q)
    subst e
    unfold clsIn at hc
    split at hc
    · rename_i c' d' cd' sl' ho
      have z := (X _ _ ho).symm.trans htp
      cases z
    · cases hc
  ca := fun X I k => class_of T X I k
end
end EoM
namespace L2
namespace Eo
open PySem PySem.Spec PyProof.Rows
/-- at a: an error of the class at C, with a field or bare -/
def ErrAt (H : Hp) (a C : Addr) : Prop := (∃ d v, H a = some (exo a C (some d)) ∧ H d = some (exd d [(("value" : Str), v)])) ∨ H a = some (ExO (.ref C) a)
theorem inst_of {P : Program} {w : World} {H : Hp} {h : Heap} {a C : Addr} (ok : HOk P w H h) (e : ErrAt H a C) : ∃ ox od, PySem.W.InstAt h a ox C od := by
  rcases e with ⟨d, v, ea, ed⟩ | ea
  · obtain ⟨t1, ho⟩ := exo_at ok ea
    obtain ⟨mA, ⟨oD, _, _, hd, _⟩, _⟩ := exd_at ok ed
    exact ⟨_, some oD, ho, rfl, rfl, hd⟩
  · obtain ⟨⟨oe, vs, ho, ⟨hz1, hz2⟩, hdt, _⟩, _, _⟩ := ok a _ ea
    obtain ⟨oc, odd, oda, osl⟩ := oe
    dsimp only at hz1 hz2 hdt
    subst hz1 hz2 hdt
    exact ⟨_, none, ho, rfl, rfl, trivial⟩
/-- isinstance(e, c) of such an error -/
def rIsErr (K : PySem.W.Frag) : List V → Hp → VK → Prop := fun xs H Q => ∃ (a C : Addr) (c : V) (cv : Value) (b : Bool), xs = [.ref a, c] ∧ EoM.ErA K C ∧ ErrAt H a C ∧ ClsV c cv ∧ PySem.W.kitOne K (.ref C) cv = some b ∧ Q (.bl b) H
theorem call_isErr {X : Cx} : CallR X (.builtin "isinstance") (rIsErr X.K) := by
  intro pins s σ H xs us Q I r h
  obtain ⟨a, C, c, cv, b, rfl, T, ea, k, e, q⟩ := h
  obtain ⟨u1, u2, rfl, r1, r2⟩ := vals2 r
  have e2 := k.eq r2
  subst e2
  cases (show u1 = Value.ref a from r1)
  obtain ⟨ox, od, J⟩ := inst_of I.hok ea
  exact PySem.W.kia_one (EoM.kit_err T) I.kIn J e (fun z => nomatch z) fun tk => ⟨.bl b, H, I.tok tk, rfl, q⟩
/-- e.value -/
def tVal (K : PySem.W.Frag) (te : TE) : TE := fun σ H Q => te σ H fun x H1 => ∃ (a C d : Addr) (v : V), x = .ref a ∧ EoM.ErA K C ∧ PySem.W.findIn K (.ref C) "value" = some none ∧ H1 a = some (exo a C (some d)) ∧ H1 d = some (exd d [(("value" : Str), v)]) ∧ Q v H1
theorem pe_val {X : Cx} {e : Expr} {te : TE} {pos : Pos} (he : PE X e te) (hb : attributeBase e "value" X.env (eval e X.env) = eval e X.env := by rfl) : PE X (.Attribute e "value" pos) (tVal X.K te) := by
  refine ⟨fun pins s σ H Q I h => ?_⟩
  refine attr_of hb (thn (he.run pins s σ H _ I h) fun u s1 hh => ?_)
  obtain ⟨x, H1, I1, rx, a, C, d, v, rfl, T, noV, ea, ed, q⟩ := hh
  obtain rfl : u = Value.ref a := rx
  obtain ⟨t1, ho⟩ := exo_at I1.hok ea
  obtain ⟨mA, hns, rel⟩ := exd_at I1.hok ed
  obtain ⟨oD, hd, hl⟩ := lookIn_ns hns
  have l : List.lookup ("value" : Str) [(("value" : Str), v)] = some v := by simp [List.lookup]
  obtain ⟨u, hu, ru⟩ := RelO.some_of (v := v) (o := mA "value") (by rw [← l]; exact rel "value")
  have J : PySem.W.InstAt s1.heap a _ C (some oD) := ⟨ho, rfl, rfl, hd⟩
  exact PySem.HandSPX.exc_get I1.kIn J T.ga T.gt T.sub (PySem.W.findObj_own T.dct noV rfl (by rw [hl, hu])) (handed_of ru) ⟨v, H1, I1.tok _, ru, q⟩
end Eo
end L2

set_option Elab.async false
set_option linter.all false
set_option maxRecDepth 100000
set_option maxHeartbeats 4000000
/-! Vb, part 45: errors raised; the doors of prime and vectors. -/
namespace L2
namespace Vb
open PySem PySem.Spec PyProof.Rows
open Eo (ErC spInit errH)
abbrev rowP (xs : List Int) : PyData := .list (xs.map PyData.int)
abbrev matP (T : List (List Int)) : PyData := .list (T.map rowP)
/-- what is wished where an error of the class at C with the field v leaves -/
def Err (H : Hp) (C : Addr) (v : V) (E : XK) : Prop := ∀ (dd : Addr) (H' : Hp), Same H H' → H dd = none → H' dd = some (.xd [(("value" : Str), v)]) → E (.ref C) (some dd) H'
theorem Err.up {H H1 : Hp} {C : Addr} {v : V} {E : XK} (h : Err H C v E) (s : Same H H1) : Err H1 C v E := fun dd H' s' n e => h dd H' (same_trans s s') (s.free n) e
/-- a class of errors with a field: called, raised -/
structure Bad (P : Program) (w : World) (K : PySem.W.Frag) (mg : Str → Option Value) (base : Heap) (x : Str) (C : Addr) : Prop where
  gC : mg x = some (.ref C)
  ex : ∃ fI fd, ErC K C fI ∧ FnOk P w K mg base CX0 1 fI fd ["self", "value"] (spInit C) ∧ Binds K fd ["self", "value"] []
theorem raise_heap {H : Hp} {a d C : Addr} {v : V} (na : H a = none) (nd : H d = none) (ne : d ≠ a) : Same H (upd (del (errH (upd H a (exo a C none)) a d C v) a) d (.xd [(("value" : Str), v)])) := fun b o e => by
  have n1 : b ≠ a := ne_of_none e na
  have n2 : b ≠ d := ne_of_none e nd
  rw [upd_ne n2, del_ne n1]
  unfold errH
  rw [upd_ne n1, upd_ne n2, upd_ne n1]
  exact e
section
variable {X : Cx}
/-- raise C(x), x in slot i -/
def tRaiseN (C : Addr) (W : WX) (i : Nat) : TS := fun _ σ H => ∃ v, σ[i]? = some (some v) ∧ ∀ (dd : Addr) (H' : Hp), Same H H' → H dd = none → H' dd = some (.xd [(("value" : Str), v)]) → W (.ref C) (some dd) σ H'
theorem ps_raiseN {x : Str} {C : Addr} {e : Expr} {i : Nat} {W : WX} {p pos pos2 : Pos} (hc : X.calm = true) (B : Bad X.prog X.w X.K X.mg X.base x C) (hr : Room 2 X.A) (tk : Takes X W) (hg : Gl X x) (he : PE X e (tVar i))
    (hdb : (x == ("__debug__" : Str)) = false := by decide) (hs : starEach (e :: []) X.env = (false, eval e X.env) :: starEach [] X.env := by rfl) (hpl : (backTo pos (starEach [] X.env)).any (·.1) = false := by rfl) :
    PS X (.Raise (some (.Call (.Name x p) [e] [] pos)) none pos2) (tRaiseN C W i) := by
  obtain ⟨fI, fd, T, F1, b1⟩ := B.ex
  have R := ps_raise (pos := pos2) hc tk (pmk_oex (p := p) (CX := CX0) (dvs := []) T.ox T.iC T.tI F1 hr b1 .nil pass0 hg B.gC (pa_cons he pa_nil hs) hdb hs hpl)
  refine ⟨fun pins s σ H D I h => R.run pins s σ H D I ?_⟩
  obtain ⟨v, hv, q⟩ := h
  refine ⟨v, hv, ?_⟩
  refine ⟨by show 1 ≤ 1000; decide, fun a na => ?_⟩
  refine ⟨a, v, rfl, upd_same, fun d nd ne => ⟨rfl, d, [(("value" : Str), v)], ?_, ?_, ?_, ?_⟩⟩
  · unfold errH
    rw [upd_same]
  · unfold errH
    rw [upd_ne ne, upd_same]
  · rw [upd_ne ne] at nd
    exact nd
  · rw [upd_ne ne] at nd
    exact q d _ (raise_heap na nd ne) nd upd_same
end
end Vb
end L2

set_option Elab.async false
set_option linter.all false
set_option maxRecDepth 100000
set_option maxHeartbeats 4000000
/-! Vb, part 46: the doors of prime, vectors, questions. -/
namespace L2
namespace Vb
open PySem PySem.Spec PyProof.Rows
/-- nothing is asked of the data -/
def okP : PyData → Bool := fun _ => true
def intD : PyData → Int
  | .int i => i
  | _ => 0
section
variable {P : Program} {w : World} {K : PySem.W.Frag} {mg : Str → Option Value} {base : Heap}
def spReqVX (CV : Addr) : Sp := fun vs H Q E => ∃ (p : Int) (v : V) (d : PyData) (n : Nat), vs = [.int p, v] ∧ Sho n H v d ∧ Sm2 d ∧ (vecsD p d = true → ∀ H', Same H H' → Q .non H') ∧ (vecsD p d = false → Err H CV v E)
def someD (p : Int) (d : PyData) : Bool := vecsD p d && decide (lenD d ≠ 0)
def spReqSX (CV : Addr) : Sp := fun vs H Q E => ∃ (p : Int) (v : V) (d : PyData) (n : Nat), vs = [.int p, v] ∧ Sho n H v d ∧ Sm2 d ∧ (someD p d = true → ∀ H', Same H H' → Q .non H') ∧ (someD p d = false → Err H CV v E)
theorem vecsD_list {p : Int} {d : PyData} (h : vecsD p d = true) : ∃ ds, d = .list ds := by
  cases d with
  | list ds => exact ⟨ds, rfl⟩
  | _ => cases h
/-- what is wrong with a question, if anything: the class, the argument -/
def fitD : PyData → PyData → Bool
  | .list (e :: _), x => decide (lenD x = lenD e)
  | _, _ => true
/-- by what is wrong -/
def Told (CP CN CV : Addr) (H : Hp) (vs : List V) (E : XK) (yes : Prop) : Option (Nat × Nat) → Prop
  | none => yes
  | some (0, i) => Err H CP (vs.getD i .non) E
  | some (1, i) => Err H CN (vs.getD i .non) E
  | some (_ + 2, i) => Err H CV (vs.getD i .non) E
def headD : PyData → PyData
  | .list (e :: _) => e
  | _ => .none
end
end Vb
end L2

set_option Elab.async false
set_option linter.all false
set_option maxRecDepth 100000
set_option maxHeartbeats 4000000
/-! Vb, k14: names, of any data. -/
namespace L2
namespace Vb
open PySem PySem.Spec PyProof.Rows
theorem ifU0 {b : Bool} {A B : Prop} (e : b = false) (h : B) : if b = true then A else B := by
  rw [e]
  exact h
theorem ifU1 {b : Bool} {A B : Prop} (e : b = true) (h : A) : if b = true then A else B := by
  rw [e]
  exact h
def nameB (x : Str) : Bool := decide (1 ≤ x.length) && (decide (x.length ≤ 8) && (Txt.isascii x && (Txt.isalpha x && Txt.islower x)))
def nameD : PyData → Bool
  | .str x => nameB x
  | _ => false
def spNameD : Sp := fun vs H Q _ => ∃ (v : V) (d : PyData) (n : Nat), vs = [v] ∧ Sho n H v d ∧ (∀ x, d = .str x → x.length ≤ sizeLine) ∧ Q (.bl (nameD d)) H
abbrev sName : Stmt := topS 7
abbrev nName : List Str := ["value"]
theorem scName : FnScope nName ["value"] (defScope sName) := ⟨rfl, rfl, rfl, by decide +kernel, rfl, by decide +kernel, by decide +kernel⟩
theorem boot_strTU : bootBuiltins ("str" : Str) = some (.type "str") := by decide +kernel
theorem rel_strTU : RelV (.ty "str") (.type "str") := rfl
section
variable {P : Program} {w : World} {K : PySem.W.Frag} {mg : Str → Option Value} {base : Heap}
theorem ok_nameD {f : Addr} {fd : FuncData} (F : Fun K "is_name" "is_name" sName f fd) (gLen : mg "len" = none) (gType : mg "type" = none) (gStr : mg "str" = none) (gL : ∃ t, mg "LONGEST_NAME" = some (.int 8 t)) :
    FnOk P w K mg base CX0 1 f fd ["value"] spNameD := by
  refine F.ok scName (fun vs H Q E h => ?_) (fun cdv A outer s0 H vs Q E hr h => ?_)
  · obtain ⟨v, d, n, rfl, _⟩ := h
    rfl
  · obtain ⟨v, d, n, rfl, sh, hl, want⟩ := h
    refine ⟨_, (pss_cons (ps_if (PW.pt (pw_or (pt_cmpR op_isNotTy (pe_typeD rfl gType (pv 0)) (pe_bltn rfl gStr boot_strTU rel_strTU) (nomark _)) (pw_or1 (pt_not (pt_chain op_le op_le pe_int (pe_callB (call_len) (by rfl) gLen PySem.boot_len (pa_cons (pv 0) pa_nil)) (pe_gint rfl gL))))))
        (pss_one (ps_ret pe_bl))
        pss_nil)
      (pss_one (ps_ret (pe_and (pe_bm0 PySem.F.plainAttrs_str PySem.F.slot_str_isascii PySem.F.type_str_isascii mt_isascii (pv 0)) (pe_and (pe_bm0 PySem.F.plainAttrs_str PySem.F.slot_str_isalpha PySem.F.type_str_isalpha mt_isalpha (pv 0)) (pe_one (pe_bm0 PySem.F.plainAttrs_str PySem.F.slot_str_islower PySem.F.type_str_islower mt_islower (pv 0)))))))), ?_⟩
    refine ⟨_, rfl, _, sh.ty, _, _, rfl, rfl, _, rfl, ?_⟩
    cases d with
    | str x =>
      obtain rfl := sh.ofStr
      refine iteF ?_
      refine ⟨_, rfl, _, _, rfl, ⟨hl x rfl, rfl⟩, _, _, rfl, rfl, _, rfl, ?_⟩
      by_cases q1 : 1 ≤ x.length
      · refine ifU1 (decide_eq_true (by omega)) ⟨_, _, rfl, rfl, _, rfl, ?_⟩
        by_cases q2 : x.length ≤ 8
        · have e : decide ((x.length : Int) ≤ 8) = true := decide_eq_true (by omega)
          rw [e]
          refine iteF ⟨_, rfl, rfl, _, rfl, rfl, trivial, _, rfl, ?_⟩
          have z : nameD (.str x) = (Txt.isascii x && (Txt.isalpha x && Txt.islower x)) := by
            show (decide (1 ≤ x.length) && (decide (x.length ≤ 8) && _)) = _
            rw [decide_eq_true q1, decide_eq_true q2]
            rfl
          rw [z] at want
          cases e1 : Txt.isascii x with
          | false =>
            rw [e1] at want
            exact iteF want
          | true =>
            rw [e1] at want
            refine iteT ⟨_, rfl, rfl, _, rfl, rfl, trivial, _, rfl, ?_⟩
            cases e2 : Txt.isalpha x with
            | false =>
              rw [e2] at want
              exact iteF want
            | true =>
              rw [e2] at want
              exact iteT ⟨_, rfl, rfl, _, rfl, rfl, trivial, want⟩
        · have e : decide ((x.length : Int) ≤ 8) = false := decide_eq_false (by omega)
          rw [e]
          have z : nameD (.str x) = false := by
            show (decide (1 ≤ x.length) && (decide (x.length ≤ 8) && _)) = _
            rw [decide_eq_false q2, Bool.false_and, Bool.and_false]
          rw [z] at want
          exact iteT want
      · refine ifU0 (decide_eq_false (by omega)) ?_
        have z : nameD (.str x) = false := by
          show (decide (1 ≤ x.length) && _) = _
          rw [decide_eq_false q1, Bool.false_and]
        rw [z] at want
        exact ⟨_, rfl, iteT want⟩
    | none => exact iteT want
    | bool b => exact iteT want
    | int b => exact iteT want
    | list b => exact iteT want
    | tuple b => exact iteT want
    | dict b => exact iteT want
end
end Vb
end L2

set_option Elab.async false
set_option linter.all false
set_option maxRecDepth 100000
set_option maxHeartbeats 4000000
/-! Vb, k88: texts cut and put together. -/
namespace L2
namespace Vb
open PySem PySem.Spec PyProof.Rows
open PySem.Builtin PySem.Builtin.Str
open PySem.StrLaws (At ChainG partsFrom occ_tight occ_head subAt_eq strSub_toList sub_whole partsBetween_eq)
abbrev cl (x : Str) : List Nat := x.cps.toList
theorem str_ext {x y : Str} (h : cl x = cl y) : x = y := Str.ext' (Array.toList_inj.mp h)
theorem cl_len (x : Str) : (cl x).length = x.length := by simp [Str.length]
theorem cl_app (x y : Str) : cl (x ++ y) = cl x ++ cl y := by
  show (x ++ y).cps.toList = _
  rw [Str.cps_append, Array.toList_append]
theorem at_iff {x y : Str} {i : Nat} : At x y x.length i ↔ i + y.length ≤ x.length ∧ ((cl x).drop i).take y.length = cl y := by
  unfold At
  rw [subAt_eq, beq_iff_eq]
theorem at_get {x y : Str} {i j c : Nat} (h : At x y x.length i) (e : (cl y)[j]? = some c) : (cl x)[i + j]? = some c := by
  have h2 := (at_iff.mp h).2
  have l : j < y.length := by
    have := (List.getElem?_eq_some_iff.mp e).1
    rw [cl_len] at this
    exact this
  rw [← h2, List.getElem?_take_of_lt l, List.getElem?_drop] at e
  exact e
theorem at_shift {p b y x : Str} {m i : Nat} (e : x = p ++ b) (hm : m = p.length) : At x y x.length (m + i) ↔ At b y b.length i := by
  subst e hm
  rw [at_iff, at_iff, cl_app, ← cl_len p, ← List.drop_drop, List.drop_left, Str.length_append, ← cl_len p]
  constructor
  · rintro ⟨a, b⟩
    exact ⟨by omega, b⟩
  · rintro ⟨a, b⟩
    exact ⟨by omega, b⟩
theorem chain_uniq {x y : Str} : ∀ {cuts cuts' : List Nat} {a f f' : Nat}, ChainG x y x.length a cuts f → ChainG x y x.length a cuts' f' → (∀ k, f ≤ k → ¬ At x y x.length k) → (∀ k, f' ≤ k → ¬ At x y x.length k) → cuts = cuts'
  | [], [], _, _, _, _, _, _, _ => rfl
  | [], c :: r, a, f, f', h, h', n, _ => by
    have e : f = a := h
    subst e
    exact (n c h'.1 h'.2.1).elim
  | c :: r, [], a, f, f', h, h', _, n => by
    have e : f' = a := h'
    subst e
    exact (n c h.1 h.2.1).elim
  | c :: r, d :: s, a, f, f', h, h', n, n' => by
    have e : c = d := by
      rcases Nat.lt_trichotomy c d with q | q | q
      · exact (h'.2.2.1 c h.1 q h.2.1).elim
      · exact q
      · exact (h.2.2.1 d h'.1 q h'.2.1).elim
    subst e
    rw [chain_uniq h.2.2.2 h'.2.2.2 n n']
theorem sub_shift {p b x : Str} {m i j : Nat} (e : x = p ++ b) (hm : m = p.length) : strSub x (m + i) (m + j) = strSub b i j := by
  subst e hm
  refine str_ext ?_
  show (strSub _ _ _).cps.toList = (strSub _ _ _).cps.toList
  rw [strSub_toList, strSub_toList]
  show List.take _ (List.drop _ (cl (p ++ b))) = _
  rw [cl_app, ← cl_len p, ← List.drop_drop, List.drop_left]
  congr 1
  omega
theorem chain_shift {p b y x : Str} {m : Nat} (e : x = p ++ b) (hm : m = p.length) : ∀ {cuts : List Nat} {a f : Nat}, ChainG b y b.length a cuts f → ChainG x y x.length (m + a) (cuts.map (m + ·)) (m + f)
  | [], a, f, h => congrArg (m + ·) (show f = a from h)
  | c :: r, a, f, h => by
    refine ⟨Nat.add_le_add_left h.1 m, (at_shift e hm).mpr h.2.1, fun k k1 k2 => ?_, ?_⟩
    · have k2 : k < m + c := k2
      obtain ⟨i, rfl⟩ : ∃ i, k = m + i := ⟨k - m, by omega⟩
      exact fun z => h.2.2.1 i (by omega) (by omega) ((at_shift e hm).mp z)
    · have z := chain_shift e hm h.2.2.2
      rw [← Nat.add_assoc] at z
      exact z
theorem parts_shift {p b x : Str} {m w : Nat} (e : x = p ++ b) (hm : m = p.length) : ∀ {cuts : List Nat} {a : Nat}, partsFrom x w (m + a) (cuts.map (m + ·)) = partsFrom b w a cuts
  | [], a => by
    show [strSub x (m + a) x.length] = [strSub b a b.length]
    have l : x.length = m + b.length := by rw [e, Str.length_append, hm]
    rw [l, sub_shift e hm]
  | c :: r, a => by
    show strSub x (m + a) (m + c) :: partsFrom x w (m + c + w) (r.map (m + ·)) = strSub b a c :: partsFrom b w (c + w) r
    rw [sub_shift e hm, Nat.add_assoc, parts_shift e hm]
theorem kind_one {x : Str} : 1 ≤ Builtin.Str.strKind x := by
  unfold PySem.Builtin.Str.strKind
  split
  · exact Nat.le_refl 1
  · split <;> omega
theorem occ_nil {x y : Str} (hw : 1 ≤ y.length) (h : ∀ k, ¬ At x y x.length k) : occurrences x y 0 x.length (x.length + 1) = [] := by
  obtain ⟨f, hG, hn⟩ := occ_tight x y hw
  exact chain_uniq hG (f' := 0) (cuts' := []) rfl hn fun k _ => h k
theorem split_eq {x y : Str} (hw : 1 ≤ y.length) (hk : Builtin.Str.strKind y = 1) : Txt.split x y = partsFrom x y.length 0 (occurrences x y 0 x.length (x.length + 1)) := by
  have whole : [x] = partsFrom x y.length 0 [] := by
    show [x] = [strSub x 0 x.length]
    rw [sub_whole]
  unfold Txt.split
  have k0 : decide (Builtin.Str.strKind x < Builtin.Str.strKind y) = false := by
    rw [hk]
    exact decide_eq_false (by have := kind_one (x := x); omega)
  rw [k0, Bool.or_false]
  by_cases q : x.length < y.length
  · rw [if_pos (decide_eq_true q), occ_nil hw fun k z => by
      have := z.1
      omega]
    exact whole
  · rw [if_neg (by rw [decide_eq_false q]; decide)]
    cases ho : occurrences x y 0 x.length (x.length + 1) with
    | nil => exact whole
    | cons c r =>
      rw [if_neg (fun h => nomatch h), partsBetween_eq]
theorem split_none {x y : Str} (hw : 1 ≤ y.length) (hk : Builtin.Str.strKind y = 1) (h : ∀ k, ¬ At x y x.length k) : Txt.split x y = [x] := by
  rw [split_eq hw hk, occ_nil hw h]
  show [strSub x 0 x.length] = [x]
  rw [sub_whole]
theorem at_here {a y b : Str} : At (a ++ y ++ b) y (a ++ y ++ b).length a.length := by
  rw [at_iff, cl_app, cl_app, List.append_assoc, ← cl_len a, List.drop_left, ← cl_len y, List.take_left, Str.length_append, Str.length_append, cl_len, cl_len]
  exact ⟨by omega, rfl⟩
theorem sub_pre {a b : Str} : strSub (a ++ b) 0 a.length = a := by
  refine str_ext ?_
  show (strSub _ _ _).cps.toList = _
  rw [strSub_toList]
  show List.take _ (List.drop 0 (cl (a ++ b))) = _
  rw [cl_app, List.drop_zero, Nat.sub_zero, ← cl_len a, List.take_left]
theorem sub_post {a b : Str} {n : Nat} (h : n = (a ++ b).length) : strSub (a ++ b) a.length n = b := by
  have z := sub_shift (p := a) (b := b) (i := 0) (j := b.length) rfl rfl
  rw [Nat.add_zero, sub_whole] at z
  rw [h, Str.length_append]
  exact z
theorem split_cons {a y b : Str} (hw : 1 ≤ y.length) (hk : Builtin.Str.strKind y = 1) (h : ∀ k, k < a.length → ¬ At (a ++ y ++ b) y (a ++ y ++ b).length k) : Txt.split (a ++ y ++ b) y = a :: Txt.split b y := by
  rw [split_eq hw hk, split_eq hw hk]
  obtain ⟨f, hG, hn⟩ := occ_tight (a ++ y ++ b) y hw
  obtain ⟨g, kG, kn⟩ := occ_tight b y hw
  have hm : a.length + y.length = (a ++ y).length := (Str.length_append a y).symm
  have z := chain_shift (x := a ++ y ++ b) (p := a ++ y) (b := b) rfl hm kG
  rw [Nat.add_zero] at z
  have all : ChainG (a ++ y ++ b) y (a ++ y ++ b).length 0 (a.length :: (occurrences b y 0 b.length (b.length + 1)).map (a.length + y.length + ·)) (a.length + y.length + g) := ⟨Nat.zero_le _, at_here, fun k _ k2 => h k k2, z⟩
  rw [chain_uniq hG all hn fun k k1 => by
    obtain ⟨i, rfl⟩ : ∃ i, k = a.length + y.length + i := ⟨k - (a.length + y.length), by omega⟩
    exact fun q => kn i (by omega) ((at_shift rfl hm).mp q)]
  show strSub _ 0 a.length :: partsFrom _ y.length (a.length + y.length) _ = _
  have p1 := parts_shift (x := a ++ y ++ b) (p := a ++ y) (b := b) (w := y.length) rfl hm (cuts := occurrences b y 0 b.length (b.length + 1)) (a := 0)
  rw [Nat.add_zero] at p1
  rw [p1, Str.append_assoc, sub_pre]
theorem partition_none {x y : Str} (h : ∀ k, ¬ At x y x.length k) : Txt.partition x y = (x, Str.empty, Str.empty) := by
  unfold Txt.partition
  rcases occ_head x y 1 (Nat.le_refl 1) with ⟨e, _⟩ | ⟨i, r, e, a, _⟩
  · rw [e]
  · exact (h i a).elim
theorem partition_at {a y b : Str} (h : ∀ k, k < a.length → ¬ At (a ++ y ++ b) y (a ++ y ++ b).length k) : Txt.partition (a ++ y ++ b) y = (a, y, b) := by
  unfold Txt.partition
  rcases occ_head (a ++ y ++ b) y 1 (Nat.le_refl 1) with ⟨e, n⟩ | ⟨i, r, e, q, n⟩
  · exact (n _ at_here).elim
  · have ei : i = a.length := by
      rcases Nat.lt_trichotomy i a.length with k | k | k
      · exact (h i k q).elim
      · exact k
      · exact (n a.length k at_here).elim
    subst ei
    rw [e]
    show (strSub _ 0 a.length, y, strSub _ (a.length + y.length) _) = _
    rw [Str.append_assoc, sub_pre, ← Str.append_assoc, ← Str.length_append, sub_post rfl]
/-- c stands at j in y, and not ahead of it -/
def Sep (y : Str) (c j : Nat) : Prop := (cl y)[j]? = some c ∧ ∀ i, i < j → (cl y)[i]? ≠ some c
theorem sep_len {y : Str} {c j : Nat} (h : Sep y c j) : 1 ≤ y.length := by
  have := (List.getElem?_eq_some_iff.mp h.1).1
  rw [cl_len] at this
  omega
theorem sep_no {x y : Str} {c j : Nat} (h : Sep y c j) (n : c ∉ cl x) : ∀ k, ¬ At x y x.length k := fun k a => n (List.mem_of_getElem? (at_get a h.1))
theorem sep_first {a y b : Str} {c j : Nat} (h : Sep y c j) (n : c ∉ cl a) : ∀ k, k < a.length → ¬ At (a ++ y ++ b) y (a ++ y ++ b).length k := fun k hk q => by
  have e := at_get q h.1
  rw [cl_app, cl_app, List.append_assoc] at e
  by_cases l : k + j < (cl a).length
  · rw [List.getElem?_append_left l] at e
    exact n (List.mem_of_getElem? e)
  · have la := cl_len a
    rw [List.getElem?_append_right (by omega)] at e
    have hy : k + j - (cl a).length < (cl y).length := by
      have := (List.getElem?_eq_some_iff.mp h.1).1
      omega
    rw [List.getElem?_append_left hy] at e
    exact h.2 _ (by omega) e
theorem split_join {y : Str} {c j : Nat} (h : Sep y c j) (hk : Builtin.Str.strKind y = 1) : ∀ {ps : List Str}, ps ≠ [] → (∀ p ∈ ps, c ∉ cl p) → Txt.split (Str.join y ps) y = ps
  | [], e, _ => (e rfl).elim
  | [p], _, n => split_none (sep_len h) hk (sep_no h (n p List.mem_cons_self))
  | p :: q :: r, _, n => by
    show Txt.split (p ++ y ++ Str.join y (q :: r)) y = _
    rw [split_cons (sep_len h) hk (sep_first h (n p List.mem_cons_self)), split_join h hk (by simp) fun z m => n z (List.mem_cons_of_mem _ m)]
theorem join_eq (y : Str) (ps : List Str) : Txt.join y ps = Str.join y ps := PySem.StrLaws.glued_eq_join y ps
end Vb
end L2

set_option Elab.async false
set_option linter.all false
set_option maxRecDepth 100000
set_option maxHeartbeats 4000000
/-! Vb, k88: what the texts of scripts are, by functions. -/
namespace L2
namespace Vb
open PySem PySem.Spec PyProof.Rows
open PySem.NumText (digitsVal AllDigits)
/-! ### sorted texts -/
def insS (x : Str) : List Str → List Str
  | [] => [x]
  | y :: r => if ltCps (cl y) (cl x) = true then y :: insS x r else x :: y :: r
def srtS : List Str → List Str
  | [] => []
  | x :: r => insS x (srtS r)
abbrev LeS (x y : Str) : Prop := ltCps (cl y) (cl x) = false
theorem leS_iff {x y : Str} : LeS x y ↔ cl x ≤ cl y := by
  unfold LeS
  rw [ltCps_eq, decide_eq_false_iff_not]
  exact List.not_lt
theorem leS_trans {x y z : Str} (h : LeS x y) (k : LeS y z) : LeS x z := leS_iff.mpr (List.le_trans (leS_iff.mp h) (leS_iff.mp k))
theorem leS_total {x y : Str} : LeS x y ∨ LeS y x := by
  rcases List.le_total (cl x) (cl y) with h | h
  · exact .inl (leS_iff.mpr h)
  · exact .inr (leS_iff.mpr h)
theorem leS_anti {x y : Str} (h : LeS x y) (k : LeS y x) : x = y := str_ext (List.le_antisymm (leS_iff.mp h) (leS_iff.mp k))
theorem ins_perm (x : Str) : ∀ r : List Str, (insS x r).Perm (x :: r)
  | [] => .refl _
  | y :: r => by
    unfold insS
    split
    · exact ((ins_perm x r).cons y).trans (.swap x y r)
    · exact .refl _
theorem ins_mem {x z : Str} {r : List Str} (h : z ∈ insS x r) : z = x ∨ z ∈ r := List.mem_cons.mp ((ins_perm x r).mem_iff.mp h)
theorem ins_pair {x : Str} : ∀ {r : List Str}, r.Pairwise LeS → (insS x r).Pairwise LeS
  | [], _ => .cons (fun _ m => nomatch m) .nil
  | y :: r, h => by
    unfold insS
    split
    · next q =>
      refine .cons (fun z m => ?_) (ins_pair h.of_cons)
      rcases ins_mem m with rfl | m
      · rcases leS_total (x := y) (y := z) with k | k
        · exact k
        · rw [show ltCps (cl y) (cl z) = false from k] at q
          cases q
      · exact List.rel_of_pairwise_cons h m
    · next q =>
      have k : LeS x y := Bool.eq_false_iff.mpr q
      refine .cons (fun z m => ?_) h
      rcases List.mem_cons.mp m with rfl | m
      · exact k
      · exact leS_trans k (List.rel_of_pairwise_cons h m)
theorem srt_perm : ∀ ks : List Str, (srtS ks).Perm ks
  | [] => .refl _
  | x :: r => (ins_perm x _).trans ((srt_perm r).cons x)
theorem srt_pair : ∀ ks : List Str, (srtS ks).Pairwise LeS
  | [] => .nil
  | x :: r => ins_pair (srt_pair r)
theorem rising_pair : ∀ {r : List Str} {p : Str}, risingS p r = true → (p :: r).Pairwise LeS
  | [], p, _ => .cons (fun _ m => nomatch m) .nil
  | x :: r, p, h => by
    obtain ⟨a, b⟩ := Bool.and_eq_true_iff.mp (show (!ltCps (cl x) (cl p) && risingS x r) = true from h)
    have a : LeS p x := by simpa using a
    have ih := rising_pair b
    refine .cons (fun z m => ?_) ih
    rcases List.mem_cons.mp m with rfl | m
    · exact a
    · exact leS_trans a (List.rel_of_pairwise_cons ih m)
theorem sorted_pair {ys : List Str} (h : sortedS ys = true) : ys.Pairwise LeS := by
  cases ys with
  | nil => exact .nil
  | cons x r => exact rising_pair h
theorem srt_uniq {ys ks : List Str} (p : ys.Perm ks) (h : sortedS ys = true) : ys = srtS ks := (p.trans (srt_perm ks).symm).eq_of_pairwise (le := LeS) (fun _ _ _ _ a b => leS_anti a b) (sorted_pair h) (srt_pair ks)
theorem srt_same {ks js : List Str} (p : ks.Perm js) : srtS ks = srtS js := ((srt_perm ks).trans (p.trans (srt_perm js).symm)).eq_of_pairwise (le := LeS) (fun _ _ _ _ a b => leS_anti a b) (srt_pair ks) (srt_pair js)
/-! ### sums -/
abbrev SumZ : Type := List (Str × Int)
def kvsZ (W : SumZ) : List (Key × V) := W.map fun q => (Sum.inr q.1, V.int q.2)
def Dct (H : Hp) (d : Addr) (W : SumZ) : Prop := H d = some (.dK (kvsZ W))
def facZ (W : SumZ) (x : Str) : Int := ((W.find? fun q => decide (q.1 = x)).map (·.2)).getD 0
def hasZ (W : SumZ) (x : Str) : Bool := W.any fun q => decide (q.1 = x)
def putZ (W : SumZ) (x : Str) (n : Int) : SumZ := if hasZ W x = true then W.map (fun q => if q.1 = x then (q.1, n) else q) else W ++ [(x, n)]
def numS (n : Int) : Str := (toString n : Str)
def digB (c : Nat) : Bool := decide (48 ≤ c) && decide (c ≤ 57)
/-- read_count -/
def rcD (x : Str) : Option Int :=
  if (x.length == 0 || decide (400 < x.length) || !((cl x).all digB)) = true then none
  else if ((cl x)[0]? == some 48 && decide (x ≠ "0")) = true then none
  else some ((digitsVal (cl x) : Nat) : Int)
def tailS (x : Str) : Str := ⟨((cl x).drop 1).toArray⟩
def nameT (x : Str) : Bool := decide (1 ≤ x.length) && (decide (x.length ≤ 8) && (Txt.isascii x && (Txt.isalpha x && Txt.islower x)))
/-- is_row_holder, is_holder of texts -/
def rhB (x : Str) : Bool :=
  if Txt.startswith x "#" = true then (rcD (tailS x)).isSome
  else Txt.startswith x "@" && (decide ((Txt.partition (tailS x) ".").2.1 = ".") && ((rcD (Txt.partition (tailS x) ".").1).isSome && (rcD (Txt.partition (tailS x) ".").2.2).isSome))
def hoB (x : Str) : Bool := rhB x || (Txt.split x ".").all nameT
/-- read_sum -/
def rsGo : List Str → SumZ → Option SumZ
  | [], W => some W
  | t :: ts, W => match rcD (Txt.partition t " ").1 with
    | none => none
    | some n => rsGo ts (putZ W (Txt.partition t " ").2.2 n)
def rsD (x : Str) : Option SumZ := if x = "0" then some [] else rsGo (Txt.split x " + ") []
/-- is_written_sum -/
def wrB (W : SumZ) : Bool := W.all (fun q => decide (0 ≤ q.2)) && W.all fun q => if q.1 = "" then decide (1 ≤ q.2) else hoB q.1
/-- sum_words -/
def swL (W : SumZ) : List Str := ((srtS (W.map (·.1))).filter fun k => !(k.length == 0)).map fun k => numS (facZ W k) ++ " " ++ k
def swA (W : SumZ) : List Str := if hasZ W "" = true then swL W ++ [numS (facZ W "")] else swL W
def swD (W : SumZ) : Str := if (swA W).isEmpty = true then "0" else Txt.join " + " (swA W)
def ascZ (W : SumZ) : SumZ := (srtS (W.map (·.1))).map fun k => (k, facZ W k)
/-- read_sum_words -/
def rwD (x : Str) : Option SumZ := match rsD x with
  | none => none
  | some W => if (!wrB W || decide (swD W ≠ x)) = true then none else some (ascZ W)
/-! ### marks -/
abbrev Mk : Type := Str × List Str
def pwD (p : List Str) : Str := if p.isEmpty = true then "-" else Txt.join "." p
def mwD (m : Mk) : Str := m.1 ++ " in " ++ pwD m.2
def rpD (x : Str) : Option (List Str) := if ((if x = "-" then [] else Txt.split x ".") : List Str).all nameT = true then some (if x = "-" then [] else Txt.split x ".") else none
def rmD (x : Str) : Option Mk :=
  if (!((Txt.partition x " in ").2.1.length == 0) && nameT (Txt.partition x " in ").1) = true then (rpD (Txt.partition x " in ").2.2).map fun p => ((Txt.partition x " in ").1, p) else none
def mkB (m : Mk) : Bool := nameT m.1 && m.2.all nameT
/-! ### commands -/
inductive Cm where
  | bare (w : Str)
  | ltr (b : Bool) (n : Option Int)
  | sum (k : Fin 4) (W : Option SumZ)
  | exch (n : Option Int) (m : Option Mk)
  | tr (cs : List Cm)
def letW : Bool → Str
  | true => "number"
  | false => "choice"
def SUMS_W : List Str := ["read", "move", "suppose", "put"]
def sumW (k : Fin 4) : Str := SUMS_W.getD k.val ""
def BARE_W : List Str := ["go", "undo", "redo", "here", "beats", "would"]
def coB : Option Int → Bool
  | none => false
  | some n => decide (0 ≤ n)
mutual
def cmB : Cm → Bool
  | .bare w => BARE_W.contains w
  | .ltr _ n => coB n
  | .sum _ W => (W.map wrB).getD false
  | .exch n m => coB n && (m.map mkB).getD false
  | .tr cs => scB cs
def scB : List Cm → Bool
  | [] => true
  | c :: cs => cmB c && scB cs
end
mutual
def lnC : Cm → Str → List Str
  | .bare w, l => [l ++ w]
  | .ltr b n, l => [l ++ letW b ++ " " ++ numS (n.getD 0)]
  | .sum k W, l => [l ++ sumW k ++ " " ++ swD (W.getD [])]
  | .exch n m, l => [l ++ "exchange" ++ " " ++ numS (n.getD 0) ++ " " ++ mwD (m.getD ("", []))]
  | .tr cs, l => [l ++ "try"] ++ lnS cs (l ++ "  ") ++ [l ++ "end"]
def lnS : List Cm → Str → List Str
  | [], _ => []
  | c :: cs, l => lnC c l ++ lnS cs l
end
mutual
def dpC : Cm → Nat
  | .tr cs => dpS cs + 1
  | _ => 0
def dpS : List Cm → Nat
  | [] => 0
  | c :: cs => max (dpC c) (dpS cs)
end
def sumDt (W : SumZ) : PyData := .dict (W.map fun q => (.str q.1, .int q.2))
def cntDt : Option Int → PyData
  | none => .none
  | some n => .int n
def mkDt (m : Mk) : PyData := .tuple [.str m.1, .tuple (m.2.map .str)]
mutual
def datC : Cm → PyData
  | .bare w => .tuple [.str w]
  | .ltr b n => .tuple [.str (letW b), cntDt n]
  | .sum k W => .tuple [.str (sumW k), (W.map sumDt).getD .none]
  | .exch n m => .tuple [.str "exchange", cntDt n, (m.map mkDt).getD .none]
  | .tr cs => .tuple [.str "try", .list (datS cs)]
def datS : List Cm → List PyData
  | [] => []
  | c :: cs => datC c :: datS cs
end
/-- read_command -/
def rdC (x : Str) : Cm :=
  let p := Txt.partition x " "
  if p.1 = "number" then .ltr true (rcD p.2.2) else if p.1 = "choice" then .ltr false (rcD p.2.2)
  else if p.1 = "read" then .sum 0 (rwD p.2.2) else if p.1 = "move" then .sum 1 (rwD p.2.2) else if p.1 = "suppose" then .sum 2 (rwD p.2.2) else if p.1 = "put" then .sum 3 (rwD p.2.2)
  else if p.1 = "exchange" then .exch (rcD (Txt.partition p.2.2 " ").1) (rmD (Txt.partition p.2.2 " ").2.2) else .bare p.1
def lsD (x : Str) : Str := Txt.lstripChars x " "
/-- read_script_lines: what stands around, the nearest first, and what is read so far -/
def rdL : List Str → List (List Cm) → List Cm → Option (List Cm)
  | [], [], s => some s
  | [], _ :: _, _ => none
  | t :: ts, ar, s => if lsD t = "try" then rdL ts (s :: ar) [] else if lsD t = "end" then (match ar with
      | [] => none
      | r :: ar => rdL ts ar (r ++ [.tr s])) else rdL ts ar (s ++ [rdC (lsD t)])
def rdA (x : Str) : Option (List Cm) := if x.length = 0 then some [] else rdL (Txt.split x "\n") [] []
def txD (s : List Cm) : Str := Txt.join "\n" (lnS s "")
/-- read_script -/
def rdS (x : Str) : Option (List Cm) := match rdA x with
  | none => none
  | some s => if (scB s && decide (txD s = x)) = true then some s else none
end Vb
end L2

set_option Elab.async false
set_option linter.all false
set_option maxRecDepth 100000
set_option maxHeartbeats 4000000
/-! Vb, k88: numbers and their texts; what is written is read. -/
namespace L2
namespace Vb
open PySem PySem.Spec PyProof.Rows
open PySem.NumText (digitsVal AllDigits)
open PySem.StrLaws (At)
/-! ### numbers -/
theorem numS_cl (m : Nat) : cl (numS (m : Int)) = (Nat.toDigits 10 m).map Char.toNat := PySem.W.KIN.signs_num m
theorem numS_dig (m : Nat) : AllDigits (cl (numS (m : Int))) := by
  intro c hc
  rw [numS_cl] at hc
  obtain ⟨ch, hch, e⟩ := List.mem_map.mp hc
  have r := PyProof.Rows.digit_range (Nat.isDigit_of_mem_toDigits (by decide) (by decide) hch)
  rw [← e]
  exact r
theorem numS_ne (m : Nat) : cl (numS (m : Int)) ≠ [] := by
  rw [numS_cl]
  intro e
  have h := PySem.toDigits_len_ge 10 m
  rw [List.map_eq_nil_iff.mp e] at h
  exact absurd h (by decide)
theorem head_dig : ∀ m : Nat, 0 < m → (Nat.toDigits 10 m).head? ≠ some '0' := by
  intro m
  induction m using Nat.strongRecOn with
  | _ m ih =>
    intro h0
    by_cases h : m < 10
    · rw [Nat.toDigits_of_lt_base h]
      have : ∀ d, d < 10 → 0 < d → [Nat.digitChar d].head? ≠ some '0' := by decide
      exact this m h h0
    · have hm : m % 10 < 10 := Nat.mod_lt m (by decide)
      have t : Nat.toDigits 10 (m / 10) ++ Nat.toDigits 10 (m % 10) = Nat.toDigits 10 (10 * (m / 10) + m % 10) := Nat.toDigits_append_toDigits (by decide) (by omega) hm
      rw [Nat.div_add_mod] at t
      rw [← t]
      have n : Nat.toDigits 10 (m / 10) ≠ [] := fun e => by
        have h := PySem.toDigits_len_ge 10 (m / 10)
        rw [e] at h
        exact absurd h (by decide)
      cases q : Nat.toDigits 10 (m / 10) with
      | nil => exact (n q).elim
      | cons a r =>
        have z := ih (m / 10) (by omega) (by omega)
        rw [q] at z
        exact z
theorem rcD_num {n : Int} (h0 : 0 ≤ n) (h1 : n < 10 ^ 41) : rcD (numS n) = some n := by
  have hl : (numS n).length ≤ 41 := toString_length_le h0 (by decide) h1
  obtain ⟨m, rfl⟩ := Int.eq_ofNat_of_zero_le h0
  have hd := numS_dig m
  have hne := numS_ne m
  unfold rcD
  have e1 : ((numS (m : Int)).length == 0) = false := beq_eq_false_iff_ne.mpr fun e => hne (List.eq_nil_of_length_eq_zero (by rw [cl_len]; exact e))
  have e2 : decide (400 < (numS (m : Int)).length) = false := decide_eq_false (by
    have : (numS (m : Int)).length ≤ _ := hl
    omega)
  have e3 : (cl (numS (m : Int))).all digB = true := List.all_eq_true.mpr fun c hc => by
    have := hd c hc
    unfold digB
    rw [decide_eq_true this.1, decide_eq_true this.2]
    rfl
  rw [e1, e2, e3]
  rw [if_neg (by decide)]
  have e4 : ((cl (numS (m : Int)))[0]? == some 48 && decide (numS (m : Int) ≠ "0")) = false := by
    by_cases z : m = 0
    · subst z
      decide +kernel
    · have hh := head_dig m (by omega)
      have : ((cl (numS (m : Int)))[0]? == some 48) = false := beq_eq_false_iff_ne.mpr fun e => by
        rw [numS_cl, List.getElem?_map] at e
        obtain ⟨ch, e5, e6⟩ := Option.map_eq_some_iff.mp e
        have e7 : ch = '0' := by
          have : ch.toNat = '0'.toNat := e6
          exact Char.toNat_inj.mp this
        rw [e7] at e5
        exact hh (by rw [List.head?_eq_getElem?]; exact e5)
      rw [this]
      rfl
  rw [e4, if_neg (by decide)]
  congr 1
  show ((digitsVal (cl (numS (m : Int))) : Nat) : Int) = _
  rw [numS_cl, PySem.W.KIN.val_back]
theorem numS_no {n : Int} (h0 : 0 ≤ n) {c : Nat} (h : c < 48 ∨ 57 < c) : c ∉ cl (numS n) := by
  obtain ⟨m, rfl⟩ := Int.eq_ofNat_of_zero_le h0
  intro z
  have := numS_dig m c z
  omega
theorem sep_sp : Sep " " 32 0 := ⟨by decide +kernel, fun i h => absurd h (Nat.not_lt_zero i)⟩
theorem sep_dot : Sep "." 46 0 := ⟨by decide +kernel, fun i h => absurd h (Nat.not_lt_zero i)⟩
theorem sep_nl : Sep "\n" 10 0 := ⟨by decide +kernel, fun i h => absurd h (Nat.not_lt_zero i)⟩
theorem sep_pl : Sep " + " 43 1 := ⟨by decide +kernel, fun i h => by
  obtain rfl : i = 0 := by omega
  decide +kernel⟩
theorem kind_sp : Builtin.Str.strKind " " = 1 := by decide +kernel
theorem kind_dot : Builtin.Str.strKind "." = 1 := by decide +kernel
theorem kind_nl : Builtin.Str.strKind "\n" = 1 := by decide +kernel
theorem kind_pl : Builtin.Str.strKind " + " = 1 := by decide +kernel
theorem part_sp {a b : Str} (n : 32 ∉ cl a) : Txt.partition (a ++ " " ++ b) " " = (a, (" " : Str), b) := partition_at (sep_first sep_sp n)
theorem part_no {a : Str} (n : 32 ∉ cl a) : Txt.partition a " " = (a, Str.empty, Str.empty) := partition_none (sep_no sep_sp n)
/-! ### sums -/
def KEYS : List Str := ["x", "y", "c.d.z", "#2", "@0.11", "w", "c.x", "#0", "@10.2"]
def GdW (W : SumZ) : Prop := (W.map (·.1)).Nodup ∧ ∀ q ∈ W, ((q.1 = "" ∧ 1 ≤ q.2) ∨ (q.1 ∈ KEYS ∧ 0 ≤ q.2)) ∧ q.2 < 10 ^ 5
theorem keys_ok : ∀ k ∈ KEYS, k ≠ "" ∧ k.length ≠ 0 ∧ 32 ∉ cl k ∧ 43 ∉ cl k ∧ 10 ∉ cl k ∧ hoB k = true := by decide +kernel
theorem find_nd {W : SumZ} (nd : (W.map (·.1)).Nodup) {q : Str × Int} (m : q ∈ W) : W.find? (fun r => decide (r.1 = q.1)) = some q := by
  induction W with
  | nil => cases m
  | cons r W ih =>
    rcases List.mem_cons.mp m with rfl | m
    · rw [List.find?_cons_of_pos (p := fun r : Str × Int => decide (r.1 = q.1)) (decide_eq_true rfl)]
    · have nd2 := List.nodup_cons.mp nd
      have ne : r.1 ≠ q.1 := fun e => nd2.1 (List.mem_map.mpr ⟨q, m, e.symm⟩)
      rw [List.find?_cons_of_neg (p := fun r : Str × Int => decide (r.1 = q.1)) (by rw [decide_eq_false ne]; decide)]
      exact ih nd2.2 m
theorem fac_of {W : SumZ} (nd : (W.map (·.1)).Nodup) {q : Str × Int} (m : q ∈ W) : facZ W q.1 = q.2 := by
  unfold facZ
  rw [find_nd nd m]
  rfl
theorem has_iff {W : SumZ} {x : Str} : hasZ W x = true ↔ x ∈ W.map (·.1) := by
  unfold hasZ
  rw [List.any_eq_true]
  constructor
  · rintro ⟨q, m, e⟩
    exact List.mem_map.mpr ⟨q, m, of_decide_eq_true e⟩
  · intro m
    obtain ⟨q, m, e⟩ := List.mem_map.mp m
    exact ⟨q, m, decide_eq_true e⟩
theorem put_newZ {W : SumZ} {x : Str} {n : Int} (h : x ∉ W.map (·.1)) : putZ W x n = W ++ [(x, n)] := by
  unfold putZ
  rw [if_neg fun e => h (has_iff.mp e)]
/-- two sums that hold the same -/
structure SameW (W U : SumZ) : Prop where
  ks : (W.map (·.1)).Perm (U.map (·.1))
  fs : ∀ k ∈ W.map (·.1), facZ W k = facZ U k
theorem SameW.sw {W U : SumZ} (h : SameW W U) : swD W = swD U := by
  have e1 : srtS (W.map (·.1)) = srtS (U.map (·.1)) := srt_same h.ks
  have e2 : swL W = swL U := by
    unfold swL
    rw [← e1]
    refine List.map_congr_left fun k m => ?_
    rw [h.fs k ((srt_perm _).mem_iff.mp (List.mem_filter.mp m).1)]
  have e3 : hasZ W "" = hasZ U "" := by
    rw [Bool.eq_iff_iff, has_iff, has_iff]
    exact h.ks.mem_iff
  have e4 : swA W = swA U := by
    unfold swA
    rw [e2, e3]
    by_cases z : hasZ U "" = true
    · rw [if_pos z, if_pos z, h.fs _ (has_iff.mp (e3.trans z))]
    · rw [if_neg z, if_neg z]
  unfold swD
  rw [e4]
theorem SameW.asc {W U : SumZ} (h : SameW W U) : ascZ W = ascZ U := by
  unfold ascZ
  rw [srt_same h.ks]
  refine List.map_congr_left fun k m => ?_
  rw [h.fs k (h.ks.mem_iff.mpr ((srt_perm _).mem_iff.mp m))]
theorem map_keys {ks : List Str} {g : Str → Int} : (ks.map fun k => (k, g k)).map (·.1) = ks := by
  rw [List.map_map]
  exact List.map_id' ks
theorem fac_map {ks : List Str} (nd : ks.Nodup) {g : Str → Int} {k : Str} (m : k ∈ ks) : facZ (ks.map fun k => (k, g k)) k = g k := fac_of (q := (k, g k)) (by rw [map_keys]; exact nd) (List.mem_map.mpr ⟨k, m, rfl⟩)
theorem same_map {W : SumZ} {ks : List Str} (nd : (W.map (·.1)).Nodup) (p : ks.Perm (W.map (·.1))) : SameW (ks.map fun k => (k, facZ W k)) W := by
  refine ⟨by rw [map_keys]; exact p, fun k m => ?_⟩
  rw [map_keys] at m
  exact fac_map (p.nodup_iff.mpr nd) m
theorem asc_same {W : SumZ} (nd : (W.map (·.1)).Nodup) : SameW (ascZ W) W := same_map nd (srt_perm _)
/-- the keys in the order of the text -/
def txK (W : SumZ) : List Str := (srtS (W.map (·.1))).filter (fun k => !(k.length == 0)) ++ if hasZ W "" = true then [("" : Str)] else []
theorem filter_app_perm {ks : List Str} (nd : ks.Nodup) (z : ∀ k ∈ ks, k.length = 0 → k = "") : (ks.filter (fun k => !(k.length == 0)) ++ if ("" : Str) ∈ ks then [("" : Str)] else []).Perm ks := by
  induction ks with
  | nil => exact .refl _
  | cons k ks ih =>
    have nd2 := List.nodup_cons.mp nd
    have ih := ih nd2.2 fun x m => z x (List.mem_cons_of_mem _ m)
    by_cases q : k.length = 0
    · have e := z k List.mem_cons_self q
      subst e
      rw [List.filter_cons_of_neg (by decide +kernel), if_pos List.mem_cons_self]
      rw [if_neg nd2.1, List.append_nil] at ih
      exact (List.perm_append_comm).trans (ih.cons ("" : Str))
    · rw [List.filter_cons_of_pos (by rw [beq_eq_false_iff_ne.mpr q]; rfl)]
      have e : ("" : Str) ∈ k :: ks ↔ ("" : Str) ∈ ks := by
        rw [List.mem_cons]
        constructor
        · rintro (e | m)
          · exact (q (by rw [← e]; decide +kernel)).elim
          · exact m
        · exact .inr
      rw [show (if ("" : Str) ∈ k :: ks then [("" : Str)] else []) = if ("" : Str) ∈ ks then [("" : Str)] else [] from by simp only [e]]
      exact ih.cons k
theorem len0 {k : Str} (h : k.length = 0) : k = "" := str_ext (by
  have : cl k = [] := List.eq_nil_of_length_eq_zero (by rw [cl_len]; exact h)
  rw [this]
  decide +kernel)
theorem txK_perm {W : SumZ} (nd : (W.map (·.1)).Nodup) : (txK W).Perm (W.map (·.1)) := by
  have p := srt_perm (W.map (·.1))
  have z := filter_app_perm (p.nodup_iff.mpr nd) fun k _ => len0
  unfold txK
  have e : (hasZ W "" = true) = (("" : Str) ∈ srtS (W.map (·.1))) := propext (has_iff.trans p.mem_iff.symm)
  simp only [e]
  exact z.trans p
def itemS (W : SumZ) (k : Str) : Str := if k = "" then numS (facZ W "") else numS (facZ W k) ++ " " ++ k
theorem swA_eq {W : SumZ} : swA W = (txK W).map (itemS W) := by
  have e : swL W = ((srtS (W.map (·.1))).filter fun k => !(k.length == 0)).map (itemS W) := by
    unfold swL
    refine List.map_congr_left fun k m => ?_
    have := (List.mem_filter.mp m).2
    unfold itemS
    rw [if_neg fun e => by
      rw [e] at this
      exact absurd this (by decide +kernel)]
  unfold swA txK
  by_cases z : hasZ W "" = true
  · rw [if_pos z, if_pos z, List.map_append, e]
    rfl
  · rw [if_neg z, if_neg z, List.append_nil, e]
section
variable {W : SumZ}
theorem gd_fac (h : GdW W) {k : Str} (m : k ∈ W.map (·.1)) : ((k = "" ∧ 1 ≤ facZ W k) ∨ (k ∈ KEYS ∧ 0 ≤ facZ W k)) ∧ facZ W k < 10 ^ 5 := by
  obtain ⟨q, mq, rfl⟩ := List.mem_map.mp m
  rw [fac_of h.1 mq]
  exact h.2 q mq
theorem gd_pos (h : GdW W) {k : Str} (m : k ∈ W.map (·.1)) : 0 ≤ facZ W k ∧ facZ W k < 10 ^ 41 := by
  obtain ⟨a | a, b⟩ := gd_fac h m
  · exact ⟨by omega, by omega⟩
  · exact ⟨a.2, by omega⟩
theorem item_plus (h : GdW W) {k : Str} (m : k ∈ W.map (·.1)) : 43 ∉ cl (itemS W k) ∧ 10 ∉ cl (itemS W k) := by
  have n1 := numS_no (gd_pos h m).1 (c := 43) (.inl (by decide))
  have n2 := numS_no (gd_pos h m).1 (c := 10) (.inl (by decide))
  unfold itemS
  split
  · next e =>
    subst e
    exact ⟨n1, n2⟩
  · next e =>
    obtain ⟨⟨q, _⟩ | ⟨q, _⟩, _⟩ := gd_fac h m
    · exact (e q).elim
    · obtain ⟨_, _, _, k1, k2, _⟩ := keys_ok k q
      rw [cl_app, cl_app]
      refine ⟨fun z => ?_, fun z => ?_⟩
      · rcases List.mem_append.mp z with z | z
        · rcases List.mem_append.mp z with z | z
          · exact n1 z
          · exact absurd z (by decide +kernel)
        · exact k1 z
      · rcases List.mem_append.mp z with z | z
        · rcases List.mem_append.mp z with z | z
          · exact n2 z
          · exact absurd z (by decide +kernel)
        · exact k2 z
theorem item_part (h : GdW W) {k : Str} (m : k ∈ W.map (·.1)) : rcD (Txt.partition (itemS W k) " ").1 = some (facZ W k) ∧ (Txt.partition (itemS W k) " ").2.2 = k := by
  obtain ⟨p0, p1⟩ := gd_pos h m
  have n1 := numS_no p0 (c := 32) (.inl (by decide))
  unfold itemS
  split
  · next e =>
    subst e
    rw [part_no n1]
    exact ⟨rcD_num p0 p1, (by decide +kernel : Str.empty = ("" : Str))⟩
  · rw [part_sp n1]
    exact ⟨rcD_num p0 p1, rfl⟩
theorem rsGo_items (h : GdW W) : ∀ {ks : List Str} {U : SumZ}, (∀ k ∈ ks, k ∈ W.map (·.1)) → ((U.map (·.1)) ++ ks).Nodup → rsGo (ks.map (itemS W)) U = some (U ++ ks.map fun k => (k, facZ W k))
  | [], U, _, _ => by
    show some U = some (U ++ [])
    rw [List.append_nil]
  | k :: ks, U, m, nd => by
    obtain ⟨e1, e2⟩ := item_part h (m k List.mem_cons_self)
    rw [List.map_cons, rsGo, e1]
    show rsGo _ (putZ U (Txt.partition (itemS W k) " ").2.2 (facZ W k)) = _
    rw [e2]
    have nd2 := List.nodup_append.mp nd
    rw [put_newZ fun z => nd2.2.2 k z k List.mem_cons_self rfl]
    rw [rsGo_items h (fun x z => m x (List.mem_cons_of_mem _ z)) (by
      rw [List.map_append, List.append_assoc]
      exact nd)]
    rw [List.append_assoc]
    rfl
theorem txK_mem (h : GdW W) {k : Str} (m : k ∈ txK W) : k ∈ W.map (·.1) := (txK_perm h.1).mem_iff.mp m
theorem swD_zero (h : GdW W) (n : txK W ≠ []) : swD W ≠ "0" ∧ swD W = Str.join " + " ((txK W).map (itemS W)) := by
  have ea : (swA W).isEmpty = false := by
    rw [swA_eq]
    cases e : txK W with
    | nil => exact (n e).elim
    | cons a r => rfl
  have e : swD W = Str.join " + " ((txK W).map (itemS W)) := by
    unfold swD
    rw [ea, if_neg (by decide), join_eq, swA_eq]
  refine ⟨fun z => ?_, e⟩
  have sp := split_join sep_pl kind_pl (ps := (txK W).map (itemS W)) (by
    intro q
    exact n (List.map_eq_nil_iff.mp q)) fun p m => by
    obtain ⟨k, mk, rfl⟩ := List.mem_map.mp m
    exact (item_plus h (txK_mem h mk)).1
  rw [← e, z] at sp
  have s0 : Txt.split "0" " + " = [("0" : Str)] := by decide +kernel
  rw [s0] at sp
  cases q : txK W with
  | nil => exact n q
  | cons k r =>
    rw [q, List.map_cons] at sp
    have e1 : ("0" : Str) = itemS W k := (List.cons.inj sp).1
    have mk := txK_mem h (show k ∈ txK W by rw [q]; exact List.mem_cons_self)
    obtain ⟨i1, i2⟩ := item_part h mk
    rw [← e1] at i1 i2
    have i1 : some (0 : Int) = some (facZ W k) := i1 ▸ (by decide +kernel : rcD (Txt.partition "0" " ").1 = some (0 : Int)).symm
    have k0 : k = "" := by
      rw [← i2]
      decide +kernel
    obtain ⟨⟨_, a⟩ | ⟨a, _⟩, _⟩ := gd_fac h mk
    · have := Option.some.inj i1
      omega
    · exact (keys_ok k a).1 k0
theorem rsD_sw (h : GdW W) : rsD (swD W) = some ((txK W).map fun k => (k, facZ W k)) := by
  by_cases n : txK W = []
  · have e : swD W = "0" := by
      unfold swD
      rw [swA_eq, n]
      rfl
    rw [e, n]
    rfl
  · obtain ⟨z, e⟩ := swD_zero h n
    unfold rsD
    rw [if_neg z, e, split_join sep_pl kind_pl (fun q => n (List.map_eq_nil_iff.mp q)) fun p m => by
      obtain ⟨k, mk, rfl⟩ := List.mem_map.mp m
      exact (item_plus h (txK_mem h mk)).1]
    rw [rsGo_items h (fun k m => txK_mem h m) (by
      show ([] ++ txK W).Nodup
      rw [List.nil_append]
      exact (txK_perm h.1).nodup_iff.mpr h.1)]
    rfl
theorem wr_map (h : GdW W) {ks : List Str} (m : ∀ k ∈ ks, k ∈ W.map (·.1)) : wrB (ks.map fun k => (k, facZ W k)) = true := by
  unfold wrB
  rw [Bool.and_eq_true, List.all_eq_true, List.all_eq_true]
  refine ⟨fun q mq => ?_, fun q mq => ?_⟩
  · obtain ⟨k, mk, rfl⟩ := List.mem_map.mp mq
    exact decide_eq_true (gd_pos h (m k mk)).1
  · obtain ⟨k, mk, rfl⟩ := List.mem_map.mp mq
    show (if k = "" then decide (1 ≤ facZ W k) else hoB k) = true
    obtain ⟨⟨a, b⟩ | ⟨a, b⟩, _⟩ := gd_fac h (m k mk)
    · rw [if_pos a]
      exact decide_eq_true b
    · rw [if_neg (keys_ok k a).1]
      exact (keys_ok k a).2.2.2.2.2
theorem rwD_sw (h : GdW W) : rwD (swD W) = some (ascZ W) := by
  have s := same_map h.1 (txK_perm h.1)
  unfold rwD
  rw [rsD_sw h]
  show (if _ then _ else _) = _
  rw [wr_map h fun k m => txK_mem h m, s.sw, s.asc, decide_eq_false (fun z => z rfl)]
  rfl
theorem gd_wr (h : GdW W) : wrB W = true := by
  unfold wrB
  rw [Bool.and_eq_true, List.all_eq_true, List.all_eq_true]
  refine ⟨fun q mq => ?_, fun q mq => ?_⟩
  · obtain ⟨⟨_, a⟩ | ⟨_, a⟩, _⟩ := h.2 q mq
    · exact decide_eq_true (by omega)
    · exact decide_eq_true a
  · obtain ⟨⟨a, b⟩ | ⟨a, b⟩, _⟩ := h.2 q mq
    · rw [if_pos a]
      exact decide_eq_true b
    · rw [if_neg (keys_ok _ a).1]
      exact (keys_ok _ a).2.2.2.2.2
theorem gd_asc_wr (h : GdW W) : wrB (ascZ W) = true := wr_map h fun k m => (srt_perm _).mem_iff.mp m
end
end Vb
end L2

set_option Elab.async false
set_option linter.all false
set_option maxRecDepth 100000
set_option maxHeartbeats 4000000
/-! Vb, k88: scripts, written and read. -/
namespace L2
namespace Vb
open PySem PySem.Spec PyProof.Rows
open PySem.StrLaws (At)
def MARKS : List Mk := [("m", []), ("again", [("in" : Str), "c"]), ("mbc", [("do" : Str)])]
mutual
def gdC : Cm → Prop
  | .bare w => w ∈ BARE_W
  | .ltr _ n => ∃ i, n = some i ∧ 0 ≤ i ∧ i < 10 ^ 40
  | .sum _ W => ∃ U, W = some U ∧ GdW U ∧ U.length ≤ 4
  | .exch n m => (∃ i, n = some i ∧ 0 ≤ i ∧ i < 10 ^ 40) ∧ ∃ x ∈ MARKS, m = some x
  | .tr cs => gdS cs
def gdS : List Cm → Prop
  | [] => True
  | c :: cs => gdC c ∧ gdS cs
end
mutual
def nmC : Cm → Cm
  | .bare w => .bare w
  | .ltr b n => .ltr b n
  | .sum k W => .sum k (W.map ascZ)
  | .exch n m => .exch n m
  | .tr cs => .tr (nmS cs)
def nmS : List Cm → List Cm
  | [] => []
  | c :: cs => nmC c :: nmS cs
end
/-- one line of a command that is no try -/
def boC : Cm → Str
  | .bare w => w
  | .ltr b n => letW b ++ " " ++ numS (n.getD 0)
  | .sum k W => sumW k ++ " " ++ swD (W.getD [])
  | .exch n m => "exchange" ++ " " ++ numS (n.getD 0) ++ " " ++ mwD (m.getD ("", []))
  | .tr _ => ""
theorem sumW_ok : ∀ k : Fin 4, 32 ∉ cl (sumW k) ∧ 10 ∉ cl (sumW k) ∧ (cl (sumW k)).head? ≠ some 32 ∧ cl (sumW k) ≠ [] := by decide +kernel
theorem letW_ok : ∀ b : Bool, 32 ∉ cl (letW b) ∧ 10 ∉ cl (letW b) ∧ (cl (letW b)).head? ≠ some 32 ∧ cl (letW b) ≠ [] := by decide +kernel
theorem bare_ok : ∀ w ∈ BARE_W, 32 ∉ cl w ∧ 10 ∉ cl w ∧ (cl w).head? ≠ some 32 ∧ cl w ≠ [] ∧ (w ≠ "try" ∧ w ≠ "end") ∧ w ≠ "number" ∧ w ≠ "choice" ∧ w ≠ "read" ∧ w ≠ "move" ∧ w ≠ "suppose" ∧ w ≠ "put" ∧ w ≠ "exchange" := by decide +kernel
theorem marks_ok : ∀ m ∈ MARKS, rmD (mwD m) = some m ∧ 10 ∉ cl (mwD m) ∧ mkB m = true := by decide +kernel
theorem rd_bare {w : Str} (h : w ∈ BARE_W) : rdC w = .bare w := by
  obtain ⟨a, _, _, _, _, n1, n2, n3, n4, n5, n6, n7⟩ := bare_ok w h
  unfold rdC
  rw [part_no a]
  simp only [if_neg n1, if_neg n2, if_neg n3, if_neg n4, if_neg n5, if_neg n6, if_neg n7]
theorem rd_let {b : Bool} {i : Int} (h0 : 0 ≤ i) (h1 : i < 10 ^ 40) : rdC (letW b ++ " " ++ numS i) = .ltr b (some i) := by
  unfold rdC
  rw [part_sp (letW_ok b).1]
  have e := rcD_num h0 (show i < 10 ^ 41 by omega)
  cases b with
  | true =>
    show (if ("number" : Str) = "number" then Cm.ltr true (rcD (numS i)) else _) = _
    rw [if_pos rfl, e]
  | false =>
    show (if ("choice" : Str) = "number" then _ else if ("choice" : Str) = "choice" then Cm.ltr false (rcD (numS i)) else _) = _
    rw [if_neg (by decide +kernel), if_pos rfl, e]
theorem rd_sum {k : Fin 4} {U : SumZ} (h : GdW U) : rdC (sumW k ++ " " ++ swD U) = .sum k (some (ascZ U)) := by
  unfold rdC
  rw [part_sp (sumW_ok k).1]
  have e := rwD_sw h
  have q : k = 0 ∨ k = 1 ∨ k = 2 ∨ k = 3 := by
    match k with
    | 0 => exact .inl rfl
    | 1 => exact .inr (.inl rfl)
    | 2 => exact .inr (.inr (.inl rfl))
    | 3 => exact .inr (.inr (.inr rfl))
  rcases q with rfl | rfl | rfl | rfl
  · show (if ("read" : Str) = "number" then _ else if ("read" : Str) = "choice" then _ else if ("read" : Str) = "read" then Cm.sum 0 (rwD (swD U)) else _) = _
    rw [if_neg (by decide +kernel), if_neg (by decide +kernel), if_pos rfl, e]
  · show (if ("move" : Str) = "number" then _ else if ("move" : Str) = "choice" then _ else if ("move" : Str) = "read" then _ else if ("move" : Str) = "move" then Cm.sum 1 (rwD (swD U)) else _) = _
    rw [if_neg (by decide +kernel), if_neg (by decide +kernel), if_neg (by decide +kernel), if_pos rfl, e]
  · show (if ("suppose" : Str) = "number" then _ else if ("suppose" : Str) = "choice" then _ else if ("suppose" : Str) = "read" then _ else if ("suppose" : Str) = "move" then _ else if ("suppose" : Str) = "suppose" then Cm.sum 2 (rwD (swD U)) else _) = _
    rw [if_neg (by decide +kernel), if_neg (by decide +kernel), if_neg (by decide +kernel), if_neg (by decide +kernel), if_pos rfl, e]
  · show (if ("put" : Str) = "number" then _ else if ("put" : Str) = "choice" then _ else if ("put" : Str) = "read" then _ else if ("put" : Str) = "move" then _ else if ("put" : Str) = "suppose" then _ else if ("put" : Str) = "put" then Cm.sum 3 (rwD (swD U)) else _) = _
    rw [if_neg (by decide +kernel), if_neg (by decide +kernel), if_neg (by decide +kernel), if_neg (by decide +kernel), if_neg (by decide +kernel), if_pos rfl, e]
theorem rd_exch {i : Int} {m : Mk} (h0 : 0 ≤ i) (h1 : i < 10 ^ 40) (hm : m ∈ MARKS) : rdC ("exchange" ++ " " ++ numS i ++ " " ++ mwD m) = .exch (some i) (some m) := by
  have a : (("exchange" : Str) ++ " " ++ numS i ++ " " ++ mwD m) = ("exchange" : Str) ++ " " ++ (numS i ++ " " ++ mwD m) := by
    simp only [Str.append_assoc]
  unfold rdC
  rw [a, part_sp (by decide +kernel)]
  show (if ("exchange" : Str) = "number" then _ else if ("exchange" : Str) = "choice" then _ else if ("exchange" : Str) = "read" then _ else if ("exchange" : Str) = "move" then _ else if ("exchange" : Str) = "suppose" then _ else if ("exchange" : Str) = "put" then _ else if ("exchange" : Str) = "exchange" then Cm.exch (rcD (Txt.partition (numS i ++ " " ++ mwD m) " ").1) (rmD (Txt.partition (numS i ++ " " ++ mwD m) " ").2.2) else _) = _
  rw [if_neg (by decide +kernel), if_neg (by decide +kernel), if_neg (by decide +kernel), if_neg (by decide +kernel), if_neg (by decide +kernel), if_neg (by decide +kernel), if_pos rfl]
  rw [part_sp (numS_no h0 (.inl (by decide)))]
  rw [rcD_num h0 (by omega), (marks_ok m hm).1]
/-! ### lines -/
def Spc (l : Str) : Prop := ∀ c ∈ cl l, c = 32
theorem spc_nil : Spc "" := fun c m => absurd m (by
  have : cl ("" : Str) = [] := by decide +kernel
  rw [this]
  exact List.not_mem_nil)
theorem spc_more {l : Str} (h : Spc l) : Spc (l ++ "  ") := fun c m => by
  rw [cl_app] at m
  rcases List.mem_append.mp m with m | m
  · exact h c m
  · have : ∀ c ∈ cl ("  " : Str), c = 32 := by decide +kernel
    exact this c m
theorem ls_spc {l b : Str} (h : Spc l) (hb : (cl b).head? ≠ some 32) : lsD (l ++ b) = b := by
  have tw : ((cl (l ++ b)).takeWhile (cl " ").contains).length = l.length := by
    rw [cl_app, List.takeWhile_append_of_pos fun c m => by
      rw [h c m]
      decide +kernel]
    have : (cl b).takeWhile (cl " ").contains = [] := by
      cases e : cl b with
      | nil => rfl
      | cons c r =>
        rw [e] at hb
        have nc : c ≠ 32 := fun z => hb (by rw [z]; rfl)
        rw [List.takeWhile_cons_of_neg]
        have : (cl " ").contains c = decide (c = 32) := by
          have z : cl " " = [32] := by decide +kernel
          rw [z]
          simp [List.contains_cons]
        rw [this, decide_eq_false nc]
        decide
    rw [this, List.append_nil, cl_len]
  have lo : stripLo (" " : Str).cps.contains true (l ++ b) = l.length := by
    unfold stripLo
    rw [if_pos rfl]
    have ef : ((" " : Str).cps.contains : Nat → Bool) = (cl " ").contains := by
      funext c
      exact (Array.contains_toList (xs := (" " : Str).cps)).symm
    rw [ef]
    exact tw
  have hi : ∀ n, stripHi (" " : Str).cps.contains false (l ++ b) n = (l ++ b).length := fun n => rfl
  unfold lsD Txt.lstripChars Txt.stripBy
  unfold stripSame stripped
  rw [lo, hi, sub_post rfl]
  split
  · next q =>
    have q1 : l.length = 0 := by
      have := (Bool.and_eq_true_iff.mp q).1
      exact eq_of_beq this
    have : l = "" := len0 q1
    rw [this]
    refine str_ext ?_
    rw [cl_app]
    have z : cl ("" : Str) = [] := by decide +kernel
    rw [z, List.nil_append]
  · rfl
theorem hd_app {a b : Str} (ha : (cl a).head? ≠ some 32) (n : cl a ≠ []) : (cl (a ++ b)).head? ≠ some 32 := by
  rw [cl_app]
  cases e : cl a with
  | nil => exact (n e).elim
  | cons c r =>
    rw [e] at ha
    exact ha
theorem mem_join {y : Str} {c : Nat} : ∀ {ps : List Str}, c ∈ cl (Str.join y ps) → c ∈ cl y ∨ ∃ p ∈ ps, c ∈ cl p
  | [], m => absurd m (by
    have : cl (Str.join y []) = [] := by
      show cl Str.empty = []
      decide +kernel
    rw [this]
    exact List.not_mem_nil)
  | [p], m => .inr ⟨p, List.mem_cons_self, m⟩
  | p :: q :: r, m => by
    have m : c ∈ cl (p ++ y ++ Str.join y (q :: r)) := m
    rw [cl_app, cl_app] at m
    rcases List.mem_append.mp m with m | m
    · rcases List.mem_append.mp m with m | m
      · exact .inr ⟨p, List.mem_cons_self, m⟩
      · exact .inl m
    · rcases mem_join m with z | ⟨s, ms, z⟩
      · exact .inl z
      · exact .inr ⟨s, List.mem_cons_of_mem _ ms, z⟩
theorem sw_nl {U : SumZ} (h : GdW U) : 10 ∉ cl (swD U) := by
  by_cases n : txK U = []
  · have e : swD U = "0" := by
      unfold swD
      rw [swA_eq, n]
      rfl
    rw [e]
    decide +kernel
  · rw [(swD_zero h n).2]
    intro z
    rcases mem_join z with z | ⟨p, mp, z⟩
    · exact absurd z (by decide +kernel)
    · obtain ⟨k, mk, rfl⟩ := List.mem_map.mp mp
      exact (item_plus h (txK_mem h mk)).2 z
/-- what its line is -/
structure LnOk (b : Str) : Prop where
  nl : 10 ∉ cl b
  hd : (cl b).head? ≠ some 32
  ne : cl b ≠ []
theorem app_ne {a b : Str} (h : cl a ≠ []) : cl (a ++ b) ≠ [] := by
  rw [cl_app]
  intro z
  exact h (List.append_eq_nil_iff.mp z).1
theorem not_app {a b : Str} {c : Nat} (h : c ∉ cl a) (k : c ∉ cl b) : c ∉ cl (a ++ b) := by
  rw [cl_app]
  intro z
  exact (List.mem_append.mp z).elim h k
theorem sp_nl : 10 ∉ cl (" " : Str) := by decide +kernel
theorem bo_ok {c : Cm} (h : gdC c) (nt : ∀ cs, c ≠ .tr cs) : LnOk (boC c) ∧ rdC (boC c) = nmC c ∧ boC c ≠ "try" ∧ boC c ≠ "end" := by
  have has : ∀ {x : Str}, 32 ∈ cl x → x ≠ "try" ∧ x ≠ "end" := fun {x} m => ⟨fun e => by
    rw [e] at m
    exact absurd m (by decide +kernel), fun e => by
    rw [e] at m
    exact absurd m (by decide +kernel)⟩
  have mid : ∀ {a b : Str}, 32 ∈ cl (a ++ " " ++ b) := fun {a b} => by
    rw [cl_app, cl_app]
    exact List.mem_append_left _ (List.mem_append_right _ (by decide +kernel))
  cases c with
  | bare w =>
    obtain ⟨_, a, b, d, e, _⟩ := bare_ok w h
    exact ⟨⟨a, b, d⟩, rd_bare h, e⟩
  | ltr b n =>
    obtain ⟨i, rfl, h0, h1⟩ := h
    obtain ⟨_, k2, k3, k4⟩ := letW_ok b
    have n1 := numS_no h0 (c := 10) (.inl (by decide))
    exact ⟨⟨not_app (not_app k2 sp_nl) n1, hd_app (hd_app k3 k4) (app_ne k4), app_ne (app_ne k4)⟩, rd_let h0 h1, has mid⟩
  | sum k W =>
    obtain ⟨U, rfl, g, _⟩ := h
    obtain ⟨_, k2, k3, k4⟩ := sumW_ok k
    exact ⟨⟨not_app (not_app k2 sp_nl) (sw_nl g), hd_app (hd_app k3 k4) (app_ne k4), app_ne (app_ne k4)⟩, rd_sum g, has mid⟩
  | exch n m =>
    obtain ⟨⟨i, rfl, h0, h1⟩, x, mx, rfl⟩ := h
    have n1 := numS_no h0 (c := 10) (.inl (by decide))
    have k2 : 10 ∉ cl ("exchange" : Str) := by decide +kernel
    have k3 : (cl ("exchange" : Str)).head? ≠ some 32 := by decide +kernel
    have k4 : cl ("exchange" : Str) ≠ [] := by decide +kernel
    exact ⟨⟨not_app (not_app (not_app (not_app k2 sp_nl) n1) sp_nl) (marks_ok x mx).2.1, hd_app (hd_app (hd_app (hd_app k3 k4) (app_ne k4)) (app_ne (app_ne k4))) (app_ne (app_ne (app_ne k4))), app_ne (app_ne (app_ne (app_ne k4)))⟩, rd_exch h0 h1 mx, has mid⟩
  | tr cs => exact (nt cs rfl).elim
theorem ln_bo {c : Cm} (nt : ∀ cs, c ≠ .tr cs) (l : Str) : lnC c l = [l ++ boC c] := by
  cases c with
  | bare w => simp only [lnC, boC]
  | ltr b n => simp only [lnC, boC, Str.append_assoc]
  | sum k W => simp only [lnC, boC, Str.append_assoc]
  | exch n m => simp only [lnC, boC, Str.append_assoc]
  | tr cs => exact (nt cs rfl).elim
theorem hd_try : (cl ("try" : Str)).head? ≠ some 32 := by decide +kernel
theorem hd_end : (cl ("end" : Str)).head? ≠ some 32 := by decide +kernel
theorem end_try : ¬ ("end" : Str) = "try" := by decide +kernel
theorem rdL_cons {t : Str} {ts : List Str} {ar : List (List Cm)} {s : List Cm} : rdL (t :: ts) ar s = if lsD t = "try" then rdL ts (s :: ar) [] else if lsD t = "end" then (match ar with
      | [] => none
      | r :: ar => rdL ts ar (r ++ [.tr s])) else rdL ts ar (s ++ [rdC (lsD t)]) := by
  cases ar <;> rfl
mutual
theorem rdL_c : ∀ {c : Cm} {l : Str} {ts : List Str} {ar : List (List Cm)} {s : List Cm}, gdC c → Spc l → rdL (lnC c l ++ ts) ar s = rdL ts ar (s ++ [nmC c])
  | .tr cs, l, ts, ar, s, h, hl => by
    have h : gdS cs := by simpa only [gdC] using h
    rw [lnC, List.append_assoc, List.append_assoc]
    show rdL ((l ++ "try") :: (lnS cs (l ++ "  ") ++ ((l ++ "end") :: ts))) ar s = _
    rw [rdL_cons, ls_spc hl hd_try, if_pos rfl, rdL_s h (spc_more hl), rdL_cons, ls_spc hl hd_end, if_neg end_try, if_pos rfl, List.nil_append, nmC]
  | .bare w, l, ts, ar, s, h, hl => by
    obtain ⟨a, b, d, e⟩ := bo_ok h (by intro cs z; cases z)
    rw [ln_bo (by intro cs z; cases z)]
    show rdL ((l ++ boC (.bare w)) :: ts) ar s = _
    rw [rdL_cons, ls_spc hl a.hd, if_neg d, if_neg e, b]
  | .ltr q n, l, ts, ar, s, h, hl => by
    obtain ⟨a, b, d, e⟩ := bo_ok h (by intro cs z; cases z)
    rw [ln_bo (by intro cs z; cases z)]
    show rdL ((l ++ boC (.ltr q n)) :: ts) ar s = _
    rw [rdL_cons, ls_spc hl a.hd, if_neg d, if_neg e, b]
  | .sum q n, l, ts, ar, s, h, hl => by
    obtain ⟨a, b, d, e⟩ := bo_ok h (by intro cs z; cases z)
    rw [ln_bo (by intro cs z; cases z)]
    show rdL ((l ++ boC (.sum q n)) :: ts) ar s = _
    rw [rdL_cons, ls_spc hl a.hd, if_neg d, if_neg e, b]
  | .exch q n, l, ts, ar, s, h, hl => by
    obtain ⟨a, b, d, e⟩ := bo_ok h (by intro cs z; cases z)
    rw [ln_bo (by intro cs z; cases z)]
    show rdL ((l ++ boC (.exch q n)) :: ts) ar s = _
    rw [rdL_cons, ls_spc hl a.hd, if_neg d, if_neg e, b]
theorem rdL_s : ∀ {cs : List Cm} {l : Str} {ts : List Str} {ar : List (List Cm)} {s : List Cm}, gdS cs → Spc l → rdL (lnS cs l ++ ts) ar s = rdL ts ar (s ++ nmS cs)
  | [], l, ts, ar, s, _, _ => by
    rw [lnS, nmS, List.append_nil, List.nil_append]
  | c :: cs, l, ts, ar, s, h, hl => by
    have h : gdC c ∧ gdS cs := by simpa only [gdS] using h
    rw [lnS, List.append_assoc, rdL_c h.1 hl, rdL_s h.2 hl, nmS, List.append_assoc]
    rfl
end
end Vb
end L2

set_option Elab.async false
set_option linter.all false
set_option maxRecDepth 100000
set_option maxHeartbeats 4000000
/-! Vb, k88: the text of a script and what is read from it, from it bent. -/
namespace L2
namespace Vb
open PySem PySem.Spec PyProof.Rows
open PySem.StrLaws (At)
theorem tr_not {c : Cm} (h : ∀ cs, c ≠ .tr cs) : ∀ cs, c ≠ .tr cs := h
mutual
theorem ln_nlC : ∀ {c : Cm} {l : Str}, gdC c → 10 ∉ cl l → ∀ t ∈ lnC c l, 10 ∉ cl t
  | .tr cs, l, h, hl, t, m => by
    have h : gdS cs := by simpa only [gdC] using h
    rw [lnC] at m
    rcases List.mem_append.mp m with m | m
    · rcases List.mem_append.mp m with m | m
      · rw [List.mem_singleton.mp m]
        exact not_app hl (by decide +kernel)
      · exact ln_nlS h (not_app hl (by decide +kernel)) t m
    · rw [List.mem_singleton.mp m]
      exact not_app hl (by decide +kernel)
  | .bare w, l, h, hl, t, m => by
    rw [ln_bo (by intro cs z; cases z)] at m
    rw [List.mem_singleton.mp m]
    exact not_app hl (bo_ok h (by intro cs z; cases z)).1.nl
  | .ltr q n, l, h, hl, t, m => by
    rw [ln_bo (by intro cs z; cases z)] at m
    rw [List.mem_singleton.mp m]
    exact not_app hl (bo_ok h (by intro cs z; cases z)).1.nl
  | .sum q n, l, h, hl, t, m => by
    rw [ln_bo (by intro cs z; cases z)] at m
    rw [List.mem_singleton.mp m]
    exact not_app hl (bo_ok h (by intro cs z; cases z)).1.nl
  | .exch q n, l, h, hl, t, m => by
    rw [ln_bo (by intro cs z; cases z)] at m
    rw [List.mem_singleton.mp m]
    exact not_app hl (bo_ok h (by intro cs z; cases z)).1.nl
theorem ln_nlS : ∀ {cs : List Cm} {l : Str}, gdS cs → 10 ∉ cl l → ∀ t ∈ lnS cs l, 10 ∉ cl t
  | [], l, _, _, t, m => by
    rw [lnS] at m
    cases m
  | c :: cs, l, h, hl, t, m => by
    have h : gdC c ∧ gdS cs := by simpa only [gdS] using h
    rw [lnS] at m
    rcases List.mem_append.mp m with m | m
    · exact ln_nlC h.1 hl t m
    · exact ln_nlS h.2 hl t m
end
theorem nl_nil : 10 ∉ cl ("" : Str) := by decide +kernel
mutual
theorem nm_ln : ∀ {c : Cm} {l : Str}, gdC c → lnC (nmC c) l = lnC c l
  | .tr cs, l, h => by
    have h : gdS cs := by simpa only [gdC] using h
    rw [nmC, lnC, lnC, nm_lnS h]
  | .bare w, l, h => by rw [nmC]
  | .ltr q n, l, h => by rw [nmC]
  | .exch q n, l, h => by rw [nmC]
  | .sum q n, l, h => by
    obtain ⟨U, rfl, g, g4⟩ := h
    rw [nmC, lnC, lnC]
    show [l ++ sumW q ++ " " ++ swD (ascZ U)] = [l ++ sumW q ++ " " ++ swD U]
    rw [(asc_same g.1).sw]
theorem nm_lnS : ∀ {cs : List Cm} {l : Str}, gdS cs → lnS (nmS cs) l = lnS cs l
  | [], l, _ => by rw [nmS]
  | c :: cs, l, h => by
    have h : gdC c ∧ gdS cs := by simpa only [gdS] using h
    rw [nmS, lnS, lnS, nm_ln h.1, nm_lnS h.2]
end
mutual
theorem gd_cm : ∀ {c : Cm}, gdC c → cmB c = true ∧ cmB (nmC c) = true
  | .tr cs, h => by
    have h : gdS cs := by simpa only [gdC] using h
    rw [nmC, cmB, cmB]
    exact gd_sc h
  | .bare w, h => by
    rw [nmC, cmB]
    have : BARE_W.contains w = true := List.contains_iff_mem.mpr h
    exact ⟨this, this⟩
  | .ltr q n, h => by
    obtain ⟨i, rfl, h0, _⟩ := h
    rw [nmC, cmB]
    exact ⟨decide_eq_true h0, decide_eq_true h0⟩
  | .exch q n, h => by
    obtain ⟨⟨i, rfl, h0, _⟩, x, mx, rfl⟩ := h
    rw [nmC, cmB]
    have : (coB (some i) && (Option.map mkB (some x)).getD false) = true := by
      show (decide (0 ≤ i) && mkB x) = true
      rw [decide_eq_true h0, (marks_ok x mx).2.2]
      rfl
    exact ⟨this, this⟩
  | .sum q n, h => by
    obtain ⟨U, rfl, g, g4⟩ := h
    rw [nmC, cmB, cmB]
    exact ⟨gd_wr g, gd_asc_wr g⟩
theorem gd_sc : ∀ {cs : List Cm}, gdS cs → scB cs = true ∧ scB (nmS cs) = true
  | [], _ => ⟨by rw [scB], by rw [nmS, scB]⟩
  | c :: cs, h => by
    have h : gdC c ∧ gdS cs := by simpa only [gdS] using h
    rw [nmS, scB, scB, (gd_cm h.1).1, (gd_cm h.1).2, (gd_sc h.2).1, (gd_sc h.2).2]
    exact ⟨rfl, rfl⟩
end
theorem lnC_ne {c : Cm} {l : Str} : ∃ t r, lnC c l = t :: r := by
  cases c with
  | tr cs => exact ⟨_, _, by rw [lnC]; rfl⟩
  | bare w => exact ⟨_, _, ln_bo (by intro cs z; cases z) l⟩
  | ltr b n => exact ⟨_, _, ln_bo (by intro cs z; cases z) l⟩
  | sum k W => exact ⟨_, _, ln_bo (by intro cs z; cases z) l⟩
  | exch n m => exact ⟨_, _, ln_bo (by intro cs z; cases z) l⟩
theorem lnS_ne {s : List Cm} {l : Str} (h : s ≠ []) : lnS s l ≠ [] := by
  cases s with
  | nil => exact (h rfl).elim
  | cons c cs =>
    obtain ⟨t, r, e⟩ := lnC_ne (c := c) (l := l)
    rw [lnS, e]
    exact fun z => nomatch z
/-! ### how lines begin and end -/
theorem join_hd {y p : Str} {r : List Str} (h : (cl p).head? ≠ some 32) (n : cl p ≠ []) : (cl (Str.join y (p :: r))).head? ≠ some 32 ∧ cl (Str.join y (p :: r)) ≠ [] := by
  cases r with
  | nil => exact ⟨h, n⟩
  | cons q r =>
    show (cl (p ++ y ++ Str.join y (q :: r))).head? ≠ some 32 ∧ _
    exact ⟨hd_app (hd_app h n) (app_ne n), app_ne (app_ne n)⟩
def NoEnd (x : Str) : Prop := (cl x).getLast? ≠ some 32 ∧ cl x ≠ []
theorem noEnd_app {a b : Str} (h : NoEnd b) : NoEnd (a ++ b) := by
  unfold NoEnd
  rw [cl_app]
  refine ⟨?_, fun z => h.2 (List.append_eq_nil_iff.mp z).2⟩
  rw [List.getLast?_append]
  cases e : (cl b).getLast? with
  | none => exact (h.2 (List.getLast?_eq_none_iff.mp e)).elim
  | some c =>
    have := h.1
    rw [e] at this
    exact this
theorem noEnd_all {x : Str} (h : ∀ c ∈ cl x, c ≠ 32) (n : cl x ≠ []) : NoEnd x := ⟨fun e => h 32 (List.mem_of_getLast? e) rfl, n⟩
theorem noEnd_join {y : Str} : ∀ {ps : List Str}, ps ≠ [] → (∀ p ∈ ps, NoEnd p) → NoEnd (Str.join y ps)
  | [], n, _ => (n rfl).elim
  | [p], _, h => h p List.mem_cons_self
  | p :: q :: r, _, h => noEnd_app (a := p ++ y) (noEnd_join (by simp) fun x m => h x (List.mem_cons_of_mem _ m))
theorem noEnd_name {x : Str} (h : nameT x = true) : NoEnd x := by
  unfold nameT at h
  simp only [Bool.and_eq_true] at h
  have h1 := of_decide_eq_true h.1
  have ha := h.2.2.2.1
  unfold Txt.isalpha at ha
  have ha := (Bool.and_eq_true_iff.mp ha).2
  rw [← Array.all_toList] at ha
  refine noEnd_all (fun c m z => ?_) fun z => ?_
  · have := List.all_eq_true.mp ha c m
    rw [z] at this
    exact absurd this (by decide +kernel)
  · have := cl_len x
    rw [z] at this
    simp at this
    omega
theorem noEnd_dig {x : Str} (h : (rcD x).isSome = true) : NoEnd x := by
  unfold rcD at h
  split at h
  · cases h
  · next q =>
    have q : (x.length == 0 || decide (400 < x.length) || !((cl x).all digB)) = false := Bool.eq_false_iff.mpr q
    obtain ⟨q1, q3⟩ := Bool.or_eq_false_iff.mp q
    obtain ⟨q1, q2⟩ := Bool.or_eq_false_iff.mp q1
    have q3 : (cl x).all digB = true := by simpa using q3
    refine noEnd_all (fun c m z => ?_) fun z => ?_
    · have := List.all_eq_true.mp q3 c m
      rw [z] at this
      exact absurd this (by decide)
    · have := cl_len x
      rw [z] at this
      exact beq_eq_false_iff_ne.mp q1 this.symm
theorem noEnd_num {n : Int} (h : 0 ≤ n) : NoEnd (numS n) := by
  obtain ⟨m, rfl⟩ := Int.eq_ofNat_of_zero_le h
  exact noEnd_all (fun c hc z => by
    have := numS_dig m c hc
    omega) (numS_ne m)
theorem cl_tail {x : Str} : cl (tailS x) = (cl x).drop 1 := rfl
theorem noEnd_tail {x : Str} (h : NoEnd (tailS x)) : NoEnd x := by
  unfold NoEnd at h ⊢
  rw [cl_tail] at h
  cases e : cl x with
  | nil =>
    rw [e] at h
    exact (h.2 rfl).elim
  | cons c r =>
    rw [e] at h
    have h : r.getLast? ≠ some 32 ∧ r ≠ [] := h
    refine ⟨?_, fun z => nomatch z⟩
    cases r with
    | nil => exact (h.2 rfl).elim
    | cons d t =>
      rw [List.getLast?_cons_cons]
      exact h.1
theorem split_ne {x y : Str} (hw : 1 ≤ y.length) (hk : Builtin.Str.strKind y = 1) : Txt.split x y ≠ [] := by
  rw [split_eq hw hk]
  obtain ⟨p, r, e⟩ := PySem.StrLaws.partsFrom_ne x y.length 0 (Builtin.Str.occurrences x y 0 x.length (x.length + 1))
  rw [e]
  exact fun z => nomatch z
theorem noEnd_hold {x : Str} (h : hoB x = true) : NoEnd x := by
  unfold hoB at h
  rcases Bool.or_eq_true_iff.mp h with h | h
  · unfold rhB at h
    split at h
    · exact noEnd_tail (noEnd_dig h)
    · simp only [Bool.and_eq_true] at h
      refine noEnd_tail ?_
      rw [← PySem.StrLaws.partition_sum (tailS x) "."]
      exact noEnd_app (noEnd_dig h.2.2.2)
  · rw [← PySem.StrLaws.join_split x "."]
    exact noEnd_join (split_ne (by decide +kernel) kind_dot) fun p m => noEnd_name (List.all_eq_true.mp h p m)
theorem wr_fac {W : SumZ} (h : wrB W = true) {k : Str} (m : k ∈ W.map (·.1)) : 0 ≤ facZ W k ∧ (k ≠ "" → hoB k = true) := by
  unfold wrB at h
  obtain ⟨h1, h2⟩ := Bool.and_eq_true_iff.mp h
  obtain ⟨q, mq, rfl⟩ := List.mem_map.mp m
  have e2 := List.all_eq_true.mp h2 q mq
  refine ⟨?_, fun n => by rw [if_neg n] at e2; exact e2⟩
  unfold facZ
  cases e : W.find? (fun r => decide (r.1 = q.1)) with
  | none =>
    have := List.find?_eq_none.mp e q mq
    exact absurd (decide_eq_true rfl) this
  | some r =>
    exact of_decide_eq_true (List.all_eq_true.mp h1 r (List.mem_of_find?_eq_some e))
theorem noEnd_sw {W : SumZ} (h : wrB W = true) : NoEnd (swD W) := by
  unfold swD
  split
  · exact ⟨by decide +kernel, by decide +kernel⟩
  · next q =>
    rw [join_eq]
    refine noEnd_join (fun z => q (by rw [z]; rfl)) fun p m => ?_
    have hl : ∀ p ∈ swL W, NoEnd p := fun p m => by
      obtain ⟨k, mk, rfl⟩ := List.mem_map.mp m
      obtain ⟨mk, nk⟩ := List.mem_filter.mp mk
      have mk := (srt_perm _).mem_iff.mp mk
      refine noEnd_app (noEnd_hold ((wr_fac h mk).2 fun e => ?_))
      rw [e] at nk
      exact absurd nk (by decide +kernel)
    unfold swA at m
    split at m
    · next z =>
      rcases List.mem_append.mp m with m | m
      · exact hl p m
      · rw [List.mem_singleton.mp m]
        exact noEnd_num (wr_fac h (has_iff.mp z)).1
    · exact hl p m
theorem noEnd_mw {m : Mk} (h : mkB m = true) : NoEnd (mwD m) := by
  unfold mwD
  refine noEnd_app ?_
  unfold pwD
  split
  · exact ⟨by decide +kernel, by decide +kernel⟩
  · next q =>
    rw [join_eq]
    refine noEnd_join (fun z => q (by rw [z]; rfl)) fun p mp => noEnd_name ?_
    exact List.all_eq_true.mp (Bool.and_eq_true_iff.mp h).2 p mp
theorem bare_end : ∀ w ∈ BARE_W, (cl w).getLast? ≠ some 32 ∧ cl w ≠ [] ∧ (cl w).head? ≠ some 32 := by decide +kernel
mutual
theorem ln_endC : ∀ {c : Cm} {l : Str}, cmB c = true → ∀ t ∈ lnC c l, NoEnd t
  | .tr cs, l, h, t, m => by
    rw [cmB] at h
    rw [lnC] at m
    rcases List.mem_append.mp m with m | m
    · rcases List.mem_append.mp m with m | m
      · rw [List.mem_singleton.mp m]
        exact noEnd_app ⟨by decide +kernel, by decide +kernel⟩
      · exact ln_endS h t m
    · rw [List.mem_singleton.mp m]
      exact noEnd_app ⟨by decide +kernel, by decide +kernel⟩
  | .bare w, l, h, t, m => by
    rw [cmB] at h
    rw [lnC] at m
    rw [List.mem_singleton.mp m]
    have := bare_end w (List.contains_iff_mem.mp h)
    exact noEnd_app ⟨this.1, this.2.1⟩
  | .ltr q n, l, h, t, m => by
    rw [cmB] at h
    rw [lnC] at m
    rw [List.mem_singleton.mp m]
    cases n with
    | none => cases h
    | some i => exact noEnd_app (noEnd_num (of_decide_eq_true h))
  | .sum q n, l, h, t, m => by
    rw [cmB] at h
    rw [lnC] at m
    rw [List.mem_singleton.mp m]
    cases n with
    | none => cases h
    | some i => exact noEnd_app (noEnd_sw h)
  | .exch q n, l, h, t, m => by
    rw [cmB] at h
    rw [lnC] at m
    rw [List.mem_singleton.mp m]
    obtain ⟨_, h⟩ := Bool.and_eq_true_iff.mp h
    cases n with
    | none => cases h
    | some i => exact noEnd_app (noEnd_mw h)
theorem ln_endS : ∀ {cs : List Cm} {l : Str}, scB cs = true → ∀ t ∈ lnS cs l, NoEnd t
  | [], l, _, t, m => by
    rw [lnS] at m
    cases m
  | c :: cs, l, h, t, m => by
    rw [scB] at h
    obtain ⟨h1, h2⟩ := Bool.and_eq_true_iff.mp h
    rw [lnS] at m
    rcases List.mem_append.mp m with m | m
    · exact ln_endC h1 t m
    · exact ln_endS h2 t m
end
theorem emp_app (x : Str) : ("" : Str) ++ x = x := by
  refine str_ext ?_
  rw [cl_app, show cl ("" : Str) = [] from by decide +kernel, List.nil_append]
theorem ln_hd {c : Cm} (h : cmB c = true) : ∃ t r, lnC c "" = t :: r ∧ (cl t).head? ≠ some 32 ∧ cl t ≠ [] := by
  cases c with
  | tr cs =>
    refine ⟨"" ++ "try", _, by rw [lnC]; rfl, ?_, ?_⟩
    · rw [emp_app]
      exact hd_try
    · rw [emp_app]
      decide +kernel
  | bare w =>
    rw [cmB] at h
    have := bare_end w (List.contains_iff_mem.mp h)
    refine ⟨_, _, ln_bo (by intro cs z; cases z) "", ?_⟩
    rw [emp_app]
    exact ⟨this.2.2, this.2.1⟩
  | ltr b n =>
    refine ⟨_, _, ln_bo (by intro cs z; cases z) "", ?_⟩
    rw [emp_app]
    obtain ⟨_, k2, k3, k4⟩ := letW_ok b
    exact ⟨hd_app (hd_app k3 k4) (app_ne k4), app_ne (app_ne k4)⟩
  | sum k W =>
    refine ⟨_, _, ln_bo (by intro cs z; cases z) "", ?_⟩
    rw [emp_app]
    obtain ⟨_, k2, k3, k4⟩ := sumW_ok k
    exact ⟨hd_app (hd_app k3 k4) (app_ne k4), app_ne (app_ne k4)⟩
  | exch n m =>
    refine ⟨_, _, ln_bo (by intro cs z; cases z) "", ?_⟩
    rw [emp_app]
    have k3 : (cl ("exchange" : Str)).head? ≠ some 32 := by decide +kernel
    have k4 : cl ("exchange" : Str) ≠ [] := by decide +kernel
    exact ⟨hd_app (hd_app (hd_app (hd_app k3 k4) (app_ne k4)) (app_ne (app_ne k4))) (app_ne (app_ne (app_ne k4))), app_ne (app_ne (app_ne (app_ne k4)))⟩
theorem tx_nil : txD [] = "" := by
  unfold txD
  rw [lnS]
  decide +kernel
theorem tx_hd {s : List Cm} (h : scB s = true) : (cl (txD s)).head? ≠ some 32 := by
  cases s with
  | nil =>
    rw [tx_nil]
    decide +kernel
  | cons c cs =>
    rw [scB] at h
    obtain ⟨h1, _⟩ := Bool.and_eq_true_iff.mp h
    obtain ⟨t, r, e, a, b⟩ := ln_hd h1
    unfold txD
    rw [join_eq, lnS, e]
    exact (join_hd a b).1
theorem tx_end {s : List Cm} (h : scB s = true) : (cl (txD s)).getLast? ≠ some 32 := by
  by_cases n : s = []
  · rw [n, tx_nil]
    decide +kernel
  · unfold txD
    rw [join_eq]
    exact (noEnd_join (lnS_ne n) (ln_endS h)).1
theorem tx_ne {s : List Cm} (h : scB s = true) (n : s ≠ []) : (txD s).length ≠ 0 := by
  have z := (noEnd_join (y := "\n") (lnS_ne (l := "") n) (ln_endS h)).2
  unfold txD
  rw [join_eq, ← cl_len]
  exact fun e => z (List.eq_nil_of_length_eq_zero e)
/-! ### what is read -/
theorem rdS_some {x : Str} {s : List Cm} (h : rdS x = some s) : scB s = true ∧ txD s = x := by
  unfold rdS at h
  split at h
  · cases h
  · next t e =>
    split at h
    · next q =>
      cases h
      obtain ⟨a, b⟩ := Bool.and_eq_true_iff.mp q
      exact ⟨a, of_decide_eq_true b⟩
    · cases h
theorem rdS_head {x : Str} (h : (cl x).head? = some 32) : rdS x = none := by
  cases e : rdS x with
  | none => rfl
  | some s =>
    obtain ⟨a, b⟩ := rdS_some e
    exact absurd (b ▸ h) (tx_hd a)
theorem rdS_last {x : Str} (h : (cl x).getLast? = some 32) : rdS x = none := by
  cases e : rdS x with
  | none => rfl
  | some s =>
    obtain ⟨a, b⟩ := rdS_some e
    exact absurd (b ▸ h) (tx_end a)
theorem rdS_nothing {x : Str} (h : rdA x = none) : rdS x = none := by
  unfold rdS
  rw [h]
theorem rdS_bad {x : Str} {s : List Cm} (h : rdA x = some s) (b : scB s = false) : rdS x = none := by
  unfold rdS
  rw [h]
  show (if _ then _ else _) = _
  rw [b, Bool.false_and, if_neg (by decide)]
/-- lines, read -/
theorem rdA_lines {ls : List Str} (n : ls ≠ []) (h : ∀ t ∈ ls, 10 ∉ cl t) (ne : (Txt.join "\n" ls).length ≠ 0) : rdA (Txt.join "\n" ls) = rdL ls [] [] := by
  unfold rdA
  rw [if_neg ne, join_eq, split_join sep_nl kind_nl n h]
theorem rd_back {s : List Cm} (h : gdS s) : rdS (txD s) = some (nmS s) := by
  obtain ⟨g1, g2⟩ := gd_sc h
  have e : rdA (txD s) = some (nmS s) := by
    by_cases n : s = []
    · subst n
      rw [tx_nil, nmS]
      rfl
    · show rdA (Txt.join "\n" (lnS s "")) = _
      rw [rdA_lines (lnS_ne n) (ln_nlS h nl_nil) (tx_ne g1 n)]
      have z := rdL_s (ts := []) (ar := []) (s := []) h spc_nil
      rw [List.append_nil, List.nil_append] at z
      rw [z]
      rfl
  unfold rdS
  rw [e]
  show (if _ then _ else _) = _
  have t : txD (nmS s) = txD s := by
    unfold txD
    rw [nm_lnS h]
  rw [g2, t, decide_eq_true rfl]
  rfl
section
variable {s : List Cm}
theorem len_pre {y : Str} (hy : y.length ≠ 0) {ls : List Str} (n : 2 ≤ ls.length) : (Txt.join y ls).length ≠ 0 := by
  rw [join_eq]
  match ls, n with
  | p :: q :: r, _ =>
    show (p ++ y ++ Str.join y (q :: r)).length ≠ 0
    rw [Str.length_append, Str.length_append]
    omega
theorem ls_len {n : s ≠ []} {l : Str} : 1 ≤ (lnS s l).length := by
  have := lnS_ne (l := l) n
  cases e : lnS s l with
  | nil => exact (this e).elim
  | cons a r => exact Nat.le_add_left 1 _
theorem more_line (h : gdS s) (n : s ≠ []) (t : Str) (ht : 10 ∉ cl t) : rdA (Txt.join "\n" (lnS s "" ++ [t])) = rdL [t] [] (nmS s) := by
  have := ls_len (n := n) (l := "")
  rw [rdA_lines (by simp) (fun x m => (List.mem_append.mp m).elim (ln_nlS h nl_nil x) fun q => by rw [List.mem_singleton.mp q]; exact ht) (len_pre (by decide +kernel) (by rw [List.length_append]; show 2 ≤ _ + 1; omega))]
  exact rdL_s (ts := [t]) (ar := []) (s := []) h spc_nil
theorem odd_end (h : gdS s) (n : s ≠ []) : rdS (Txt.join "\n" (lnS s "" ++ [("end" : Str)])) = none := by
  refine rdS_nothing ?_
  rw [more_line h n _ (by decide +kernel), rdL_cons, show lsD "end" = "end" from by decide +kernel, if_neg end_try, if_pos rfl]
theorem odd_try (h : gdS s) (n : s ≠ []) : rdS (Txt.join "\n" (lnS s "" ++ [("try" : Str)])) = none := by
  refine rdS_nothing ?_
  rw [more_line h n _ (by decide +kernel), rdL_cons, show lsD "try" = "try" from by decide +kernel, if_pos rfl]
  rfl
theorem sc_app : ∀ {a b : List Cm}, scB (a ++ b) = (scB a && scB b)
  | [], b => by rw [scB]; rfl
  | c :: a, b => by
    show scB (c :: (a ++ b)) = _
    rw [scB, scB, sc_app, Bool.and_assoc]
theorem odd_emp (h : gdS s) (n : s ≠ []) : rdS (Txt.join "\n" (lnS s "" ++ [("" : Str)])) = none := by
  refine rdS_bad (s := nmS s ++ [.bare ""]) ?_ ?_
  · rw [more_line h n _ nl_nil]
    have e1 : lsD "" = "" := by decide +kernel
    rw [rdL_cons, e1, if_neg (by decide +kernel), if_neg (by decide +kernel)]
    have e2 : rdC "" = .bare "" := by
      unfold rdC
      rw [part_no (by decide +kernel)]
      simp only [if_neg (show ¬ ("" : Str) = "number" by decide +kernel), if_neg (show ¬ ("" : Str) = "choice" by decide +kernel), if_neg (show ¬ ("" : Str) = "read" by decide +kernel), if_neg (show ¬ ("" : Str) = "move" by decide +kernel), if_neg (show ¬ ("" : Str) = "suppose" by decide +kernel), if_neg (show ¬ ("" : Str) = "put" by decide +kernel), if_neg (show ¬ ("" : Str) = "exchange" by decide +kernel)]
    rw [e2]
    rfl
  · rw [sc_app, scB, scB, cmB]
    have : BARE_W.contains ("" : Str) = false := by decide +kernel
    rw [this, Bool.false_and, Bool.and_false]
theorem odd_first (h : gdS s) (n : s ≠ []) : rdS (Txt.join "\n" (("end" : Str) :: lnS s "")) = none := by
  refine rdS_nothing ?_
  have := ls_len (n := n) (l := "")
  rw [rdA_lines (by simp) (fun x m => (List.mem_cons.mp m).elim (fun q => by rw [q]; decide +kernel) (ln_nlS h nl_nil x)) (len_pre (by decide +kernel) (by show 2 ≤ (lnS s "").length + 1; omega))]
  rw [rdL_cons, show lsD "end" = "end" from by decide +kernel, if_neg end_try, if_pos rfl]
theorem join_last {y t : Str} : ∀ {ls : List Str}, ls ≠ [] → Str.join y (ls ++ [t]) = Str.join y ls ++ y ++ t
  | [], n => (n rfl).elim
  | [p], _ => rfl
  | p :: q :: r, _ => by
    show p ++ y ++ Str.join y ((q :: r) ++ [t]) = p ++ y ++ Str.join y (q :: r) ++ y ++ t
    rw [join_last (by simp)]
    simp only [Str.append_assoc]
theorem app_emp (x : Str) : x ++ ("" : Str) = x := by
  refine str_ext ?_
  rw [cl_app, show cl ("" : Str) = [] from by decide +kernel, List.append_nil]
theorem odd_nl (h : gdS s) (n : s ≠ []) : rdS (txD s ++ "\n") = none := by
  have z := odd_emp h n
  rw [join_eq, join_last (lnS_ne n), app_emp, ← join_eq] at z
  exact z
theorem odd_sp (x : Str) : rdS (" " ++ x) = none := rdS_head (by
  rw [cl_app, show cl (" " : Str) = [32] from by decide +kernel]
  rfl)
theorem odd_ps (x : Str) : rdS (x ++ " ") = none := rdS_last (by
  rw [cl_app, show cl (" " : Str) = [32] from by decide +kernel, List.getLast?_append]
  rfl)
end
end Vb
end L2

set_option Elab.async false
set_option linter.all false
set_option maxRecDepth 100000
set_option maxHeartbeats 4000000
/-! Vb, part 16: the draws. -/
namespace L2
namespace Vb
open PySem PySem.Spec PyProof.Rows
abbrev sPurse : Stmt := topS 42
abbrev sMixed : Stmt := topS 43
abbrev sDraw : Stmt := topS 44
abbrev sPurses : Stmt := topS 45
abbrev sOneOf : Stmt := topS 46
/-- the purse at a: what is left, the seed, the turns so far, its number -/
def Purse (H : Hp) (a : Addr) (p q t i : Int) : Prop := H a = some (.lst [.int p, .int q, .int t, .int i])
abbrev pursed (H : Hp) (a : Addr) (p q t i : Int) : Hp := upd H a (.lst [.int p, .int q, .int t, .int i])
def spMixed : Sp := fun vs H Q _ => ∃ q t i : Int, vs = [.int q, .int t, .int i] ∧ 0 ≤ t ∧ t < 1000000000000 ∧ ∀ n : Int, Q (.int n) H
section
variable {P : Program} {w : World} {K : PySem.W.Frag} {mg : Str → Option Value} {base : Heap}
theorem scMixed : FnScope ["_law_seed", "_law_turn", "_law_at", "_law_mixed_here"] ["_law_seed", "_law_turn", "_law_at"] (defScope sMixed) := ⟨rfl, rfl, rfl, by decide +kernel, rfl, by decide +kernel, by decide +kernel⟩
theorem ok_mixed {f : Addr} {fd : FuncData} (F : Fun K "_law_mixed" "_law_mixed" sMixed f fd) : FnOk P w K mg base CX0 1 f fd ["_law_seed", "_law_turn", "_law_at"] spMixed := by
  refine F.ok scMixed (fun vs H Q E h => ?_) (fun cdv A outer s H vs Q E hr h => ?_)
  · obtain ⟨q, t, i, rfl, _⟩ := h
    rfl
  · obtain ⟨q, t, i, rfl, t0, t1, want⟩ := h
    refine ⟨_, pss_cons (ps_set (i := 3) scMixed.nd rfl (Or.inl rfl) (pe_op op_add (pe_op op_mul (pv 0) pe_int) (pe_op op_mul (pe_op op_mul pe_int (pv 1)) (pv 1))))
      (pss_cons (ps_set (i := 3) scMixed.nd rfl (Or.inl rfl) (pe_op op_mod (pe_op op_add (pe_op op_add (pv 3) (pe_op op_mul pe_int (pv 2))) (pv 1)) pe_int))
      (pss_cons (ps_set (i := 3) scMixed.nd rfl (Or.inl rfl) (pe_op op_mod (pe_op op_add (pe_op op_mul (pv 3) (pv 3)) pe_int) pe_int))
      (pss_one (ps_ret (pe_op op_mod (pe_op op_mul (pv 3) pe_int) pe_int))))), ?_⟩
    refine ⟨_, rfl, _, _, rfl, rfl, .inr ⟨by decide, by decide⟩, _, rfl, _, _, rfl, rfl, .inl ⟨by decide, by decide⟩, _, rfl, _, _, rfl, rfl, .inr ⟨by omega, by omega⟩, _, _, rfl, rfl, ?_⟩
    refine ⟨_, rfl, _, rfl, _, _, rfl, rfl, .inl ⟨by decide, by decide⟩, _, _, rfl, rfl, _, rfl, _, _, rfl, rfl, _, _, rfl, rfl, (by show (0 : Int) < 2147483647; decide), ?_⟩
    refine ⟨_, rfl, _, rfl, _, _, rfl, rfl, .inl ⟨?_, ?_⟩, _, _, rfl, rfl, _, _, rfl, rfl, (by show (0 : Int) < 2147483629; decide), ?_⟩
    · have z := Int.emod_nonneg (q * 69069 + 104729 * t * t + 7919 * i + t) (show (2147483647 : Int) ≠ 0 by decide)
      omega
    · have z := Int.emod_lt_of_pos (q * 69069 + 104729 * t * t + 7919 * i + t) (show (0 : Int) < 2147483647 by decide)
      omega
    refine ⟨_, rfl, _, _, rfl, rfl, .inr ⟨by decide, by decide⟩, _, _, rfl, rfl, (by show (0 : Int) < 2147483587; decide), ?_⟩
    exact want _
/-- a purse with at most n turns -/
def Pur (H : Hp) (a : Addr) (n : Nat) : Prop := ∃ p q t i, Purse H a p q t i ∧ 0 ≤ t ∧ t ≤ (n : Int)
theorem Pur.mono {H : Hp} {a : Addr} {n m : Nat} (h : Pur H a n) (l : n ≤ m) : Pur H a m := by
  obtain ⟨p, q, t, i, e, t0, t1⟩ := h
  exact ⟨p, q, t, i, e, t0, by omega⟩
theorem Pur.same {H H' : Hp} {a : Addr} {n : Nat} (h : Pur H a n) (s : Same H H') : Pur H' a n := by
  obtain ⟨p, q, t, i, e, t0, t1⟩ := h
  exact ⟨p, q, t, i, s _ _ e, t0, t1⟩
theorem Pur.but {H H' : Hp} {a m : Addr} {n : Nat} (h : Pur H a n) (s : But m H H') (ne : a ≠ m) : Pur H' a n := by
  obtain ⟨p, q, t, i, e, t0, t1⟩ := h
  exact ⟨p, q, t, i, s _ ne _ e, t0, t1⟩
theorem Pur.ne {H : Hp} {a b : Addr} {n : Nat} (h : Pur H a n) (e : H b = none) : a ≠ b := by
  obtain ⟨p, q, t, i, e2, _⟩ := h
  exact ne_of_none e2 e
/-- a draw below `many`: what the purse holds behind it, and what is drawn -/
def spDraw : Sp := fun vs H Q _ => ∃ (a : Addr) (m : Int) (n : Nat), vs = [.ref a, .int m] ∧ 0 < m ∧ m < 100000 ∧ Pur H a n ∧ n ≤ 1000000 ∧
  ∀ (H' : Hp) (d : Int), 0 ≤ d → d < m → But a H H' → Pur H' a (n + 1) → Q (.int d) H'
theorem bits28 {m : Int} (h0 : 0 < m) (h1 : m < 100000) : (1 + ((Builtin.Int.intBits m : Nat) : Int) / 28).toNat = 1 := by
  have e : Builtin.Int.intBits m ≤ 17 := PyProof.Rows.intBits_le (k := 17) (by omega)
  omega
theorem at4 {p q t i : Int} : atI [V.int p, V.int q, V.int t, V.int i] 0 = some (.int p) ∧ atI [V.int p, V.int q, V.int t, V.int i] 1 = some (.int q) ∧ atI [V.int p, V.int q, V.int t, V.int i] 2 = some (.int t) ∧ atI [V.int p, V.int q, V.int t, V.int i] 3 = some (.int i) := ⟨rfl, rfl, rfl, rfl⟩
theorem scDraw : FnScope ["_law_purse_here", "_law_many_here", "_law_drawn", "_law_found", "_law_piece"] ["_law_purse_here", "_law_many_here"] (defScope sDraw) := ⟨rfl, rfl, rfl, by decide +kernel, rfl, by decide +kernel, by decide +kernel⟩
theorem ok_draw {f fM : Addr} {fd fdM : FuncData} (F : Fun K "_law_draw" "_law_draw" sDraw f fd) (FM : Fun K "_law_mixed" "_law_mixed" sMixed fM fdM) (gM : mg "_law_mixed" = some (.ref fM)) (gR : mg "range" = none) :
    FnOk P w K mg base CX0 2 f fd ["_law_purse_here", "_law_many_here"] spDraw := by
  have GM : FnOk P w K mg base CX0 1 fM fdM ["_law_seed", "_law_turn", "_law_at"] spMixed := ok_mixed FM
  have bM : Binds K fdM ["_law_seed", "_law_turn", "_law_at"] [] := FM.binds fun _ _ _ _ _ _ us hl => match us, hl with | [_, _, _], _ => rfl
  refine F.ok scDraw (fun vs H Q E h => ?_) (fun cdv A outer s H vs Q E hr h => ?_)
  · obtain ⟨a, m, n, rfl, _⟩ := h
    rfl
  · obtain ⟨a, m, n, rfl, m0, m1, ⟨p, q, t, i, hp, t0, t2⟩, n1, want1⟩ := h
    have t1 : t < 100000000 := by omega
    have want : ∀ p' t' d : Int, 0 ≤ d → d < m → t ≤ t' → t' ≤ t + 1 → Q (.int d) (pursed H a p' q t' i) := fun p' t' d d0 d1 e0 e1 => want1 _ d d0 d1 but_upd ⟨p', q, t', i, upd_same, by omega, by omega⟩
    have hp : H a = some (.lst [.int p, .int q, .int t, .int i]) := hp
    refine ⟨_, pss_cons (ps_if (pt_cmpR op_gt (pe_ix ix_list (pv 0) pe_int (fun _ _ => rfl)) pe_int (nomark _))
        (pss_cons (ps_set (i := 2) scDraw.nd rfl (Or.inl rfl) (pe_op op_mod (pe_ix ix_list (pv 0) pe_int (fun _ _ => rfl)) (pv 1)))
        (pss_cons (ps_asg (pe_op op_fdivW (pe_ix ix_list (pv 0) pe_int (fun _ _ => rfl)) (pv 1)) (pg_sub (pv 0) pe_int set_list))
        (pss_one (ps_ret (pv 2))))) pss_nil)
      (pss_cons (ps_set (i := 3) scDraw.nd rfl (Or.inl rfl) pe_int)
      (pss_cons (ps_for PassesOwn.never rfl (pi_range1 rfl gR (pa_cons (pe_op op_add pe_int (pe_op op_fdiv (pe_bits (pv 1)) pe_int)) pa_nil)) (pg_name (i := 4) scDraw.nd rfl (Or.inl rfl))
        (pss_cons (ps_asg (pe_op op_add (pe_ix ix_list (pv 0) pe_int (fun _ _ => rfl)) pe_int) (pg_sub (pv 0) pe_int set_list))
        (pss_one (ps_set (i := 3) scDraw.nd rfl (Or.inl rfl) (pe_op op_add (pe_op op_mul (pv 3) pe_int)
          (pe_call GM (hr.mono (by decide)) rfl gM FM.kp bM .nil pass0 (pa_cons (pe_ix ix_list (pv 0) pe_int (fun _ _ => rfl)) (pa_cons (pe_ix ix_list (pv 0) pe_int (fun _ _ => rfl)) (pa_cons (pe_ix ix_list (pv 0) pe_int (fun _ _ => rfl)) pa_nil))))))))
      ) (pss_one (ps_ret (pe_op op_mod (pv 3) (pv 1)))))), ?_⟩
    refine ⟨_, rfl, _, _, _, _, rfl, rfl, SqL.of hp, at4.1, _, _, rfl, rfl, _, rfl, ite2 (fun _ => ?_) (fun _ => ?_)⟩
    · refine ⟨_, rfl, _, _, _, _, rfl, rfl, SqL.of hp, at4.1, _, rfl, _, _, rfl, rfl, m0, ?_⟩
      refine ⟨_, rfl, _, _, _, _, rfl, rfl, SqL.of hp, at4.1, _, rfl, _, _, rfl, rfl, wide_div (b := 17) m0 (by omega) (by decide) (by decide), ?_⟩
      refine ⟨_, rfl, _, _, _, 0, rfl, rfl, hp, rfl, ?_⟩
      refine ⟨_, rfl, ?_⟩
      exact want _ t _ (Int.emod_nonneg _ (by omega)) (Int.emod_lt_of_pos _ m0) (Int.le_refl _) (by omega)
    · refine ⟨_, rfl, _, rfl, _, _, rfl, rfl, ⟨by decide, by decide⟩, _, _, rfl, rfl, _, rfl, ?_, ?_, ?_⟩
      · have z : (0 : Int) ≤ ((Builtin.Int.intBits m : Nat) : Int) := Int.natCast_nonneg _
        omega
      · have e : Builtin.Int.intBits m ≤ 17 := PyProof.Rows.intBits_le (k := 17) (by omega)
        omega
      rw [bits28 m0 m1]
      refine for_range (lo := 0) (n := 1) (fun k σ H' => (k = 0 ∧ σ = [some (.ref a), some (.int m), none, some (.int 0), none] ∧ H' = H) ∨ (k = 1 ∧ ∃ (n : Int) (v : Option V), σ = [some (.ref a), some (.int m), none, some (.int n), v] ∧ H' = pursed H a p q (t + 1) i)) (.inl ⟨rfl, rfl, rfl⟩) ?_ ?_
      · rintro k σ H' hk (⟨rfl, rfl, rfl⟩ | ⟨rfl, _⟩)
        · refine ⟨_, rfl, _, _, _, _, rfl, rfl, SqL.of hp, at4.2.2.1, _, _, rfl, rfl, ?_⟩
          refine ⟨_, rfl, _, _, _, 2, rfl, rfl, hp, rfl, ?_⟩
          have hp2 : pursed H' a p q (t + 1) i a = some (.lst [.int p, .int q, .int (t + 1), .int i]) := upd_same
          refine ⟨_, rfl, _, _, rfl, rfl, .inr ⟨by decide, by decide⟩, _, rfl, _, _, _, _, rfl, rfl, SqL.of hp2, at4.2.1, _, rfl, _, _, _, _, rfl, rfl, SqL.of hp2, at4.2.2.1, _, rfl, _, _, _, _, rfl, rfl, SqL.of hp2, at4.2.2.2, ?_⟩
          refine ⟨_, _, _, rfl, by omega, by omega, fun n => ⟨_, _, rfl, rfl, ?_⟩⟩
          exact .inr ⟨rfl, _, _, rfl, rfl⟩
        · omega
      · rintro σ H' (⟨z, _⟩ | ⟨_, n, v, rfl, rfl⟩)
        · omega
        · refine ⟨_, rfl, _, rfl, _, _, rfl, rfl, m0, ?_⟩
          exact want _ _ _ (Int.emod_nonneg _ (by omega)) (Int.emod_lt_of_pos _ m0) (by omega) (Int.le_refl _)
/-- one of a list, drawn -/
def spOneOf : Sp := fun vs H Q _ => ∃ (a l : Addr) (xs : List V) (n : Nat), vs = [.ref a, .ref l] ∧ Pur H a n ∧ n ≤ 1000000 ∧ H l = some (.lst xs) ∧ l ≠ a ∧ 0 < xs.length ∧ xs.length < 100000 ∧
  ∀ (j : Nat) (x : V) (H' : Hp), xs[j]? = some x → But a H H' → Pur H' a (n + 1) → Q x H'
theorem scOneOf : FnScope ["_law_purse_here", "_law_some"] ["_law_purse_here", "_law_some"] (defScope sOneOf) := ⟨rfl, rfl, rfl, by decide +kernel, rfl, by decide +kernel, by decide +kernel⟩
theorem ok_oneOf {f fD fM : Addr} {fd fdD fdM : FuncData} (F : Fun K "_law_one_of" "_law_one_of" sOneOf f fd) (FD : Fun K "_law_draw" "_law_draw" sDraw fD fdD) (FM : Fun K "_law_mixed" "_law_mixed" sMixed fM fdM)
    (gD : mg "_law_draw" = some (.ref fD)) (gM : mg "_law_mixed" = some (.ref fM)) (gR : mg "range" = none) (gL : mg "len" = none) : FnOk P w K mg base CX0 3 f fd ["_law_purse_here", "_law_some"] spOneOf := by
  have GD : FnOk P w K mg base CX0 2 fD fdD ["_law_purse_here", "_law_many_here"] spDraw := ok_draw FD FM gM gR
  have bD : Binds K fdD ["_law_purse_here", "_law_many_here"] [] := FD.binds fun _ _ _ _ _ _ us hl => match us, hl with | [_, _], _ => rfl
  refine F.ok scOneOf (fun vs H Q E h => ?_) (fun cdv A outer s H vs Q E hr h => ?_)
  · obtain ⟨a, l, xs, n, rfl, _⟩ := h
    rfl
  · obtain ⟨a, l, xs, n, rfl, hp, nn, hl, la, n0, n1, want⟩ := h
    refine ⟨_, pss_one (ps_ret (pe_ix ix_list (pv 1) (pe_call GD (hr.mono (by decide)) rfl gD FD.kp bD .nil pass0 (pa_cons (pv 0) (pa_cons (pe_callB call_len_seq (by rfl) gL PySem.boot_len (pa_cons (pv 1) pa_nil)) pa_nil))) (fun _ _ => rfl))), ?_⟩
    refine ⟨_, rfl, _, rfl, _, rfl, l, _, rfl, .inl (SqL.of hl), ?_⟩
    refine ⟨a, _, n, rfl, by omega, by omega, hp, nn, fun H' d d0 d1 bt hp' => ?_⟩
    have hl2 : H' l = some (.lst xs) := bt l la _ hl
    obtain ⟨x, hx⟩ : ∃ x, xs[d.toNat]? = some x := ⟨xs[d.toNat]'(by omega), by rw [List.getElem?_eq_getElem]⟩
    have ed : d = ((d.toNat : Nat) : Int) := by omega
    refine ⟨_, _, _, x, rfl, rfl, SqL.of hl2, by rw [ed]; exact atI_nat hx, ?_⟩
    exact want _ x H' hx bt hp'
end
/-- ten to the sixty, to the eight -/
def CPowT (i j : Int) : Prop := i = 10 ^ 60 ∧ j = 8
theorem op_powT {X : Cx} : OpR X (binaryOp .Pow) (rI CPowT fun i j => .int (i ^ j.toNat)) := opI fun i j t u s Q E hc q => by
  obtain ⟨rfl, rfl⟩ := hc
  exact PySem.AutoIntOps.pow_4 (by decide) (by decide) (by decide +kernel) (by decide +kernel) (by decide +kernel) q
theorem ten18 : (10 : Int) ^ (18 : Int).toNat = 1000000000000000000 := by decide +kernel
theorem cut_ints (ns : List Int) (lo hi : Option Int) : ∃ ms : List Int, cutV (ns.map V.int) lo hi = ms.map V.int := by
  refine ⟨(ns.drop (HT.sIx (ns.map V.int).length 0 lo)).take (HT.sIx (ns.map V.int).length (ns.map V.int).length hi - HT.sIx (ns.map V.int).length 0 lo), ?_⟩
  unfold cutV
  rw [List.map_take, List.map_drop]
def spPurse (K : PySem.W.Frag) : Sp := fun vs H Q _ => ∃ (s : Addr) (ns : List Int) (i : Int), vs = [.ref s, .int i] ∧ SqL K H s (ns.map V.int) ∧ ∀ (H' : Hp) (a : Addr) (p q : Int), Same H H' → H a = none → Purse H' a p q 0 i → Q (.ref a) H'
def spPurses (K : PySem.W.Frag) : Sp := fun vs H Q _ => ∃ (s : Addr) (ns : List Int) (few : Int), vs = [.ref s, .int few] ∧ SqL K H s (ns.map V.int) ∧ ns.length ≤ 63 ∧ 0 ≤ few ∧ few ≤ 100 ∧
  ∀ (H' : Hp) (l : Addr) (as : List Addr), Same H H' → H l = none → H' l = some (.lst (as.map V.ref)) → as.length ≤ 100 → as.Nodup → (∀ a ∈ as, H a = none ∧ a ≠ l ∧ ∃ p q i, Purse H' a p q 0 i) → Q (.ref l) H'
section
variable {P : Program} {w : World} {K : PySem.W.Frag} {mg : Str → Option Value} {base : Heap}
theorem scPurse : FnScope ["_law_script_here", "_law_at", "_law_seed"] ["_law_script_here", "_law_at"] (defScope sPurse) := ⟨rfl, rfl, rfl, by decide +kernel, rfl, by decide +kernel, by decide +kernel⟩
theorem ok_purse {f : Addr} {fd : FuncData} (F : Fun K "_law_purse" "_law_purse" sPurse f fd) (gS : mg "sum" = none) (gM : mg "max" = none) : FnOk P w K mg base CX0 1 f fd ["_law_script_here", "_law_at"] (spPurse K) := by
  refine F.ok scPurse (fun vs H Q E h => ?_) (fun cdv A outer s H vs Q E hr h => ?_)
  · obtain ⟨s, ns, i, rfl, _⟩ := h
    rfl
  · obtain ⟨sc, ns, i, rfl, hs, want⟩ := h
    refine ⟨_, pss_cons (ps_set (i := 2) scPurse.nd rfl (Or.inl rfl) (pe_callB (cr_sum rfl) (by rfl) gS boot_sum (pa_cons (pe_slice sl_list (pv 0) (po_some (pv 1)) (po_some (pe_op op_add (pv 1) pe_int))) pa_nil)))
      (pss_one (ps_ret (pe_lst (pa_cons (pe_op op_mod (pe_callB (call_max2 rfl) (by rfl) gM boot_max (pa_cons (pe_op op_sub (pv 2) (pe_op op_pow pe_int pe_int)) (pa_cons pe_int pa_nil))) (pe_op op_powT (pe_op op_pow pe_int pe_int) pe_int))
        (pa_cons (pe_op op_mod (pv 2) pe_int) (pa_cons pe_int (pa_cons (pv 1) pa_nil))))))), ?_⟩
    refine ⟨_, rfl, _, rfl, i, rfl, _, rfl, _, _, rfl, rfl, i + 1, rfl, sc, _, rfl, hs, fun c hc => ?_⟩
    obtain ⟨ms, em⟩ := cut_ints ns (some i) (some (i + 1))
    have hcm : upd H c (.lst (cutV (ns.map V.int) (some i) (some (i + 1)))) c = some (.lst (ms.map V.int)) := by
      rw [upd_same, em]
    refine ⟨c, ms, rfl, SqL.of hcm, ?_⟩
    refine ⟨_, rfl, _, _, rfl, rfl, ⟨by decide, by decide, by decide⟩, _, _, rfl, rfl, _, _, rfl, _, _, rfl, rfl, ⟨by decide, by decide, by decide⟩, _, _, rfl, rfl, ⟨by decide +kernel, rfl⟩, _, _, rfl, rfl, (by show (0 : Int) < (10 ^ Int.toNat 60) ^ Int.toNat 8; decide +kernel), ?_⟩
    refine ⟨_, rfl, _, _, rfl, rfl, (by show (0 : Int) < 2147483629; decide), _, rfl, (by show 4 ≤ sizeLine; decide), fun a ha => ?_⟩
    have nac : a ≠ c := fun z => by
      rw [z, upd_same] at ha
      cases ha
    have ha0 : H a = none := (upd_ne nac).symm.trans ha
    refine want _ a _ _ (fun b o e => ?_) ha0 upd_same
    rw [upd_ne (ne_of_none e ha0), upd_ne (ne_of_none e hc)]
    exact e
theorem scPurses : FnScope ["_law_script_here", "_law_few", "_law_at"] ["_law_script_here", "_law_few"] (defScope sPurses) := ⟨rfl, rfl, rfl, by decide +kernel, rfl, by decide +kernel, by decide +kernel⟩
theorem ok_purses {f fP : Addr} {fd fdP : FuncData} (F : Fun K "_law_purses" "_law_purses" sPurses f fd) (FP : Fun K "_law_purse" "_law_purse" sPurse fP fdP) (gP : mg "_law_purse" = some (.ref fP)) (gS : mg "sum" = none) (gX : mg "max" = none) (gN : mg "min" = none) (gR : mg "range" = none) (gL : mg "len" = none) :
    FnOk P w K mg base CX0 2 f fd ["_law_script_here", "_law_few"] (spPurses K) := by
  have GP : FnOk P w K mg base CX0 1 fP fdP ["_law_script_here", "_law_at"] (spPurse K) := ok_purse FP gS gX
  have bP : Binds K fdP ["_law_script_here", "_law_at"] [] := FP.binds fun _ _ _ _ _ _ us hl => match us, hl with | [_, _], _ => rfl
  refine F.ok scPurses (fun vs H Q E h => ?_) (fun cdv A outer s H vs Q E hr h => ?_)
  · obtain ⟨s, ns, few, rfl, _⟩ := h
    rfl
  · obtain ⟨sc, ns, few, rfl, hs, len63, few0, few1, want⟩ := h
    refine ⟨_, pss_one (ps_ret (pe_lc (own := [("_law_at", 2)]) (g := gName 2) (tt := tYes) rfl scPurses.nd
      (pi_range1 rfl gR (pa_cons (pe_callB (call_max2 rfl) (by rfl) gX boot_max (pa_cons pe_int (pa_cons (pe_callB (call_min2 rfl) (by rfl) gN boot_min (pa_cons (pv 1) (pa_cons (pe_callB call_len_seq (by rfl) gL PySem.boot_len (pa_cons (pv 0) pa_nil)) pa_nil))) pa_nil))) pa_nil))
      (blkOk_by (N := ["_law_script_here", "_law_few", "_law_at"]) (sc := defScope sPurses) (by decide +kernel)) (fun _ _ _ _ _ => pg_name (i := 2) scPurses.nd rfl (Or.inl rfl)) (fun _ _ _ _ _ => pts_nil)
      (fun _ _ _ _ _ => pe_call GP (hr.mono (by decide)) rfl gP FP.kp bP .nil pass0 (pa_cons (pv 0) (pa_cons (pv 2) pa_nil))))), ?_⟩
    refine ⟨_, rfl, _, rfl, sc, _, rfl, .inl hs, _, _, rfl, _, _, rfl, _, rfl, ?_, ?_, ?_⟩
    · rw [List.length_map]
      split <;> split <;> omega
    · rw [List.length_map]
      split <;> split <;> omega
    intro D hD
    obtain ⟨n, hn, n100⟩ : ∃ n : Nat, (if (if ((ns.map V.int).length : Int) < few then ((ns.map V.int).length : Int) else few) > 1 then (if ((ns.map V.int).length : Int) < few then ((ns.map V.int).length : Int) else few) else 1).toNat = n ∧ n ≤ 100 := ⟨_, rfl, by
      rw [List.length_map]
      split <;> split <;> omega⟩
    rw [hn]
    refine lc_range (lo := 0) (n := n) (fun k H' => Same H H' ∧ ∃ as : List Addr, as.length = k ∧ H' D = some (.lst (as.map V.ref)) ∧ as.Nodup ∧ ∀ a ∈ as, H a = none ∧ a ≠ D ∧ ∃ p q i, Purse H' a p q 0 i)
      ⟨fun b o e => by rw [upd_ne (ne_of_none e hD)]; exact e, [], rfl, upd_same, List.nodup_nil, fun a z => (List.not_mem_nil z).elim⟩ ?_ ?_
    · rintro k H' hk ⟨sm, as, la, hDl, nod, hall⟩
      refine ⟨rfl, tyes ?_⟩
      refine ⟨_, rfl, _, rfl, sc, ns, _, rfl, sm.seq hs, fun H2 a p q s2 na pu => ?_⟩
      have hD2 := s2 _ _ hDl
      have naD : a ≠ D := fun z => by
        rw [z, hDl] at na
        cases na
      refine ⟨_, hD2, by rw [List.length_map, la, sizeLine_eq]; omega, ?_⟩
      refine ⟨fun b o e => ?_, as ++ [a], by rw [List.length_append, la]; rfl, ?_, ?_, fun x hx => ?_⟩
      · rw [upd_ne (ne_of_none e hD)]
        exact s2 _ _ (sm _ _ e)
      · rw [upd_same, List.map_append]
        rfl
      · refine List.nodup_append.mpr ⟨nod, by simp, fun x mx y my e => ?_⟩
        rw [List.mem_singleton.mp my] at e
        obtain ⟨_, _, p1, q1, i1, pu1⟩ := hall x mx
        have z : H' x = some _ := pu1
        rw [e, na] at z
        cases z
      · rcases List.mem_append.mp hx with z | z
        · obtain ⟨e1, e2, p1, q1, i1, pu1⟩ := hall x z
          refine ⟨e1, e2, p1, q1, i1, ?_⟩
          unfold Purse
          rw [upd_ne e2]
          exact s2 _ _ pu1
        · rw [List.mem_singleton.mp z]
          refine ⟨sm.free na, naD, p, q, 0 + (k : Int), ?_⟩
          unfold Purse
          rw [upd_ne naD]
          exact pu
    · rintro H' ⟨sm, as, la, hDl, nod, hall⟩
      exact want H' D as sm hD hDl (by omega) nod hall
end
end Vb
end L2

set_option Elab.async false
set_option linter.all false
set_option maxRecDepth 100000
set_option maxHeartbeats 4000000
/-! Vb, k88: comprehensions whose items are told one by one; heaps that grow. -/
namespace L2
namespace Vb
open PySem PySem.Spec PyProof.Rows
theorem pe_gstr {X : Cx} {x i : Str} {p : Pos} (hg : Gl X x) (h : ∃ t, X.mg x = some (.str i t)) (hd : (x == ("__debug__" : Str)) = false := by decide) : PE X (.Name x p) (tC (.str i)) := h.elim fun t e => pe_glob (v := .str i) hg e ⟨t, rfl⟩ hd
/-- a text that may be read -/
abbrev Tx (x : Str) : Prop := x.length ≤ 100000
theorem tx_fit {x : Str} (h : Tx x) : x.length ≤ sizeLine := by
  rw [sizeLine_eq]
  have : x.length ≤ 100000 := h
  omega
theorem str_tru {K : PySem.W.Frag} {H : Hp} {x : Str} (h : Tx x) : TruV K (.str x) H (!(x.length == 0)) := by
  refine ⟨tx_fit h, ?_⟩
  by_cases z : x.length = 0
  · rw [z]
    rfl
  · rw [beq_eq_false_iff_ne.mpr z]
    exact (bne_iff_ne.mpr (by omega)).symm
/-- the items told so far, those left out none -/
def GrowO (H : Hp) (D : Addr) (os : List (Option V)) (k : Nat) (H' : Hp) : Prop := Same H H' ∧ H' D = some (.lst ((os.take k).filterMap id))
theorem fm_len {α : Type} (os : List (Option α)) : (os.filterMap id).length ≤ os.length := List.length_filterMap_le _ _
theorem lc_out {J : It} {n : Nat} {G : Hp → Prop} {Y : Nat → Hp → V → Hp → Prop} (w : Walk J n G Y) {g : TG} {tt : TT} {te : TE} {vs : List Nat} {σ : St} {H1 : Hp} {D : Addr} {Qd : Hp → Prop} (os : List (Option V)) (hn : os.length = n) (hz : n ≤ 1000000) (hD : H1 D = none) (hG : ∀ H', Same H1 H' → G H')
    (turn : ∀ k o, os[k]? = some o → ∀ H2 x H3, Same H1 H2 → Y k H2 x H3 → ∀ (Rn : Hp → Prop) (Ry : VK), (∀ H4, Same H2 H4 → o = none → Rn H4) → (∀ v H4, Same H2 H4 → o = some v → Ry v H4) →
      g x (wipe σ vs) H3 fun τ H4 => wipe τ vs = wipe σ vs ∧ tt τ H4 fun b H5 => if b = true then te τ H5 Ry else Rn H5)
    (done : ∀ H2, Same H1 H2 → H2 D = some (.lst (os.filterMap id)) → Qd H2) :
    ∃ W : Nat → Nat → Hp → Prop, (∃ m, W 0 m (upd H1 D (.lst []))) ∧ ∀ i m H, W i m H →
      (J.stop i H ∧ Qd H) ∨ (J.go i H ∧ ∃ Nx : Hp → Prop, (∀ H', Nx H' → ∃ m', m' < m ∧ W (i + 1) m' H') ∧ ∀ x H', J.yld i H x H' → g x (wipe σ vs) H' fun σ2 H2 => wipe σ2 vs = wipe σ vs ∧ tt σ2 H2 fun b H3 =>
        if b = true then te σ2 H3 fun y H4 => ∃ acc, H4 D = some (.lst acc) ∧ acc.length < sizeLine ∧ Nx (upd H4 D (.lst (acc ++ [y]))) else Nx H3) := by
  refine lc_it w (GrowO H1 D os) ⟨same_new hD, upd_same⟩ (fun i H' _ z => hG H' z.1) ?_ ?_
  · intro k x H2 H3 hk gr y
    have hk2 : k < os.length := by omega
    have e : os[k]? = some os[k] := List.getElem?_eq_getElem hk2
    refine turn k os[k] e H2 x H3 gr.1 y _ _ (fun H4 s eo => ?_) (fun v H4 s eo => ?_)
    · refine ⟨same_trans gr.1 s, ?_⟩
      rw [s _ _ gr.2, List.take_add_one, e, List.filterMap_append, eo]
      show _ = some (HO.lst (_ ++ []))
      rw [List.append_nil]
    · refine ⟨_, s _ _ gr.2, ?_, same_set (same_trans gr.1 s) hD, ?_⟩
      · have := fm_len (os.take k)
        rw [List.length_take] at this
        rw [sizeLine_eq]
        omega
      · rw [upd_same, List.take_add_one, e, List.filterMap_append, eo]
        rfl
  · intro H2 gr
    refine done H2 gr.1 ?_
    rw [gr.2, List.take_of_length_le (by omega)]
theorem fm_some {α β : Type} (f : α → β) (xs : List α) : (xs.map fun x => some (f x)).filterMap id = xs.map f := by
  induction xs with
  | nil => rfl
  | cons x xs ih => exact congrArg (f x :: ·) ih
theorem fm_bl {α : Type} (f : α → Bool) (xs : List α) : (xs.map fun x => some (V.bl (f x))).filterMap id = (xs.map f).map V.bl := by
  rw [fm_some, List.map_map]
  rfl
theorem all_id {α : Type} (f : α → Bool) (xs : List α) : (xs.map f).all id = xs.all f := by
  rw [List.all_map]
  rfl
theorem all_bl (bs : List Bool) : bs.all id = bs.all fun b => b := rfl
/-- a dict taken out of its lock -/
theorem same_unlock {H H' : Hp} {a : Addr} {u : HO} {od : Obj} (h : H a = some u) (s : Same (upd H a (.frz od u)) H') : Same H (upd H' a u) := fun b o e => by
  by_cases q : b = a
  · rw [q, upd_same]
    rw [q, h] at e
    exact e
  · rw [upd_ne q]
    exact s b o ((upd_ne q).trans e)
theorem some_of_get {α : Type} {f : α → Option V} {xs : List α} {k : Nat} {o : Option V} (h : (xs.map f)[k]? = some o) : ∃ x, xs[k]? = some x ∧ o = f x := by
  rw [List.getElem?_map] at h
  obtain ⟨x, e, r⟩ := Option.map_eq_some_iff.mp h
  exact ⟨x, e, r.symm⟩
end Vb
end L2

set_option Elab.async false
set_option linter.all false
set_option maxRecDepth 100000
set_option maxHeartbeats 4000000
/-! Vb, k88: names and counts in texts. -/
namespace L2
namespace Vb
open PySem PySem.Spec PyProof.Rows
open PySem.NumText (digitsVal AllDigits)
def spNameT : Sp := fun vs H Q _ => ∃ x : Str, vs = [.str x] ∧ Tx x ∧ Q (.bl (nameT x)) H
/-- a count or None -/
def cntV : Option Int → V
  | none => .non
  | some n => .int n
def spRc : Sp := fun vs H Q _ => ∃ x : Str, vs = [.str x] ∧ Tx x ∧ ∀ H', Same H H' → Q (cntV (rcD x)) H'
abbrev sRc : Stmt := topS 13
abbrev nRc : List Str := ["text", "sign"]
theorem scRc : FnScope nRc ["text"] (defScope sRc) := ⟨rfl, rfl, rfl, by decide +kernel, rfl, by decide +kernel, by decide +kernel⟩
theorem digs_in (c : Nat) : decide (c ∈ ("0123456789" : Str).cps.toList) = digB c := by
  have e : ("0123456789" : Str).cps.toList = [48, 49, 50, 51, 52, 53, 54, 55, 56, 57] := by decide +kernel
  rw [e]
  unfold digB
  rw [Bool.eq_iff_iff, Bool.and_eq_true, decide_eq_true_iff, decide_eq_true_iff, decide_eq_true_iff]
  simp only [List.mem_cons, List.not_mem_nil, or_false]
  omega
section
variable {P : Program} {w : World} {K : PySem.W.Frag} {mg : Str → Option Value} {base : Heap}
theorem ok_nameT {f : Addr} {fd : FuncData} (F : Fun K "is_name" "is_name" sName f fd) (gLen : mg "len" = none) (gType : mg "type" = none) (gStr : mg "str" = none) (gL : ∃ t, mg "LONGEST_NAME" = some (.int 8 t)) :
    FnOk P w K mg base CX0 1 f fd ["value"] spNameT := by
  refine (ok_nameD F gLen gType gStr gL).imp fun vs H Q E h => ?_
  obtain ⟨x, rfl, hx, q⟩ := h
  exact ⟨_, .str x, 0, rfl, Sho.str x, fun y e => by cases e; exact tx_fit hx, q⟩
theorem ok_rc {f : Addr} {fd : FuncData} (F : Fun K "read_count" "read_count" sRc f fd) (gAll : mg "all" = none) (gInt : mg "int" = none) (gLen : mg "len" = none) (gM : ∃ t, mg "MOST_DIGITS" = some (.int 400 t)) (gD : ∃ t, mg "DIGITS" = some (.str "0123456789" t)) :
    FnOk P w K mg base CX0 1 f fd ["text"] spRc := by
  refine F.ok scRc (fun vs H Q E h => ?_) (fun cdv A outer s0 H vs Q E hr h => ?_)
  · obtain ⟨x, rfl, _⟩ := h
    rfl
  · obtain ⟨x, rfl, hx, want⟩ := h
    refine ⟨_, (pss_cons (ps_if (PW.pt (pw_or (pt_not (pt_truth (pv 0) (by intro _; rfl))) (pw_or (pt_cmpR op_gt (pe_callB (call_len) (by rfl) gLen PySem.boot_len (pa_cons (pv 0) pa_nil)) (pe_gint rfl gM) (nomark _)) (pw_or1 (pt_not (pt_val (pe_callB (cr_all rfl) (by rfl) gAll boot_all (pa_cons (pe_lc (own := [("sign", 1)]) (g := (gName 1)) (tt := tYes) rfl scRc.nd (pi_str (pv 0)) (blkOk_by (N := nRc) (sc := defScope sRc) (by decide +kernel)) (fun _ _ _ _ _ => pg_name (i := 1) scRc.nd rfl (Or.inl rfl)) (fun _ _ _ _ _ => pts_nil) (fun _ _ _ _ _ => (pe_cmpR op_in_sign (pv 1) (pe_gstr rfl gD) (by rfl)))) pa_nil))))))))
        (pss_one (ps_ret pe_non))
        pss_nil)
      (pss_cons (ps_if (PW.pt (pw_and (pt_cmpR op_eq (pe_ix ix_str (pv 0) pe_int (fun _ _ => rfl)) pe_str (nomark _)) (pw_and1 (pt_cmpR op_ne (pv 0) pe_str (nomark _)))))
        (pss_one (ps_ret pe_non))
        pss_nil)
      (pss_one (ps_ret (pe_callTy (call_int_str) (by rfl) gInt boot_int (pa_cons (pv 0) pa_nil)))))), ?_⟩
    refine ⟨_, rfl, _, str_tru hx, ?_⟩
    by_cases z : x.length = 0
    · have r : rcD x = none := by
        unfold rcD
        rw [z]
        rfl
      rw [show (!(x.length == 0)) = false by rw [z]; rfl]
      have q := want H same_rfl
      rw [r] at q
      exact iteT q
    rw [show (!(x.length == 0)) = true by rw [beq_eq_false_iff_ne.mpr z]; rfl]
    refine iteF ?_
    refine ⟨_, rfl, _, _, rfl, ⟨tx_fit hx, rfl⟩, _, _, rfl, rfl, _, rfl, ?_⟩
    by_cases y : 400 < x.length
    · have r : rcD x = none := by
        unfold rcD
        rw [decide_eq_true y, Bool.or_true, Bool.true_or]
        rfl
      rw [show decide ((x.length : Int) > 400) = true from decide_eq_true (by omega)]
      have q := want H same_rfl
      rw [r] at q
      exact iteT q
    rw [show decide ((x.length : Int) > 400) = false from decide_eq_false (by omega)]
    refine iteF ?_
    refine ⟨_, rfl, x, rfl, fun D hD => ?_⟩
    refine lc_out walk_str ((cl x).map fun c => some (V.bl (digB c))) (by rw [List.length_map]; exact Array.length_toList) (by have := cl_len x; show x.length ≤ _; omega) hD (fun _ _ => trivial) ?_ ?_
    · rintro k o ho H2 v H3 s2 ⟨rfl, c, hc, rfl⟩ Rn Ry hn hy
      obtain ⟨d, hd, rfl⟩ := some_of_get ho
      have : c = d := by
        have e : x.cps.toList[k]? = some c := by rw [Array.getElem?_toList]; exact hc
        exact Option.some.inj (e.symm.trans hd)
      subst this
      refine ⟨rfl, tyes ⟨_, rfl, _, _, rfl, rfl, ?_⟩⟩
      rw [digs_in]
      exact hy _ _ same_rfl rfl
    · intro H2 s2 hD2
      rw [fm_bl] at hD2
      refine ⟨D, _, rfl, SqL.of hD2, _, rfl, ?_⟩
      rw [all_id]
      by_cases a : (cl x).all digB = true
      · rw [a]
        refine iteF ?_
        obtain ⟨c0, t0, hc0⟩ : ∃ c t, cl x = c :: t := by
          cases e : cl x with
          | nil =>
            have := cl_len x
            rw [e] at this
            exact (z this.symm).elim
          | cons c t => exact ⟨c, t, rfl⟩
        refine ⟨_, rfl, x, 0, c0, rfl, rfl, tx_fit hx, ?_, ?_⟩
        · show atI (cl x) 0 = _
          rw [hc0]
          exact atI_nat (j := 0) rfl
        have un : rcD x = if ((cl x)[0]? == some 48 && decide (x ≠ "0")) = true then none else some ((digitsVal (cl x) : Nat) : Int) := by
          unfold rcD
          rw [a, beq_eq_false_iff_ne.mpr z, decide_eq_false y]
          rfl
        have e1 : decide (V.str ⟨#[c0]⟩ = V.str "0") = decide (c0 = 48) := by
          rw [Bool.eq_iff_iff, decide_eq_true_iff, decide_eq_true_iff]
          constructor
          · intro h
            have h := congrArg cl (V.str.inj h)
            exact (List.cons.inj (show [c0] = [48] from h)).1
          · rintro rfl
            exact congrArg V.str (str_ext (by decide +kernel))
        have e2 : ((cl x)[0]? == some 48) = decide (c0 = 48) := by
          rw [hc0]
          show (some c0 == some 48) = _
          rw [Bool.eq_iff_iff, beq_iff_eq, decide_eq_true_iff]
          exact ⟨fun h => Option.some.inj h, congrArg some⟩
        have last : rcD x = some ((digitsVal (cl x) : Nat) : Int) → ∃ v, (start nRc [V.str x])[0]? = some (some v) ∧ ∃ (a : Str) (n : Int), [v] = [V.str a] ∧ intText? a = some n ∧ a.length ≤ 640 ∧ Q (.int n) H2 := fun r => by
          have q := want H2 s2
          rw [r] at q
          refine ⟨_, rfl, x, _, rfl, ?_, by omega, q⟩
          refine PySem.intText_digits (fun c hc => ?_) (by show cl x ≠ []; rw [hc0]; exact fun h => nomatch h) (by omega)
          have := List.all_eq_true.mp a c hc
          unfold digB at this
          obtain ⟨a1, a2⟩ := Bool.and_eq_true_iff.mp this
          exact ⟨of_decide_eq_true a1, of_decide_eq_true a2⟩
        refine ⟨rfl, _, rfl, ?_⟩
        rw [e1]
        rw [e2] at un
        by_cases c : c0 = 48
        · rw [decide_eq_true c] at un ⊢
          refine iteT ⟨_, rfl, rfl, _, rfl, ?_⟩
          by_cases n : x = "0"
          · rw [show (!decide (V.str x = V.str "0")) = false by rw [n]; rfl]
            refine iteF (last ?_)
            rw [un, if_neg (by rw [decide_eq_false (fun h => h n)]; decide)]
          · rw [show (!decide (V.str x = V.str "0")) = true by rw [decide_eq_false (fun h => n (V.str.inj h))]; rfl]
            have q := want H2 s2
            rw [un, if_pos (by rw [decide_eq_true n]; rfl)] at q
            exact iteT q
        · rw [decide_eq_false c] at un ⊢
          refine iteF (iteF (last ?_))
          rw [un, Bool.false_and, if_neg (by decide)]
      · rw [Bool.eq_false_iff.mpr a]
        have r : rcD x = none := by
          unfold rcD
          rw [Bool.eq_false_iff.mpr a, Bool.not_false, Bool.or_true]
          rfl
        have q := want H2 s2
        rw [r] at q
        exact iteT q
end
end Vb
end L2

set_option Elab.async false
set_option linter.all false
set_option maxRecDepth 100000
set_option maxHeartbeats 4000000
/-! Vb, k88: holders by their names. -/
namespace L2
namespace Vb
open PySem PySem.Spec PyProof.Rows
def spRh : Sp := fun vs H Q _ => ∃ x : Str, vs = [.str x] ∧ Tx x ∧ ∀ H', Same H H' → Q (.bl (rhB x)) H'
def spHo : Sp := fun vs H Q _ => ∃ x : Str, vs = [.str x] ∧ Tx x ∧ ∀ H', Same H H' → Q (.bl (hoB x)) H'
theorem cut1 (x : Str) : cutS x (some 1) none = tailS x := by
  refine str_ext ?_
  show ((cl x).drop (HT.sIx x.length 0 (some ((1 : Nat) : Int)))).take (x.length - HT.sIx x.length 0 (some ((1 : Nat) : Int))) = (cl x).drop 1
  rw [HT.sIx_nat, ← cl_len x]
  cases e : cl x with
  | nil => rfl
  | cons c r =>
    have : min 1 (c :: r).length = 1 := Nat.min_eq_left (Nat.le_add_left 1 _)
    rw [this]
    exact List.take_of_length_le (by rw [List.length_drop]; exact Nat.le_refl _)
theorem tx_tail {x : Str} (h : Tx x) : Tx (tailS x) := by
  show (tailS x).length ≤ 100000
  rw [← cl_len, cl_tail, List.length_drop, cl_len]
  have : x.length ≤ 100000 := h
  omega
theorem len_sum {a b c x : Str} (h : a ++ b ++ c = x) : a.length ≤ x.length ∧ c.length ≤ x.length := by
  rw [← h, Str.length_append, Str.length_append]
  omega
theorem part_len (x y : Str) : (Txt.partition x y).1.length ≤ x.length ∧ (Txt.partition x y).2.2.length ≤ x.length := len_sum (PySem.StrLaws.partition_sum x y)
theorem tx_of {x y : Str} (h : Tx x) (l : y.length ≤ x.length) : Tx y := Nat.le_trans l h
theorem split_count (x y : Str) (h : 1 ≤ y.length) : (Txt.split x y).length ≤ x.length + 1 := by
  have := PyProof.Rows.split_weight x y h
  omega
theorem split_len {x y a : Str} (h : a ∈ Txt.split x y) : a.length ≤ x.length := PyProof.Rows.part_short h
theorem map_get {α : Type} {f : α → V} {xs : List α} {k : Nat} {v : V} {x : α} (h : (xs.map f)[k]? = some v) (e : xs[k]? = some x) : v = f x := by
  rw [List.getElem?_map, e] at h
  exact (Option.some.inj h).symm
/-- is not None -/
theorem notN_cnt (o : Option Int) : (!decide (cntV o = V.non)) = o.isSome := by
  cases o with
  | none => rfl
  | some n => rfl
theorem dec_strE {x y : Str} : decide (V.str x = V.str y) = decide (x = y) := by
  rw [Bool.eq_iff_iff, decide_eq_true_iff, decide_eq_true_iff]
  exact ⟨fun h => V.str.inj h, congrArg V.str⟩
abbrev sRh : Stmt := topS 16
abbrev nRh : List Str := ["value", "depth", "dot", "cell"]
theorem scRh : FnScope nRh ["value"] (defScope sRh) := ⟨rfl, rfl, rfl, by decide +kernel, rfl, by decide +kernel, by decide +kernel⟩
-- cells set()
section
variable {P : Program} {w : World} {K : PySem.W.Frag} {mg : Str → Option Value} {base : Heap}
theorem ok_rh {f fread_count : Addr} {fd fdread_count : FuncData} (F : Fun K "is_row_holder" "is_row_holder" sRh f fd)
    (Fread_count : Fun K "read_count" "read_count" sRc fread_count fdread_count) (Gread_count : FnOk P w K mg base CX0 1 fread_count fdread_count ["text"] spRc) (gread_count : mg "read_count" = some (.ref fread_count)) (gStr : mg "str" = none) (gType : mg "type" = none) :
    FnOk P w K mg base CX0 2 f fd ["value"] spRh := by
  have bread_count : Binds K fdread_count ["text"] [] := Fread_count.binds fun _ _ _ _ _ _ us hl => match us, hl with | [_], _ => rfl
  refine F.ok scRh (fun vs H Q E h => ?_) (fun cdv A outer s0 H vs Q E hr h => ?_)
  · obtain ⟨x, rfl, _⟩ := h
    rfl
  · obtain ⟨x, rfl, hx, want⟩ := h
    refine ⟨_, (pss_cons (ps_if (pt_cmpR op_isNotTy (pe_typeD rfl gType (pv 0)) (pe_bltn rfl gStr boot_strTU rel_strTU) (nomark _))
        (pss_one (ps_ret pe_bl))
        pss_nil)
      (pss_cons (ps_if (pt_val (pe_m1 PySem.F.slot_str_startswith PySem.F.type_str_startswith mt_startswith (pv 0) pe_str))
        (pss_one (ps_ret (pe_cmpR op_notN (pe_call Gread_count (hr.mono (by decide)) rfl gread_count Fread_count.kp bread_count .nil pass0 (pa_cons (pe_slice sl_str (pv 0) (po_some pe_int) po_none) pa_nil)) pe_non (nomark _))))
        pss_nil)
      (pss_cons (ps_asg (pe_partition (pe_slice sl_str (pv 0) (po_some pe_int) po_none) pe_str) (pg_tup rfl (pgs_cons (pg_name (i := 1) scRh.nd rfl (Or.inl rfl)) (pgs_cons (pg_name (i := 2) scRh.nd rfl (Or.inl rfl)) (pgs_cons (pg_name (i := 3) scRh.nd rfl (Or.inl rfl)) pgs_nil)))))
      (pss_one (ps_ret (pe_and (pe_m1 PySem.F.slot_str_startswith PySem.F.type_str_startswith mt_startswith (pv 0) pe_str) (pe_and (pe_cmpR op_eq (pv 2) pe_str (nomark _)) (pe_and (pe_cmpR op_notN (pe_call Gread_count (hr.mono (by decide)) rfl gread_count Fread_count.kp bread_count .nil pass0 (pa_cons (pv 1) pa_nil)) pe_non (nomark _)) (pe_one (pe_cmpR op_notN (pe_call Gread_count (hr.mono (by decide)) rfl gread_count Fread_count.kp bread_count .nil pass0 (pa_cons (pv 3) pa_nil)) pe_non (nomark _))))))))))), ?_⟩
    refine ⟨_, rfl, _, rfl, _, _, rfl, rfl, _, rfl, iteF ?_⟩
    refine ⟨_, rfl, ⟨x, rfl⟩, x, _, rfl, rfl, _, rfl, ?_⟩
    by_cases a : Txt.startswith x "#" = true
    · rw [a]
      have r : rhB x = (rcD (tailS x)).isSome := by
        unfold rhB
        rw [if_pos a]
      rw [r] at want
      refine iteT ?_
      refine ⟨_, rfl, _, rfl, x, rfl, tx_fit hx, ?_⟩
      rw [cut1]
      refine ⟨_, rfl, tx_tail hx, fun H1 s1 => ⟨rfl, ?_⟩⟩
      rw [notN_cnt]
      exact want H1 s1
    · rw [Bool.eq_false_iff.mpr a]
      refine iteF ?_
      obtain ⟨l1, l2⟩ := part_len (tailS x) "."
      have t1 : Tx (Txt.partition (tailS x) ".").1 := tx_of (tx_tail hx) l1
      have t2 : Tx (Txt.partition (tailS x) ".").2.2 := tx_of (tx_tail hx) l2
      have r : rhB x = (Txt.startswith x "@" && (decide ((Txt.partition (tailS x) ".").2.1 = ".") && ((rcD (Txt.partition (tailS x) ".").1).isSome && (rcD (Txt.partition (tailS x) ".").2.2).isSome))) := by
        unfold rhB
        rw [if_neg a]
      rw [r] at want
      refine ⟨_, rfl, _, rfl, x, rfl, tx_fit hx, ?_⟩
      rw [cut1]
      refine ⟨⟨_, rfl⟩, tailS x, _, rfl, rfl, by decide +kernel, tx_fit (tx_tail hx), fun p hp => ?_⟩
      refine ⟨p, _, rfl, SqT.of upd_same, rfl, _, _, rfl, _, _, rfl, _, _, rfl, rfl, ?_⟩
      have s0 := same_new (o := HO.tup [.str (Txt.partition (tailS x) ".").1, .str (Txt.partition (tailS x) ".").2.1, .str (Txt.partition (tailS x) ".").2.2]) hp
      generalize upd H p _ = H0 at s0 ⊢
      refine ⟨_, rfl, ⟨x, rfl⟩, x, _, rfl, rfl, _, rfl, ?_⟩
      cases b : Txt.startswith x "@" with
      | false =>
        rw [b] at want
        exact iteF (want H0 s0)
      | true =>
        rw [b] at want
        refine iteT ⟨_, rfl, rfl, _, rfl, ?_⟩
        rw [dec_strE]
        cases c : decide ((Txt.partition (tailS x) ".").2.1 = ".") with
        | false =>
          rw [c] at want
          exact iteF (want H0 s0)
        | true =>
          rw [c] at want
          refine iteT ⟨_, rfl, _, rfl, t1, fun H1 s1 => ⟨rfl, _, rfl, ?_⟩⟩
          rw [notN_cnt]
          cases d : (rcD (Txt.partition (tailS x) ".").1).isSome with
          | false =>
            rw [d] at want
            exact iteF (want H1 (same_trans s0 s1))
          | true =>
            rw [d] at want
            refine iteT ⟨_, rfl, _, rfl, t2, fun H2 s2 => ⟨rfl, ?_⟩⟩
            rw [notN_cnt]
            exact want H2 (same_trans s0 (same_trans s1 s2))
end
abbrev sHo : Stmt := topS 17
abbrev nHo : List Str := ["value", "part"]
theorem scHo : FnScope nHo ["value"] (defScope sHo) := ⟨rfl, rfl, rfl, by decide +kernel, rfl, by decide +kernel, by decide +kernel⟩
-- cells set()
section
variable {P : Program} {w : World} {K : PySem.W.Frag} {mg : Str → Option Value} {base : Heap}
theorem ok_ho {f fis_name fis_row_holder : Addr} {fd fdis_name fdis_row_holder : FuncData} (F : Fun K "is_holder" "is_holder" sHo f fd)
    (Fis_name : Fun K "is_name" "is_name" sName fis_name fdis_name) (Gis_name : FnOk P w K mg base CX0 1 fis_name fdis_name ["value"] spNameT) (gis_name : mg "is_name" = some (.ref fis_name))
    (Fis_row_holder : Fun K "is_row_holder" "is_row_holder" sRh fis_row_holder fdis_row_holder) (Gis_row_holder : FnOk P w K mg base CX0 2 fis_row_holder fdis_row_holder ["value"] spRh) (gis_row_holder : mg "is_row_holder" = some (.ref fis_row_holder)) (gAll : mg "all" = none) (gStr : mg "str" = none) (gType : mg "type" = none) :
    FnOk P w K mg base CX0 3 f fd ["value"] spHo := by
  have bis_name : Binds K fdis_name ["value"] [] := Fis_name.binds fun _ _ _ _ _ _ us hl => match us, hl with | [_], _ => rfl
  have bis_row_holder : Binds K fdis_row_holder ["value"] [] := Fis_row_holder.binds fun _ _ _ _ _ _ us hl => match us, hl with | [_], _ => rfl
  refine F.ok scHo (fun vs H Q E h => ?_) (fun cdv A outer s0 H vs Q E hr h => ?_)
  · obtain ⟨x, rfl, _⟩ := h
    rfl
  · obtain ⟨x, rfl, hx, want⟩ := h
    refine ⟨_, (pss_cons (ps_if (pt_cmpR op_isNotTy (pe_typeD rfl gType (pv 0)) (pe_bltn rfl gStr boot_strTU rel_strTU) (nomark _))
        (pss_one (ps_ret pe_bl))
        pss_nil)
      (pss_one (ps_ret (pe_or (pe_call Gis_row_holder (hr.mono (by decide)) rfl gis_row_holder Fis_row_holder.kp bis_row_holder .nil pass0 (pa_cons (pv 0) pa_nil)) (pe_one (pe_callB (cr_all rfl) (by rfl) gAll boot_all (pa_cons (pe_lc (own := [("part", 1)]) (g := (gName 1)) (tt := tYes) rfl scHo.nd (pi_list (pe_split (pv 0) pe_str)) (blkOk_by (N := nHo) (sc := defScope sHo) (by decide +kernel)) (fun _ _ _ _ _ => pg_name (i := 1) scHo.nd rfl (Or.inl rfl)) (fun _ _ _ _ _ => pts_nil) (fun _ _ _ _ _ => (pe_call Gis_name (hr.mono (by decide)) rfl gis_name Fis_name.kp bis_name .nil pass0 (pa_cons (pv 1) pa_nil)))) pa_nil))))))), ?_⟩
    refine ⟨_, rfl, _, rfl, _, _, rfl, rfl, _, rfl, iteF ?_⟩
    refine ⟨_, rfl, x, rfl, hx, fun H1 s1 => ⟨_, rfl, ?_⟩⟩
    unfold hoB at want
    cases a : rhB x with
    | true =>
      rw [a] at want
      exact iteT (want H1 s1)
    | false =>
      rw [a] at want
      refine iteF ?_
      refine ⟨_, rfl, ⟨x, rfl⟩, x, _, rfl, rfl, by decide +kernel, by have := hx; rw [sizeLine_eq]; omega, fun p hp => ?_⟩
      refine ⟨p, rfl, ⟨_, SqL.of upd_same⟩, fun D hD => ?_⟩
      have s0 := same_new (o := HO.lst ((Txt.split x ".").map V.str)) hp
      have h0 : upd H1 p (HO.lst ((Txt.split x ".").map V.str)) p = some (.lst ((Txt.split x ".").map V.str)) := upd_same
      generalize upd H1 p _ = H0 at s0 h0 hD ⊢
      have wt := split_count x "." (by decide +kernel)
      refine lc_out (walk_list (xs := (Txt.split x ".").map V.str)) ((Txt.split x ".").map fun t => some (V.bl (nameT t))) (by rw [List.length_map, List.length_map]) (by rw [List.length_map]; have : x.length ≤ 100000 := hx; omega) hD (fun H' s => SqL.of (s _ _ h0)) ?_ ?_
      · rintro k o ho H2 v H3 s2 ⟨rfl, hv⟩ Rn Ry hn hy
        obtain ⟨t, ht, rfl⟩ := some_of_get ho
        obtain rfl := map_get hv ht
        refine ⟨rfl, tyes ⟨_, rfl, t, rfl, tx_of hx (split_len (List.mem_of_getElem? ht)), ?_⟩⟩
        exact hy _ _ same_rfl rfl
      · intro H2 s2 hD2
        rw [fm_bl] at hD2
        refine ⟨D, _, rfl, SqL.of hD2, ?_⟩
        rw [all_id]
        exact want H2 (same_trans s1 (same_trans s0 s2))
end
end Vb
end L2

set_option Elab.async false
set_option linter.all false
set_option maxRecDepth 100000
set_option maxHeartbeats 4000000
/-! Vb, k88: sums out of texts. -/
namespace L2
namespace Vb
open PySem PySem.Spec PyProof.Rows
theorem but_tr {m : Addr} {H H' H'' : Hp} (a : But m H H') (b : But m H' H'') : But m H H'' := fun c n o e => b c n o (a c n o e)
theorem huO {k : Nat} {A : Around} (h : Room k A) : A.units + 1 < cLine := by
  have := h.un
  omega
def spRs : Sp := fun vs H Q _ => ∃ x : Str, vs = [.str x] ∧ Tx x ∧ (∀ H', Same H H' → rsD x = none → Q .non H') ∧ ∀ H' a W, Same H H' → H a = none → Dct H' a W → rsD x = some W → Q (.ref a) H'
theorem put_kvs (W : SumZ) (x : Str) (n : Int) : putK (kvsZ W) (Sum.inr x : Key) (V.int n) = kvsZ (putZ W x n) := by
  unfold putK putZ hasZ kvsZ
  have e : ((W.map fun q => ((Sum.inr q.1 : Key), V.int q.2)).any fun kv => decide (kv.1 = Sum.inr x)) = W.any fun q => decide (q.1 = x) := by
    rw [List.any_map]
    congr 1
    funext q
    show decide ((Sum.inr q.1 : Key) = Sum.inr x) = decide (q.1 = x)
    rw [Bool.eq_iff_iff, decide_eq_true_iff, decide_eq_true_iff]
    exact ⟨fun h => Sum.inr.inj h, congrArg _⟩
  rw [e]
  split
  · rw [List.map_map, List.map_map]
    refine List.map_congr_left fun q _ => ?_
    show (if (Sum.inr q.1 : Key) = Sum.inr x then ((Sum.inr q.1 : Key), V.int n) else (Sum.inr q.1, V.int q.2)) = _
    by_cases z : q.1 = x
    · rw [if_pos (congrArg _ z)]
      show _ = ((Sum.inr (if q.1 = x then (q.1, n) else q).1 : Key), V.int (if q.1 = x then (q.1, n) else q).2)
      rw [if_pos z]
    · rw [if_neg (fun h => z (Sum.inr.inj h))]
      show _ = ((Sum.inr (if q.1 = x then (q.1, n) else q).1 : Key), V.int (if q.1 = x then (q.1, n) else q).2)
      rw [if_neg z]
  · rw [List.map_append]
    rfl
theorem put_len (W : SumZ) (x : Str) (n : Int) : (putZ W x n).length ≤ W.length + 1 := by
  unfold putZ
  split
  · rw [List.length_map]
    omega
  · rw [List.length_append]
    exact Nat.le_refl _
theorem rsGo_app : ∀ (a b : List Str) (W : SumZ), rsGo (a ++ b) W = (rsGo a W).bind (rsGo b)
  | [], b, W => rfl
  | t :: a, b, W => by
    rw [List.cons_append, rsGo, rsGo]
    cases rcD (Txt.partition t " ").1 with
    | none => rfl
    | some n => exact rsGo_app a b _
theorem rsGo_none {a b : List Str} {W : SumZ} (h : rsGo a W = none) : rsGo (a ++ b) W = none := by
  rw [rsGo_app, h]
  rfl
abbrev sRs : Stmt := topS 14
abbrev nRs : List Str := ["text", "wanted", "words", "count", "_", "name", "factor"]
theorem scRs : FnScope nRs ["text"] (defScope sRs) := ⟨rfl, rfl, rfl, by decide +kernel, rfl, by decide +kernel, by decide +kernel⟩
-- cells set()
section
variable {P : Program} {w : World} {K : PySem.W.Frag} {mg : Str → Option Value} {base : Heap}
theorem ok_rs {f fread_count : Addr} {fd fdread_count : FuncData} (F : Fun K "read_sum" "read_sum" sRs f fd)
    (Fread_count : Fun K "read_count" "read_count" sRc fread_count fdread_count) (Gread_count : FnOk P w K mg base CX0 1 fread_count fdread_count ["text"] spRc) (gread_count : mg "read_count" = some (.ref fread_count)) :
    FnOk P w K mg base CX0 2 f fd ["text"] spRs := by
  have bread_count : Binds K fdread_count ["text"] [] := Fread_count.binds fun _ _ _ _ _ _ us hl => match us, hl with | [_], _ => rfl
  refine F.ok scRs (fun vs H Q E h => ?_) (fun cdv A outer s0 H vs Q E hr h => ?_)
  · obtain ⟨x, rfl, _⟩ := h
    rfl
  · obtain ⟨x, rfl, hx, wantN, wantS⟩ := h
    refine ⟨_, (pss_cons (ps_if (pt_cmpR op_eq (pv 0) pe_str (nomark _))
        (pss_one (ps_ret pe_dnewK))
        pss_nil)
      (pss_cons (ps_set (i := 1) scRs.nd rfl (Or.inl rfl) pe_dnewK)
      (pss_cons (ps_for PassesOwn.never rfl (pi_list (pe_split (pv 0) pe_str)) (pg_name (i := 2) scRs.nd rfl (Or.inl rfl))
        (pss_cons (ps_asg (pe_partition (pv 2) pe_str) (pg_tup rfl (pgs_cons (pg_name (i := 3) scRs.nd rfl (Or.inl rfl)) (pgs_cons (pg_name (i := 4) scRs.nd rfl (Or.inl rfl)) (pgs_cons (pg_name (i := 5) scRs.nd rfl (Or.inl rfl)) pgs_nil)))))
          (pss_cons (ps_set (i := 6) scRs.nd rfl (Or.inl rfl) (pe_call Gread_count (hr.mono (by decide)) rfl gread_count Fread_count.kp bread_count .nil pass0 (pa_cons (pv 3) pa_nil)))
          (pss_cons (ps_if (pt_cmpR op_isN (pv 6) pe_non (nomark _))
            (pss_one (ps_ret pe_non))
            pss_nil)
          (pss_one (ps_dput (huO hr) (pv 1) (pv 5) (pv 6) (by rfl)))))))
      (pss_one (ps_ret (pv 1)))))), ?_⟩
    refine ⟨_, rfl, rfl, _, rfl, ?_⟩
    rw [dec_strE]
    unfold rsD at wantN wantS
    by_cases z : x = "0"
    · rw [decide_eq_true z]
      rw [if_pos z] at wantN wantS
      refine iteT fun p hp => ?_
      exact wantS _ p [] (same_new hp) hp upd_same rfl
    · rw [decide_eq_false z]
      rw [if_neg z] at wantN wantS
      refine iteF fun d hd => ?_
      refine ⟨_, rfl, ⟨x, rfl⟩, x, _, rfl, rfl, by decide +kernel, by have := hx; rw [sizeLine_eq]; omega, fun p hp => ?_⟩
      have wt := split_count x " + " (by decide +kernel)
      have npd : p ≠ d := fun e => by
        rw [e, upd_same] at hp
        cases hp
      have s0 : Same H (upd (upd H d (.dK [])) p (HO.lst ((Txt.split x " + ").map V.str))) := same_trans (same_new hd) (same_new hp)
      have h0 : upd (upd H d (.dK [])) p (HO.lst ((Txt.split x " + ").map V.str)) p = some (.lst ((Txt.split x " + ").map V.str)) := upd_same
      have d0 : upd (upd H d (.dK [])) p (HO.lst ((Txt.split x " + ").map V.str)) d = some (.dK []) := by
        rw [upd_ne (Ne.symm npd), upd_same]
      generalize upd (upd H d (.dK [])) p _ = H0 at s0 h0 d0 ⊢
      have tl : ∀ t ∈ Txt.split x " + ", Tx t := fun t m => tx_of hx (split_len m)
      refine ⟨p, rfl, ⟨_, SqL.of h0⟩, ?_⟩
      refine for_list (xs := (Txt.split x " + ").map V.str) (fun k σ H' => ∃ (W : SumZ) (o2 o3 o4 o5 o6 : Option V), rsGo ((Txt.split x " + ").take k) [] = some W ∧ W.length ≤ k ∧ σ = [some (.str x), some (.ref d), o2, o3, o4, o5, o6] ∧ But d H0 H' ∧ H' d = some (.dK (kvsZ W)))
        ⟨[], _, _, _, _, _, rfl, Nat.zero_le _, rfl, (fun _ _ _ h => h), d0⟩ ?_ ?_ ?_
      · rintro i σ H' _ ⟨W, o2, o3, o4, o5, o6, _, _, _, b, _⟩
        exact SqL.of (b _ npd _ h0)
      · rintro i v σ H' hv ⟨W, o2, o3, o4, o5, o6, r, l, rfl, b, hW⟩
        rw [List.getElem?_map] at hv
        obtain ⟨t, ht, rfl⟩ := Option.map_eq_some_iff.mp hv
        have tt := tl t (List.mem_of_getElem? ht)
        have li : i < (Txt.split x " + ").length := (List.getElem?_eq_some_iff.mp ht).1
        obtain ⟨l1, l2⟩ := part_len t " "
        have tk : (Txt.split x " + ").take (i + 1) = (Txt.split x " + ").take i ++ [t] := by
          rw [List.take_add_one, ht]
          rfl
        refine ⟨_, rfl, ⟨t, rfl⟩, t, _, rfl, rfl, by decide +kernel, tx_fit tt, fun q hq => ?_⟩
        refine ⟨q, _, rfl, SqT.of upd_same, rfl, _, _, rfl, _, _, rfl, _, _, rfl, rfl, ?_⟩
        have nqd : d ≠ q := ne_of_none hW hq
        have b1 : But d H0 (upd H' q (HO.tup [.str (Txt.partition t " ").1, .str (Txt.partition t " ").2.1, .str (Txt.partition t " ").2.2])) := but_tr b (but_same (same_new hq))
        have hW1 : upd H' q (HO.tup [.str (Txt.partition t " ").1, .str (Txt.partition t " ").2.1, .str (Txt.partition t " ").2.2]) d = some (.dK (kvsZ W)) := (upd_ne nqd).trans hW
        generalize upd H' q _ = H1 at b1 hW1 ⊢
        refine ⟨_, rfl, _, rfl, tx_of tt l1, fun H2 s2 => ?_⟩
        refine ⟨_, rfl, rfl, _, rfl, ?_⟩
        have b2 : But d H0 H2 := but_tr b1 (but_same s2)
        cases e : rcD (Txt.partition t " ").1 with
        | none =>
          refine iteT (wantN H2 (fun a o ha => b2 a (fun ea => by rw [ea, hd] at ha; cases ha) o (s0 a o ha)) ?_)
          have : Txt.split x " + " = (Txt.split x " + ").take (i + 1) ++ (Txt.split x " + ").drop (i + 1) := (List.take_append_drop _ _).symm
          rw [this]
          refine rsGo_none ?_
          rw [tk, rsGo_app, r]
          show rsGo [t] W = none
          rw [rsGo, e]
        | some n =>
          refine iteF ?_
          refine ⟨_, rfl, _, rfl, _, rfl, d, _, rfl, DPut.k (k := Sum.inr (Txt.partition t " ").2.2) (s2 _ _ hW1) (by unfold kvsZ; rw [List.length_map, sizeLine_eq]; have : x.length ≤ 100000 := hx; omega), ?_⟩
          rw [show cntV (some n) = V.int n from rfl, put_kvs]
          refine ⟨putZ W (Txt.partition t " ").2.2 n, _, _, _, _, _, ?_, ?_, rfl, ?_, upd_same⟩
          · rw [tk, rsGo_app, r]
            show rsGo [t] W = _
            rw [rsGo, e]
            rfl
          · have := put_len W (Txt.partition t " ").2.2 n
            omega
          · intro a na o ha
            rw [upd_ne na]
            exact b2 a na o ha
      · rintro σ H' ⟨W, o2, o3, o4, o5, o6, r, l, rfl, b, hW⟩
        rw [List.length_map, List.take_length] at r
        refine ⟨_, rfl, wantS H' d W (fun a o ha => b a (fun ea => by rw [ea, hd] at ha; cases ha) o (s0 a o ha)) hd hW r⟩
end
end Vb
end L2

set_option Elab.async false
set_option linter.all false
set_option maxRecDepth 100000
set_option maxHeartbeats 4000000
/-! Vb, k88: is_written_sum. -/
namespace L2
namespace Vb
open PySem PySem.Spec PyProof.Rows
/-- a sum that is not too great -/
def LimW (W : SumZ) : Prop := (W.map (·.1)).Nodup ∧ W.length < 64 ∧ ∀ q ∈ W, q.1.length ≤ 200 ∧ q.2.natAbs.log2 < 1900 ∧ (numS q.2).length ≤ 400
/-- a sum or None -/
def SumAt (H : Hp) (v : V) : Option SumZ → Prop
  | none => v = .non
  | some W => ∃ a, v = .ref a ∧ Dct H a W
def spWr : Sp := fun vs H Q _ => ∃ (v : V) (o : Option SumZ), vs = [v] ∧ SumAt H v o ∧ (∀ W, o = some W → LimW W) ∧ ∀ H', Same H H' → Q (.bl ((o.map wrB).getD false)) H'
theorem boot_dictTU : bootBuiltins ("dict" : Str) = some (.type "dict") := by decide +kernel
theorem rel_dictTU : RelV (.ty "dict") (.type "dict") := rfl
theorem kvs_len (W : SumZ) : (kvsZ W).length = W.length := List.length_map _
theorem kvs_at {W : SumZ} {k : Nat} {x : Key} {v : V} (h : (kvsZ W)[k]? = some (x, v)) : ∃ q, W[k]? = some q ∧ x = Sum.inr q.1 ∧ v = .int q.2 := by
  unfold kvsZ at h
  rw [List.getElem?_map] at h
  obtain ⟨q, e, r⟩ := Option.map_eq_some_iff.mp h
  cases r
  exact ⟨q, e, rfl, rfl⟩
theorem val_kvs (W : SumZ) (x : Str) : valV (kvsZ W) (Sum.inr x) = (W.find? fun q => decide (q.1 = x)).map fun q => V.int q.2 := by
  induction W with
  | nil => rfl
  | cons q W ih =>
    by_cases e : q.1 = x
    · have e2 : ((Sum.inr q.1 : Key), V.int q.2).1 = Sum.inr x := congrArg Sum.inr e
      rw [List.find?_cons_of_pos (p := fun q : Str × Int => decide (q.1 = x)) (by rw [decide_eq_true e])]
      exact valV_pos (p := ((Sum.inr q.1 : Key), V.int q.2)) e2
    · have e2 : ¬ ((Sum.inr q.1 : Key), V.int q.2).1 = Sum.inr x := fun h => e (Sum.inr.inj h)
      rw [List.find?_cons_of_neg (p := fun q : Str × Int => decide (q.1 = x)) (by rw [decide_eq_false e]; decide)]
      exact (valV_neg (p := ((Sum.inr q.1 : Key), V.int q.2)) e2).trans ih
theorem val_mem {W : SumZ} (nd : (W.map (·.1)).Nodup) {q : Str × Int} (m : q ∈ W) : valV (kvsZ W) (Sum.inr q.1) = some (.int q.2) := by
  rw [val_kvs, find_nd nd m]
  rfl
theorem dict_get {H : Hp} {a : Addr} {W : SumZ} (h : Rd H a (.dK (kvsZ W))) (x : Str) : DGet H a (.str x) (valV (kvsZ W) (Sum.inr x)) := .inl ⟨_, Sum.inr x, h, rfl, rfl⟩
abbrev sWr : Stmt := topS 19
abbrev nWr : List Str := ["value", "count", "key"]
theorem scWr : FnScope nWr ["value"] (defScope sWr) := ⟨rfl, rfl, rfl, by decide +kernel, rfl, by decide +kernel, by decide +kernel⟩
-- cells {'value'}
section
variable {P : Program} {w : World} {K : PySem.W.Frag} {mg : Str → Option Value} {base : Heap}
theorem ok_wr {f fis_count fis_holder : Addr} {fd fdis_count fdis_holder : FuncData} (F : Fun K "is_written_sum" "is_written_sum" sWr f fd)
    (Fis_count : Fun K "is_count" "is_count" sCount fis_count fdis_count) (Gis_count : FnOk P w K mg base CX0 1 fis_count fdis_count ["value"] spCountD) (gis_count : mg "is_count" = some (.ref fis_count))
    (Fis_holder : Fun K "is_holder" "is_holder" sHo fis_holder fdis_holder) (Gis_holder : FnOk P w K mg base CX0 3 fis_holder fdis_holder ["value"] spHo) (gis_holder : mg "is_holder" = some (.ref fis_holder)) (gAll : mg "all" = none) (gDict : mg "dict" = none) (gType : mg "type" = none) :
    FnOk P w K mg base CX0 4 f fd ["value"] spWr := by
  have bis_count : Binds K fdis_count ["value"] [] := Fis_count.binds fun _ _ _ _ _ _ us hl => match us, hl with | [_], _ => rfl
  have bis_holder : Binds K fdis_holder ["value"] [] := Fis_holder.binds fun _ _ _ _ _ _ us hl => match us, hl with | [_], _ => rfl
  refine F.ok scWr (fun vs H Q E h => ?_) (fun cdv A outer s0 H vs Q E hr h => ?_)
  · obtain ⟨v, o, rfl, _⟩ := h
    rfl
  · obtain ⟨v, o, rfl, sv, lim, want⟩ := h
    refine ⟨_, (pss_cons (ps_if (PW.pt (pw_or (pt_cmpR op_isNotTy (pe_typeD rfl gType (pv 0)) (pe_bltn rfl gDict boot_dictTU rel_dictTU) (nomark _)) (pw_or1 (pt_not (pt_val (pe_callB (cr_all rfl) (by rfl) gAll boot_all (pa_cons (pe_lock (pe_lc (own := [("count", 1)]) (g := (gName 1)) (tt := tYes) rfl scWr.nd (pi_values (pv 0)) (blkOk_by (N := nWr) (sc := defScope sWr) (by decide +kernel)) (fun _ _ _ _ _ => pg_name (i := 1) scWr.nd rfl (Or.inl rfl)) (fun _ _ _ _ _ => pts_nil) (fun _ _ _ _ _ => (pe_call Gis_count (hr.mono (by decide)) rfl gis_count Fis_count.kp bis_count .nil pass0 (pa_cons (pv 1) pa_nil))))) pa_nil)))))))
        (pss_one (ps_ret pe_bl))
        pss_nil)
      (pss_one (ps_ret (pe_callB (cr_all rfl) (by rfl) gAll boot_all (pa_cons (pe_lock (pe_lc (own := [("key", 2)]) (g := (gName 2)) (tt := tYes) rfl scWr.nd (pi_keys (pv 0)) (blkOk_by (N := nWr) (sc := defScope sWr) (by decide +kernel)) (fun _ _ _ _ _ => pg_name (i := 2) scWr.nd rfl (Or.inl rfl)) (fun _ _ _ _ _ => pts_nil) (fun _ _ _ _ _ => (pe_ifExp (pt_cmpR op_eq (pv 2) pe_str (nomark _)) (pe_cmpR op_ge (pe_dget (huO hr) (pv 0) (pv 2) (fun _ _ => rfl)) pe_int (nomark _)) (pe_call Gis_holder (hr.mono (by decide)) rfl gis_holder Fis_holder.kp bis_holder .nil pass0 (pa_cons (pv 2) pa_nil)))))) pa_nil))))), ?_⟩
    cases o with
    | none =>
      cases sv
      exact ⟨_, rfl, _, rfl, _, _, rfl, rfl, _, rfl, iteT (want H same_rfl)⟩
    | some W =>
      obtain ⟨a, rfl, ha⟩ := sv
      have ha : H a = some (.dK (kvsZ W)) := ha
      obtain ⟨nd, wl, wq⟩ := lim W rfl
      refine ⟨_, rfl, "dict", by simp only [zTyD, ha], _, _, rfl, rfl, _, rfl, iteF ?_⟩
      refine ⟨a, .dK (kvsZ W), ha, trivial, fun od => ?_⟩
      refine ⟨_, rfl, a, od, kvsZ W, rfl, upd_same, fun D hD => ?_⟩
      refine lc_out walk_values (W.map fun q => some (V.bl (decide (0 ≤ q.2)))) (by rw [List.length_map, kvs_len]) (by rw [kvs_len]; omega) hD (fun H' s => s _ _ upd_same) ?_ ?_
      · rintro k ob ho H2 v H3 s2 ⟨rfl, ky, hv⟩ Rn Ry hn hy
        obtain ⟨q, hq, rfl⟩ := some_of_get ho
        obtain ⟨q2, hq2, _, rfl⟩ := kvs_at hv
        obtain rfl := Option.some.inj (hq2.symm.trans hq)
        refine ⟨rfl, tyes ⟨_, rfl, _, _, 0, rfl, Sho.int _, ?_⟩⟩
        exact hy _ _ same_rfl rfl
      · intro H2 s2 hD2
        rw [fm_bl] at hD2
        refine ⟨s2 _ _ upd_same, ?_⟩
        have nDa : D ≠ a := fun e => by
          rw [e, upd_same] at hD
          cases hD
        refine ⟨D, _, rfl, SqL.of (by rw [upd_ne nDa]; exact hD2), _, rfl, ?_⟩
        rw [all_id]
        have s1 : Same H (upd H2 a (.dK (kvsZ W))) := same_unlock ha s2
        have h1 : upd H2 a (.dK (kvsZ W)) a = some (.dK (kvsZ W)) := upd_same
        generalize upd H2 a (.dK (kvsZ W)) = H3 at s1 h1 ⊢
        have want : ∀ H', Same H H' → Q (.bl (wrB W)) H' := want
        unfold wrB at want
        cases e : W.all (fun q => decide (0 ≤ q.2)) with
        | false =>
          rw [e] at want
          exact iteT (want _ s1)
        | true =>
          rw [e] at want
          refine iteF ?_
          refine ⟨a, .dK (kvsZ W), h1, trivial, fun od => ?_⟩
          refine ⟨_, rfl, a, od, rfl, .inl ⟨kvsZ W, upd_same, fun D2 hD2 => ?_⟩⟩
          refine lc_out walk_keys (W.map fun q => some (V.bl (if q.1 = ("" : Str) then decide (1 ≤ q.2) else hoB q.1))) (by rw [List.length_map, kvs_len]) (by rw [kvs_len]; omega) hD2 (fun H' s => s _ _ upd_same) ?_ ?_
          · rintro k ob ho H4 v H5 s4 ⟨rfl, ky, v2, hv, rfl⟩ Rn Ry hn hy
            obtain ⟨q, hq, rfl⟩ := some_of_get ho
            obtain ⟨q2, hq2, rfl, rfl⟩ := kvs_at hv
            obtain rfl := Option.some.inj (hq2.symm.trans hq)
            have mq := List.mem_of_getElem? hq
            obtain ⟨lq, _⟩ := wq _ mq
            refine ⟨rfl, tyes ⟨_, rfl, rfl, _, rfl, ?_⟩⟩
            show if decide (V.str q2.1 = V.str "") = true then _ else _
            rw [dec_strE]
            by_cases z : q2.1 = ""
            · rw [if_pos z] at hy
              rw [decide_eq_true z]
              refine iteT ⟨_, rfl, _, rfl, a, _, rfl, by have := dict_get (H := H5) (a := a) (W := W) (.inr ⟨_, s4 _ _ upd_same⟩) q2.1; rw [val_mem nd mq] at this; exact this, _, _, rfl, rfl, ?_⟩
              exact hy _ _ same_rfl rfl
            · rw [if_neg z] at hy
              rw [decide_eq_false z]
              refine iteF ⟨_, rfl, q2.1, rfl, by show q2.1.length ≤ 100000; omega, fun H6 s6 => ?_⟩
              exact hy _ _ s6 rfl
          · intro H4 s4 hD4
            rw [fm_bl] at hD4
            refine ⟨s4 _ _ upd_same, ?_⟩
            have nDa : D2 ≠ a := fun e => by
              rw [e, upd_same] at hD2
              cases hD2
            refine ⟨D2, _, rfl, SqL.of (by rw [upd_ne nDa]; exact hD4), ?_⟩
            rw [all_id]
            exact want _ (same_trans s1 (same_unlock h1 s4))
end
end Vb
end L2

set_option Elab.async false
set_option linter.all false
set_option maxRecDepth 100000
set_option maxHeartbeats 4000000
/-! Vb, k88: sum_words. -/
namespace L2
namespace Vb
open PySem PySem.Spec PyProof.Rows
/-- an f-text -/
def tJn (ts : List TE) : TE := fun σ H Q => tJs ts Str.empty σ H fun out H1 => Q (.str out) H1
def spSw : Sp := fun vs H Q _ => ∃ (a : Addr) (W : SumZ), vs = [.ref a] ∧ Dct H a W ∧ LimW W ∧ ∀ H', Same H H' → Q (.str (swD W)) H'
theorem kvs_keys (W : SumZ) : (kvsZ W).map (·.1) = (W.map (·.1)).map Sum.inr := by
  unfold kvsZ
  rw [List.map_map, List.map_map]
  rfl
theorem val_has (W : SumZ) (x : Str) : (valV (kvsZ W) (Sum.inr x)).isSome = hasZ W x := by
  rw [val_kvs, Option.isSome_map, Bool.eq_iff_iff, List.find?_isSome, has_iff, List.mem_map]
  constructor
  · rintro ⟨q, m, e⟩
    exact ⟨q, m, of_decide_eq_true e⟩
  · rintro ⟨q, m, e⟩
    exact ⟨q, m, decide_eq_true e⟩
theorem fm_words (W : SumZ) (f : Str → Str) : ∀ ks : List Str, (ks.map fun k => if k.length = 0 then none else some (V.str (f k))).filterMap id = ((ks.filter fun k => !(k.length == 0)).map f).map V.str
  | [] => rfl
  | k :: ks => by
    rw [List.map_cons]
    by_cases z : k.length = 0
    · rw [if_pos z, List.filter_cons_of_neg (by rw [z]; decide)]
      exact fm_words W f ks
    · rw [if_neg z, List.filter_cons_of_pos (by rw [beq_eq_false_iff_ne.mpr z]; rfl)]
      exact congrArg (V.str (f k) :: ·) (fm_words W f ks)
theorem val_key {W : SumZ} (nd : (W.map (·.1)).Nodup) {k : Str} (m : k ∈ W.map (·.1)) : valV (kvsZ W) (Sum.inr k) = some (.int (facZ W k)) ∧ (k, facZ W k) ∈ W := by
  obtain ⟨q, mq, rfl⟩ := List.mem_map.mp m
  rw [fac_of nd mq]
  exact ⟨val_mem nd mq, mq⟩
theorem len_one : (" " : Str).length = 1 := by decide +kernel
theorem len_pl : (" + " : Str).length = 3 := by decide +kernel
theorem word_len {W : SumZ} (h : LimW W) {p : Str} (m : p ∈ swA W) : p.length ≤ 700 := by
  obtain ⟨nd, _, wq⟩ := h
  have hl : ∀ p ∈ swL W, p.length ≤ 700 := fun p m => by
    obtain ⟨k, mk, rfl⟩ := List.mem_map.mp m
    have mk := (srt_perm _).mem_iff.mp (List.mem_filter.mp mk).1
    have z := wq _ (val_key nd mk).2
    rw [Str.length_append, Str.length_append, len_one]
    have z1 : k.length ≤ 200 := z.1
    have z2 : (numS (facZ W k)).length ≤ 400 := z.2.2
    omega
  unfold swA at m
  split at m
  · next z =>
    rcases List.mem_append.mp m with m | m
    · exact hl p m
    · rw [List.mem_singleton.mp m]
      have z := wq _ (val_key nd (has_iff.mp z)).2
      have z2 : (numS (facZ W "")).length ≤ 400 := z.2.2
      omega
  · exact hl p m
theorem sum_le : ∀ {ps : List Str} {n : Nat}, (∀ p ∈ ps, p.length ≤ n) → (ps.map (·.length)).sum ≤ ps.length * n
  | [], n, _ => Nat.zero_le _
  | p :: ps, n, h => by
    have a := sum_le fun q m => h q (List.mem_cons_of_mem _ m)
    have b := h p List.mem_cons_self
    rw [List.map_cons, List.sum_cons, List.length_cons, Nat.succ_mul]
    omega
theorem swA_len {W : SumZ} : (swA W).length ≤ W.length + 1 := by
  have h : (swL W).length ≤ W.length := by
    unfold swL
    rw [List.length_map]
    have a := List.length_filter_le (fun k : Str => !(k.length == 0)) (srtS (W.map (·.1)))
    have b := (srt_perm (W.map (·.1))).length_eq
    rw [List.length_map] at b
    omega
  unfold swA
  split
  · rw [List.length_append]
    exact Nat.add_le_add_right h 1
  · omega
theorem swA_fit {W : SumZ} (h : LimW W) : ((swA W).map (·.length)).sum + (swA W).length * (" + " : Str).length ≤ 100000 := by
  have a := sum_le (n := 700) fun p m => word_len h m
  have b := swA_len (W := W)
  have c := h.2.1
  rw [len_pl]
  omega
abbrev sSw : Stmt := topS 9
abbrev nSw : List Str := ["wanted", "words", "name"]
theorem scSw : FnScope nSw ["wanted"] (defScope sSw) := ⟨rfl, rfl, rfl, by decide +kernel, rfl, by decide +kernel, by decide +kernel⟩
-- cells {'wanted'}
section
variable {P : Program} {w : World} {K : PySem.W.Frag} {mg : Str → Option Value} {base : Heap}
theorem ok_sw {f  : Addr} {fd  : FuncData} (F : Fun K "sum_words" "sum_words" sSw f fd) (gSorted : mg "sorted" = none) (gStr : mg "str" = none) :
    FnOk P w K mg base CX0 1 f fd ["wanted"] spSw := by
  refine F.ok scSw (fun vs H Q E h => ?_) (fun cdv A outer s0 H vs Q E hr h => ?_)
  · obtain ⟨a, W, rfl, _⟩ := h
    rfl
  · obtain ⟨a, W, rfl, ha, lim, want⟩ := h
    refine ⟨_, (pss_cons (ps_setLc (i := 1) (own := [("name", 2)]) (g := (gName 2)) (tt := tTru K (tVar 2)) (te := tJn [tFmt (tDGet (tVar 0) (tVar 2)), tC (.str " "), tFmt (tVar 2)]) rfl scSw.nd rfl rfl (sw_true rfl rfl rfl (by decide +kernel)) (pi_list (pe_callB (call_sortedD rfl) (by rfl) gSorted boot_sorted (pa_cons (pv 0) pa_nil))) (blkOk_by (N := nSw) (sc := defScope sSw) (by decide +kernel)) (fun _ _ _ _ _ => pg_name (i := 2) scSw.nd rfl (Or.inl rfl)) (fun _ _ _ _ _ => pts_one (pt_truth (pv 2) (by intro _; rfl))) (fun _ _ _ _ _ => (pe_joined (.cons (pe_fmt (pe_dget (huO hr) (pv 0) (pv 2) (fun _ _ => rfl))) (.cons pe_str (.cons (pe_fmt (pv 2)) .nil))))))
      (pss_cons (ps_if (pt_cmp (pc_din (huO hr) pe_str (pv 0)))
        (pss_one (ps_expr (pe_bm PySem.F.plainAttrs_list PySem.F.slot_list_append PySem.F.type_list_append mt_append (pv 1) (pa_cons (pe_callTy call_str_int (by rfl) gStr boot_strTU (pa_cons (pe_dget (huO hr) (pv 0) pe_str (fun _ _ => rfl)) pa_nil)) pa_nil))))
        pss_nil)
      (pss_one (ps_ret (pe_ifExp (pt_truth (pv 1) (by intro _; rfl)) (pe_join pe_str (pv 1)) pe_str))))), ?_⟩
    have ha : H a = some (.dK (kvsZ W)) := ha
    obtain ⟨nd, wl, wq⟩ := lim
    refine ⟨_, rfl, a, kvsZ W, W.map (·.1), rfl, .inl ha, kvs_keys W, by rw [List.length_map]; exact wl, fun ys p hy sy hp => ?_⟩
    obtain rfl := srt_uniq hy sy
    have s0 := same_new (o := HO.lst ((srtS (W.map (·.1))).map V.str)) hp
    have h0 : upd H p (HO.lst ((srtS (W.map (·.1))).map V.str)) p = some (.lst ((srtS (W.map (·.1))).map V.str)) := upd_same
    have lks : (srtS (W.map (·.1))).length = W.length := by rw [(srt_perm _).length_eq, List.length_map]
    refine ⟨p, rfl, ⟨_, SqL.of h0⟩, fun D hD => ?_⟩
    generalize upd H p _ = H0 at s0 h0 hD ⊢
    refine lc_out (walk_list (xs := (srtS (W.map (·.1))).map V.str)) ((srtS (W.map (·.1))).map fun k => if k.length = 0 then none else some (V.str (numS (facZ W k) ++ " " ++ k))) (by rw [List.length_map, List.length_map]) (by rw [List.length_map, lks]; omega) hD (fun H' s => SqL.of (s _ _ h0)) ?_ ?_
    · rintro i o ho H2 v H3 s2 ⟨rfl, hv⟩ Rn Ry hn hy
      obtain ⟨k, hk, rfl⟩ := some_of_get ho
      obtain rfl := map_get hv hk
      have mk := (srt_perm _).mem_iff.mp (List.mem_of_getElem? hk)
      obtain ⟨v1, v2⟩ := val_key nd mk
      obtain ⟨l1, l2, l3⟩ := wq _ v2
      have l1 : k.length ≤ 200 := l1
      have l2 : (facZ W k).natAbs.log2 < 1900 := l2
      have l3 : (numS (facZ W k)).length ≤ 400 := l3
      refine ⟨rfl, _, rfl, _, str_tru (by show k.length ≤ 100000; omega), ?_⟩
      by_cases z : k.length = 0
      · rw [if_pos z] at hn
        rw [z]
        exact iteF (hn _ same_rfl rfl)
      · rw [if_neg z] at hy
        rw [beq_eq_false_iff_ne.mpr z]
        have e0 : Str.empty ++ (toString (facZ W k) : Str) = numS (facZ W k) := Str.empty_append _
        refine iteT ⟨_, rfl, _, rfl, a, _, rfl, by have := dict_get (H := H3) (a := a) (W := W) (.inl (s2 _ _ (s0 _ _ ha))) k; rw [v1] at this; exact this, .inr ⟨_, rfl, by show (facZ W k).natAbs.log2 < 1920; omega, _, rfl, ?_, ?_⟩⟩
        · show (Str.empty ++ (toString (facZ W k) : Str)).length ≤ sizeLine
          rw [e0, sizeLine_eq]
          omega
        · refine ⟨_, rfl, ?_, _, rfl, .inl ⟨k, rfl, by rw [sizeLine_eq]; omega, _, rfl, ?_, ?_⟩⟩
          · show (Str.empty ++ (toString (facZ W k) : Str) ++ " ").length ≤ sizeLine
            rw [e0, Str.length_append, len_one, sizeLine_eq]
            omega
          · show (Str.empty ++ (toString (facZ W k) : Str) ++ " " ++ k).length ≤ sizeLine
            rw [e0, Str.length_append, Str.length_append, len_one, sizeLine_eq]
            omega
          · refine hy _ _ same_rfl ?_
            show some (V.str (numS (facZ W k) ++ " " ++ k)) = some (V.str (Str.empty ++ (toString (facZ W k) : Str) ++ " " ++ k))
            rw [e0]
    · intro H2 s2 hD2
      rw [fm_words W] at hD2
      have hD2 : H2 D = some (.lst ((swL W).map V.str)) := hD2
      have h2 := s2 _ _ (s0 _ _ ha)
      have st := same_trans s0 s2
      have fit := swA_fit ⟨nd, wl, wq⟩
      have nl := swA_len (W := W)
      have fin : ∀ (H3 : Hp), Same H H3 → H3 D = some (.lst ((swA W).map V.str)) → ((swA W).isEmpty = true → Q (.str "0") H3) ∧ ((swA W).isEmpty = false → Q (.str (Txt.join " + " (swA W))) H3) := fun H3 s3 h3 => by
        have q := want H3 s3
        unfold swD at q
        exact ⟨fun e => by rw [if_pos e] at q; exact q, fun e => by rw [if_neg (by rw [e]; decide)] at q; exact q⟩
      refine ⟨_, rfl, a, _, rfl, dict_get (.inl h2) "", ?_⟩
      rw [val_has]
      cases e : hasZ W "" with
      | true =>
        have ea : swA W = swL W ++ [numS (facZ W "")] := by
          unfold swA
          rw [if_pos e]
        obtain ⟨v1, v2⟩ := val_key nd (has_iff.mp e)
        obtain ⟨_, l2, _⟩ := wq _ v2
        have l2 : (facZ W "").natAbs.log2 < 1900 := l2
        refine ⟨_, rfl, iteT ?_⟩
        refine ⟨_, rfl, .inl ⟨rfl, _, SqL.of hD2⟩, _, rfl, a, _, rfl, by have := dict_get (H := H2) (a := a) (W := W) (.inl h2) ""; rw [v1] at this; exact this, _, rfl, by omega, ?_⟩
        refine ⟨D, _, _, rfl, rfl, hD2, by rw [List.length_map, sizeLine_eq]; have : (swL W).length ≤ (swA W).length := by rw [ea, List.length_append]; omega
                                           omega, ?_⟩
        have e3 : upd H2 D (HO.lst ((swL W).map V.str ++ [V.str (toString (facZ W ""))])) D = some (.lst ((swA W).map V.str)) := by
          rw [upd_same, ea, List.map_append]
          rfl
        have s3 : Same H (upd H2 D (HO.lst ((swL W).map V.str ++ [V.str (toString (facZ W ""))]))) := same_set st (s0.free hD)
        generalize upd H2 D _ = H3 at e3 s3 ⊢
        obtain ⟨q1, q2⟩ := fin H3 s3 e3
        refine ⟨_, rfl, !((swA W).map V.str).isEmpty, .inl ⟨_, SqL.of e3, rfl⟩, ?_⟩
        rw [List.isEmpty_map]
        cases z : (swA W).isEmpty with
        | true => exact iteF (q1 z)
        | false => exact iteT ⟨⟨_, rfl⟩, _, rfl, _, D, swA W, rfl, rfl, .inl (SqL.of e3), by omega, q2 z⟩
      | false =>
        have ea : swA W = swL W := by
          unfold swA
          rw [if_neg (by rw [e]; decide)]
        refine ⟨_, rfl, iteF ?_⟩
        have e3 : H2 D = some (.lst ((swA W).map V.str)) := by rw [ea]; exact hD2
        obtain ⟨q1, q2⟩ := fin H2 st e3
        refine ⟨_, rfl, !((swA W).map V.str).isEmpty, .inl ⟨_, SqL.of e3, rfl⟩, ?_⟩
        rw [List.isEmpty_map]
        cases z : (swA W).isEmpty with
        | true => exact iteF (q1 z)
        | false => exact iteT ⟨⟨_, rfl⟩, _, rfl, _, D, swA W, rfl, rfl, .inl (SqL.of e3), by omega, q2 z⟩
end
end Vb
end L2

set_option Elab.async false
set_option linter.all false
set_option maxRecDepth 100000
set_option maxHeartbeats 4000000
/-! Vb, k88: labels, marks, their words. -/
namespace L2
namespace Vb
open PySem PySem.Spec PyProof.Rows
theorem rel_tupleTU : RelV (.ty "tuple") (.type "tuple") := rfl
/-- labels that are not too long -/
def LimL (ls : List Str) : Prop := ls.length ≤ 200 ∧ ∀ l ∈ ls, l.length ≤ 200
def LimM (m : Mk) : Prop := m.1.length ≤ 200 ∧ LimL m.2
/-- a mark or None -/
def MarkAt (H : Hp) (v : V) : Option Mk → Prop
  | none => v = .non
  | some m => ∃ a b : Addr, v = .ref a ∧ H a = some (.tup [.str m.1, .ref b]) ∧ H b = some (.tup (m.2.map V.str))
def spLb : Sp := fun vs H Q _ => ∃ (a : Addr) (ls : List Str), vs = [.ref a] ∧ H a = some (.tup (ls.map V.str)) ∧ LimL ls ∧ ∀ H', Same H H' → Q (.bl (ls.all nameT)) H'
def spMf : Sp := fun vs H Q _ => ∃ (v : V) (o : Option Mk), vs = [v] ∧ MarkAt H v o ∧ (∀ m, o = some m → LimM m) ∧ ∀ H', Same H H' → Q (.bl ((o.map mkB).getD false)) H'
def spPw : Sp := fun vs H Q _ => ∃ (a : Addr) (ls : List Str), vs = [.ref a] ∧ H a = some (.tup (ls.map V.str)) ∧ LimL ls ∧ Q (.str (pwD ls)) H
def spMw : Sp := fun vs H Q _ => ∃ (v : V) (m : Mk), vs = [v] ∧ MarkAt H v (some m) ∧ LimM m ∧ Q (.str (mwD m)) H
theorem len_dot : (".": Str).length = 1 := by decide +kernel
theorem len_in : (" in ": Str).length = 4 := by decide +kernel
theorem pw_fit {ls : List Str} (h : LimL ls) : (ls.map (·.length)).sum + ls.length * (".": Str).length ≤ 50000 := by
  have a := sum_le h.2
  have b := h.1
  have c : ls.length * 200 ≤ 200 * 200 := Nat.mul_le_mul_right _ b
  rw [len_dot]
  omega
theorem join_len {y : Str} {ps : List Str} : (Txt.join y ps).length ≤ (ps.map (·.length)).sum + ps.length * y.length := by
  rw [join_eq]
  exact PySem.StrLaws.join_length_le y ps
theorem pw_len {ls : List Str} (h : LimL ls) : (pwD ls).length ≤ 50000 := by
  unfold pwD
  split
  · decide +kernel
  · exact Nat.le_trans join_len (pw_fit h)
abbrev sLb : Stmt := topS 20
abbrev nLb : List Str := ["value", "label"]
theorem scLb : FnScope nLb ["value"] (defScope sLb) := ⟨rfl, rfl, rfl, by decide +kernel, rfl, by decide +kernel, by decide +kernel⟩
-- cells set()
section
variable {P : Program} {w : World} {K : PySem.W.Frag} {mg : Str → Option Value} {base : Heap}
theorem ok_lb {f fis_name : Addr} {fd fdis_name : FuncData} (F : Fun K "are_labels" "are_labels" sLb f fd)
    (Fis_name : Fun K "is_name" "is_name" sName fis_name fdis_name) (Gis_name : FnOk P w K mg base CX0 1 fis_name fdis_name ["value"] spNameT) (gis_name : mg "is_name" = some (.ref fis_name)) (gAll : mg "all" = none) (gTuple : mg "tuple" = none) (gType : mg "type" = none) :
    FnOk P w K mg base CX0 2 f fd ["value"] spLb := by
  have bis_name : Binds K fdis_name ["value"] [] := Fis_name.binds fun _ _ _ _ _ _ us hl => match us, hl with | [_], _ => rfl
  refine F.ok scLb (fun vs H Q E h => ?_) (fun cdv A outer s0 H vs Q E hr h => ?_)
  · obtain ⟨a, ls, rfl, _⟩ := h
    rfl
  · obtain ⟨a, ls, rfl, ha, lim, want⟩ := h
    refine ⟨_, (pss_one (ps_ret (pe_and (pe_cmpR op_isTy (pe_typeD rfl gType (pv 0)) (pe_bltn rfl gTuple boot_tuple rel_tupleTU) (nomark _)) (pe_one (pe_callB (cr_all rfl) (by rfl) gAll boot_all (pa_cons (pe_lc (own := [("label", 1)]) (g := (gName 1)) (tt := tYes) rfl scLb.nd (pi_tup (pv 0)) (blkOk_by (N := nLb) (sc := defScope sLb) (by decide +kernel)) (fun _ _ _ _ _ => pg_name (i := 1) scLb.nd rfl (Or.inl rfl)) (fun _ _ _ _ _ => pts_nil) (fun _ _ _ _ _ => (pe_call Gis_name (hr.mono (by decide)) rfl gis_name Fis_name.kp bis_name .nil pass0 (pa_cons (pv 1) pa_nil)))) pa_nil)))))), ?_⟩
    refine ⟨_, rfl, "tuple", by simp only [zTyD, ha], _, _, rfl, rfl, _, rfl, iteT ?_⟩
    refine ⟨_, rfl, a, rfl, ⟨_, SqT.of ha⟩, fun D hD => ?_⟩
    refine lc_out (walk_tup (xs := ls.map V.str)) (ls.map fun t => some (V.bl (nameT t))) (by rw [List.length_map, List.length_map]) (by rw [List.length_map]; have := lim.1; omega) hD (fun H' s => SqT.of (s _ _ ha)) ?_ ?_
    · rintro k o ho H2 v H3 s2 ⟨rfl, hv⟩ Rn Ry hn hy
      obtain ⟨t, ht, rfl⟩ := some_of_get ho
      obtain rfl := map_get hv ht
      refine ⟨rfl, tyes ⟨_, rfl, t, rfl, by have := lim.2 t (List.mem_of_getElem? ht); show t.length ≤ 100000; omega, ?_⟩⟩
      exact hy _ _ same_rfl rfl
    · intro H2 s2 hD2
      rw [fm_bl] at hD2
      refine ⟨D, _, rfl, SqL.of hD2, ?_⟩
      rw [all_id]
      exact want H2 s2
end
abbrev sMf : Stmt := topS 21
abbrev nMf : List Str := ["value"]
theorem scMf : FnScope nMf ["value"] (defScope sMf) := ⟨rfl, rfl, rfl, by decide +kernel, rfl, by decide +kernel, by decide +kernel⟩
-- cells set()
section
variable {P : Program} {w : World} {K : PySem.W.Frag} {mg : Str → Option Value} {base : Heap}
theorem ok_mf {f fare_labels fis_name : Addr} {fd fdare_labels fdis_name : FuncData} (F : Fun K "is_mark_form" "is_mark_form" sMf f fd)
    (Fare_labels : Fun K "are_labels" "are_labels" sLb fare_labels fdare_labels) (Gare_labels : FnOk P w K mg base CX0 2 fare_labels fdare_labels ["value"] spLb) (gare_labels : mg "are_labels" = some (.ref fare_labels))
    (Fis_name : Fun K "is_name" "is_name" sName fis_name fdis_name) (Gis_name : FnOk P w K mg base CX0 1 fis_name fdis_name ["value"] spNameT) (gis_name : mg "is_name" = some (.ref fis_name)) (gLen : mg "len" = none) (gTuple : mg "tuple" = none) (gType : mg "type" = none) :
    FnOk P w K mg base CX0 3 f fd ["value"] spMf := by
  have bare_labels : Binds K fdare_labels ["value"] [] := Fare_labels.binds fun _ _ _ _ _ _ us hl => match us, hl with | [_], _ => rfl
  have bis_name : Binds K fdis_name ["value"] [] := Fis_name.binds fun _ _ _ _ _ _ us hl => match us, hl with | [_], _ => rfl
  refine F.ok scMf (fun vs H Q E h => ?_) (fun cdv A outer s0 H vs Q E hr h => ?_)
  · obtain ⟨v, o, rfl, _⟩ := h
    rfl
  · obtain ⟨v, o, rfl, mv, lim, want⟩ := h
    refine ⟨_, (pss_one (ps_ret (pe_and (pe_cmpR op_isTy (pe_typeD rfl gType (pv 0)) (pe_bltn rfl gTuple boot_tuple rel_tupleTU) (nomark _)) (pe_and (pe_cmpR op_eq (pe_callB (call_len_seq) (by rfl) gLen PySem.boot_len (pa_cons (pv 0) pa_nil)) pe_int (nomark _)) (pe_and (pe_call Gis_name (hr.mono (by decide)) rfl gis_name Fis_name.kp bis_name .nil pass0 (pa_cons (pe_ix ix_tup (pv 0) pe_int (fun _ _ => rfl)) pa_nil)) (pe_one (pe_call Gare_labels (hr.mono (by decide)) rfl gare_labels Fare_labels.kp bare_labels .nil pass0 (pa_cons (pe_ix ix_tup (pv 0) pe_int (fun _ _ => rfl)) pa_nil)))))))), ?_⟩
    cases o with
    | none =>
      cases mv
      exact ⟨_, rfl, _, rfl, _, _, rfl, rfl, _, rfl, iteF (want H same_rfl)⟩
    | some m =>
      obtain ⟨a, b, rfl, ha, hb⟩ := mv
      obtain ⟨l1, l2⟩ := lim m rfl
      have want : ∀ H', Same H H' → Q (.bl (nameT m.1 && m.2.all nameT)) H' := want
      refine ⟨_, rfl, "tuple", by simp only [zTyD, ha], _, _, rfl, rfl, _, rfl, iteT ?_⟩
      refine ⟨_, rfl, a, _, rfl, .inr (SqT.of ha), rfl, _, rfl, iteT ?_⟩
      refine ⟨_, rfl, a, _, 0, _, rfl, rfl, SqT.of ha, rfl, m.1, rfl, by show m.1.length ≤ 100000; omega, _, rfl, ?_⟩
      cases e : nameT m.1 with
      | false =>
        rw [e] at want
        exact iteF (want H same_rfl)
      | true =>
        rw [e] at want
        exact iteT ⟨_, rfl, a, _, 1, _, rfl, rfl, SqT.of ha, rfl, b, m.2, rfl, hb, l2, want⟩
end
abbrev sPw : Stmt := topS 22
abbrev nPw : List Str := ["path"]
theorem scPw : FnScope nPw ["path"] (defScope sPw) := ⟨rfl, rfl, rfl, by decide +kernel, rfl, by decide +kernel, by decide +kernel⟩
-- cells set()
section
variable {P : Program} {w : World} {K : PySem.W.Frag} {mg : Str → Option Value} {base : Heap}
theorem ok_pw {f  : Addr} {fd  : FuncData} (F : Fun K "path_words" "path_words" sPw f fd) :
    FnOk P w K mg base CX0 1 f fd ["path"] spPw := by
  refine F.ok scPw (fun vs H Q E h => ?_) (fun cdv A outer s0 H vs Q E hr h => ?_)
  · obtain ⟨a, ls, rfl, _⟩ := h
    rfl
  · obtain ⟨a, ls, rfl, ha, lim, want⟩ := h
    refine ⟨_, (pss_one (ps_ret (pe_ifExp (pt_truth (pv 0) (by intro _; rfl)) (pe_join pe_str (pv 0)) pe_str))), ?_⟩
    refine ⟨_, rfl, !(ls.map V.str).isEmpty, .inr (.inl ⟨_, SqT.of ha, rfl⟩), ?_⟩
    rw [List.isEmpty_map]
    unfold pwD at want
    cases e : ls.isEmpty with
    | true =>
      rw [if_pos e] at want
      exact iteF want
    | false =>
      rw [if_neg (by rw [e]; decide)] at want
      exact iteT ⟨⟨_, rfl⟩, _, rfl, _, a, ls, rfl, rfl, .inr (SqT.of ha), by have := pw_fit lim; omega, want⟩
end
abbrev sMw : Stmt := topS 23
abbrev nMw : List Str := ["mark"]
theorem scMw : FnScope nMw ["mark"] (defScope sMw) := ⟨rfl, rfl, rfl, by decide +kernel, rfl, by decide +kernel, by decide +kernel⟩
-- cells set()
section
variable {P : Program} {w : World} {K : PySem.W.Frag} {mg : Str → Option Value} {base : Heap}
theorem ok_mw {f fpath_words : Addr} {fd fdpath_words : FuncData} (F : Fun K "mark_words" "mark_words" sMw f fd)
    (Fpath_words : Fun K "path_words" "path_words" sPw fpath_words fdpath_words) (Gpath_words : FnOk P w K mg base CX0 1 fpath_words fdpath_words ["path"] spPw) (gpath_words : mg "path_words" = some (.ref fpath_words)) :
    FnOk P w K mg base CX0 2 f fd ["mark"] spMw := by
  have bpath_words : Binds K fdpath_words ["path"] [] := Fpath_words.binds fun _ _ _ _ _ _ us hl => match us, hl with | [_], _ => rfl
  refine F.ok scMw (fun vs H Q E h => ?_) (fun cdv A outer s0 H vs Q E hr h => ?_)
  · obtain ⟨v, m, rfl, _⟩ := h
    rfl
  · obtain ⟨v, m, rfl, mv, lim, want⟩ := h
    refine ⟨_, (pss_one (ps_ret (pe_joined (.cons (pe_fmt (pe_ix ix_tup (pv 0) pe_int (fun _ _ => rfl))) (.cons pe_str (.cons (pe_fmt (pe_call Gpath_words (hr.mono (by decide)) rfl gpath_words Fpath_words.kp bpath_words .nil pass0 (pa_cons (pe_ix ix_tup (pv 0) pe_int (fun _ _ => rfl)) pa_nil))) .nil)))))), ?_⟩
    obtain ⟨a, b, rfl, ha, hb⟩ := mv
    obtain ⟨l1, l2⟩ := lim
    have l3 := pw_len l2
    have e0 : Str.empty ++ m.1 = m.1 := Str.empty_append _
    refine ⟨_, rfl, a, _, 0, _, rfl, rfl, SqT.of ha, rfl, .inl ⟨_, rfl, by rw [sizeLine_eq]; omega, _, rfl, by rw [e0, sizeLine_eq]; omega, ?_⟩⟩
    refine ⟨_, rfl, by rw [e0, Str.length_append, len_in, sizeLine_eq]; omega, ?_⟩
    refine ⟨_, rfl, a, _, 1, _, rfl, rfl, SqT.of ha, rfl, b, m.2, rfl, hb, l2, .inl ⟨_, rfl, by rw [sizeLine_eq]; omega, _, rfl, by rw [e0, Str.length_append, Str.length_append, len_in, sizeLine_eq]; omega, ?_⟩⟩
    rw [e0]
    exact want
end
end Vb
end L2

set_option Elab.async false
set_option linter.all false
set_option maxRecDepth 100000
set_option maxHeartbeats 4000000
/-! Vb, k88: sums, paths and marks, read. -/
namespace L2
namespace Vb
open PySem PySem.Spec PyProof.Rows
open PySem.NumText (digitsVal AllDigits)
/-- a line that may be read -/
abbrev Lt (x : Str) : Prop := x.length ≤ 185
theorem lt_tx {x : Str} (h : Lt x) : Tx x := by
  have : x.length ≤ 185 := h
  show x.length ≤ 100000
  omega
theorem lt_of {x y : Str} (h : Lt x) (l : y.length ≤ x.length) : Lt y := Nat.le_trans l h
/-! ### what is read is not too great -/
theorem dv_lt : ∀ (cs : List Nat) (a : Nat), AllDigits cs → cs.foldl (fun acc c => acc * 10 + (c - 48)) a < (a + 1) * 10 ^ cs.length
  | [], a, _ => by
    show a < (a + 1) * 10 ^ 0
    omega
  | c :: cs, a, h => by
    have hc := h.head
    have ih := dv_lt cs (a * 10 + (c - 48)) h.tail
    have e : (a * 10 + (c - 48) + 1) * 10 ^ cs.length ≤ (a + 1) * 10 ^ (cs.length + 1) := by
      rw [Nat.pow_succ, Nat.mul_comm (10 ^ cs.length) 10, ← Nat.mul_assoc]
      exact Nat.mul_le_mul_right _ (by omega)
    exact Nat.lt_of_lt_of_le ih e
theorem rc_lim {x : Str} {n : Int} (h : rcD x = some n) : 0 ≤ n ∧ n < 10 ^ x.length ∧ 1 ≤ x.length := by
  unfold rcD at h
  split at h
  · cases h
  · next q =>
    split at h
    · cases h
    · have q : (x.length == 0 || decide (400 < x.length) || !((cl x).all digB)) = false := Bool.eq_false_iff.mpr q
      obtain ⟨q1, q3⟩ := Bool.or_eq_false_iff.mp q
      obtain ⟨q1, q2⟩ := Bool.or_eq_false_iff.mp q1
      have q3 : (cl x).all digB = true := by simpa using q3
      have ad : AllDigits (cl x) := fun c hc => by
        have := List.all_eq_true.mp q3 c hc
        unfold digB at this
        obtain ⟨a1, a2⟩ := Bool.and_eq_true_iff.mp this
        exact ⟨of_decide_eq_true a1, of_decide_eq_true a2⟩
      obtain rfl := Option.some.inj h
      have z := dv_lt (cl x) 0 ad
      rw [Nat.zero_add, Nat.one_mul, cl_len] at z
      have z1 := beq_eq_false_iff_ne.mp q1
      refine ⟨Int.natCast_nonneg _, ?_, by omega⟩
      have : (((digitsVal (cl x) : Nat) : Int)) < ((10 ^ x.length : Nat) : Int) := Int.ofNat_lt.mpr z
      rw [Int.natCast_pow] at this
      exact this
theorem rc_num {x : Str} {n : Int} (l : x.length ≤ 185) (h : rcD x = some n) : 0 ≤ n ∧ n.natAbs.log2 < 1900 ∧ (numS n).length ≤ 400 := by
  obtain ⟨h0, h1, h2⟩ := rc_lim h
  obtain ⟨m, rfl⟩ := Int.eq_ofNat_of_zero_le h0
  refine ⟨h0, ?_, ?_⟩
  · show (m : Nat).log2 < 1900
    by_cases z : m = 0
    · rw [z]
      decide
    · refine (Nat.log2_lt z).mpr ?_
      have a : m < 10 ^ x.length := by
        have : ((m : Nat) : Int) < ((10 ^ x.length : Nat) : Int) := by
          rw [Int.natCast_pow]
          exact h1
        exact Int.ofNat_lt.mp this
      have b : 10 ^ x.length ≤ 10 ^ 185 := Nat.pow_le_pow_right (by decide) l
      have c : 10 ^ 185 < 2 ^ 1900 := by decide +kernel
      omega
  · have : (numS (m : Int)).length ≤ x.length := toString_length_le h0 h2 h1
    omega
theorem put_nd {W : SumZ} (h : (W.map (·.1)).Nodup) (x : Str) (n : Int) : ((putZ W x n).map (·.1)).Nodup := by
  by_cases z : hasZ W x = true
  · unfold putZ
    rw [if_pos z, List.map_map]
    have : (fun q : Str × Int => q.1) ∘ (fun q => if q.1 = x then (q.1, n) else q) = fun q => q.1 := by
      funext q
      show (if q.1 = x then (q.1, n) else q).1 = q.1
      split <;> rfl
    rw [this]
    exact h
  · rw [put_newZ fun m => z (has_iff.mpr m), List.map_append]
    refine List.nodup_append.mpr ⟨h, by simp, fun a ma b mb e => ?_⟩
    have : b = x := List.mem_singleton.mp mb
    subst this
    subst e
    exact z (has_iff.mpr ma)
theorem put_mem {W : SumZ} {x : Str} {n : Int} {q : Str × Int} (h : q ∈ putZ W x n) : q ∈ W ∨ q = (x, n) := by
  unfold putZ at h
  split at h
  · obtain ⟨r, mr, e⟩ := List.mem_map.mp h
    split at e
    · next z =>
      subst z
      exact .inr e.symm
    · subst e
      exact .inl mr
  · rcases List.mem_append.mp h with h | h
    · exact .inl h
    · exact .inr (List.mem_singleton.mp h)
theorem rsGo_lim : ∀ {ts : List Str} {U W : SumZ}, (∀ t ∈ ts, t.length ≤ 185) → rsGo ts U = some W → (U.map (·.1)).Nodup → (∀ q ∈ U, q.1.length ≤ 200 ∧ q.2.natAbs.log2 < 1900 ∧ (numS q.2).length ≤ 400) →
    (W.map (·.1)).Nodup ∧ W.length ≤ U.length + ts.length ∧ ∀ q ∈ W, q.1.length ≤ 200 ∧ q.2.natAbs.log2 < 1900 ∧ (numS q.2).length ≤ 400
  | [], U, W, _, h, nd, hq => by
    obtain rfl := Option.some.inj h
    exact ⟨nd, Nat.le_refl _, hq⟩
  | t :: ts, U, W, hl, h, nd, hq => by
    rw [rsGo] at h
    cases e : rcD (Txt.partition t " ").1 with
    | none =>
      rw [e] at h
      cases h
    | some n =>
      rw [e] at h
      have lt := hl t List.mem_cons_self
      obtain ⟨l1, l2⟩ := part_len t " "
      obtain ⟨_, n1, n2⟩ := rc_num (Nat.le_trans l1 lt) e
      obtain ⟨a, b, c⟩ := rsGo_lim (fun x m => hl x (List.mem_cons_of_mem _ m)) h (put_nd nd _ _) fun q m => by
        rcases put_mem m with m | rfl
        · exact hq q m
        · exact ⟨by show (Txt.partition t " ").2.2.length ≤ 200; omega, n1, n2⟩
      have := put_len U (Txt.partition t " ").2.2 n
      exact ⟨a, by rw [List.length_cons]; omega, c⟩
theorem split_count3 {x : Str} : 3 * (Txt.split x " + ").length ≤ x.length + 3 := by
  have ne : Txt.split x " + " ≠ [] := split_ne (by decide +kernel) kind_pl
  have j := PySem.StrLaws.join_split x " + "
  cases e : Txt.split x " + " with
  | nil => exact (ne e).elim
  | cons a l =>
    rw [e] at j
    have z := PyProof.Rows.len_join_cons (" + " : Str) a l
    rw [j, len_pl] at z
    rw [List.length_cons]
    omega
theorem rs_lim {x : Str} {W : SumZ} (l : Lt x) (h : rsD x = some W) : LimW W := by
  unfold rsD at h
  split at h
  · obtain rfl := Option.some.inj h
    exact ⟨.nil, by decide, fun q m => nomatch m⟩
  · obtain ⟨a, b, c⟩ := rsGo_lim (fun t m => Nat.le_trans (split_len m) l) h .nil (fun q m => nomatch m)
    have := split_count3 (x := x)
    have l : x.length ≤ 185 := l
    exact ⟨a, by show W.length < 64; have b : W.length ≤ 0 + (Txt.split x " + ").length := b; omega, c⟩
theorem asc_lim {W : SumZ} (h : LimW W) : LimW (ascZ W) := by
  obtain ⟨nd, wl, wq⟩ := h
  refine ⟨?_, ?_, fun q m => ?_⟩
  · unfold ascZ
    rw [map_keys]
    exact (srt_perm _).nodup_iff.mpr nd
  · unfold ascZ
    rw [List.length_map, (srt_perm _).length_eq, List.length_map]
    exact wl
  · obtain ⟨k, mk, rfl⟩ := List.mem_map.mp m
    exact wq _ (val_key nd ((srt_perm _).mem_iff.mp mk)).2
theorem rw_lim {x : Str} {W : SumZ} (l : Lt x) (h : rwD x = some W) : LimW W := by
  unfold rwD at h
  cases e : rsD x with
  | none =>
    rw [e] at h
    cases h
  | some U =>
    rw [e] at h
    have h : (if (!wrB U || decide (swD U ≠ x)) = true then none else some (ascZ U)) = some W := h
    split at h
    · cases h
    · obtain rfl := Option.some.inj h
      exact asc_lim (rs_lim l e)
theorem rp_lim {x : Str} {ls : List Str} (l : Lt x) (h : rpD x = some ls) : LimL ls := by
  unfold rpD at h
  have l : x.length ≤ 185 := l
  by_cases z : x = "-"
  · rw [if_pos z] at h
    have e : [] = ls := Option.some.inj h
    subst e
    exact ⟨by decide, fun q m => nomatch m⟩
  · rw [if_neg z] at h
    split at h
    · obtain rfl := Option.some.inj h
      have := split_count x "." (by decide +kernel)
      exact ⟨by omega, fun t m => Nat.le_trans (split_len m) (by omega)⟩
    · cases h
theorem rm_lim {x : Str} {m : Mk} (l : Lt x) (h : rmD x = some m) : LimM m := by
  unfold rmD at h
  obtain ⟨l1, l2⟩ := part_len x " in "
  have l : x.length ≤ 185 := l
  split at h
  · obtain ⟨p, hp, rfl⟩ := Option.map_eq_some_iff.mp h
    exact ⟨by show (Txt.partition x " in ").1.length ≤ 200; omega, rp_lim (by show _ ≤ 185; omega) hp⟩
  · cases h
/-! ### a dict out of a list -/
theorem dc_go {J : It} {n : Nat} {G : Hp → Prop} {Y : Nat → Hp → V → Hp → Prop} (w : Walk J n G Y) {g : TG} {tt : TT} {tk tv : TE} {vs : List Nat} {σ : St} {H0 : Hp} {D : Addr} {R : Hp → Prop} (Z : Nat → Hp → Prop)
    (start : Z 0 (upd H0 D (.dK []))) (stays : ∀ k H, k ≤ n → Z k H → G H)
    (turn : ∀ k v H H', k < n → Z k H → Y k H v H' → g v (wipe σ vs) H' fun τ H2 => wipe τ vs = wipe σ vs ∧ tt τ H2 fun b H3 =>
      if b = true then tk τ H3 fun y H4 => tv τ H4 fun z H5 => ∃ kvs k', y = kV k' ∧ H5 D = some (.dK kvs) ∧ kvs.length < sizeLine ∧ Z (k + 1) (upd H5 D (.dK (putK kvs k' z))) else Z (k + 1) H3)
    (done : ∀ H, Z n H → R H) :
    ∃ W : Nat → Nat → Hp → Prop, (∃ m, W 0 m (upd H0 D (.dK []))) ∧ ∀ i m H, W i m H →
      (J.stop i H ∧ R H) ∨ (J.go i H ∧ ∃ Nx : Hp → Prop, (∀ H', Nx H' → ∃ m', m' < m ∧ W (i + 1) m' H') ∧ ∀ x H', J.yld i H x H' → g x (wipe σ vs) H' fun τ H2 => wipe τ vs = wipe σ vs ∧ tt τ H2 fun b H3 =>
        if b = true then tk τ H3 fun y H4 => tv τ H4 fun z H5 => ∃ kvs k', y = kV k' ∧ H5 D = some (.dK kvs) ∧ kvs.length < sizeLine ∧ Nx (upd H5 D (.dK (putK kvs k' z))) else Nx H3) := by
  refine ⟨fun i m H => i + m = n ∧ Z i H, ⟨n, by omega, start⟩, ?_⟩
  intro i m H hz
  obtain ⟨hm, z⟩ := hz
  have st := stays i H (by omega) z
  rcases Nat.lt_or_ge i n with lt | ge
  · refine .inr ⟨w.goes i H lt st, Z (i + 1), fun H' z' => ⟨m - 1, by omega, by omega, z'⟩, fun v H' y => turn i v H H' lt z (w.yields i H v H' lt st y)⟩
  · obtain rfl : i = n := by omega
    exact .inl ⟨w.stops H st, done H z⟩
def spRw : Sp := fun vs H Q _ => ∃ x : Str, vs = [.str x] ∧ Lt x ∧ (∀ H', Same H H' → rwD x = none → Q .non H') ∧ ∀ H' a W, Same H H' → H a = none → Dct H' a W → rwD x = some W → Q (.ref a) H'
def spRp : Sp := fun vs H Q _ => ∃ x : Str, vs = [.str x] ∧ Lt x ∧ (∀ H', Same H H' → rpD x = none → Q .non H') ∧ ∀ H' a ls, Same H H' → H a = none → H' a = some (.tup (ls.map V.str)) → rpD x = some ls → Q (.ref a) H'
def spRm : Sp := fun vs H Q _ => ∃ x : Str, vs = [.str x] ∧ Lt x ∧ (∀ H', Same H H' → rmD x = none → Q .non H') ∧ ∀ H' a b m, Same H H' → H a = none → H b = none → H' a = some (.tup [.str m.1, .ref b]) → H' b = some (.tup (m.2.map V.str)) → rmD x = some m → Q (.ref a) H'
theorem asc_take {W : SumZ} (nd : (W.map (·.1)).Nodup) {i : Nat} {k : Str} (h : (srtS (W.map (·.1)))[i]? = some k) : putK (kvsZ ((ascZ W).take i)) (Sum.inr k : Key) (V.int (facZ W k)) = kvsZ ((ascZ W).take (i + 1)) := by
  have nds : (srtS (W.map (·.1))).Nodup := (srt_perm _).nodup_iff.mpr nd
  have e : (ascZ W)[i]? = some (k, facZ W k) := by
    unfold ascZ
    rw [List.getElem?_map, h]
    rfl
  rw [put_kvs, put_newZ, List.take_add_one, e]
  · rfl
  · have : ((ascZ W).take i).map (·.1) = (srtS (W.map (·.1))).take i := by
      unfold ascZ
      rw [List.map_take, map_keys]
    rw [this]
    intro m
    obtain ⟨j, hj, ej⟩ := List.mem_iff_getElem.mp m
    rw [List.length_take] at hj
    rw [List.getElem_take] at ej
    obtain ⟨li, ei⟩ := List.getElem?_eq_some_iff.mp h
    have pw := List.pairwise_iff_getElem.mp nds j i (by omega) li (by omega)
    exact pw (ej.trans ei.symm)
abbrev sRw : Stmt := topS 24
abbrev nRw : List Str := ["text", "wanted", "key"]
theorem scRw : FnScope nRw ["text"] (defScope sRw) := ⟨rfl, rfl, rfl, by decide +kernel, rfl, by decide +kernel, by decide +kernel⟩
-- cells {'wanted'}
section
variable {P : Program} {w : World} {K : PySem.W.Frag} {mg : Str → Option Value} {base : Heap}
theorem ok_rw {f fread_sum fsum_words fis_written_sum : Addr} {fd fdread_sum fdsum_words fdis_written_sum : FuncData} (F : Fun K "read_sum_words" "read_sum_words" sRw f fd)
    (Fread_sum : Fun K "read_sum" "read_sum" sRs fread_sum fdread_sum) (Gread_sum : FnOk P w K mg base CX0 2 fread_sum fdread_sum ["text"] spRs) (gread_sum : mg "read_sum" = some (.ref fread_sum))
    (Fsum_words : Fun K "sum_words" "sum_words" sSw fsum_words fdsum_words) (Gsum_words : FnOk P w K mg base CX0 1 fsum_words fdsum_words ["wanted"] spSw) (gsum_words : mg "sum_words" = some (.ref fsum_words))
    (Fis_written_sum : Fun K "is_written_sum" "is_written_sum" sWr fis_written_sum fdis_written_sum) (Gis_written_sum : FnOk P w K mg base CX0 4 fis_written_sum fdis_written_sum ["value"] spWr) (gis_written_sum : mg "is_written_sum" = some (.ref fis_written_sum)) (gSorted : mg "sorted" = none) :
    FnOk P w K mg base CX0 5 f fd ["text"] spRw := by
  have bread_sum : Binds K fdread_sum ["text"] [] := Fread_sum.binds fun _ _ _ _ _ _ us hl => match us, hl with | [_], _ => rfl
  have bsum_words : Binds K fdsum_words ["wanted"] [] := Fsum_words.binds fun _ _ _ _ _ _ us hl => match us, hl with | [_], _ => rfl
  have bis_written_sum : Binds K fdis_written_sum ["value"] [] := Fis_written_sum.binds fun _ _ _ _ _ _ us hl => match us, hl with | [_], _ => rfl
  refine F.ok scRw (fun vs H Q E h => ?_) (fun cdv A outer s0 H vs Q E hr h => ?_)
  · obtain ⟨x, rfl, _⟩ := h
    rfl
  · obtain ⟨x, rfl, lt, wantN, wantS⟩ := h
    refine ⟨_, (pss_cons (ps_set (i := 1) scRw.nd rfl (Or.inr rfl) (pe_call Gread_sum (hr.mono (by decide)) rfl gread_sum Fread_sum.kp bread_sum .nil pass0 (pa_cons (pv 0) pa_nil)))
      (pss_cons (ps_if (PW.pt (pw_or (pt_cmpR op_isN (pv 1) pe_non (nomark _)) (pw_or (pt_not (pt_val (pe_call Gis_written_sum (hr.mono (by decide)) rfl gis_written_sum Fis_written_sum.kp bis_written_sum .nil pass0 (pa_cons (pv 1) pa_nil)))) (pw_or1 (pt_cmpR op_ne (pe_call Gsum_words (hr.mono (by decide)) rfl gsum_words Fsum_words.kp bsum_words .nil pass0 (pa_cons (pv 1) pa_nil)) (pv 0) (nomark _))))))
        (pss_one (ps_ret pe_non))
        pss_nil)
      (pss_one (ps_ret (pe_dc (own := [("key", 2)]) (g := (gName 2)) (tt := tYes) (tk := tVar 2) rfl scRw.nd (pi_list (pe_callB (call_sortedD rfl) (by rfl) gSorted boot_sorted (pa_cons (pv 1) pa_nil))) (blkOk_by (N := nRw) (sc := defScope sRw) (by decide +kernel)) (fun _ _ _ _ _ => pg_name (i := 2) scRw.nd rfl (Or.inl rfl)) (fun _ _ _ _ _ => pts_nil) (fun _ _ _ _ _ => pv 2) (fun _ _ _ _ _ => (pe_dget (huO hr) (pv 1) (pv 2) (fun _ _ => rfl)))))))), ?_⟩
    refine ⟨_, rfl, x, rfl, lt_tx lt, fun H1 s1 e => ?_, fun H1 a W s1 na ha e => ?_⟩
    · have r : rwD x = none := by
        unfold rwD
        rw [e]
      exact ⟨_, rfl, rfl, _, rfl, iteT (wantN H1 s1 r)⟩
    · have lim := rs_lim lt e
      have r : rwD x = if (!wrB W || decide (swD W ≠ x)) = true then none else some (ascZ W) := by
        unfold rwD
        rw [e]
      refine ⟨_, rfl, rfl, _, rfl, iteF ?_⟩
      refine ⟨_, rfl, _, some W, rfl, ⟨a, rfl, ha⟩, fun U eU => by cases eU; exact lim, fun H2 s2 => ⟨_, rfl, ?_⟩⟩
      show if (!wrB W) = true then _ else _
      have ha2 := s2 _ _ ha
      cases w : wrB W with
      | false =>
        rw [w] at r
        exact iteT (wantN H2 (same_trans s1 s2) r)
      | true =>
        rw [w] at r
        refine iteF ?_
        refine ⟨_, rfl, a, W, rfl, ha2, lim, fun H3 s3 => ⟨_, rfl, rfl, _, rfl, ?_⟩⟩
        rw [dec_strE]
        have ha3 := s3 _ _ ha2
        have s03 := same_trans s1 (same_trans s2 s3)
        by_cases q : swD W = x
        · rw [decide_eq_true q]
          rw [if_neg (by rw [decide_eq_false (fun h => h q)]; decide)] at r
          refine iteF ?_
          obtain ⟨nd, wl, wq⟩ := lim
          refine ⟨_, rfl, a, kvsZ W, W.map (·.1), rfl, .inl ha3, kvs_keys W, by rw [List.length_map]; exact wl, fun ys p hy sy hp => ?_⟩
          obtain rfl := srt_uniq hy sy
          have s4 := same_new (o := HO.lst ((srtS (W.map (·.1))).map V.str)) hp
          have h4 : upd H3 p (HO.lst ((srtS (W.map (·.1))).map V.str)) p = some (.lst ((srtS (W.map (·.1))).map V.str)) := upd_same
          generalize upd H3 p _ = H4 at s4 h4 ⊢
          have lks : (srtS (W.map (·.1))).length = W.length := by rw [(srt_perm _).length_eq, List.length_map]
          have lka : (ascZ W).length = W.length := by
            unfold ascZ
            rw [List.length_map, lks]
          refine ⟨p, rfl, ⟨_, SqL.of h4⟩, fun D hD => ?_⟩
          refine dc_go (walk_list (xs := (srtS (W.map (·.1))).map V.str)) (fun k H' => Same H4 H' ∧ H' D = some (.dK (kvsZ ((ascZ W).take k)))) ⟨same_new hD, upd_same⟩ (fun k H' _ z => SqL.of (z.1 _ _ h4)) ?_ ?_
          · rintro k v H5 H6 hk ⟨z1, z2⟩ ⟨rfl, hv⟩
            rw [List.length_map] at hk
            have hk2 : (srtS (W.map (·.1)))[k]? = some (srtS (W.map (·.1)))[k] := List.getElem?_eq_getElem hk
            obtain rfl := map_get hv hk2
            have mk := (srt_perm _).mem_iff.mp (List.mem_of_getElem? hk2)
            obtain ⟨v1, v2⟩ := val_key nd mk
            refine ⟨rfl, tyes ⟨_, rfl, _, rfl, _, rfl, a, _, rfl, by have := dict_get (H := H6) (a := a) (W := W) (.inl (z1 _ _ (s4 _ _ ha3))) (srtS (W.map (·.1)))[k]; rw [v1] at this; exact this, _, Sum.inr (srtS (W.map (·.1)))[k], rfl, z2, ?_, same_set z1 hD, ?_⟩⟩
            · rw [kvs_len, List.length_take, sizeLine_eq]
              omega
            · rw [upd_same, asc_take nd hk2]
          · rintro H5 ⟨z1, z2⟩
            rw [List.length_map, lks, List.take_of_length_le (by omega)] at z2
            exact wantS H5 D (ascZ W) (same_trans s03 (same_trans s4 z1)) ((same_trans s03 s4).free hD) z2 r
        · rw [decide_eq_false q]
          rw [if_pos (by rw [decide_eq_true q]; rfl)] at r
          exact iteT (wantN H3 s03 r)
end
abbrev sRp : Stmt := topS 25
abbrev nRp : List Str := ["text", "path"]
theorem scRp : FnScope nRp ["text"] (defScope sRp) := ⟨rfl, rfl, rfl, by decide +kernel, rfl, by decide +kernel, by decide +kernel⟩
-- cells set()
section
variable {P : Program} {w : World} {K : PySem.W.Frag} {mg : Str → Option Value} {base : Heap}
theorem ok_rp {f fare_labels : Addr} {fd fdare_labels : FuncData} (F : Fun K "read_path_words" "read_path_words" sRp f fd)
    (Fare_labels : Fun K "are_labels" "are_labels" sLb fare_labels fdare_labels) (Gare_labels : FnOk P w K mg base CX0 2 fare_labels fdare_labels ["value"] spLb) (gare_labels : mg "are_labels" = some (.ref fare_labels)) (gU : mg "tuple" = none) :
    FnOk P w K mg base CX0 3 f fd ["text"] spRp := by
  have bare_labels : Binds K fdare_labels ["value"] [] := Fare_labels.binds fun _ _ _ _ _ _ us hl => match us, hl with | [_], _ => rfl
  refine F.ok scRp (fun vs H Q E h => ?_) (fun cdv A outer s0 H vs Q E hr h => ?_)
  · obtain ⟨x, rfl, _⟩ := h
    rfl
  · obtain ⟨x, rfl, lt, wantN, wantS⟩ := h
    refine ⟨_, (pss_cons (ps_set (i := 1) scRp.nd rfl (Or.inl rfl) (pe_ifExp (pt_cmpR op_eq (pv 0) pe_str (nomark _)) (pe_tup pa_nil) (pe_callTy call_tuple_of (by rfl) gU boot_tuple (pa_cons (pe_split (pv 0) pe_str) pa_nil))))
      (pss_one (ps_ret (pe_ifExp (pt_val (pe_call Gare_labels (hr.mono (by decide)) rfl gare_labels Fare_labels.kp bare_labels .nil pass0 (pa_cons (pv 1) pa_nil))) (pv 1) pe_non)))), ?_⟩
    refine ⟨_, rfl, rfl, _, rfl, ?_⟩
    rw [dec_strE]
    unfold rpD at wantN wantS
    by_cases z : x = "-"
    · rw [decide_eq_true z]
      rw [if_pos z] at wantN wantS
      refine iteT ⟨by show 0 ≤ sizeLine; exact Nat.zero_le _, fun p hp => ?_⟩
      refine ⟨_, rfl, p, [], rfl, upd_same, ⟨by decide, fun q m => nomatch m⟩, fun H1 s1 => ⟨_, rfl, iteT ⟨_, rfl, ?_⟩⟩⟩
      exact wantS H1 p [] (same_trans (same_new hp) s1) hp (s1 _ _ upd_same) rfl
    · rw [decide_eq_false z]
      rw [if_neg z] at wantN wantS
      have lx : x.length ≤ 185 := lt
      refine iteF ⟨_, rfl, ⟨x, rfl⟩, x, _, rfl, rfl, by decide +kernel, by rw [sizeLine_eq]; omega, fun p hp => ?_⟩
      refine ⟨p, _, rfl, .inl ⟨SqL.of upd_same, fun l hl => ?_⟩⟩
      have n1 := split_count x "." (by decide +kernel)
      refine ⟨_, rfl, l, Txt.split x ".", rfl, upd_same, ⟨by omega, fun t m => Nat.le_trans (split_len m) (by omega)⟩, fun H1 s1 => ⟨_, rfl, ?_⟩⟩
      have s0 : Same H H1 := same_trans (same_new hp) (same_trans (same_new hl) s1)
      cases e : (Txt.split x ".").all nameT with
      | true =>
        rw [if_pos e] at wantN wantS
        exact iteT ⟨_, rfl, wantS H1 l _ s0 ((same_new hp).free hl) (s1 _ _ upd_same) rfl⟩
      | false =>
        rw [if_neg (by rw [e]; decide)] at wantN wantS
        exact iteF (wantN H1 s0 rfl)
end
abbrev sRm : Stmt := topS 26
abbrev nRm : List Str := ["text", "name", "parting", "words", "path"]
theorem scRm : FnScope nRm ["text"] (defScope sRm) := ⟨rfl, rfl, rfl, by decide +kernel, rfl, by decide +kernel, by decide +kernel⟩
-- cells set()
section
variable {P : Program} {w : World} {K : PySem.W.Frag} {mg : Str → Option Value} {base : Heap}
theorem ok_rm {f fread_path_words fis_name : Addr} {fd fdread_path_words fdis_name : FuncData} (F : Fun K "read_mark_words" "read_mark_words" sRm f fd)
    (Fread_path_words : Fun K "read_path_words" "read_path_words" sRp fread_path_words fdread_path_words) (Gread_path_words : FnOk P w K mg base CX0 3 fread_path_words fdread_path_words ["text"] spRp) (gread_path_words : mg "read_path_words" = some (.ref fread_path_words))
    (Fis_name : Fun K "is_name" "is_name" sName fis_name fdis_name) (Gis_name : FnOk P w K mg base CX0 1 fis_name fdis_name ["value"] spNameT) (gis_name : mg "is_name" = some (.ref fis_name)) :
    FnOk P w K mg base CX0 4 f fd ["text"] spRm := by
  have bread_path_words : Binds K fdread_path_words ["text"] [] := Fread_path_words.binds fun _ _ _ _ _ _ us hl => match us, hl with | [_], _ => rfl
  have bis_name : Binds K fdis_name ["value"] [] := Fis_name.binds fun _ _ _ _ _ _ us hl => match us, hl with | [_], _ => rfl
  refine F.ok scRm (fun vs H Q E h => ?_) (fun cdv A outer s0 H vs Q E hr h => ?_)
  · obtain ⟨x, rfl, _⟩ := h
    rfl
  · obtain ⟨x, rfl, lt, wantN, wantS⟩ := h
    refine ⟨_, (pss_cons (ps_asg (pe_partition (pv 0) pe_str) (pg_tup rfl (pgs_cons (pg_name (i := 1) scRm.nd rfl (Or.inl rfl)) (pgs_cons (pg_name (i := 2) scRm.nd rfl (Or.inl rfl)) (pgs_cons (pg_name (i := 3) scRm.nd rfl (Or.inl rfl)) pgs_nil)))))
      (pss_cons (ps_set (i := 4) scRm.nd rfl (Or.inl rfl) (pe_call Gread_path_words (hr.mono (by decide)) rfl gread_path_words Fread_path_words.kp bread_path_words .nil pass0 (pa_cons (pv 3) pa_nil)))
      (pss_one (ps_ret (pe_ifExp (PW.pt (pw_and (pt_truth (pv 2) (by intro _; rfl)) (pw_and (pt_val (pe_call Gis_name (hr.mono (by decide)) rfl gis_name Fis_name.kp bis_name .nil pass0 (pa_cons (pv 1) pa_nil))) (pw_and1 (pt_cmpR op_notN (pv 4) pe_non (nomark _)))))) (pe_tup (pa_cons (pv 1) (pa_cons (pv 4) pa_nil))) pe_non))))), ?_⟩
    obtain ⟨l1, l2⟩ := part_len x " in "
    refine ⟨_, rfl, ⟨x, rfl⟩, x, _, rfl, rfl, by decide +kernel, tx_fit (lt_tx lt), fun p hp => ?_⟩
    refine ⟨p, _, rfl, SqT.of upd_same, rfl, _, _, rfl, _, _, rfl, _, _, rfl, rfl, ?_⟩
    have s0 := same_new (o := HO.tup [.str (Txt.partition x " in ").1, .str (Txt.partition x " in ").2.1, .str (Txt.partition x " in ").2.2]) hp
    generalize upd H p _ = H0 at s0 ⊢
    unfold rmD at wantN wantS
    have t1 : Tx (Txt.partition x " in ").1 := tx_of (lt_tx lt) l1
    have t2 : Tx (Txt.partition x " in ").2.1 := by
      have := PySem.StrLaws.partition_sum x " in "
      have : (Txt.partition x " in ").2.1.length ≤ x.length := by
        conv => rhs; rw [← this]
        rw [Str.length_append, Str.length_append]
        omega
      exact tx_of (lt_tx lt) this
    refine ⟨_, rfl, _, rfl, lt_of lt l2, fun H1 s1 e => ?_, fun H1 a ls s1 na ha e => ?_⟩
    · have r : (if (!((Txt.partition x " in ").2.1.length == 0) && nameT (Txt.partition x " in ").1) = true then (rpD (Txt.partition x " in ").2.2).map fun p => ((Txt.partition x " in ").1, p) else none) = none := by
        rw [e]
        split <;> rfl
      refine ⟨_, rfl, _, str_tru t2, ?_⟩
      cases q : (!((Txt.partition x " in ").2.1.length == 0)) with
      | false => exact iteF (wantN H1 (same_trans s0 s1) r)
      | true =>
        refine iteT ⟨_, rfl, _, rfl, t1, _, rfl, ?_⟩
        cases q2 : nameT (Txt.partition x " in ").1 with
        | false => exact iteF (wantN H1 (same_trans s0 s1) r)
        | true => exact iteT ⟨_, rfl, rfl, _, rfl, iteF (wantN H1 (same_trans s0 s1) r)⟩
    · rw [e] at wantN wantS
      refine ⟨_, rfl, _, str_tru t2, ?_⟩
      cases q : (!((Txt.partition x " in ").2.1.length == 0)) with
      | false =>
        rw [q] at wantN
        exact iteF (wantN H1 (same_trans s0 s1) rfl)
      | true =>
        rw [q] at wantN wantS
        refine iteT ⟨_, rfl, _, rfl, t1, _, rfl, ?_⟩
        cases q2 : nameT (Txt.partition x " in ").1 with
        | false =>
          rw [q2] at wantN
          exact iteF (wantN H1 (same_trans s0 s1) rfl)
        | true =>
          rw [q2] at wantS
          refine iteT ⟨_, rfl, rfl, _, rfl, iteT ⟨_, rfl, _, rfl, by show 2 ≤ sizeLine; rw [sizeLine_eq]; decide, fun l hl => ?_⟩⟩
          have n0 := (same_trans s0 s1).free hl
          exact wantS _ l a ((Txt.partition x " in ").1, ls) (same_trans s0 (same_trans s1 (same_new hl))) n0 (s0.free na) upd_same ((same_new hl) _ _ ha) rfl
end
end Vb
end L2

set_option Elab.async false
set_option linter.all false
set_option maxRecDepth 100000
set_option maxHeartbeats 4000000
/-! Vb, k88: read_command. -/
namespace L2
namespace Vb
open PySem PySem.Spec PyProof.Rows
/-- what is new -/
def nw (H H' : Hp) : Hp := fun b => if (H b).isSome = true then none else H' b
theorem nw_at {H H' : Hp} {a : Addr} (h : H a = none) : nw H H' a = H' a := by
  unfold nw
  rw [h]
  exact if_neg (by decide)
theorem nw_mono {H H1 H2 H3 : Hp} (s : Same H H1) (t : Same H2 H3) : Same (nw H1 H2) (nw H H3) := fun b o e => by
  unfold nw at e ⊢
  split at e
  · cases e
  · next q =>
    rw [if_neg (fun z => q (by
      cases w : H b with
      | none =>
        rw [w] at z
        cases z
      | some u => rw [s _ _ w]; rfl))]
    exact t _ _ e
theorem nw_le {H H' : Hp} : Same (nw H H') H' := fun b o e => by
  unfold nw at e
  split at e
  · cases e
  · exact e
theorem inV_str (w : Str) (xs : List Str) : inV (.str w) (xs.map V.str) = xs.contains w := by
  unfold inV
  rw [List.any_map, List.contains_eq_any_beq]
  congr 1
  funext y
  show (y == w) = (w == y)
  exact BEq.comm
theorem flat_strs (xs : List Str) : (xs.map V.str).all flatV = true := List.all_eq_true.mpr fun v m => by
  obtain ⟨x, _, rfl⟩ := List.mem_map.mp m
  rfl
/-- a count's data -/
theorem sho_cnt {n : Nat} {H : Hp} (o : Option Int) : Sho n H (cntV o) (cntDt o) := by
  cases o with
  | none => exact Sho.non
  | some i => exact Sho.int i
theorem paired_strs {n : Nat} {H : Hp} : ∀ ls : List Str, Paired (Sho n H) (ls.map V.str) (ls.map PyData.str)
  | [] => .nil
  | l :: ls => .cons (Sho.str l) (paired_strs ls)
theorem paired_kvs {n : Nat} {H : Hp} : ∀ W : SumZ, Paired (ShoE n H) (kvsZ W) (W.map fun q => (PyData.str q.1, PyData.int q.2))
  | [] => .nil
  | q :: W => .cons ⟨⟨q.1, rfl, rfl⟩, Sho.int q.2⟩ (paired_kvs W)
theorem sho_sum {n : Nat} {H : Hp} {a : Addr} {W : SumZ} (h : Dct H a W) : Sho (n + 1) H (.ref a) (sumDt W) := by
  exact Sho.dict h (paired_kvs W)
theorem sho_mark {n : Nat} {H : Hp} {v : V} {m : Mk} (h : MarkAt H v (some m)) : Sho (n + 2) H v (mkDt m) := by
  obtain ⟨a, b, rfl, ha, hb⟩ := h
  exact Sho.tup ha (.cons (Sho.str _) (.cons (Sho.tup hb (paired_strs m.2)) .nil))
def spRd : Sp := fun vs H Q _ => ∃ x : Str, vs = [.str x] ∧ Lt x ∧ ∀ H' v, Same H H' → Sho 3 (nw H H') v (datC (rdC x)) → Q v H'
theorem ltr_mem : ∀ w, LETTERS_S.contains w = true → ∃ b, w = letW b := by
  intro w h
  have h := List.contains_iff_mem.mp h
  rcases List.mem_cons.mp h with rfl | h
  · exact ⟨true, rfl⟩
  · rw [List.mem_singleton.mp h]
    exact ⟨false, rfl⟩
theorem sum_mem : ∀ w, WITH_SUMS_S.contains w = true → ∃ k, w = sumW k := by
  intro w h
  have h := List.contains_iff_mem.mp h
  rcases List.mem_cons.mp h with rfl | h
  · exact ⟨0, rfl⟩
  rcases List.mem_cons.mp h with rfl | h
  · exact ⟨1, rfl⟩
  rcases List.mem_cons.mp h with rfl | h
  · exact ⟨2, rfl⟩
  · rw [List.mem_singleton.mp h]
    exact ⟨3, rfl⟩
theorem rdC_eq (x : Str) : rdC x = if (Txt.partition x " ").1 = "number" then .ltr true (rcD (Txt.partition x " ").2.2) else if (Txt.partition x " ").1 = "choice" then .ltr false (rcD (Txt.partition x " ").2.2)
    else if (Txt.partition x " ").1 = "read" then .sum 0 (rwD (Txt.partition x " ").2.2) else if (Txt.partition x " ").1 = "move" then .sum 1 (rwD (Txt.partition x " ").2.2) else if (Txt.partition x " ").1 = "suppose" then .sum 2 (rwD (Txt.partition x " ").2.2) else if (Txt.partition x " ").1 = "put" then .sum 3 (rwD (Txt.partition x " ").2.2)
    else if (Txt.partition x " ").1 = "exchange" then .exch (rcD (Txt.partition (Txt.partition x " ").2.2 " ").1) (rmD (Txt.partition (Txt.partition x " ").2.2 " ").2.2) else .bare (Txt.partition x " ").1 := rfl
theorem rdC_ltr {x : Str} {b : Bool} (h : (Txt.partition x " ").1 = letW b) : rdC x = .ltr b (rcD (Txt.partition x " ").2.2) := by
  rw [rdC_eq, h]
  cases b with
  | true => exact if_pos rfl
  | false =>
    rw [if_neg (by decide +kernel)]
    exact if_pos rfl
theorem rdC_sum {x : Str} {k : Fin 4} (h : (Txt.partition x " ").1 = sumW k) : rdC x = .sum k (rwD (Txt.partition x " ").2.2) := by
  rw [rdC_eq, h]
  have q : k = 0 ∨ k = 1 ∨ k = 2 ∨ k = 3 := by
    match k with
    | 0 => exact .inl rfl
    | 1 => exact .inr (.inl rfl)
    | 2 => exact .inr (.inr (.inl rfl))
    | 3 => exact .inr (.inr (.inr rfl))
  rcases q with rfl | rfl | rfl | rfl
  · rw [if_neg (by decide +kernel), if_neg (by decide +kernel)]
    exact if_pos rfl
  · rw [if_neg (by decide +kernel), if_neg (by decide +kernel), if_neg (by decide +kernel)]
    exact if_pos rfl
  · rw [if_neg (by decide +kernel), if_neg (by decide +kernel), if_neg (by decide +kernel), if_neg (by decide +kernel)]
    exact if_pos rfl
  · rw [if_neg (by decide +kernel), if_neg (by decide +kernel), if_neg (by decide +kernel), if_neg (by decide +kernel), if_neg (by decide +kernel)]
    exact if_pos rfl
theorem rdC_exch {x : Str} (h : (Txt.partition x " ").1 = "exchange") : rdC x = .exch (rcD (Txt.partition (Txt.partition x " ").2.2 " ").1) (rmD (Txt.partition (Txt.partition x " ").2.2 " ").2.2) := by
  rw [rdC_eq, h]
  rw [if_neg (by decide +kernel), if_neg (by decide +kernel), if_neg (by decide +kernel), if_neg (by decide +kernel), if_neg (by decide +kernel), if_neg (by decide +kernel)]
  exact if_pos rfl
theorem rdC_bare {x : Str} (h1 : LETTERS_S.contains (Txt.partition x " ").1 = false) (h2 : WITH_SUMS_S.contains (Txt.partition x " ").1 = false) (h3 : (Txt.partition x " ").1 ≠ "exchange") : rdC x = .bare (Txt.partition x " ").1 := by
  have ne : ∀ {xs : List Str} {w y : Str}, xs.contains w = false → y ∈ xs → w ≠ y := fun {xs w y} h m e => by
    rw [e, List.contains_iff_mem.mpr m] at h
    cases h
  have m1 : ("number" : Str) ∈ LETTERS_S := List.mem_cons_self
  have m2 : ("choice" : Str) ∈ LETTERS_S := List.mem_cons_of_mem _ List.mem_cons_self
  have m3 : ("read" : Str) ∈ WITH_SUMS_S := List.mem_cons_self
  have m4 : ("move" : Str) ∈ WITH_SUMS_S := List.mem_cons_of_mem _ List.mem_cons_self
  have m5 : ("suppose" : Str) ∈ WITH_SUMS_S := List.mem_cons_of_mem _ (List.mem_cons_of_mem _ List.mem_cons_self)
  have m6 : ("put" : Str) ∈ WITH_SUMS_S := List.mem_cons_of_mem _ (List.mem_cons_of_mem _ (List.mem_cons_of_mem _ List.mem_cons_self))
  rw [rdC_eq, if_neg (ne h1 m1), if_neg (ne h1 m2), if_neg (ne h2 m3), if_neg (ne h2 m4), if_neg (ne h2 m5), if_neg (ne h2 m6), if_neg h3]
abbrev sRd : Stmt := topS 38
abbrev nRd : List Str := ["line", "word", "_", "behind", "at", "mark"]
theorem scRd : FnScope nRd ["line"] (defScope sRd) := ⟨rfl, rfl, rfl, by decide +kernel, rfl, by decide +kernel, by decide +kernel⟩
-- cells set()
section
variable {P : Program} {w : World} {K : PySem.W.Frag} {mg : Str → Option Value} {base : Heap}
theorem ok_rd {f fread_count fread_sum_words fread_mark_words aLETTERS aWITH_SUMS : Addr} {fd fdread_count fdread_sum_words fdread_mark_words : FuncData} (F : Fun K "read_command" "read_command" sRd f fd)
    (Fread_count : Fun K "read_count" "read_count" sRc fread_count fdread_count) (Gread_count : FnOk P w K mg base CX0 1 fread_count fdread_count ["text"] spRc) (gread_count : mg "read_count" = some (.ref fread_count))
    (Fread_sum_words : Fun K "read_sum_words" "read_sum_words" sRw fread_sum_words fdread_sum_words) (Gread_sum_words : FnOk P w K mg base CX0 5 fread_sum_words fdread_sum_words ["text"] spRw) (gread_sum_words : mg "read_sum_words" = some (.ref fread_sum_words))
    (Fread_mark_words : Fun K "read_mark_words" "read_mark_words" sRm fread_mark_words fdread_mark_words) (Gread_mark_words : FnOk P w K mg base CX0 4 fread_mark_words fdread_mark_words ["text"] spRm) (gread_mark_words : mg "read_mark_words" = some (.ref fread_mark_words)) (gLETTERS : mg "LETTERS" = some (.ref aLETTERS)) (hLETTERS : ∀ H : Hp, SqT K H aLETTERS (LETTERS_S.map V.str)) (gWITH_SUMS : mg "WITH_SUMS" = some (.ref aWITH_SUMS)) (hWITH_SUMS : ∀ H : Hp, SqT K H aWITH_SUMS (WITH_SUMS_S.map V.str)) :
    FnOk P w K mg base CX0 6 f fd ["line"] spRd := by
  have bread_count : Binds K fdread_count ["text"] [] := Fread_count.binds fun _ _ _ _ _ _ us hl => match us, hl with | [_], _ => rfl
  have bread_sum_words : Binds K fdread_sum_words ["text"] [] := Fread_sum_words.binds fun _ _ _ _ _ _ us hl => match us, hl with | [_], _ => rfl
  have bread_mark_words : Binds K fdread_mark_words ["text"] [] := Fread_mark_words.binds fun _ _ _ _ _ _ us hl => match us, hl with | [_], _ => rfl
  refine F.ok scRd (fun vs H Q E h => ?_) (fun cdv A outer s0 H vs Q E hr h => ?_)
  · obtain ⟨x, rfl, _⟩ := h
    rfl
  · obtain ⟨x, rfl, lt, want⟩ := h
    refine ⟨_, (pss_cons (ps_asg (pe_partition (pv 0) pe_str) (pg_tup rfl (pgs_cons (pg_name (i := 1) scRd.nd rfl (Or.inl rfl)) (pgs_cons (pg_name (i := 2) scRd.nd rfl (Or.inl rfl)) (pgs_cons (pg_name (i := 3) scRd.nd rfl (Or.inl rfl)) pgs_nil)))))
      (pss_cons (ps_if (pt_cmpR op_in_seq (pv 1) (pe_glob (v := .ref _) rfl gLETTERS rfl (by decide)) (by rfl))
        (pss_one (ps_ret (pe_tup (pa_cons (pv 1) (pa_cons (pe_call Gread_count (hr.mono (by decide)) rfl gread_count Fread_count.kp bread_count .nil pass0 (pa_cons (pv 3) pa_nil)) pa_nil)))))
        pss_nil)
      (pss_cons (ps_if (pt_cmpR op_in_seq (pv 1) (pe_glob (v := .ref _) rfl gWITH_SUMS rfl (by decide)) (by rfl))
        (pss_one (ps_ret (pe_tup (pa_cons (pv 1) (pa_cons (pe_call Gread_sum_words (hr.mono (by decide)) rfl gread_sum_words Fread_sum_words.kp bread_sum_words .nil pass0 (pa_cons (pv 3) pa_nil)) pa_nil)))))
        pss_nil)
      (pss_cons (ps_if (pt_cmpR op_eq (pv 1) pe_str (nomark _))
        (pss_cons (ps_asg (pe_partition (pv 3) pe_str) (pg_tup rfl (pgs_cons (pg_name (i := 4) scRd.nd rfl (Or.inl rfl)) (pgs_cons (pg_name (i := 2) scRd.nd rfl (Or.inl rfl)) (pgs_cons (pg_name (i := 5) scRd.nd rfl (Or.inl rfl)) pgs_nil)))))
          (pss_one (ps_ret (pe_tup (pa_cons (pv 1) (pa_cons (pe_call Gread_count (hr.mono (by decide)) rfl gread_count Fread_count.kp bread_count .nil pass0 (pa_cons (pv 4) pa_nil)) (pa_cons (pe_call Gread_mark_words (hr.mono (by decide)) rfl gread_mark_words Fread_mark_words.kp bread_mark_words .nil pass0 (pa_cons (pv 5) pa_nil)) pa_nil)))))))
        pss_nil)
      (pss_one (ps_ret (pe_tup (pa_cons (pv 1) pa_nil)))))))), ?_⟩
    obtain ⟨l1, l2⟩ := part_len x " "
    have t1 : Lt (Txt.partition x " ").1 := lt_of lt l1
    have t2 : Lt (Txt.partition x " ").2.2 := lt_of lt l2
    refine ⟨_, rfl, ⟨x, rfl⟩, x, _, rfl, rfl, by decide +kernel, tx_fit (lt_tx lt), fun p hp => ?_⟩
    refine ⟨p, _, rfl, SqT.of upd_same, rfl, _, _, rfl, _, _, rfl, _, _, rfl, rfl, ?_⟩
    have s0 := same_new (o := HO.tup [.str (Txt.partition x " ").1, .str (Txt.partition x " ").2.1, .str (Txt.partition x " ").2.2]) hp
    generalize upd H p _ = H0 at s0 ⊢
    have z2 : 2 ≤ sizeLine := by rw [sizeLine_eq]; decide
    have z3 : 3 ≤ sizeLine := by rw [sizeLine_eq]; decide
    refine ⟨_, rfl, aLETTERS, _, rfl, .inr (hLETTERS H0), rfl, flat_strs _, _, rfl, ?_⟩
    show if inV (V.str (Txt.partition x " ").1) (LETTERS_S.map V.str) = true then _ else _
    rw [inV_str]
    cases e1 : LETTERS_S.contains (Txt.partition x " ").1 with
    | true =>
      obtain ⟨b, eb⟩ := ltr_mem _ e1
      refine iteT ⟨_, rfl, _, rfl, _, rfl, lt_tx t2, fun H1 s1 => ⟨z2, fun q hq => ?_⟩⟩
      have s01 := same_trans s0 s1
      refine want _ _ (same_trans s01 (same_new hq)) ?_
      rw [rdC_ltr eb, datC]
      refine Sho.tup ((nw_at (s01.free hq)).trans upd_same) (.cons ?_ (.cons (sho_cnt _) .nil))
      rw [eb]
      exact Sho.str _
    | false =>
      refine iteF ?_
      refine ⟨_, rfl, aWITH_SUMS, _, rfl, .inr (hWITH_SUMS H0), rfl, flat_strs _, _, rfl, ?_⟩
      show if inV (V.str (Txt.partition x " ").1) (WITH_SUMS_S.map V.str) = true then _ else _
      rw [inV_str]
      cases e2 : WITH_SUMS_S.contains (Txt.partition x " ").1 with
      | true =>
        obtain ⟨k, ek⟩ := sum_mem _ e2
        refine iteT ⟨_, rfl, _, rfl, _, rfl, t2, fun H1 s1 e => ⟨z2, fun q hq => ?_⟩, fun H1 a W s1 na ha e => ⟨z2, fun q hq => ?_⟩⟩
        · have s01 := same_trans s0 s1
          refine want _ _ (same_trans s01 (same_new hq)) ?_
          rw [rdC_sum ek, datC, e]
          refine Sho.tup ((nw_at (s01.free hq)).trans upd_same) (.cons ?_ (.cons Sho.non .nil))
          rw [ek]
          exact Sho.str _
        · have s01 := same_trans s0 s1
          refine want _ _ (same_trans s01 (same_new hq)) ?_
          rw [rdC_sum ek, datC, e]
          refine Sho.tup ((nw_at (s01.free hq)).trans upd_same) (.cons ?_ (.cons (sho_sum ?_) .nil))
          · rw [ek]
            exact Sho.str _
          · show nw H _ a = _
            rw [nw_at (s0.free na)]
            exact (same_new hq) _ _ ha
      | false =>
        refine iteF ?_
        refine ⟨_, rfl, rfl, _, rfl, ?_⟩
        rw [dec_strE]
        by_cases e3 : (Txt.partition x " ").1 = "exchange"
        · rw [decide_eq_true e3]
          obtain ⟨l3, l4⟩ := part_len (Txt.partition x " ").2.2 " "
          refine iteT ⟨_, rfl, ⟨_, rfl⟩, _, _, rfl, rfl, by decide +kernel, tx_fit (lt_tx t2), fun q hq => ?_⟩
          refine ⟨q, _, rfl, SqT.of upd_same, rfl, _, _, rfl, _, _, rfl, _, _, rfl, rfl, ?_⟩
          have s1 := same_trans s0 (same_new (o := HO.tup [.str (Txt.partition (Txt.partition x " ").2.2 " ").1, .str (Txt.partition (Txt.partition x " ").2.2 " ").2.1, .str (Txt.partition (Txt.partition x " ").2.2 " ").2.2]) hq)
          generalize upd H0 q _ = H1 at s1 ⊢
          refine ⟨_, rfl, _, rfl, _, rfl, lt_tx (lt_of t2 l3), fun H2 s2 => ?_⟩
          have s02 := same_trans s1 s2
          refine ⟨_, rfl, _, rfl, lt_of t2 l4, fun H3 s3 e => ⟨z3, fun r hr => ?_⟩, fun H3 a b m s3 na nb ha hb e => ⟨z3, fun r hr => ?_⟩⟩
          · have s03 := same_trans s02 s3
            refine want _ _ (same_trans s03 (same_new hr)) ?_
            rw [rdC_exch e3, datC, e]
            refine Sho.tup ((nw_at (s03.free hr)).trans upd_same) (.cons ?_ (.cons (sho_cnt _) (.cons Sho.non .nil)))
            rw [e3]
            exact Sho.str _
          · have s03 := same_trans s02 s3
            refine want _ _ (same_trans s03 (same_new hr)) ?_
            rw [rdC_exch e3, datC, e]
            refine Sho.tup ((nw_at (s03.free hr)).trans upd_same) (.cons ?_ (.cons (sho_cnt _) (.cons (sho_mark ⟨a, b, rfl, ?_, ?_⟩) .nil)))
            · rw [e3]
              exact Sho.str _
            · rw [nw_at (s02.free na)]
              exact (same_new hr) _ _ ha
            · rw [nw_at (s02.free nb)]
              exact (same_new hr) _ _ hb
        · rw [decide_eq_false e3]
          refine iteF ⟨_, rfl, by show 1 ≤ sizeLine; rw [sizeLine_eq]; decide, fun q hq => ?_⟩
          refine want _ _ (same_trans s0 (same_new hq)) ?_
          rw [rdC_bare e1 e2 e3, datC]
          exact Sho.tup ((nw_at (s0.free hq)).trans upd_same) (.cons (Sho.str _) .nil)
end
end Vb
end L2

set_option Elab.async false
set_option linter.all false
set_option maxRecDepth 100000
set_option maxHeartbeats 4000000
/-! Vb, part 41: meeting. -/
namespace L2
namespace Vb
open PySem PySem.Spec PyProof.Rows
open LinA (augZ putZ Meets)
abbrev nMeet : List Str := ["prime", "vectors", "aims", "length", "table", "pivots", "row", "found", "place", "vector", "aim"]
theorem augZ_get {T : List (List Int)} {aims : List Int} {k : Nat} {xs : List Int} {a : Int} (h1 : T[k]? = some xs) (h2 : aims[k]? = some a) : (augZ T aims)[k]? = some (xs ++ [a]) := by
  unfold augZ
  rw [List.getElem?_zipWith, h1, h2]
theorem cut_drop (xs : List V) (n : Nat) : cutV xs (some (n : Int)) none = xs.drop n := by
  unfold cutV
  rw [HT.sIx_none, HT.sIx_nat]
  rcases Nat.le_total n xs.length with h | h
  · rw [Nat.min_eq_left h]
    exact List.take_of_length_le (by rw [List.length_drop]; exact Nat.le_refl _)
  · rw [Nat.min_eq_right h, List.drop_length, List.drop_eq_nil_of_le h, List.take_nil]
theorem rws_drop {H : Hp} {as : List Addr} {T : List (List Int)} (h : Rws H as T) (n : Nat) : Rws H (as.drop n) (T.drop n) := by
  induction h generalizing n with
  | nil => rw [List.drop_nil, List.drop_nil]; exact .nil
  | cons r t ih =>
    cases n with
    | zero => exact .cons r t
    | succ n => exact ih n
/-- v is the answer r, new -/
def OptRw (H H' : Hp) (v : V) : Option (List Int) → Prop
  | none => v = .non
  | some x => ∃ d, v = .ref d ∧ H d = none ∧ Rw H' d x
theorem nat_get {t : List Nat} {k : Nat} {x : V} (h : (t.map nat_)[k]? = some x) : ∃ c, x = nat_ c ∧ t[k]? = some c := by
  rw [List.getElem?_map] at h
  obtain ⟨c, hc, e⟩ := Option.map_eq_some_iff.mp h
  exact ⟨c, e.symm, hc⟩
theorem any_not {E : List (List Int)} {n : Nat} (h : ((E.map fun xs => xs.getD n 0).any fun n => decide (n ≠ 0)) = false) : ∀ e ∈ E, e.getD n 0 = 0 := fun e me => by
  have z := List.any_eq_false.mp h _ (List.mem_map_of_mem me)
  exact Classical.byContradiction fun q => z (decide_eq_true q)
theorem any_yes {E : List (List Int)} {n : Nat} (h : ((E.map fun xs => xs.getD n 0).any fun n => decide (n ≠ 0)) = true) : ∃ e ∈ E, e.getD n 0 ≠ 0 := by
  obtain ⟨x, mx, hx⟩ := List.any_eq_true.mp h
  obtain ⟨e, me, rfl⟩ := List.mem_map.mp mx
  exact ⟨e, me, of_decide_eq_true hx⟩
section
variable {P : Program} {w : World} {K : PySem.W.Frag} {mg : Str → Option Value} {base : Heap}
def spMeet : Sp := fun vs H Q _ => ∃ (p : Nat) (m b : Addr) (n : Nat) (as : List Addr) (T : List (List Int)) (aims : List Int), vs = [.int (p : Int), .ref m, .ref b, .int (n : Int)] ∧ 2 ≤ p ∧ p ≤ 65537 ∧ Prm p ∧ H m = some (.lst (as.map V.ref)) ∧ Rws H as T ∧ (∀ xs ∈ T, Vc (p : Int) n xs) ∧ Rw H b aims ∧ Vc (p : Int) T.length aims ∧ n < 1000 ∧ T.length ≤ 1000 ∧
  ∀ (H' : Hp) (v : V) (r : Option (List Int)), Same H H' → OptRw H H' v r → Meets p n T aims r → Q v H'
end
end Vb
end L2

set_option Elab.async false
set_option linter.all false
set_option maxRecDepth 100000
set_option maxHeartbeats 8000000
/-! Vb, k03: written data, laid. -/
namespace L2
namespace Vb
open PySem PySem.Spec PyProof.Rows

/-- the heap without one object -/
def msk (a : Addr) (H : Hp) : Hp := fun b => if b = a then none else H b
theorem msk_ne {a b : Addr} {H : Hp} (h : b ≠ a) : msk a H b = H b := if_neg h
theorem msk_le {a : Addr} {H : Hp} : Same (msk a H) H := fun b o e => by
  by_cases q : b = a
  · rw [msk, if_pos q] at e
    cases e
  · rw [msk_ne q] at e
    exact e
theorem msk_but {a : Addr} {H H' : Hp} (h : But a H H') : Same (msk a H) (msk a H') := fun b o e => by
  by_cases q : b = a
  · rw [msk, if_pos q] at e
    cases e
  · rw [msk_ne q] at e ⊢
    exact h b q o e
theorem msk_same {a : Addr} {H H' : Hp} (h : Same H H') : Same (msk a H) (msk a H') := msk_but (but_same h)
theorem msk_new {a p : Addr} {H : Hp} (ha : ∃ o, H a = some o) (hp : H p = none) : p ≠ a := fun e => by
  obtain ⟨o, ha⟩ := ha
  rw [e, ha] at hp
  cases hp
theorem msk_upd {a p : Addr} {H : Hp} {o : HO} (ha : ∃ o, H a = some o) (hp : H p = none) : msk a (upd H p o) p = some o := (msk_ne (msk_new ha hp)).trans upd_same
theorem some_up {a : Addr} {H H' : Hp} (h : ∃ o, H a = some o) (s : Same H H') : ∃ o, H' a = some o := h.elim fun o e => ⟨o, s _ _ e⟩
/-- the expression lays the data d (at most n deep), new things alone, nothing of it at a -/
def Lays (a : Addr) (te : TE) (n : Nat) (σ : St) (H0 : Hp) (d : PyData) : Prop := (∃ o, H0 a = some o) → ∀ (H : Hp) (Q : VK), Same H0 H → (∀ v H', Same H H' → Sho n (msk a H') v d → Q v H') → te σ H Q
def LaysA (a : Addr) (ta : TA) (n : Nat) (σ : St) (H0 : Hp) (ds : List PyData) : Prop := (∃ o, H0 a = some o) → ∀ (H : Hp) (Q : List V → Hp → Prop), Same H0 H → (∀ vs H', Same H H' → Paired (Sho n (msk a H')) vs ds → Q vs H') → ta σ H Q
theorem sh_same {n : Nat} {H H' : Hp} {vs : List V} {ds : List PyData} (h : Paired (Sho n H) vs ds) (s : Same H H') : Paired (Sho n H') vs ds := L2.Paired.mapP h fun _ _ z => z.up s
section
variable {a : Addr} {n : Nat} {σ : St} {H0 : Hp}
theorem Sho.flat {H : Hp} {v : V} {d : PyData} (f : Flat v d) : Sho n H v d := by
  cases n with
  | zero => exact f
  | succ n => exact .inl f
theorem lays_c {v : V} {d : PyData} (f : Flat v d) : Lays a (tC v) n σ H0 d := fun _ H Q s q => q v H same_rfl (Sho.flat f)
theorem lays_int (i : Int) : Lays a (tC (.int i)) n σ H0 (.int i) := lays_c (.inr (.inr (.inl ⟨i, rfl, rfl⟩)))
theorem lays_bl (b : Bool) : Lays a (tC (.bl b)) n σ H0 (.bool b) := lays_c (.inr (.inl ⟨b, rfl, rfl⟩))
theorem lays_non : Lays a (tC .non) n σ H0 .none := lays_c (.inl ⟨rfl, rfl⟩)
theorem lays_str (x : Str) : Lays a (tC (.str x)) n σ H0 (.str x) := lays_c (.inr (.inr (.inr ⟨x, rfl, rfl⟩)))
theorem lays_var {i : Nat} {v : V} {d : PyData} (e : σ[i]? = some (some v)) (f : Sho n (msk a H0) v d) : Lays a (tVar i) n σ H0 d := fun _ H Q s q => ⟨v, e, q v H same_rfl (f.up (msk_same s))⟩
theorem laysA_nil : LaysA a tNil n σ H0 [] := fun _ H Q s q => q [] H same_rfl .nil
theorem laysA_cons {te : TE} {ta : TA} {d : PyData} {ds : List PyData} (h : Lays a te n σ H0 d) (k : LaysA a ta n σ H0 ds) : LaysA a (tCons te ta) n σ H0 (d :: ds) := fun ha H Q s q =>
  h ha H _ s fun v H1 s1 e1 => k ha H1 _ (same_trans s s1) fun vs H2 s2 e2 => q (v :: vs) H2 (same_trans s1 s2) (.cons (e1.up (msk_same s2)) e2)
theorem lays_lst {ta : TA} {ds : List PyData} (h : LaysA a ta n σ H0 ds) (l : ds.length ≤ 1000) : Lays a (tLst ta) (n + 1) σ H0 (.list ds) := fun ha H Q s q =>
  h ha H _ s fun vs H1 s1 e1 => ⟨by rw [paired_len e1, sizeLine_eq]; omega, fun p hp => q _ _ (same_trans s1 (same_new hp)) (Sho.lst (msk_upd (some_up ha (same_trans s s1)) hp) (sh_same e1 (msk_same (same_new hp))))⟩
theorem lays_tup {ta : TA} {ds : List PyData} (h : LaysA a ta n σ H0 ds) (l : ds.length ≤ 1000) : Lays a (tTup ta) (n + 1) σ H0 (.tuple ds) := fun ha H Q s q =>
  h ha H _ s fun vs H1 s1 e1 => ⟨by rw [paired_len e1, sizeLine_eq]; omega, fun p hp => q _ _ (same_trans s1 (same_new hp)) (Sho.tup (msk_upd (some_up ha (same_trans s s1)) hp) (sh_same e1 (msk_same (same_new hp))))⟩
theorem lays_dct : Lays a tDNewK (n + 1) σ H0 (.dict []) := fun ha H Q s q p hp => q _ _ (same_new hp) (Sho.dct (msk_upd (some_up ha s) hp))
theorem paired_app {α β : Type} {R : α → β → Prop} : ∀ {xs ys : List α} {as bs : List β}, Paired R xs as → Paired R ys bs → Paired R (xs ++ ys) (as ++ bs)
  | _, _, _, _, .nil, k => k
  | _, _, _, _, .cons r t, k => .cons r (paired_app t k)
/-- a new list of such, its items as they were ahead of it -/
def LaysN (a : Addr) (te : TE) (n : Nat) (σ : St) (H0 : Hp) (ds : List PyData) : Prop := (∃ o, H0 a = some o) → ∀ (H : Hp) (Q : VK), Same H0 H → (∀ (H1 : Hp) (p : Addr) (vs : List V), Same H H1 → H1 p = none → Paired (Sho n (msk a H1)) vs ds → Q (.ref p) (upd H1 p (.lst vs))) → te σ H Q
theorem lays_catN {ta tb : TE} {xs ys : List PyData} (h : Lays a ta (n + 1) σ H0 (.list xs)) (k : Lays a tb (n + 1) σ H0 (.list ys)) (l : xs.length + ys.length ≤ 1000) : LaysN a (tOp rCat ta tb) n σ H0 (xs ++ ys) := fun ha H Q s q =>
  h ha H _ s fun v H1 s1 e1 => k ha H1 _ (same_trans s s1) fun w H2 s2 e2 => by
    have e1 := e1.up (msk_same s2)
    obtain ⟨m1, b, us, q1, rfl, hb, p1⟩ := e1.ofList
    obtain ⟨m2, c, ws, q2, rfl, hc, p2⟩ := e2.ofList
    cases q1
    cases q2
    exact ⟨b, c, us, ws, rfl, rfl, msk_le _ _ hb, msk_le _ _ hc, by rw [paired_len p1, paired_len p2, sizeLine_eq]; omega, fun p hp => q _ _ _ (same_trans s1 s2) hp (paired_app p1 p2)⟩
theorem lays_lstN {ta : TA} {ds : List PyData} (h : LaysA a ta n σ H0 ds) (l : ds.length ≤ 1000) : LaysN a (tLst ta) n σ H0 ds := fun ha H Q s q =>
  h ha H _ s fun vs H1 s1 e1 => ⟨by rw [paired_len e1, sizeLine_eq]; omega, fun p hp => q _ _ _ s1 hp e1⟩
theorem LaysN.all {te : TE} {ds : List PyData} (h : LaysN a te n σ H0 ds) : Lays a te (n + 1) σ H0 (.list ds) := fun ha H Q s q =>
  h ha H _ s fun H1 p vs s1 hp e1 => q _ _ (same_trans s1 (same_new hp)) (Sho.lst (msk_upd (some_up ha (same_trans s s1)) hp) (sh_same e1 (msk_same (same_new hp))))
theorem lays_cat {ta tb : TE} {xs ys : List PyData} (h : Lays a ta (n + 1) σ H0 (.list xs)) (k : Lays a tb (n + 1) σ H0 (.list ys)) (l : xs.length + ys.length ≤ 1000) : Lays a (tOp rCat ta tb) (n + 1) σ H0 (.list (xs ++ ys)) := (lays_catN h k l).all
theorem paired_take {α β : Type} {R : α → β → Prop} : ∀ (k : Nat) {xs : List α} {as : List β}, Paired R xs as → Paired R (xs.take k) (as.take k)
  | 0, _, _, _ => .nil
  | k + 1, _, _, .nil => .nil
  | k + 1, _, _, .cons r t => .cons r (paired_take k t)
theorem paired_drop {α β : Type} {R : α → β → Prop} : ∀ (k : Nat) {xs : List α} {as : List β}, Paired R xs as → Paired R (xs.drop k) (as.drop k)
  | 0, _, _, h => h
  | k + 1, _, _, .nil => .nil
  | k + 1, _, _, .cons r t => paired_drop k t
theorem lays_take {K : PySem.W.Frag} {te : TE} {th : TO} {ds : List PyData} {k : Nat} (h : Lays a te (n + 1) σ H0 (.list ds)) (hh : ∀ H R, R (some (k : Int)) H → th σ H R) {tl : TO} (hl : ∀ H R, R none H → tl σ H R) : Lays a (tSl (rSlL K) te tl th) (n + 1) σ H0 (.list (ds.take k)) := fun ha H Q s q =>
  h ha H _ s fun v H1 s1 e1 => hl _ _ (hh _ _ (by
    obtain ⟨m1, b, us, q1, rfl, hb, p1⟩ := e1.ofList
    cases q1
    refine ⟨b, us, rfl, SqL.of (msk_le _ _ hb), fun p hp => ?_⟩
    rw [cut_take]
    exact q _ _ (same_trans s1 (same_new hp)) (Sho.lst (msk_upd (some_up ha (same_trans s s1)) hp) (paired_take k (sh_same p1 (msk_same (same_new hp)))))))
theorem lays_drop {K : PySem.W.Frag} {te : TE} {th : TO} {ds : List PyData} {k : Nat} (h : Lays a te (n + 1) σ H0 (.list ds)) {tl : TO} (hl : ∀ H R, R (some (k : Int)) H → tl σ H R) (hh : ∀ H R, R none H → th σ H R) : Lays a (tSl (rSlL K) te tl th) (n + 1) σ H0 (.list (ds.drop k)) := fun ha H Q s q =>
  h ha H _ s fun v H1 s1 e1 => hl _ _ (hh _ _ (by
    obtain ⟨m1, b, us, q1, rfl, hb, p1⟩ := e1.ofList
    cases q1
    refine ⟨b, us, rfl, SqL.of (msk_le _ _ hb), fun p hp => ?_⟩
    rw [cut_drop]
    exact q _ _ (same_trans s1 (same_new hp)) (Sho.lst (msk_upd (some_up ha (same_trans s s1)) hp) (paired_drop k (sh_same p1 (msk_same (same_new hp)))))))
def rTupOf (K : PySem.W.Frag) : List V → Hp → VK → Prop := fun xs H Q => ∃ p ys, xs = [.ref p] ∧ ((SqL K H p ys ∧ ∀ l, H l = none → Q (.ref l) (upd H l (.tup ys))) ∨ (SqT K H p ys ∧ Q (.ref p) H))
theorem lays_tupOf {K : PySem.W.Frag} {te : TE} {ds : List PyData} (h : Lays a te (n + 1) σ H0 (.list ds)) : Lays a (tCB (rTupOf K) (tCons te tNil)) (n + 1) σ H0 (.tuple ds) := fun ha H Q s q =>
  h ha H _ s fun v H1 s1 e1 => by
    obtain ⟨m1, b, us, q1, rfl, hb, p1⟩ := e1.ofList
    cases q1
    exact ⟨b, us, rfl, .inl ⟨SqL.of (msk_le _ _ hb), fun p hp => q _ _ (same_trans s1 (same_new hp)) (Sho.tup (msk_upd (some_up ha (same_trans s s1)) hp) (sh_same p1 (msk_same (same_new hp))))⟩⟩
theorem lays_neg (i : Int) : Lays a (tUn (rU fun i => .int (-i)) (tC (.int i))) n σ H0 (.int (-i)) := fun _ H Q s q => ⟨i, rfl, q _ H same_rfl (Sho.int _)⟩
end
/-! ### data of few and short things -/
def okL : Nat → PyData → Bool
  | _, .none => true
  | _, .bool _ => true
  | _, .int i => decide (i.natAbs < 100000)
  | _, .str x => decide ((reprText x).length ≤ 2000)
  | _, .dict kvs => kvs.isEmpty
  | n + 1, .list ds => decide (ds.length ≤ 10) && ds.all (okL n)
  | n + 1, .tuple ds => decide (ds.length ≤ 10) && ds.all (okL n)
  | 0, .list _ => false
  | 0, .tuple _ => false
def capL : Nat → Nat
  | 0 => 2000
  | n + 1 => 10 * capL n + 23
theorem cap_ge : ∀ n, 2000 ≤ capL n
  | 0 => Nat.le_refl _
  | n + 1 => by
    have := cap_ge n
    show 2000 ≤ 10 * capL n + 23
    omega
theorem log_abs {x : Int} (h : x.natAbs < 100000) : x.natAbs.log2 < 17 := by
  by_cases z : x.natAbs = 0
  · rw [z]
    decide
  · exact (Nat.log2_lt z).mpr (by omega)
def GoodL (n : Nat) (d : PyData) : Prop := d.showable = true ∧ d.shown.length ≤ capL n ∧ d.depth ≤ n + 1
theorem goodL_all {n : Nat} : ∀ ds : List PyData, (∀ d ∈ ds, GoodL n d) → PyData.showableAll ds = true ∧ ((PyData.shownAll ds).map (·.length)).sum ≤ capL n * ds.length ∧ (PyData.shownAll ds).length = ds.length ∧ PyData.depthAll ds ≤ n + 1
  | [], _ => ⟨rfl, Nat.le_refl _, rfl, Nat.zero_le _⟩
  | d :: ds, h => by
    obtain ⟨i1, i2, i3, i4⟩ := goodL_all ds fun x m => h x (List.mem_cons_of_mem _ m)
    obtain ⟨a, b, c⟩ := h d List.mem_cons_self
    refine ⟨?_, ?_, congrArg (· + 1) i3, ?_⟩
    · show (PyData.showable d && PyData.showableAll ds) = true
      rw [a, i1]
      rfl
    · show d.shown.length + ((PyData.shownAll ds).map (·.length)).sum ≤ capL n * (ds.length + 1)
      rw [Nat.mul_succ]
      omega
    · rw [PyData.depthAll]
      exact Nat.max_le.mpr ⟨c, i4⟩
theorem goodL : ∀ (n : Nat) (d : PyData), okL n d = true → GoodL n d
  | n, .none, _ => ⟨rfl, Nat.le_trans (by decide +kernel) (cap_ge n), by rw [PyData.depth]; exact Nat.zero_le _⟩
  | n, .bool b, _ => ⟨rfl, Nat.le_trans (by cases b <;> decide +kernel) (cap_ge n), by rw [PyData.depth]; exact Nat.zero_le _⟩
  | n, .int i, h => by
    have h : i.natAbs < 100000 := by
      cases n <;> exact of_decide_eq_true h
    have l := log_abs h
    exact ⟨decide_eq_true (by omega), Nat.le_trans (int_text_len_1921 (by omega)) (Nat.le_trans (by decide) (cap_ge n)), by rw [PyData.depth]; exact Nat.zero_le _⟩
  | n, .str x, h => by
    have h : (reprText x).length ≤ 2000 := by
      cases n <;> exact of_decide_eq_true h
    exact ⟨rfl, Nat.le_trans h (cap_ge n), by rw [PyData.depth]; exact Nat.zero_le _⟩
  | n, .dict kvs, h => by
    have e : kvs = [] := by
      have h : kvs.isEmpty = true := by
        cases n <;> exact h
      exact List.isEmpty_iff.mp h
    subst e
    exact ⟨rfl, Nat.le_trans (by decide +kernel) (cap_ge n), by
      rw [PyData.depth]
      show 0 + 1 ≤ n + 1
      omega⟩
  | 0, .list _, h => by cases h
  | 0, .tuple _, h => by cases h
  | n + 1, .list ds, h => by
    obtain ⟨h1, h2⟩ := He.ba h
    have h1 := of_decide_eq_true h1
    obtain ⟨k1, k2, k3, k4⟩ := goodL_all ds fun d m => goodL n d (List.all_eq_true.mp h2 d m)
    refine ⟨k1, ?_, by rw [PyData.depth]; omega⟩
    show (listText (PyData.shownAll ds)).length ≤ 10 * capL n + 23
    have z := listText_len_le (PyData.shownAll ds)
    have z2 : capL n * ds.length ≤ capL n * 10 := Nat.mul_le_mul_left _ h1
    rw [k3] at z
    omega
  | n + 1, .tuple ds, h => by
    obtain ⟨h1, h2⟩ := He.ba h
    have h1 := of_decide_eq_true h1
    obtain ⟨k1, k2, k3, k4⟩ := goodL_all ds fun d m => goodL n d (List.all_eq_true.mp h2 d m)
    refine ⟨k1, ?_, by rw [PyData.depth]; omega⟩
    show (tupleText (PyData.shownAll ds)).length ≤ 10 * capL n + 23
    have z := tupleText_len_le (PyData.shownAll ds)
    have z2 : capL n * ds.length ≤ capL n * 10 := Nat.mul_le_mul_left _ h1
    rw [k3] at z
    omega
theorem ok_rep {d : PyData} (h : okL 3 d = true) : d.showable = true ∧ d.depth ≤ 30 ∧ d.shown.length ≤ sizeLine := by
  obtain ⟨a, b, c⟩ := goodL 3 d h
  refine ⟨a, by omega, ?_⟩
  rw [sizeLine_eq]
  have : capL 3 = 2002553 := by decide
  omega
theorem ok_sm1 {n : Nat} {d : PyData} (h : okL n d = true) : Sm1 d := fun ds e => by
  subst e
  cases n with
  | zero => cases h
  | succ n =>
    have := of_decide_eq_true (He.ba h).1
    omega
theorem ok_sm2 {n : Nat} {d : PyData} (h : okL n d = true) : Sm2 d := fun ds e => by
  subst e
  cases n with
  | zero => cases h
  | succ n =>
    obtain ⟨h1, h2⟩ := He.ba h
    have := of_decide_eq_true h1
    exact ⟨by omega, fun e m => ok_sm1 (List.all_eq_true.mp h2 e m)⟩
/-- an expression that lays data where C holds -/
def tDat (a : Addr) (C : St → Hp → Prop) (n : Nat) (d : PyData) : TE := fun σ H Q => C σ H ∧ (∃ o, H a = some o) ∧ ∀ v H', Same H H' → Sho n (msk a H') v d → Q v H'
theorem pe_dat {a : Addr} {X : Cx} {e : Expr} {te : TE} {C : St → Hp → Prop} {n : Nat} {d : PyData} (h : PE X e te) (L : ∀ σ H, C σ H → Lays a te n σ H d) : PE X e (tDat a C n d) := ⟨fun pins s σ H Q I k => h.run pins s σ H Q I (L σ H k.1 k.2.1 H Q same_rfl k.2.2)⟩
def tDatN (a : Addr) (C : St → Hp → Prop) (n : Nat) (ds : List PyData) : TE := fun σ H Q => C σ H ∧ (∃ o, H a = some o) ∧ ∀ (H1 : Hp) (p : Addr) (vs : List V), Same H H1 → H1 p = none → Paired (Sho n (msk a H1)) vs ds → Q (.ref p) (upd H1 p (.lst vs))
theorem pe_datN {a : Addr} {X : Cx} {e : Expr} {te : TE} {C : St → Hp → Prop} {n : Nat} {ds : List PyData} (h : PE X e te) (L : ∀ σ H, C σ H → LaysN a te n σ H ds) : PE X e (tDatN a C n ds) := ⟨fun pins s σ H Q I k => h.run pins s σ H Q I (L σ H k.1 k.2.1 H Q same_rfl k.2.2)⟩
theorem wipe_one {σ : St} {i : Nat} {v : Option V} : wipe ((wipe σ [i]).set i v) [i] = wipe σ [i] := by
  simp [wipe]
theorem var_one {σ : St} {i : Nat} {v : V} (h : i < σ.length) : ((wipe σ [i]).set i (some v))[i]? = some (some v) := by
  simp [wipe, h]
/-- no dict in it -/
def okN : Nat → PyData → Bool
  | _, .none => true
  | _, .bool _ => true
  | _, .int i => decide (i.natAbs < 100000)
  | _, .str x => PyData.canLay0 (.str x) && decide ((reprText x).length ≤ 2000)
  | _, .dict _ => false
  | n + 1, .list ds => decide (ds.length ≤ 10) && ds.all (okN n)
  | n + 1, .tuple ds => decide (ds.length ≤ 10) && ds.all (okN n)
  | 0, .list _ => false
  | 0, .tuple _ => false
theorem okN_lay_all {n : Nat} (ih : ∀ d, okN n d = true → PyData.canLay0 d = true) : ∀ ds : List PyData, ds.all (okN n) = true → PyData.canLayAll0 ds = true
  | [], _ => rfl
  | d :: ds, h => by
    obtain ⟨a, b⟩ := Bool.and_eq_true_iff.mp (show (okN n d && ds.all (okN n)) = true from h)
    rw [PyData.canLayAll0, ih d a, okN_lay_all ih ds b]
    rfl
theorem okN_lay : ∀ (n : Nat) (d : PyData), okN n d = true → PyData.canLay0 d = true
  | n, .none, _ => rfl
  | n, .bool _, _ => rfl
  | n, .int _, _ => rfl
  | n, .str x, h => by
    have h : (PyData.canLay0 (.str x) && decide ((reprText x).length ≤ 2000)) = true := by cases n <;> exact h
    exact (Bool.and_eq_true_iff.mp h).1
  | n, .dict _, h => by cases n <;> cases h
  | 0, .list _, h => by cases h
  | 0, .tuple _, h => by cases h
  | n + 1, .list ds, h => by
    obtain ⟨_, b⟩ := Bool.and_eq_true_iff.mp (show (decide (ds.length ≤ 10) && ds.all (okN n)) = true from h)
    rw [PyData.canLay0]
    exact okN_lay_all (okN_lay n) ds b
  | n + 1, .tuple ds, h => by
    obtain ⟨_, b⟩ := Bool.and_eq_true_iff.mp (show (decide (ds.length ≤ 10) && ds.all (okN n)) = true from h)
    rw [PyData.canLay0]
    exact okN_lay_all (okN_lay n) ds b
theorem okN_okL : ∀ (n : Nat) (d : PyData), okN n d = true → okL n d = true
  | n, .none, _ => by cases n <;> rfl
  | n, .bool _, _ => by cases n <;> rfl
  | n, .int _, h => by cases n <;> exact h
  | n, .str x, h => by
    have h : (PyData.canLay0 (.str x) && decide ((reprText x).length ≤ 2000)) = true := by cases n <;> exact h
    cases n <;> exact (Bool.and_eq_true_iff.mp h).2
  | n, .dict _, h => by cases n <;> cases h
  | 0, .list _, h => by cases h
  | 0, .tuple _, h => by cases h
  | n + 1, .list ds, h => by
    obtain ⟨a, b⟩ := Bool.and_eq_true_iff.mp (show (decide (ds.length ≤ 10) && ds.all (okN n)) = true from h)
    exact Bool.and_eq_true_iff.mpr ⟨a, List.all_eq_true.mpr fun x m => okN_okL n x (List.all_eq_true.mp b x m)⟩
  | n + 1, .tuple ds, h => by
    obtain ⟨a, b⟩ := Bool.and_eq_true_iff.mp (show (decide (ds.length ≤ 10) && ds.all (okN n)) = true from h)
    exact Bool.and_eq_true_iff.mpr ⟨a, List.all_eq_true.mpr fun x m => okN_okL n x (List.all_eq_true.mp b x m)⟩
theorem okN_shaped {n : Nat} {d : PyData} (h : okN n d = true) (l : n ≤ 60) : SeqAt.shaped d = true := by
  have g := (goodL n d (okN_okL n d h)).2.2
  unfold SeqAt.shaped
  exact Bool.and_eq_true_iff.mpr ⟨okN_lay n d h, decide_eq_true (by omega)⟩
theorem ints_okN {n : Nat} {xs : List Int} (h : ∀ x ∈ xs, 0 ≤ x ∧ x < 65537) : (xs.map PyData.int).all (okN n) = true := by
  rw [List.all_map]
  refine List.all_eq_true.mpr fun x m => ?_
  have := h x m
  have q : x.natAbs < 100000 := by omega
  cases n <;> exact decide_eq_true q
theorem row_okN {n : Nat} {xs : List Int} (h : ∀ x ∈ xs, 0 ≤ x ∧ x < 65537) (l : xs.length ≤ 10) : okN (n + 1) (rowP xs) = true := by
  show (decide ((xs.map PyData.int).length ≤ 10) && (xs.map PyData.int).all (okN n)) = true
  rw [List.length_map, decide_eq_true l, ints_okN h]
  rfl
theorem okL_succ : ∀ (n : Nat) (d : PyData), okL n d = true → okL (n + 1) d = true
  | n, .none, _ => rfl
  | n, .bool _, _ => rfl
  | n, .int _, h => by cases n <;> exact h
  | n, .str _, h => by cases n <;> exact h
  | n, .dict _, h => by cases n <;> exact h
  | 0, .list _, h => by cases h
  | 0, .tuple _, h => by cases h
  | n + 1, .list ds, h => by
    obtain ⟨a, b⟩ := Bool.and_eq_true_iff.mp (show (decide (ds.length ≤ 10) && ds.all (okL n)) = true from h)
    exact Bool.and_eq_true_iff.mpr ⟨a, List.all_eq_true.mpr fun x m => okL_succ n x (List.all_eq_true.mp b x m)⟩
  | n + 1, .tuple ds, h => by
    obtain ⟨a, b⟩ := Bool.and_eq_true_iff.mp (show (decide (ds.length ≤ 10) && ds.all (okL n)) = true from h)
    exact Bool.and_eq_true_iff.mpr ⟨a, List.all_eq_true.mpr fun x m => okL_succ n x (List.all_eq_true.mp b x m)⟩
theorem Sho.succ {H : Hp} : ∀ {n : Nat} {v : V} {d : PyData}, Sho n H v d → Sho (n + 1) H v d
  | 0, _, _, h => .inl h
  | n + 1, _, _, h => by
    rcases h with h | ⟨a, xs, ds, e1, e2, e3, h⟩ | ⟨a, xs, ds, e1, e2, e3, h⟩ | ⟨a, kvs, ds, e1, e2, e3, h⟩
    · exact .inl h
    · exact .inr (.inl ⟨a, xs, ds, e1, e2, e3, L2.Paired.mapP h fun _ _ z => Sho.succ z⟩)
    · exact .inr (.inr (.inl ⟨a, xs, ds, e1, e2, e3, L2.Paired.mapP h fun _ _ z => Sho.succ z⟩))
    · exact .inr (.inr (.inr ⟨a, kvs, ds, e1, e2, e3, L2.Paired.mapP h fun _ _ z => ⟨z.1, Sho.succ z.2⟩⟩))
/-- the same, with what is known given where it is read -/
def tDatI {ι : Type} (a : Addr) (C : ι → St → Hp → Prop) (n : Nat) (d : ι → PyData) : TE := fun σ H Q => ∃ i, C i σ H ∧ (∃ o, H a = some o) ∧ ∀ v H', Same H H' → Sho n (msk a H') v (d i) → Q v H'
theorem pe_datI {ι : Type} {a : Addr} {X : Cx} {e : Expr} {te : TE} {C : ι → St → Hp → Prop} {n : Nat} {d : ι → PyData} (h : PE X e te) (L : ∀ i σ H, C i σ H → Lays a te n σ H (d i)) : PE X e (tDatI a C n d) := ⟨fun pins s σ H Q I k => by
  obtain ⟨i, c, o, q⟩ := k
  exact h.run pins s σ H Q I (L i σ H c o H Q same_rfl q)⟩
end Vb
end L2

set_option Elab.async false
set_option linter.all false
set_option maxRecDepth 100000
set_option maxHeartbeats 4000000
/-! Vb, k88: is_command, is_script. -/
namespace L2
namespace Vb
open PySem PySem.Spec PyProof.Rows
def LimN (n : Option Int) : Prop := ∀ i, n = some i → i.natAbs.log2 < 1900 ∧ (numS i).length ≤ 400
mutual
/-- commands that are not too great -/
def liC : Cm → Prop
  | .bare w => w.length ≤ 200
  | .ltr _ n => LimN n
  | .sum _ W => ∀ U, W = some U → LimW U
  | .exch n m => LimN n ∧ ∀ x, m = some x → LimM x
  | .tr cs => liS cs ∧ cs.length ≤ 1000
def liS : List Cm → Prop
  | [] => True
  | c :: cs => liC c ∧ liS cs
end
def wdC : Cm → Str
  | .bare w => w
  | .ltr b _ => letW b
  | .sum k _ => sumW k
  | .exch _ _ => "exchange"
  | .tr _ => "try"
def ptC : Cm → List PyData
  | .bare _ => []
  | .ltr _ n => [cntDt n]
  | .sum _ W => [(W.map sumDt).getD .none]
  | .exch n m => [cntDt n, (m.map mkDt).getD .none]
  | .tr cs => [.list (datS cs)]
theorem dat_eq (c : Cm) : datC c = .tuple (.str (wdC c) :: ptC c) := by
  cases c <;> rw [datC] <;> rfl
theorem sho_cm {m : Nat} {H : Hp} {v : V} {c : Cm} (h : Sho m H v (datC c)) : ∃ (k : Nat) (a : Addr) (vs : List V), v = .ref a ∧ H a = some (.tup (.str (wdC c) :: vs)) ∧ Paired (Sho k H) vs (ptC c) := by
  rw [dat_eq] at h
  obtain ⟨k, a, xs, _, rfl, ha, p⟩ := h.ofTuple
  cases p with
  | cons r t =>
    rw [r.ofStr] at ha
    exact ⟨k, a, _, rfl, ha, t⟩
theorem pair_one {k : Nat} {H : Hp} {vs : List V} {d : PyData} (h : Paired (Sho k H) vs [d]) : ∃ v, vs = [v] ∧ Sho k H v d := by
  cases h with
  | cons r t =>
    cases t
    exact ⟨_, rfl, r⟩
theorem pair_two {k : Nat} {H : Hp} {vs : List V} {d e : PyData} (h : Paired (Sho k H) vs [d, e]) : ∃ v u, vs = [v, u] ∧ Sho k H v d ∧ Sho k H u e := by
  cases h with
  | cons r t =>
    obtain ⟨u, rfl, q⟩ := pair_one t
    exact ⟨_, u, rfl, r, q⟩
theorem of_kvs {n : Nat} {H : Hp} : ∀ {W : SumZ} {kvs : List (Key × V)}, Paired (ShoE n H) kvs (W.map fun q => (PyData.str q.1, PyData.int q.2)) → kvs = kvsZ W
  | [], _, h => by
    cases h
    rfl
  | q :: W, _, h => by
    cases h with
    | @cons kv _ _ _ r t =>
      obtain ⟨⟨x, e1, e2⟩, e3⟩ := r
      have e2 : PyData.str q.1 = PyData.str x := e2
      cases e2
      have e3 := e3.ofInt
      rw [of_kvs t]
      obtain ⟨k, v⟩ := kv
      cases e1
      cases e3
      rfl
theorem sumAt_of {n : Nat} {H : Hp} {v : V} {o : Option SumZ} (h : Sho n H v ((o.map sumDt).getD .none)) : SumAt H v o := by
  cases o with
  | none => exact h.ofNone
  | some W =>
    obtain ⟨m, a, kvs, _, rfl, ha, p⟩ := Sho.ofDict (ds := W.map fun q => (PyData.str q.1, PyData.int q.2)) h
    exact ⟨a, rfl, by rw [of_kvs p] at ha; exact ha⟩
theorem of_strs {n : Nat} {H : Hp} : ∀ {ls : List Str} {vs : List V}, Paired (Sho n H) vs (ls.map PyData.str) → vs = ls.map V.str
  | [], _, h => by
    cases h
    rfl
  | l :: ls, _, h => by
    cases h with
    | cons r t =>
      rw [of_strs t, r.ofStr]
      rfl
theorem markAt_of {n : Nat} {H : Hp} {v : V} {o : Option Mk} (h : Sho n H v ((o.map mkDt).getD .none)) : MarkAt H v o := by
  cases o with
  | none => exact h.ofNone
  | some m =>
    obtain ⟨k, a, xs, _, rfl, ha, p⟩ := Sho.ofTuple (ds := [.str m.1, .tuple (m.2.map .str)]) h
    obtain ⟨x, y, rfl, h1, h2⟩ := pair_two p
    obtain ⟨k2, b, ys, _, rfl, hb, p2⟩ := h2.ofTuple
    rw [h1.ofStr] at ha
    rw [of_strs p2] at hb
    exact ⟨a, b, rfl, ha, hb⟩
theorem cntAt_of {n : Nat} {H : Hp} {v : V} {o : Option Int} (h : Sho n H v (cntDt o)) : v = cntV o := by
  cases o with
  | none => exact h.ofNone
  | some i => exact h.ofInt
theorem cnt_co (o : Option Int) : cntD (cntDt o) = coB o := by
  cases o <;> rfl
theorem at_0 {x : V} {xs : List V} : atI (x :: xs) 0 = some x := atI_nat (j := 0) rfl
theorem at_1 {x y : V} {xs : List V} : atI (x :: y :: xs) 1 = some y := atI_nat (j := 1) rfl
theorem at_2 {x y z : V} {xs : List V} : atI (x :: y :: z :: xs) 2 = some z := atI_nat (j := 2) rfl
theorem dat_map : ∀ cs : List Cm, datS cs = cs.map datC
  | [] => by rw [datS]; rfl
  | c :: cs => by rw [datS, dat_map cs]; rfl
theorem dat_len (cs : List Cm) : (datS cs).length = cs.length := by rw [dat_map, List.length_map]
theorem dat_at (cs : List Cm) (i : Nat) : (datS cs)[i]? = (cs[i]?).map datC := by rw [dat_map, List.getElem?_map]
theorem dp_mem : ∀ {cs : List Cm} {c : Cm}, c ∈ cs → dpC c ≤ dpS cs
  | d :: cs, c, m => by
    rw [dpS]
    rcases List.mem_cons.mp m with rfl | m
    · exact Nat.le_max_left _ _
    · exact Nat.le_trans (dp_mem m) (Nat.le_max_right _ _)
theorem li_mem : ∀ {cs : List Cm} {c : Cm}, liS cs → c ∈ cs → liC c
  | d :: cs, c, h, m => by
    rw [liS] at h
    rcases List.mem_cons.mp m with rfl | m
    · exact h.1
    · exact li_mem h.2 m
theorem sc_all : ∀ cs : List Cm, scB cs = cs.all cmB
  | [] => by rw [scB]; rfl
  | c :: cs => by rw [scB, sc_all cs]; rfl
def spCm (n : Nat) : Sp := fun vs H Q _ => ∃ (v : V) (c : Cm) (m : Nat), vs = [v] ∧ Sho m H v (datC c) ∧ dpC c ≤ n ∧ liC c ∧ ∀ H', Same H H' → Q (.bl (cmB c)) H'
def spSc (n : Nat) : Sp := fun vs H Q _ => ∃ (v : V) (cs : List Cm) (m : Nat), vs = [v] ∧ Sho m H v (.list (datS cs)) ∧ dpS cs ≤ n ∧ liS cs ∧ cs.length ≤ 1000 ∧ ∀ H', Same H H' → Q (.bl (scB cs)) H'
/-- of one depth less; never of none -/
def spScP : Nat → Sp
  | 0 => fun _ _ _ _ => False
  | j + 1 => spSc j
theorem ok_never {P : Program} {w : World} {K : PySem.W.Frag} {mg : Str → Option Value} {base : Heap} {CX : CXT} {k : Nat} {f : Addr} {fd : FuncData} {ps : List Str} : FnOk P w K mg base CX k f fd ps (fun _ _ _ _ => False) :=
  ⟨fun _ _ _ _ h => h.elim, fun _ _ _ _ _ _ _ _ _ _ _ _ _ h => h.elim⟩
theorem let_words : ∀ b : Bool, BARE_S.contains (letW b) = false ∧ letW b ≠ "exchange" ∧ LETTERS_S.contains (letW b) = true := by decide +kernel
theorem sum_words' : ∀ k : Fin 4, BARE_S.contains (sumW k) = false ∧ sumW k ≠ "exchange" ∧ LETTERS_S.contains (sumW k) = false ∧ WITH_SUMS_S.contains (sumW k) = true := by decide +kernel
theorem exch_words : BARE_S.contains ("exchange" : Str) = false := by decide +kernel
theorem try_words : BARE_S.contains ("try" : Str) = false ∧ ("try" : Str) ≠ "exchange" ∧ LETTERS_S.contains ("try" : Str) = false ∧ WITH_SUMS_S.contains ("try" : Str) = false := by decide +kernel
abbrev sSc : Stmt := topS 33
abbrev sCm : Stmt := topS 32
abbrev nCm : List Str := ["value", "word", "parts"]
theorem scCm : FnScope nCm ["value"] (defScope sCm) := ⟨rfl, rfl, rfl, by decide +kernel, rfl, by decide +kernel, by decide +kernel⟩
-- cells set()
section
variable {P : Program} {w : World} {K : PySem.W.Frag} {mg : Str → Option Value} {base : Heap}
theorem ok_cm {f fis_mark_form fis_count fis_written_sum fis_script aBARE aLETTERS aWITH_SUMS : Addr} {fd fdis_mark_form fdis_count fdis_written_sum fdis_script : FuncData} (F : Fun K "is_command" "is_command" sCm f fd)
    (Fis_mark_form : Fun K "is_mark_form" "is_mark_form" sMf fis_mark_form fdis_mark_form) (Gis_mark_form : FnOk P w K mg base CX0 3 fis_mark_form fdis_mark_form ["value"] spMf) (gis_mark_form : mg "is_mark_form" = some (.ref fis_mark_form))
    (Fis_count : Fun K "is_count" "is_count" sCount fis_count fdis_count) (Gis_count : FnOk P w K mg base CX0 1 fis_count fdis_count ["value"] spCountD) (gis_count : mg "is_count" = some (.ref fis_count))
    (Fis_written_sum : Fun K "is_written_sum" "is_written_sum" sWr fis_written_sum fdis_written_sum) (Gis_written_sum : FnOk P w K mg base CX0 4 fis_written_sum fdis_written_sum ["value"] spWr) (gis_written_sum : mg "is_written_sum" = some (.ref fis_written_sum))
    (Fis_script : Fun K "is_script" "is_script" sSc fis_script fdis_script) (n : Nat) (Gis_script : FnOk P w K mg base CX0 (2 * n + 4) fis_script fdis_script ["value"] (spScP n)) (gis_script : mg "is_script" = some (.ref fis_script)) (gBARE : mg "BARE" = some (.ref aBARE)) (hBARE : ∀ H : Hp, SqT K H aBARE (BARE_S.map V.str)) (gLETTERS : mg "LETTERS" = some (.ref aLETTERS)) (hLETTERS : ∀ H : Hp, SqT K H aLETTERS (LETTERS_S.map V.str)) (gWITH_SUMS : mg "WITH_SUMS" = some (.ref aWITH_SUMS)) (hWITH_SUMS : ∀ H : Hp, SqT K H aWITH_SUMS (WITH_SUMS_S.map V.str)) (gLen : mg "len" = none) (gStr : mg "str" = none) (gTuple : mg "tuple" = none) (gType : mg "type" = none) :
    FnOk P w K mg base CX0 (2 * n + 4 + 1) f fd ["value"] (spCm n) := by
  have bis_mark_form : Binds K fdis_mark_form ["value"] [] := Fis_mark_form.binds fun _ _ _ _ _ _ us hl => match us, hl with | [_], _ => rfl
  have bis_count : Binds K fdis_count ["value"] [] := Fis_count.binds fun _ _ _ _ _ _ us hl => match us, hl with | [_], _ => rfl
  have bis_written_sum : Binds K fdis_written_sum ["value"] [] := Fis_written_sum.binds fun _ _ _ _ _ _ us hl => match us, hl with | [_], _ => rfl
  have bis_script : Binds K fdis_script ["value"] [] := Fis_script.binds fun _ _ _ _ _ _ us hl => match us, hl with | [_], _ => rfl
  refine F.ok scCm (fun vs H Q E h => ?_) (fun cdv A outer s0 H vs Q E hr h => ?_)
  · obtain ⟨v, c, m, rfl, _⟩ := h
    rfl
  · obtain ⟨v, c, m, rfl, sh, dp, li, want⟩ := h
    refine ⟨_, (pss_cons (ps_if (PW.pt (pw_or (pt_cmpR op_isNotTy (pe_typeD rfl gType (pv 0)) (pe_bltn rfl gTuple boot_tuple rel_tupleTU) (nomark _)) (pw_or (pt_not (pt_truth (pv 0) (by intro _; rfl))) (pw_or1 (pt_cmpR op_isNotTy (pe_typeD rfl gType (pe_ix ix_tup (pv 0) pe_int (fun _ _ => rfl))) (pe_bltn rfl gStr boot_strTU rel_strTU) (nomark _))))))
        (pss_one (ps_ret pe_bl))
        pss_nil)
      (pss_cons (ps_par (i := 1) (j := 2) (by rfl) scCm.nd rfl rfl (by decide) rfl rfl (pa_cons (pe_ix ix_tup (pv 0) pe_int (fun _ _ => rfl)) (pa_cons (pe_slice sl_tup (pv 0) (po_some pe_int) po_none) pa_nil)) (by rfl))
      (pss_cons (ps_if (pt_cmpR op_in_seq (pv 1) (pe_glob (v := .ref _) rfl gBARE rfl (by decide)) (by rfl))
        (pss_one (ps_ret (pe_cmpR (op_eqD hr.units) (pv 2) (pe_tup pa_nil) (nomark _))))
        pss_nil)
      (pss_cons (ps_if (pt_cmpR op_eq (pv 1) pe_str (nomark _))
        (pss_one (ps_ret (pe_and (pe_cmpR op_eq (pe_callB (call_len_seq) (by rfl) gLen PySem.boot_len (pa_cons (pv 2) pa_nil)) pe_int (nomark _)) (pe_and (pe_call Gis_count (hr.mono (by omega)) rfl gis_count Fis_count.kp bis_count .nil pass0 (pa_cons (pe_ix ix_tup (pv 2) pe_int (fun _ _ => rfl)) pa_nil)) (pe_one (pe_call Gis_mark_form (hr.mono (by omega)) rfl gis_mark_form Fis_mark_form.kp bis_mark_form .nil pass0 (pa_cons (pe_ix ix_tup (pv 2) pe_int (fun _ _ => rfl)) pa_nil)))))))
        pss_nil)
      (pss_cons (ps_if (pt_cmpR op_ne (pe_callB (call_len_seq) (by rfl) gLen PySem.boot_len (pa_cons (pv 2) pa_nil)) pe_int (nomark _))
        (pss_one (ps_ret pe_bl))
        pss_nil)
      (pss_cons (ps_if (pt_cmpR op_in_seq (pv 1) (pe_glob (v := .ref _) rfl gLETTERS rfl (by decide)) (by rfl))
        (pss_one (ps_ret (pe_call Gis_count (hr.mono (by omega)) rfl gis_count Fis_count.kp bis_count .nil pass0 (pa_cons (pe_ix ix_tup (pv 2) pe_int (fun _ _ => rfl)) pa_nil))))
        pss_nil)
      (pss_cons (ps_if (pt_cmpR op_in_seq (pv 1) (pe_glob (v := .ref _) rfl gWITH_SUMS rfl (by decide)) (by rfl))
        (pss_one (ps_ret (pe_call Gis_written_sum (hr.mono (by omega)) rfl gis_written_sum Fis_written_sum.kp bis_written_sum .nil pass0 (pa_cons (pe_ix ix_tup (pv 2) pe_int (fun _ _ => rfl)) pa_nil))))
        pss_nil)
      (pss_one (ps_ret (pe_and (pe_cmpR op_eq (pv 1) pe_str (nomark _)) (pe_one (pe_call Gis_script (hr.mono (by omega)) rfl gis_script Fis_script.kp bis_script .nil pass0 (pa_cons (pe_ix ix_tup (pv 2) pe_int (fun _ _ => rfl)) pa_nil))))))))))))), ?_⟩
    obtain ⟨k, a, vs, rfl, ha, ps⟩ := sho_cm sh
    refine ⟨_, rfl, "tuple", by simp only [zTyD, ha], _, _, rfl, rfl, _, rfl, iteF ?_⟩
    refine ⟨_, rfl, true, .inr (.inl ⟨_, SqT.of ha, rfl⟩), iteF ?_⟩
    refine ⟨_, rfl, a, _, 0, V.str (wdC c), rfl, rfl, SqT.of ha, at_0, "str", rfl, _, _, rfl, rfl, _, rfl, iteF ?_⟩
    refine ⟨_, rfl, a, _, 0, V.str (wdC c), rfl, rfl, SqT.of ha, at_0, _, rfl, _, rfl, a, _, rfl, SqT.of ha, ?_, fun q hq => ⟨_, _, rfl, ?_⟩⟩
    · rintro ⟨z, _⟩
      have : HT.sIx (V.str (wdC c) :: vs).length 0 (some ((1 : Nat) : Int)) = 0 := z
      rw [HT.sIx_nat, List.length_cons] at this
      omega
    have ec : cutV (V.str (wdC c) :: vs) (some 1) none = vs := by
      rw [show (some (1 : Int)) = some ((1 : Nat) : Int) from rfl, cut_drop]
      rfl
    rw [ec]
    have s1 := same_new (o := HO.tup vs) hq
    have hp : upd H q (HO.tup vs) q = some (.tup vs) := upd_same
    have ps1 := sh_same ps s1
    generalize upd H q (HO.tup vs) = H1 at s1 hp ps1 ⊢
    refine ⟨_, rfl, aBARE, _, rfl, .inr (hBARE H1), rfl, flat_strs _, _, rfl, ?_⟩
    show if inV (V.str (wdC c)) (BARE_S.map V.str) = true then _ else _
    rw [inV_str]
    cases c with
    | bare w =>
      cases ps1
      have want : ∀ H', Same H H' → Q (.bl (BARE_S.contains w)) H' := fun H' s => by
        have := want H' s
        rw [cmB] at this
        exact this
      show if BARE_S.contains w = true then _ else _
      cases e : BARE_S.contains w with
      | true =>
        rw [e] at want
        refine iteT ⟨_, rfl, Nat.zero_le _, fun r hr2 => ?_⟩
        refine ⟨.tuple [], .tuple [], .tup (SqT.of ((same_new hr2) _ _ hp)) .nil, .tup (SqT.of upd_same) .nil, by decide +kernel, by decide +kernel, ?_⟩
        exact want _ (same_trans s1 (same_new hr2))
      | false =>
        rw [e] at want
        refine iteF ⟨_, rfl, rfl, _, rfl, ?_⟩
        show if decide (V.str w = V.str "exchange") = true then _ else _
        rw [dec_strE]
        by_cases z : w = "exchange"
        · rw [decide_eq_true z]
          exact iteT ⟨_, rfl, q, _, rfl, .inr (SqT.of hp), rfl, _, rfl, iteF (want _ s1)⟩
        · rw [decide_eq_false z]
          exact iteF ⟨_, rfl, q, _, rfl, .inr (SqT.of hp), rfl, _, rfl, iteT (want _ s1)⟩
    | ltr b i =>
      obtain ⟨x, rfl, hx⟩ := pair_one ps1
      obtain ⟨w1, w2, w3⟩ := let_words b
      have want : ∀ H', Same H H' → Q (.bl (coB i)) H' := fun H' s => by
        have := want H' s
        rw [cmB] at this
        exact this
      show if BARE_S.contains (letW b) = true then _ else _
      rw [w1]
      refine iteF ⟨_, rfl, rfl, _, rfl, ?_⟩
      show if decide (V.str (letW b) = V.str "exchange") = true then _ else _
      rw [dec_strE, decide_eq_false w2]
      refine iteF ⟨_, rfl, q, _, rfl, .inr (SqT.of hp), rfl, _, rfl, iteF ?_⟩
      refine ⟨_, rfl, aLETTERS, _, rfl, .inr (hLETTERS H1), rfl, flat_strs _, _, rfl, ?_⟩
      show if inV (V.str (letW b)) (LETTERS_S.map V.str) = true then _ else _
      rw [inV_str, w3]
      refine iteT ⟨_, rfl, q, _, 0, x, rfl, rfl, SqT.of hp, at_0, x, _, _, rfl, hx, ?_⟩
      rw [cnt_co]
      exact want _ s1
    | sum j W =>
      obtain ⟨x, rfl, hx⟩ := pair_one ps1
      obtain ⟨w1, w2, w3, w4⟩ := sum_words' j
      have li : ∀ U, W = some U → LimW U := by
        rw [liC] at li
        exact li
      have want : ∀ H', Same H H' → Q (.bl ((W.map wrB).getD false)) H' := fun H' s => by
        have := want H' s
        rw [cmB] at this
        exact this
      show if BARE_S.contains (sumW j) = true then _ else _
      rw [w1]
      refine iteF ⟨_, rfl, rfl, _, rfl, ?_⟩
      show if decide (V.str (sumW j) = V.str "exchange") = true then _ else _
      rw [dec_strE, decide_eq_false w2]
      refine iteF ⟨_, rfl, q, _, rfl, .inr (SqT.of hp), rfl, _, rfl, iteF ?_⟩
      refine ⟨_, rfl, aLETTERS, _, rfl, .inr (hLETTERS H1), rfl, flat_strs _, _, rfl, ?_⟩
      show if inV (V.str (sumW j)) (LETTERS_S.map V.str) = true then _ else _
      rw [inV_str, w3]
      refine iteF ⟨_, rfl, aWITH_SUMS, _, rfl, .inr (hWITH_SUMS H1), rfl, flat_strs _, _, rfl, ?_⟩
      show if inV (V.str (sumW j)) (WITH_SUMS_S.map V.str) = true then _ else _
      rw [inV_str, w4]
      exact iteT ⟨_, rfl, q, _, 0, x, rfl, rfl, SqT.of hp, at_0, x, W, rfl, sumAt_of hx, li, fun H2 s2 => want H2 (same_trans s1 s2)⟩
    | exch i mk =>
      obtain ⟨x, y, rfl, hx, hy⟩ := pair_two ps1
      have li : LimN i ∧ ∀ x, mk = some x → LimM x := by
        rw [liC] at li
        exact li
      have want : ∀ H', Same H H' → Q (.bl (coB i && (mk.map mkB).getD false)) H' := fun H' s => by
        have := want H' s
        rw [cmB] at this
        exact this
      show if BARE_S.contains ("exchange" : Str) = true then _ else _
      rw [exch_words]
      refine iteF ⟨_, rfl, rfl, _, rfl, ?_⟩
      show if decide (V.str "exchange" = V.str "exchange") = true then _ else _
      rw [decide_eq_true rfl]
      refine iteT ⟨_, rfl, q, _, rfl, .inr (SqT.of hp), rfl, _, rfl, iteT ?_⟩
      refine ⟨_, rfl, q, _, 0, x, rfl, rfl, SqT.of hp, at_0, x, _, _, rfl, hx, _, rfl, ?_⟩
      rw [cnt_co]
      cases e : coB i with
      | false =>
        rw [e] at want
        exact iteF (want _ s1)
      | true =>
        rw [e] at want
        exact iteT ⟨_, rfl, q, _, 1, y, rfl, rfl, SqT.of hp, at_1, y, mk, rfl, markAt_of hy, li.2, fun H2 s2 => want H2 (same_trans s1 s2)⟩
    | tr cs =>
      obtain ⟨x, rfl, hx⟩ := pair_one ps1
      obtain ⟨w1, w2, w3, w4⟩ := try_words
      have li : liS cs ∧ cs.length ≤ 1000 := by
        rw [liC] at li
        exact li
      have want : ∀ H', Same H H' → Q (.bl (scB cs)) H' := fun H' s => by
        have := want H' s
        rw [cmB] at this
        exact this
      have dp : dpS cs + 1 ≤ n := by
        rw [dpC] at dp
        exact dp
      show if BARE_S.contains ("try" : Str) = true then _ else _
      rw [w1]
      refine iteF ⟨_, rfl, rfl, _, rfl, ?_⟩
      show if decide (V.str "try" = V.str "exchange") = true then _ else _
      rw [dec_strE, decide_eq_false w2]
      refine iteF ⟨_, rfl, q, _, rfl, .inr (SqT.of hp), rfl, _, rfl, iteF ?_⟩
      refine ⟨_, rfl, aLETTERS, _, rfl, .inr (hLETTERS H1), rfl, flat_strs _, _, rfl, ?_⟩
      show if inV (V.str "try") (LETTERS_S.map V.str) = true then _ else _
      rw [inV_str, w3]
      refine iteF ⟨_, rfl, aWITH_SUMS, _, rfl, .inr (hWITH_SUMS H1), rfl, flat_strs _, _, rfl, ?_⟩
      show if inV (V.str "try") (WITH_SUMS_S.map V.str) = true then _ else _
      rw [inV_str, w4]
      refine iteF ⟨_, rfl, rfl, _, rfl, iteT ?_⟩
      refine ⟨_, rfl, q, _, 0, x, rfl, rfl, SqT.of hp, at_0, ?_⟩
      cases n with
      | zero => omega
      | succ j => exact ⟨x, cs, _, rfl, hx, by omega, li.1, li.2, fun H2 s2 => want H2 (same_trans s1 s2)⟩
end
abbrev nSc : List Str := ["value", "command"]
theorem scSc : FnScope nSc ["value"] (defScope sSc) := ⟨rfl, rfl, rfl, by decide +kernel, rfl, by decide +kernel, by decide +kernel⟩
-- cells set()
section
variable {P : Program} {w : World} {K : PySem.W.Frag} {mg : Str → Option Value} {base : Heap}
theorem ok_sc {f fis_command : Addr} {fd fdis_command : FuncData} (F : Fun K "is_script" "is_script" sSc f fd)
    (Fis_command : Fun K "is_command" "is_command" sCm fis_command fdis_command) (n : Nat) (Gis_command : FnOk P w K mg base CX0 (2 * n + 4 + 1) fis_command fdis_command ["value"] (spCm n)) (gis_command : mg "is_command" = some (.ref fis_command)) (gAll : mg "all" = none) (gList : mg "list" = none) (gType : mg "type" = none) :
    FnOk P w K mg base CX0 (2 * n + 5 + 1) f fd ["value"] (spSc n) := by
  have bis_command : Binds K fdis_command ["value"] [] := Fis_command.binds fun _ _ _ _ _ _ us hl => match us, hl with | [_], _ => rfl
  refine F.ok scSc (fun vs H Q E h => ?_) (fun cdv A outer s0 H vs Q E hr h => ?_)
  · obtain ⟨v, cs, m, rfl, _⟩ := h
    rfl
  · obtain ⟨v, cs, m, rfl, sh, dp, li, ln, want⟩ := h
    refine ⟨_, (pss_one (ps_ret (pe_and (pe_cmpR op_isTy (pe_typeD rfl gType (pv 0)) (pe_bltn rfl gList boot_list rel_list) (nomark _)) (pe_one (pe_callB (cr_all rfl) (by rfl) gAll boot_all (pa_cons (pe_lc (own := [("command", 1)]) (g := (gName 1)) (tt := tYes) rfl scSc.nd (pi_list (pv 0)) (blkOk_by (N := nSc) (sc := defScope sSc) (by decide +kernel)) (fun _ _ _ _ _ => pg_name (i := 1) scSc.nd rfl (Or.inl rfl)) (fun _ _ _ _ _ => pts_nil) (fun _ _ _ _ _ => (pe_call Gis_command (hr.mono (by omega)) rfl gis_command Fis_command.kp bis_command .nil pass0 (pa_cons (pv 1) pa_nil)))) pa_nil)))))), ?_⟩
    obtain ⟨k, a, vs, _, rfl, ha, ps⟩ := sh.ofList
    refine ⟨_, rfl, "list", by simp only [zTyD, ha], _, _, rfl, rfl, _, rfl, iteT ?_⟩
    refine ⟨_, rfl, a, rfl, ⟨_, SqL.of ha⟩, fun D hD => ?_⟩
    have lv : vs.length = cs.length := by rw [paired_len ps, dat_len]
    refine lc_out (walk_list (xs := vs)) (cs.map fun c => some (V.bl (cmB c))) (by rw [List.length_map, lv]) (by rw [lv]; omega) hD (fun H' s => SqL.of (s _ _ ha)) ?_ ?_
    · rintro i o ho H2 v H3 s2 ⟨rfl, hv⟩ Rn Ry hn hy
      obtain ⟨c, hc, rfl⟩ := some_of_get ho
      obtain ⟨e, he, she⟩ := paired_at ps hv
      rw [dat_at, hc] at he
      obtain rfl := Option.some.inj he
      have mc := List.mem_of_getElem? hc
      exact ⟨rfl, tyes ⟨_, rfl, v, c, k, rfl, she.up s2, Nat.le_trans (dp_mem mc) dp, li_mem li mc, fun H4 s4 => hy _ _ s4 rfl⟩⟩
    · intro H2 s2 hD2
      rw [fm_bl] at hD2
      refine ⟨D, _, rfl, SqL.of hD2, ?_⟩
      rw [all_id, ← sc_all]
      exact want H2 s2
end
end Vb
end L2

set_option Elab.async false
set_option linter.all false
set_option maxRecDepth 100000
set_option maxHeartbeats 4000000
/-! Vb, k88: the lines of a script. -/
namespace L2
namespace Vb
open PySem PySem.Spec PyProof.Rows
mutual
/-- so many lines -/
def nlC : Cm → Nat
  | .bare _ => 1
  | .ltr _ _ => 1
  | .sum _ _ => 1
  | .exch _ _ => 1
  | .tr cs => nlS cs + 2
def nlS : List Cm → Nat
  | [] => 0
  | c :: cs => nlC c + nlS cs
end
mutual
theorem ln_lenC : ∀ (c : Cm) (l : Str), (lnC c l).length = nlC c
  | .tr cs, l => by
    rw [lnC, nlC, List.length_append, List.length_append, ln_lenS cs]
    show 1 + nlS cs + 1 = _
    omega
  | .bare w, l => by rw [lnC, nlC]; rfl
  | .ltr b n, l => by rw [lnC, nlC]; rfl
  | .sum k W, l => by rw [lnC, nlC]; rfl
  | .exch n m, l => by rw [lnC, nlC]; rfl
theorem ln_lenS : ∀ (cs : List Cm) (l : Str), (lnS cs l).length = nlS cs
  | [], l => by rw [lnS, nlS]; rfl
  | c :: cs, l => by rw [lnS, nlS, List.length_append, ln_lenC c, ln_lenS cs]
end
theorem sw_len {W : SumZ} (h : LimW W) : (swD W).length ≤ 100000 := by
  unfold swD
  split
  · decide +kernel
  · exact Nat.le_trans join_len (swA_fit h)
theorem mw_len {m : Mk} (h : LimM m) : (mwD m).length ≤ 60000 := by
  have a := pw_len h.2
  have b := h.1
  unfold mwD
  rw [Str.length_append, Str.length_append, len_in]
  omega
theorem let_len : ∀ b : Bool, (letW b).length ≤ 10 := by decide +kernel
theorem sumw_len : ∀ k : Fin 4, (sumW k).length ≤ 10 := by decide +kernel
theorem exch_len : ("exchange" : Str).length = 8 := by decide +kernel
theorem try_len : ("try" : Str).length = 3 := by decide +kernel
theorem end_len : ("end" : Str).length = 3 := by decide +kernel
theorem lead_len : ("  " : Str).length = 2 := by decide +kernel
def spCl (n : Nat) : Sp := fun vs H Q _ => ∃ (v : V) (c : Cm) (m : Nat) (l : Str), vs = [v, .str l] ∧ Sho m H v (datC c) ∧ dpC c ≤ n ∧ liC c ∧ cmB c = true ∧ nlC c ≤ 100 ∧ l.length + 2 * n ≤ 1000 ∧ ∀ H' a, Same H H' → H a = none → H' a = some (.lst ((lnC c l).map V.str)) → Q (.ref a) H'
def spSl (n : Nat) : Sp := fun vs H Q _ => ∃ (v : V) (cs : List Cm) (m : Nat) (l : Str), vs = [v, .str l] ∧ Sho m H v (.list (datS cs)) ∧ dpS cs ≤ n ∧ liS cs ∧ scB cs = true ∧ nlS cs ≤ 100 ∧ l.length + 2 * n ≤ 1000 ∧ ∀ H' a, Same H H' → H a = none → H' a = some (.lst ((lnS cs l).map V.str)) → Q (.ref a) H'
def spSlP : Nat → Sp
  | 0 => fun _ _ _ _ => False
  | j + 1 => spSl j
theorem let_try : ∀ b : Bool, letW b ≠ "try" := by decide +kernel
theorem sum_try : ∀ k : Fin 4, sumW k ≠ "try" := by decide +kernel
theorem bare_not : ∀ w ∈ BARE_W, w ≠ "try" ∧ LETTERS_S.contains w = false ∧ WITH_SUMS_S.contains w = false ∧ w ≠ "exchange" ∧ w.length ≤ 10 := by decide +kernel
theorem exch_not : ("exchange" : Str) ≠ "try" ∧ LETTERS_S.contains ("exchange" : Str) = false ∧ WITH_SUMS_S.contains ("exchange" : Str) = false := by decide +kernel
theorem one_fit : 1 ≤ sizeLine := by rw [sizeLine_eq]; decide
theorem fit5 {x : Str} (h : x.length ≤ 200000) : x.length ≤ sizeLine := by
  rw [sizeLine_eq]
  omega
theorem app_map (a b : List Str) : (a ++ b).map V.str = a.map V.str ++ b.map V.str := List.map_append
theorem sc_mem {cs : List Cm} (h : scB cs = true) {c : Cm} (m : c ∈ cs) : cmB c = true := by
  rw [sc_all] at h
  exact List.all_eq_true.mp h c m
theorem nl_mem : ∀ {cs : List Cm} {c : Cm}, c ∈ cs → nlC c ≤ nlS cs
  | d :: cs, c, m => by
    rw [nlS]
    rcases List.mem_cons.mp m with rfl | m
    · exact Nat.le_add_right _ _
    · exact Nat.le_trans (nl_mem m) (Nat.le_add_left _ _)
theorem ln_app : ∀ (a b : List Cm) (l : Str), lnS (a ++ b) l = lnS a l ++ lnS b l
  | [], b, l => by rw [lnS]; rfl
  | c :: a, b, l => by
    show lnS (c :: (a ++ b)) l = _
    rw [lnS, lnS, ln_app a b l, List.append_assoc]
theorem nlS_app : ∀ (a b : List Cm), nlS (a ++ b) = nlS a + nlS b
  | [], b => by rw [nlS, Nat.zero_add]; rfl
  | c :: a, b => by
    show nlS (c :: (a ++ b)) = _
    rw [nlS, nlS, nlS_app a b, Nat.add_assoc]
theorem nlS_one (c : Cm) : nlS [c] = nlC c := by rw [nlS, nlS, Nat.add_zero]
theorem lnS_one (c : Cm) (l : Str) : lnS [c] l = lnC c l := by rw [lnS, lnS, List.append_nil]
abbrev sSl : Stmt := topS 36
abbrev sCl : Stmt := topS 35
abbrev nCl : List Str := ["command", "lead", "word"]
theorem scCl : FnScope nCl ["command", "lead"] (defScope sCl) := ⟨rfl, rfl, rfl, by decide +kernel, rfl, by decide +kernel, by decide +kernel⟩
-- cells set()
section
variable {P : Program} {w : World} {K : PySem.W.Frag} {mg : Str → Option Value} {base : Heap}
theorem ok_cl {f fscript_lines fsum_words fmark_words aLETTERS aWITH_SUMS : Addr} {fd fdscript_lines fdsum_words fdmark_words : FuncData} (F : Fun K "command_lines" "command_lines" sCl f fd)
    (Fscript_lines : Fun K "script_lines" "script_lines" sSl fscript_lines fdscript_lines) (n : Nat) (Gscript_lines : FnOk P w K mg base CX0 (2 * n + 2) fscript_lines fdscript_lines ["script", "lead"] (spSlP n)) (gscript_lines : mg "script_lines" = some (.ref fscript_lines))
    (Fsum_words : Fun K "sum_words" "sum_words" sSw fsum_words fdsum_words) (Gsum_words : FnOk P w K mg base CX0 1 fsum_words fdsum_words ["wanted"] spSw) (gsum_words : mg "sum_words" = some (.ref fsum_words))
    (Fmark_words : Fun K "mark_words" "mark_words" sMw fmark_words fdmark_words) (Gmark_words : FnOk P w K mg base CX0 2 fmark_words fdmark_words ["mark"] spMw) (gmark_words : mg "mark_words" = some (.ref fmark_words)) (gLEAD : ∃ t, mg "LEAD" = some (.str "  " t)) (gLETTERS : mg "LETTERS" = some (.ref aLETTERS)) (hLETTERS : ∀ H : Hp, SqT K H aLETTERS (LETTERS_S.map V.str)) (gWITH_SUMS : mg "WITH_SUMS" = some (.ref aWITH_SUMS)) (hWITH_SUMS : ∀ H : Hp, SqT K H aWITH_SUMS (WITH_SUMS_S.map V.str)) :
    FnOk P w K mg base CX0 (2 * n + 2 + 1) f fd ["command", "lead"] (spCl n) := by
  have bsum_words : Binds K fdsum_words ["wanted"] [] := Fsum_words.binds fun _ _ _ _ _ _ us hl => match us, hl with | [_], _ => rfl
  have bmark_words : Binds K fdmark_words ["mark"] [] := Fmark_words.binds fun _ _ _ _ _ _ us hl => match us, hl with | [_], _ => rfl
  have bscript_lines : Binds K fdscript_lines ["script", "lead"] [] := Fscript_lines.binds fun _ _ _ _ _ _ us hl => match us, hl with | [_, _], _ => rfl
  refine F.ok scCl (fun vs H Q E h => ?_) (fun cdv A outer s0 H vs Q E hr h => ?_)
  · obtain ⟨v, c, m, l, rfl, _⟩ := h
    rfl
  · obtain ⟨v, c, m, l, rfl, sh, dp, li, ok, nl, ll, want⟩ := h
    refine ⟨_, (pss_cons (ps_set (i := 2) scCl.nd rfl (Or.inl rfl) (pe_ix ix_tup (pv 0) pe_int (fun _ _ => rfl)))
      (pss_cons (ps_if (pt_cmpR op_eq (pv 2) pe_str (nomark _))
        (pss_one (ps_ret (pe_op op_cat (pe_op op_cat (pe_lst (pa_cons (pe_joined (.cons (pe_fmt (pv 1)) (.cons pe_str .nil))) pa_nil)) (pe_call Gscript_lines (hr.mono (by omega)) rfl gscript_lines Fscript_lines.kp bscript_lines .nil pass0 (pa_cons (pe_ix ix_tup (pv 0) pe_int (fun _ _ => rfl)) (pa_cons (pe_op op_add_str (pv 1) (pe_gstr rfl gLEAD)) pa_nil)))) (pe_lst (pa_cons (pe_joined (.cons (pe_fmt (pv 1)) (.cons pe_str .nil))) pa_nil)))))
        pss_nil)
      (pss_cons (ps_if (pt_cmpR op_in_seq (pv 2) (pe_glob (v := .ref _) rfl gLETTERS rfl (by decide)) (by rfl))
        (pss_one (ps_ret (pe_lst (pa_cons (pe_joined (.cons (pe_fmt (pv 1)) (.cons (pe_fmt (pv 2)) (.cons pe_str (.cons (pe_fmt (pe_ix ix_tup (pv 0) pe_int (fun _ _ => rfl))) .nil))))) pa_nil))))
        pss_nil)
      (pss_cons (ps_if (pt_cmpR op_in_seq (pv 2) (pe_glob (v := .ref _) rfl gWITH_SUMS rfl (by decide)) (by rfl))
        (pss_one (ps_ret (pe_lst (pa_cons (pe_joined (.cons (pe_fmt (pv 1)) (.cons (pe_fmt (pv 2)) (.cons pe_str (.cons (pe_fmt (pe_call Gsum_words (hr.mono (by omega)) rfl gsum_words Fsum_words.kp bsum_words .nil pass0 (pa_cons (pe_ix ix_tup (pv 0) pe_int (fun _ _ => rfl)) pa_nil))) .nil))))) pa_nil))))
        pss_nil)
      (pss_cons (ps_if (pt_cmpR op_eq (pv 2) pe_str (nomark _))
        (pss_one (ps_ret (pe_lst (pa_cons (pe_joined (.cons (pe_fmt (pv 1)) (.cons (pe_fmt (pv 2)) (.cons pe_str (.cons (pe_fmt (pe_ix ix_tup (pv 0) pe_int (fun _ _ => rfl))) (.cons pe_str (.cons (pe_fmt (pe_call Gmark_words (hr.mono (by omega)) rfl gmark_words Fmark_words.kp bmark_words .nil pass0 (pa_cons (pe_ix ix_tup (pv 0) pe_int (fun _ _ => rfl)) pa_nil))) .nil))))))) pa_nil))))
        pss_nil)
      (pss_one (ps_ret (pe_lst (pa_cons (pe_op op_add_str (pv 1) (pv 2)) pa_nil))))))))), ?_⟩
    obtain ⟨k, a, vs, rfl, ha, ps⟩ := sho_cm sh
    have e0 : Str.empty ++ l = l := Str.empty_append _
    have ll : l.length ≤ 1000 := by omega
    have l1 : (" " : Str).length = 1 := len_one
    refine ⟨_, rfl, a, _, 0, V.str (wdC c), rfl, rfl, SqT.of ha, at_0, ?_⟩
    refine ⟨_, rfl, rfl, _, rfl, ?_⟩
    rw [dec_strE]
    cases c with
    | tr cs =>
      obtain ⟨x, rfl, hx⟩ := pair_one ps
      have li : liS cs ∧ cs.length ≤ 1000 := by
        rw [liC] at li
        exact li
      have ok : scB cs = true := by
        rw [cmB] at ok
        exact ok
      have dp : dpS cs + 1 ≤ n := by
        rw [dpC] at dp
        exact dp
      have nl : nlS cs + 2 ≤ 100 := by
        rw [nlC] at nl
        exact nl
      have want : ∀ H' a, Same H H' → H a = none → H' a = some (.lst (([l ++ "try"] ++ lnS cs (l ++ "  ") ++ [l ++ "end"]).map V.str)) → Q (.ref a) H' := fun H' a s n e => by
        have := want H' a s n
        rw [lnC] at this
        exact this e
      show if decide (("try" : Str) = "try") = true then _ else _
      rw [decide_eq_true rfl]
      refine iteT ?_
      refine ⟨_, rfl, .inl ⟨l, rfl, fit5 (by omega), _, rfl, by rw [e0]; exact fit5 (by omega), _, rfl, by rw [e0, Str.length_append, try_len, sizeLine_eq]; omega, one_fit, fun p hp => ?_⟩⟩
      rw [e0]
      have s1 := same_new (o := HO.lst [V.str (l ++ "try")]) hp
      have h1 : upd H p (HO.lst [V.str (l ++ "try")]) p = some (.lst [V.str (l ++ "try")]) := upd_same
      generalize upd H p _ = H1 at s1 h1 ⊢
      refine ⟨_, rfl, a, _, 1, x, rfl, rfl, SqT.of (s1 _ _ ha), at_1, _, rfl, l, _, rfl, rfl, by rw [lead_len, sizeLine_eq]; omega, ?_⟩
      cases n with
      | zero => omega
      | succ j =>
        refine ⟨x, cs, _, l ++ "  ", rfl, hx.up s1, by omega, li.1, ok, by omega, by rw [Str.length_append, lead_len]; omega, fun H2 b s2 nb hb => ?_⟩
        refine ⟨p, b, _, _, rfl, rfl, s2 _ _ h1, hb, by rw [List.length_map, ln_lenS, sizeLine_eq]; show 1 + nlS cs ≤ _; omega, fun r hr => ?_⟩
        have s3 := same_trans s2 (same_new (o := HO.lst ([V.str (l ++ "try")] ++ (lnS cs (l ++ "  ")).map V.str)) hr)
        have h3 : upd H2 r (HO.lst ([V.str (l ++ "try")] ++ (lnS cs (l ++ "  ")).map V.str)) r = some (.lst ([V.str (l ++ "try")] ++ (lnS cs (l ++ "  ")).map V.str)) := upd_same
        generalize upd H2 r _ = H3 at s3 h3 ⊢
        refine ⟨_, rfl, .inl ⟨l, rfl, fit5 (by omega), _, rfl, by rw [e0]; exact fit5 (by omega), _, rfl, by rw [e0, Str.length_append, end_len, sizeLine_eq]; omega, one_fit, fun q hq => ?_⟩⟩
        rw [e0]
        refine ⟨r, q, _, _, rfl, rfl, same_new hq _ _ h3, upd_same, by rw [List.length_append, List.length_map, ln_lenS, sizeLine_eq]; show 1 + nlS cs + 1 ≤ _; omega, fun t ht => ?_⟩
        refine want _ t (same_trans s1 (same_trans s3 (same_trans (same_new hq) (same_new ht)))) ((same_trans s1 (same_trans s3 (same_new hq))).free ht) ?_
        rw [upd_same, app_map, app_map]
        rfl
    | bare w =>
      have mw : w ∈ BARE_W := by
        rw [cmB] at ok
        exact List.contains_iff_mem.mp ok
      obtain ⟨n1, n2, n3, n4, n5⟩ := bare_not w mw
      have want : ∀ H' a, Same H H' → H a = none → H' a = some (.lst ([l ++ w].map V.str)) → Q (.ref a) H' := fun H' a s n e => by
        have := want H' a s n
        rw [lnC] at this
        exact this e
      show if decide (w = "try") = true then _ else _
      rw [decide_eq_false n1]
      refine iteF ⟨_, rfl, aLETTERS, _, rfl, .inr (hLETTERS H), rfl, flat_strs _, _, rfl, ?_⟩
      show if inV (V.str w) (LETTERS_S.map V.str) = true then _ else _
      rw [inV_str, n2]
      refine iteF ⟨_, rfl, aWITH_SUMS, _, rfl, .inr (hWITH_SUMS H), rfl, flat_strs _, _, rfl, ?_⟩
      show if inV (V.str w) (WITH_SUMS_S.map V.str) = true then _ else _
      rw [inV_str, n3]
      refine iteF ⟨_, rfl, rfl, _, rfl, ?_⟩
      show if decide (V.str w = V.str "exchange") = true then _ else _
      rw [dec_strE, decide_eq_false n4]
      exact iteF ⟨_, rfl, _, rfl, l, w, rfl, rfl, by rw [sizeLine_eq]; omega, one_fit, fun p hp => want _ p (same_new hp) hp upd_same⟩
    | ltr b i =>
      obtain ⟨x, rfl, hx⟩ := pair_one ps
      obtain ⟨_, w2, w3⟩ := let_words b
      have w4 := let_len b
      obtain ⟨j, rfl⟩ : ∃ j, i = some j := by
        rw [cmB] at ok
        cases i with
        | none => cases ok
        | some j => exact ⟨j, rfl⟩
      rw [cntAt_of hx] at ha
      have li : LimN (some j) := by
        rw [liC] at li
        exact li
      obtain ⟨j1, j2⟩ := li j rfl
      have want : ∀ H' a, Same H H' → H a = none → H' a = some (.lst ([l ++ letW b ++ " " ++ numS j].map V.str)) → Q (.ref a) H' := fun H' a s n e => by
        have := want H' a s n
        rw [lnC] at this
        exact this e
      show if decide (letW b = "try") = true then _ else _
      rw [decide_eq_false (let_try b)]
      refine iteF ⟨_, rfl, aLETTERS, _, rfl, .inr (hLETTERS H), rfl, flat_strs _, _, rfl, ?_⟩
      show if inV (V.str (letW b)) (LETTERS_S.map V.str) = true then _ else _
      rw [inV_str, w3]
      refine iteT ?_
      refine ⟨_, rfl, .inl ⟨l, rfl, fit5 (by omega), _, rfl, by rw [e0]; exact fit5 (by omega), ?_⟩⟩
      rw [e0]
      refine ⟨_, rfl, .inl ⟨letW b, rfl, fit5 (by omega), _, rfl, by rw [Str.length_append, sizeLine_eq]; omega, ?_⟩⟩
      refine ⟨_, rfl, by rw [Str.length_append, Str.length_append, sizeLine_eq]; omega, ?_⟩
      refine ⟨_, rfl, a, _, 1, _, rfl, rfl, SqT.of ha, at_1, .inr ⟨j, rfl, by omega, _, rfl, ?_, one_fit, fun p hp => want _ p (same_new hp) hp upd_same⟩⟩
      show (l ++ letW b ++ " " ++ numS j).length ≤ _
      rw [Str.length_append, Str.length_append, Str.length_append, sizeLine_eq]
      omega
    | sum i W =>
      obtain ⟨x, rfl, hx⟩ := pair_one ps
      obtain ⟨_, w2, w3, w5⟩ := sum_words' i
      have w4 := sumw_len i
      obtain ⟨U, rfl⟩ : ∃ U, W = some U := by
        rw [cmB] at ok
        cases W with
        | none => cases ok
        | some j => exact ⟨j, rfl⟩
      obtain ⟨b, rfl, hb⟩ := sumAt_of hx
      have li : LimW U := by
        rw [liC] at li
        exact li U rfl
      have j2 := sw_len li
      have want : ∀ H' a, Same H H' → H a = none → H' a = some (.lst ([l ++ sumW i ++ " " ++ swD U].map V.str)) → Q (.ref a) H' := fun H' a s n e => by
        have := want H' a s n
        rw [lnC] at this
        exact this e
      show if decide (sumW i = "try") = true then _ else _
      rw [decide_eq_false (sum_try i)]
      refine iteF ⟨_, rfl, aLETTERS, _, rfl, .inr (hLETTERS H), rfl, flat_strs _, _, rfl, ?_⟩
      show if inV (V.str (sumW i)) (LETTERS_S.map V.str) = true then _ else _
      rw [inV_str, w3]
      refine iteF ⟨_, rfl, aWITH_SUMS, _, rfl, .inr (hWITH_SUMS H), rfl, flat_strs _, _, rfl, ?_⟩
      show if inV (V.str (sumW i)) (WITH_SUMS_S.map V.str) = true then _ else _
      rw [inV_str, w5]
      refine iteT ?_
      refine ⟨_, rfl, .inl ⟨l, rfl, fit5 (by omega), _, rfl, by rw [e0]; exact fit5 (by omega), ?_⟩⟩
      rw [e0]
      refine ⟨_, rfl, .inl ⟨sumW i, rfl, fit5 (by omega), _, rfl, by rw [Str.length_append, sizeLine_eq]; omega, ?_⟩⟩
      refine ⟨_, rfl, by rw [Str.length_append, Str.length_append, sizeLine_eq]; omega, ?_⟩
      refine ⟨_, rfl, a, _, 1, _, rfl, rfl, SqT.of ha, at_1, b, U, rfl, hb, li, fun H1 s1 => .inl ⟨_, rfl, fit5 (by omega), _, rfl, ?_, one_fit, fun p hp => want _ p (same_trans s1 (same_new hp)) (s1.free hp) upd_same⟩⟩
      rw [Str.length_append, Str.length_append, Str.length_append, sizeLine_eq]
      omega
    | exch i mk =>
      obtain ⟨x, y, rfl, hx, hy⟩ := pair_two ps
      obtain ⟨n1, n2, n3⟩ := exch_not
      obtain ⟨⟨j, rfl⟩, ⟨u, rfl⟩⟩ : (∃ j, i = some j) ∧ ∃ u, mk = some u := by
        rw [cmB] at ok
        obtain ⟨o1, o2⟩ := Bool.and_eq_true_iff.mp ok
        refine ⟨?_, ?_⟩
        · cases i with
          | none => cases o1
          | some j => exact ⟨j, rfl⟩
        · cases mk with
          | none => cases o2
          | some j => exact ⟨j, rfl⟩
      rw [cntAt_of hx] at ha
      have li : LimN (some j) ∧ ∀ x, some u = some x → LimM x := by
        rw [liC] at li
        exact li
      obtain ⟨j1, j2⟩ := li.1 j rfl
      have lm := li.2 u rfl
      have j3 := mw_len lm
      have l8 := exch_len
      have want : ∀ H' a, Same H H' → H a = none → H' a = some (.lst ([l ++ "exchange" ++ " " ++ numS j ++ " " ++ mwD u].map V.str)) → Q (.ref a) H' := fun H' a s n e => by
        have := want H' a s n
        rw [lnC] at this
        exact this e
      show if decide (("exchange" : Str) = "try") = true then _ else _
      rw [decide_eq_false n1]
      refine iteF ⟨_, rfl, aLETTERS, _, rfl, .inr (hLETTERS H), rfl, flat_strs _, _, rfl, ?_⟩
      show if inV (V.str "exchange") (LETTERS_S.map V.str) = true then _ else _
      rw [inV_str, n2]
      refine iteF ⟨_, rfl, aWITH_SUMS, _, rfl, .inr (hWITH_SUMS H), rfl, flat_strs _, _, rfl, ?_⟩
      show if inV (V.str "exchange") (WITH_SUMS_S.map V.str) = true then _ else _
      rw [inV_str, n3]
      refine iteF ⟨_, rfl, rfl, _, rfl, ?_⟩
      show if decide (V.str "exchange" = V.str "exchange") = true then _ else _
      rw [decide_eq_true rfl]
      refine iteT ?_
      refine ⟨_, rfl, .inl ⟨l, rfl, fit5 (by omega), _, rfl, by rw [e0]; exact fit5 (by omega), ?_⟩⟩
      rw [e0]
      refine ⟨_, rfl, .inl ⟨"exchange", rfl, fit5 (by omega), _, rfl, by rw [Str.length_append, sizeLine_eq]; omega, ?_⟩⟩
      refine ⟨_, rfl, by rw [Str.length_append, Str.length_append, sizeLine_eq]; omega, ?_⟩
      refine ⟨_, rfl, a, _, 1, _, rfl, rfl, SqT.of ha, at_1, .inr ⟨j, rfl, by omega, _, rfl, ?_, ?_⟩⟩
      · show (l ++ "exchange" ++ " " ++ numS j).length ≤ _
        rw [Str.length_append, Str.length_append, Str.length_append, sizeLine_eq]
        omega
      have ej : (toString j : Str) = numS j := rfl
      rw [ej]
      refine ⟨_, rfl, by rw [Str.length_append, Str.length_append, Str.length_append, Str.length_append, sizeLine_eq]; omega, ?_⟩
      refine ⟨_, rfl, a, _, 2, _, rfl, rfl, SqT.of ha, at_2, y, u, rfl, markAt_of hy, lm, .inl ⟨_, rfl, fit5 (by omega), _, rfl, ?_, one_fit, fun p hp => want _ p (same_new hp) hp upd_same⟩⟩
      rw [Str.length_append, Str.length_append, Str.length_append, Str.length_append, Str.length_append, sizeLine_eq]
      omega
end
abbrev nSl : List Str := ["script", "lead", "lines", "command"]
theorem scSl : FnScope nSl ["script", "lead"] (defScope sSl) := ⟨rfl, rfl, rfl, by decide +kernel, rfl, by decide +kernel, by decide +kernel⟩
-- cells set()
section
variable {P : Program} {w : World} {K : PySem.W.Frag} {mg : Str → Option Value} {base : Heap}
theorem ok_sl {f fcommand_lines : Addr} {fd fdcommand_lines : FuncData} (F : Fun K "script_lines" "script_lines" sSl f fd)
    (Fcommand_lines : Fun K "command_lines" "command_lines" sCl fcommand_lines fdcommand_lines) (n : Nat) (Gcommand_lines : FnOk P w K mg base CX0 (2 * n + 2 + 1) fcommand_lines fdcommand_lines ["command", "lead"] (spCl n)) (gcommand_lines : mg "command_lines" = some (.ref fcommand_lines)) :
    FnOk P w K mg base CX0 (2 * n + 3 + 1) f fd ["script", "lead"] (spSl n) := by
  have bcommand_lines : Binds K fdcommand_lines ["command", "lead"] [] := Fcommand_lines.binds fun _ _ _ _ _ _ us hl => match us, hl with | [_, _], _ => rfl
  refine F.ok scSl (fun vs H Q E h => ?_) (fun cdv A outer s0 H vs Q E hr h => ?_)
  · obtain ⟨v, cs, m, l, rfl, _⟩ := h
    rfl
  · obtain ⟨v, cs, m, l, rfl, sh, dp, li, ok, nl, ll, want⟩ := h
    refine ⟨_, (pss_cons (ps_set (i := 2) scSl.nd rfl (Or.inl rfl) (pe_lst pa_nil))
      (pss_cons (ps_for PassesOwn.never rfl (pi_list (pv 0)) (pg_name (i := 3) scSl.nd rfl (Or.inl rfl))
        (pss_one (ps_expr (pe_bm PySem.F.plainAttrs_list PySem.F.slot_list_extend PySem.F.type_list_extend mt_extend (pv 2) (pa_cons (pe_call Gcommand_lines (hr.mono (by omega)) rfl gcommand_lines Fcommand_lines.kp bcommand_lines .nil pass0 (pa_cons (pv 3) (pa_cons (pv 1) pa_nil))) pa_nil)))))
      (pss_one (ps_ret (pv 2))))), ?_⟩
    obtain ⟨k, a, vs, _, rfl, ha, ps⟩ := sh.ofList
    have lv : vs.length = cs.length := by rw [paired_len ps, dat_len]
    refine ⟨Nat.zero_le _, fun D hD => ?_⟩
    have nDa : a ≠ D := ne_of_none ha hD
    have sD := same_new (o := HO.lst []) hD
    refine ⟨_, rfl, a, rfl, ⟨_, SqL.of (sD _ _ ha)⟩, ?_⟩
    refine for_list (xs := vs) (fun i σ H' => ∃ o3 : Option V, σ = [some (.ref a), some (.str l), some (.ref D), o3] ∧ But D H H' ∧ H' D = some (.lst ((lnS (cs.take i) l).map V.str))) ⟨_, rfl, but_same sD, by rw [upd_same, List.take_zero, lnS]; rfl⟩ ?_ ?_ ?_
    · rintro i σ H' _ ⟨o3, _, b, _⟩
      exact SqL.of (b _ nDa _ ha)
    · rintro i v σ H' hv ⟨o3, rfl, b, hd⟩
      obtain ⟨e, he, she⟩ := paired_at ps hv
      rw [dat_at] at he
      obtain ⟨c, hc, rfl⟩ := Option.map_eq_some_iff.mp he
      have mc := List.mem_of_getElem? hc
      have tk : cs.take (i + 1) = cs.take i ++ [c] := by
        rw [List.take_add_one, hc]
        rfl
      have lc := ln_lenS (cs.take i) l
      have lt : nlS (cs.take i) ≤ nlS cs := by
        have e : nlS cs = nlS (cs.take i) + nlS (cs.drop i) := by
          rw [← nlS_app, List.take_append_drop]
        omega
      refine ⟨_, rfl, .inl ⟨rfl, _, SqL.of hd⟩, _, rfl, _, rfl, v, c, k, l, rfl, she.up (fun x o hx => ?_), Nat.le_trans (dp_mem mc) dp, li_mem li mc, sc_mem ok mc, Nat.le_trans (nl_mem mc) nl, ll, fun H2 z s2 nz hz => ?_⟩
      · by_cases q : x = D
        · rw [q, hD] at hx
          cases hx
        · exact b x q o hx
      · have nzD : D ≠ z := ne_of_none hd nz
        refine ⟨D, z, _, _, rfl, rfl, s2 _ _ hd, hz, ?_, ?_⟩
        · rw [List.length_map, List.length_map, lc, ln_lenC, sizeLine_eq]
          have := nl_mem mc
          omega
        · refine ⟨_, rfl, But.trans b (But.trans (but_same s2) but_upd), ?_⟩
          rw [upd_same, tk, ln_app, app_map, lnS_one]
    · rintro σ H' ⟨o3, rfl, b, hd⟩
      rw [lv, List.take_length] at hd
      refine ⟨_, rfl, want H' D (fun x o hx => ?_) hD hd⟩
      by_cases q : x = D
      · rw [q, hD] at hx
        cases hx
      · exact b x q o hx
end
end Vb
end L2

set_option Elab.async false
set_option linter.all false
set_option maxRecDepth 100000
set_option maxHeartbeats 4000000
/-! Vb, k88: read_script_lines. -/
namespace L2
namespace Vb
open PySem PySem.Spec PyProof.Rows
/-! ### the reading, line by line -/
abbrev RdS : Type := List (List Cm) × List Cm
def rdStep (t : Str) (x : RdS) : Option RdS :=
  if lsD t = "try" then some (x.2 :: x.1, []) else if lsD t = "end" then (match x.1 with
    | [] => none
    | r :: ar => some (ar, r ++ [.tr x.2])) else some (x.1, x.2 ++ [rdC (lsD t)])
def rdRun : List Str → RdS → Option RdS
  | [], x => some x
  | t :: ts, x => (rdStep t x).bind (rdRun ts)
theorem rdRun_app : ∀ (a b : List Str) (x : RdS), rdRun (a ++ b) x = (rdRun a x).bind (rdRun b)
  | [], b, x => rfl
  | t :: a, b, x => by
    show (rdStep t x).bind (rdRun (a ++ b)) = ((rdStep t x).bind (rdRun a)).bind (rdRun b)
    cases rdStep t x with
    | none => rfl
    | some y => exact rdRun_app a b y
theorem rdL_run : ∀ (ts : List Str) (ar : List (List Cm)) (s : List Cm), rdL ts ar s = match rdRun ts (ar, s) with
    | none => none
    | some (ar, s) => if ar.isEmpty = true then some s else none
  | [], [], s => rfl
  | [], _ :: _, s => rfl
  | t :: ts, ar, s => by
    rw [rdL_cons]
    show _ = match (rdStep t (ar, s)).bind (rdRun ts) with
      | none => none
      | some (ar, s) => if ar.isEmpty = true then some s else none
    unfold rdStep
    split
    · exact rdL_run ts _ _
    · split
      · cases ar with
        | nil => rfl
        | cons r ar => exact rdL_run ts _ _
      · exact rdL_run ts _ _
/-! ### what is read is not too great -/
theorem nlC_pos (c : Cm) : 1 ≤ nlC c := by
  cases c with
  | tr cs =>
    rw [nlC]
    omega
  | bare w => rw [nlC]; exact Nat.le_refl 1
  | ltr b n => rw [nlC]; exact Nat.le_refl 1
  | sum k W => rw [nlC]; exact Nat.le_refl 1
  | exch n m => rw [nlC]; exact Nat.le_refl 1
theorem len_nl : ∀ cs : List Cm, cs.length ≤ nlS cs
  | [] => Nat.zero_le _
  | c :: cs => by
    have := nlC_pos c
    have := len_nl cs
    rw [nlS, List.length_cons]
    omega
mutual
theorem dp_nlC : ∀ c : Cm, dpC c ≤ nlC c
  | .tr cs => by
    have := dp_nlS cs
    rw [dpC, nlC]
    omega
  | .bare w => by rw [dpC]; exact Nat.zero_le _; intro cs h; cases h
  | .ltr b n => by rw [dpC]; exact Nat.zero_le _; intro cs h; cases h
  | .sum k W => by rw [dpC]; exact Nat.zero_le _; intro cs h; cases h
  | .exch n m => by rw [dpC]; exact Nat.zero_le _; intro cs h; cases h
theorem dp_nlS : ∀ cs : List Cm, dpS cs ≤ nlS cs
  | [] => by rw [dpS]; exact Nat.zero_le _
  | c :: cs => by
    have := dp_nlC c
    have := dp_nlS cs
    rw [dpS, nlS]
    exact Nat.max_le.mpr ⟨by omega, by omega⟩
end
theorem liS_app : ∀ {a b : List Cm}, liS a → liS b → liS (a ++ b)
  | [], b, _, h => h
  | c :: a, b, h, k => by
    rw [liS] at h
    show liS (c :: (a ++ b))
    rw [liS]
    exact ⟨h.1, liS_app h.2 k⟩
theorem liS_one {c : Cm} (h : liC c) : liS [c] := by
  rw [liS, liS]
  exact ⟨h, trivial⟩
theorem lim_rc {x : Str} (l : Lt x) : LimN (rcD x) := fun i e => (rc_num l e).2
theorem li_rd {x : Str} (l : Lt x) : liC (rdC x) := by
  obtain ⟨l1, l2⟩ := part_len x " "
  obtain ⟨l3, l4⟩ := part_len (Txt.partition x " ").2.2 " "
  have t1 : Lt (Txt.partition x " ").1 := lt_of l l1
  have t2 : Lt (Txt.partition x " ").2.2 := lt_of l l2
  rw [rdC_eq]
  repeat' split
  · rw [liC]
    exact lim_rc t2
  · rw [liC]
    exact lim_rc t2
  · rw [liC]
    exact fun U e => rw_lim t2 e
  · rw [liC]
    exact fun U e => rw_lim t2 e
  · rw [liC]
    exact fun U e => rw_lim t2 e
  · rw [liC]
    exact fun U e => rw_lim t2 e
  · rw [liC]
    exact ⟨lim_rc (lt_of t2 l3), fun m e => rm_lim (lt_of t2 l4) e⟩
  · rw [liC]
    have t1 : (Txt.partition x " ").1.length ≤ 185 := t1
    omega
theorem nl_rd (x : Str) : nlC (rdC x) = 1 := by
  rw [rdC_eq]
  repeat' split
  all_goals rw [nlC]
def sumNl : List (List Cm) → Nat
  | [] => 0
  | r :: ar => nlS r + 1 + sumNl ar
def RdOk (x : RdS) (i : Nat) : Prop := liS x.2 ∧ (∀ r ∈ x.1, liS r) ∧ nlS x.2 + sumNl x.1 ≤ i ∧ i ≤ 1000
theorem ls_len_le (t : Str) : (lsD t).length ≤ t.length := by
  unfold lsD Txt.lstripChars Txt.stripBy
  split
  · exact Nat.le_refl _
  · unfold stripped
    exact PyProof.Rows.sub_short t _ _
theorem step_ok {t : Str} {x y : RdS} {i : Nat} (lt : Lt t) (h : RdOk x i) (hi : i < 1000) (e : rdStep t x = some y) : RdOk y (i + 1) := by
  obtain ⟨h1, h2, h3, h4⟩ := h
  unfold rdStep at e
  split at e
  · cases e
    refine ⟨by rw [liS]; trivial, fun r m => ?_, ?_, by omega⟩
    · rcases List.mem_cons.mp m with rfl | m
      · exact h1
      · exact h2 r m
    · show nlS [] + sumNl (x.2 :: x.1) ≤ i + 1
      rw [nlS, sumNl]
      omega
  · split at e
    · obtain ⟨ar, s⟩ := x
      cases ar with
      | nil => cases e
      | cons r ar =>
        cases e
        have h3 : nlS s + (nlS r + 1 + sumNl ar) ≤ i := h3
        have := len_nl s
        refine ⟨liS_app (h2 r List.mem_cons_self) (liS_one (by rw [liC]; exact ⟨h1, by show s.length ≤ 1000; omega⟩)), fun q m => h2 q (List.mem_cons_of_mem _ m), ?_, by omega⟩
        show nlS (r ++ [.tr s]) + sumNl ar ≤ i + 1
        rw [nlS_app, nlS_one, nlC]
        omega
    · cases e
      refine ⟨liS_app h1 (liS_one (li_rd (lt_of lt (ls_len_le t)))), h2, ?_, by omega⟩
      show nlS (x.2 ++ [rdC (lsD t)]) + sumNl x.1 ≤ i + 1
      rw [nlS_app, nlS_one, nl_rd]
      omega
theorem run_ok : ∀ {ts : List Str} {x y : RdS} {i : Nat}, (∀ t ∈ ts, Lt t) → RdOk x i → i + ts.length ≤ 1000 → rdRun ts x = some y → RdOk y (i + ts.length)
  | [], x, y, i, _, h, _, e => by
    cases e
    exact h
  | t :: ts, x, y, i, lt, h, hi, e => by
    rw [List.length_cons] at hi
    have e : (rdStep t x).bind (rdRun ts) = some y := e
    cases q : rdStep t x with
    | none =>
      rw [q] at e
      cases e
    | some z =>
      rw [q] at e
      have := run_ok (fun s m => lt s (List.mem_cons_of_mem _ m)) (step_ok (lt t List.mem_cons_self) h (by omega) q) (by omega) e
      rw [List.length_cons, show i + (ts.length + 1) = i + 1 + ts.length by omega]
      exact this
/-- all that is known of a script read -/
structure ScOk (s : List Cm) (n : Nat) : Prop where
  li : liS s
  nl : nlS s ≤ n
  dp : dpS s ≤ n
  ln : s.length ≤ n
theorem rd_scOk {ts : List Str} {s : List Cm} (lt : ∀ t ∈ ts, Lt t) (hl : ts.length ≤ 1000) (e : rdL ts [] [] = some s) : ScOk s ts.length := by
  rw [rdL_run] at e
  cases q : rdRun ts ([], []) with
  | none =>
    rw [q] at e
    cases e
  | some y =>
    rw [q] at e
    obtain ⟨ar, u⟩ := y
    have e : (if ar.isEmpty = true then some u else none) = some s := e
    split at e
    · cases e
      have z := run_ok lt (x := ([], [])) (i := 0) ⟨by rw [liS]; trivial, (fun r m => nomatch m), by show nlS [] + sumNl [] ≤ 0; rw [nlS, sumNl]; exact Nat.le_refl 0, by omega⟩ (by omega) q
      rw [Nat.zero_add] at z
      obtain ⟨z1, _, z3, _⟩ := z
      have z1 : liS s := z1
      have z3 : nlS s + sumNl ar ≤ ts.length := z3
      have := len_nl s
      have := dp_nlS s
      exact ⟨z1, by omega, by omega, by omega⟩
    · cases e
/-! ### lists that stand open -/
/-- what is new and not open -/
def pt (H0 : Hp) (os : List Addr) (H : Hp) : Hp := fun b => if (H0 b).isSome = true ∨ b ∈ os then none else H b
theorem pt_at {H0 H : Hp} {os : List Addr} {a : Addr} (h : H0 a = none) (n : a ∉ os) : pt H0 os H a = H a := if_neg (by
  rw [h]
  rintro (z | z)
  · cases z
  · exact n z)
theorem pt_le {H0 H : Hp} {os : List Addr} {b : Addr} {o : HO} (e : pt H0 os H b = some o) : H0 b = none ∧ b ∉ os ∧ H b = some o := by
  unfold pt at e
  split at e
  · cases e
  · next q =>
    refine ⟨?_, fun m => q (.inr m), e⟩
    cases w : H0 b with
    | none => rfl
    | some u => exact (q (.inl (by rw [w]; rfl))).elim
theorem pt_of {H0 H H' : Hp} {os os' : List Addr} (h : ∀ b o, H0 b = none → b ∉ os → H b = some o → b ∉ os' ∧ H' b = some o) : Same (pt H0 os H) (pt H0 os' H') := fun b o e => by
  obtain ⟨e1, e2, e3⟩ := pt_le e
  obtain ⟨n, e4⟩ := h b o e1 e2 e3
  rw [pt_at e1 n]
  exact e4
theorem sho_le {H : Hp} {v : V} {d : PyData} : ∀ {n m : Nat}, n ≤ m → Sho n H v d → Sho m H v d
  | n, 0, h, s => by
    obtain rfl : n = 0 := by omega
    exact s
  | n, m + 1, h, s => by
    by_cases q : n = m + 1
    · subst q
      exact s
    · exact (sho_le (by omega) s).succ
theorem pr_le {H H' : Hp} {n m : Nat} {vs : List V} {ds : List PyData} (h : n ≤ m) (s : Same H H') (p : Paired (Sho n H) vs ds) : Paired (Sho m H') vs ds := L2.Paired.mapP p fun _ _ z => sho_le h (z.up s)
def Op (H0 H : Hp) (os : List Addr) (n : Nat) (p : Addr) (s : List Cm) : Prop := ∃ vs, H p = some (.lst vs) ∧ Paired (Sho n (pt H0 os H)) vs (datS s) ∧ vs.length ≤ 1000
structure RdInv (H0 H : Hp) (q p : Addr) (ps : List Addr) (x : RdS) (n : Nat) : Prop where
  same : Same H0 H
  nd : (q :: p :: ps).Nodup
  free : ∀ a ∈ q :: p :: ps, H0 a = none
  hq : H q = some (.lst (ps.reverse.map V.ref))
  lq : ps.length ≤ 1000
  hp : Op H0 H (q :: p :: ps) n p x.2
  har : Paired (Op H0 H (q :: p :: ps) n) ps x.1
theorem op_mem {H0 H : Hp} {os : List Addr} {n : Nat} : ∀ {ps : List Addr} {ar : List (List Cm)}, Paired (Op H0 H os n) ps ar → ∀ a ∈ ps, ∃ o, H a = some o
  | _, _, .cons h t, a, m => by
    rcases List.mem_cons.mp m with rfl | m
    · obtain ⟨vs, e, _⟩ := h
      exact ⟨_, e⟩
    · exact op_mem t a m
theorem op_mono {H0 H H' : Hp} {os os' : List Addr} {n m : Nat} {p : Addr} {s : List Cm} (h : Op H0 H os n p s) (nm : n ≤ m) (hp : ∀ o, H p = some o → H' p = some o) (sm : Same (pt H0 os H) (pt H0 os' H')) : Op H0 H' os' m p s := by
  obtain ⟨vs, e, q, l⟩ := h
  exact ⟨vs, hp _ e, pr_le nm sm q, l⟩
theorem ops_mono {H0 H H' : Hp} {os os' : List Addr} {n m : Nat} (nm : n ≤ m) (sm : Same (pt H0 os H) (pt H0 os' H')) : ∀ {ps : List Addr} {ar : List (List Cm)}, Paired (Op H0 H os n) ps ar → (∀ a ∈ ps, ∀ o, H a = some o → H' a = some o) → Paired (Op H0 H' os' m) ps ar
  | _, _, .nil, _ => .nil
  | _, _, .cons h t, k => .cons (op_mono h nm (k _ List.mem_cons_self) sm) (ops_mono nm sm t fun a m => k a (List.mem_cons_of_mem _ m))
section
variable {H0 H : Hp} {q p : Addr} {ps : List Addr} {ar : List (List Cm)} {s : List Cm} {n : Nat}
theorem RdInv.there (I : RdInv H0 H q p ps (ar, s) n) : ∀ a ∈ q :: p :: ps, ∃ o, H a = some o := fun a m => by
  rcases List.mem_cons.mp m with rfl | m
  · exact ⟨_, I.hq⟩
  rcases List.mem_cons.mp m with rfl | m
  · obtain ⟨vs, e, _⟩ := I.hp
    exact ⟨_, e⟩
  · exact op_mem I.har a m
/-- a try: the list is put on the pile, a new one is begun -/
theorem RdInv.push (I : RdInv H0 H q p ps (ar, s) n) (l : ps.length < 1000) {b : Addr} (hb : upd H q (.lst (ps.reverse.map V.ref ++ [V.ref p])) b = none) :
    RdInv H0 (upd (upd H q (.lst (ps.reverse.map V.ref ++ [V.ref p]))) b (.lst [])) q b (p :: ps) (s :: ar, []) n := by
  have nqb : q ≠ b := fun e => by
    rw [← e, upd_same] at hb
    cases hb
  have hb0 : H b = none := by
    rw [upd_ne (Ne.symm nqb)] at hb
    exact hb
  have nin : b ∉ q :: p :: ps := fun m => by
    obtain ⟨o, e⟩ := I.there b m
    rw [hb0] at e
    cases e
  have keep : ∀ a, a ≠ q → ∀ o, H a = some o → upd (upd H q (.lst (ps.reverse.map V.ref ++ [V.ref p]))) b (.lst []) a = some o := fun a na o e => by
    have n2 : a ≠ b := ne_of_none e hb0
    rw [upd_ne n2, upd_ne na]
    exact e
  have sm : Same (pt H0 (q :: p :: ps) H) (pt H0 (q :: b :: p :: ps) (upd (upd H q (.lst (ps.reverse.map V.ref ++ [V.ref p]))) b (.lst []))) := pt_of fun a o e1 e2 e3 => by
    have n2 : a ≠ b := ne_of_none e3 hb0
    refine ⟨fun m => ?_, keep a (fun z => e2 (by rw [z]; exact List.mem_cons_self)) o e3⟩
    rcases List.mem_cons.mp m with z | m
    · exact e2 (by rw [z]; exact List.mem_cons_self)
    rcases List.mem_cons.mp m with z | m
    · exact n2 z
    · exact e2 (List.mem_cons_of_mem _ m)
  have hq0 := I.free q List.mem_cons_self
  have nd := I.nd
  have nd2 := List.nodup_cons.mp nd
  refine ⟨fun a o e => keep a (fun z => by rw [z, hq0] at e; cases e) o (I.same a o e), ?_, fun a m => ?_, ?_, by show ps.length + 1 ≤ 1000; omega, ?_, ?_⟩
  · refine List.nodup_cons.mpr ⟨fun m => ?_, List.nodup_cons.mpr ⟨fun m => nin (List.mem_cons_of_mem _ m), nd2.2⟩⟩
    rcases List.mem_cons.mp m with z | m
    · exact nqb z
    · exact nd2.1 m
  · rcases List.mem_cons.mp m with rfl | m
    · exact hq0
    rcases List.mem_cons.mp m with rfl | m
    · exact I.same.free hb0
    · exact I.free a (List.mem_cons_of_mem _ m)
  · rw [upd_ne nqb, upd_same, List.reverse_cons, List.map_append]
    rfl
  · exact ⟨[], upd_same, by rw [datS]; exact .nil, Nat.zero_le _⟩
  · refine .cons (op_mono I.hp (Nat.le_refl _) (keep p fun z => ?_) sm) (ops_mono (Nat.le_refl _) sm I.har fun a m => keep a fun z => ?_)
    · exact nd2.1 (by rw [← z]; exact List.mem_cons_self)
    · exact nd2.1 (by rw [← z]; exact List.mem_cons_of_mem _ m)
/-- a command more -/
theorem RdInv.more (I : RdInv H0 H q p ps (ar, s) n) {H1 : Hp} {v : V} {c : Cm} (s1 : Same H H1) (h : Sho n (nw H H1) v (datC c)) {vs : List V} (hv : H p = some (.lst vs)) (l : vs.length < 1000) :
    RdInv H0 (upd H1 p (.lst (vs ++ [v]))) q p ps (ar, s ++ [c]) n := by
  have nd := I.nd
  have nd2 := List.nodup_cons.mp nd
  have nd3 := List.nodup_cons.mp nd2.2
  have hp0 := I.free p (List.mem_cons_of_mem _ List.mem_cons_self)
  have keep : ∀ a, a ≠ p → ∀ o, H a = some o → upd H1 p (.lst (vs ++ [v])) a = some o := fun a na o e => by
    rw [upd_ne na]
    exact s1 _ _ e
  have sm : Same (pt H0 (q :: p :: ps) H) (pt H0 (q :: p :: ps) (upd H1 p (.lst (vs ++ [v])))) := pt_of fun a o e1 e2 e3 => ⟨e2, keep a (fun z => e2 (by rw [z]; exact List.mem_cons_of_mem _ List.mem_cons_self)) o e3⟩
  have sn : Same (nw H H1) (pt H0 (q :: p :: ps) (upd H1 p (.lst (vs ++ [v])))) := fun a o e => by
    have hn : H a = none := by
      unfold nw at e
      split at e
      · cases e
      · next z =>
        cases w : H a with
        | none => rfl
        | some u => exact (z (by rw [w]; rfl)).elim
    have e1 : H1 a = some o := nw_le _ _ e
    have nin : a ∉ q :: p :: ps := fun m => by
      obtain ⟨u, eu⟩ := I.there a m
      rw [hn] at eu
      cases eu
    rw [pt_at (I.same.free hn) nin, upd_ne fun z => nin (by rw [z]; exact List.mem_cons_of_mem _ List.mem_cons_self)]
    exact e1
  obtain ⟨ws, hw, pw, _⟩ := I.hp
  obtain rfl : ws = vs := by
    have := hw.symm.trans hv
    cases this
    rfl
  refine ⟨fun a o e => keep a (fun z => by rw [z, hp0] at e; cases e) o (I.same a o e), nd, I.free, keep q (fun z => nd2.1 (by rw [z]; exact List.mem_cons_self)) _ I.hq, I.lq, ⟨_, upd_same, ?_, by rw [List.length_append]; exact l⟩, ops_mono (Nat.le_refl _) sm I.har fun a m => keep a fun z => nd3.1 (by rw [← z]; exact m)⟩
  show Paired _ _ (datS (s ++ [c]))
  rw [dat_map, List.map_append, ← dat_map]
  exact paired_app (pr_le (Nat.le_refl _) sm pw) (.cons (h.up sn) .nil)
end
theorem RdInv.le {H0 H : Hp} {q p : Addr} {ps : List Addr} {x : RdS} {n m : Nat} (I : RdInv H0 H q p ps x n) (h : n ≤ m) : RdInv H0 H q p ps x m :=
  ⟨I.same, I.nd, I.free, I.hq, I.lq, op_mono I.hp h (fun _ e => e) same_rfl, ops_mono h same_rfl I.har fun _ _ _ e => e⟩
theorem pop_rev {p : Addr} {ps : List Addr} : ((p :: ps).reverse.map V.ref)[((p :: ps).reverse.map V.ref).length - 1]? = some (V.ref p) ∧ ((p :: ps).reverse.map V.ref).dropLast = ps.reverse.map V.ref := by
  have e : (p :: ps).reverse.map V.ref = ps.reverse.map V.ref ++ [V.ref p] := by
    rw [List.reverse_cons, List.map_append]
    rfl
  rw [e]
  refine ⟨?_, List.dropLast_concat⟩
  rw [List.length_append, List.getElem?_append_right (by show (ps.reverse.map V.ref).length ≤ (ps.reverse.map V.ref).length + 1 - 1; omega)]
  show [V.ref p][(ps.reverse.map V.ref).length + 1 - 1 - (ps.reverse.map V.ref).length]? = _
  rw [show (ps.reverse.map V.ref).length + 1 - 1 - (ps.reverse.map V.ref).length = 0 by omega]
  rfl
/-- an end: what was read within is put behind the list that stands around -/
theorem RdInv.pop {H0 H : Hp} {q p p1 : Addr} {ps : List Addr} {r : List Cm} {ar : List (List Cm)} {s : List Cm} {n : Nat} (I : RdInv H0 H q p (p1 :: ps) (r :: ar, s) n) {H1 : Hp} (e1 : H1 = upd H q (.lst (ps.reverse.map V.ref))) {t : Addr} (ht : H1 t = none) {ws : List V} (hw : H p1 = some (.lst ws)) (l : ws.length < 1000) :
    RdInv H0 (upd (upd H1 t (.tup [.str "try", .ref p])) p1 (.lst (ws ++ [.ref t]))) q p1 ps (ar, r ++ [.tr s]) (n + 2) := by
  have nd := I.nd
  have nd2 := List.nodup_cons.mp nd
  have nd3 := List.nodup_cons.mp nd2.2
  have nd4 := List.nodup_cons.mp nd3.2
  have hq0 := I.free q List.mem_cons_self
  have m1 : p1 ∈ q :: p :: p1 :: ps := List.mem_cons_of_mem _ (List.mem_cons_of_mem _ List.mem_cons_self)
  have hp10 := I.free p1 m1
  have nqp1 : q ≠ p1 := fun z => nd2.1 (by rw [z]; exact List.mem_cons_of_mem _ List.mem_cons_self)
  have npp1 : p ≠ p1 := fun z => nd3.1 (by rw [z]; exact List.mem_cons_self)
  have npq : p ≠ q := fun z => nd2.1 (by rw [← z]; exact List.mem_cons_self)
  have ntq : t ≠ q := fun z => by
    rw [e1, z, upd_same] at ht
    cases ht
  have ht0 : H t = none := by
    rw [e1, upd_ne ntq] at ht
    exact ht
  have nin : t ∉ q :: p :: p1 :: ps := fun m => by
    obtain ⟨o, e⟩ := I.there t m
    rw [ht0] at e
    cases e
  have ntp1 : t ≠ p1 := fun z => nin (by rw [z]; exact m1)
  have keep : ∀ a, a ≠ q → a ≠ p1 → ∀ o, H a = some o → upd (upd H1 t (.tup [.str "try", .ref p])) p1 (.lst (ws ++ [.ref t])) a = some o := fun a n1 n2 o e => by
    have n3 : a ≠ t := ne_of_none e ht0
    rw [upd_ne n2, upd_ne n3, e1, upd_ne n1]
    exact e
  have hT : upd (upd H1 t (.tup [.str "try", .ref p])) p1 (.lst (ws ++ [.ref t])) t = some (.tup [.str "try", .ref p]) := by
    rw [upd_ne ntp1, upd_same]
  have sub : ∀ a, a ∈ q :: p1 :: ps → a ∈ q :: p :: p1 :: ps := fun a m => by
    rcases List.mem_cons.mp m with rfl | m
    · exact List.mem_cons_self
    · exact List.mem_cons_of_mem _ (List.mem_cons_of_mem _ m)
  have sm : Same (pt H0 (q :: p :: p1 :: ps) H) (pt H0 (q :: p1 :: ps) (upd (upd H1 t (.tup [.str "try", .ref p])) p1 (.lst (ws ++ [.ref t])))) := pt_of fun a o _ e2 e3 => ⟨fun m => e2 (sub a m), keep a (fun z => e2 (by rw [z]; exact List.mem_cons_self)) (fun z => e2 (by rw [z]; exact m1)) o e3⟩
  obtain ⟨vs, hv, pv, lv⟩ := I.hp
  have har := I.har
  cases har with
  | cons hr har =>
    obtain ⟨us, hu, pu, _⟩ := hr
    obtain rfl : us = ws := by
      have := hu.symm.trans hw
      cases this
      rfl
    have pin : p ∉ q :: p1 :: ps := fun m => by
      rcases List.mem_cons.mp m with z | m
      · exact npq z
      · exact nd3.1 m
    have tin : t ∉ q :: p1 :: ps := fun m => nin (sub t m)
    have inner : Sho (n + 1) (pt H0 (q :: p1 :: ps) (upd (upd H1 t (.tup [.str "try", .ref p])) p1 (.lst (us ++ [.ref t])))) (.ref p) (.list (datS s)) :=
      Sho.lst (by rw [pt_at (I.free p (List.mem_cons_of_mem _ List.mem_cons_self)) pin]; exact keep p npq npp1 _ hv) (pr_le (Nat.le_refl _) sm pv)
    have whole : Sho (n + 2) (pt H0 (q :: p1 :: ps) (upd (upd H1 t (.tup [.str "try", .ref p])) p1 (.lst (us ++ [.ref t])))) (.ref t) (datC (.tr s)) := by
      rw [datC]
      exact Sho.tup (by rw [pt_at (I.same.free ht0) tin]; exact hT) (.cons (Sho.str _) (.cons inner .nil))
    refine ⟨fun a o e => keep a (fun z => by rw [z, hq0] at e; cases e) (fun z => by rw [z, hp10] at e; cases e) o (I.same a o e), ?_, fun a m => I.free a (sub a m), ?_, by have := I.lq; rw [List.length_cons] at this; omega, ⟨_, upd_same, ?_, by rw [List.length_append]; exact l⟩, ops_mono (by omega) sm har fun a m => keep a (fun z => ?_) (fun z => nd4.1 (by rw [← z]; exact m))⟩
    · exact List.nodup_cons.mpr ⟨fun m => nd2.1 (List.mem_cons_of_mem _ m), nd3.2⟩
    · rw [upd_ne nqp1, upd_ne (Ne.symm ntq), e1, upd_same]
    · show Paired _ _ (datS (r ++ [.tr s]))
      rw [dat_map, List.map_append, ← dat_map]
      exact paired_app (pr_le (by omega) sm pu) (.cons whole .nil)
    · exact nd2.1 (by rw [← z]; exact List.mem_cons_of_mem _ (List.mem_cons_of_mem _ m))
theorem sum_len : ∀ {ar : List (List Cm)}, ar.length ≤ sumNl ar
  | [] => Nat.zero_le _
  | r :: ar => by
    have := sum_len (ar := ar)
    rw [sumNl, List.length_cons]
    omega
theorem op_len {H0 H : Hp} {os : List Addr} {n : Nat} {p : Addr} {s : List Cm} {vs : List V} (h : Op H0 H os n p s) (e : H p = some (.lst vs)) : vs.length = s.length := by
  obtain ⟨ws, hw, pw, _⟩ := h
  have := hw.symm.trans e
  cases this
  rw [paired_len pw, dat_len]
def spRl : Sp := fun vs H Q _ => ∃ (b : Addr) (ls : List Str), vs = [.ref b] ∧ H b = some (.lst (ls.map V.str)) ∧ (∀ l ∈ ls, Lt l) ∧ ls.length ≤ 60 ∧ (∀ H', Same H H' → rdL ls [] [] = none → Q .non H') ∧
  ∀ H' p vs s, Same H H' → H p = none → rdL ls [] [] = some s → H' p = some (.lst vs) → Paired (Sho 130 (pt H [p] H')) vs (datS s) → Q (.ref p) H'
abbrev sRl : Stmt := topS 39
abbrev nRl : List Str := ["lines", "script", "around", "line", "words", "inner"]
theorem scRl : FnScope nRl ["lines"] (defScope sRl) := ⟨rfl, rfl, rfl, by decide +kernel, rfl, by decide +kernel, by decide +kernel⟩
-- cells set()
section
variable {P : Program} {w : World} {K : PySem.W.Frag} {mg : Str → Option Value} {base : Heap}
theorem ok_rl {f fread_command : Addr} {fd fdread_command : FuncData} (F : Fun K "read_script_lines" "read_script_lines" sRl f fd)
    (Fread_command : Fun K "read_command" "read_command" sRd fread_command fdread_command) (Gread_command : FnOk P w K mg base CX0 6 fread_command fdread_command ["line"] spRd) (gread_command : mg "read_command" = some (.ref fread_command)) :
    FnOk P w K mg base CX0 7 f fd ["lines"] spRl := by
  have bread_command : Binds K fdread_command ["line"] [] := Fread_command.binds fun _ _ _ _ _ _ us hl => match us, hl with | [_], _ => rfl
  refine F.ok scRl (fun vs H Q E h => ?_) (fun cdv A outer s0 H vs Q E hr h => ?_)
  · obtain ⟨b, ls, rfl, _⟩ := h
    rfl
  · obtain ⟨b, ls, rfl, hb, lt, ln, wantN, wantS⟩ := h
    refine ⟨_, (pss_cons (ps_set (i := 1) scRl.nd rfl (Or.inl rfl) (pe_lst pa_nil))
      (pss_cons (ps_set (i := 2) scRl.nd rfl (Or.inl rfl) (pe_lst pa_nil))
      (pss_cons (ps_for PassesOwn.never rfl (pi_list (pv 0)) (pg_name (i := 3) scRl.nd rfl (Or.inl rfl))
        (pss_cons (ps_set (i := 4) scRl.nd rfl (Or.inl rfl) (pe_m1 PySem.F.slot_str_lstrip PySem.F.type_str_lstrip mt_lstripChars (pv 3) pe_str))
          (pss_one (ps_if (pt_cmpR op_eq (pv 4) pe_str (nomark _))
            (pss_cons (ps_expr (pe_bm PySem.F.plainAttrs_list PySem.F.slot_list_append PySem.F.type_list_append mt_append (pv 2) (pa_cons (pv 1) pa_nil)))
              (pss_one (ps_set (i := 1) scRl.nd rfl (Or.inl rfl) (pe_lst pa_nil))))
            (pss_one (ps_if (pt_cmpR op_eq (pv 4) pe_str (nomark _))
                (pss_cons (ps_if (pt_not (pt_truth (pv 2) (by intro _; rfl)))
                    (pss_one (ps_ret pe_non))
                    pss_nil)
                  (pss_cons (ps_set (i := 5) scRl.nd rfl (Or.inl rfl) (pv 1))
                  (pss_cons (ps_set (i := 1) scRl.nd rfl (Or.inl rfl) (pe_bm0 PySem.F.plainAttrs_list PySem.F.slot_list_pop PySem.F.type_list_pop mt_pop (pv 2)))
                  (pss_one (ps_expr (pe_bm PySem.F.plainAttrs_list PySem.F.slot_list_append PySem.F.type_list_append mt_append (pv 1) (pa_cons (pe_tup (pa_cons pe_str (pa_cons (pv 5) pa_nil))) pa_nil)))))))
                (pss_one (ps_expr (pe_bm PySem.F.plainAttrs_list PySem.F.slot_list_append PySem.F.type_list_append mt_append (pv 1) (pa_cons (pe_call Gread_command (hr.mono (by decide)) rfl gread_command Fread_command.kp bread_command .nil pass0 (pa_cons (pv 4) pa_nil)) pa_nil))))))))))
      (pss_one (ps_ret (pe_ifExp (pt_truth (pv 2) (by intro _; rfl)) pe_non (pv 1))))))), ?_⟩
    refine ⟨Nat.zero_le _, fun p0 hp0 => ⟨Nat.zero_le _, fun q hq => ?_⟩⟩
    have npq : p0 ≠ q := fun z => by
      rw [← z, upd_same] at hq
      cases hq
    have hq0 : H q = none := by
      rw [upd_ne (Ne.symm npq)] at hq
      exact hq
    have s0 : Same H (upd (upd H p0 (.lst [])) q (.lst [])) := same_trans (same_new hp0) (same_new hq)
    refine ⟨_, rfl, b, rfl, ⟨_, SqL.of (s0 _ _ hb)⟩, ?_⟩
    refine for_list (xs := ls.map V.str) (fun i σ H' => ∃ (p : Addr) (ps : List Addr) (x : RdS) (o3 o4 o5 : Option V), rdRun (ls.take i) ([], []) = some x ∧ σ = [some (.ref b), some (.ref p), some (.ref q), o3, o4, o5] ∧ RdInv H H' q p ps x (3 + 2 * i))
      ⟨p0, [], ([], []), _, _, _, rfl, rfl, ⟨s0, ?_, ?_, upd_same, Nat.zero_le _, ⟨[], by rw [upd_ne npq, upd_same], by rw [datS]; exact .nil, Nat.zero_le _⟩, .nil⟩⟩ ?_ ?_ ?_
    · exact List.nodup_cons.mpr ⟨fun m => npq (List.mem_singleton.mp m).symm, List.nodup_cons.mpr ⟨List.not_mem_nil, .nil⟩⟩
    · intro a m
      rcases List.mem_cons.mp m with rfl | m
      · exact hq0
      · rw [List.mem_singleton.mp m]
        exact hp0
    · rintro i σ H' _ ⟨p, ps, x, o3, o4, o5, _, _, I⟩
      exact SqL.of (I.same _ _ hb)
    · rintro i v σ H' hv ⟨p, ps, ⟨ar, s⟩, o3, o4, o5, r, rfl, I⟩
      rw [List.getElem?_map] at hv
      obtain ⟨t, ht, rfl⟩ := Option.map_eq_some_iff.mp hv
      have mt := List.mem_of_getElem? ht
      have ti := lt t mt
      have li : i < ls.length := (List.getElem?_eq_some_iff.mp ht).1
      have tk : ls.take (i + 1) = ls.take i ++ [t] := by
        rw [List.take_add_one, ht]
        rfl
      have lti : (ls.take i).length = i := by rw [List.length_take]; omega
      have ok := run_ok (fun t m => lt t (List.mem_of_mem_take m)) (x := ([], [])) (i := 0) ⟨by rw [liS]; trivial, (fun r m => nomatch m), by show nlS [] + sumNl [] ≤ 0; rw [nlS, sumNl]; exact Nat.le_refl 0, by omega⟩ (by omega) r
      rw [Nat.zero_add, lti] at ok
      obtain ⟨_, _, ok3, _⟩ := ok
      have ok3 : nlS s + sumNl ar ≤ i := ok3
      have ls1 := len_nl s
      have ls2 := sum_len (ar := ar)
      have lps : ps.length = ar.length := paired_len I.har
      have run : rdRun (ls.take (i + 1)) ([], []) = rdStep t (ar, s) := by
        rw [tk, rdRun_app, r]
        show (rdStep t (ar, s)).bind (rdRun []) = _
        cases rdStep t (ar, s) <;> rfl
      obtain ⟨vs, hvs, pvs, _⟩ := I.hp
      have lvs := op_len I.hp hvs
      have lvs : vs.length = s.length := lvs
      refine ⟨_, rfl, ⟨t, rfl⟩, t, _, rfl, rfl, tx_fit (lt_tx ti), ?_⟩
      refine ⟨_, rfl, rfl, _, rfl, ?_⟩
      show if decide (V.str (lsD t) = V.str "try") = true then _ else _
      rw [dec_strE]
      by_cases e1 : lsD t = "try"
      · rw [decide_eq_true e1]
        refine iteT ?_
        refine ⟨_, rfl, .inl ⟨rfl, _, SqL.of I.hq⟩, _, rfl, q, _, _, rfl, rfl, I.hq, by rw [List.length_map, List.length_reverse, sizeLine_eq]; omega, Nat.zero_le _, fun b' hb' => ?_⟩
        refine ⟨b', p :: ps, (s :: ar, []), _, _, _, ?_, rfl, (I.push (by omega) hb').le (by omega)⟩
        rw [run]
        unfold rdStep
        rw [if_pos e1]
      · rw [decide_eq_false e1]
        refine iteF ⟨_, rfl, rfl, _, rfl, ?_⟩
        show if decide (V.str (lsD t) = V.str "end") = true then _ else _
        rw [dec_strE]
        by_cases e2 : lsD t = "end"
        · rw [decide_eq_true e2]
          refine iteT ⟨_, rfl, !(ps.reverse.map V.ref).isEmpty, .inl ⟨_, SqL.of I.hq, rfl⟩, ?_⟩
          cases ps with
          | nil =>
            have ea : ar = [] := List.eq_nil_of_length_eq_zero lps.symm
            subst ea
            refine iteT (wantN H' I.same ?_)
            rw [rdL_run, show ls = ls.take (i + 1) ++ ls.drop (i + 1) from (List.take_append_drop _ _).symm, rdRun_app, run]
            unfold rdStep
            rw [if_neg e1, if_pos e2]
            rfl
          | cons p1 ps =>
            cases ar with
            | nil => cases lps
            | cons r1 ar =>
              have ne : (!((p1 :: ps).reverse.map V.ref).isEmpty) = true := by
                rw [List.reverse_cons, List.map_append]
                cases ps.reverse.map V.ref <;> rfl
              rw [ne]
              refine iteF ⟨_, rfl, ?_⟩
              have har := I.har
              obtain ⟨g1, g2⟩ := pop_rev (p := p1) (ps := ps)
              refine ⟨_, rfl, .inl ⟨rfl, _, SqL.of I.hq⟩, q, _, V.ref p1, rfl, rfl, I.hq, g1, ?_⟩
              rw [g2]
              cases har with
              | cons hr hars =>
                obtain ⟨ws, hw, pw, _⟩ := hr
                have lw := op_len ⟨ws, hw, pw, by assumption⟩ hw
                have lr : nlS r1 + 1 + sumNl ar = sumNl (r1 :: ar) := by rw [sumNl]
                have ls3 := len_nl r1
                have nqp1 : q ≠ p1 := fun z => (List.nodup_cons.mp I.nd).1 (by rw [z]; exact List.mem_cons_of_mem _ List.mem_cons_self)
                have hw1 : upd H' q (.lst (ps.reverse.map V.ref)) p1 = some (.lst ws) := (upd_ne (Ne.symm nqp1)).trans hw
                refine ⟨_, rfl, .inl ⟨rfl, _, SqL.of hw1⟩, _, rfl, by show 2 ≤ sizeLine; rw [sizeLine_eq]; decide, fun t1 ht1 => ?_⟩
                refine ⟨p1, ws, _, rfl, rfl, (upd_ne (ne_of_none hw1 ht1)).trans hw1, by rw [sizeLine_eq]; omega, ?_⟩
                refine ⟨p1, ps, (ar, r1 ++ [.tr s]), _, _, _, ?_, rfl, I.pop rfl ht1 hw (by omega)⟩
                rw [run]
                unfold rdStep
                rw [if_neg e1, if_pos e2]
        · rw [decide_eq_false e2]
          refine iteF ?_
          refine ⟨_, rfl, .inl ⟨rfl, _, SqL.of hvs⟩, _, rfl, _, rfl, lt_of ti (ls_len_le t), fun H1 v1 s1 sh1 => ?_⟩
          refine ⟨p, vs, _, rfl, rfl, s1 _ _ hvs, by rw [sizeLine_eq]; omega, ?_⟩
          refine ⟨p, ps, (ar, s ++ [rdC (lsD t)]), _, _, _, ?_, rfl, (I.more s1 (sho_le (by omega) sh1) hvs (by omega)).le (by omega)⟩
          rw [run]
          unfold rdStep
          rw [if_neg e1, if_neg e2]
    · rintro σ H' ⟨p, ps, ⟨ar, s⟩, o3, o4, o5, r, rfl, I⟩
      rw [List.length_map, List.take_length] at r
      rw [List.length_map] at I
      have lps : ps.length = ar.length := paired_len I.har
      refine ⟨_, rfl, !(ps.reverse.map V.ref).isEmpty, .inl ⟨_, SqL.of I.hq, rfl⟩, ?_⟩
      have e : rdL ls [] [] = if ar.isEmpty = true then some s else none := by
        rw [rdL_run, r]
      cases ps with
      | nil =>
        have ea : ar = [] := List.eq_nil_of_length_eq_zero lps.symm
        subst ea
        obtain ⟨vs, hv, pv, _⟩ := I.hp
        refine iteF ⟨_, rfl, wantS H' p vs s I.same (I.free p (List.mem_cons_of_mem _ List.mem_cons_self)) e hv (pr_le (by omega) (pt_of fun a o _ e2 e3 => ⟨fun m => e2 (by rw [List.mem_singleton.mp m]; exact List.mem_cons_of_mem _ List.mem_cons_self), e3⟩) pv)⟩
      | cons p1 ps =>
        cases ar with
        | nil => cases lps
        | cons r1 ar =>
          have ne : (!((p1 :: ps).reverse.map V.ref).isEmpty) = true := by
            rw [List.reverse_cons, List.map_append]
            cases ps.reverse.map V.ref <;> rfl
          rw [ne]
          exact iteT (wantN H' I.same e)
end
end Vb
end L2

set_option Elab.async false
set_option linter.all false
set_option maxRecDepth 100000
set_option maxHeartbeats 4000000
/-! Vb, k88: the same at every depth; script_text, read_script. -/
namespace L2
namespace Vb
open PySem PySem.Spec PyProof.Rows
section
variable {P : Program} {w : World} {K : PySem.W.Frag} {mg : Str → Option Value} {base : Heap}
theorem ok_scAll {fis_command : Addr}
    {fis_mark_form : Addr}
    {fis_count : Addr}
    {fis_written_sum : Addr}
    {fis_script : Addr}
    {aBARE : Addr}
    {aLETTERS : Addr}
    {aWITH_SUMS : Addr}
    {fdis_command : FuncData}
    {fdis_mark_form : FuncData}
    {fdis_count : FuncData}
    {fdis_written_sum : FuncData}
    {fdis_script : FuncData}
    (Fis_command : Fun K "is_command" "is_command" sCm fis_command fdis_command)
    (Fis_mark_form : Fun K "is_mark_form" "is_mark_form" sMf fis_mark_form fdis_mark_form)
    (Gis_mark_form : FnOk P w K mg base CX0 3 fis_mark_form fdis_mark_form ["value"] spMf)
    (gis_mark_form : mg "is_mark_form" = some (.ref fis_mark_form))
    (Fis_count : Fun K "is_count" "is_count" sCount fis_count fdis_count)
    (Gis_count : FnOk P w K mg base CX0 1 fis_count fdis_count ["value"] spCountD)
    (gis_count : mg "is_count" = some (.ref fis_count))
    (Fis_written_sum : Fun K "is_written_sum" "is_written_sum" sWr fis_written_sum fdis_written_sum)
    (Gis_written_sum : FnOk P w K mg base CX0 4 fis_written_sum fdis_written_sum ["value"] spWr)
    (gis_written_sum : mg "is_written_sum" = some (.ref fis_written_sum))
    (Fis_script : Fun K "is_script" "is_script" sSc fis_script fdis_script)
    (gis_script : mg "is_script" = some (.ref fis_script))
    (gBARE : mg "BARE" = some (.ref aBARE))
    (hBARE : ∀ H : Hp, SqT K H aBARE (BARE_S.map V.str))
    (gLETTERS : mg "LETTERS" = some (.ref aLETTERS))
    (hLETTERS : ∀ H : Hp, SqT K H aLETTERS (LETTERS_S.map V.str))
    (gWITH_SUMS : mg "WITH_SUMS" = some (.ref aWITH_SUMS))
    (hWITH_SUMS : ∀ H : Hp, SqT K H aWITH_SUMS (WITH_SUMS_S.map V.str))
    (gLen : mg "len" = none)
    (gStr : mg "str" = none)
    (gTuple : mg "tuple" = none)
    (gType : mg "type" = none)
    (gis_command : mg "is_command" = some (.ref fis_command))
    (gAll : mg "all" = none)
    (gList : mg "list" = none) (n : Nat) :
    FnOk P w K mg base CX0 (2 * n + 4 + 1) fis_command fdis_command ["value"] (spCm n) ∧ FnOk P w K mg base CX0 (2 * n + 5 + 1) fis_script fdis_script ["value"] (spSc n) := by
  induction n with
  | zero =>
    have c : FnOk P w K mg base CX0 (2 * 0 + 4 + 1) fis_command fdis_command ["value"] (spCm 0) := ok_cm (F := Fis_command) (Fis_mark_form := Fis_mark_form) (Gis_mark_form := Gis_mark_form) (gis_mark_form := gis_mark_form) (Fis_count := Fis_count) (Gis_count := Gis_count) (gis_count := gis_count) (Fis_written_sum := Fis_written_sum) (Gis_written_sum := Gis_written_sum) (gis_written_sum := gis_written_sum) (Fis_script := Fis_script) (gis_script := gis_script) (gBARE := gBARE) (hBARE := hBARE) (gLETTERS := gLETTERS) (hLETTERS := hLETTERS) (gWITH_SUMS := gWITH_SUMS) (hWITH_SUMS := hWITH_SUMS) (gLen := gLen) (gStr := gStr) (gTuple := gTuple) (gType := gType) (n := 0) (Gis_script := ok_never)
    exact ⟨c, ok_sc (F := Fis_script) (Fis_command := Fis_command) (gis_command := gis_command) (gAll := gAll) (gList := gList) (gType := gType) (n := 0) (Gis_command := c)⟩
  | succ j ih =>
    have c : FnOk P w K mg base CX0 (2 * (j + 1) + 4 + 1) fis_command fdis_command ["value"] (spCm (j + 1)) := ok_cm (F := Fis_command) (Fis_mark_form := Fis_mark_form) (Gis_mark_form := Gis_mark_form) (gis_mark_form := gis_mark_form) (Fis_count := Fis_count) (Gis_count := Gis_count) (gis_count := gis_count) (Fis_written_sum := Fis_written_sum) (Gis_written_sum := Gis_written_sum) (gis_written_sum := gis_written_sum) (Fis_script := Fis_script) (gis_script := gis_script) (gBARE := gBARE) (hBARE := hBARE) (gLETTERS := gLETTERS) (hLETTERS := hLETTERS) (gWITH_SUMS := gWITH_SUMS) (hWITH_SUMS := hWITH_SUMS) (gLen := gLen) (gStr := gStr) (gTuple := gTuple) (gType := gType) (n := j + 1) (Gis_script := ih.2.mono (by omega))
    exact ⟨c, ok_sc (F := Fis_script) (Fis_command := Fis_command) (gis_command := gis_command) (gAll := gAll) (gList := gList) (gType := gType) (n := j + 1) (Gis_command := c)⟩
theorem ok_slAll {fcommand_lines : Addr}
    {fscript_lines : Addr}
    {fsum_words : Addr}
    {fmark_words : Addr}
    {aLETTERS : Addr}
    {aWITH_SUMS : Addr}
    {fdcommand_lines : FuncData}
    {fdscript_lines : FuncData}
    {fdsum_words : FuncData}
    {fdmark_words : FuncData}
    (Fcommand_lines : Fun K "command_lines" "command_lines" sCl fcommand_lines fdcommand_lines)
    (Fscript_lines : Fun K "script_lines" "script_lines" sSl fscript_lines fdscript_lines)
    (gscript_lines : mg "script_lines" = some (.ref fscript_lines))
    (Fsum_words : Fun K "sum_words" "sum_words" sSw fsum_words fdsum_words)
    (Gsum_words : FnOk P w K mg base CX0 1 fsum_words fdsum_words ["wanted"] spSw)
    (gsum_words : mg "sum_words" = some (.ref fsum_words))
    (Fmark_words : Fun K "mark_words" "mark_words" sMw fmark_words fdmark_words)
    (Gmark_words : FnOk P w K mg base CX0 2 fmark_words fdmark_words ["mark"] spMw)
    (gmark_words : mg "mark_words" = some (.ref fmark_words))
    (gLEAD : ∃ t, mg "LEAD" = some (.str "  " t))
    (gLETTERS : mg "LETTERS" = some (.ref aLETTERS))
    (hLETTERS : ∀ H : Hp, SqT K H aLETTERS (LETTERS_S.map V.str))
    (gWITH_SUMS : mg "WITH_SUMS" = some (.ref aWITH_SUMS))
    (hWITH_SUMS : ∀ H : Hp, SqT K H aWITH_SUMS (WITH_SUMS_S.map V.str))
    (gcommand_lines : mg "command_lines" = some (.ref fcommand_lines)) (n : Nat) :
    FnOk P w K mg base CX0 (2 * n + 2 + 1) fcommand_lines fdcommand_lines ["command", "lead"] (spCl n) ∧ FnOk P w K mg base CX0 (2 * n + 3 + 1) fscript_lines fdscript_lines ["script", "lead"] (spSl n) := by
  induction n with
  | zero =>
    have c : FnOk P w K mg base CX0 (2 * 0 + 2 + 1) fcommand_lines fdcommand_lines ["command", "lead"] (spCl 0) := ok_cl (F := Fcommand_lines) (Fscript_lines := Fscript_lines) (gscript_lines := gscript_lines) (Fsum_words := Fsum_words) (Gsum_words := Gsum_words) (gsum_words := gsum_words) (Fmark_words := Fmark_words) (Gmark_words := Gmark_words) (gmark_words := gmark_words) (gLEAD := gLEAD) (gLETTERS := gLETTERS) (hLETTERS := hLETTERS) (gWITH_SUMS := gWITH_SUMS) (hWITH_SUMS := hWITH_SUMS) (n := 0) (Gscript_lines := ok_never)
    exact ⟨c, ok_sl (F := Fscript_lines) (Fcommand_lines := Fcommand_lines) (gcommand_lines := gcommand_lines) (n := 0) (Gcommand_lines := c)⟩
  | succ j ih =>
    have c : FnOk P w K mg base CX0 (2 * (j + 1) + 2 + 1) fcommand_lines fdcommand_lines ["command", "lead"] (spCl (j + 1)) := ok_cl (F := Fcommand_lines) (Fscript_lines := Fscript_lines) (gscript_lines := gscript_lines) (Fsum_words := Fsum_words) (Gsum_words := Gsum_words) (gsum_words := gsum_words) (Fmark_words := Fmark_words) (Gmark_words := Gmark_words) (gmark_words := gmark_words) (gLEAD := gLEAD) (gLETTERS := gLETTERS) (hLETTERS := hLETTERS) (gWITH_SUMS := gWITH_SUMS) (hWITH_SUMS := hWITH_SUMS) (n := j + 1) (Gscript_lines := ih.2.mono (by omega))
    exact ⟨c, ok_sl (F := Fscript_lines) (Fcommand_lines := Fcommand_lines) (gcommand_lines := gcommand_lines) (n := j + 1) (Gcommand_lines := c)⟩
end
theorem pt_le2 {H0 H : Hp} {os : List Addr} : Same (pt H0 os H) H := fun _ _ e => (pt_le e).2.2
def spRq : Sp := fun vs H Q _ => ∃ (v : V) (s : List Cm) (m : Nat), vs = [v] ∧ Sho m H v (.list (datS s)) ∧ ScOk s 60 ∧ scB s = true ∧ ∀ H', Same H H' → Q .non H'
def spTx : Sp := fun vs H Q _ => ∃ (v : V) (s : List Cm) (m : Nat), vs = [v] ∧ Sho m H v (.list (datS s)) ∧ ScOk s 60 ∧ scB s = true ∧ ∀ H', Same H H' → Q (.str (txD s)) H'
/-- a text that may be read as a script -/
structure TxOk (x : Str) : Prop where
  len : x.length ≤ 100000
  lt : ∀ t ∈ Txt.split x "\n", Lt t
  ln : (Txt.split x "\n").length ≤ 60
def spRead (C : Addr) : Sp := fun vs H Q E => ∃ v, vs = [v] ∧ ((∃ (d : PyData) (m : Nat), Sho m H v d ∧ (∀ x, d ≠ .str x) ∧ Err H C v E) ∨
  ∃ x : Str, v = .str x ∧ TxOk x ∧ (rdS x = none → Err H C v E) ∧ ∀ H' p vs s, Same H H' → H p = none → rdS x = some s → H' p = some (.lst vs) → Paired (Sho 130 (pt H [p] H')) vs (datS s) → ScOk s 60 → Q (.ref p) H')
mutual
theorem lnC_le : ∀ {c : Cm} {l : Str}, liC c → ∀ t ∈ lnC c l, t.length ≤ l.length + 2 * dpC c + 110000
  | .tr cs, l, h, t, m => by
    rw [liC] at h
    rw [lnC] at m
    rw [dpC]
    rcases List.mem_append.mp m with m | m
    · rcases List.mem_append.mp m with m | m
      · rw [List.mem_singleton.mp m, Str.length_append, try_len]
        omega
      · have := lnS_le h.1 t m
        rw [Str.length_append, lead_len] at this
        omega
    · rw [List.mem_singleton.mp m, Str.length_append, end_len]
      omega
  | .bare w, l, h, t, m => by
    rw [liC] at h
    rw [lnC] at m
    rw [List.mem_singleton.mp m, Str.length_append]
    omega
  | .ltr b n, l, h, t, m => by
    rw [liC] at h
    rw [lnC] at m
    have h1 := let_len b
    have h2 : (numS (n.getD 0)).length ≤ 400 := by
      cases n with
      | none => decide +kernel
      | some i => exact (h i rfl).2
    rw [List.mem_singleton.mp m, Str.length_append, Str.length_append, Str.length_append, len_one]
    omega
  | .sum k W, l, h, t, m => by
    rw [liC] at h
    rw [lnC] at m
    have h1 := sumw_len k
    have h2 : (swD (W.getD [])).length ≤ 100000 := by
      cases W with
      | none => exact sw_len ⟨.nil, by decide, fun q m => nomatch m⟩
      | some i => exact sw_len (h i rfl)
    rw [List.mem_singleton.mp m, Str.length_append, Str.length_append, Str.length_append, len_one]
    omega
  | .exch n mk, l, h, t, m => by
    rw [liC] at h
    rw [lnC] at m
    have h2 : (numS (n.getD 0)).length ≤ 400 := by
      cases n with
      | none => decide +kernel
      | some i => exact (h.1 i rfl).2
    have h3 : (mwD (mk.getD ("", []))).length ≤ 60000 := by
      cases mk with
      | none => decide +kernel
      | some i => exact mw_len (h.2 i rfl)
    rw [List.mem_singleton.mp m, Str.length_append, Str.length_append, Str.length_append, Str.length_append, Str.length_append, len_one, exch_len]
    omega
theorem lnS_le : ∀ {cs : List Cm} {l : Str}, liS cs → ∀ t ∈ lnS cs l, t.length ≤ l.length + 2 * dpS cs + 110000
  | [], l, _, t, m => by
    rw [lnS] at m
    cases m
  | c :: cs, l, h, t, m => by
    rw [liS] at h
    rw [lnS] at m
    rw [dpS]
    rcases List.mem_append.mp m with m | m
    · have := lnC_le h.1 t m
      have := Nat.le_max_left (dpC c) (dpS cs)
      omega
    · have := lnS_le h.2 t m
      have := Nat.le_max_right (dpC c) (dpS cs)
      omega
end
theorem nl_len : ("\n" : Str).length = 1 := by decide +kernel
theorem tx_fit2 {s : List Cm} (h : ScOk s 60) : ((lnS s "").map (·.length)).sum + (lnS s "").length * ("\n" : Str).length ≤ 16777216 := by
  obtain ⟨li, nl, dp, _⟩ := h
  have a := sum_le (n := 111000) fun t m => by
    have := lnS_le (l := "") li t m
    have e : ("" : Str).length = 0 := by decide +kernel
    show t.length ≤ 111000
    omega
  rw [ln_lenS] at a ⊢
  rw [nl_len]
  have : nlS s * 111000 ≤ 60 * 111000 := Nat.mul_le_mul_right _ nl
  omega
abbrev sRq : Stmt := topS 34
abbrev nRq : List Str := ["script"]
theorem scRq : FnScope nRq ["script"] (defScope sRq) := ⟨rfl, rfl, rfl, by decide +kernel, rfl, by decide +kernel, by decide +kernel⟩
-- cells set()
section
variable {P : Program} {w : World} {K : PySem.W.Frag} {mg : Str → Option Value} {base : Heap}
theorem ok_rq {f fis_script : Addr} {fd fdis_script : FuncData} (F : Fun K "require_script" "require_script" sRq f fd)
    (Fis_script : Fun K "is_script" "is_script" sSc fis_script fdis_script) (Gis_script : FnOk P w K mg base CX0 126 fis_script fdis_script ["value"] (spSc 60)) (gis_script : mg "is_script" = some (.ref fis_script)) :
    FnOk P w K mg base CX0 127 f fd ["script"] spRq := by
  have bis_script : Binds K fdis_script ["value"] [] := Fis_script.binds fun _ _ _ _ _ _ us hl => match us, hl with | [_], _ => rfl
  refine F.ok scRq (fun vs H Q E h => ?_) (fun cdv A outer s0 H vs Q E hr h => ?_)
  · obtain ⟨v, s, m, rfl, _⟩ := h
    rfl
  · obtain ⟨v, s, m, rfl, sh, so, ok, want⟩ := h
    refine ⟨_, (pss_one (ps_if (pt_not (pt_val (pe_call Gis_script (hr.mono (by omega)) rfl gis_script Fis_script.kp bis_script .nil pass0 (pa_cons (pv 0) pa_nil))))
        pss_never
        pss_nil)), ?_⟩
    refine ⟨_, rfl, v, s, m, rfl, sh, so.dp, so.li, by have := so.ln; omega, fun H1 s1 => ⟨_, rfl, ?_⟩⟩
    rw [ok]
    exact iteF (want H1 s1)
end
abbrev sTx : Stmt := topS 37
abbrev nTx : List Str := ["script"]
theorem scTx : FnScope nTx ["script"] (defScope sTx) := ⟨rfl, rfl, rfl, by decide +kernel, rfl, by decide +kernel, by decide +kernel⟩
-- cells set()
section
variable {P : Program} {w : World} {K : PySem.W.Frag} {mg : Str → Option Value} {base : Heap}
theorem ok_tx {f frequire_script fscript_lines : Addr} {fd fdrequire_script fdscript_lines : FuncData} (F : Fun K "script_text" "script_text" sTx f fd)
    (Frequire_script : Fun K "require_script" "require_script" sRq frequire_script fdrequire_script) (Grequire_script : FnOk P w K mg base CX0 127 frequire_script fdrequire_script ["script"] spRq) (grequire_script : mg "require_script" = some (.ref frequire_script))
    (Fscript_lines : Fun K "script_lines" "script_lines" sSl fscript_lines fdscript_lines) (Gscript_lines : FnOk P w K mg base CX0 124 fscript_lines fdscript_lines ["script", "lead"] (spSl 60)) (gscript_lines : mg "script_lines" = some (.ref fscript_lines)) :
    FnOk P w K mg base CX0 128 f fd ["script"] spTx := by
  have brequire_script : Binds K fdrequire_script ["script"] [] := Frequire_script.binds fun _ _ _ _ _ _ us hl => match us, hl with | [_], _ => rfl
  have bscript_lines : Binds K fdscript_lines ["script", "lead"] [] := Fscript_lines.binds fun _ _ _ _ _ _ us hl => match us, hl with | [_, _], _ => rfl
  refine F.ok scTx (fun vs H Q E h => ?_) (fun cdv A outer s0 H vs Q E hr h => ?_)
  · obtain ⟨v, s, m, rfl, _⟩ := h
    rfl
  · obtain ⟨v, s, m, rfl, sh, so, ok, want⟩ := h
    refine ⟨_, (pss_cons (ps_expr (pe_call Grequire_script (hr.mono (by decide)) rfl grequire_script Frequire_script.kp brequire_script .nil pass0 (pa_cons (pv 0) pa_nil)))
      (pss_one (ps_ret (pe_join pe_str (pe_call Gscript_lines (hr.mono (by omega)) rfl gscript_lines Fscript_lines.kp bscript_lines .nil pass0 (pa_cons (pv 0) (pa_cons pe_str pa_nil))))))), ?_⟩
    refine ⟨_, rfl, v, s, m, rfl, sh, so, ok, fun H1 s1 => ?_⟩
    refine ⟨⟨_, rfl⟩, _, rfl, v, s, m, "", rfl, sh.up s1, so.dp, so.li, ok, by have := so.nl; omega, by decide +kernel, fun H2 a s2 na ha => ?_⟩
    exact ⟨_, a, _, rfl, rfl, .inl (SqL.of ha), tx_fit2 so, want H2 (same_trans s1 s2)⟩
end
abbrev sRead : Stmt := topS 40
abbrev nRead : List Str := ["text", "script"]
theorem scRead : FnScope nRead ["text"] (defScope sRead) := ⟨rfl, rfl, rfl, by decide +kernel, rfl, by decide +kernel, by decide +kernel⟩
-- cells set()
section
variable {P : Program} {w : World} {K : PySem.W.Frag} {mg : Str → Option Value} {base : Heap}
theorem ok_read {C f fread_script_lines fscript_lines fis_script : Addr} {fd fdread_script_lines fdscript_lines fdis_script : FuncData} (BT : Bad P w K mg base "InvalidText" C) (F : Fun K "read_script" "read_script" sRead f fd)
    (Fread_script_lines : Fun K "read_script_lines" "read_script_lines" sRl fread_script_lines fdread_script_lines) (Gread_script_lines : FnOk P w K mg base CX0 7 fread_script_lines fdread_script_lines ["lines"] spRl) (gread_script_lines : mg "read_script_lines" = some (.ref fread_script_lines))
    (Fscript_lines : Fun K "script_lines" "script_lines" sSl fscript_lines fdscript_lines) (Gscript_lines : FnOk P w K mg base CX0 124 fscript_lines fdscript_lines ["script", "lead"] (spSl 60)) (gscript_lines : mg "script_lines" = some (.ref fscript_lines))
    (Fis_script : Fun K "is_script" "is_script" sSc fis_script fdis_script) (Gis_script : FnOk P w K mg base CX0 126 fis_script fdis_script ["value"] (spSc 60)) (gis_script : mg "is_script" = some (.ref fis_script)) (gStr : mg "str" = none) (gType : mg "type" = none) :
    FnOk P w K mg base (L2.CX P w) 128 f fd ["text"] (spRead C) := by
  have bread_script_lines : Binds K fdread_script_lines ["lines"] [] := Fread_script_lines.binds fun _ _ _ _ _ _ us hl => match us, hl with | [_], _ => rfl
  have bis_script : Binds K fdis_script ["value"] [] := Fis_script.binds fun _ _ _ _ _ _ us hl => match us, hl with | [_], _ => rfl
  have bscript_lines : Binds K fdscript_lines ["script", "lead"] [] := Fscript_lines.binds fun _ _ _ _ _ _ us hl => match us, hl with | [_, _], _ => rfl
  refine F.okX scRead (fun vs H Q E h => ?_) (fun cdv A outer s0 H vs Q E hr h => ?_)
  · obtain ⟨v, rfl, _⟩ := h
    rfl
  · obtain ⟨v, rfl, h2⟩ := h
    refine ⟨_, (pss_cons (ps_if (pt_cmpR op_isNotTy (pe_typeD rfl gType (pv 0)) (pe_bltn rfl gStr boot_strTU rel_strTU) (nomark _))
        (pss_one (ps_raiseN rfl BT (hr.mono (by omega)) (takes_of rfl rfl rfl rfl) rfl (pv 0)))
        pss_nil)
      (pss_cons (ps_set (i := 1) scRead.nd rfl (Or.inl rfl) (pe_ifExp (pt_truth (pv 0) (by intro _; rfl)) (pe_call Gread_script_lines (hr.mono (by decide)) rfl gread_script_lines Fread_script_lines.kp bread_script_lines .nil pass0 (pa_cons (pe_split (pv 0) pe_str) pa_nil)) (pe_lst pa_nil)))
      (pss_cons (ps_if (PW.pt (pw_or (pt_cmpR op_isN (pv 1) pe_non (nomark _)) (pw_or (pt_not (pt_val (pe_call Gis_script (hr.mono (by omega)) rfl gis_script Fis_script.kp bis_script .nil pass0 (pa_cons (pv 1) pa_nil)))) (pw_or1 (pt_cmpR op_ne (pe_join pe_str (pe_call Gscript_lines (hr.mono (by omega)) rfl gscript_lines Fscript_lines.kp bscript_lines .nil pass0 (pa_cons (pv 1) (pa_cons pe_str pa_nil)))) (pv 0) (nomark _))))))
        (pss_one (ps_raiseN rfl BT (hr.mono (by omega)) (takes_of rfl rfl rfl rfl) rfl (pv 0)))
        pss_nil)
      (pss_one (ps_ret (pv 1)))))), ?_⟩
    rcases h2 with ⟨d, m, sh, nd, err⟩ | ⟨x, rfl, tx, wantN, wantS⟩
    · refine ⟨_, rfl, _, sh.ty, _, _, rfl, rfl, _, rfl, ?_⟩
      cases d with
      | str x => exact (nd x rfl).elim
      | _ => exact iteT ⟨_, rfl, err⟩
    · refine ⟨_, rfl, _, rfl, _, _, rfl, rfl, _, rfl, iteF ?_⟩
      have lx : Tx x := tx.len
      have bad : ∀ (H1 : Hp), Same H H1 → rdS x = none → Err H1 C (.str x) E := fun H1 s1 e dd H2 s2 nd hd => wantN e dd H2 (same_trans s1 s2) (s1.free nd) hd
      refine ⟨_, rfl, _, str_tru lx, ?_⟩
      by_cases z : x.length = 0
      · rw [z]
        refine iteF ⟨Nat.zero_le _, fun p hp => ?_⟩
        have ea : rdA x = some [] := by
          unfold rdA
          rw [if_pos z]
        have so : ScOk [] 60 := ⟨by rw [liS]; trivial, by rw [nlS]; exact Nat.zero_le _, by rw [dpS]; exact Nat.zero_le _, Nat.zero_le _⟩
        have s1 := same_new (o := HO.lst []) hp
        have hv : upd H p (HO.lst []) p = some (.lst []) := upd_same
        generalize upd H p (HO.lst []) = H1 at s1 hv ⊢
        have pv : Paired (Sho 130 (pt H [p] H1)) [] (datS []) := by
          rw [datS]
          exact .nil
        refine ⟨_, rfl, rfl, _, rfl, iteF ?_⟩
        have shp : Sho 131 H1 (.ref p) (.list (datS [])) := Sho.lst hv (pr_le (Nat.le_refl _) pt_le2 pv)
        refine ⟨_, rfl, .ref p, [], 131, rfl, shp, so.dp, so.li, by have := so.ln; omega, fun H2 s2 => ⟨_, rfl, ?_⟩⟩
        show if (!scB []) = true then _ else _
        cases e : scB [] with
        | false => exact iteT ⟨_, rfl, bad H2 (same_trans s1 s2) (rdS_bad ea e)⟩
        | true =>
          refine iteF ⟨⟨_, rfl⟩, _, rfl, .ref p, [], 131, "", rfl, shp.up s2, so.dp, so.li, e, by have := so.nl; omega, by decide +kernel, fun H3 a s3 na ha => ?_⟩
          have s13 := same_trans s1 (same_trans s2 s3)
          refine ⟨_, a, _, rfl, rfl, .inl (SqL.of ha), tx_fit2 so, _, rfl, rfl, _, rfl, ?_⟩
          show if (!decide (V.str (txD []) = V.str x)) = true then _ else _
          rw [dec_strE]
          by_cases q : txD [] = x
          · rw [decide_eq_true q]
            have r : rdS x = some [] := by
              unfold rdS
              rw [ea]
              show (if _ then _ else _) = _
              rw [e, decide_eq_true q]
              rfl
            exact iteF ⟨_, rfl, wantS H3 p _ [] s13 hp r (s3 _ _ (s2 _ _ hv)) (pr_le (Nat.le_refl _) (pt_of fun b o _ e2 e3 => ⟨e2, s3 _ _ (s2 _ _ e3)⟩) pv) so⟩
          · rw [decide_eq_false q]
            have r : rdS x = none := by
              unfold rdS
              rw [ea]
              show (if _ then _ else _) = _
              rw [e, decide_eq_false q]
              rfl
            exact iteT ⟨_, rfl, bad H3 s13 r⟩
      · rw [beq_eq_false_iff_ne.mpr z]
        refine iteT ⟨_, rfl, ⟨x, rfl⟩, x, _, rfl, rfl, by decide +kernel, by rw [sizeLine_eq]; have := tx.len; omega, fun p0 hp0 => ?_⟩
        have ra : rdA x = rdL (Txt.split x "\n") [] [] := by
          unfold rdA
          rw [if_neg z]
        have s0 := same_new (o := HO.lst ((Txt.split x "\n").map V.str)) hp0
        refine ⟨p0, _, rfl, upd_same, tx.lt, tx.ln, fun H1 s1 e => ?_, fun H1 p vs s s1 np e hv pv => ?_⟩
        · exact ⟨_, rfl, rfl, _, rfl, iteT ⟨_, rfl, bad H1 (same_trans s0 s1) (rdS_nothing (ra.trans e))⟩⟩
        · have ea := ra.trans e
          have so0 := rd_scOk tx.lt (by have := tx.ln; omega) e
          have so : ScOk s 60 := ⟨so0.li, Nat.le_trans so0.nl tx.ln, Nat.le_trans so0.dp tx.ln, Nat.le_trans so0.ln tx.ln⟩
          have s01 := same_trans s0 s1
          have np0 := s0.free np
          have pv0 : Paired (Sho 130 (pt H [p] H1)) vs (datS s) := pr_le (Nat.le_refl _) (fun b o eb => by
            obtain ⟨e1, e2, e3⟩ := pt_le eb
            rw [pt_at (s0.free e1) e2]
            exact e3) pv
          refine ⟨_, rfl, rfl, _, rfl, iteF ?_⟩
          have shp : Sho 131 H1 (.ref p) (.list (datS s)) := Sho.lst hv (pr_le (Nat.le_refl _) pt_le2 pv0)
          refine ⟨_, rfl, .ref p, s, 131, rfl, shp, so.dp, so.li, by have := so.ln; omega, fun H2 s2 => ⟨_, rfl, ?_⟩⟩
          show if (!scB s) = true then _ else _
          cases e : scB s with
          | false => exact iteT ⟨_, rfl, bad H2 (same_trans s01 s2) (rdS_bad ea e)⟩
          | true =>
            refine iteF ⟨⟨_, rfl⟩, _, rfl, .ref p, s, 131, "", rfl, shp.up s2, so.dp, so.li, e, by have := so.nl; omega, by decide +kernel, fun H3 a s3 na ha => ?_⟩
            have s13 := same_trans s01 (same_trans s2 s3)
            refine ⟨_, a, _, rfl, rfl, .inl (SqL.of ha), tx_fit2 so, _, rfl, rfl, _, rfl, ?_⟩
            show if (!decide (V.str (txD s) = V.str x)) = true then _ else _
            rw [dec_strE]
            by_cases q : txD s = x
            · rw [decide_eq_true q]
              have r : rdS x = some s := by
                unfold rdS
                rw [ea]
                show (if _ then _ else _) = _
                rw [e, decide_eq_true q]
                rfl
              exact iteF ⟨_, rfl, wantS H3 p _ s s13 np0 r (s3 _ _ (s2 _ _ hv)) (pr_le (Nat.le_refl _) (pt_of fun b o _ e2 e3 => ⟨e2, s3 _ _ (s2 _ _ e3)⟩) pv0) so⟩
            · rw [decide_eq_false q]
              have r : rdS x = none := by
                unfold rdS
                rw [ea]
                show (if _ then _ else _) = _
                rw [e, decide_eq_false q]
                rfl
              exact iteT ⟨_, rfl, bad H3 s13 r⟩
end
end Vb
end L2

set_option Elab.async false
set_option linter.all false
set_option maxRecDepth 100000
set_option maxHeartbeats 4000000
/-! Vb, k88: == and != of what is the same: lists, tuples, dicts within one another. -/
namespace PySem.SeqAt
open AutoSeq1 (wpAny_loadPart')
open MeetsSeq MeetsSeq2 MeetsSeq3
section
variable {P : Program} {w : World}
/-- the two lists of a comparison, as they lie -/
def TwoSeqs (T : String) (x y : Addr) (us vs : Array Value) (a b : Nat) (c d : Option Addr) (e f : Array (Option Value)) (s : Shared) : Prop :=
  s.heap.get? x = some { cls := .type T, dict := c, data := .seq us a, slots := e } ∧ s.heap.get? y = some { cls := .type T, dict := d, data := .seq vs b, slots := f }
def AllSame (P : Program) (w : World) (A : Around) (s : Shared) (us vs : Array Value) : Prop := ∀ j (h : j < us.size) (h' : j < vs.size), EqP P w A.in1 s us[j] vs[j] true
theorem ne_same_loop {x y : Addr} {us vs : Array Value} {a b : Nat} {c d : Option Addr} {e f : Array (Option Value)} (sz : us.size = vs.size) : ∀ (m i : Nat), us.size = i + m →
    MeetsIn P w (Builtin.«list.__eq__.loop» ⟨[.ref x, .ref y, rawInt i, rawInt 3], []⟩) (fun A R s => TwoSeqs "list" x y us vs a b c d e f s ∧ AllSame P w A s us vs ∧ R (.ok (.ret (.bool false))) s)
  | 0, i, hm => by
    intro A R s hh
    obtain ⟨hp, g, dd, tk, os⟩ := s
    obtain ⟨⟨o1, o2⟩, _, done⟩ := hh
    wp_walk using wpAny_loadPart' o1, wpAny_loadPart' o2
    have n1 : us[((i : Nat) : Int).toNat]? = none := by
      simp
      omega
    have n2 : vs[((i : Nat) : Int).toNat]? = none := by
      simp
      omega
    rw [n1, n2]
    wp_walk using wpAny_loadPart' o1, wpAny_loadPart' o2
    show R (.ok (.ret (.bool (us.size != vs.size)))) _
    rw [sz]
    simpa using done
  | m + 1, i, hm => by
    intro A R s hh
    obtain ⟨hp, g, dd, tk, os⟩ := s
    obtain ⟨⟨o1, o2⟩, all, done⟩ := hh
    wp_walk using wpAny_loadPart' o1, wpAny_loadPart' o2
    have l1 : i < us.size := by omega
    have l2 : i < vs.size := by omega
    have n1 : us[((i : Nat) : Int).toNat]? = some us[i] := by simp [l1]
    have n2 : vs[((i : Nat) : Int).toNat]? = some vs[i] := by simp [l2]
    rw [n1, n2]
    refine wpAny_bind (all i l1 l2 _ _ ?_)
    wp_walk
    rw [show ((i : Int) + 1) = ((i + 1 : Nat) : Int) from rfl]
    refine ⟨plainId_quiet plain_eq_loop _, ?_⟩
    refine codeAny_builtin entry_eq_loop ?_
    rw [show ∀ (B : Around) (t : Args), B.under (.builtin "list.__eq__.loop" t) = B.in1 from fun B t => Around.under_plainId plain_eq_loop t]
    exact ne_same_loop sz m (i + 1) (by omega) A R _ ⟨⟨o1, o2⟩, all, done⟩
theorem ne_same {x y : Addr} {us vs : Array Value} {a b : Nat} {c d : Option Addr} {e f : Array (Option Value)} (sz : us.size = vs.size) :
    MeetsIn P w (Builtin.«list.__ne__» ⟨[.ref x, .ref y], []⟩) (fun A R s => TwoSeqs "list" x y us vs a b c d e f s ∧ AllSame P w A s us vs ∧ R (.ok (.ret (.bool false))) s) := by
  intro A R s hh
  obtain ⟨hp, g, dd, tk, os⟩ := s
  obtain ⟨⟨o1, o2⟩, all, done⟩ := hh
  have sub := AutoSeq1.sub_list_list
  have no : ¬ (us.size != vs.size) = true := by simp [sz]
  wp_walk using wpAny_loadPart' o1, wpAny_loadPart' o2
  refine ⟨plainId_quiet plain_eq_loop _, ?_⟩
  refine codeAny_builtin entry_eq_loop ?_
  rw [show ∀ (B : Around) (t : Args), B.under (.builtin "list.__eq__.loop" t) = B.in1 from fun B t => Around.under_plainId plain_eq_loop t]
  exact ne_same_loop sz us.size 0 (by omega) A R _ ⟨⟨o1, o2⟩, all, done⟩
theorem tup_same {x y : Addr} {us vs : Array Value} {a b : Nat} {c d : Option Addr} {e f : Array (Option Value)} (sz : us.size = vs.size) :
    MeetsIn P w (Builtin.«tuple.__eq__» ⟨[.ref x, .ref y], []⟩) (fun A R s => TwoSeqs "tuple" x y us vs a b c d e f s ∧ AllSame P w A s us vs ∧ R (.ok (.ret (.bool true))) s) := by
  refine MeetsIn.of_wp fun A R s hh => ?_
  obtain ⟨hp, g, dd, tk, os⟩ := s
  obtain ⟨⟨o1, o2⟩, all, done⟩ := hh
  have sub := AutoSeq1.sub_tuple_tuple
  have lz : (us.toList.zip vs.toList).length = us.size := by simp [sz]
  wp_walk using wpAny_loadPart' o1, wpAny_loadPart' o2, wpAny_forIn_list _ (fun rest q s' => q.1 = none ∧ s' = ⟨hp, g, dd, tk, os⟩ ∧ ∃ i, rest = (us.toList.zip vs.toList).drop i) _
  case turn =>
    rintro ⟨u, v⟩ rest q s' ⟨_, rfl, i, hz⟩
    have li : i < (us.toList.zip vs.toList).length := by
      by_cases z : i < (us.toList.zip vs.toList).length
      · exact z
      · rw [List.drop_of_length_le (by omega)] at hz
        cases hz
    have l1 : i < us.size := by omega
    have l2 : i < vs.size := by omega
    rw [List.drop_eq_getElem_cons li] at hz
    obtain ⟨e1, e2⟩ := List.cons.inj hz
    obtain rfl : u = us[i] := by
      have := congrArg Prod.fst e1
      simpa using this
    obtain rfl : v = vs[i] := by
      have := congrArg Prod.snd e1
      simpa using this
    refine wpAny_bind (all i l1 l2 _ _ ?_)
    wp_walk
    exact ⟨rfl, rfl, i + 1, e2⟩
  case fin =>
    rintro ⟨q1, q2⟩ s' ⟨hq, rfl, i, hz⟩
    simp only at hq
    subst hq
    wp_walk
    exact ⟨_, rfl, by simpa [Builtin.Tuple.tupleCompareSizes, sz] using done⟩
  case h => exact ⟨rfl, rfl, 0, rfl⟩
open SeqRoads2 in
theorem rcNe_same {A : Around} {s : Shared} {x y : Addr} {us vs : Array Value} (h1 : s.heap.IsList x us) (h2 : s.heap.IsList y vs) (sz : us.size = vs.size) (hu : A.units < cLine) (all : AllSame P w A s us vs) (E Q : Value → Shared → Prop) (done : Q (.bool false) s) :
    wpAny (model P w) A (richCompare .NotEq (.ref x) (.ref y)) Q E s := by
  obtain ⟨⟨_, c, _, e⟩, o1, q1, a, q2⟩ := id h1
  obtain ⟨⟨_, d, _, f⟩, o2, q3, b, q4⟩ := id h2
  simp only at q1 q2 q3 q4
  subst q1 q2 q3 q4
  have t1 : s.TypeIs (.ref x) "list" := ⟨_, o1, rfl⟩
  have t2 : s.TypeIs (.ref y) "list" := ⟨_, o2, rfl⟩
  refine wpAny_richCompare_same_room (op := .NotEq) t1 t2 F.slot_list_ne (call_meetsIn F.slot_list_ne t1 F.entry_list_ne (F.args_list_ne_2 _ _) (ne_same (a := a) (b := b) (c := c) (d := d) (e := e) (f := f) sz) ?_) hu
  exact ⟨⟨o1, o2⟩, all, (fun z => nomatch z), done⟩
open SeqRoads2 in
theorem rcTup_same {A : Around} {s : Shared} {x y : Addr} {us vs : Array Value} (h1 : s.heap.IsTuple x us) (h2 : s.heap.IsTuple y vs) (sz : us.size = vs.size) (hu : A.units < cLine) (all : AllSame P w A s us vs) (E Q : Value → Shared → Prop) (done : Q (.bool true) s) :
    wpAny (model P w) A (richCompare .Eq (.ref x) (.ref y)) Q E s := by
  obtain ⟨⟨_, c, _, e⟩, o1, q1, a, q2⟩ := id h1
  obtain ⟨⟨_, d, _, f⟩, o2, q3, b, q4⟩ := id h2
  simp only at q1 q2 q3 q4
  subst q1 q2 q3 q4
  have t1 : s.TypeIs (.ref x) "tuple" := ⟨_, o1, rfl⟩
  have t2 : s.TypeIs (.ref y) "tuple" := ⟨_, o2, rfl⟩
  refine wpAny_richCompare_same_room (op := .Eq) t1 t2 F.slot_tuple_eq (call_meetsIn F.slot_tuple_eq t1 F.entry_tuple_eq (F.args_tuple_eq_2 _ _) (tup_same (a := a) (b := b) (c := c) (d := d) (e := e) (f := f) sz) ?_) hu
  exact ⟨⟨o1, o2⟩, all, (fun z => nomatch z), done⟩
end
end PySem.SeqAt
namespace L2
namespace Vb
open PySem PySem.Spec PyProof.Rows
/-- the same within n: flat, one object, or lists, tuples, dicts of the same -/
def EqW (K : PySem.W.Frag) (H : Hp) : Nat → V → V → Prop
  | 0 => fun x y => x = y ∧ flatB x = true
  | n + 1 => fun x y => (x = y ∧ flatB x = true) ∨ (∃ a, x = .ref a ∧ y = .ref a) ∨ EqR K H (EqW K H n) x y ∨ ∃ a b xs ys, x = .ref a ∧ y = .ref b ∧ H a = some (.tup xs) ∧ H b = some (.tup ys) ∧ Paired (EqW K H n) xs ys
section
variable {X : Cx} {pins : List (Addr × Obj)} {σ : St} {H : Hp} {s : Shared}
theorem isTup (I : Inv X pins σ H s) {a : Addr} {xs : List V} (h : H a = some (.tup xs)) : ∃ its : List Value, Vals xs its ∧ s.heap.IsTuple a its.toArray := by
  obtain ⟨_, its, rv, o, e, ec, m, ed⟩ := (show ObjOk X.prog X.w H s.heap a (.tup xs) from I.hok a _ h)
  exact ⟨its, rv, ⟨o, e, ec, m, ed⟩⟩
theorem eqW_run (I : Inv X pins σ H s) : ∀ (n : Nat) (A : Around), A.units + n < cLine → ∀ (x y : V) (v u : Value), EqW X.K H n x y → RelV x v → RelV y u → SeqAt.EqP X.prog X.w A s v u true
  | 0, _, _, _, _, _, _, h, rx, ry => by
    obtain ⟨rfl, f⟩ := h
    exact (eqAt_same rx ry f).eqP
  | n + 1, A, hu, x, y, v, u, h, rx, ry => by
    have deep : ∀ x y v u, EqW X.K H n x y → RelV x v → RelV y u → SeqAt.EqP X.prog X.w A.in1 s v u true := fun x y v u => eqW_run I n A.in1 (by show A.units + 1 + n < cLine; omega) x y v u
    have two : ∀ {a b : Addr}, v = .ref a → u = .ref b → (∀ (E Q : Value → Shared → Prop), Q (.bool true) s → wpAny (model X.prog X.w) A (richCompare .Eq v u) Q E s) → SeqAt.EqP X.prog X.w A s v u true := fun {a b} ea eb k => by
      subst ea eb
      by_cases q : a = b
      · subst q
        exact (SeqAt.EqAt.same _).eqP
      · exact SeqAt.eqP_refs q k
    rcases h with ⟨rfl, f⟩ | ⟨a, rfl, rfl⟩ | h | ⟨a, b, xs, ys, rfl, rfl, ha, hb, p⟩
    · exact (eqAt_same rx ry f).eqP
    · cases (show v = Value.ref a from rx)
      cases (show u = Value.ref a from ry)
      exact (SeqAt.EqAt.same _).eqP
    · have run := eqR_run I (A := A) (by omega) deep h rx ry
      rcases h with ⟨a, b, _, _, rfl, rfl, _⟩ | ⟨a, b, _, _, rfl, rfl, _⟩
      · exact two rx ry run
      · exact two rx ry run
    · refine two rx ry fun E Q q => ?_
      cases (show v = Value.ref a from rx)
      cases (show u = Value.ref b from ry)
      obtain ⟨us, r1, t1⟩ := isTup I ha
      obtain ⟨ws, r2, t2⟩ := isTup I hb
      have sz : us.toArray.size = ws.toArray.size := by
        rw [List.size_toArray, List.size_toArray, ← r1.length, ← r2.length]
        exact Paired.length p
      refine SeqAt.rcTup_same t1 t2 sz (by omega) (fun j h1 h2 => ?_) E Q q
      have k := items_run deep p r1 r2 j (by simpa using h1) (by simpa using h2)
      simpa using k
/-- two lists of the same: == and != -/
def rEqW (K : PySem.W.Frag) (b : Bool) : R2 := fun x y H Q => ∃ (n : Nat) (p q : Addr) (xs ys : List V), n ≤ 60 ∧ x = .ref p ∧ y = .ref q ∧ H p = some (.lst xs) ∧ H q = some (.lst ys) ∧ Paired (EqW K H n) xs ys ∧ Q (.bl b) H
theorem op_eqW (hu : X.A.units + 64 < cLine) : OpR X (compareOp .Eq) (rEqW X.K true) := by
  intro pins s σ H x y v u Q I rx ry h
  obtain ⟨n, a, b, xs, ys, hn, rfl, rfl, ha, hb, p, q⟩ := h
  exact eqR_run I (A := X.A) (by omega) (eqW_run I n X.A.in1 (by show X.A.units + 1 + n < cLine; omega)) (.inl ⟨a, b, xs, ys, rfl, rfl, SqL.of ha, SqL.of hb, p⟩) rx ry _ _ ⟨.bl true, H, I, rfl, q⟩
theorem op_neW (hu : X.A.units + 64 < cLine) : OpR X (compareOp .NotEq) (rEqW X.K false) := by
  intro pins s σ H x y v u Q I rx ry h
  obtain ⟨n, a, b, xs, ys, hn, rfl, rfl, ha, hb, p, q⟩ := h
  cases (show v = Value.ref a from rx)
  cases (show u = Value.ref b from ry)
  obtain ⟨us, r1, l1, _⟩ := I.list (SqL.of ha)
  obtain ⟨ws, r2, l2, _⟩ := I.list (SqL.of hb)
  have sz : us.toArray.size = ws.toArray.size := by
    rw [List.size_toArray, List.size_toArray, ← r1.length, ← r2.length]
    exact Paired.length p
  refine SeqAt.rcNe_same l1.isList l2.isList sz (by omega) (fun j h1 h2 => ?_) _ _ ⟨.bl false, H, I, rfl, q⟩
  have k := items_run (eqW_run I n X.A.in1 (by show X.A.units + 1 + n < cLine; omega)) p r1 r2 j (by simpa using h1) (by simpa using h2)
  simpa using k
/-- a list, and one of nothing -/
def rNeE (K : PySem.W.Frag) : R2 := fun x y H Q => ∃ (a b : Addr) (xs : List V), x = .ref a ∧ y = .ref b ∧ SqL K H a xs ∧ SqL K H b [] ∧ Q (.bl (!xs.isEmpty)) H
theorem op_neE (hu : X.A.units < cLine) : OpR X (compareOp .NotEq) (rNeE X.K) := by
  intro pins s σ H x y v u Q I rx ry h
  obtain ⟨a, b, xs, rfl, rfl, ha, hb, q⟩ := h
  cases (show v = Value.ref a from rx)
  cases (show u = Value.ref b from ry)
  obtain ⟨us, r1, l1, _⟩ := I.list ha
  obtain ⟨ws, r2, l2, _⟩ := I.list hb
  cases r2
  cases xs with
  | nil =>
    cases r1
    refine SeqAt.RcNeAt.lists (e := fun _ => true) l1.isList l2.isList rfl hu (fun j h1 _ => absurd h1 (Nat.not_lt_zero j)) _ _ _ _ ⟨.bl false, H, I, rfl, q⟩
  | cons x xs =>
    cases r1 with
    | cons r1 t1 =>
      refine SeqAt.RcNeAt.lists_lengths l1.isList l2.isList ?_ hu _ _ _ _ ⟨.bl true, H, I, rfl, q⟩
      simp
end
/-! ### a script and what is read of it -/
theorem eqW_flat {K : PySem.W.Frag} {H : Hp} {n : Nat} {x : V} (h : flatB x = true) : EqW K H n x x := by
  cases n with
  | zero => exact ⟨rfl, h⟩
  | succ n => exact .inl ⟨rfl, h⟩
theorem eqW_strs {K : PySem.W.Frag} {H : Hp} {n : Nat} : ∀ ls : List Str, Paired (EqW K H n) (ls.map V.str) (ls.map V.str)
  | [] => .nil
  | l :: ls => .cons (eqW_flat rfl) (eqW_strs ls)
theorem eqW_tup {K : PySem.W.Frag} {H : Hp} {n : Nat} {a b : Addr} {xs ys : List V} (h1 : H a = some (.tup xs)) (h2 : H b = some (.tup ys)) (p : Paired (EqW K H n) xs ys) : EqW K H (n + 1) (.ref a) (.ref b) := .inr (.inr (.inr ⟨a, b, xs, ys, rfl, rfl, h1, h2, p⟩))
theorem eqW_lst {K : PySem.W.Frag} {H : Hp} {n : Nat} {a b : Addr} {xs ys : List V} (h1 : H a = some (.lst xs)) (h2 : H b = some (.lst ys)) (p : Paired (EqW K H n) xs ys) : EqW K H (n + 1) (.ref a) (.ref b) := .inr (.inr (.inl (.inl ⟨a, b, xs, ys, rfl, rfl, SqL.of h1, SqL.of h2, p⟩)))
theorem eqW_asc {K : PySem.W.Frag} {H : Hp} {n : Nat} {a b : Addr} {W : SumZ} (nd : (W.map (·.1)).Nodup) (h1 : Dct H a (ascZ W)) (h2 : Dct H b W) : EqW K H (n + 1) (.ref a) (.ref b) := by
  refine .inr (.inr (.inl (.inr ⟨a, b, kvsZ (ascZ W), kvsZ W, rfl, rfl, h1, h2, ?_, fun p m => ?_⟩)))
  · rw [kvs_len, kvs_len]
    unfold ascZ
    rw [List.length_map, (srt_perm _).length_eq, List.length_map]
  · unfold kvsZ at m
    obtain ⟨q, mq, rfl⟩ := List.mem_map.mp m
    unfold ascZ at mq
    obtain ⟨k, mk, rfl⟩ := List.mem_map.mp mq
    exact ⟨_, (val_key nd ((srt_perm _).mem_iff.mp mk)).1, eqW_flat rfl⟩
theorem eqR_up {K : PySem.W.Frag} {H : Hp} {E F : V → V → Prop} (h : ∀ x y, E x y → F x y) {x y : V} (r : EqR K H E x y) : EqR K H F x y := by
  rcases r with ⟨a, b, xs, ys, e1, e2, h1, h2, p⟩ | ⟨a, b, ks, ls, e1, e2, h1, h2, l, p⟩
  · exact .inl ⟨a, b, xs, ys, e1, e2, h1, h2, L2.Paired.mapP p fun _ _ z => h _ _ z⟩
  · exact .inr ⟨a, b, ks, ls, e1, e2, h1, h2, l, fun q m => (p q m).elim fun u z => ⟨u, z.1, h _ _ z.2⟩⟩
theorem eqW_succ {K : PySem.W.Frag} {H : Hp} : ∀ {n : Nat} {x y : V}, EqW K H n x y → EqW K H (n + 1) x y
  | 0, _, _, h => .inl h
  | n + 1, _, _, h => by
    rcases h with h | h | h | ⟨a, b, xs, ys, e1, e2, h1, h2, p⟩
    · exact .inl h
    · exact .inr (.inl h)
    · exact .inr (.inr (.inl (eqR_up (fun _ _ z => eqW_succ z) h)))
    · exact .inr (.inr (.inr ⟨a, b, xs, ys, e1, e2, h1, h2, L2.Paired.mapP p fun _ _ z => eqW_succ z⟩))
theorem eqW_le {K : PySem.W.Frag} {H : Hp} {x y : V} : ∀ {n m : Nat}, n ≤ m → EqW K H n x y → EqW K H m x y
  | n, 0, h, s => by
    obtain rfl : n = 0 := by omega
    exact s
  | n, m + 1, h, s => by
    by_cases q : n = m + 1
    · subst q
      exact s
    · exact eqW_succ (eqW_le (by omega) s)
theorem flat_cnt (o : Option Int) : flatB (cntV o) = true := by
  cases o <;> rfl
mutual
theorem eqW_nm {K : PySem.W.Frag} {H : Hp} : ∀ {c : Cm} {n m : Nat} {x y : V}, gdC c → Sho n H x (datC (nmC c)) → Sho m H y (datC c) → EqW K H (2 * dpC c + 3) x y
  | .bare w, n, m, x, y, g, hx, hy => by
    rw [nmC] at hx
    obtain ⟨_, a, vs, rfl, ha, ps⟩ := sho_cm hx
    obtain ⟨_, b, us, rfl, hb, qs⟩ := sho_cm hy
    cases ps
    cases qs
    exact eqW_tup ha hb (.cons (eqW_flat rfl) .nil)
  | .ltr q i, n, m, x, y, g, hx, hy => by
    rw [nmC] at hx
    obtain ⟨_, a, vs, rfl, ha, ps⟩ := sho_cm hx
    obtain ⟨_, b, us, rfl, hb, qs⟩ := sho_cm hy
    obtain ⟨v, rfl, h1⟩ := pair_one ps
    obtain ⟨u, rfl, h2⟩ := pair_one qs
    rw [cntAt_of h1] at ha
    rw [cntAt_of h2] at hb
    exact eqW_tup ha hb (.cons (eqW_flat rfl) (.cons (eqW_flat (flat_cnt i)) .nil))
  | .sum k W, n, m, x, y, g, hx, hy => by
    obtain ⟨U, rfl, gU, _⟩ := g
    rw [nmC] at hx
    obtain ⟨_, a, vs, rfl, ha, ps⟩ := sho_cm hx
    obtain ⟨_, b, us, rfl, hb, qs⟩ := sho_cm hy
    obtain ⟨v, rfl, h1⟩ := pair_one ps
    obtain ⟨u, rfl, h2⟩ := pair_one qs
    obtain ⟨p, rfl, d1⟩ := sumAt_of (o := some (ascZ U)) h1
    obtain ⟨q, rfl, d2⟩ := sumAt_of (o := some U) h2
    exact eqW_tup ha hb (.cons (eqW_flat rfl) (.cons (eqW_asc gU.1 d1 d2) .nil))
  | .exch i mk, n, m, x, y, g, hx, hy => by
    obtain ⟨_, z, _, rfl⟩ := g
    rw [nmC] at hx
    obtain ⟨_, a, vs, rfl, ha, ps⟩ := sho_cm hx
    obtain ⟨_, b, us, rfl, hb, qs⟩ := sho_cm hy
    obtain ⟨v1, v2, rfl, h1, h2⟩ := pair_two ps
    obtain ⟨u1, u2, rfl, k1, k2⟩ := pair_two qs
    rw [cntAt_of h1] at ha
    rw [cntAt_of k1] at hb
    obtain ⟨p1, p2, rfl, e1, e2⟩ := markAt_of (o := some z) h2
    obtain ⟨q1, q2, rfl, f1, f2⟩ := markAt_of (o := some z) k2
    exact eqW_tup ha hb (.cons (eqW_flat rfl) (.cons (eqW_flat (flat_cnt i)) (.cons (eqW_tup e1 f1 (.cons (eqW_flat rfl) (.cons (eqW_tup e2 f2 (eqW_strs _)) .nil))) .nil)))
  | .tr cs, n, m, x, y, g, hx, hy => by
    have g : gdS cs := by simpa only [gdC] using g
    rw [nmC] at hx
    rw [dpC]
    obtain ⟨_, a, vs, rfl, ha, ps⟩ := sho_cm hx
    obtain ⟨_, b, us, rfl, hb, qs⟩ := sho_cm hy
    obtain ⟨v, rfl, h1⟩ := pair_one ps
    obtain ⟨u, rfl, h2⟩ := pair_one qs
    obtain ⟨_, p, xs, _, rfl, hp, pp⟩ := h1.ofList
    obtain ⟨_, q, ys, _, rfl, hq, qq⟩ := h2.ofList
    rw [show 2 * (dpS cs + 1) + 3 = 2 * dpS cs + 3 + 1 + 1 by omega]
    exact eqW_tup ha hb (.cons (eqW_flat rfl) (.cons (eqW_lst hp hq (eqW_nmS g (Nat.le_refl _) pp qq)) .nil))
theorem eqW_nmS {K : PySem.W.Frag} {H : Hp} : ∀ {cs : List Cm} {n m d : Nat} {xs ys : List V}, gdS cs → dpS cs ≤ d → Paired (Sho n H) xs (datS (nmS cs)) → Paired (Sho m H) ys (datS cs) → Paired (EqW K H (2 * d + 3)) xs ys
  | [], n, m, d, xs, ys, _, _, h1, h2 => by
    rw [nmS, datS] at h1
    rw [datS] at h2
    cases h1
    cases h2
    exact .nil
  | c :: cs, n, m, d, xs, ys, g, hd, h1, h2 => by
    have g : gdC c ∧ gdS cs := by simpa only [gdS] using g
    rw [nmS, datS] at h1
    rw [datS] at h2
    rw [dpS] at hd
    cases h1 with
    | cons r1 t1 =>
      cases h2 with
      | cons r2 t2 =>
        exact .cons (eqW_le (by have := Nat.le_max_left (dpC c) (dpS cs); omega) (eqW_nm g.1 r1 r2)) (eqW_nmS g.2 (Nat.le_trans (Nat.le_max_right _ _) hd) t1 t2)
end
end Vb
end L2

set_option Elab.async false
set_option linter.all false
set_option maxRecDepth 100000
set_option maxHeartbeats 4000000
/-! Vb, k88: the law's drawn prime, sums. -/
namespace L2
namespace Vb
open PySem PySem.Spec PyProof.Rows
abbrev sShuf : Stmt := topS 47
theorem but_new {a d : Addr} {H : Hp} {o : HO} (h : H d = none) : But a H (upd H d o) := but_same (same_new h)
theorem but_set {a d : Addr} {H H' : Hp} {o : HO} (b : But a H H') (n : d ≠ a) (h : H d = none) : But a H (upd H' d o) := fun c nc u e => by
  rw [upd_ne (ne_of_none e h)]
  exact b c nc u e
def spShuf : Sp := fun vs H Q _ => ∃ (a s : Addr) (xs : List V) (t : Nat), vs = [.ref a, .ref s] ∧ H s = some (.lst xs) ∧ s ≠ a ∧ xs.length ≤ 1000 ∧ Pur H a t ∧ t ≤ 100000 ∧
  ∀ (H' : Hp) (d : Addr) (ys : List V), But a H H' → Pur H' a (t + xs.length) → H d = none → H' d = some (.lst ys) → ys.Perm xs → Q (.ref d) H'
theorem scShuf : FnScope ["_law_purse_here", "_law_some", "_law_found", "_law_item"] ["_law_purse_here", "_law_some"] (defScope sShuf) := ⟨rfl, rfl, rfl, by decide +kernel, rfl, by decide +kernel, by decide +kernel⟩
section
variable {P : Program} {w : World} {K : PySem.W.Frag} {mg : Str → Option Value} {base : Heap}
theorem ok_shuf {f fD : Addr} {fd fdD : FuncData} (F : Fun K "_law_shuffled" "_law_shuffled" sShuf f fd) (FD : Fun K "_law_draw" "_law_draw" sDraw fD fdD) (GD : FnOk P w K mg base CX0 2 fD fdD ["_law_purse_here", "_law_many_here"] spDraw) (gD : mg "_law_draw" = some (.ref fD)) (gN : mg "len" = none) :
    FnOk P w K mg base CX0 3 f fd ["_law_purse_here", "_law_some"] spShuf := by
  have bD : Binds K fdD ["_law_purse_here", "_law_many_here"] [] := FD.binds fun _ _ _ _ _ _ us hl => match us, hl with | [_, _], _ => rfl
  refine F.ok scShuf (fun vs H Q E h => ?_) (fun cdv A outer s0 H vs Q E hr h => ?_)
  · obtain ⟨a, s, xs, t, rfl, _⟩ := h
    rfl
  · obtain ⟨a, s, xs, t, rfl, hs, nsa, lx, hp, t1, want⟩ := h
    refine ⟨_, pss_cons (ps_set (i := 2) scShuf.nd rfl (Or.inl rfl) (pe_lst pa_nil))
      (pss_cons (ps_for PassesOwn.never rfl (pi_list (pv 1)) (pg_name (i := 3) scShuf.nd rfl (Or.inl rfl))
        (pss_one (ps_expr (pe_bm PySem.F.plainAttrs_list PySem.F.slot_list_insert PySem.F.type_list_insert mt_insert (pv 2) (pa_cons (pe_call GD hr rfl gD FD.kp bD .nil pass0 (pa_cons (pv 0) (pa_cons (pe_op op_add (pe_callB call_len_seq (by rfl) gN PySem.boot_len (pa_cons (pv 2) pa_nil)) pe_int) pa_nil))) (pa_cons (pv 3) pa_nil))))))
      (pss_one (ps_ret (pv 2)))), ?_⟩
    refine ⟨by show 0 ≤ sizeLine; omega, fun d hd => ?_⟩
    have nad : a ≠ d := hp.ne hd
    refine ⟨_, rfl, s, rfl, ⟨_, SqL.of (same_new hd _ _ hs)⟩, ?_⟩
    refine for_list (xs := xs) (fun k σ H' => But a H H' ∧ Pur H' a (t + k) ∧ ∃ (ys : List V) (v : Option V), σ = [some (.ref a), some (.ref s), some (.ref d), v] ∧ H' d = some (.lst ys) ∧ ys.Perm (xs.take k))
      ⟨but_new hd, hp.same (same_new hd), [], _, rfl, upd_same, List.Perm.refl _⟩ (fun k σ H' _ z => SqL.of (z.1 s nsa _ hs)) ?_ ?_
    · rintro k x σ H' hx ⟨bt, hp', ys, v, rfl, hdl, pm⟩
      have kx : k < xs.length := (List.getElem?_eq_some_iff.mp hx).1
      have ly : ys.length = k := by
        rw [pm.length_eq, List.length_take]
        omega
      refine ⟨_, rfl, .inl ⟨rfl, _, SqL.of hdl⟩, _, rfl, _, rfl, d, _, rfl, .inl (SqL.of hdl), _, _, rfl, rfl, ?_⟩
      refine ⟨a, _, t + k, rfl, by omega, by omega, hp', by omega, fun H2 e e0 e1 b2 hp2 => ?_⟩
      have hdl2 : H2 d = some (.lst ys) := b2 d (Ne.symm nad) _ hdl
      refine ⟨_, rfl, d, ys, e, x, rfl, rfl, hdl2, by rw [ly, sizeLine_eq]; omega, e0, by omega, ?_⟩
      refine ⟨but_set (bt.trans b2) (Ne.symm nad) hd, ?_, _, _, rfl, upd_same, ?_⟩
      · obtain ⟨q1, q2, q3, q4, e, q5, q6⟩ := hp2
        exact ⟨q1, q2, q3, q4, (upd_ne nad).trans e, q5, by omega⟩
      · rw [List.take_succ, hx]
        have z : (ys.take e.toNat ++ [x] ++ ys.drop e.toNat).Perm (ys ++ [x]) := by
          rw [List.append_assoc]
          refine ((List.perm_append_comm (l₁ := [x]) (l₂ := ys.drop e.toNat)).append_left _).trans ?_
          rw [← List.append_assoc, List.take_append_drop]
        exact z.trans (pm.append_right _)
    · rintro σ H' ⟨bt, hp', ys, v, rfl, hdl, pm⟩
      rw [List.take_length] at pm
      exact ⟨_, rfl, want H' d ys bt hp' hd hdl pm⟩
end
def PRIMES6 : List Int := [2, 3, 5, 7, 11, 65537]
def spDp : Sp := fun vs H Q _ => ∃ (a : Addr) (n : Nat), vs = [.ref a] ∧ Pur H a n ∧ n ≤ 1000000 ∧ ∀ (H' : Hp) (p : Int), But a H H' → Pur H' a (n + 1) → 2 ≤ p → p ≤ 65537 → Q (.int p) H'
def NAMES : List Str := ["x", "y", "c.d.z", "#2", "@0.11"]
def MORE4 : List Str := ["x", "w", "c.x", "#0"]
theorem names_key : ∀ k ∈ NAMES, k ∈ KEYS := by decide +kernel
theorem more_key : ∀ k ∈ MORE4, k ∈ KEYS := by decide +kernel
/-- so far drawn -/
def Some0 (W : SumZ) : Prop := (W.map (·.1)).Nodup ∧ ∀ q ∈ W, ((q.1 = "" ∧ 1 ≤ q.2) ∨ (q.1 ∈ KEYS ∧ 0 ≤ q.2)) ∧ q.2 < 10 ^ 5
theorem gd_put {W : SumZ} {x : Str} {n : Int} (h : GdW W) (k : ((x = "" ∧ 1 ≤ n) ∨ (x ∈ KEYS ∧ 0 ≤ n)) ∧ n < 10 ^ 5) : GdW (putZ W x n) := by
  refine ⟨put_nd h.1 x n, fun q m => ?_⟩
  rcases put_mem m with m | rfl
  · exact h.2 q m
  · exact k
theorem pe_imp {X : Cx} {e : Expr} {te te' : TE} (h : PE X e te) (L : ∀ σ H Q, te' σ H Q → te σ H Q) : PE X e te' := ⟨fun pins s σ H Q I k => h.run pins s σ H Q I (L σ H Q k)⟩
/-- some names, drawn -/
def tSome (a l : Addr) : TE := fun σ H Q => ∃ n, Pur H a n ∧ n ≤ 90000 ∧ H l = some (.lst (NAMES.map V.str)) ∧ l ≠ a ∧ σ[0]? = some (some (.ref a)) ∧ σ[2]? = some (some (.ref l)) ∧
  ∀ (H2 : Hp) (s : Addr) (ns : List Str), But a H H2 → Pur H2 a (n + 2) → H2 s = some (.lst (ns.map V.str)) → s ≠ a → (∀ x ∈ ns, x ∈ KEYS) → ns.length ≤ 6 → Q (.ref s) H2
theorem but_free {a d : Addr} {H H' : Hp} (b : But a H H') (n : d ≠ a) (h : H' d = none) : H d = none := by
  cases e : H d with
  | none => rfl
  | some o =>
    rw [b d n o e] at h
    cases h
theorem some_imp {a l : Addr} (σ : St) (H : Hp) (Q : VK) (h : tSome a l σ H Q) : tIf (tTest (tOp rEq (tCall spDraw [] E0 (tCons (tVar 0) (tCons (tC (.int 6)) tNil))) (tC (.int 0))))
    (tOp rCat (tVar 2) (tLst (tCons (tCall spOneOf [] E0 (tCons (tVar 0) (tCons (tLst (tCons (tC (.str "x")) (tCons (tC (.str "w")) (tCons (tC (.str "c.x")) (tCons (tC (.str "#0")) tNil))))) tNil))) tNil))) (tVar 2) σ H Q := by
  obtain ⟨n, hp, hn, hl, la, s0, s2, want⟩ := h
  refine ⟨_, s0, a, 6, n, rfl, by decide, by decide, hp, by omega, fun H1 d d0 d1 b1 hp1 => ?_⟩
  refine ⟨rfl, _, rfl, ?_⟩
  have hl1 := b1 l la _ hl
  cases e : decide (V.int d = V.int 0) with
  | true =>
    refine iteT ⟨_, s2, _, s0, by show 4 ≤ sizeLine; rw [sizeLine_eq]; decide, fun q hq => ?_⟩
    have nqa : q ≠ a := fun e => (hp1.ne hq) e.symm
    refine ⟨a, q, MORE4.map V.str, n + 1, rfl, hp1.same (same_new hq), by omega, upd_same, nqa, by decide, by decide, fun j x H2 hx b2 hp2 => ?_⟩
    rw [List.getElem?_map] at hx
    obtain ⟨y, hy, rfl⟩ := Option.map_eq_some_iff.mp hx
    have hl2 := b2 l la _ ((same_new hq) _ _ hl1)
    refine ⟨one_fit, fun r hr => ⟨l, r, _, _, rfl, rfl, (same_new hr) _ _ hl2, upd_same, by show 5 + 1 ≤ sizeLine; rw [sizeLine_eq]; decide, fun t ht => ?_⟩⟩
    have nta : t ≠ a := fun e => ((hp2.same (same_new hr)).ne ht) e.symm
    refine want _ t (NAMES ++ [y]) (But.trans b1 (But.trans (but_new hq) (But.trans b2 (But.trans (but_new hr) (but_new ht))))) ((hp2.same (same_new hr)).same (same_new ht)) ?_ nta (fun x m => ?_) (by show 5 + 1 ≤ 6; decide)
    · rw [upd_same, List.map_append]
      rfl
    · rcases List.mem_append.mp m with m | m
      · exact names_key x m
      · rw [List.mem_singleton.mp m]
        exact more_key y (List.mem_of_getElem? hy)
  | false =>
    exact iteF ⟨_, s2, want H1 l NAMES b1 (hp1.mono (by omega)) hl1 la names_key (by decide)⟩
def leastZ (k : Fin 4) : Int := if (!decide (V.str (sumW k) = V.str "put")) = true then 1 else 0
theorem least_le (k : Fin 4) : 0 ≤ leastZ k ∧ leastZ k ≤ 1 := by
  unfold leastZ
  split <;> decide
theorem mem_cut {xs : List V} {lo hi : Option Int} {y : V} (h : y ∈ cutV xs lo hi) : y ∈ xs := List.mem_of_mem_drop (List.mem_of_mem_take h)
theorem cut_len {xs : List V} {lo hi : Option Int} : (cutV xs lo hi).length ≤ xs.length := by
  unfold cutV
  rw [List.length_take, List.length_drop]
  omega
def spTd : Sp := fun vs H Q _ => ∃ (a : Addr) (p : Int) (l : Addr) (k : Fin 4) (n : Nat), vs = [.ref a, .int p, .ref l, .str (sumW k)] ∧ Pur H a n ∧ n ≤ 90000 ∧ 2 ≤ p ∧ p ≤ 65537 ∧ H l = some (.lst (NAMES.map V.str)) ∧ l ≠ a ∧
  ∀ (H' : Hp) (d : Addr) (W : SumZ), But a H H' → Pur H' a (n + 20) → H d = none → Dct H' d W → GdW W → W.length ≤ 4 → Q (.ref d) H'
abbrev sDp : Stmt := topS 48
abbrev nDp : List Str := ["_law_purse_here"]
theorem scDp : FnScope nDp ["_law_purse_here"] (defScope sDp) := ⟨rfl, rfl, rfl, by decide +kernel, rfl, by decide +kernel, by decide +kernel⟩
-- cells set()
section
variable {P : Program} {w : World} {K : PySem.W.Frag} {mg : Str → Option Value} {base : Heap}
theorem ok_dp {f fLone_of : Addr} {fd fdLone_of : FuncData} (F : Fun K "_law_drawn_prime" "_law_drawn_prime" sDp f fd)
    (FLone_of : Fun K "_law_one_of" "_law_one_of" sOneOf fLone_of fdLone_of) (GLone_of : FnOk P w K mg base CX0 3 fLone_of fdLone_of ["_law_purse_here", "_law_some"] spOneOf) (gLone_of : mg "_law_one_of" = some (.ref fLone_of)) :
    FnOk P w K mg base CX0 4 f fd ["_law_purse_here"] spDp := by
  have bLone_of : Binds K fdLone_of ["_law_purse_here", "_law_some"] [] := FLone_of.binds fun _ _ _ _ _ _ us hl => match us, hl with | [_, _], _ => rfl
  refine F.ok scDp (fun vs H Q E h => ?_) (fun cdv A outer s0 H vs Q E hr h => ?_)
  · obtain ⟨a, n, rfl, _⟩ := h
    rfl
  · obtain ⟨a, n, rfl, hp, hn, want⟩ := h
    refine ⟨_, (pss_one (ps_ret (pe_call GLone_of (hr.mono (by decide)) rfl gLone_of FLone_of.kp bLone_of .nil pass0 (pa_cons (pv 0) (pa_cons (pe_lst (pa_cons pe_int (pa_cons pe_int (pa_cons pe_int (pa_cons pe_int (pa_cons pe_int (pa_cons pe_int pa_nil))))))) pa_nil))))), ?_⟩
    refine ⟨_, rfl, by show 6 ≤ sizeLine; rw [sizeLine_eq]; decide, fun l hl => ?_⟩
    have nla : l ≠ a := fun e => (hp.ne hl) e.symm
    refine ⟨a, l, PRIMES6.map V.int, n, rfl, hp.same (same_new hl), by omega, upd_same, nla, by decide, by decide, fun j x H' hx b hp' => ?_⟩
    rw [List.getElem?_map] at hx
    obtain ⟨q, hq, rfl⟩ := Option.map_eq_some_iff.mp hx
    have : ∀ q ∈ PRIMES6, 2 ≤ q ∧ q ≤ 65537 := by decide
    obtain ⟨q0, q1⟩ := this q (List.mem_of_getElem? hq)
    exact want H' q (But.trans (but_same (same_new hl)) b) hp' q0 q1
end
abbrev sTd : Stmt := topS 49
abbrev nTd : List Str := ["_law_purse_here", "_law_prime", "_law_names", "_law_word", "_law_some", "_law_least", "_law_found", "_law_name"]
theorem scTd : FnScope nTd ["_law_purse_here", "_law_prime", "_law_names", "_law_word"] (defScope sTd) := ⟨rfl, rfl, rfl, by decide +kernel, rfl, by decide +kernel, by decide +kernel⟩
-- cells set()
section
variable {P : Program} {w : World} {K : PySem.W.Frag} {mg : Str → Option Value} {base : Heap}
theorem ok_td {f fLdraw fLone_of fLshuffled : Addr} {fd fdLdraw fdLone_of fdLshuffled : FuncData} (F : Fun K "_law_told_dict" "_law_told_dict" sTd f fd)
    (FLdraw : Fun K "_law_draw" "_law_draw" sDraw fLdraw fdLdraw) (GLdraw : FnOk P w K mg base CX0 2 fLdraw fdLdraw ["_law_purse_here", "_law_many_here"] spDraw) (gLdraw : mg "_law_draw" = some (.ref fLdraw))
    (FLone_of : Fun K "_law_one_of" "_law_one_of" sOneOf fLone_of fdLone_of) (GLone_of : FnOk P w K mg base CX0 3 fLone_of fdLone_of ["_law_purse_here", "_law_some"] spOneOf) (gLone_of : mg "_law_one_of" = some (.ref fLone_of))
    (FLshuffled : Fun K "_law_shuffled" "_law_shuffled" sShuf fLshuffled fdLshuffled) (GLshuffled : FnOk P w K mg base CX0 3 fLshuffled fdLshuffled ["_law_purse_here", "_law_some"] spShuf) (gLshuffled : mg "_law_shuffled" = some (.ref fLshuffled)) (gInt : mg "int" = none) :
    FnOk P w K mg base CX0 5 f fd ["_law_purse_here", "_law_prime", "_law_names", "_law_word"] spTd := by
  have bLdraw : Binds K fdLdraw ["_law_purse_here", "_law_many_here"] [] := FLdraw.binds fun _ _ _ _ _ _ us hl => match us, hl with | [_, _], _ => rfl
  have bLone_of : Binds K fdLone_of ["_law_purse_here", "_law_some"] [] := FLone_of.binds fun _ _ _ _ _ _ us hl => match us, hl with | [_, _], _ => rfl
  have bLshuffled : Binds K fdLshuffled ["_law_purse_here", "_law_some"] [] := FLshuffled.binds fun _ _ _ _ _ _ us hl => match us, hl with | [_, _], _ => rfl
  refine F.ok scTd (fun vs H Q E h => ?_) (fun cdv A outer s0 H vs Q E hr h => ?_)
  · obtain ⟨a, p, l, k, n, rfl, _⟩ := h
    rfl
  · obtain ⟨a, p, l, k, n, rfl, hp, hn, p0, p1, hl, la, want⟩ := h
    refine ⟨_, (pss_cons (ps_set (i := 4) scTd.nd rfl (Or.inl rfl) (pe_imp (te' := tSome a l) (pe_ifExp (pt_cmpR op_eq (pe_call GLdraw (hr.mono (by decide)) rfl gLdraw FLdraw.kp bLdraw .nil pass0 (pa_cons (pv 0) (pa_cons pe_int pa_nil))) pe_int (nomark _)) (pe_op op_cat (pv 2) (pe_lst (pa_cons (pe_call GLone_of (hr.mono (by decide)) rfl gLone_of FLone_of.kp bLone_of .nil pass0 (pa_cons (pv 0) (pa_cons (pe_lst (pa_cons pe_str (pa_cons pe_str (pa_cons pe_str (pa_cons pe_str pa_nil))))) pa_nil))) pa_nil))) (pv 2)) some_imp))
      (pss_cons (ps_par (i := 5) (j := 6) (by rfl) scTd.nd rfl rfl (by decide) rfl rfl (pa_cons (pe_callTy call_int1 (by rfl) gInt boot_int (pa_cons (pe_cmpR op_ne (pv 3) pe_str (nomark _)) pa_nil)) (pa_cons pe_dnewK pa_nil)) (by rfl))
      (pss_cons (ps_for PassesOwn.never rfl (pi_list (pe_slice sl_list (pe_call GLshuffled (hr.mono (by decide)) rfl gLshuffled FLshuffled.kp bLshuffled .nil pass0 (pa_cons (pv 0) (pa_cons (pv 4) pa_nil))) po_none (po_some (pe_call GLdraw (hr.mono (by decide)) rfl gLdraw FLdraw.kp bLdraw .nil pass0 (pa_cons (pv 0) (pa_cons pe_int pa_nil)))))) (pg_name (i := 7) scTd.nd rfl (Or.inl rfl))
        (pss_one (ps_dput (huO hr) (pv 6) (pv 7) (pe_op op_add (pv 5) (pe_call GLdraw (hr.mono (by decide)) rfl gLdraw FLdraw.kp bLdraw .nil pass0 (pa_cons (pv 0) (pa_cons (pe_op op_add (pe_op op_sub (pv 1) (pv 5)) (pe_callTy call_int1 (by rfl) gInt boot_int (pa_cons (pe_cmpR op_eq (pe_call GLdraw (hr.mono (by decide)) rfl gLdraw FLdraw.kp bLdraw .nil pass0 (pa_cons (pv 0) (pa_cons pe_int pa_nil))) pe_int (nomark _)) pa_nil))) pa_nil)))) (by rfl))))
      (pss_cons (ps_if (PW.pt (pw_and (pt_cmpR op_eq (pv 3) pe_str (nomark _)) (pw_and1 (pt_cmpR op_eq (pe_call GLdraw (hr.mono (by decide)) rfl gLdraw FLdraw.kp bLdraw .nil pass0 (pa_cons (pv 0) (pa_cons pe_int pa_nil))) pe_int (nomark _)))))
        (pss_one (ps_dput (huO hr) (pv 6) pe_str (pe_op op_add pe_int (pe_call GLdraw (hr.mono (by decide)) rfl gLdraw FLdraw.kp bLdraw .nil pass0 (pa_cons (pv 0) (pa_cons (pe_op op_sub (pv 1) pe_int) pa_nil)))) (by rfl)))
        pss_nil)
      (pss_one (ps_ret (pv 6))))))), ?_⟩
    refine ⟨n, hp, hn, hl, la, rfl, rfl, fun H1 s ns b1 hp1 hs sa key ln => ?_⟩
    obtain ⟨lz0, lz1⟩ := least_le k
    refine ⟨_, rfl, rfl, .inr ⟨_, rfl, fun d hd => ⟨_, _, rfl, ?_⟩⟩⟩
    have nda : d ≠ a := fun e => (hp1.ne hd) e.symm
    have hs1 : upd H1 d (.dK []) s = some (.lst (ns.map V.str)) := (same_new hd) _ _ hs
    have hd0 : H d = none := but_free b1 nda hd
    refine ⟨_, rfl, _, rfl, a, s, ns.map V.str, n + 2, rfl, hs1, sa, by rw [List.length_map]; omega, hp1.same (same_new hd), by omega, fun H2 t ys b2 hp2 ht hy pm => ?_⟩
    rw [List.length_map] at hp2
    have nta : t ≠ a := fun e => ((hp1.same (same_new hd)).ne ht) e.symm
    refine ⟨_, rfl, a, 4, _, rfl, by decide, by decide, hp2, by omega, fun H3 e e0 e1 b3 hp3 => ⟨_, rfl, ?_⟩⟩
    refine ⟨t, ys, rfl, SqL.of (b3 t nta _ hy), fun r hr => ?_⟩
    have nra : r ≠ a := fun e => (hp3.ne hr) e.symm
    have hd3 : H3 d = some (.dK []) := b3 d nda _ (b2 d nda _ upd_same)
    have nrd : r ≠ d := fun z => by
      rw [z, hd3] at hr
      cases hr
    have bH : But a H (upd H3 r (.lst (cutV ys none (some e)))) := But.trans b1 (But.trans (but_new hd) (But.trans b2 (But.trans b3 (but_new hr))))
    refine ⟨r, rfl, ⟨_, SqL.of upd_same⟩, ?_⟩
    have lys : ys.length ≤ 6 := by rw [pm.length_eq, List.length_map]; exact ln
    refine for_list (xs := cutV ys none (some e)) (fun i σ H' => ∃ (W : SumZ) (o7 : Option V), σ = [some (.ref a), some (.int p), some (.ref l), some (.str (sumW k)), some (.ref s), some (.int (leastZ k)), some (.ref d), o7] ∧ But a H H' ∧ Pur H' a (n + 2 + ns.length + 1 + 2 * i) ∧ H' d = some (.dK (kvsZ W)) ∧ GdW W ∧ W.length ≤ i ∧ H' r = some (.lst (cutV ys none (some e))))
      ⟨[], _, rfl, bH, hp3.same (same_new hr), (upd_ne (Ne.symm nrd)).trans hd3, ⟨.nil, fun q m => nomatch m⟩, Nat.zero_le _, upd_same⟩ (fun i σ H' _ z => by obtain ⟨_, _, _, _, _, _, _, _, z⟩ := z; exact SqL.of z) ?_ ?_
    · rintro i v σ H4 hv ⟨W, o7, rfl, b4, hp4, hd4, gW, lW, hr4⟩
      have mv := mem_cut (List.mem_of_getElem? hv)
      obtain ⟨x, mx, rfl⟩ := List.mem_map.mp (pm.mem_iff.mp mv)
      have li : i < 6 := by
        have := (List.getElem?_eq_some_iff.mp hv).1
        have := cut_len (xs := ys) (lo := none) (hi := some e)
        omega
      refine ⟨_, rfl, _, rfl, _, rfl, _, rfl, _, _, rfl, rfl, ?_⟩
      refine ⟨_, rfl, a, 9, _, rfl, by decide, by decide, hp4, by omega, fun H5 f f0 f1 b5 hp5 => ⟨rfl, .inr ⟨_, rfl, _, _, rfl, rfl, ?_⟩⟩⟩
      have bb : ∀ b : Bool, 0 ≤ (if b = true then (1 : Int) else 0) ∧ (if b = true then (1 : Int) else 0) ≤ 1 := by decide
      obtain ⟨bb0, bb1⟩ := bb (decide (V.int f = V.int 0))
      refine ⟨a, _, _, rfl, ?_, ?_, hp5, by omega, fun H6 g g0 g1 b6 hp6 => ?_⟩
      · show 0 < p - leastZ k + (if decide (V.int f = V.int 0) = true then (1 : Int) else 0)
        omega
      · show p - leastZ k + (if decide (V.int f = V.int 0) = true then (1 : Int) else 0) < 100000
        omega
      have g1 : g < p - leastZ k + (if decide (V.int f = V.int 0) = true then (1 : Int) else 0) := g1
      have hd6 := b6 d nda _ (b5 d nda _ hd4)
      refine ⟨_, _, rfl, rfl, _, rfl, _, rfl, d, _, rfl, DPut.k (k := Sum.inr x) hd6 (by rw [kvs_len, sizeLine_eq]; omega), ?_⟩
      rw [put_kvs]
      have hp7 : Pur (upd H6 d (.dK (kvsZ (putZ W x (leastZ k + g))))) a (n + 2 + ns.length + 1 + 2 * (i + 1)) := by
        have := hp6.but (but_upd (o := .dK (kvsZ (putZ W x (leastZ k + g)))) (m := d)) (Ne.symm nda)
        exact this.mono (by omega)
      refine ⟨putZ W x (leastZ k + g), _, rfl, ?_, hp7, upd_same, gd_put gW ⟨.inr ⟨key x mx, by omega⟩, by omega⟩, by have := put_len W x (leastZ k + g); omega, ?_⟩
      · intro c nc o ho
        have ncd : c ≠ d := fun z => by
          rw [z, hd0] at ho
          cases ho
        rw [upd_ne ncd]
        exact b6 c nc o (b5 c nc o (b4 c nc o ho))
      · rw [upd_ne nrd]
        exact b6 r nra _ (b5 r nra _ hr4)
    · rintro σ H4 ⟨W, o7, rfl, b4, hp4, hd4, gW, lW, hr4⟩
      have lc : (cutV ys none (some e)).length ≤ 6 := Nat.le_trans cut_len lys
      have lc3 : (cutV ys none (some e)).length ≤ 3 := by
        obtain ⟨j, rfl⟩ := Int.eq_ofNat_of_zero_le e0
        rw [show (some ((j : Nat) : Int)) = some (j : Int) from rfl, cut_take, List.length_take]
        omega
      refine ⟨_, rfl, rfl, _, rfl, ?_⟩
      cases w : decide (V.str (sumW k) = V.str "read") with
      | false => exact iteF (iteF ⟨_, rfl, want H4 d W b4 (hp4.mono (by omega)) hd0 hd4 gW (by omega)⟩)
      | true =>
        refine iteT ⟨_, rfl, a, 3, _, rfl, by decide, by decide, hp4, by omega, fun H5 f f0 f1 b5 hp5 => ⟨rfl, _, rfl, ?_⟩⟩
        have hd5 := b5 d nda _ hd4
        cases w2 : decide (V.int f = V.int 0) with
        | false => exact iteF ⟨_, rfl, want H5 d W (But.trans b4 b5) (hp5.mono (by omega)) hd0 hd5 gW (by omega)⟩
        | true =>
          refine iteT ⟨_, rfl, _, rfl, _, _, rfl, rfl, a, _, _, rfl, by omega, by omega, hp5, by omega, fun H6 g g0 g1 b6 hp6 => ?_⟩
          have hd6 := b6 d nda _ hd5
          refine ⟨_, _, rfl, rfl, _, rfl, d, _, rfl, DPut.k (k := Sum.inr ("" : Str)) hd6 (by rw [kvs_len, sizeLine_eq]; omega), ?_⟩
          rw [put_kvs]
          refine ⟨_, rfl, want _ d (putZ W "" (1 + g)) (fun c nc o ho => ?_) ?_ hd0 upd_same (gd_put gW ⟨.inl ⟨rfl, by omega⟩, by omega⟩) (by have := put_len W "" (1 + g); omega)⟩
          · have ncd : c ≠ d := fun z => by
              rw [z, hd0] at ho
              cases ho
            rw [upd_ne ncd]
            exact b6 c nc o (b5 c nc o (b4 c nc o ho))
          · exact (hp6.but (but_upd (m := d)) (Ne.symm nda)).mono (by omega)
end
end Vb
end L2

set_option Elab.async false
set_option linter.all false
set_option maxRecDepth 100000
set_option maxHeartbeats 4000000
/-! Vb, k88: the law's commands. -/
namespace L2
namespace Vb
open PySem PySem.Spec PyProof.Rows
/-- the heap without some objects -/
def mskL (os : List Addr) (H : Hp) : Hp := fun b => if b ∈ os then none else H b
theorem mskL_ne {os : List Addr} {H : Hp} {b : Addr} (h : b ∉ os) : mskL os H b = H b := if_neg h
theorem mskL_of {os : List Addr} {H : Hp} {b : Addr} {o : HO} (e : mskL os H b = some o) : b ∉ os ∧ H b = some o := by
  unfold mskL at e
  split at e
  · cases e
  · next q => exact ⟨q, e⟩
theorem mskL_but {os : List Addr} {H H' : Hp} {a : Addr} (m : a ∈ os) (b : But a H H') : Same (mskL os H) (mskL os H') := fun c o e => by
  obtain ⟨n, e⟩ := mskL_of e
  rw [mskL_ne n]
  exact b c (fun z => n (by rw [z]; exact m)) o e
theorem mskL_same {os : List Addr} {H H' : Hp} (b : Same H H') : Same (mskL os H) (mskL os H') := fun c o e => by
  obtain ⟨n, e⟩ := mskL_of e
  rw [mskL_ne n]
  exact b c o e
def There (os : List Addr) (H : Hp) : Prop := ∀ b ∈ os, ∃ o, H b = some o
theorem There.nin {os : List Addr} {H : Hp} (t : There os H) {p : Addr} (h : H p = none) : p ∉ os := fun m => by
  obtain ⟨o, e⟩ := t p m
  rw [h] at e
  cases e
theorem There.new {os : List Addr} {H : Hp} (t : There os H) {p : Addr} (h : H p = none) {o : HO} : mskL os (upd H p o) p = some o := (mskL_ne (t.nin h)).trans upd_same
theorem There.but {os : List Addr} {H H' : Hp} {a : Addr} {n : Nat} (t : There os H) (b : But a H H') (hp : Pur H' a n) : There os H' := fun c m => by
  by_cases q : c = a
  · rw [q]
    obtain ⟨_, _, _, _, e, _⟩ := hp
    exact ⟨_, e⟩
  · obtain ⟨o, e⟩ := t c m
    exact ⟨o, b c q o e⟩
theorem There.same {os : List Addr} {H H' : Hp} (t : There os H) (b : Same H H') : There os H' := fun c m => (t c m).elim fun o e => ⟨o, b c o e⟩
def MksAt (os : List Addr) (H : Hp) (k : Addr) : Prop := ∃ ms : List V, H k = some (.lst ms) ∧ ms.length = 3 ∧ ∀ v ∈ ms, ∃ m ∈ MARKS, MarkAt (mskL os H) v (some m)
theorem MarkAt.up {H H' : Hp} {v : V} {o : Option Mk} (h : MarkAt H v o) (s : Same H H') : MarkAt H' v o := by
  cases o with
  | none => exact h
  | some m =>
    obtain ⟨a, b, e, h1, h2⟩ := h
    exact ⟨a, b, e, s _ _ h1, s _ _ h2⟩
theorem MksAt.but {os : List Addr} {H H' : Hp} {k a : Addr} (h : MksAt os H k) (m : a ∈ os) (b : But a H H') (n : k ≠ a) : MksAt os H' k := by
  obtain ⟨ms, e, l, r⟩ := h
  exact ⟨ms, b k n _ e, l, fun v mv => (r v mv).elim fun x z => ⟨x, z.1, z.2.up (mskL_but m b)⟩⟩
def Dn : Nat → Nat
  | 0 => 30
  | j + 1 => 30 + 3 * Dn j
def Nn : Nat → Nat
  | 0 => 1
  | j + 1 => 2 + 3 * Nn j
theorem dn_ge : ∀ j, 30 ≤ Dn j
  | 0 => Nat.le_refl _
  | j + 1 => by
    unfold Dn
    omega
theorem nn_ge : ∀ j, 1 ≤ Nn j
  | 0 => Nat.le_refl _
  | j + 1 => by
    unfold Nn
    omega
def spLc (j : Nat) : Sp := fun vs H Q _ => ∃ (a : Addr) (p : Int) (l k : Addr) (n dp : Nat) (os : List Addr), vs = [.ref a, .int p, .ref l, .ref k, .int (dp : Int)] ∧ dp ≤ j ∧ Pur H a n ∧ n + Dn j ≤ 90000 ∧ 2 ≤ p ∧ p ≤ 65537 ∧ H l = some (.lst (NAMES.map V.str)) ∧ l ≠ a ∧
  MksAt os H k ∧ k ≠ a ∧ a ∈ os ∧ There os H ∧ ∀ H' v c, But a H H' → Pur H' a (n + Dn j) → Sho (2 * j + 4) (mskL os H') v (datC c) → gdC c → dpC c ≤ j → nlC c ≤ Nn j → Q v H'
def spLcP : Nat → Sp
  | 0 => fun _ _ _ _ => False
  | j + 1 => spLc j
def WAYS5 : List (Fin 4) := [0, 0, 1, 2, 3]
def NNC : List Str := ["number", "number", "choice"]
def UNDO6 : List Str := ["undo", "redo", "here", "beats", "would", "undo"]
theorem nnc_ltr : ∀ x ∈ NNC, ∃ b, x = letW b := by
  intro x m
  rcases List.mem_cons.mp m with rfl | m
  · exact ⟨true, rfl⟩
  rcases List.mem_cons.mp m with rfl | m
  · exact ⟨true, rfl⟩
  · rw [List.mem_singleton.mp m]
    exact ⟨false, rfl⟩
theorem undo_bare : ∀ x ∈ UNDO6, x ∈ BARE_W := by decide +kernel
theorem go_bare : ("go" : Str) ∈ BARE_W := by decide +kernel
theorem nl_one {c : Cm} (h : ∀ cs, c ≠ .tr cs) : nlC c = 1 ∧ dpC c = 0 := by
  cases c with
  | tr cs => exact (h cs rfl).elim
  | bare w => exact ⟨by rw [nlC], by rw [dpC]; intro cs z; cases z⟩
  | ltr b n => exact ⟨by rw [nlC], by rw [dpC]; intro cs z; cases z⟩
  | sum k W => exact ⟨by rw [nlC], by rw [dpC]; intro cs z; cases z⟩
  | exch n m => exact ⟨by rw [nlC], by rw [dpC]; intro cs z; cases z⟩
theorem two_fit : 2 ≤ sizeLine := by rw [sizeLine_eq]; decide
theorem three_fit : 3 ≤ sizeLine := by rw [sizeLine_eq]; decide
theorem gdS_app : ∀ {a b : List Cm}, gdS a → gdS b → gdS (a ++ b)
  | [], b, _, h => h
  | c :: a, b, h, k => by
    rw [gdS] at h
    show gdS (c :: (a ++ b))
    rw [gdS]
    exact ⟨h.1, gdS_app h.2 k⟩
theorem dpS_app : ∀ (a b : List Cm), dpS (a ++ b) = max (dpS a) (dpS b)
  | [], b => by rw [dpS, Nat.zero_max]; rfl
  | c :: a, b => by
    show dpS (c :: (a ++ b)) = _
    rw [dpS, dpS, dpS_app a b, Nat.max_assoc]
abbrev sLc : Stmt := topS 50
abbrev nLc : List Str := ["_law_purse_here", "_law_prime", "_law_names", "_law_marks", "_law_deep", "_law_way", "_law_word", "_law_turn"]
theorem scLc : FnScope nLc ["_law_purse_here", "_law_prime", "_law_names", "_law_marks", "_law_deep"] (defScope sLc) := ⟨rfl, rfl, rfl, by decide +kernel, rfl, by decide +kernel, by decide +kernel⟩
-- cells {'_law_names', '_law_deep', '_law_prime', '_law_marks', '_law_purse_here'}
section
variable {P : Program} {w : World} {K : PySem.W.Frag} {mg : Str → Option Value} {base : Heap}
theorem ok_lc {f fLdraw fLone_of fLtold_dict fLcommand : Addr} {fd fdLdraw fdLone_of fdLtold_dict fdLcommand : FuncData} (F : Fun K "_law_command" "_law_command" sLc f fd)
    (FLdraw : Fun K "_law_draw" "_law_draw" sDraw fLdraw fdLdraw) (GLdraw : FnOk P w K mg base CX0 2 fLdraw fdLdraw ["_law_purse_here", "_law_many_here"] spDraw) (gLdraw : mg "_law_draw" = some (.ref fLdraw))
    (FLone_of : Fun K "_law_one_of" "_law_one_of" sOneOf fLone_of fdLone_of) (GLone_of : FnOk P w K mg base CX0 3 fLone_of fdLone_of ["_law_purse_here", "_law_some"] spOneOf) (gLone_of : mg "_law_one_of" = some (.ref fLone_of))
    (FLtold_dict : Fun K "_law_told_dict" "_law_told_dict" sTd fLtold_dict fdLtold_dict) (GLtold_dict : FnOk P w K mg base CX0 5 fLtold_dict fdLtold_dict ["_law_purse_here", "_law_prime", "_law_names", "_law_word"] spTd) (gLtold_dict : mg "_law_told_dict" = some (.ref fLtold_dict))
    (FLcommand : Fun K "_law_command" "_law_command" sLc fLcommand fdLcommand) (j : Nat) (GLcommand : FnOk P w K mg base CX0 (j + 5) fLcommand fdLcommand ["_law_purse_here", "_law_prime", "_law_names", "_law_marks", "_law_deep"] (spLcP j)) (gLcommand : mg "_law_command" = some (.ref fLcommand)) (gRange : mg "range" = none) :
    FnOk P w K mg base CX0 (j + 5 + 1) f fd ["_law_purse_here", "_law_prime", "_law_names", "_law_marks", "_law_deep"] (spLc j) := by
  have bLdraw : Binds K fdLdraw ["_law_purse_here", "_law_many_here"] [] := FLdraw.binds fun _ _ _ _ _ _ us hl => match us, hl with | [_, _], _ => rfl
  have bLone_of : Binds K fdLone_of ["_law_purse_here", "_law_some"] [] := FLone_of.binds fun _ _ _ _ _ _ us hl => match us, hl with | [_, _], _ => rfl
  have bLtold_dict : Binds K fdLtold_dict ["_law_purse_here", "_law_prime", "_law_names", "_law_word"] [] := FLtold_dict.binds fun _ _ _ _ _ _ us hl => match us, hl with | [_, _, _, _], _ => rfl
  have bLcommand : Binds K fdLcommand ["_law_purse_here", "_law_prime", "_law_names", "_law_marks", "_law_deep"] [] := FLcommand.binds fun _ _ _ _ _ _ us hl => match us, hl with | [_, _, _, _, _], _ => rfl
  refine F.ok scLc (fun vs H Q E h => ?_) (fun cdv A outer s0 H vs Q E hr h => ?_)
  · obtain ⟨a, p, l, k, n, dp, os, rfl, _⟩ := h
    rfl
  · obtain ⟨a, p, l, k, n, dp, os, rfl, hd, hp, hn, p0, p1, hl, la, mk, ka, ma, th, want⟩ := h
    refine ⟨_, (pss_cons (ps_set (i := 5) scLc.nd rfl (Or.inl rfl) (pe_call GLdraw (hr.mono (by omega)) rfl gLdraw FLdraw.kp bLdraw .nil pass0 (pa_cons (pv 0) (pa_cons pe_int pa_nil))))
      (pss_cons (ps_if (pt_cmpR op_lt (pv 5) pe_int (nomark _))
        (pss_one (ps_ret (pe_tup (pa_cons pe_str pa_nil))))
        pss_nil)
      (pss_cons (ps_if (pt_cmpR op_lt (pv 5) pe_int (nomark _))
        (pss_cons (ps_set (i := 6) scLc.nd rfl (Or.inl rfl) (pe_call GLone_of (hr.mono (by omega)) rfl gLone_of FLone_of.kp bLone_of .nil pass0 (pa_cons (pv 0) (pa_cons (pe_lst (pa_cons pe_str (pa_cons pe_str (pa_cons pe_str pa_nil)))) pa_nil))))
          (pss_one (ps_ret (pe_tup (pa_cons (pv 6) (pa_cons (pe_ifExp (pt_cmpR op_eq (pv 6) pe_str (nomark _)) (pe_call GLdraw (hr.mono (by omega)) rfl gLdraw FLdraw.kp bLdraw .nil pass0 (pa_cons (pv 0) (pa_cons (pe_op op_add (pv 1) pe_int) pa_nil))) (pe_call GLdraw (hr.mono (by omega)) rfl gLdraw FLdraw.kp bLdraw .nil pass0 (pa_cons (pv 0) (pa_cons pe_int pa_nil)))) pa_nil))))))
        pss_nil)
      (pss_cons (ps_if (pt_cmpR op_lt (pv 5) pe_int (nomark _))
        (pss_cons (ps_set (i := 6) scLc.nd rfl (Or.inl rfl) (pe_ix ix_list (pe_lst (pa_cons pe_str (pa_cons pe_str (pa_cons pe_str (pa_cons pe_str (pa_cons pe_str pa_nil)))))) (pe_op op_sub (pv 5) pe_int) (fun _ _ => rfl)))
          (pss_one (ps_ret (pe_tup (pa_cons (pv 6) (pa_cons (pe_call GLtold_dict (hr.mono (by omega)) rfl gLtold_dict FLtold_dict.kp bLtold_dict .nil pass0 (pa_cons (pv 0) (pa_cons (pv 1) (pa_cons (pv 2) (pa_cons (pv 6) pa_nil))))) pa_nil))))))
        pss_nil)
      (pss_cons (ps_if (pt_cmpR op_eq (pv 5) pe_int (nomark _))
        (pss_one (ps_ret (pe_tup (pa_cons pe_str (pa_cons (pe_call GLdraw (hr.mono (by omega)) rfl gLdraw FLdraw.kp bLdraw .nil pass0 (pa_cons (pv 0) (pa_cons pe_int pa_nil))) (pa_cons (pe_call GLone_of (hr.mono (by omega)) rfl gLone_of FLone_of.kp bLone_of .nil pass0 (pa_cons (pv 0) (pa_cons (pv 3) pa_nil))) pa_nil))))))
        pss_nil)
      (pss_cons (ps_if (PW.pt (pw_and (pt_cmpR op_eq (pv 5) pe_int (nomark _)) (pw_and1 (pt_cmpR op_gt (pv 4) pe_int (nomark _)))))
        (pss_one (ps_ret (pe_tup (pa_cons pe_str (pa_cons (pe_lc (own := [("_law_turn", 7)]) (g := (gName 7)) (tt := tYes) rfl scLc.nd (pi_range1 rfl gRange (pa_cons (pe_call GLdraw (hr.mono (by omega)) rfl gLdraw FLdraw.kp bLdraw .nil pass0 (pa_cons (pv 0) (pa_cons pe_int pa_nil))) pa_nil)) (blkOk_by (N := nLc) (sc := defScope sLc) (by decide +kernel)) (fun _ _ _ _ _ => pg_name (i := 7) scLc.nd rfl (Or.inl rfl)) (fun _ _ _ _ _ => pts_nil) (fun _ _ _ _ _ => (pe_call GLcommand (hr.mono (by omega)) rfl gLcommand FLcommand.kp bLcommand .nil pass0 (pa_cons (pv 0) (pa_cons (pv 1) (pa_cons (pv 2) (pa_cons (pv 3) (pa_cons (pe_op op_sub (pv 4) pe_int) pa_nil)))))))) pa_nil)))))
        pss_nil)
      (pss_one (ps_ret (pe_tup (pa_cons (pe_call GLone_of (hr.mono (by omega)) rfl gLone_of FLone_of.kp bLone_of .nil pass0 (pa_cons (pv 0) (pa_cons (pe_lst (pa_cons pe_str (pa_cons pe_str (pa_cons pe_str (pa_cons pe_str (pa_cons pe_str (pa_cons pe_str pa_nil))))))) pa_nil))) pa_nil)))))))))), ?_⟩
    have dj := dn_ge j
    have nj := nn_ge j
    have small : ∀ {H' : Hp} {v : V} {c : Cm} {i : Nat}, (∀ cs, c ≠ .tr cs) → But a H H' → Pur H' a (n + i) → i ≤ 30 → Sho 3 (mskL os H') v (datC c) → gdC c → Q v H' := fun {H' v c i} nt b hp' hi sh g => by
      obtain ⟨e1, e2⟩ := nl_one nt
      exact want H' v c b (hp'.mono (by omega)) (sho_le (by omega) sh) g (by omega) (by omega)
    refine ⟨_, rfl, a, 20, n, rfl, by decide, by decide, hp, by omega, fun H1 d d0 d1 b1 hp1 => ?_⟩
    have t1 := th.but b1 hp1
    have k1 := mk.but ma b1 ka
    have l1 := b1 l la _ hl
    refine ⟨_, rfl, _, _, rfl, rfl, _, rfl, ?_⟩
    cases w1 : decide (d < 7) with
    | true =>
      refine iteT ⟨one_fit, fun q hq => ?_⟩
      exact small (c := .bare "go") (i := 1) (by intro cs z; cases z) (But.trans b1 (but_new hq)) (hp1.same (same_new hq)) (by omega) (by rw [datC]; exact Sho.tup (t1.new hq) (.cons (Sho.str _) .nil)) go_bare
    | false =>
    have w1 := of_decide_eq_false w1
    refine iteF ⟨_, rfl, _, _, rfl, rfl, _, rfl, ?_⟩
    cases w2 : decide (d < 10) with
    | true =>
      refine iteT ⟨_, rfl, three_fit, fun q hq => ?_⟩
      have nqa : q ≠ a := fun e => (hp1.ne hq) e.symm
      refine ⟨a, q, NNC.map V.str, n + 1, rfl, hp1.same (same_new hq), by omega, upd_same, nqa, by decide, by decide, fun i x H2 hx b2 hp2 => ?_⟩
      rw [List.getElem?_map] at hx
      obtain ⟨y, hy, rfl⟩ := Option.map_eq_some_iff.mp hx
      obtain ⟨b, rfl⟩ := nnc_ltr y (List.mem_of_getElem? hy)
      have b12 := But.trans b1 (But.trans (but_new hq) b2)
      refine ⟨_, rfl, _, rfl, rfl, _, rfl, ?_⟩
      have fin : ∀ (H3 : Hp) (e : Int), 0 ≤ e → e < 100000 → But a H2 H3 → Pur H3 a (n + 3) → ∀ r, H3 r = none → Q (.ref r) (upd H3 r (.tup [.str (letW b), .int e])) := fun H3 e e0 e1 b3 hp3 r hr => by
        have t3 := th.but (But.trans b12 b3) hp3
        exact small (c := .ltr b (some e)) (i := 3) (by intro cs z; cases z) (But.trans b12 (But.trans b3 (but_new hr))) (hp3.same (same_new hr)) (by omega) (by rw [datC]; exact Sho.tup (t3.new hr) (.cons (Sho.str _) (.cons (Sho.int _) .nil))) ⟨e, rfl, e0, by omega⟩
      cases w3 : decide (V.str (letW b) = V.str "number") with
      | true =>
        refine iteT ⟨_, rfl, _, rfl, _, _, rfl, rfl, a, _, n + 2, rfl, by omega, by omega, hp2, by omega, fun H3 e e0 e1 b3 hp3 => ⟨two_fit, fun r hr => fin H3 e e0 (by omega) b3 hp3 r hr⟩⟩
      | false =>
        refine iteF ⟨_, rfl, a, 3, n + 2, rfl, by decide, by decide, hp2, by omega, fun H3 e e0 e1 b3 hp3 => ⟨two_fit, fun r hr => fin H3 e e0 (by omega) b3 hp3 r hr⟩⟩
    | false =>
    have w2 := of_decide_eq_false w2
    refine iteF ⟨_, rfl, _, _, rfl, rfl, _, rfl, ?_⟩
    cases w3 : decide (d < 15) with
    | true =>
      have w3 := of_decide_eq_true w3
      obtain ⟨z, rfl, z5⟩ : ∃ z : Nat, d = (z : Int) + 10 ∧ z < 5 := ⟨(d - 10).toNat, by omega, by omega⟩
      obtain ⟨kw, hk⟩ : ∃ kw, WAYS5[z]? = some kw := by
        obtain rfl | rfl | rfl | rfl | rfl : z = 0 ∨ z = 1 ∨ z = 2 ∨ z = 3 ∨ z = 4 := by omega
        all_goals exact ⟨_, rfl⟩
      refine iteT ⟨by show 5 ≤ sizeLine; rw [sizeLine_eq]; decide, fun q hq => ?_⟩
      refine ⟨_, rfl, _, _, rfl, rfl, q, WAYS5.map fun k => V.str (sumW k), (z : Int) + 10 - 10, V.str (sumW kw), rfl, rfl, SqL.of upd_same, ?_, ?_⟩
      · rw [show (z : Int) + 10 - 10 = (z : Int) by omega]
        refine atI_nat ?_
        rw [List.getElem?_map, hk]
        rfl
      refine ⟨_, rfl, _, rfl, _, rfl, _, rfl, _, rfl, a, p, l, kw, n + 1, rfl, hp1.same (same_new hq), by omega, p0, p1, (same_new hq) _ _ l1, la, fun H2 e W b2 hp2 he hW gW gW4 => ⟨two_fit, fun r hr => ?_⟩⟩
      have b12 := But.trans b1 (But.trans (but_new hq) b2)
      have t2 := th.but b12 hp2
      have ne := (t1.same (same_new (o := HO.lst (WAYS5.map fun k => V.str (sumW k))) hq)).nin he
      refine small (c := .sum kw (some W)) (i := 21) (by intro cs z; cases z) (But.trans b12 (but_new hr)) ((hp2.same (same_new hr)).mono (by omega)) (by omega) ?_ ⟨W, rfl, gW, gW4⟩
      rw [datC]
      exact Sho.tup (t2.new hr) (.cons (Sho.str _) (.cons (sho_sum ((mskL_ne ne).trans ((same_new hr) _ _ hW))) .nil))
    | false =>
    have w3 := of_decide_eq_false w3
    refine iteF ⟨_, rfl, rfl, _, rfl, ?_⟩
    cases w4 : decide (V.int d = V.int 15) with
    | true =>
      refine iteT ⟨_, rfl, a, 5, n + 1, rfl, by decide, by decide, hp1, by omega, fun H2 e e0 e1 b2 hp2 => ?_⟩
      obtain ⟨ms, hms, lms, rms⟩ := k1.but ma b2 ka
      refine ⟨_, rfl, _, rfl, a, k, ms, n + 2, rfl, hp2, by omega, hms, ka, by omega, by omega, fun i x H3 hx b3 hp3 => ⟨three_fit, fun r hr => ?_⟩⟩
      obtain ⟨m, mm, hm⟩ := rms x (List.mem_of_getElem? hx)
      have b13 := But.trans b1 (But.trans b2 b3)
      have t3 := th.but b13 hp3
      refine small (c := .exch (some e) (some m)) (i := 3) (by intro cs z; cases z) (But.trans b13 (but_new hr)) (hp3.same (same_new hr)) (by omega) ?_ ⟨⟨e, rfl, e0, by omega⟩, m, mm, rfl⟩
      rw [datC]
      exact Sho.tup (t3.new hr) (.cons (Sho.str _) (.cons (Sho.int _) (.cons (sho_mark (hm.up (same_trans (mskL_but ma b3) (mskL_same (same_new hr))))) .nil)))
    | false =>
    refine iteF ⟨_, rfl, rfl, _, rfl, ?_⟩
    have last : ∀ q, H1 q = none → ∃ (a2 l2 : Addr) (xs : List V) (n2 : Nat), [V.ref a, V.ref q] = [.ref a2, .ref l2] ∧ Pur (upd H1 q (.lst (UNDO6.map V.str))) a2 n2 ∧ n2 ≤ 1000000 ∧ upd H1 q (.lst (UNDO6.map V.str)) l2 = some (.lst xs) ∧ l2 ≠ a2 ∧ 0 < xs.length ∧ xs.length < 100000 ∧
        ∀ (i : Nat) (x : V) (H2 : Hp), xs[i]? = some x → But a2 (upd H1 q (.lst (UNDO6.map V.str))) H2 → Pur H2 a2 (n2 + 1) → 1 ≤ sizeLine ∧ ∀ r, H2 r = none → Q (.ref r) (upd H2 r (.tup [x])) := fun q hq => by
      have nqa : q ≠ a := fun e => (hp1.ne hq) e.symm
      refine ⟨a, q, UNDO6.map V.str, n + 1, rfl, hp1.same (same_new hq), by omega, upd_same, nqa, by decide, by decide, fun i x H2 hx b2 hp2 => ⟨one_fit, fun r hr => ?_⟩⟩
      rw [List.getElem?_map] at hx
      obtain ⟨y, hy, rfl⟩ := Option.map_eq_some_iff.mp hx
      have b12 := But.trans b1 (But.trans (but_new hq) b2)
      exact small (c := .bare y) (i := 2) (by intro cs z; cases z) (But.trans b12 (but_new hr)) (hp2.same (same_new hr)) (by omega) (by rw [datC]; exact Sho.tup ((th.but b12 hp2).new hr) (.cons (Sho.str _) .nil)) (undo_bare y (List.mem_of_getElem? hy))
    have six : 6 ≤ sizeLine := by rw [sizeLine_eq]; decide
    cases w5 : decide (V.int d = V.int 16) with
    | false => exact iteF (iteF ⟨_, rfl, six, fun q hq => last q hq⟩)
    | true =>
    refine iteT ⟨_, rfl, _, _, rfl, rfl, _, rfl, ?_⟩
    cases w6 : decide ((dp : Int) > 0) with
    | false => exact iteF ⟨_, rfl, six, fun q hq => last q hq⟩
    | true =>
      have w6 := of_decide_eq_true w6
      cases j with
      | zero => omega
      | succ j =>
        have dnj : Dn (j + 1) = 30 + 3 * Dn j := rfl
        have nnj : Nn (j + 1) = 2 + 3 * Nn j := rfl
        have dj2 := dn_ge j
        refine iteT ⟨_, rfl, a, 4, n + 1, rfl, by decide, by decide, hp1, by omega, fun H2 e e0 e1 b2 hp2 => ⟨e, rfl, by omega, by omega, fun D hD => ?_⟩⟩
        obtain ⟨i, rfl⟩ := Int.eq_ofNat_of_zero_le e0
        rw [Int.toNat_natCast]
        have nDa : D ≠ a := fun e => (hp2.ne hD) e.symm
        have b12 := But.trans b1 b2
        have t2 := th.but b12 hp2
        have nDo := t2.nin hD
        have k2 := k1.but ma b2 ka
        have l2 := b2 l la _ l1
        have nDk : k ≠ D := by
          obtain ⟨ms, e, _⟩ := k2
          exact ne_of_none e hD
        have nDl : l ≠ D := ne_of_none l2 hD
        refine lc_range (lo := 0) (n := i) (fun x H' => But a H2 (upd H' D (.lst [])) ∧ Pur H' a (n + 2 + x * Dn j) ∧ ∃ (vs : List V) (cs : List Cm), H' D = some (.lst vs) ∧ Paired (Sho (2 * j + 4) (mskL (D :: os) H')) vs (datS cs) ∧ gdS cs ∧ dpS cs ≤ j ∧ nlS cs ≤ x * Nn j ∧ cs.length = x ∧ x ≤ i) ?_ ?_ ?_
        · refine ⟨fun c nc o ho => ?_, hp2.same (same_new hD) |>.mono (by omega), [], [], upd_same, by rw [datS]; exact .nil, by rw [gdS]; trivial, by rw [dpS]; exact Nat.zero_le _, by rw [nlS]; exact Nat.zero_le _, rfl, Nat.zero_le _⟩
          have n2 : c ≠ D := ne_of_none ho hD
          rw [upd_ne n2, upd_ne n2]
          exact ho
        · rintro x H3 hx ⟨b3, hp3, vs, cs, hv, pv, g, dpc, nlc, lc, lx⟩
          have b3' : ∀ c, c ≠ a → c ≠ D → ∀ o, H2 c = some o → H3 c = some o := fun c na nd o ho => by
            have := b3 c na o ho
            rw [upd_ne nd] at this
            exact this
          have mul : (x + 1) * Dn j = x * Dn j + Dn j := Nat.succ_mul _ _
          have mulN : (x + 1) * Nn j = x * Nn j + Nn j := Nat.succ_mul _ _
          have x3 : x ≤ 2 := by omega
          have xd : x * Dn j ≤ 2 * Dn j := Nat.mul_le_mul_right _ x3
          refine ⟨rfl, tyes ?_⟩
          refine ⟨_, rfl, _, rfl, _, rfl, _, rfl, _, rfl, _, _, rfl, rfl, ?_⟩
          have t3 : There (D :: os) H3 := fun c m => by
            rcases List.mem_cons.mp m with rfl | m
            · exact ⟨_, hv⟩
            · by_cases q : c = a
              · rw [q]
                obtain ⟨_, _, _, _, e, _⟩ := hp3
                exact ⟨_, e⟩
              · obtain ⟨o, eo⟩ := t2 c m
                exact ⟨o, b3' c q (fun z => nDo (by rw [← z]; exact m)) o eo⟩
          have k3 : MksAt (D :: os) H3 k := by
            obtain ⟨ms, hms, lms, rms⟩ := k2
            refine ⟨ms, b3' k ka nDk _ hms, lms, fun v mv => (rms v mv).elim fun m z => ⟨m, z.1, z.2.up fun c o eo => ?_⟩⟩
            obtain ⟨nc, ec⟩ := mskL_of eo
            have ncD : c ≠ D := ne_of_none ec hD
            rw [mskL_ne fun m => (List.mem_cons.mp m).elim ncD nc]
            exact b3' c (fun z => nc (by rw [z]; exact ma)) ncD o ec
          refine ⟨a, p, l, k, n + 2 + x * Dn j, dp - 1, D :: os, by rw [show ((dp - 1 : Nat) : Int) = (dp : Int) - 1 by omega]; rfl, by omega, hp3, by omega, p0, p1, b3' l la nDl _ l2, la, k3, ka, List.mem_cons_of_mem _ ma, t3, fun H4 v c b4 hp4 sh4 g4 dp4 nl4 => ?_⟩
          have hv4 := b4 D nDa _ hv
          have lv : vs.length = x := by rw [paired_len pv, dat_len, lc]
          refine ⟨vs, hv4, by rw [sizeLine_eq]; omega, fun c nc o ho => ?_, ?_, vs ++ [v], cs ++ [c], upd_same, ?_, ?_, ?_, ?_, by rw [List.length_append, lc]; rfl, by omega⟩
          · by_cases q : c = D
            · rw [q, hD] at ho
              cases ho
            · rw [upd_ne q, upd_ne q]
              exact b4 c nc o (b3' c nc q o ho)
          · rw [mul]
            exact (hp4.but (but_upd (m := D)) (Ne.symm nDa)).mono (by omega)
          · have sD : Same (mskL (D :: os) H4) (mskL (D :: os) (upd H4 D (.lst (vs ++ [v])))) := fun c o eo => by
              obtain ⟨nc, ec⟩ := mskL_of eo
              rw [mskL_ne nc, upd_ne fun z => nc (by rw [z]; exact List.mem_cons_self)]
              exact ec
            rw [dat_map, List.map_append, ← dat_map]
            exact paired_app (pr_le (Nat.le_refl _) (same_trans (mskL_but (List.mem_cons_of_mem _ ma) b4) sD) pv) (.cons (sh4.up sD) .nil)
          · exact gdS_app g (by rw [gdS, gdS]; exact ⟨g4, trivial⟩)
          · rw [dpS_app]
            exact Nat.max_le.mpr ⟨dpc, by rw [dpS, dpS]; exact Nat.max_le.mpr ⟨dp4, Nat.zero_le _⟩⟩
          · rw [nlS_app, nlS_one, mulN]
            omega
        · rintro H3 ⟨b3, hp3, vs, cs, hv, pv, g, dpc, nlc, lc, lx⟩
          refine ⟨two_fit, fun r hr => ?_⟩
          have hD0 : H D = none := but_free b12 nDa hD
          have b3' : But a H (upd H3 r (.tup [.str "try", .ref D])) := fun c nc o ho => by
            have ncD : c ≠ D := ne_of_none ho hD0
            have := b3 c nc o (b12 c nc o ho)
            rw [upd_ne ncD] at this
            exact (same_new hr) _ _ this
          have i3 : i ≤ 3 := by omega
          have id : i * Dn j ≤ 3 * Dn j := Nat.mul_le_mul_right _ i3
          have idN : i * Nn j ≤ 3 * Nn j := Nat.mul_le_mul_right _ i3
          have t3 : There os H3 := fun c m => by
            by_cases q : c = a
            · rw [q]
              obtain ⟨_, _, _, _, e, _⟩ := hp3
              exact ⟨_, e⟩
            · obtain ⟨o, eo⟩ := t2 c m
              have n2 : c ≠ D := fun z => nDo (by rw [← z]; exact m)
              have := b3 c q o eo
              rw [upd_ne n2] at this
              exact ⟨o, this⟩
          refine want _ (.ref r) (.tr cs) b3' ((hp3.same (same_new hr)).mono (by omega)) ?_ ?_ (by rw [dpC]; omega) (by rw [nlC]; omega)
          · rw [datC]
            have sm : Same (mskL (D :: os) H3) (mskL os (upd H3 r (.tup [.str "try", .ref D]))) := fun c o eo => by
              obtain ⟨nc, ec⟩ := mskL_of eo
              rw [mskL_ne fun m => nc (List.mem_cons_of_mem _ m)]
              exact (same_new hr) _ _ ec
            exact Sho.tup (n := 2 * (j + 1) + 3) (t3.new hr) (.cons (Sho.str _) (.cons (sho_le (by omega) (Sho.lst ((mskL_ne nDo).trans ((same_new hr) _ _ hv)) (pr_le (Nat.le_refl _) sm pv))) .nil))
          · rw [gdC]
            exact g
end
end Vb
end L2

set_option Elab.async false
set_option linter.all false
set_option maxRecDepth 100000
set_option maxHeartbeats 4000000
/-! Vb, k88: how many commands; the law's script. -/
namespace L2
namespace Vb
open PySem PySem.Spec PyProof.Rows
mutual
def mnC : Cm → Nat
  | .bare _ => 1
  | .ltr _ _ => 1
  | .sum _ _ => 1
  | .exch _ _ => 1
  | .tr cs => mnS cs + 1
def mnS : List Cm → Nat
  | [] => 0
  | c :: cs => mnC c + mnS cs
end
def trM : Cm → Option Nat
  | .tr cs => some (mnS cs)
  | _ => none
theorem mnS_app : ∀ (a b : List Cm), mnS (a ++ b) = mnS a + mnS b
  | [], b => by rw [mnS, Nat.zero_add]; rfl
  | c :: a, b => by
    show mnS (c :: (a ++ b)) = _
    rw [mnS, mnS, mnS_app a b, Nat.add_assoc]
mutual
theorem nl_mnC : ∀ c : Cm, nlC c ≤ 2 * mnC c
  | .tr cs => by
    have := nl_mnS cs
    rw [nlC, mnC]
    omega
  | .bare w => by rw [nlC, mnC]; decide
  | .ltr b n => by rw [nlC, mnC]; decide
  | .sum k W => by rw [nlC, mnC]; decide
  | .exch n m => by rw [nlC, mnC]; decide
theorem nl_mnS : ∀ cs : List Cm, nlS cs ≤ 2 * mnS cs
  | [] => by rw [nlS]; exact Nat.zero_le _
  | c :: cs => by
    have := nl_mnC c
    have := nl_mnS cs
    rw [nlS, mnS]
    omega
end
theorem mn_sum : ∀ cs : List Cm, ((cs.length : Nat) : Int) + ((cs.filterMap trM).map fun n => ((n : Nat) : Int)).sum = (mnS cs : Int)
  | [] => by rw [mnS]; rfl
  | c :: cs => by
    have ih := mn_sum cs
    have st : ∀ n : Nat, mnC c = n + 1 → (((c :: cs).length : Nat) : Int) + ((n : Int) + ((cs.filterMap trM).map fun n => ((n : Nat) : Int)).sum) = (mnS (c :: cs) : Int) := fun n e => by
      rw [mnS, e, List.length_cons]
      omega
    cases c with
    | tr ds =>
      have := st (mnS ds) (by rw [mnC])
      exact this
    | bare w => have := st 0 (by rw [mnC]); rw [show (((0 : Nat) : Int)) = 0 from rfl, Int.zero_add] at this; exact this
    | ltr b n => have := st 0 (by rw [mnC]); rw [show (((0 : Nat) : Int)) = 0 from rfl, Int.zero_add] at this; exact this
    | sum k W => have := st 0 (by rw [mnC]); rw [show (((0 : Nat) : Int)) = 0 from rfl, Int.zero_add] at this; exact this
    | exch n m => have := st 0 (by rw [mnC]); rw [show (((0 : Nat) : Int)) = 0 from rfl, Int.zero_add] at this; exact this
theorem gd_mem : ∀ {cs : List Cm} {c : Cm}, gdS cs → c ∈ cs → gdC c
  | d :: cs, c, h, m => by
    rw [gdS] at h
    rcases List.mem_cons.mp m with rfl | m
    · exact h.1
    · exact gd_mem h.2 m
def spMany (j : Nat) : Sp := fun vs H Q _ => ∃ (v : V) (cs : List Cm) (m : Nat), vs = [v] ∧ Sho m H v (.list (datS cs)) ∧ gdS cs ∧ dpS cs ≤ j ∧ nlS cs ≤ 100000 ∧ ∀ H', Same H H' → Q (.int (mnS cs : Int)) H'
def spManyP : Nat → Sp
  | 0 => fun _ _ _ _ => False
  | j + 1 => spMany j
theorem nl_tr {cs ds : List Cm} (h : Cm.tr ds ∈ cs) : nlS ds ≤ nlS cs := by
  have := nl_mem h
  rw [nlC] at this
  omega
theorem dp_tr {cs ds : List Cm} (h : Cm.tr ds ∈ cs) : dpS ds + 1 ≤ dpS cs := by
  have := dp_mem h
  rw [dpC] at this
  exact this
theorem fm_many (cs : List Cm) : (cs.map fun c => (trM c).map fun n => V.int (n : Int)).filterMap id = ((cs.filterMap trM).map fun n => ((n : Nat) : Int)).map V.int := by
  induction cs with
  | nil => rfl
  | cons c cs ih =>
    cases e : trM c with
    | none =>
      rw [List.map_cons, e, List.filterMap_cons_none e]
      exact ih
    | some n =>
      rw [List.map_cons, e, List.filterMap_cons_some e]
      exact congrArg (V.int (n : Int) :: ·) ih
def spScr : Sp := fun vs H Q _ => ∃ (a : Addr) (p : Int) (l k : Addr) (n : Nat), vs = [.ref a, .int p, .ref l, .ref k, .int 11] ∧ Pur H a n ∧ n ≤ 100 ∧ 2 ≤ p ∧ p ≤ 65537 ∧ H l = some (.lst (NAMES.map V.str)) ∧ l ≠ a ∧ MksAt [a] H k ∧ k ≠ a ∧
  ∀ H' v s, But a H H' → Pur H' a (n + 50000) → Sho 13 (mskL [a] H') v (.list (datS s)) → gdS s → dpS s ≤ 4 → mnS s ≤ 11 → Q v H'
theorem dn4 : Dn 4 = 3630 := by decide
abbrev sMany : Stmt := topS 52
abbrev nMany : List Str := ["_law_script_here", "_law_command_here"]
theorem scMany : FnScope nMany ["_law_script_here"] (defScope sMany) := ⟨rfl, rfl, rfl, by decide +kernel, rfl, by decide +kernel, by decide +kernel⟩
-- cells set()
section
variable {P : Program} {w : World} {K : PySem.W.Frag} {mg : Str → Option Value} {base : Heap}
theorem ok_many {f fLmany : Addr} {fd fdLmany : FuncData} (F : Fun K "_law_many" "_law_many" sMany f fd)
    (FLmany : Fun K "_law_many" "_law_many" sMany fLmany fdLmany) (j : Nat) (GLmany : FnOk P w K mg base CX0 j fLmany fdLmany ["_law_script_here"] (spManyP j)) (gLmany : mg "_law_many" = some (.ref fLmany)) (gLen : mg "len" = none) (gSum : mg "sum" = none) :
    FnOk P w K mg base CX0 (j + 1) f fd ["_law_script_here"] (spMany j) := by
  have bLmany : Binds K fdLmany ["_law_script_here"] [] := FLmany.binds fun _ _ _ _ _ _ us hl => match us, hl with | [_], _ => rfl
  refine F.ok scMany (fun vs H Q E h => ?_) (fun cdv A outer s0 H vs Q E hr h => ?_)
  · obtain ⟨v, cs, m, rfl, _⟩ := h
    rfl
  · obtain ⟨v, cs, m, rfl, sh, ok, dp, nl, want⟩ := h
    refine ⟨_, (pss_one (ps_ret (pe_op op_add (pe_callB (call_len_seq) (by rfl) gLen PySem.boot_len (pa_cons (pv 0) pa_nil)) (pe_callB (cr_sum rfl) (by rfl) gSum boot_sum (pa_cons (pe_lc (own := [("_law_command_here", 1)]) (g := (gName 1)) (tt := tTest (tOp rEq (tOp (rIxT K) (tVar 1) (tC (.int 0))) (tC (.str "try")))) (te := tCall (spManyP j) [] E0 (tCons (tOp (rIxT K) (tVar 1) (tC (.int 1))) tNil)) rfl scMany.nd (pi_list (pv 0)) (blkOk_by (N := nMany) (sc := defScope sMany) (by decide +kernel)) (fun _ _ _ _ _ => pg_name (i := 1) scMany.nd rfl (Or.inl rfl)) (fun _ _ _ _ _ => pts_one (pt_cmpR op_eq (pe_ix ix_tup (pv 1) pe_int (fun _ _ => rfl)) pe_str (nomark _))) (fun _ _ _ _ _ => (pe_call GLmany (hr.mono (by omega)) rfl gLmany FLmany.kp bLmany .nil pass0 (pa_cons (pe_ix ix_tup (pv 1) pe_int (fun _ _ => rfl)) pa_nil)))) pa_nil))))), ?_⟩
    obtain ⟨k, a, vs, _, rfl, ha, ps⟩ := sh.ofList
    have lv : vs.length = cs.length := by rw [paired_len ps, dat_len]
    have lc := len_nl cs
    refine ⟨_, rfl, a, _, rfl, .inl (SqL.of ha), ?_⟩
    refine ⟨_, rfl, a, rfl, ⟨_, SqL.of ha⟩, fun D hD => ?_⟩
    refine lc_out (walk_list (xs := vs)) (cs.map fun c => (trM c).map fun n => V.int (n : Int)) (by rw [List.length_map, lv]) (by rw [lv]; omega) hD (fun H' s => SqL.of (s _ _ ha)) ?_ ?_
    · rintro i o ho H2 v H3 s2 ⟨rfl, hv⟩ Rn Ry hn hy
      obtain ⟨c, hc, rfl⟩ := some_of_get ho
      obtain ⟨e, he, she⟩ := paired_at ps hv
      rw [dat_at, hc] at he
      obtain rfl := Option.some.inj he
      have mc := List.mem_of_getElem? hc
      obtain ⟨k2, b, us, rfl, hb, qs⟩ := sho_cm (she.up s2)
      refine ⟨rfl, _, rfl, b, _, 0, V.str (wdC c), rfl, rfl, SqT.of hb, at_0, rfl, _, rfl, ?_⟩
      rw [dec_strE]
      cases c with
      | tr ds =>
        obtain ⟨x, rfl, hx⟩ := pair_one qs
        have d1 := dp_tr mc
        have n1 := nl_tr mc
        show if decide (("try" : Str) = "try") = true then _ else _
        rw [decide_eq_true rfl]
        refine iteT ⟨_, rfl, b, _, 1, x, rfl, rfl, SqT.of hb, at_1, ?_⟩
        cases j with
        | zero => omega
        | succ j => exact ⟨x, ds, k2, rfl, hx, (show gdS ds by have := gd_mem ok mc; simpa only [gdC] using this), by omega, by omega, fun H4 s4 => hy _ _ s4 rfl⟩
      | bare w =>
        show if decide (w = "try") = true then _ else _
        rw [decide_eq_false (bare_not w (gd_mem ok mc)).1]
        exact iteF (hn _ same_rfl rfl)
      | ltr q n =>
        show if decide (letW q = "try") = true then _ else _
        rw [decide_eq_false (let_try q)]
        exact iteF (hn _ same_rfl rfl)
      | sum q W =>
        show if decide (sumW q = "try") = true then _ else _
        rw [decide_eq_false (sum_try q)]
        exact iteF (hn _ same_rfl rfl)
      | exch n m =>
        show if decide (("exchange" : Str) = "try") = true then _ else _
        rw [decide_eq_false exch_not.1]
        exact iteF (hn _ same_rfl rfl)
    · intro H2 s2 hD2
      rw [fm_many] at hD2
      refine ⟨D, _, rfl, SqL.of hD2, _, _, rfl, rfl, ?_⟩
      have e := mn_sum cs
      have z := want H2 s2
      rw [← e, ← lv] at z
      exact z
end
abbrev sScr : Stmt := topS 51
abbrev nScr : List Str := ["_law_purse_here", "_law_prime", "_law_names", "_law_marks", "_law_most", "_law_found", "_law_turn", "_law_more"]
theorem scScr : FnScope nScr ["_law_purse_here", "_law_prime", "_law_names", "_law_marks", "_law_most"] (defScope sScr) := ⟨rfl, rfl, rfl, by decide +kernel, rfl, by decide +kernel, by decide +kernel⟩
-- cells set()
section
variable {P : Program} {w : World} {K : PySem.W.Frag} {mg : Str → Option Value} {base : Heap}
theorem ok_scr {f fLdraw fLcommand fLmany : Addr} {fd fdLdraw fdLcommand fdLmany : FuncData} (F : Fun K "_law_script" "_law_script" sScr f fd)
    (FLdraw : Fun K "_law_draw" "_law_draw" sDraw fLdraw fdLdraw) (GLdraw : FnOk P w K mg base CX0 2 fLdraw fdLdraw ["_law_purse_here", "_law_many_here"] spDraw) (gLdraw : mg "_law_draw" = some (.ref fLdraw))
    (FLcommand : Fun K "_law_command" "_law_command" sLc fLcommand fdLcommand) (GLcommand : FnOk P w K mg base CX0 10 fLcommand fdLcommand ["_law_purse_here", "_law_prime", "_law_names", "_law_marks", "_law_deep"] (spLc 4)) (gLcommand : mg "_law_command" = some (.ref fLcommand))
    (FLmany : Fun K "_law_many" "_law_many" sMany fLmany fdLmany) (GLmany : FnOk P w K mg base CX0 5 fLmany fdLmany ["_law_script_here"] (spMany 4)) (gLmany : mg "_law_many" = some (.ref fLmany)) (gRange : mg "range" = none) :
    FnOk P w K mg base CX0 12 f fd ["_law_purse_here", "_law_prime", "_law_names", "_law_marks", "_law_most"] spScr := by
  have bLdraw : Binds K fdLdraw ["_law_purse_here", "_law_many_here"] [] := FLdraw.binds fun _ _ _ _ _ _ us hl => match us, hl with | [_, _], _ => rfl
  have bLcommand : Binds K fdLcommand ["_law_purse_here", "_law_prime", "_law_names", "_law_marks", "_law_deep"] [] := FLcommand.binds fun _ _ _ _ _ _ us hl => match us, hl with | [_, _, _, _, _], _ => rfl
  have bLmany : Binds K fdLmany ["_law_script_here"] [] := FLmany.binds fun _ _ _ _ _ _ us hl => match us, hl with | [_], _ => rfl
  refine F.ok scScr (fun vs H Q E h => ?_) (fun cdv A outer s0 H vs Q E hr h => ?_)
  · obtain ⟨a, p, l, k, n, rfl, _⟩ := h
    rfl
  · obtain ⟨a, p, l, k, n, rfl, hp, hn, p0, p1, hl, la, mk, ka, want⟩ := h
    refine ⟨_, (pss_cons (ps_set (i := 5) scScr.nd rfl (Or.inl rfl) (pe_lst pa_nil))
      (pss_cons (ps_for PassesOwn.never rfl (pi_range1 rfl gRange (pa_cons (pe_call GLdraw (hr.mono (by decide)) rfl gLdraw FLdraw.kp bLdraw .nil pass0 (pa_cons (pv 0) (pa_cons (pe_op op_add (pv 4) pe_int) pa_nil))) pa_nil)) (pg_name (i := 6) scScr.nd rfl (Or.inl rfl))
        (pss_cons (ps_set (i := 7) scScr.nd rfl (Or.inl rfl) (pe_op op_cat (pv 5) (pe_lst (pa_cons (pe_call GLcommand (hr.mono (by omega)) rfl gLcommand FLcommand.kp bLcommand .nil pass0 (pa_cons (pv 0) (pa_cons (pv 1) (pa_cons (pv 2) (pa_cons (pv 3) (pa_cons pe_int pa_nil)))))) pa_nil))))
          (pss_one (ps_set (i := 5) scScr.nd rfl (Or.inl rfl) (pe_ifExp (pt_cmpR op_le (pe_call GLmany (hr.mono (by omega)) rfl gLmany FLmany.kp bLmany .nil pass0 (pa_cons (pv 7) pa_nil)) (pv 4) (nomark _)) (pv 7) (pv 5))))))
      (pss_one (ps_ret (pv 5))))), ?_⟩
    have d4 := dn4
    refine ⟨Nat.zero_le _, fun d0 hd0 => ?_⟩
    have nd0 : d0 ≠ a := fun e => (hp.ne hd0) e.symm
    refine ⟨_, rfl, _, rfl, _, _, rfl, rfl, a, _, n, rfl, by decide, by decide, hp.same (same_new hd0), by omega, fun H1 e e0 e1 b1 hp1 => ⟨e, rfl, by omega, by omega, ?_⟩⟩
    have e1 : e < 12 := e1
    obtain ⟨i, rfl⟩ := Int.eq_ofNat_of_zero_le e0
    rw [Int.toNat_natCast]
    have th : There [a] H := fun c m => by
      rw [List.mem_singleton.mp m]
      obtain ⟨_, _, _, _, e, _⟩ := hp
      exact ⟨_, e⟩
    have b01 : But a H H1 := But.trans (but_new hd0) b1
    have hv1 : H1 d0 = some (.lst []) := b1 d0 nd0 _ upd_same
    refine for_range (lo := 0) (n := i) (fun x σ H' => ∃ (v5 : V) (s : List Cm) (o6 o7 : Option V), σ = [some (.ref a), some (.int p), some (.ref l), some (.ref k), some (.int 11), some v5, o6, o7] ∧ But a H H' ∧ Pur H' a (n + 1 + x * Dn 4) ∧ Sho 13 (mskL [a] H') v5 (.list (datS s)) ∧ gdS s ∧ dpS s ≤ 4 ∧ mnS s ≤ 11)
      ⟨_, [], _, _, rfl, b01, hp1.mono (by omega), Sho.lst ((mskL_ne (by simpa using nd0)).trans hv1) (by rw [datS]; exact .nil), by rw [gdS]; trivial, by rw [dpS]; exact Nat.zero_le _, by rw [mnS]; exact Nat.zero_le _⟩ ?_ ?_
    · rintro x σ H2 hx ⟨v5, s, o6, o7, rfl, b2, hp2, sh, g, dp, mn⟩
      have mul : (x + 1) * Dn 4 = x * Dn 4 + Dn 4 := Nat.succ_mul _ _
      have x11 : x ≤ 10 := by omega
      have xd : x * Dn 4 ≤ 10 * Dn 4 := Nat.mul_le_mul_right _ x11
      obtain ⟨m5, a5, xs, e5, rfl, h5, p5⟩ := sh.ofList
      cases e5
      obtain ⟨_, h5'⟩ := mskL_of h5
      refine ⟨_, rfl, _, rfl, _, rfl, _, rfl, _, rfl, ?_⟩
      refine ⟨a, p, l, k, n + 1 + x * Dn 4, 4, [a], rfl, by omega, hp2, by omega, p0, p1, b2 l la _ hl, la, mk.but List.mem_cons_self b2 ka, ka, List.mem_cons_self, th.but b2 hp2, fun H3 v c b3 hp3 sh3 g3 dp3 nl3 => ?_⟩
      refine ⟨one_fit, fun q hq => ⟨a5, q, xs, _, rfl, rfl, (same_new hq) _ _ (b3 a5 (fun z => by
        obtain ⟨nz, _⟩ := mskL_of h5
        exact nz (by rw [z]; exact List.mem_cons_self)) _ h5'), upd_same, ?_, fun r hr => ?_⟩⟩
      · have := nl_mnS s
        have := len_nl s
        rw [paired_len p5, dat_len, sizeLine_eq]
        show s.length + 1 ≤ _
        omega
      have b4 : But a H2 (upd (upd H3 q (.lst [v])) r (.lst (xs ++ [v]))) := But.trans b3 (But.trans (but_new hq) (but_new hr))
      have hp4 : Pur (upd (upd H3 q (.lst [v])) r (.lst (xs ++ [v]))) a (n + 1 + x * Dn 4 + Dn 4) := (hp3.same (same_new hq)).same (same_new hr)
      have t4 : There [a] (upd H3 q (.lst [v])) := (th.but (But.trans b2 b3) hp3).same (same_new hq)
      have more : Sho 13 (mskL [a] (upd (upd H3 q (.lst [v])) r (.lst (xs ++ [v])))) (.ref r) (.list (datS (s ++ [c]))) := by
        refine Sho.lst (t4.new hr) ?_
        rw [dat_map, List.map_append, ← dat_map]
        exact paired_app (pr_le (Nat.le_refl _) (mskL_but List.mem_cons_self b4) p5) (.cons (sho_le (by omega) (sh3.up (same_trans (mskL_same (same_new hq)) (mskL_same (same_new hr))))) .nil)
      have old : Sho 13 (mskL [a] (upd (upd H3 q (.lst [v])) r (.lst (xs ++ [v])))) (.ref a5) (.list (datS s)) := Sho.lst (mskL_but List.mem_cons_self b4 _ _ h5) (pr_le (Nat.le_refl _) (mskL_but List.mem_cons_self b4) p5)
      generalize upd (upd H3 q (.lst [v])) r (.lst (xs ++ [v])) = H4 at b4 hp4 more old ⊢
      have n4 : Nn 4 = 161 := by decide
      have gg : gdS (s ++ [c]) := gdS_app g (by rw [gdS, gdS]; exact ⟨g3, trivial⟩)
      have dd : dpS (s ++ [c]) ≤ 4 := by
        rw [dpS_app]
        exact Nat.max_le.mpr ⟨dp, by rw [dpS, dpS]; exact Nat.max_le.mpr ⟨dp3, Nat.zero_le _⟩⟩
      refine ⟨_, rfl, .ref r, s ++ [c], 13, rfl, more.up (fun c o eo => (mskL_of eo).2), gg, dd, by rw [nlS_app, nlS_one]; have := nl_mnS s; omega, fun H5 s5 => ?_⟩
      refine ⟨_, rfl, _, _, rfl, rfl, _, rfl, ?_⟩
      cases w : decide ((mnS (s ++ [c]) : Int) ≤ 11) with
      | true =>
        have w := of_decide_eq_true w
        exact iteT ⟨_, rfl, _, s ++ [c], _, _, rfl, But.trans b2 (But.trans b4 (but_same s5)), (hp4.same s5).mono (by omega), more.up (mskL_same s5), gg, dd, by omega⟩
      | false =>
        exact iteF ⟨_, rfl, _, s, _, _, rfl, But.trans b2 (But.trans b4 (but_same s5)), (hp4.same s5).mono (by omega), old.up (mskL_same s5), g, dp, mn⟩
    · rintro σ H2 ⟨v5, s, o6, o7, rfl, b2, hp2, sh, g, dp, mn⟩
      have id : i * Dn 4 ≤ 11 * Dn 4 := Nat.mul_le_mul_right _ (by omega)
      exact ⟨_, rfl, want H2 v5 s b2 (hp2.mono (by omega)) sh g dp mn⟩
end
end Vb
end L2

set_option Elab.async false
set_option linter.all false
set_option maxRecDepth 100000
set_option maxHeartbeats 4000000
/-! Vb, k88: the law's lines. -/
namespace L2
namespace Vb
open PySem PySem.Spec PyProof.Rows
theorem nd_len : ∀ {l m : List Str}, l.Nodup → (∀ x ∈ l, x ∈ m) → l.length ≤ m.length
  | [], m, _, _ => Nat.zero_le _
  | x :: l, m, nd, sub => by
    have nd := List.nodup_cons.mp nd
    have hx := sub x List.mem_cons_self
    have ih := nd_len (m := m.erase x) nd.2 fun y my => (List.mem_erase_of_ne (fun e => nd.1 (by rw [← e]; exact my))).mpr (sub y (List.mem_cons_of_mem _ my))
    have e := List.length_erase_of_mem hx
    have : 0 < m.length := List.length_pos_of_mem hx
    rw [List.length_cons]
    omega
theorem keys_len : ∀ k ∈ ("" : Str) :: KEYS, k.length ≤ 200 := by decide +kernel
theorem gd_lim {W : SumZ} (h : GdW W) : LimW W := by
  have sub : ∀ x ∈ W.map (·.1), x ∈ ("" : Str) :: KEYS := fun x m => by
    obtain ⟨q, mq, rfl⟩ := List.mem_map.mp m
    obtain ⟨⟨e, _⟩ | ⟨e, _⟩, _⟩ := h.2 q mq
    · rw [e]
      exact List.mem_cons_self
    · exact List.mem_cons_of_mem _ e
  refine ⟨h.1, ?_, fun q mq => ?_⟩
  · have := nd_len h.1 sub
    rw [List.length_map] at this
    have : (("" : Str) :: KEYS).length = 10 := rfl
    omega
  · have n0 : 0 ≤ q.2 := by
      obtain ⟨⟨_, e⟩ | ⟨_, e⟩, _⟩ := h.2 q mq
      · omega
      · exact e
    have n1 : q.2 < 10 ^ 40 := by
      have z : q.2 < 10 ^ 5 := (h.2 q mq).2
      omega
    refine ⟨keys_len _ (sub _ (List.mem_map.mpr ⟨q, mq, rfl⟩)), ?_, ?_⟩
    · obtain ⟨m, e⟩ := Int.eq_ofNat_of_zero_le n0
      rw [e] at n1 ⊢
      show (m : Nat).log2 < 1900
      by_cases z : m = 0
      · rw [z]
        decide
      · refine (Nat.log2_lt z).mpr ?_
        have b : 10 ^ 40 < 2 ^ 1900 := by decide +kernel
        omega
    · have : (numS q.2).length ≤ 40 := toString_length_le n0 (by decide) n1
      omega
theorem num_lim {i : Int} (h0 : 0 ≤ i) (h1 : i < 10 ^ 40) : i.natAbs.log2 < 1900 ∧ (numS i).length ≤ 400 := by
  obtain ⟨m, rfl⟩ := Int.eq_ofNat_of_zero_le h0
  refine ⟨?_, ?_⟩
  · show (m : Nat).log2 < 1900
    by_cases z : m = 0
    · rw [z]
      decide
    · refine (Nat.log2_lt z).mpr ?_
      have b : 10 ^ 40 < 2 ^ 1900 := by decide +kernel
      omega
  · have : (numS (m : Int)).length ≤ 40 := toString_length_le h0 (by decide) h1
    omega
theorem bare_len : ∀ w ∈ BARE_W, w.length ≤ 200 := by decide +kernel
theorem marks_lim : ∀ m ∈ MARKS, m.1.length ≤ 200 ∧ m.2.length ≤ 200 ∧ ∀ l ∈ m.2, l.length ≤ 200 := by decide +kernel
mutual
theorem gd_liC : ∀ {c : Cm}, gdC c → nlC c ≤ 1000 → liC c
  | .tr cs, h, n => by
    have h : gdS cs := by simpa only [gdC] using h
    rw [nlC] at n
    have := len_nl cs
    rw [liC]
    exact ⟨gd_liS h (by omega), by omega⟩
  | .bare w, h, n => by
    rw [liC]
    exact bare_len w h
  | .ltr b i, h, n => by
    obtain ⟨j, rfl, h0, h1⟩ := h
    rw [liC]
    intro k e
    cases e
    exact num_lim h0 h1
  | .sum k W, h, n => by
    obtain ⟨U, rfl, g, _⟩ := h
    rw [liC]
    intro V e
    cases e
    exact gd_lim g
  | .exch i m, h, n => by
    obtain ⟨⟨j, rfl, h0, h1⟩, x, mx, rfl⟩ := h
    rw [liC]
    refine ⟨fun k e => ?_, fun y e => ?_⟩
    · cases e
      exact num_lim h0 h1
    · cases e
      obtain ⟨a, b, c⟩ := marks_lim x mx
      exact ⟨a, b, c⟩
theorem gd_liS : ∀ {cs : List Cm}, gdS cs → nlS cs ≤ 1000 → liS cs
  | [], _, _ => by rw [liS]; trivial
  | c :: cs, h, n => by
    have h : gdC c ∧ gdS cs := by simpa only [gdS] using h
    rw [nlS] at n
    rw [liS]
    exact ⟨gd_liC h.1 (by omega), gd_liS h.2 (by omega)⟩
end
mutual
theorem ln_shC : ∀ (c : Cm) (p l : Str), lnC c (p ++ l) = (lnC c l).map (p ++ ·)
  | .tr cs, p, l => by
    rw [lnC, lnC, List.map_append, List.map_append, Str.append_assoc p l "  ", ln_shS cs p (l ++ "  "), Str.append_assoc p l "try", Str.append_assoc p l "end"]
    rfl
  | .bare w, p, l => by
    rw [lnC, lnC, Str.append_assoc]
    rfl
  | .ltr b n, p, l => by
    rw [lnC, lnC]
    simp only [Str.append_assoc, List.map_cons, List.map_nil]
  | .sum k W, p, l => by
    rw [lnC, lnC]
    simp only [Str.append_assoc, List.map_cons, List.map_nil]
  | .exch n m, p, l => by
    rw [lnC, lnC]
    simp only [Str.append_assoc, List.map_cons, List.map_nil]
theorem ln_shS : ∀ (cs : List Cm) (p l : Str), lnS cs (p ++ l) = (lnS cs l).map (p ++ ·)
  | [], p, l => by
    rw [lnS, lnS]
    rfl
  | c :: cs, p, l => by
    rw [lnS, lnS, ln_shC c p l, ln_shS cs p l, List.map_append]
end
theorem ln_tr (ds : List Cm) : lnC (.tr ds) "" = [("try" : Str)] ++ (lnS ds "").map (("  " : Str) ++ ·) ++ [("end" : Str)] := by
  have e := ln_shS ds "  " ""
  rw [app_emp] at e
  rw [lnC, emp_app, emp_app, emp_app, e]
def rStrAny : List V → Hp → VK → Prop := fun xs H Q => (∃ i, xs = [.int i] ∧ i.natAbs.log2 < 1920 ∧ Q (.str (toString i)) H) ∨ ∃ a, xs = [.str a] ∧ Q (.str a) H
theorem call_strAny {X : Cx} : CallR X (.type "str") rStrAny := by
  intro pins s σ H xs us Q I r h
  rcases h with h | h
  · exact call_str_int pins s σ H xs us Q I r h
  · exact SkE.call_str_str pins s σ H xs us Q I r h
theorem uE {k : Nat} {A : Around} (h : Room k A) : A.units < cLine := by
  have := h.un
  omega
def spSlw : Sp := fun vs H Q _ => ∃ (a : Addr) (W : SumZ), vs = [.ref a] ∧ Dct H a W ∧ LimW W ∧ ∀ H', Same H H' → Q (.str (swD W)) H'
theorem fm_words2 (f : Str → Str) : ∀ ks : List Str, (ks.map fun k => if k = ("" : Str) then none else some (V.str (f k))).filterMap id = ((ks.filter fun k => !(k.length == 0)).map f).map V.str
  | [] => rfl
  | k :: ks => by
    rw [List.map_cons]
    by_cases z : k = ""
    · rw [if_pos z, List.filter_cons_of_neg (by rw [z]; decide +kernel)]
      exact fm_words2 f ks
    · rw [if_neg z, List.filter_cons_of_pos (by
        have : k.length ≠ 0 := fun e => z (len0 e)
        rw [beq_eq_false_iff_ne.mpr this]
        rfl)]
      exact congrArg (V.str (f k) :: ·) (fm_words2 f ks)
def StrOf (v : V) (t : Str) : Prop := v = .str t ∨ ∃ i : Int, v = .int i ∧ i.natAbs.log2 < 1920 ∧ t = numS i
theorem mark_path : ∀ m ∈ MARKS, SeqAt.shaped (.tuple (m.2.map PyData.str)) = true ∧ PyData.eqv (.tuple (m.2.map PyData.str)) (.tuple []) = m.2.isEmpty := by
  intro m h
  rcases List.mem_cons.mp h with rfl | h
  · exact ⟨by decide +kernel, by decide +kernel⟩
  rcases List.mem_cons.mp h with rfl | h
  · exact ⟨by decide +kernel, by decide +kernel⟩
  · rw [List.mem_singleton.mp h]
    exact ⟨by decide +kernel, by decide +kernel⟩
theorem dpa_strs {K : PySem.W.Frag} {H : Hp} : ∀ ls : List Str, DpAll K H (ls.map V.str) (ls.map PyData.str)
  | [] => .nil
  | l :: ls => .cons (.str l) (dpa_strs ls)
theorem ws_eq : (WITH_SUMS_S.map V.str) = [V.str "read", V.str "move", V.str "suppose", V.str "put"] := rfl
def spLsl (j : Nat) : Sp := fun vs H Q _ => ∃ (v : V) (cs : List Cm) (m : Nat), vs = [v] ∧ Sho m H v (.list (datS cs)) ∧ gdS cs ∧ dpS cs ≤ j ∧ nlS cs ≤ 100 ∧ ∀ H' a, Same H H' → H a = none → H' a = some (.lst ((lnS cs "").map V.str)) → Q (.ref a) H'
def spLslP : Nat → Sp
  | 0 => fun _ _ _ _ => False
  | j + 1 => spLsl j
abbrev sSlw : Stmt := topS 53
abbrev nSlw : List Str := ["_law_some", "_law_items", "_law_key"]
theorem scSlw : FnScope nSlw ["_law_some"] (defScope sSlw) := ⟨rfl, rfl, rfl, by decide +kernel, rfl, by decide +kernel, by decide +kernel⟩
-- cells {'_law_some'}
section
variable {P : Program} {w : World} {K : PySem.W.Frag} {mg : Str → Option Value} {base : Heap}
theorem ok_slw {f  : Addr} {fd  : FuncData} (F : Fun K "_law_sum_line" "_law_sum_line" sSlw f fd) (gSorted : mg "sorted" = none) (gStr : mg "str" = none) :
    FnOk P w K mg base CX0 2 f fd ["_law_some"] spSlw := by
  refine F.ok scSlw (fun vs H Q E h => ?_) (fun cdv A outer s0 H vs Q E hr h => ?_)
  · obtain ⟨a, W, rfl, _⟩ := h
    rfl
  · obtain ⟨a, W, rfl, ha, lim, want⟩ := h
    refine ⟨_, (pss_cons (ps_setLc (i := 1) (own := [("_law_key", 2)]) (g := (gName 2)) (tt := tTest (tOp rNe (tVar 2) (tC (.str "")))) rfl scSlw.nd rfl rfl (sw_true rfl rfl rfl (by decide +kernel)) (pi_list (pe_callB (call_sortedD rfl) (by rfl) gSorted boot_sorted (pa_cons (pv 0) pa_nil))) (blkOk_by (N := nSlw) (sc := defScope sSlw) (by decide +kernel)) (fun _ _ _ _ _ => pg_name (i := 2) scSlw.nd rfl (Or.inl rfl)) (fun _ _ _ _ _ => pts_one (pt_cmpR op_ne (pv 2) pe_str (nomark _))) (fun _ _ _ _ _ => (pe_op op_add_str (pe_callTy call_str_int (by rfl) gStr boot_strTU (pa_cons (pe_dget (huO hr) (pv 0) (pv 2) (fun _ _ => rfl)) pa_nil)) (pe_ifExp (pt_cmpR op_ne (pv 2) pe_str (nomark _)) (pe_op op_add_str pe_str (pv 2)) pe_str))))
      (pss_cons (ps_set (i := 1) scSlw.nd rfl (Or.inl rfl) (pe_op op_cat (pv 1) (pe_ifExp (pt_cmp (pc_din (huO hr) pe_str (pv 0))) (pe_lst (pa_cons (pe_callTy call_str_int (by rfl) gStr boot_strTU (pa_cons (pe_dget (huO hr) (pv 0) pe_str (fun _ _ => rfl)) pa_nil)) pa_nil)) (pe_lst pa_nil))))
      (pss_one (ps_ret (pe_ifExp (pt_cmpR (op_neE (uE hr)) (pv 1) (pe_lst pa_nil) (nomark _)) (pe_join pe_str (pv 1)) pe_str))))), ?_⟩
    have ha : H a = some (.dK (kvsZ W)) := ha
    obtain ⟨nd, wl, wq⟩ := lim
    refine ⟨_, rfl, a, kvsZ W, W.map (·.1), rfl, .inl ha, kvs_keys W, by rw [List.length_map]; exact wl, fun ys p hy sy hp => ?_⟩
    obtain rfl := srt_uniq hy sy
    have s0 := same_new (o := HO.lst ((srtS (W.map (·.1))).map V.str)) hp
    have h0 : upd H p (HO.lst ((srtS (W.map (·.1))).map V.str)) p = some (.lst ((srtS (W.map (·.1))).map V.str)) := upd_same
    have lks : (srtS (W.map (·.1))).length = W.length := by rw [(srt_perm _).length_eq, List.length_map]
    refine ⟨p, rfl, ⟨_, SqL.of h0⟩, fun D hD => ?_⟩
    generalize upd H p _ = H0 at s0 h0 hD ⊢
    refine lc_out (walk_list (xs := (srtS (W.map (·.1))).map V.str)) ((srtS (W.map (·.1))).map fun k => if k = ("" : Str) then none else some (V.str (numS (facZ W k) ++ " " ++ k))) (by rw [List.length_map, List.length_map]) (by rw [List.length_map, lks]; omega) hD (fun H' s => SqL.of (s _ _ h0)) ?_ ?_
    · rintro i o ho H2 v H3 s2 ⟨rfl, hv⟩ Rn Ry hn hy
      obtain ⟨k, hk, rfl⟩ := some_of_get ho
      obtain rfl := map_get hv hk
      have mk := (srt_perm _).mem_iff.mp (List.mem_of_getElem? hk)
      obtain ⟨v1, v2⟩ := val_key nd mk
      obtain ⟨l1, l2, l3⟩ := wq _ v2
      have l1 : k.length ≤ 200 := l1
      have l2 : (facZ W k).natAbs.log2 < 1900 := l2
      have l3 : (numS (facZ W k)).length ≤ 400 := l3
      refine ⟨rfl, _, rfl, rfl, _, rfl, ?_⟩
      rw [dec_strE]
      by_cases z : k = ""
      · rw [if_pos z] at hn
        rw [decide_eq_true z]
        exact iteF (hn _ same_rfl rfl)
      · rw [if_neg z] at hy
        rw [decide_eq_false z]
        refine iteT ⟨_, rfl, _, rfl, a, _, rfl, by have := dict_get (H := H3) (a := a) (W := W) (.inl (s2 _ _ (s0 _ _ ha))) k; rw [v1] at this; exact this, _, rfl, by omega, ?_⟩
        refine ⟨_, rfl, rfl, _, rfl, ?_⟩
        rw [dec_strE, decide_eq_false z]
        refine iteT ⟨_, rfl, _, _, rfl, rfl, by rw [len_one, sizeLine_eq]; omega, _, _, rfl, rfl, ?_, ?_⟩
        · show (numS (facZ W k)).length + ((" " : Str) ++ k).length ≤ sizeLine
          rw [Str.length_append, len_one, sizeLine_eq]
          omega
        · refine hy _ _ same_rfl ?_
          show some (V.str (numS (facZ W k) ++ " " ++ k)) = some (V.str (numS (facZ W k) ++ (" " ++ k)))
          rw [Str.append_assoc]
    · intro H2 s2 hD2
      rw [fm_words2] at hD2
      have hD2 : H2 D = some (.lst ((swL W).map V.str)) := hD2
      have h2 := s2 _ _ (s0 _ _ ha)
      have st := same_trans s0 s2
      have fit := swA_fit ⟨nd, wl, wq⟩
      have nl := swA_len (W := W)
      have fin : ∀ (H3 : Hp), Same H H3 → ((swA W).isEmpty = true → Q (.str "0") H3) ∧ ((swA W).isEmpty = false → Q (.str (Txt.join " + " (swA W))) H3) := fun H3 s3 => by
        have q := want H3 s3
        unfold swD at q
        exact ⟨fun e => by rw [if_pos e] at q; exact q, fun e => by rw [if_neg (by rw [e]; decide)] at q; exact q⟩
      refine ⟨_, rfl, _, rfl, a, _, rfl, dict_get (.inl h2) "", ?_⟩
      rw [val_has]
      cases e : hasZ W "" with
      | true =>
        have ea : swA W = swL W ++ [numS (facZ W "")] := by
          unfold swA
          rw [if_pos e]
        have la : (swL W).length + 1 = (swA W).length := by
          rw [ea, List.length_append]
          rfl
        obtain ⟨v1, v2⟩ := val_key nd (has_iff.mp e)
        obtain ⟨_, l2, _⟩ := wq _ v2
        have l2 : (facZ W "").natAbs.log2 < 1900 := l2
        refine ⟨_, rfl, iteT ?_⟩
        refine ⟨_, rfl, a, _, rfl, by have := dict_get (H := H2) (a := a) (W := W) (.inl h2) ""; rw [v1] at this; exact this, _, rfl, by omega, one_fit, fun q hq => ?_⟩
        refine ⟨D, q, _, _, rfl, rfl, (same_new hq) _ _ hD2, upd_same, by rw [List.length_map, sizeLine_eq]; show (swL W).length + 1 ≤ _; omega, fun r hr => ?_⟩
        have e3 : upd (upd H2 q (HO.lst [V.str (toString (facZ W ""))])) r (HO.lst ((swL W).map V.str ++ [V.str (toString (facZ W ""))])) r = some (.lst ((swA W).map V.str)) := by
          rw [upd_same, ea, List.map_append]
          rfl
        have s3 : Same H (upd (upd H2 q (HO.lst [V.str (toString (facZ W ""))])) r (HO.lst ((swL W).map V.str ++ [V.str (toString (facZ W ""))]))) := same_trans st (same_trans (same_new hq) (same_new hr))
        generalize upd (upd H2 q (HO.lst [V.str (toString (facZ W ""))])) r (HO.lst ((swL W).map V.str ++ [V.str (toString (facZ W ""))])) = H3 at e3 s3 ⊢
        refine ⟨_, rfl, Nat.zero_le _, fun t ht => ⟨r, t, _, rfl, rfl, SqL.of ((same_new ht) _ _ e3), SqL.of upd_same, _, rfl, ?_⟩⟩
        obtain ⟨q1, q2⟩ := fin _ (same_trans s3 (same_new (o := HO.lst []) ht))
        rw [List.isEmpty_map]
        cases z : (swA W).isEmpty with
        | true => exact iteF (q1 z)
        | false => exact iteT ⟨⟨_, rfl⟩, _, rfl, _, r, swA W, rfl, rfl, .inl (SqL.of ((same_new ht) _ _ e3)), by omega, q2 z⟩
      | false =>
        have ea : swA W = swL W := by
          unfold swA
          rw [if_neg (by rw [e]; decide)]
        refine ⟨_, rfl, iteF ⟨Nat.zero_le _, fun q hq => ?_⟩⟩
        refine ⟨D, q, _, _, rfl, rfl, (same_new hq) _ _ hD2, upd_same, by rw [List.length_map, sizeLine_eq, ← ea]; show (swA W).length + 0 ≤ _; omega, fun r hr => ?_⟩
        have e3 : upd (upd H2 q (HO.lst [])) r (HO.lst ((swL W).map V.str ++ [])) r = some (.lst ((swA W).map V.str)) := by
          rw [upd_same, ea, List.append_nil]
        have s3 : Same H (upd (upd H2 q (HO.lst [])) r (HO.lst ((swL W).map V.str ++ []))) := same_trans st (same_trans (same_new hq) (same_new hr))
        generalize upd (upd H2 q (HO.lst [])) r (HO.lst ((swL W).map V.str ++ [])) = H3 at e3 s3 ⊢
        refine ⟨_, rfl, Nat.zero_le _, fun t ht => ⟨r, t, _, rfl, rfl, SqL.of ((same_new ht) _ _ e3), SqL.of upd_same, _, rfl, ?_⟩⟩
        obtain ⟨q1, q2⟩ := fin _ (same_trans s3 (same_new (o := HO.lst []) ht))
        rw [List.isEmpty_map]
        cases z : (swA W).isEmpty with
        | true => exact iteF (q1 z)
        | false => exact iteT ⟨⟨_, rfl⟩, _, rfl, _, r, swA W, rfl, rfl, .inl (SqL.of ((same_new ht) _ _ e3)), by omega, q2 z⟩
end
abbrev sLsl : Stmt := topS 54
abbrev nLsl : List Str := ["_law_script_here", "_law_found", "_law_command_here", "_law_word", "_law_name", "_law_path", "_law_line", "_law_thing"]
theorem scLsl : FnScope nLsl ["_law_script_here"] (defScope sLsl) := ⟨rfl, rfl, rfl, by decide +kernel, rfl, by decide +kernel, by decide +kernel⟩
-- cells set()
section
variable {P : Program} {w : World} {K : PySem.W.Frag} {mg : Str → Option Value} {base : Heap}
theorem ok_lsl {f fLscript_lines fLsum_line : Addr} {fd fdLscript_lines fdLsum_line : FuncData} (F : Fun K "_law_script_lines" "_law_script_lines" sLsl f fd)
    (FLscript_lines : Fun K "_law_script_lines" "_law_script_lines" sLsl fLscript_lines fdLscript_lines) (j : Nat) (GLscript_lines : FnOk P w K mg base CX0 (j + 4) fLscript_lines fdLscript_lines ["_law_script_here"] (spLslP j)) (gLscript_lines : mg "_law_script_lines" = some (.ref fLscript_lines))
    (FLsum_line : Fun K "_law_sum_line" "_law_sum_line" sSlw fLsum_line fdLsum_line) (GLsum_line : FnOk P w K mg base CX0 2 fLsum_line fdLsum_line ["_law_some"] spSlw) (gLsum_line : mg "_law_sum_line" = some (.ref fLsum_line)) (gStr : mg "str" = none) :
    FnOk P w K mg base CX0 (j + 4 + 1) f fd ["_law_script_here"] (spLsl j) := by
  have bLsum_line : Binds K fdLsum_line ["_law_some"] [] := FLsum_line.binds fun _ _ _ _ _ _ us hl => match us, hl with | [_], _ => rfl
  have bLscript_lines : Binds K fdLscript_lines ["_law_script_here"] [] := FLscript_lines.binds fun _ _ _ _ _ _ us hl => match us, hl with | [_], _ => rfl
  refine F.ok scLsl (fun vs H Q E h => ?_) (fun cdv A outer s0 H vs Q E hr h => ?_)
  · obtain ⟨v, cs, m, rfl, _⟩ := h
    rfl
  · obtain ⟨v, cs, m, rfl, sh, g, dp, nl, want⟩ := h
    refine ⟨_, (pss_cons (ps_set (i := 1) scLsl.nd rfl (Or.inl rfl) (pe_lst pa_nil))
      (pss_cons (ps_for PassesOwn.never rfl (pi_list (pv 0)) (pg_name (i := 2) scLsl.nd rfl (Or.inl rfl))
        (pss_cons (ps_set (i := 3) scLsl.nd rfl (Or.inl rfl) (pe_ix ix_tup (pv 2) pe_int (fun _ _ => rfl)))
          (pss_one (ps_if (pt_cmpR op_eq (pv 3) pe_str (nomark _))
            (pss_one (ps_set (i := 1) scLsl.nd rfl (Or.inl rfl) (pe_op op_cat (pe_op op_cat (pe_op op_cat (pv 1) (pe_lst (pa_cons pe_str pa_nil))) (pe_lc (own := [("_law_line", 6)]) (g := (gName 6)) (tt := tYes) rfl scLsl.nd (pi_list (pe_call GLscript_lines (hr.mono (by omega)) rfl gLscript_lines FLscript_lines.kp bLscript_lines .nil pass0 (pa_cons (pe_ix ix_tup (pv 2) pe_int (fun _ _ => rfl)) pa_nil))) (blkOk_by (N := nLsl) (sc := defScope sLsl) (by decide +kernel)) (fun _ _ _ _ _ => pg_name (i := 6) scLsl.nd rfl (Or.inl rfl)) (fun _ _ _ _ _ => pts_nil) (fun _ _ _ _ _ => (pe_op op_add_str pe_str (pv 6))))) (pe_lst (pa_cons pe_str pa_nil)))))
            (pss_one (ps_if (pt_cmpR op_in_seq (pv 3) (pe_tup (pa_cons pe_str (pa_cons pe_str (pa_cons pe_str (pa_cons pe_str pa_nil))))) (by rfl))
                (pss_one (ps_expr (pe_bm PySem.F.plainAttrs_list PySem.F.slot_list_append PySem.F.type_list_append mt_append (pv 1) (pa_cons (pe_op op_add_str (pe_op op_add_str (pv 3) pe_str) (pe_call GLsum_line (hr.mono (by omega)) rfl gLsum_line FLsum_line.kp bLsum_line .nil pass0 (pa_cons (pe_ix ix_tup (pv 2) pe_int (fun _ _ => rfl)) pa_nil))) pa_nil))))
                (pss_one (ps_if (pt_cmpR op_eq (pv 3) pe_str (nomark _))
                    (pss_cons (ps_asg (pe_ix ix_tup (pv 2) pe_int (fun _ _ => rfl)) (pg_tup rfl (pgs_cons (pg_name (i := 4) scLsl.nd rfl (Or.inl rfl)) (pgs_cons (pg_name (i := 5) scLsl.nd rfl (Or.inl rfl)) pgs_nil))))
                      (pss_one (ps_expr (pe_bm PySem.F.plainAttrs_list PySem.F.slot_list_append PySem.F.type_list_append mt_append (pv 1) (pa_cons (pe_op op_add_str (pe_op op_add_str (pe_op op_add_str (pe_op op_add_str (pe_op op_add_str (pe_op op_add_str (pv 3) pe_str) (pe_callTy call_str_int (by rfl) gStr boot_strTU (pa_cons (pe_ix ix_tup (pv 2) pe_int (fun _ _ => rfl)) pa_nil))) pe_str) (pv 4)) pe_str) (pe_ifExp (pt_cmpR (op_neD hr.units) (pv 5) (pe_tup pa_nil) (nomark _)) (pe_join pe_str (pv 5)) pe_str)) pa_nil)))))
                    (pss_one (ps_expr (pe_bm PySem.F.plainAttrs_list PySem.F.slot_list_append PySem.F.type_list_append mt_append (pv 1) (pa_cons (pe_join pe_str (pe_lc (own := [("_law_thing", 7)]) (g := (gName 7)) (tt := tYes) rfl scLsl.nd (pi_tup (pv 2)) (blkOk_by (N := nLsl) (sc := defScope sLsl) (by decide +kernel)) (fun _ _ _ _ _ => pg_name (i := 7) scLsl.nd rfl (Or.inl rfl)) (fun _ _ _ _ _ => pts_nil) (fun _ _ _ _ _ => (pe_callTy call_strAny (by rfl) gStr boot_strTU (pa_cons (pv 7) pa_nil))))) pa_nil))))))))))))
      (pss_one (ps_ret (pv 1))))), ?_⟩
    obtain ⟨k, a, vs, _, rfl, ha, ps⟩ := sh.ofList
    have lv : vs.length = cs.length := by rw [paired_len ps, dat_len]
    have li := gd_liS g (by omega)
    refine ⟨Nat.zero_le _, fun q0 hq0 => ?_⟩
    refine ⟨_, rfl, a, rfl, ⟨_, SqL.of ((same_new hq0) _ _ ha)⟩, ?_⟩
    refine for_list (xs := vs) (fun i σ H' => ∃ (q : Addr) (o2 o3 o4 o5 o6 o7 : Option V), σ = [some (.ref a), some (.ref q), o2, o3, o4, o5, o6, o7] ∧ Same H H' ∧ H q = none ∧ H' q = some (.lst ((lnS (cs.take i) "").map V.str)))
      ⟨q0, _, _, _, _, _, _, rfl, same_new hq0, hq0, by rw [upd_same, List.take_zero, lnS]; rfl⟩ ?_ ?_ ?_
    · rintro i σ H' _ ⟨q, o2, o3, o4, o5, o6, o7, _, s, _⟩
      exact SqL.of (s _ _ ha)
    · rintro i v σ H1 hv ⟨q, o2, o3, o4, o5, o6, o7, rfl, s1, nq, hq⟩
      obtain ⟨e, he, she⟩ := paired_at ps hv
      rw [dat_at] at he
      obtain ⟨c, hc, rfl⟩ := Option.map_eq_some_iff.mp he
      have mc := List.mem_of_getElem? hc
      have gc := gd_mem g mc
      have lic := li_mem li mc
      have nlc := nl_mem mc
      have tk : cs.take (i + 1) = cs.take i ++ [c] := by
        rw [List.take_add_one, hc]
        rfl
      have lt : (lnS (cs.take i) "").length ≤ 100 := by
        rw [ln_lenS]
        have e : nlS cs = nlS (cs.take i) + nlS (cs.drop i) := by
          rw [← nlS_app, List.take_append_drop]
        omega
      have fq : ((lnS (cs.take i) "").map V.str).length < sizeLine := by
        rw [List.length_map, sizeLine_eq]
        omega
      obtain ⟨k2, b, us, rfl, hb, qs⟩ := sho_cm (she.up s1)
      have app : ∀ (H3 : Hp) (t : Str) (O3 O4 O5 O6 O7 : Option V), Same H1 H3 → lnC c "" = [t] → ∃ (q' : Addr) (o2 o3 o4 o5 o6 o7 : Option V), [some (.ref a), some (.ref q), some (.ref b), O3, O4, O5, O6, O7] = [some (V.ref a), some (.ref q'), o2, o3, o4, o5, o6, o7] ∧
          Same H (upd H3 q (.lst ((lnS (cs.take i) "").map V.str ++ [V.str t]))) ∧ H q' = none ∧ upd H3 q (.lst ((lnS (cs.take i) "").map V.str ++ [V.str t])) q' = some (.lst ((lnS (cs.take (i + 1)) "").map V.str)) := fun H3 t O3 O4 O5 O6 O7 s3 et =>
        ⟨q, _, _, _, _, _, _, rfl, same_set (same_trans s1 s3) nq, nq, by rw [upd_same, tk, ln_app, lnS_one, et, app_map]; rfl⟩
      refine ⟨_, rfl, b, _, 0, V.str (wdC c), rfl, rfl, SqT.of hb, at_0, ?_⟩
      refine ⟨_, rfl, rfl, _, rfl, ?_⟩
      show if decide (V.str (wdC c) = V.str "try") = true then _ else _
      rw [dec_strE]
      have inS : ∀ {H2 : Hp} {w : Str} {R : VK}, (∀ r H3, Same H2 H3 → R (.bl (WITH_SUMS_S.contains w)) H3) → 4 ≤ sizeLine ∧ ∀ r, H2 r = none → rIn K false (V.str w) (.ref r) (upd H2 r (.tup [V.str "read", V.str "move", V.str "suppose", V.str "put"])) R := fun {H2 w R} k =>
        ⟨by rw [sizeLine_eq]; decide, fun r hr => ⟨r, WITH_SUMS_S.map V.str, rfl, .inr (SqT.of upd_same), rfl, flat_strs _, by
          show R (.bl (inV (V.str w) (WITH_SUMS_S.map V.str))) _
          rw [inV_str]
          exact k r _ (same_new hr)⟩⟩
      cases c with
      | tr ds =>
        obtain ⟨x, rfl, hx⟩ := pair_one qs
        have gd : gdS ds := by simpa only [gdC] using gc
        have d1 := dp_tr mc
        have n1 := nl_tr mc
        have lid : liS ds ∧ ds.length ≤ 1000 := by
          rw [liC] at lic
          exact lic
        show if decide (("try" : Str) = "try") = true then _ else _
        rw [decide_eq_true rfl]
        refine iteT ⟨_, rfl, one_fit, fun p1 hp1 => ?_⟩
        refine ⟨q, p1, _, _, rfl, rfl, (same_new hp1) _ _ hq, upd_same, by rw [List.length_map, sizeLine_eq]; show _ + 1 ≤ _; omega, fun r1 hr1 => ?_⟩
        have s2 := same_trans (same_new (o := HO.lst [V.str "try"]) hp1) (same_new (o := HO.lst ((lnS (cs.take i) "").map V.str ++ [V.str "try"])) hr1)
        have h2 : upd (upd H1 p1 (HO.lst [V.str "try"])) r1 (HO.lst ((lnS (cs.take i) "").map V.str ++ [V.str "try"])) r1 = some (.lst ((lnS (cs.take i) "").map V.str ++ [V.str "try"])) := upd_same
        have n2 := (same_trans s1 (same_new (o := HO.lst [V.str "try"]) hp1)).free hr1
        generalize upd (upd H1 p1 (HO.lst [V.str "try"])) r1 (HO.lst ((lnS (cs.take i) "").map V.str ++ [V.str "try"])) = H2 at s2 h2 ⊢
        refine ⟨_, rfl, b, _, 1, x, rfl, rfl, SqT.of (s2 _ _ hb), at_1, ?_⟩
        cases j with
        | zero => omega
        | succ j =>
          refine ⟨x, ds, k2, rfl, hx.up s2, gd, by omega, by omega, fun H3 z s3 nz hz => ?_⟩
          refine ⟨z, rfl, ⟨_, SqL.of hz⟩, fun D hD => ?_⟩
          refine lc_out (walk_list (xs := (lnS ds "").map V.str)) ((lnS ds "").map fun t => some (V.str ("  " ++ t))) (by rw [List.length_map, List.length_map]) (by rw [List.length_map, ln_lenS]; omega) hD (fun H' s => SqL.of (s _ _ hz)) ?_ ?_
          · rintro i2 o ho H4 v2 H5 s4 ⟨rfl, hv2⟩ Rn Ry hn hy
            obtain ⟨t, ht, rfl⟩ := some_of_get ho
            obtain rfl := map_get hv2 ht
            have tl := lnS_le (l := "") lid.1 t (List.mem_of_getElem? ht)
            have e0 : ("" : Str).length = 0 := by decide +kernel
            have dd := dp_nlS ds
            refine ⟨rfl, tyes ⟨_, rfl, _, _, rfl, rfl, by rw [lead_len, sizeLine_eq]; omega, ?_⟩⟩
            exact hy _ _ same_rfl rfl
          · intro H4 s4 hD4
            rw [fm_some] at hD4
            have h4 := s4 _ _ (s3 _ _ h2)
            have lD : ((lnS ds "").map fun t => V.str ("  " ++ t)).length = nlS ds := by rw [List.length_map, ln_lenS]
            refine ⟨r1, D, _, _, rfl, rfl, h4, hD4, by rw [List.length_append, List.length_map, lD, sizeLine_eq]; show _ + 1 + _ ≤ _; omega, fun r2 hr2 => ?_⟩
            refine ⟨one_fit, fun p3 hp3 => ?_⟩
            refine ⟨r2, p3, _, _, rfl, rfl, (same_new hp3) _ _ upd_same, upd_same, by rw [List.length_append, List.length_append, List.length_map, lD, sizeLine_eq]; show _ + 1 + _ + 1 ≤ _; omega, fun r3 hr3 => ?_⟩
            have s13 : Same H1 H4 := same_trans s2 (same_trans s3 s4)
            refine ⟨r3, _, _, _, _, _, _, rfl, same_trans s1 (same_trans s13 (same_trans (same_new hr2) (same_trans (same_new hp3) (same_new hr3)))), (same_trans s1 (same_trans s13 (same_trans (same_new hr2) (same_new hp3)))).free hr3, ?_⟩
            rw [upd_same, tk, ln_app, lnS_one, ln_tr, app_map, app_map, app_map, List.map_map]
            simp only [List.append_assoc]
            rfl
      | bare w =>
        cases qs
        obtain ⟨n1, n2, n3, n4, n5⟩ := bare_not w gc
        show if decide (w = "try") = true then _ else _
        rw [decide_eq_false n1]
        refine iteF ⟨_, rfl, inS fun r H2 s2 => ⟨_, rfl, ?_⟩⟩
        show if WITH_SUMS_S.contains w = true then _ else _
        rw [n3]
        refine iteF ⟨_, rfl, rfl, _, rfl, ?_⟩
        show if decide (V.str w = V.str "exchange") = true then _ else _
        rw [dec_strE, decide_eq_false n4]
        refine iteF ⟨_, rfl, .inl ⟨rfl, _, SqL.of (s2 _ _ hq)⟩, ⟨_, rfl⟩, _, rfl, b, rfl, ⟨_, SqT.of (s2 _ _ hb)⟩, fun D hD => ?_⟩
        refine lc_out (walk_tup (xs := [V.str w])) [some (V.str w)] rfl (Nat.le_of_ble_eq_true rfl) hD (fun H' s => SqT.of (s _ _ (s2 _ _ hb))) ?_ ?_
        · rintro i2 o ho H4 v2 H5 s4 ⟨rfl, hv2⟩ Rn Ry hn hy
          obtain rfl : i2 = 0 := by
            cases i2 with
            | zero => rfl
            | succ i2 => cases ho
          cases ho
          cases hv2
          exact ⟨rfl, tyes ⟨_, rfl, .inr ⟨w, rfl, hy _ _ same_rfl rfl⟩⟩⟩
        · intro H4 s4 hD4
          refine ⟨_, D, [w], rfl, rfl, .inl (SqL.of hD4), ?_, q, _, _, rfl, rfl, s4 _ _ (s2 _ _ hq), fq, app H4 _ _ _ _ _ _ (same_trans s2 s4) ?_⟩
          · show (w.length + 0) + 1 * (" " : Str).length ≤ _
            rw [len_one]
            omega
          · rw [lnC, emp_app]
            rfl
      | ltr r n =>
        obtain ⟨x, rfl, hx⟩ := pair_one qs
        obtain ⟨jn, rfl, h0, h1⟩ := gc
        rw [cntAt_of hx] at hb
        obtain ⟨j1, j2⟩ := num_lim h0 h1
        obtain ⟨w1, w2, w3⟩ := let_words r
        have w4 := let_len r
        have w5 : ∀ r : Bool, WITH_SUMS_S.contains (letW r) = false := by decide +kernel
        show if decide (letW r = "try") = true then _ else _
        rw [decide_eq_false (let_try r)]
        refine iteF ⟨_, rfl, inS fun _ H2 s2 => ⟨_, rfl, ?_⟩⟩
        show if WITH_SUMS_S.contains (letW r) = true then _ else _
        rw [w5]
        refine iteF ⟨_, rfl, rfl, _, rfl, ?_⟩
        show if decide (V.str (letW r) = V.str "exchange") = true then _ else _
        rw [dec_strE, decide_eq_false w2]
        refine iteF ⟨_, rfl, .inl ⟨rfl, _, SqL.of (s2 _ _ hq)⟩, ⟨_, rfl⟩, _, rfl, b, rfl, ⟨_, SqT.of (s2 _ _ hb)⟩, fun D hD => ?_⟩
        refine lc_out (walk_tup (xs := [V.str (letW r), V.int jn])) [some (V.str (letW r)), some (V.str (numS jn))] rfl (Nat.le_of_ble_eq_true rfl) hD (fun H' s => SqT.of (s _ _ (s2 _ _ hb))) ?_ ?_
        · rintro i2 o ho H4 v2 H5 s4 ⟨rfl, hv2⟩ Rn Ry hn hy
          match i2, ho, hv2 with
          | 0, ho, hv2 =>
            cases ho
            cases hv2
            exact ⟨rfl, tyes ⟨_, rfl, .inr ⟨_, rfl, hy _ _ same_rfl rfl⟩⟩⟩
          | 1, ho, hv2 =>
            cases ho
            cases hv2
            exact ⟨rfl, tyes ⟨_, rfl, .inl ⟨jn, rfl, by omega, hy _ _ same_rfl rfl⟩⟩⟩
        · intro H4 s4 hD4
          refine ⟨_, D, [letW r, numS jn], rfl, rfl, .inl (SqL.of hD4), ?_, q, _, _, rfl, rfl, s4 _ _ (s2 _ _ hq), fq, app H4 _ _ _ _ _ _ (same_trans s2 s4) ?_⟩
          · show ((letW r).length + ((numS jn).length + 0)) + 2 * (" " : Str).length ≤ _
            rw [len_one]
            omega
          · rw [lnC, emp_app, join_eq]
            rfl
      | sum r W =>
        obtain ⟨x, rfl, hx⟩ := pair_one qs
        obtain ⟨U, rfl, gU, _⟩ := gc
        obtain ⟨d, rfl, hd⟩ := sumAt_of (o := some U) hx
        have lim := gd_lim gU
        have j2 := sw_len lim
        obtain ⟨w1, w2, w3, w5⟩ := sum_words' r
        have w4 := sumw_len r
        show if decide (sumW r = "try") = true then _ else _
        rw [decide_eq_false (sum_try r)]
        refine iteF ⟨_, rfl, inS fun _ H2 s2 => ⟨_, rfl, ?_⟩⟩
        show if WITH_SUMS_S.contains (sumW r) = true then _ else _
        rw [w5]
        refine iteT ⟨_, rfl, .inl ⟨rfl, _, SqL.of (s2 _ _ hq)⟩, _, rfl, _, _, rfl, rfl, by rw [len_one, sizeLine_eq]; show (sumW r).length + 1 ≤ _; omega, ?_⟩
        refine ⟨_, rfl, b, _, 1, _, rfl, rfl, SqT.of (s2 _ _ hb), at_1, d, U, rfl, s2 _ _ hd, lim, fun H3 s3 => ?_⟩
        refine ⟨_, _, rfl, rfl, ?_, q, _, _, rfl, rfl, s3 _ _ (s2 _ _ hq), fq, app H3 _ _ _ _ _ _ (same_trans s2 s3) ?_⟩
        · show (sumW r ++ " ").length + _ ≤ _
          rw [Str.length_append, len_one, sizeLine_eq]
          omega
        · rw [lnC, emp_app]
          rfl
      | exch n mk =>
        obtain ⟨x, y, rfl, hx, hy⟩ := pair_two qs
        obtain ⟨⟨jn, rfl, h0, h1⟩, z, mz, rfl⟩ := gc
        rw [cntAt_of hx] at hb
        obtain ⟨j1, j2⟩ := num_lim h0 h1
        obtain ⟨p, p2, rfl, hp, hp2⟩ := markAt_of (o := some z) hy
        obtain ⟨m1, m2, m3⟩ := marks_lim z mz
        have mp := pw_len (ls := z.2) ⟨m2, m3⟩
        obtain ⟨z1, z2⟩ := mark_path z mz
        obtain ⟨n1, n2, n3⟩ := exch_not
        have l8 := exch_len
        show if decide (("exchange" : Str) = "try") = true then _ else _
        rw [decide_eq_false n1]
        refine iteF ⟨_, rfl, inS fun _ H2 s2 => ⟨_, rfl, ?_⟩⟩
        show if WITH_SUMS_S.contains ("exchange" : Str) = true then _ else _
        rw [n3]
        refine iteF ⟨_, rfl, rfl, _, rfl, ?_⟩
        show if decide (V.str "exchange" = V.str "exchange") = true then _ else _
        rw [decide_eq_true rfl]
        refine iteT ⟨_, rfl, b, _, 2, _, rfl, rfl, SqT.of (s2 _ _ hb), at_2, p, _, rfl, SqT.of (s2 _ _ hp), rfl, _, _, rfl, _, _, rfl, rfl, ?_⟩
        refine ⟨_, rfl, .inl ⟨rfl, _, SqL.of (s2 _ _ hq)⟩, _, rfl, _, _, rfl, rfl, by rw [len_one, sizeLine_eq]; show ("exchange" : Str).length + 1 ≤ _; omega, ?_⟩
        have en : (toString jn : Str) = numS jn := rfl
        refine ⟨_, rfl, b, _, 1, _, rfl, rfl, SqT.of (s2 _ _ hb), at_1, jn, rfl, by omega, _, _, rfl, rfl, ?_, ?_⟩
        · rw [en, Str.length_append, len_one, sizeLine_eq]
          show ("exchange" : Str).length + 1 + _ ≤ _
          omega
        rw [en]
        refine ⟨_, _, rfl, rfl, ?_, _, rfl, _, _, rfl, rfl, ?_, _, _, rfl, rfl, ?_, ?_⟩
        · rw [Str.length_append, Str.length_append, len_one, sizeLine_eq]
          show ("exchange" : Str).length + 1 + _ + 1 ≤ _
          omega
        · rw [Str.length_append, Str.length_append, Str.length_append, len_one, sizeLine_eq]
          show ("exchange" : Str).length + 1 + _ + 1 + _ ≤ _
          omega
        · rw [Str.length_append, Str.length_append, Str.length_append, Str.length_append, len_one, len_in, sizeLine_eq]
          show ("exchange" : Str).length + 1 + _ + 1 + _ + 4 ≤ _
          omega
        refine ⟨_, rfl, Nat.zero_le _, fun t ht => ?_⟩
        refine ⟨.tuple (z.2.map PyData.str), .tuple [], .tup (SqT.of ((same_new ht) _ _ (s2 _ _ hp2))) (dpa_strs z.2), .tup (SqT.of upd_same) .nil, z1, by decide +kernel, _, rfl, ?_⟩
        rw [z2]
        have s3 := same_trans s2 (same_new (o := HO.tup []) ht)
        have fin : ∀ u : Str, u = pwD z.2 → ("exchange" ++ " " ++ numS jn ++ " " ++ z.1 ++ " in " : Str).length + u.length ≤ sizeLine ∧ lnC (.exch (some jn) (some z)) "" = ["exchange" ++ " " ++ numS jn ++ " " ++ z.1 ++ " in " ++ u] := fun u e => by
          subst e
          refine ⟨?_, ?_⟩
          · rw [Str.length_append, Str.length_append, Str.length_append, Str.length_append, Str.length_append, len_one, len_in, sizeLine_eq]
            omega
          · rw [lnC, emp_app]
            show [("exchange" : Str) ++ " " ++ numS jn ++ " " ++ (z.1 ++ " in " ++ pwD z.2)] = _
            simp only [Str.append_assoc]
        cases e : z.2.isEmpty with
        | true =>
          obtain ⟨f1, f2⟩ := fin "-" (by unfold pwD; rw [if_pos e])
          exact iteF ⟨_, _, rfl, rfl, f1, q, _, _, rfl, rfl, s3 _ _ hq, fq, app _ _ _ _ _ _ _ s3 f2⟩
        | false =>
          obtain ⟨f1, f2⟩ := fin (Txt.join "." z.2) (by unfold pwD; rw [if_neg (by rw [e]; decide)])
          exact iteT ⟨⟨_, rfl⟩, _, rfl, _, p2, z.2, rfl, rfl, .inr (SqT.of (s3 _ _ hp2)), by have := pw_fit (ls := z.2) ⟨m2, m3⟩; omega, _, _, rfl, rfl, f1, q, _, _, rfl, rfl, s3 _ _ hq, fq, app _ _ _ _ _ _ _ s3 f2⟩
    · rintro σ H1 ⟨q, o2, o3, o4, o5, o6, o7, rfl, s1, nq, hq⟩
      rw [lv, List.take_length] at hq
      exact ⟨_, rfl, want H1 q s1 nq hq⟩
end
end Vb
end L2

set_option Elab.async false
set_option linter.all false
set_option maxRecDepth 100000
set_option maxHeartbeats 4000000
/-! Vb, part 61: a caught error that is kept behind its suite. -/
namespace L2
namespace Vb
open PySem PySem.Spec PyProof.Rows
/-- at a: an error that was raised, its class, its dict -/
def exk (a : Addr) (cls : Value) (d : Option Addr) : HO := .ext fun h => ∃ (oe : Obj) (vs : Array Value), h.get? a = some oe ∧ Zc cls d oe ∧ oe.data = .fields vs
theorem exk_ok {P : Program} {w : World} {H : Hp} {h : Heap} {a : Addr} {cls : Value} {d : Option Addr} {oe : Obj} {vs : Array Value} (e : h.get? a = some oe) (z : Zc cls d oe) (hd : oe.data = .fields vs) : ObjOk P w H h a (exk a cls d) :=
  ⟨⟨oe, vs, e, z, hd⟩, ⟨_, e⟩, fun h1 h2 q k => by
    obtain ⟨o, v, e, q⟩ := q
    exact ⟨o, v, k _ e, q⟩⟩
section
variable {X : Cx} {pins : List (Addr × Obj)} {σ : St} {H : Hp} {s : Shared}
/-- an object that is new since the def was entered, and not tracked, is tracked -/
theorem track {a : Addr} {o : HO} (I : Inv X pins σ H s) (na : H a = none) (h0 : X.s_0.heap.get? a = none) (nL : a ≠ X.env.locals) (nc : ∀ v, ¬ s.heap.IsCell a v) (np : ∀ p ∈ X.pn ++ pins, p.1 ≠ a) (new : ObjOk X.prog X.w (upd H a o) s.heap a o) : Inv X pins σ (upd H a o) s := by
  have ne0 : ∀ b u, X.s_0.heap.get? b = some u → b ≠ a := fun b u e z => by
    rw [z, h0] at e
    cases e
  have neH : ∀ b u, H b = some u → b ≠ a := fun b u e z => by
    rw [z, na] at e
    cases e
  have up : ∀ b u, H b = some u → upd H a o b = some u := fun b u e => by
    rw [upd_ne (neH b u e)]
    exact e
  refine ⟨I.ok, I.os, I.bare, ⟨I.base.keep, I.base.slot, fun b u e n hx => ?_, I.base.there, fun b xs e => up _ _ (I.base.tups b xs e), fun b ob u e => up _ _ (I.base.frzs b ob u e), fun b ps e => ?_⟩, I.loc, I.cell, ?_, fun x c e => ?_, fun p hp => ?_, fun b u e => ?_, I.len⟩
  · rw [upd_ne (ne0 b u e)]
    exact I.base.free b u e n hx
  · obtain ⟨m, q⟩ := I.base.tbls b ps e
    exact ⟨m, up _ _ q⟩
  · rw [upd_ne (Ne.symm nL)]
    exact I.free
  · have z : c ≠ a := fun z => by
      obtain ⟨v, q⟩ := I.cell x c e
      rw [z] at q
      exact nc v q
    rw [upd_ne z]
    exact I.freeC x c e
  · obtain ⟨e, n, r⟩ := I.pin p hp
    exact ⟨e, by rw [upd_ne (np p hp)]; exact n, r⟩
  · by_cases hb : b = a
    · subst hb
      rw [upd_same] at e
      cases e
      exact new
    · rw [upd_ne hb] at e
      exact (I.hok b u e).stay (fun _ _ _ q => q) (fun c q => up _ _ q) fun c xs q => up _ _ q
end
/-! a try whose only handler keeps the error: the body ends at its end, or raises what the clause takes; the suite ends at its end -/
/-- ends at the end alone -/
def endN (N : St → Hp → Prop) : Ends := { nx := N, rt := fun _ _ => False, bk := fun _ _ => False, ct := fun _ _ => False }
/-- what is wished of an error of the body: the clause takes it, and the suite, with it in slot i, comes to N, where it stands tracked -/
def wKeep (K : PySem.W.Frag) (c : Value) (i : Nat) (ts : Addr → Value → Option Addr → TS) (N : St → Hp → Prop) : WX := fun cls d σ H =>
  PySem.W.exmOne K cls c = some true ∧ ∀ e, H e = none → ts e cls d (endN fun σ2 H2 => N (σ2.set i none) (upd H2 e (exk e cls d))) (σ.set i (some (.ref e))) H
/-- an object with fields is no frame -/
theorem off_frames {B g : Heap} {l : List Env} {e : Addr} {o : Obj} {fs : Array Value} (ff : g.FunFrames B l) (at_ : g.get? e = some o) (hd : o.data = .fields fs) : e ∉ frs l := fun mem => by
  obtain ⟨_, o2, at2, no⟩ := ff.mem mem
  have same : o2 = o := Option.some.inj (at2.symm.trans at_)
  exact no fs (same ▸ hd)
/-- what the ground does not hold was not there when the def was entered, and is no pin -/
theorem stranger {X : Cx} {pins : List (Addr × Obj)} {σ : St} {H : Hp} {sI : Shared} {B : Heap} {e : Addr} (J : Inv X pins σ H sI) (hx : X.ex = []) (ground : ∀ b o, sI.heap.get? b = some o → b ∉ frs X.stack → B.get? b = some o) (nB : B.get? e = none) (nf : e ∉ frs X.stack) :
    X.s_0.heap.get? e = none ∧ ∀ p ∈ X.pn ++ pins, p.1 ≠ e := by
  have gone : ∀ o, sI.heap.get? e ≠ some o := fun o q => nomatch nB.symm.trans (ground e o q nf)
  refine ⟨Option.eq_none_iff_forall_ne_some.mpr fun o q => ?_, fun p hp q => gone p.2 (q ▸ (J.pin p hp).1)⟩
  obtain ⟨o2, q2⟩ := J.base.there e o q (hx ▸ List.not_mem_nil)
  exact gone o2 q2
section
variable {X : Cx} {x n : Str} {c : Value} {i : Nat} {body suite : List Stmt} {b₀ : Stmt} {np pos pos' : Pos} {tb : WX → TS} {ts : Addr → Value → Option Addr → TS} {pins : List (Addr × Obj)} {D : Ends}
/-- the raised error comes to the handler -/
theorem keep_catch {xe : Value → Shared → Prop} {u : Value} {s' : Shared} (ok : X.Ok) (hx : X.ex = []) (hs : X.stack = X.env :: X.outer) (hf : X.env.frame = some X.env.locals) (hN : X.N.Nodup) (hi : X.N[i]? = some n) (hln : X.env.kindOf n = some .local) (hc : Names X x c)
    (hsu : ∀ (a : Addr) (oe : Obj) (cls : Value) (d : Option Addr) (pn : List (Addr × Obj)), Zc cls d oe → (∃ vs, oe.data = .fields vs) → PSs (X.suite a ((a, oe) :: pn)) (b₀ :: suite) (ts a cls d))
    (thrown : L2.XE (X.tr (X.pn ++ pins) xe) (wKeep X.K c i ts D.nx) u s') :
    wpAny (model X.prog X.w) X.A (noteFrame u X.env) (fun _ t1 => wpAny (model X.prog X.w) X.A (setFlight u none) (fun _ t2 => wpAny (model X.prog X.w) X.A (handleBy u X.env [.ExceptHandler (some (.Name x np)) (some n) (b₀ :: suite) pos']) (SP X pins D) X.xe t2) X.xe t1) X.xe s' := by
  obtain ⟨e, B, sI, more, τ, G, cls, d, eu, J0, ground, up0, sky, nG, eos, bare, takes, go⟩ := thrown
  subst eu
  have J := J0.ofTry ok
  have inFrames : X.A.frames = some (X.env :: X.outer) := by
    rw [← hs]
    exact ok.frames
  have sky : Sky B (X.env :: X.outer) e (Zc cls d) X.env.locals s'.heap := by
    rw [← hs]
    exact sky
  refine Sky.land Zc.steady inFrames hf sky fun g1 fl1 up1 => ?_
  have J1 : Inv X pins τ G { s' with heap := g1 } := J.landed ground fl1.1 (up0.trans up1) eos bare
  obtain ⟨o1, fs1, at1, z1, hd1⟩ := fl1.there
  have noFrame : e ∉ frs (X.env :: X.outer) := off_frames fl1.2.2.1 at1 hd1
  have noLoc : e ≠ X.env.locals := fun q => noFrame (List.mem_filterMap.mpr ⟨X.env, List.mem_cons_self, hf.trans (congrArg some q.symm)⟩)
  have noFs : e ∉ X.fs := fun mem => by
    obtain ⟨v, hv, q⟩ := List.mem_filterMap.mp mem
    exact noFrame (List.mem_filterMap.mpr ⟨v, List.mem_cons_of_mem _ hv, q⟩)
  obtain ⟨atStart, noPin⟩ := stranger J hx ground fl1.2.1 (hs ▸ noFrame)
  have looks : PySem.W.Looks (model X.prog X.w) g1 (typeOf (.ref e)) cls := fun _ _ _ _ k q => wpAny_typeOf_ref (k _ _ at1) (z1.1 ▸ q)
  have fits := PySem.W.exm_one (M := model X.prog X.w) J1.kIn looks takes
  have inSuite := J1.suite at1 hd1 nG noLoc noFs
  refine wpAny_handleBy_cons (codeAny_handlers_test ?_) (fun q => nomatch q)
  have name : ∀ {R Z : Value → Shared → Prop}, R c { s' with heap := g1 } → wpAny (model X.prog X.w) (X.A.mark (some (.ref e))) (eval (.Name x np) X.env) R Z { s' with heap := g1 } := fun {R Z} r => by
    obtain ⟨hg, hdb, hm | ⟨hm, hv, hn⟩⟩ := hc
    · exact ld_glob (X := X.suite e ((e, o1) :: (X.pn ++ pins))) inSuite hg hm r hdb
    · exact ld_blt (X := X.suite e ((e, o1) :: (X.pn ++ pins))) inSuite hg hm hv r hn hdb
  refine name (fits.here (codeAny_handlers_suite_as (HandSPX.lands_againZ fl1 fun g2 fl2 up2 => ?_)))
  obtain ⟨o2, fs2, at2, z2, hd2⟩ := fl2.there
  have J2 : Inv X pins τ G { s' with heap := g2 } := J.landed ground fl2.1 ((up0.trans up1).trans up2) eos bare
  refine store_ok (X := X.suite e ((e, o2) :: (X.pn ++ pins))) (v := .ref e) (J2.suite at2 hd2 nG noLoc noFs) hN hi (.inl hln) rfl (fun t5 S5 => ?_) (.inr hln)
  refine wpAny_mono ((hsu e o2 cls d (X.pn ++ pins) z2 ⟨_, hd2⟩).run [] t5 _ G _ S5 (go e nG)) (fun fl t6 out => ?_) fun _ _ q => q.elim
  match fl, out with
  | .next, ⟨σ6, H6, S6, q6⟩ =>
    obtain ⟨at6, n6, _⟩ := S6.pin (e, o2) (List.mem_append_left _ List.mem_cons_self)
    have at6 : t6.heap.get? e = some o2 := at6
    have noCell : ∀ v, ¬ t6.heap.IsCell e v := fun v ⟨o7, at7, hd7⟩ => by
      have same : o7 = o2 := Option.some.inj (at7.symm.trans at6)
      rw [same, hd2] at hd7
      cases hd7
    exact gone_ok (track (o := exk e cls d) (S6.unsuite ok) n6 atStart noLoc noCell noPin (exk_ok at6 z2 hd2)) hN hi hln fun t7 J7 => ⟨_, _, J7, q6⟩
  | .brk, ⟨_, _, _, q⟩ => exact q.elim
  | .cont, ⟨_, _, _, q⟩ => exact q.elim
  | .ret _, ⟨_, _, _, _, _, q⟩ => exact q.elim
theorem ps_try_keep (hx : X.ex = []) (hs : X.stack = X.env :: X.outer) (hf : X.env.frame = some X.env.locals) (hN : X.N.Nodup) (hi : X.N[i]? = some n) (hln : X.env.kindOf n = some .local) (hc : Names X x c)
    (hb : ∀ (W : WX) (pn : List (Addr × Obj)) (xe : Value → Shared → Prop), Takes (X.tr pn xe) W → PassesOwn (model X.prog X.w) X.A X.env xe → PSs (X.tr pn xe) body (tb W))
    (hsu : ∀ (a : Addr) (oe : Obj) (cls : Value) (d : Option Addr) (pn : List (Addr × Obj)), Zc cls d oe → (∃ vs, oe.data = .fields vs) → PSs (X.suite a ((a, oe) :: pn)) (b₀ :: suite) (ts a cls d)) :
    PS X (.Try body [.ExceptHandler (some (.Name x np)) (some n) (b₀ :: suite) pos'] [] [] pos) (fun D σ H => tb (wKeep X.K c i ts D.nx) (endN D.nx) σ H) := by
  refine ⟨fun pins s σ H D I go => wpAny_Try_except ?_⟩
  have ok := I.ok
  refine wpAny_mono ((hb (wKeep X.K c i ts D.nx) (X.pn ++ pins) _ (fun u s' thrown => keep_catch (pins := pins) (D := D) ok hx hs hf hN hi hln hc hsu thrown) PassesOwn.looking).run [] s σ H _ (I.toTry _) go) (fun fl s1 out => ?_) fun _ _ q => q
  match fl, out with
  | .next, ⟨σ1, H1, J1, q1⟩ => exact wpAny_execs_nil ⟨σ1, H1, J1.ofTry ok, q1⟩
  | .brk, ⟨_, _, _, q⟩ => exact q.elim
  | .cont, ⟨_, _, _, q⟩ => exact q.elim
  | .ret _, ⟨_, _, _, _, _, q⟩ => exact q.elim
end
section
/-- the kept error: an instance of the class at C, with a field -/
def KeptAt (H : Hp) (a C : Addr) (v : V) : Prop := ∃ d, H a = some (exk a (.ref C) (some d)) ∧ H d = some (.xd [(("value" : Str), v)])
theorem kept_at {P : Program} {w : World} {H : Hp} {h : Heap} {a C : Addr} {v : V} (ok : HOk P w H h) (e : KeptAt H a C v) : ∃ (ox od : Obj) (mA : Str → Option Value), PySem.W.InstAt h a ox C (some od) ∧ (∀ f, PySem.W.lookIn f od = some (mA f)) ∧ ∀ f, RelO (List.lookup f [(("value" : Str), v)]) (mA f) := by
  obtain ⟨d, ea, ed⟩ := e
  obtain ⟨⟨oe, vs, ho, ⟨hz1, hz2⟩, hdt⟩, _, _⟩ := ok a _ ea
  have hx : ObjOk P w H h d (.xd [(("value" : Str), v)]) := ok d _ ed
  obtain ⟨mA, hns, rel⟩ := hx
  obtain ⟨oD, hd, hl⟩ := lookIn_ns hns
  exact ⟨oe, oD, mA, ⟨ho, hz1, by unfold PySem.W.notCls; rw [hdt] <;> rfl, by rw [hz2]; exact hd⟩, hl, rel⟩
/-- isinstance(e, c) of a kept error -/
def rIsKept (K : PySem.W.Frag) : List V → Hp → VK → Prop := fun xs H Q => ∃ (a C : Addr) (x c : V) (cv : Value) (b : Bool), xs = [.ref a, c] ∧ EoM.ErA K C ∧ KeptAt H a C x ∧ ClsV c cv ∧ PySem.W.kitOne K (.ref C) cv = some b ∧ Q (.bl b) H
theorem call_isKept {X : Cx} : CallR X (.builtin "isinstance") (rIsKept X.K) := by
  intro pins s σ H xs us Q I r h
  obtain ⟨a, C, x, c, cv, b, rfl, T, ea, k, e, q⟩ := h
  obtain ⟨u1, u2, rfl, r1, r2⟩ := vals2 r
  have e2 := k.eq r2
  subst e2
  cases (show u1 = Value.ref a from r1)
  obtain ⟨ox, od, mA, J, _⟩ := kept_at I.hok ea
  exact PySem.W.kia_one (EoM.kit_err T) I.kIn J e (fun z => nomatch z) fun tk => ⟨.bl b, H, I.tok tk, rfl, q⟩
/-- e.value of a kept error -/
def tValK (K : PySem.W.Frag) (te : TE) : TE := fun σ H Q => te σ H fun x H1 => ∃ (a C : Addr) (v : V), x = .ref a ∧ EoM.ErA K C ∧ PySem.W.findIn K (.ref C) "value" = some none ∧ KeptAt H1 a C v ∧ Q v H1
theorem pe_valK {X : Cx} {e : Expr} {te : TE} {pos : Pos} (he : PE X e te) (hb : attributeBase e "value" X.env (eval e X.env) = eval e X.env := by rfl) : PE X (.Attribute e "value" pos) (tValK X.K te) := by
  refine ⟨fun pins s σ H Q I h => ?_⟩
  refine attr_of hb (thn (he.run pins s σ H _ I h) fun u s1 hh => ?_)
  obtain ⟨x, H1, I1, rx, a, C, v, rfl, T, noV, ea, q⟩ := hh
  obtain rfl : u = Value.ref a := rx
  obtain ⟨ox, od, mA, J, hl, rel⟩ := kept_at I1.hok ea
  have l : List.lookup ("value" : Str) [(("value" : Str), v)] = some v := by simp [List.lookup]
  obtain ⟨u, hu, ru⟩ := RelO.some_of (v := v) (o := mA "value") (by rw [← l]; exact rel "value")
  exact PySem.HandSPX.exc_get I1.kIn J T.ga T.gt T.sub (PySem.W.findObj_own T.dct noV rfl (by rw [hl, hu])) (handed_of ru) ⟨v, H1, I1.tok _, ru, q⟩
end
/-! ### a callee that is an expression -/
/-- f(e, ..), f an expression that gives one of some defs -/
def tCallE (L : List (Addr × Sp)) (E : XK) (tf : TE) (t : TA) : TE := fun σ H Q => tf σ H fun x H0 => ∃ f sp, x = .ref f ∧ (f, sp) ∈ L ∧ t σ H0 fun vs H1 => sp vs H1 Q E
section
variable {X : Cx} {CX : CXT} {k : Nat} {L : List (Addr × Sp)} {E : XK} {fe e : Expr} {es : List Expr} {tf : TE} {t : TA} {pos : Pos}
theorem pe_callE (F : ∀ p ∈ L, FnR X.prog X.w X.K X.mg X.base CX k p.1 p.2 ∧ PySem.W.keepIn X.K (.ref p.1) = true) (hr : Room k X.A) (hx : Passes CX X E) (hf : PE X fe tf) (ha : PA X (e :: es) t)
    (ht : eval (.Call fe (e :: es) [] pos) X.env = (do callWith pos (← eval fe X.env) [] (backTo pos (starEach (e :: es) X.env)) (backToKw pos (keywordEach [] X.env))) := by rfl)
    (he : starEach (e :: es) X.env = (false, eval e X.env) :: starEach es X.env := by rfl) (hpl : (backTo pos (starEach es X.env)).any (·.1) = false := by rfl) : PE X (.Call fe (e :: es) [] pos) (tCallE L E tf t) := by
  refine ⟨fun pins s σ H Q I h => ?_⟩
  refine Call_ (thn (hf.run pins s σ H _ I h) fun u s1 ⟨x, H0, I0, rx, f, sp, ex, mem, q⟩ => ?_) ht
  subst ex
  obtain rfl : u = Value.ref f := rx
  obtain ⟨F1, hk⟩ := F _ mem
  refine PySem.W.callWith_K (h₀ := X.base) I0.ok.mod.kin hk (thn (ha.run pos pins s1 σ H0 _ I0 q) fun us s2 ⟨vs, H1, I1, r, q1⟩ => ⟨I1.kIn, ?_⟩) he hpl
  exact wpAny_call (run_fnR F1 hr hx I1 r q1)
end
end Vb
end L2

set_option Elab.async false
set_option linter.all false
set_option maxRecDepth 100000
set_option maxHeartbeats 4000000
/-! Vb, k88: the law's own defs at every depth; what is refused. -/
namespace L2
namespace Vb
open PySem PySem.Spec PyProof.Rows
section
variable {P : Program} {w : World} {K : PySem.W.Frag} {mg : Str → Option Value} {base : Heap}
theorem ok_lcAll {f fLdraw fLone_of fLtold_dict : Addr}
    {fd fdLdraw fdLone_of fdLtold_dict : FuncData}
    (F : Fun K "_law_command" "_law_command" sLc f fd)
    (FLdraw : Fun K "_law_draw" "_law_draw" sDraw fLdraw fdLdraw)
    (GLdraw : FnOk P w K mg base CX0 2 fLdraw fdLdraw ["_law_purse_here", "_law_many_here"] spDraw)
    (gLdraw : mg "_law_draw" = some (.ref fLdraw))
    (FLone_of : Fun K "_law_one_of" "_law_one_of" sOneOf fLone_of fdLone_of)
    (GLone_of : FnOk P w K mg base CX0 3 fLone_of fdLone_of ["_law_purse_here", "_law_some"] spOneOf)
    (gLone_of : mg "_law_one_of" = some (.ref fLone_of))
    (FLtold_dict : Fun K "_law_told_dict" "_law_told_dict" sTd fLtold_dict fdLtold_dict)
    (GLtold_dict : FnOk P w K mg base CX0 5 fLtold_dict fdLtold_dict ["_law_purse_here", "_law_prime", "_law_names", "_law_word"] spTd)
    (gLtold_dict : mg "_law_told_dict" = some (.ref fLtold_dict))
    (g : mg "_law_command" = some (.ref f))
    (gRange : mg "range" = none) (n : Nat) :
    FnOk P w K mg base CX0 (n + 5 + 1) f fd ["_law_purse_here", "_law_prime", "_law_names", "_law_marks", "_law_deep"] (spLc n) := by
  induction n with
  | zero => exact ok_lc (F := F) (FLdraw := FLdraw) (GLdraw := GLdraw) (gLdraw := gLdraw) (FLone_of := FLone_of) (GLone_of := GLone_of) (gLone_of := gLone_of) (FLtold_dict := FLtold_dict) (GLtold_dict := GLtold_dict) (gLtold_dict := gLtold_dict) (gLcommand := g) (gRange := gRange) (FLcommand := F) (j := 0) (GLcommand := ok_never)
  | succ j ih => exact ok_lc (F := F) (FLdraw := FLdraw) (GLdraw := GLdraw) (gLdraw := gLdraw) (FLone_of := FLone_of) (GLone_of := GLone_of) (gLone_of := gLone_of) (FLtold_dict := FLtold_dict) (GLtold_dict := GLtold_dict) (gLtold_dict := gLtold_dict) (gLcommand := g) (gRange := gRange) (FLcommand := F) (j := j + 1) (GLcommand := ih.mono (by omega))
theorem ok_manyAll {f : Addr}
    {fd : FuncData}
    (F : Fun K "_law_many" "_law_many" sMany f fd)
    (g : mg "_law_many" = some (.ref f))
    (gLen : mg "len" = none)
    (gSum : mg "sum" = none) (n : Nat) :
    FnOk P w K mg base CX0 (n + 1) f fd ["_law_script_here"] (spMany n) := by
  induction n with
  | zero => exact ok_many (F := F) (gLmany := g) (gLen := gLen) (gSum := gSum) (FLmany := F) (j := 0) (GLmany := ok_never)
  | succ j ih => exact ok_many (F := F) (gLmany := g) (gLen := gLen) (gSum := gSum) (FLmany := F) (j := j + 1) (GLmany := ih.mono (by omega))
theorem ok_lslAll {f fLsum_line : Addr}
    {fd fdLsum_line : FuncData}
    (F : Fun K "_law_script_lines" "_law_script_lines" sLsl f fd)
    (g : mg "_law_script_lines" = some (.ref f))
    (FLsum_line : Fun K "_law_sum_line" "_law_sum_line" sSlw fLsum_line fdLsum_line)
    (GLsum_line : FnOk P w K mg base CX0 2 fLsum_line fdLsum_line ["_law_some"] spSlw)
    (gLsum_line : mg "_law_sum_line" = some (.ref fLsum_line))
    (gStr : mg "str" = none) (n : Nat) :
    FnOk P w K mg base CX0 (n + 4 + 1) f fd ["_law_script_here"] (spLsl n) := by
  induction n with
  | zero => exact ok_lsl (F := F) (gLscript_lines := g) (FLsum_line := FLsum_line) (GLsum_line := GLsum_line) (gLsum_line := gLsum_line) (gStr := gStr) (FLscript_lines := F) (j := 0) (GLscript_lines := ok_never)
  | succ j ih => exact ok_lsl (F := F) (gLscript_lines := g) (FLsum_line := FLsum_line) (GLsum_line := GLsum_line) (gLsum_line := gLsum_line) (gStr := gStr) (FLscript_lines := F) (j := j + 1) (GLscript_lines := ih.mono (by omega))
end
/-- the class of errors with a field, seen by a suite -/
structure TxC (K : PySem.W.Frag) (C : Addr) : Prop where
  xf : XfC K C
  noV : PySem.W.findIn K (.ref C) "value" = some none
  ex : PySem.W.exmOne K (.ref C) (.ref C) = some true
theorem tyx_of {K : PySem.W.Frag} {n : Nat} {H : Hp} {v : V} {d : PyData} (h : Sho n H v d) : TyX K H v (.type (tyD d)) := by
  cases d with
  | none =>
    rw [h.ofNone]
    exact .base .non
  | bool b =>
    rw [h.ofBool]
    exact .base (.bl b)
  | int i =>
    rw [h.ofInt]
    exact .base (.int i)
  | str x =>
    rw [h.ofStr]
    exact .base (.str x)
  | list ds =>
    obtain ⟨_, _, _, _, rfl, e, _⟩ := h.ofList
    exact .base (.lst e)
  | tuple ds =>
    obtain ⟨_, _, _, _, rfl, e, _⟩ := h.ofTuple
    exact .base (.tup e)
  | dict kvs =>
    obtain ⟨_, _, _, _, rfl, e, _⟩ := h.ofDict
    exact .base (.dK e)
theorem kit_strD (d : PyData) : kitB (tyD d) "str" = some (match d with | .str _ => true | _ => false) := by
  cases d <;> first
    | exact (show kitB "NoneType" "str" = some false from by decide +kernel)
    | exact (show kitB "bool" "str" = some false from by decide +kernel)
    | exact (show kitB "int" "str" = some false from by decide +kernel)
    | exact (show kitB "str" "str" = some true from by decide +kernel)
    | exact (show kitB "list" "str" = some false from by decide +kernel)
    | exact (show kitB "tuple" "str" = some false from by decide +kernel)
    | exact (show kitB "dict" "str" = some false from by decide +kernel)
/-- what is no text, and is refused -/
def OddV (H : Hp) (v : V) : Prop := v = .non ∨ v = .int 1 ∨ v = .bl true ∨ (∃ p ls, v = .ref p ∧ H p = some (.lst (List.map V.str ls))) ∨ (∃ p, v = .ref p ∧ H p = some (.tup [V.str "undo"])) ∨ ∃ p, v = .ref p ∧ H p = some (.dK [])
def oddD (d : PyData) : Prop := ∀ x, d ≠ .str x
theorem sho_strs {n : Nat} {H : Hp} : ∀ ls : List Str, Paired (Sho n H) (ls.map V.str) (ls.map PyData.str)
  | [] => .nil
  | l :: ls => .cons (.str l) (sho_strs ls)
theorem OddV.sho {H : Hp} {v : V} (h : OddV H v) : ∃ d, Sho 2 H v d ∧ ∀ x, d ≠ .str x := by
  rcases h with rfl | rfl | rfl | ⟨p, ls, rfl, e⟩ | ⟨p, rfl, e⟩ | ⟨p, rfl, e⟩
  · exact ⟨_, .non, fun x => nofun⟩
  · exact ⟨_, .int 1, fun x => nofun⟩
  · exact ⟨_, .bl true, fun x => nofun⟩
  · exact ⟨_, .lst e (sho_strs ls), fun x => nofun⟩
  · exact ⟨_, .tup e (sho_strs ["undo"]), fun x => nofun⟩
  · exact ⟨_, .dct e, fun x => nofun⟩
theorem OddV.up {H H' : Hp} {v : V} (h : OddV H v) (s : Same H H') : OddV H' v := by
  rcases h with h | h | h | ⟨p, ls, h, e⟩ | ⟨p, h, e⟩ | ⟨p, h, e⟩
  · exact .inl h
  · exact .inr (.inl h)
  · exact .inr (.inr (.inl h))
  · exact .inr (.inr (.inr (.inl ⟨p, ls, h, s _ _ e⟩)))
  · exact .inr (.inr (.inr (.inr (.inl ⟨p, h, s _ _ e⟩))))
  · exact .inr (.inr (.inr (.inr (.inr ⟨p, h, s _ _ e⟩))))
/-- == of lists, of data, of dicts -/
def rEqS (K : PySem.W.Frag) : R2 := fun x y H Q => rEqW K true x y H Q ∨ rEqD K x y H Q ∨ rEqDA x y H Q ∨ rEq x y H Q
theorem op_eqS {X : Cx} (hu : X.A.units + 64 < cLine) : OpR X (compareOp .Eq) (rEqS X.K) := by
  intro pins s σ H x y v u Q I rx ry h
  rcases h with h | h | h | h
  · exact op_eqW hu pins s σ H x y v u Q I rx ry h
  · exact op_eqD hu pins s σ H x y v u Q I rx ry h
  · exact op_eq_dictA (by omega) pins s σ H x y v u Q I rx ry h
  · exact op_eq pins s σ H x y v u Q I rx ry h
theorem eqS_str {K : PySem.W.Frag} {H : Hp} {x : Str} {Q : VK} (q : Q (.bl true) H) : rEqS K (.str x) (.str x) H Q := .inr (.inr (.inr ⟨rfl, by
  rw [decide_eq_true rfl]
  exact q⟩))
theorem OddV.eqS {K : PySem.W.Frag} {H : Hp} {v : V} {Q : VK} (h : OddV H v) (q : Q (.bl true) H) : rEqS K v v H Q := by
  rcases h with rfl | rfl | rfl | ⟨p, ls, rfl, e⟩ | ⟨p, rfl, e⟩ | ⟨p, rfl, e⟩
  · exact .inr (.inl ⟨_, _, .non, .non, rfl, rfl, q⟩)
  · exact .inr (.inl ⟨_, _, .int 1, .int 1, rfl, rfl, q⟩)
  · exact .inr (.inl ⟨_, _, .bl true, .bl true, rfl, rfl, q⟩)
  · exact .inl ⟨0, p, p, _, _, by omega, rfl, rfl, e, e, eqW_strs ls, q⟩
  · refine .inr (.inl ⟨.tuple [.str "undo"], .tuple [.str "undo"], .tup (SqT.of e) (dpa_strs ["undo"]), .tup (SqT.of e) (dpa_strs ["undo"]), by decide +kernel, by decide +kernel, ?_⟩)
    have z : PyData.eqv (.tuple [.str "undo"]) (.tuple [.str "undo"]) = true := by decide +kernel
    rw [z]
    exact q
  · exact .inr (.inr (.inl ⟨p, p, [], [], rfl, rfl, e, e, rfl, fun _ m => (nomatch m), q⟩))
def spRef : Sp := fun vs H Q _ => ∃ v, vs = [v] ∧ ((OddV H v ∧ ∀ H', Same H H' → Q (.bl true) H') ∨ ∃ x, v = .str x ∧ TxOk x ∧ ∀ H', Same H H' → Q (.bl (rdS x).isNone) H')
def spBent : Sp := fun vs H Q _ => ∃ x, vs = [.str x] ∧ TxOk x ∧ ∀ H', Same H H' → Q (.bl true) H'
theorem takes_no {X : Cx} : Takes X fun _ _ _ _ => False := fun u s' ⟨a, B, sI, pins, σ, H, cls, d, e, I, nb, up, sky, na, os, ag, w⟩ => w.elim
theorem op_eqSK {X : Cx} {K : PySem.W.Frag} (hk : X.K = K) (hu : X.A.units + 64 < cLine) : OpR X (compareOp .Eq) (rEqS K) := by
  subst hk
  exact op_eqS hu
theorem call_isiH {X : Cx} {K : PySem.W.Frag} (hk : X.K = K) : CallR X (.builtin "isinstance") (rIsi K) := by
  subst hk
  exact call_isi
theorem ref_tail {K : PySem.W.Frag} {H1 : Hp} {v : V} {t : Value} {bs : Bool} {a C dd : Addr} {Q : VK} {σ : St} (hσ : σ[1]? = some (some (.ref a))) (h0 : σ[0]? = some (some v)) (hd : H1 dd = some (.xd [(("value" : Str), v)])) (ty : TyX K H1 v t) (k : PySem.W.kitOne K t (.type "str") = some bs)
    (eq : ∀ R : VK, R (.bl true) H1 → rEqS K v v H1 R) (q : Q (.bl true) H1) : tAndV (tOp rEq (tCB (rIsi K) (tCons (tXf a (.ref C) (some dd) C "value" (tVar 1)) (tCons (tC (.ty "str")) tNil))) (tCB (rIsi K) (tCons (tVar 0) (tCons (tC (.ty "str")) tNil)))) (tOp (rEqS K) (tXf a (.ref C) (some dd) C "value" (tVar 1)) (tVar 0)) σ H1 Q := by
  have l : List.lookup ("value" : Str) [(("value" : Str), v)] = some v := by simp [List.lookup]
  refine ⟨_, hσ, rfl, rfl, dd, _, v, rfl, hd, l, ?_⟩
  refine ⟨v, _, t, _, bs, rfl, ClsV.ty _, ty, k, ?_⟩
  refine ⟨_, h0, v, _, t, _, bs, rfl, ClsV.ty _, ty, k, ?_⟩
  refine ⟨rfl, _, rfl, ?_⟩
  rw [decide_eq_true rfl]
  exact iteT ⟨_, hσ, rfl, rfl, dd, _, v, rfl, hd, l, _, h0, eq _ q⟩
theorem passF {X : Cx} : Passes (L2.CX X.prog X.w) X E0 := passes_call (E := E0) takes_no fun _ _ _ _ h => h
abbrev sRef : Stmt := topS 55
abbrev nRef : List Str := ["_law_text", "error"]
theorem scRef : FnScope nRef ["_law_text"] (defScope sRef) := ⟨rfl, rfl, rfl, by decide +kernel, rfl, by decide +kernel, by decide +kernel⟩
section
variable {P : Program} {w : World} {K : PySem.W.Frag} {mg : Str → Option Value} {base : Heap}
theorem ok_ref {C f fread_script : Addr} {fd fdread_script : FuncData} (T : TxC K C) (gC : mg "InvalidText" = some (.ref C)) (F : Fun K "_law_refused" "_law_refused" sRef f fd)
    (Fread_script : Fun K "read_script" "read_script" sRead fread_script fdread_script) (Gread_script : FnOk P w K mg base (L2.CX P w) 128 fread_script fdread_script ["text"] (spRead C)) (gread_script : mg "read_script" = some (.ref fread_script)) (gIsinstance : mg "isinstance" = none) (gStr : mg "str" = none) :
    FnOk P w K mg base CX0 129 f fd ["_law_text"] spRef := by
  have bread_script : Binds K fdread_script ["text"] [] := Fread_script.binds fun _ _ _ _ _ _ us hl => match us, hl with | [_], _ => rfl
  refine F.ok scRef (fun vs H Q E h => ?_) (fun cdv A outer s0 H vs Q E hr h => ?_)
  · obtain ⟨v, rfl, _⟩ := h
    rfl
  · obtain ⟨v, rfl, hv⟩ := h
    refine ⟨_, (pss_cons (ps_try_as (i := 1) (Wout := fun _ _ _ _ => False) rfl rfl scRef.nd rfl rfl ⟨rfl, by decide, .inl gC⟩ takes_no (fun W pn xe tk _ => pss_one (ps_expr (pe_callS Gread_script (hr.mono (by decide)) rfl gread_script Fread_script.kp bread_script (fun σ => passAt tk σ) (pa_cons (pv 0) pa_nil))))
        (fun a oe cls d pn hz hf => pss_one (ps_ret (pe_and (pe_cmpR op_eq (pe_callB (call_isiH (K := K) rfl) (by rfl) gIsinstance boot_isinstance (pa_cons (pe_xf T.xf T.noV hz hf (pv 1)) (pa_cons (pe_bltn rfl gStr boot_strTU rel_strTU) pa_nil))) (pe_callB (call_isiH (K := K) rfl) (by rfl) gIsinstance boot_isinstance (pa_cons (pv 0) (pa_cons (pe_bltn rfl gStr boot_strTU rel_strTU) pa_nil))) (nomark _)) (pe_one (pe_cmpR (op_eqSK (K := K) rfl hr.units) (pe_xf T.xf T.noV hz hf (pv 1)) (pv 0) (nomark _)))))))
      (pss_one (ps_ret pe_bl))), ?_⟩
    rcases hv with ⟨ov, want⟩ | ⟨x, rfl, tx, want⟩
    · obtain ⟨d, sh, nd⟩ := ov.sho
      refine ⟨_, rfl, _, rfl, .inl ⟨d, 2, sh, nd, fun dd H1 s1 n1 hd => ?_⟩⟩
      refine ⟨true, T.ex, fun _ a na => ?_, fun e => nomatch e⟩
      have ks : PySem.W.kitOne K (.type (tyD d)) (.type "str") = some false := by
        rw [kit_ty (kit_strD d)]
        cases d with
        | str x => exact (nd x rfl).elim
        | _ => rfl
      exact ref_tail rfl rfl hd (tyx_of (sh.up s1)) ks (fun R q => (ov.up s1).eqS q) (want H1 s1)
    · refine ⟨_, rfl, _, rfl, .inr ⟨x, rfl, tx, fun e dd H1 s1 n1 hd => ?_, fun H1 p vs s s1 np e hp ps so => ?_⟩⟩
      · refine ⟨true, T.ex, fun _ a na => ?_, fun e => nomatch e⟩
        rw [e] at want
        exact ref_tail rfl rfl hd (tyx_of (Sho.str (n := 0) x)) (kit_ty (kit_strD (.str x))) (fun R q => eqS_str q) (want H1 s1)
      · rw [e] at want
        exact want H1 s1
end
abbrev sBent : Stmt := topS 56
abbrev nBent : List Str := ["_law_text"]
theorem scBent : FnScope nBent ["_law_text"] (defScope sBent) := ⟨rfl, rfl, rfl, by decide +kernel, rfl, by decide +kernel, by decide +kernel⟩
-- cells set()
section
variable {P : Program} {w : World} {K : PySem.W.Frag} {mg : Str → Option Value} {base : Heap}
theorem ok_bent {C f fscript_text fread_script fLrefused : Addr} {fd fdscript_text fdread_script fdLrefused : FuncData} (F : Fun K "_law_is_bent" "_law_is_bent" sBent f fd)
    (Fscript_text : Fun K "script_text" "script_text" sTx fscript_text fdscript_text) (Gscript_text : FnOk P w K mg base CX0 128 fscript_text fdscript_text ["script"] spTx) (gscript_text : mg "script_text" = some (.ref fscript_text))
    (Fread_script : Fun K "read_script" "read_script" sRead fread_script fdread_script) (Gread_script : FnOk P w K mg base (L2.CX P w) 128 fread_script fdread_script ["text"] (spRead C)) (gread_script : mg "read_script" = some (.ref fread_script))
    (FLrefused : Fun K "_law_refused" "_law_refused" sRef fLrefused fdLrefused) (GLrefused : FnOk P w K mg base CX0 129 fLrefused fdLrefused ["_law_text"] spRef) (gLrefused : mg "_law_refused" = some (.ref fLrefused)) :
    FnOk P w K mg base CX0 131 f fd ["_law_text"] spBent := by
  have bscript_text : Binds K fdscript_text ["script"] [] := Fscript_text.binds fun _ _ _ _ _ _ us hl => match us, hl with | [_], _ => rfl
  have bread_script : Binds K fdread_script ["text"] [] := Fread_script.binds fun _ _ _ _ _ _ us hl => match us, hl with | [_], _ => rfl
  have bLrefused : Binds K fdLrefused ["_law_text"] [] := FLrefused.binds fun _ _ _ _ _ _ us hl => match us, hl with | [_], _ => rfl
  refine F.ok scBent (fun vs H Q E h => ?_) (fun cdv A outer s0 H vs Q E hr h => ?_)
  · obtain ⟨x, rfl, _⟩ := h
    rfl
  · obtain ⟨x, rfl, tx, want⟩ := h
    refine ⟨_, (pss_one (ps_ret (pe_or (pe_call GLrefused (hr.mono (by decide)) rfl gLrefused FLrefused.kp bLrefused .nil pass0 (pa_cons (pv 0) pa_nil)) (pe_one (pe_cmpR op_eq (pe_call Gscript_text (hr.mono (by decide)) rfl gscript_text Fscript_text.kp bscript_text .nil pass0 (pa_cons (pe_call Gread_script (hr.mono (by decide)) rfl gread_script Fread_script.kp bread_script .nil passF (pa_cons (pv 0) pa_nil)) pa_nil)) (pv 0) (nomark _)))))), ?_⟩
    refine ⟨_, rfl, _, rfl, .inr ⟨x, rfl, tx, fun H1 s1 => ⟨_, rfl, ?_⟩⟩⟩
    cases e : rdS x with
    | none => exact iteT (want H1 s1)
    | some s =>
      obtain ⟨sb, te⟩ := rdS_some e
      refine iteF ⟨_, rfl, _, rfl, .inr ⟨x, rfl, tx, fun e2 => (by rw [e] at e2; cases e2), fun H2 p vs s2 s1' np e2 hp ps so => ?_⟩⟩
      rw [e] at e2
      cases e2
      refine ⟨.ref p, s, 131, rfl, Sho.lst hp (pr_le (Nat.le_refl _) pt_le2 ps), so, sb, fun H3 s3 => ⟨_, rfl, rfl, ?_⟩⟩
      rw [te, decide_eq_true rfl]
      exact want H3 (same_trans s1 (same_trans s1' s3))
end
end Vb
end L2

set_option Elab.async false
set_option linter.all false
set_option maxRecDepth 100000
set_option maxHeartbeats 4000000
/-! Vb, k88: how long the lines are; texts that are none. -/
namespace L2
namespace Vb
open PySem PySem.Spec PyProof.Rows
/-- no run without an end of line is longer -/
def Runs (x : List Nat) (k : Nat) : Prop := ∀ s, s <:+: x → 10 ∉ s → s.length ≤ k
theorem Runs.mono {x y : List Nat} {k : Nat} (h : Runs x k) (s : y <:+: x) : Runs y k := fun t m n => h t (m.trans s) n
theorem Runs.le {x : List Nat} {k m : Nat} (h : Runs x k) (l : k ≤ m) : Runs x m := fun t i n => Nat.le_trans (h t i n) l
theorem runs_len {x : List Nat} {k : Nat} (h : x.length ≤ k) : Runs x k := fun s i _ => Nat.le_trans i.length_le h
theorem Runs.app {x y : List Nat} {k m : Nat} (h : Runs x k) (g : Runs y m) : Runs (x ++ y) (k + m) := fun s i n => by
  rcases List.infix_append_iff.mp i with i | i | ⟨a, b, rfl, ia, ib⟩
  · have := h s i n
    omega
  · have := g s i n
    omega
  · have h1 := h a ia.isInfix fun m => n (List.mem_append_left _ m)
    have h2 := g b ib.isInfix fun m => n (List.mem_append_right _ m)
    rw [List.length_append]
    omega
theorem Runs.cut {x y : List Nat} {k : Nat} (h : Runs x k) (g : Runs y k) : Runs (x ++ 10 :: y) k := fun s i n => by
  have none : ∀ b, b <+: 10 :: y → 10 ∉ b → b = [] := fun b ib nb => by
    rcases List.prefix_cons_iff.mp ib with e | ⟨t, e, _⟩
    · exact e
    · rw [e] at nb
      exact (nb List.mem_cons_self).elim
  rcases List.infix_append_iff.mp i with i | i | ⟨a, b, rfl, ia, ib⟩
  · exact h s i n
  · rcases List.infix_cons_iff.mp i with i | i
    · rw [none s i n]
      exact Nat.zero_le _
    · exact g s i n
  · rw [none b ib fun m => n (List.mem_append_right _ m), List.append_nil]
    exact h a ia.isInfix fun m => n (List.mem_append_left _ m)
theorem split_runs {k : Nat} : ∀ (m : Nat) (x : Str), (cl x).count 10 = m → Runs (cl x) k → (∀ t ∈ Txt.split x "\n", t.length ≤ k) ∧ (Txt.split x "\n").length = m + 1
  | m, x, c, h => by
    by_cases n : 10 ∈ cl x
    · obtain ⟨a, b, e, na⟩ := List.eq_append_cons_of_mem n
      have ex : x = (⟨a.toArray⟩ : Str) ++ "\n" ++ (⟨b.toArray⟩ : Str) := str_ext (by
        rw [cl_app, cl_app, e]
        have z : cl ("\n" : Str) = [10] := by decide +kernel
        rw [z]
        show a ++ 10 :: b = a ++ [10] ++ b
        rw [List.append_assoc]
        rfl)
      have sp := split_cons (a := ⟨a.toArray⟩) (b := ⟨b.toArray⟩) (y := "\n") (by decide +kernel) kind_nl (sep_first sep_nl na)
      rw [← ex] at sp
      have cb : b.count 10 + 1 = m := by
        rw [e, List.count_append, List.count_cons_self, List.count_eq_zero.mpr na] at c
        omega
      obtain ⟨i1, i2⟩ := split_runs (k := k) (b.count 10) ⟨b.toArray⟩ rfl (h.mono (by
        rw [e]
        exact (List.suffix_append (a ++ [10]) b).isInfix.trans (by rw [List.append_assoc]; exact List.infix_refl _)))
      rw [sp]
      refine ⟨fun t mt => ?_, by rw [List.length_cons, i2]; omega⟩
      rcases List.mem_cons.mp mt with rfl | mt
      · rw [← cl_len]
        refine h _ ?_ na
        rw [e]
        exact (List.prefix_append a _).isInfix
      · exact i1 t mt
    · rw [split_none (by decide +kernel) kind_nl (sep_no sep_nl n)]
      refine ⟨fun t mt => ?_, ?_⟩
      · rw [List.mem_singleton.mp mt, ← cl_len]
        exact h _ (List.infix_refl _) n
      · rw [List.count_eq_zero.mpr n] at c
        rw [← c]
        rfl
  termination_by m => m
  decreasing_by omega
theorem tx_runs {x : Str} (l : x.length ≤ 100000) (h : Runs (cl x) 185) (c : (cl x).count 10 ≤ 59) : TxOk x := by
  obtain ⟨a, b⟩ := split_runs (k := 185) _ x rfl h
  exact ⟨l, a, by omega⟩
theorem nl_cl : cl ("\n" : Str) = [10] := by decide +kernel
theorem join_runs {k : Nat} : ∀ {ps : List Str}, (∀ p ∈ ps, 10 ∉ cl p ∧ p.length ≤ k) → Runs (cl (Str.join "\n" ps)) k ∧ (cl (Str.join "\n" ps)).count 10 ≤ ps.length ∧ (Str.join "\n" ps).length ≤ ps.length * (k + 1)
  | [], _ => by
    have z : (cl (Str.join "\n" [])).length = 0 := by decide +kernel
    have z2 : (Str.join "\n" []).length = 0 := by decide +kernel
    exact ⟨runs_len (by omega), by decide +kernel, by omega⟩
  | [p], h => by
    obtain ⟨n, l⟩ := h p List.mem_cons_self
    have e : Str.join "\n" [p] = p := rfl
    rw [e]
    refine ⟨runs_len (by rw [cl_len]; exact l), ?_, ?_⟩
    · rw [List.count_eq_zero.mpr n]
      exact Nat.zero_le _
    · show p.length ≤ 1 * (k + 1)
      omega
  | p :: q :: r, h => by
    obtain ⟨n, l⟩ := h p List.mem_cons_self
    obtain ⟨i1, i2, i3⟩ := join_runs (ps := q :: r) fun t m => h t (List.mem_cons_of_mem _ m)
    have e : Str.join "\n" (p :: q :: r) = p ++ "\n" ++ Str.join "\n" (q :: r) := rfl
    rw [e]
    have ec : cl (p ++ "\n" ++ Str.join "\n" (q :: r)) = cl p ++ 10 :: cl (Str.join "\n" (q :: r)) := by
      rw [cl_app, cl_app, nl_cl, List.append_assoc]
      rfl
    rw [ec]
    refine ⟨Runs.cut (runs_len (by rw [cl_len]; exact l)) i1, ?_, ?_⟩
    · rw [List.count_append, List.count_cons_self, List.count_eq_zero.mpr n, List.length_cons]
      omega
    · rw [Str.length_append, Str.length_append, nl_len, List.length_cons, Nat.succ_mul]
      omega
theorem tx_lines {ps : List Str} (h : ∀ p ∈ ps, 10 ∉ cl p ∧ p.length ≤ 185) (l : ps.length ≤ 59) : TxOk (Txt.join "\n" ps) := by
  obtain ⟨a, b, c⟩ := join_runs (k := 185) h
  rw [join_eq]
  exact tx_runs (by have : ps.length * (185 + 1) ≤ 59 * (185 + 1) := Nat.mul_le_mul_right _ l; omega) a (by omega)
theorem word_sm {W : SumZ} (h : GdW W) {p : Str} (m : p ∈ swA W) : p.length ≤ 11 := by
  have kl : ∀ k ∈ KEYS, k.length ≤ 5 := by decide +kernel
  have nm : ∀ k ∈ W.map (·.1), (numS (facZ W k)).length ≤ 5 ∧ k.length ≤ 5 := fun k mk => by
    obtain ⟨e, l⟩ := gd_fac h mk
    have n0 : 0 ≤ facZ W k := by
      rcases e with ⟨_, e⟩ | ⟨_, e⟩ <;> omega
    refine ⟨toString_length_le n0 (by decide) l, ?_⟩
    rcases e with ⟨rfl, _⟩ | ⟨e, _⟩
    · decide +kernel
    · exact kl k e
  unfold swA at m
  have hl : ∀ p ∈ swL W, p.length ≤ 11 := fun p m => by
    obtain ⟨k, mk, rfl⟩ := List.mem_map.mp m
    obtain ⟨a, b⟩ := nm k ((srt_perm _).mem_iff.mp (List.mem_filter.mp mk).1)
    rw [Str.length_append, Str.length_append, len_one]
    omega
  split at m
  · next z =>
    rcases List.mem_append.mp m with m | m
    · exact hl p m
    · obtain ⟨a, b⟩ := nm "" (has_iff.mp z)
      rw [List.mem_singleton.mp m]
      omega
  · exact hl p m
theorem sw_sm {W : SumZ} (h : GdW W) (l : W.length ≤ 4) : (swD W).length ≤ 70 := by
  unfold swD
  split
  · decide +kernel
  · have a := sum_le (n := 11) fun p m => word_sm h m
    have b := swA_len (W := W)
    have c := join_len (y := " + ") (ps := swA W)
    have e : (" + " : Str).length = 3 := by decide +kernel
    rw [e] at c
    have : (swA W).length * 11 ≤ 5 * 11 := Nat.mul_le_mul_right _ (by omega)
    omega
theorem num_sm {i : Int} (h0 : 0 ≤ i) (h1 : i < 10 ^ 40) : (numS i).length ≤ 40 := toString_length_le h0 (by decide) h1
theorem mw_sm : ∀ m ∈ MARKS, (mwD m).length ≤ 20 := by decide +kernel
mutual
theorem lnC_sm : ∀ {c : Cm} {l : Str}, gdC c → ∀ t ∈ lnC c l, t.length ≤ l.length + 2 * dpC c + 82
  | .tr cs, l, h, t, m => by
    have h : gdS cs := by simpa only [gdC] using h
    rw [lnC] at m
    rw [dpC]
    rcases List.mem_append.mp m with m | m
    · rcases List.mem_append.mp m with m | m
      · rw [List.mem_singleton.mp m, Str.length_append, try_len]
        omega
      · have := lnS_sm h t m
        rw [Str.length_append, lead_len] at this
        omega
    · rw [List.mem_singleton.mp m, Str.length_append, end_len]
      omega
  | .bare w, l, h, t, m => by
    rw [lnC] at m
    obtain ⟨_, _, _, _, n5⟩ := bare_not w h
    rw [List.mem_singleton.mp m, Str.length_append]
    omega
  | .ltr b n, l, h, t, m => by
    obtain ⟨j, rfl, h0, h1⟩ := h
    rw [lnC] at m
    have a := let_len b
    have c := num_sm h0 h1
    rw [List.mem_singleton.mp m, Str.length_append, Str.length_append, Str.length_append, len_one]
    show l.length + (letW b).length + 1 + (numS j).length ≤ _
    omega
  | .sum k W, l, h, t, m => by
    obtain ⟨U, rfl, g, g4⟩ := h
    rw [lnC] at m
    have a := sumw_len k
    have c := sw_sm g g4
    rw [List.mem_singleton.mp m, Str.length_append, Str.length_append, Str.length_append, len_one]
    show l.length + (sumW k).length + 1 + (swD U).length ≤ _
    omega
  | .exch n mk, l, h, t, m => by
    obtain ⟨⟨j, rfl, h0, h1⟩, x, mx, rfl⟩ := h
    rw [lnC] at m
    have c := num_sm h0 h1
    have d := mw_sm x mx
    rw [List.mem_singleton.mp m, Str.length_append, Str.length_append, Str.length_append, Str.length_append, Str.length_append, len_one, exch_len]
    show l.length + 8 + 1 + (numS j).length + 1 + (mwD x).length ≤ _
    omega
theorem lnS_sm : ∀ {cs : List Cm} {l : Str}, gdS cs → ∀ t ∈ lnS cs l, t.length ≤ l.length + 2 * dpS cs + 82
  | [], l, _, t, m => by
    rw [lnS] at m
    cases m
  | c :: cs, l, h, t, m => by
    have h : gdC c ∧ gdS cs := by simpa only [gdS] using h
    rw [lnS] at m
    rw [dpS]
    rcases List.mem_append.mp m with m | m
    · have := lnC_sm h.1 t m
      have := Nat.le_max_left (dpC c) (dpS cs)
      omega
    · have := lnS_sm h.2 t m
      have := Nat.le_max_right (dpC c) (dpS cs)
      omega
end
/-- the lines of what is drawn -/
def LnK (ls : List Str) : Prop := (∀ t ∈ ls, 10 ∉ cl t ∧ t.length ≤ 90) ∧ ls.length ≤ 25
theorem ln_k {cs : List Cm} (h : gdS cs) (d : dpS cs ≤ 4) (l : nlS cs ≤ 25) : LnK (lnS cs "") := by
  refine ⟨fun t m => ⟨ln_nlS h nl_nil t m, ?_⟩, by rw [ln_lenS]; exact l⟩
  have := lnS_sm (l := "") h t m
  have e : ("" : Str).length = 0 := by decide +kernel
  omega
/-- refused: no text, or one that is no script -/
def BadV (H : Hp) (v : V) : Prop := OddV H v ∨ ∃ x, v = .str x ∧ TxOk x ∧ rdS x = none
theorem BadV.up {H H' : Hp} {v : V} (h : BadV H v) (s : Same H H') : BadV H' v := by
  rcases h with h | h
  · exact .inl (h.up s)
  · exact .inr h
/-- written texts that are none -/
def okB (x : Str) : Bool := (rdS x).isNone && (decide (x.length ≤ 100) && (decide ((Txt.split x "\n").length ≤ 60) && (Txt.split x "\n").all fun t => decide (t.length ≤ 185)))
theorem okB_ok {x : Str} (h : okB x = true) : TxOk x ∧ rdS x = none := by
  obtain ⟨h1, h⟩ := Bool.and_eq_true_iff.mp h
  obtain ⟨h2, h⟩ := Bool.and_eq_true_iff.mp h
  obtain ⟨h3, h4⟩ := Bool.and_eq_true_iff.mp h
  refine ⟨⟨Nat.le_trans (of_decide_eq_true h2) (by decide), fun t m => of_decide_eq_true (List.all_eq_true.mp h4 t m), of_decide_eq_true h3⟩, Option.isNone_iff_eq_none.mp h1⟩
def OddsAt (n : Nat) (H : Hp) (q : Addr) : Prop := ∃ vs, H q = some (.lst vs) ∧ vs.length ≤ n ∧ ∀ v ∈ vs, BadV H v
def tStrs : List Str → TA
  | [] => tNil
  | x :: xs => tCons (tC (.str x)) (tStrs xs)
theorem strs_run {σ : St} {H : Hp} : ∀ {xs : List Str} {Q : List V → Hp → Prop}, Q (xs.map V.str) H → tStrs xs σ H Q
  | [], Q, q => q
  | x :: xs, Q, q => strs_run (xs := xs) (Q := fun vs H2 => Q (.str x :: vs) H2) q
/-- [texts] -/
def tNew (xs : List Str) : TE := fun _ H Q => xs.all okB = true ∧ xs.length ≤ 1000 ∧ ∀ r H', Same H H' → H r = none → OddsAt xs.length H' r → Q (.ref r) H'
theorem new_imp (xs : List Str) (σ : St) (H : Hp) (Q : VK) (h : tNew xs σ H Q) : tLst (tStrs xs) σ H Q := by
  obtain ⟨ok, l, q⟩ := h
  refine strs_run ⟨by rw [List.length_map, sizeLine_eq]; omega, fun p hp => q p _ (same_new hp) hp ⟨_, upd_same, by rw [List.length_map]; exact Nat.le_refl _, fun v m => ?_⟩⟩
  obtain ⟨x, mx, rfl⟩ := List.mem_map.mp m
  exact .inr ⟨x, rfl, okB_ok (List.all_eq_true.mp ok x mx)⟩
/-- odds + [texts] -/
def tMore (xs : List Str) : TE := fun σ H Q => ∃ q n, σ[1]? = some (some (.ref q)) ∧ OddsAt n H q ∧ xs.all okB = true ∧ n + xs.length ≤ 1000 ∧ ∀ r H', Same H H' → H r = none → OddsAt (n + xs.length) H' r → Q (.ref r) H'
theorem odds_app {n m : Nat} {H H' : Hp} {q r : Addr} {vs ws : List V} (s : Same H H') (h : H q = some (.lst vs)) (l : vs.length ≤ n) (o : ∀ v ∈ vs, BadV H v) (e : H' r = some (.lst (vs ++ ws))) (lw : ws.length ≤ m) (ow : ∀ v ∈ ws, BadV H' v) : OddsAt (n + m) H' r :=
  ⟨_, e, by rw [List.length_append]; omega, fun v mv => (List.mem_append.mp mv).elim (fun mv => (o v mv).up s) (ow v)⟩
theorem more_imp (xs : List Str) (σ : St) (H : Hp) (Q : VK) (h : tMore xs σ H Q) : tOp rCat (tVar 1) (tLst (tStrs xs)) σ H Q := by
  obtain ⟨q, n, hq, ⟨vs, ev, lv, ov⟩, ok, l, want⟩ := h
  refine ⟨_, hq, strs_run ⟨by rw [List.length_map, sizeLine_eq]; omega, fun p hp => ⟨q, p, _, _, rfl, rfl, (same_new hp) _ _ ev, upd_same, by rw [List.length_map, sizeLine_eq]; omega, fun r hr => ?_⟩⟩⟩
  have s := same_trans (same_new (o := HO.lst (xs.map V.str)) hp) (same_new (o := HO.lst (vs ++ xs.map V.str)) hr)
  refine want r _ s ((same_new hp).free hr) (odds_app s ev lv ov upd_same (by rw [List.length_map]; exact Nat.le_refl _) fun v m => ?_)
  obtain ⟨x, mx, rfl⟩ := List.mem_map.mp m
  exact .inr ⟨x, rfl, okB_ok (List.all_eq_true.mp ok x mx)⟩
def spOdd : Sp := fun vs H Q _ => ∃ (l : Addr) (cs : List Cm), vs = [.ref l] ∧ H l = some (.lst ((lnS cs "").map V.str)) ∧ gdS cs ∧ LnK (lnS cs "") ∧ ∀ r H', Same H H' → H r = none → OddsAt 300 H' r → Q (.ref r) H'
theorem seq_new {xs : List Str} {rest : TS} {D : Ends} {v : V} {H : Hp} (ok : xs.all okB = true) (l : xs.length ≤ 1000) (k : ∀ r H', Same H H' → H r = none → OddsAt xs.length H' r → rest D [some v, some (.ref r)] H') : tSeq (tAsg (tNew xs) (gName 1)) rest D [some v, none] H := ⟨ok, l, fun r H' s nr o => k r H' s nr o⟩
theorem seq_more {xs : List Str} {rest : TS} {D : Ends} {v : V} {q : Addr} {n : Nat} {H : Hp} (h : OddsAt n H q) (ok : xs.all okB = true) (l : n + xs.length ≤ 1000) (k : ∀ r H', Same H H' → H r = none → OddsAt (n + xs.length) H' r → rest D [some v, some (.ref r)] H') : tSeq (tAsg (tMore xs) (gName 1)) rest D [some v, some (.ref q)] H := ⟨q, n, rfl, h, ok, l, fun r H' s nr o => k r H' s nr o⟩
theorem seq_odd7 {rest : TS} {D : Ends} {v : V} {q : Addr} {n : Nat} {H : Hp} (h : OddsAt n H q) (l : n ≤ 900) (k : ∀ r H', Same H H' → H r = none → OddsAt (n + 7) H' r → rest D [some v, some (.ref r)] H') :
    tSeq (tAsg (tOp rCat (tVar 1) (tLst (tCons (tC .non) (tCons (tC (.int 1)) (tCons (tLst (tCons (tC (.str "undo")) tNil)) (tCons (tTup (tCons (tC (.str "undo")) tNil)) (tCons tDNewK (tCons (tLst tNil) (tCons (tC (.bl true)) tNil))))))))) (gName 1)) rest D [some v, some (.ref q)] H := by
  obtain ⟨vs, ev, lv, ov⟩ := h
  refine ⟨_, rfl, one_fit, fun p1 h1 => ⟨one_fit, fun p2 h2 => fun p3 h3 => ⟨Nat.zero_le _, fun p4 h4 => ⟨by rw [sizeLine_eq]; exact Nat.le_of_ble_eq_true rfl, fun p5 h5 => ?_⟩⟩⟩⟩
  have s1 := same_new (o := HO.lst [V.str "undo"]) h1
  have e1 : upd H p1 (HO.lst [V.str "undo"]) p1 = some (.lst (List.map V.str ["undo"])) := upd_same
  generalize upd H p1 (HO.lst [V.str "undo"]) = H1 at *
  have s2 := same_new (o := HO.tup [V.str "undo"]) h2
  have e2 : upd H1 p2 (HO.tup [V.str "undo"]) p2 = some (.tup [V.str "undo"]) := upd_same
  generalize upd H1 p2 (HO.tup [V.str "undo"]) = H2 at *
  have s3 := same_new (o := HO.dK []) h3
  have e3 : upd H2 p3 (HO.dK []) p3 = some (.dK []) := upd_same
  generalize upd H2 p3 (HO.dK []) = H3 at *
  have s4 := same_new (o := HO.lst []) h4
  have e4 : upd H3 p4 (HO.lst []) p4 = some (.lst (List.map V.str [])) := upd_same
  generalize upd H3 p4 (HO.lst []) = H4 at *
  have s5 := same_new (o := HO.lst [V.non, V.int 1, V.ref p1, V.ref p2, V.ref p3, V.ref p4, V.bl true]) h5
  have e5 : upd H4 p5 (HO.lst [V.non, V.int 1, V.ref p1, V.ref p2, V.ref p3, V.ref p4, V.bl true]) p5 = some (.lst [V.non, V.int 1, V.ref p1, V.ref p2, V.ref p3, V.ref p4, V.bl true]) := upd_same
  generalize upd H4 p5 (HO.lst [V.non, V.int 1, V.ref p1, V.ref p2, V.ref p3, V.ref p4, V.bl true]) = H5 at *
  have s14 := same_trans s1 (same_trans s2 (same_trans s3 s4))
  refine ⟨q, p5, _, _, rfl, rfl, s5 _ _ (s14 _ _ ev), e5, by rw [sizeLine_eq]; show vs.length + 7 ≤ _; omega, fun r hr => ?_⟩
  have sr := same_new (o := HO.lst (vs ++ [V.non, V.int 1, V.ref p1, V.ref p2, V.ref p3, V.ref p4, V.bl true])) hr
  have st := same_trans s14 (same_trans s5 sr)
  have o1 := (same_trans s2 (same_trans s3 (same_trans s4 (same_trans s5 sr)))) _ _ e1
  have o2 := (same_trans s3 (same_trans s4 (same_trans s5 sr))) _ _ e2
  have o3 := (same_trans s4 (same_trans s5 sr)) _ _ e3
  have o4 := (same_trans s5 sr) _ _ e4
  refine k r _ st ((same_trans s14 s5).free hr) (odds_app st ev lv ov upd_same (Nat.le_refl 7) fun v m => .inl ?_)
  simp only [List.mem_cons, List.mem_nil_iff, or_false] at m
  rcases m with rfl | rfl | rfl | rfl | rfl | rfl | rfl
  · exact .inl rfl
  · exact .inr (.inl rfl)
  · exact .inr (.inr (.inr (.inl ⟨p1, _, rfl, o1⟩)))
  · exact .inr (.inr (.inr (.inr (.inl ⟨p2, rfl, o2⟩))))
  · exact .inr (.inr (.inr (.inr (.inr ⟨p3, rfl, o3⟩))))
  · exact .inr (.inr (.inr (.inl ⟨p4, _, rfl, o4⟩)))
  · exact .inr (.inr (.inl rfl))
theorem OddsAt.up {n : Nat} {H H' : Hp} {q : Addr} (h : OddsAt n H q) (s : Same H H') : OddsAt n H' q := by
  obtain ⟨vs, e, l, b⟩ := h
  exact ⟨vs, s _ _ e, l, fun v m => (b v m).up s⟩
theorem jn_fit {ps : List Str} (h : ∀ p ∈ ps, 10 ∉ cl p ∧ p.length ≤ 185) (l : ps.length ≤ 59) : (ps.map (·.length)).sum + ps.length * ("\n" : Str).length ≤ 16777216 := by
  have a := sum_le (n := 185) fun p m => (h p m).2
  have b : ps.length * 185 ≤ 59 * 185 := Nat.mul_le_mul_right _ l
  rw [nl_len]
  omega
theorem LnK.all {ls : List Str} (k : LnK ls) : ∀ p ∈ ls, 10 ∉ cl p ∧ p.length ≤ 185 := fun p m => ⟨(k.1 p m).1, Nat.le_trans (k.1 p m).2 (by decide)⟩
theorem LnK.app {ls ms : List Str} (k : LnK ls) (h : ∀ p ∈ ms, 10 ∉ cl p ∧ p.length ≤ 185) : ∀ p ∈ ls ++ ms, 10 ∉ cl p ∧ p.length ≤ 185 := fun p m => (List.mem_append.mp m).elim (k.all p) (h p)
theorem LnK.pre {ls ms : List Str} (k : LnK ls) (h : ∀ p ∈ ms, 10 ∉ cl p ∧ p.length ≤ 185) : ∀ p ∈ ms ++ ls, 10 ∉ cl p ∧ p.length ≤ 185 := fun p m => (List.mem_append.mp m).elim (h p) (k.all p)
theorem one_ok {t : Str} (n : 10 ∉ cl t) (l : t.length ≤ 185) : ∀ p ∈ [t], 10 ∉ cl p ∧ p.length ≤ 185 := fun p m => by
  rw [List.mem_singleton.mp m]
  exact ⟨n, l⟩
theorem words_nl : 10 ∉ cl ("end" : Str) ∧ 10 ∉ cl ("try" : Str) ∧ 10 ∉ cl ("" : Str) ∧ 10 ∉ cl (" " : Str) ∧ ("end" : Str).length ≤ 185 ∧ ("try" : Str).length ≤ 185 ∧ ("" : Str).length ≤ 185 := by decide +kernel
theorem tx_plus {ls : List Str} (k : LnK ls) {t : Str} (ht : t.length ≤ 1) : TxOk (Txt.join "\n" ls ++ t) := by
  obtain ⟨a, b, c⟩ := join_runs (k := 90) k.1
  have l := k.2
  have z : ls.length * (90 + 1) ≤ 25 * (90 + 1) := Nat.mul_le_mul_right _ l
  rw [join_eq]
  have ct : (cl t).count 10 ≤ (cl t).length := List.count_le_length
  rw [cl_len] at ct
  refine tx_runs (by rw [Str.length_append]; omega) ?_ ?_
  · rw [cl_app]
    exact (a.app (runs_len (k := 1) (by rw [cl_len]; exact ht))).le (by decide)
  · rw [cl_app, List.count_append]
    omega
theorem tx_pre {t : Str} (n : 10 ∉ cl t) (l : t.length ≤ 90) : TxOk (" " ++ t) := by
  have e : (" " ++ t : Str).length = 1 + t.length := by rw [Str.length_append, len_one]
  refine tx_runs (by omega) (runs_len (by rw [cl_len]; omega)) ?_
  rw [cl_app, List.count_append, List.count_eq_zero.mpr n, List.count_eq_zero.mpr words_nl.2.2.2.1]
  decide
theorem bad_text {H : Hp} {x : Str} (t : TxOk x) (r : rdS x = none) : BadV H (.str x) := .inr ⟨x, rfl, t, r⟩
theorem cat_step {n m : Nat} {H : Hp} {q : Addr} {ws : List V} {R : VK} (o : OddsAt n H q) (l : ws.length ≤ m) (z : n + m ≤ 1000) (b : ∀ v ∈ ws, BadV H v) (k : ∀ q2 H2, Same H H2 → H q2 = none → OddsAt (n + m) H2 q2 → R (.ref q2) H2) :
    ws.length ≤ sizeLine ∧ ∀ p, H p = none → rCat (.ref q) (.ref p) (upd H p (.lst ws)) R := by
  obtain ⟨vs, ev, lv, ov⟩ := o
  refine ⟨by rw [sizeLine_eq]; omega, fun p hp => ⟨q, p, vs, ws, rfl, rfl, (same_new hp) _ _ ev, upd_same, by rw [sizeLine_eq]; omega, fun r hr => ?_⟩⟩
  have s := same_trans (same_new (o := HO.lst ws) hp) (same_new (o := HO.lst (vs ++ ws)) hr)
  exact k r _ s ((same_new hp).free hr) (odds_app s ev lv ov upd_same l fun v m => (b v m).up s)
theorem jn_step {H : Hp} {l : Addr} {ls : List Str} {t : Str} {R : VK} (hl : H l = some (.lst (ls.map V.str))) (len : (ls ++ [t]).length ≤ 59) (k : ∀ p H', Same H H' → H' p = some (.lst ((ls ++ [t]).map V.str)) → R (.ref p) H') :
    [V.str t].length ≤ sizeLine ∧ ∀ p, H p = none → rCat (.ref l) (.ref p) (upd H p (.lst [.str t])) R := by
  refine ⟨one_fit, fun p1 h1 => ⟨l, p1, _, _, rfl, rfl, (same_new h1) _ _ hl, upd_same, by rw [List.length_map, sizeLine_eq]; rw [List.length_append] at len; have len : ls.length + 1 ≤ 59 := len; show ls.length + 1 ≤ _; omega, fun p2 h2 => ?_⟩⟩
  refine k p2 _ (same_trans (same_new h1) (same_new h2)) ?_
  rw [upd_same, List.map_append]
  rfl
theorem jn_pre {σ : St} {H : Hp} {l : Addr} {ls : List Str} {t : Str} {R : VK} (h0 : σ[0]? = some (some (.ref l))) (hl : H l = some (.lst (ls.map V.str))) (len : ([t] ++ ls).length ≤ 59) (k : ∀ p H', Same H H' → H' p = some (.lst (([t] ++ ls).map V.str)) → R (.ref p) H') :
    tOp rCat (tLst (tCons (tC (.str t)) tNil)) (tVar 0) σ H R := by
  refine ⟨one_fit, fun p1 h1 => ⟨_, h0, p1, l, _, _, rfl, rfl, upd_same, (same_new h1) _ _ hl, by rw [List.length_map, sizeLine_eq]; rw [List.length_append] at len; have len : 1 + ls.length ≤ 59 := len; show 1 + ls.length ≤ _; omega, fun p2 h2 => ?_⟩⟩
  refine k p2 _ (same_trans (same_new h1) (same_new h2)) ?_
  rw [upd_same, List.map_append]
  rfl
abbrev sOdd : Stmt := topS 58
abbrev nOdd : List Str := ["_law_lines", "_law_odds"]
theorem scOdd : FnScope nOdd ["_law_lines"] (defScope sOdd) := ⟨rfl, rfl, rfl, by decide +kernel, rfl, by decide +kernel, by decide +kernel⟩
-- cells set()
section
variable {P : Program} {w : World} {K : PySem.W.Frag} {mg : Str → Option Value} {base : Heap}
theorem ok_odd {f  : Addr} {fd  : FuncData} (F : Fun K "_law_odd_texts" "_law_odd_texts" sOdd f fd) :
    FnOk P w K mg base CX0 1 f fd ["_law_lines"] spOdd := by
  refine F.ok scOdd (fun vs H Q E h => ?_) (fun cdv A outer s0 H vs Q E hr h => ?_)
  · obtain ⟨l, cs, rfl, _⟩ := h
    rfl
  · obtain ⟨l, cs, rfl, hl, gd, lk, want⟩ := h
    refine ⟨_, (pss_cons (ps_set (i := 1) scOdd.nd rfl (Or.inl rfl) (pe_imp (te' := tNew ["go ", " go", "Go", "goes", "number", "number ", "number -1", "number 00", "number 01"]) (pe_lst (pa_cons pe_str (pa_cons pe_str (pa_cons pe_str (pa_cons pe_str (pa_cons pe_str (pa_cons pe_str (pa_cons pe_str (pa_cons pe_str (pa_cons pe_str pa_nil)))))))))) (new_imp ["go ", " go", "Go", "goes", "number", "number ", "number -1", "number 00", "number 01"])))
      (pss_cons (ps_set (i := 1) scOdd.nd rfl (Or.inl rfl) (pe_imp (te' := tMore ["number +1", "number 1 2"]) (pe_op op_cat (pv 1) (pe_lst (pa_cons pe_str (pa_cons pe_str pa_nil)))) (more_imp ["number +1", "number 1 2"])))
      (pss_cons (ps_set (i := 1) scOdd.nd rfl (Or.inl rfl) (pe_imp (te' := tMore ["number 1 ", "number  1", "numbers 1", "choice", "choice x", "choice 1_0"]) (pe_op op_cat (pv 1) (pe_lst (pa_cons pe_str (pa_cons pe_str (pa_cons pe_str (pa_cons pe_str (pa_cons pe_str (pa_cons pe_str pa_nil)))))))) (more_imp ["number 1 ", "number  1", "numbers 1", "choice", "choice x", "choice 1_0"])))
      (pss_cons (ps_set (i := 1) scOdd.nd rfl (Or.inl rfl) (pe_imp (te' := tMore ["choice 1.0", "read", "read ", "read x"]) (pe_op op_cat (pv 1) (pe_lst (pa_cons pe_str (pa_cons pe_str (pa_cons pe_str (pa_cons pe_str pa_nil)))))) (more_imp ["choice 1.0", "read", "read ", "read x"])))
      (pss_cons (ps_set (i := 1) scOdd.nd rfl (Or.inl rfl) (pe_imp (te' := tMore ["read 01 x", "read 1  x", "read 1 x ", "read 1 x+ 2 y", "read 2 y + 1 x"]) (pe_op op_cat (pv 1) (pe_lst (pa_cons pe_str (pa_cons pe_str (pa_cons pe_str (pa_cons pe_str (pa_cons pe_str pa_nil))))))) (more_imp ["read 01 x", "read 1  x", "read 1 x ", "read 1 x+ 2 y", "read 2 y + 1 x"])))
      (pss_cons (ps_set (i := 1) scOdd.nd rfl (Or.inl rfl) (pe_imp (te' := tMore ["read 1 x + 1 x", "read 1 X"]) (pe_op op_cat (pv 1) (pe_lst (pa_cons pe_str (pa_cons pe_str pa_nil)))) (more_imp ["read 1 x + 1 x", "read 1 X"])))
      (pss_cons (ps_set (i := 1) scOdd.nd rfl (Or.inl rfl) (pe_imp (te' := tMore ["read 0 + 1 x", "read 1 x + 0", "read 2 + 1 x", "read 1 #01", "read 1 @1"]) (pe_op op_cat (pv 1) (pe_lst (pa_cons pe_str (pa_cons pe_str (pa_cons pe_str (pa_cons pe_str (pa_cons pe_str pa_nil))))))) (more_imp ["read 0 + 1 x", "read 1 x + 0", "read 2 + 1 x", "read 1 #01", "read 1 @1"])))
      (pss_cons (ps_set (i := 1) scOdd.nd rfl (Or.inl rfl) (pe_imp (te' := tMore ["read 1 x.", "move", "moves 1 x"]) (pe_op op_cat (pv 1) (pe_lst (pa_cons pe_str (pa_cons pe_str (pa_cons pe_str pa_nil))))) (more_imp ["read 1 x.", "move", "moves 1 x"])))
      (pss_cons (ps_set (i := 1) scOdd.nd rfl (Or.inl rfl) (pe_imp (te' := tMore ["move 1 x,", "put x=1", "put 1x", "suppose -", "exchange 0", "exchange 0 m"]) (pe_op op_cat (pv 1) (pe_lst (pa_cons pe_str (pa_cons pe_str (pa_cons pe_str (pa_cons pe_str (pa_cons pe_str (pa_cons pe_str pa_nil)))))))) (more_imp ["move 1 x,", "put x=1", "put 1x", "suppose -", "exchange 0", "exchange 0 m"])))
      (pss_cons (ps_set (i := 1) scOdd.nd rfl (Or.inl rfl) (pe_imp (te' := tMore ["exchange m in -", "exchange 0 m in"]) (pe_op op_cat (pv 1) (pe_lst (pa_cons pe_str (pa_cons pe_str pa_nil)))) (more_imp ["exchange m in -", "exchange 0 m in"])))
      (pss_cons (ps_set (i := 1) scOdd.nd rfl (Or.inl rfl) (pe_imp (te' := tMore ["exchange 0 m in ()", "exchange 00 m in -", "exchange 0 M in -"]) (pe_op op_cat (pv 1) (pe_lst (pa_cons pe_str (pa_cons pe_str (pa_cons pe_str pa_nil))))) (more_imp ["exchange 0 m in ()", "exchange 00 m in -", "exchange 0 M in -"])))
      (pss_cons (ps_set (i := 1) scOdd.nd rfl (Or.inl rfl) (pe_imp (te' := tMore ["exchange 0 m in c.", "exchange 0  m in -"]) (pe_op op_cat (pv 1) (pe_lst (pa_cons pe_str (pa_cons pe_str pa_nil)))) (more_imp ["exchange 0 m in c.", "exchange 0  m in -"])))
      (pss_cons (ps_set (i := 1) scOdd.nd rfl (Or.inl rfl) (pe_imp (te' := tMore ["exchange 0 m in - ", "try", "end", "try\nundo\nend", "try\n  undo"]) (pe_op op_cat (pv 1) (pe_lst (pa_cons pe_str (pa_cons pe_str (pa_cons pe_str (pa_cons pe_str (pa_cons pe_str pa_nil))))))) (more_imp ["exchange 0 m in - ", "try", "end", "try\nundo\nend", "try\n  undo"])))
      (pss_cons (ps_set (i := 1) scOdd.nd rfl (Or.inl rfl) (pe_imp (te' := tMore ["try\n  undo\nend ", "try \n  undo\nend"]) (pe_op op_cat (pv 1) (pe_lst (pa_cons pe_str (pa_cons pe_str pa_nil)))) (more_imp ["try\n  undo\nend ", "try \n  undo\nend"])))
      (pss_cons (ps_set (i := 1) scOdd.nd rfl (Or.inl rfl) (pe_imp (te' := tMore [" try\n  undo\nend", "try\n undo\nend", "\n", "undo\n", "try\n    undo\nend"]) (pe_op op_cat (pv 1) (pe_lst (pa_cons pe_str (pa_cons pe_str (pa_cons pe_str (pa_cons pe_str (pa_cons pe_str pa_nil))))))) (more_imp [" try\n  undo\nend", "try\n undo\nend", "\n", "undo\n", "try\n    undo\nend"])))
      (pss_cons (ps_set (i := 1) scOdd.nd rfl (Or.inl rfl) (pe_imp (te' := tMore ["try\n  undo\n end", "  undo"]) (pe_op op_cat (pv 1) (pe_lst (pa_cons pe_str (pa_cons pe_str pa_nil)))) (more_imp ["try\n  undo\n end", "  undo"])))
      (pss_cons (ps_set (i := 1) scOdd.nd rfl (Or.inl rfl) (pe_imp (te' := tMore ["try\nxxundo\nend", "try\n xundo\nend", "try\n  undo\n  end", "try\n  try\nend\nend"]) (pe_op op_cat (pv 1) (pe_lst (pa_cons pe_str (pa_cons pe_str (pa_cons pe_str (pa_cons pe_str pa_nil)))))) (more_imp ["try\nxxundo\nend", "try\n xundo\nend", "try\n  undo\n  end", "try\n  try\nend\nend"])))
      (pss_cons (ps_set (i := 1) scOdd.nd rfl (Or.inl rfl) (pe_imp (te' := tMore ["try\n  try\n  end"]) (pe_op op_cat (pv 1) (pe_lst (pa_cons pe_str pa_nil))) (more_imp ["try\n  try\n  end"])))
      (pss_cons (ps_set (i := 1) scOdd.nd rfl (Or.inl rfl) (pe_imp (te' := tMore ["undo\n\nundo", "redo 1", "here 1", "beats -", "would ", "wait", "try 1\nend"]) (pe_op op_cat (pv 1) (pe_lst (pa_cons pe_str (pa_cons pe_str (pa_cons pe_str (pa_cons pe_str (pa_cons pe_str (pa_cons pe_str (pa_cons pe_str pa_nil))))))))) (more_imp ["undo\n\nundo", "redo 1", "here 1", "beats -", "would ", "wait", "try 1\nend"])))
      (pss_cons (ps_set (i := 1) scOdd.nd rfl (Or.inl rfl) (pe_imp (te' := tMore ["done", "refused NotHere", "log"]) (pe_op op_cat (pv 1) (pe_lst (pa_cons pe_str (pa_cons pe_str (pa_cons pe_str pa_nil))))) (more_imp ["done", "refused NotHere", "log"])))
      (pss_cons (ps_set (i := 1) scOdd.nd rfl (Or.inl rfl) (pe_op op_cat (pv 1) (pe_lst (pa_cons pe_non (pa_cons pe_int (pa_cons (pe_lst (pa_cons pe_str pa_nil)) (pa_cons (pe_tup (pa_cons pe_str pa_nil)) (pa_cons pe_dnewK (pa_cons (pe_lst pa_nil) (pa_cons pe_bl pa_nil))))))))))
      (pss_cons (ps_if (pt_cmpR (op_neE (uE hr)) (pv 0) (pe_lst pa_nil) (nomark _))
        (pss_cons (ps_set (i := 1) scOdd.nd rfl (Or.inl rfl) (pe_op op_cat (pv 1) (pe_lst (pa_cons (pe_op op_add_str (pe_join pe_str (pv 0)) pe_str) (pa_cons (pe_op op_add_str pe_str (pe_ix ix_list (pv 0) pe_int (fun _ _ => rfl))) (pa_cons (pe_join pe_str (pe_op op_cat (pv 0) (pe_lst (pa_cons pe_str pa_nil)))) pa_nil))))))
          (pss_cons (ps_set (i := 1) scOdd.nd rfl (Or.inl rfl) (pe_op op_cat (pv 1) (pe_lst (pa_cons (pe_join pe_str (pe_op op_cat (pe_lst (pa_cons pe_str pa_nil)) (pv 0))) pa_nil))))
          (pss_one (ps_set (i := 1) scOdd.nd rfl (Or.inl rfl) (pe_op op_cat (pv 1) (pe_lst (pa_cons (pe_join pe_str (pe_op op_cat (pv 0) (pe_lst (pa_cons pe_str pa_nil)))) (pa_cons (pv 0) (pa_cons (pe_join pe_str (pe_op op_cat (pv 0) (pe_lst (pa_cons pe_str pa_nil)))) (pa_cons (pe_op op_add_str (pe_join pe_str (pv 0)) pe_str) pa_nil))))))))))
        pss_nil)
      (pss_one (ps_ret (pv 1))))))))))))))))))))))))), ?_⟩
    refine seq_new (by decide +kernel) (by decide) fun r0 H0 s0 n0 o0 => ?_
    refine seq_more o0 (by decide +kernel) (by decide) fun r1 H1 t1 n1 o1 => ?_
    have s1 := same_trans s0 t1
    clear t1 o0 s0 n0
    refine seq_more o1 (by decide +kernel) (by decide) fun r2 H2 t2 n2 o2 => ?_
    have s2 := same_trans s1 t2
    clear t2 o1 s1 n1
    refine seq_more o2 (by decide +kernel) (by decide) fun r3 H3 t3 n3 o3 => ?_
    have s3 := same_trans s2 t3
    clear t3 o2 s2 n2
    refine seq_more o3 (by decide +kernel) (by decide) fun r4 H4 t4 n4 o4 => ?_
    have s4 := same_trans s3 t4
    clear t4 o3 s3 n3
    refine seq_more o4 (by decide +kernel) (by decide) fun r5 H5 t5 n5 o5 => ?_
    have s5 := same_trans s4 t5
    clear t5 o4 s4 n4
    refine seq_more o5 (by decide +kernel) (by decide) fun r6 H6 t6 n6 o6 => ?_
    have s6 := same_trans s5 t6
    clear t6 o5 s5 n5
    refine seq_more o6 (by decide +kernel) (by decide) fun r7 H7 t7 n7 o7 => ?_
    have s7 := same_trans s6 t7
    clear t7 o6 s6 n6
    refine seq_more o7 (by decide +kernel) (by decide) fun r8 H8 t8 n8 o8 => ?_
    have s8 := same_trans s7 t8
    clear t8 o7 s7 n7
    refine seq_more o8 (by decide +kernel) (by decide) fun r9 H9 t9 n9 o9 => ?_
    have s9 := same_trans s8 t9
    clear t9 o8 s8 n8
    refine seq_more o9 (by decide +kernel) (by decide) fun r10 H10 t10 n10 o10 => ?_
    have s10 := same_trans s9 t10
    clear t10 o9 s9 n9
    refine seq_more o10 (by decide +kernel) (by decide) fun r11 H11 t11 n11 o11 => ?_
    have s11 := same_trans s10 t11
    clear t11 o10 s10 n10
    refine seq_more o11 (by decide +kernel) (by decide) fun r12 H12 t12 n12 o12 => ?_
    have s12 := same_trans s11 t12
    clear t12 o11 s11 n11
    refine seq_more o12 (by decide +kernel) (by decide) fun r13 H13 t13 n13 o13 => ?_
    have s13 := same_trans s12 t13
    clear t13 o12 s12 n12
    refine seq_more o13 (by decide +kernel) (by decide) fun r14 H14 t14 n14 o14 => ?_
    have s14 := same_trans s13 t14
    clear t14 o13 s13 n13
    refine seq_more o14 (by decide +kernel) (by decide) fun r15 H15 t15 n15 o15 => ?_
    have s15 := same_trans s14 t15
    clear t15 o14 s14 n14
    refine seq_more o15 (by decide +kernel) (by decide) fun r16 H16 t16 n16 o16 => ?_
    have s16 := same_trans s15 t16
    clear t16 o15 s15 n15
    refine seq_more o16 (by decide +kernel) (by decide) fun r17 H17 t17 n17 o17 => ?_
    have s17 := same_trans s16 t17
    clear t17 o16 s16 n16
    refine seq_more o17 (by decide +kernel) (by decide) fun r18 H18 t18 n18 o18 => ?_
    have s18 := same_trans s17 t18
    clear t18 o17 s17 n17
    refine seq_more o18 (by decide +kernel) (by decide) fun r19 H19 t19 n19 o19 => ?_
    have s19 := same_trans s18 t19
    clear t19 o18 s18 n18
    refine seq_odd7 o19 (by decide) fun q Ha t n o => ?_
    have s := same_trans s19 t
    have nq := s19.free n
    clear t o19
    replace o : OddsAt 130 Ha q := by
      obtain ⟨vs, e, l, b⟩ := o
      exact ⟨vs, e, Nat.le_trans l (by decide), b⟩
    refine ⟨_, rfl, Nat.zero_le _, fun t ht => ⟨l, t, _, rfl, rfl, SqL.of ((same_trans s (same_new ht)) _ _ hl), SqL.of upd_same, _, rfl, ?_⟩⟩
    have sx := same_new (o := HO.lst []) ht
    have o1 := o.up sx
    have st := same_trans s sx
    generalize upd Ha t (HO.lst []) = Hb at st o1 ⊢
    clear sx o s t ht
    rw [List.isEmpty_map]
    cases z : (lnS cs "").isEmpty with
    | true =>
      obtain ⟨vs, e, l, b⟩ := o1
      exact iteF ⟨_, rfl, want q Hb st nq ⟨vs, e, by omega, b⟩⟩
    | false =>
      have ne : cs ≠ [] := fun e => by
        rw [e, lnS] at z
        cases z
      have f1 := odd_nl gd ne
      have f3 := odd_end gd ne
      have f4 := odd_first gd ne
      have f5 := odd_try gd ne
      have f7 := odd_emp gd ne
      unfold txD at f1
      have f8 := odd_ps (Txt.join "\n" (lnS cs ""))
      generalize lnS cs "" = ls at *
      obtain ⟨t0, r, rfl⟩ : ∃ t0 r, ls = t0 :: r := by
        cases ls with
        | nil => cases z
        | cons t0 r => exact ⟨t0, r, rfl⟩
      have f2 := odd_sp t0
      obtain ⟨w1, w2, w3, w4, w5, w6, w7⟩ := words_nl
      have t0k := lk.1 t0 List.mem_cons_self
      have hl1 := st _ _ hl
      have lk2 := lk.2
      have tk := tx_plus lk (t := "\n") (by decide +kernel)
      have tl : (Txt.join "\n" (t0 :: r)).length ≤ 100000 := by
        have := tk.len
        rw [Str.length_append] at this
        omega
      refine iteT ⟨_, rfl, ⟨_, rfl⟩, _, rfl, _, l, t0 :: r, rfl, rfl, .inl (SqL.of hl1), jn_fit lk.all (by omega), _, _, rfl, rfl, by rw [nl_len, sizeLine_eq]; omega, ?_⟩
      refine ⟨_, rfl, l, _, 0, _, rfl, rfl, SqL.of hl1, at_0, _, _, rfl, rfl, by rw [len_one, sizeLine_eq]; omega, ?_⟩
      have a1 := lk.app (one_ok w1 w5)
      have a2 := lk.pre (one_ok w1 w5)
      have a3 := lk.app (one_ok w2 w6)
      have a4 := lk.app (one_ok w3 w7)
      have ln : ∀ t : Str, ((t0 :: r) ++ [t]).length ≤ 59 ∧ ([t] ++ (t0 :: r)).length ≤ 59 := fun t => by
        rw [List.length_append, List.length_append]
        exact ⟨(by show _ + 1 ≤ _; omega), (by show 1 + _ ≤ _; omega)⟩
      refine ⟨⟨_, rfl⟩, _, rfl, jn_step hl1 (ln _).1 fun p1 H1 s1 j1 => ⟨_, p1, _, rfl, rfl, .inl (SqL.of j1), jn_fit a1 (ln _).1, ?_⟩⟩
      refine cat_step (m := 3) (o1.up s1) (Nat.le_refl 3) (by decide) (fun v m => by
        simp only [List.mem_cons, List.mem_nil_iff, or_false] at m
        rcases m with rfl | rfl | rfl
        · exact bad_text tk f1
        · exact bad_text (tx_pre t0k.1 t0k.2) f2
        · exact bad_text (tx_lines a1 (ln _).1) f3) fun q2 H2 s2 n2 o2 => ?_
      have st2 := same_trans st (same_trans s1 s2)
      have n2 := (same_trans st s1).free n2
      clear s1 s2
      refine ⟨_, rfl, ⟨_, rfl⟩, jn_pre rfl (st2 _ _ hl) (ln _).2 fun p3 H3 s3 j3 => ⟨_, p3, _, rfl, rfl, .inl (SqL.of j3), jn_fit a2 (ln _).2, ?_⟩⟩
      refine cat_step (m := 1) (o2.up s3) (Nat.le_refl 1) (by decide) (fun v m => by
        rw [List.mem_singleton.mp m]
        exact bad_text (tx_lines a2 (ln _).2) f4) fun q4 H4 s4 n4 o4 => ?_
      have st4 := same_trans st2 (same_trans s3 s4)
      have n4 := (same_trans st2 s3).free n4
      clear s3 s4
      have hl4 := st4 _ _ hl
      refine ⟨_, rfl, ⟨_, rfl⟩, _, rfl, jn_step hl4 (ln _).1 fun p5 H5 s5 j5 => ⟨_, p5, _, rfl, rfl, .inl (SqL.of j5), jn_fit a3 (ln _).1, ?_⟩⟩
      have hl5 := s5 _ _ hl4
      refine ⟨_, rfl, ⟨_, rfl⟩, _, rfl, jn_step hl5 (ln _).1 fun p6 H6 s6 j6 => ⟨_, p6, _, rfl, rfl, .inl (SqL.of j6), jn_fit a4 (ln _).1, ?_⟩⟩
      have hl6 := s6 _ _ hl5
      refine ⟨⟨_, rfl⟩, _, rfl, _, l, t0 :: r, rfl, rfl, .inl (SqL.of hl6), jn_fit lk.all (by omega), _, _, rfl, rfl, by rw [len_one, sizeLine_eq]; omega, ?_⟩
      refine cat_step (m := 4) (o4.up (same_trans s5 s6)) (Nat.le_refl 4) (by decide) (fun v m => by
        simp only [List.mem_cons, List.mem_nil_iff, or_false] at m
        rcases m with rfl | rfl | rfl | rfl
        · exact bad_text (tx_lines a3 (ln _).1) f5
        · exact .inl (.inr (.inr (.inr (.inl ⟨l, _, rfl, hl6⟩))))
        · exact bad_text (tx_lines a4 (ln _).1) f7
        · exact bad_text (tx_plus lk (Nat.le_of_eq len_one)) f8) fun q7 H7 s7 n7 o7 => ?_
      have st7 := same_trans st4 (same_trans s5 (same_trans s6 s7))
      have n7 := (same_trans st4 (same_trans s5 s6)).free n7
      obtain ⟨vs, e, l, b⟩ := o7
      exact ⟨_, rfl, want q7 H7 st7 n7 ⟨vs, e, by omega, b⟩⟩
end
end Vb
end L2

set_option Elab.async false
set_option linter.all false
set_option maxRecDepth 100000
set_option maxHeartbeats 4000000
/-! Vb, k88: spoilt texts. -/
namespace L2
namespace Vb
open PySem PySem.Spec PyProof.Rows
theorem cutS_infix (x : Str) (lo hi : Option Int) : cl (cutS x lo hi) <:+: cl x := by
  show ((cl x).drop (HT.sIx x.length 0 lo)).take (HT.sIx x.length x.length hi - HT.sIx x.length 0 lo) <:+: cl x
  exact (List.take_prefix _ _).isInfix.trans (List.drop_suffix _ _).isInfix
theorem spoil1 {ls : List Str} (k : LnK ls) (lo hi lo' hi' : Option Int) {t : Str} (ht : t.length ≤ 1) : TxOk (cutS (Txt.join "\n" ls) lo hi ++ t ++ cutS (Txt.join "\n" ls) lo' hi') := by
  obtain ⟨a, b, c⟩ := join_runs (k := 90) k.1
  have l := k.2
  rw [join_eq]
  have i1 := cutS_infix (Str.join "\n" ls) lo hi
  have i2 := cutS_infix (Str.join "\n" ls) lo' hi'
  have c1 := i1.sublist.count_le 10
  have c2 := i2.sublist.count_le 10
  have l1 := i1.length_le
  have l2 := i2.length_le
  have z : ls.length * (90 + 1) ≤ 25 * (90 + 1) := Nat.mul_le_mul_right _ l
  have ct : (cl t).count 10 ≤ (cl t).length := List.count_le_length
  rw [cl_len] at ct
  rw [cl_len, cl_len] at l1 l2
  refine tx_runs (by rw [Str.length_append, Str.length_append]; omega) ?_ ?_
  · rw [cl_app, cl_app]
    exact (((a.mono i1).app (runs_len (k := 1) (by rw [cl_len]; exact ht))).app (a.mono i2)).le (by decide)
  · rw [cl_app, cl_app, List.count_append, List.count_append]
    omega
theorem cut_strs (ls : List Str) (lo hi : Option Int) : ∃ ms : List Str, cutV (ls.map V.str) lo hi = ms.map V.str ∧ (∀ t ∈ ms, t ∈ ls) ∧ ms.length ≤ ls.length := by
  refine ⟨(ls.drop (HT.sIx (ls.map V.str).length 0 lo)).take (HT.sIx (ls.map V.str).length (ls.map V.str).length hi - HT.sIx (ls.map V.str).length 0 lo), ?_, fun t m => List.mem_of_mem_drop (List.mem_of_mem_take m), ?_⟩
  · unfold cutV
    rw [List.map_take, List.map_drop]
  · rw [List.length_take, List.length_drop]
    omega
theorem cut_one {xs : List V} {k : Nat} : (cutV xs (some (k : Int)) (some ((k : Int) + 1))).length ≤ 1 := by
  unfold cutV
  have e : (k : Int) + 1 = ((k + 1 : Nat) : Int) := rfl
  rw [e, HT.sIx_nat, HT.sIx_nat, List.length_take]
  omega
theorem cutS_nl {x : Str} {lo hi : Option Int} {n : Nat} (h : 10 ∉ cl x ∧ x.length ≤ n) : 10 ∉ cl (cutS x lo hi) ∧ (cutS x lo hi).length ≤ n :=
  ⟨fun m => h.1 ((cutS_infix x lo hi).sublist.mem m), Nat.le_trans (cutS_length x lo hi) h.2⟩
def PUTS : List Str := [" ", "0", "\n", "a", "+", "", "", "-", ".", "#"]
theorem puts_le : ∀ t ∈ PUTS, t.length ≤ 1 := by decide +kernel
theorem xx_ok : 10 ∉ cl ("xx" : Str) ∧ ("xx" : Str).length = 2 ∧ 10 ∉ cl ("  " : Str) := by decide +kernel
theorem app_ok {a b : Str} {n m k : Nat} (h : 10 ∉ cl a) (la : a.length = n) (g : 10 ∉ cl b ∧ b.length ≤ m) (z : n + m ≤ k) : 10 ∉ cl (a ++ b) ∧ (a ++ b).length ≤ k := ⟨not_app h g.1, by
  rw [Str.length_append]
  have := g.2
  omega⟩
def spSpo : Sp := fun vs H Q _ => ∃ (a l : Addr) (n : Nat) (ls : List Str), vs = [.ref a, .str (Txt.join "\n" ls), .ref l] ∧ Pur H a n ∧ n ≤ 90000 ∧ H l = some (.lst (ls.map V.str)) ∧ l ≠ a ∧ LnK ls ∧
  ∀ H' r ts, But a H H' → Pur H' a (n + 100) → H r = none → r ≠ a → H' r = some (.lst (List.map V.str ts)) → (∀ t ∈ ts, TxOk t) → ts.length ≤ 10 → Q (.ref r) H'
theorem line_or {K : PySem.W.Frag} {hs : List Str} {line : Str} {p8 : Addr} {H : Hp} {R : VK} {σ : St} (h8 : σ[8]? = some (some (.ref p8))) (e8 : H p8 = some (.lst (hs.map V.str))) (c : (hs = [] ∧ line = "end") ∨ ∃ r, hs = line :: r) (q : R (.str line) H) :
    if (!(hs.map V.str).isEmpty) = true then tOp (rIxL K) (tVar 8) (tC (.int 0)) σ H R else tC (.str "end") σ H R := by
  rcases c with ⟨rfl, rfl⟩ | ⟨r, rfl⟩
  · exact iteF q
  · exact iteT ⟨_, h8, p8, _, 0, _, rfl, rfl, SqL.of e8, at_0, q⟩
theorem strs_app {a b : List Str} : List.map V.str a ++ List.map V.str b = List.map V.str (a ++ b) := List.map_append.symm
abbrev sSpo : Stmt := topS 57
abbrev nSpo : List Str := ["_law_purse_here", "_law_text", "_law_lines", "_law_found", "_law_turn", "_law_at", "_law_put", "_law_way", "_law_here", "_law_after", "_law_line"]
theorem scSpo : FnScope nSpo ["_law_purse_here", "_law_text", "_law_lines"] (defScope sSpo) := ⟨rfl, rfl, rfl, by decide +kernel, rfl, by decide +kernel, by decide +kernel⟩
-- cells set()
section
variable {P : Program} {w : World} {K : PySem.W.Frag} {mg : Str → Option Value} {base : Heap}
theorem ok_spo {f fLone_of fLdraw : Addr} {fd fdLone_of fdLdraw : FuncData} (F : Fun K "_law_spoilt" "_law_spoilt" sSpo f fd)
    (FLone_of : Fun K "_law_one_of" "_law_one_of" sOneOf fLone_of fdLone_of) (GLone_of : FnOk P w K mg base CX0 3 fLone_of fdLone_of ["_law_purse_here", "_law_some"] spOneOf) (gLone_of : mg "_law_one_of" = some (.ref fLone_of))
    (FLdraw : Fun K "_law_draw" "_law_draw" sDraw fLdraw fdLdraw) (GLdraw : FnOk P w K mg base CX0 2 fLdraw fdLdraw ["_law_purse_here", "_law_many_here"] spDraw) (gLdraw : mg "_law_draw" = some (.ref fLdraw)) (gInt : mg "int" = none) (gLen : mg "len" = none) (gRange : mg "range" = none) :
    FnOk P w K mg base CX0 4 f fd ["_law_purse_here", "_law_text", "_law_lines"] spSpo := by
  have bLone_of : Binds K fdLone_of ["_law_purse_here", "_law_some"] [] := FLone_of.binds fun _ _ _ _ _ _ us hl => match us, hl with | [_, _], _ => rfl
  have bLdraw : Binds K fdLdraw ["_law_purse_here", "_law_many_here"] [] := FLdraw.binds fun _ _ _ _ _ _ us hl => match us, hl with | [_, _], _ => rfl
  refine F.ok scSpo (fun vs H Q E h => ?_) (fun cdv A outer s0 H vs Q E hr h => ?_)
  · obtain ⟨a, l, n, ls, rfl, _⟩ := h
    rfl
  · obtain ⟨a, l, n, ls, rfl, hp, hn, hl, la, lk, want⟩ := h
    refine ⟨_, (pss_cons (ps_set (i := 3) scSpo.nd rfl (Or.inl rfl) (pe_lst pa_nil))
      (pss_cons (ps_for PassesOwn.never rfl (pi_range1 rfl gRange (pa_cons pe_int pa_nil)) (pg_name (i := 4) scSpo.nd rfl (Or.inl rfl))
        (pss_cons (ps_par (i := 5) (j := 6) (by rfl) scSpo.nd rfl rfl (by decide) rfl rfl (pa_cons (pe_call GLdraw (hr.mono (by decide)) rfl gLdraw FLdraw.kp bLdraw .nil pass0 (pa_cons (pv 0) (pa_cons (pe_op op_add (pe_callB (call_len_str) (by rfl) gLen PySem.boot_len (pa_cons (pv 1) pa_nil)) pe_int) pa_nil))) (pa_cons (pe_call GLone_of (hr.mono (by decide)) rfl gLone_of FLone_of.kp bLone_of .nil pass0 (pa_cons (pv 0) (pa_cons (pe_lst (pa_cons pe_str (pa_cons pe_str (pa_cons pe_str (pa_cons pe_str (pa_cons pe_str (pa_cons pe_str (pa_cons pe_str (pa_cons pe_str (pa_cons pe_str (pa_cons pe_str pa_nil))))))))))) pa_nil))) pa_nil)) (by rfl))
          (pss_cons (ps_expr (pe_bm PySem.F.plainAttrs_list PySem.F.slot_list_append PySem.F.type_list_append mt_append (pv 3) (pa_cons (pe_op op_add_str (pe_op op_add_str (pe_slice sl_str (pv 1) po_none (po_some (pv 5))) (pv 6)) (pe_slice sl_str (pv 1) (po_some (pe_op op_add (pv 5) (pe_callTy call_int1 (by rfl) gInt boot_int (pa_cons (pe_cmpR op_eq (pv 6) pe_str (nomark _)) pa_nil)))) po_none)) pa_nil)))
          (pss_cons (ps_par (i := 5) (j := 7) (by rfl) scSpo.nd rfl rfl (by decide) rfl rfl (pa_cons (pe_call GLdraw (hr.mono (by decide)) rfl gLdraw FLdraw.kp bLdraw .nil pass0 (pa_cons (pv 0) (pa_cons (pe_op op_add (pe_callB (call_len_seq) (by rfl) gLen PySem.boot_len (pa_cons (pv 2) pa_nil)) pe_int) pa_nil))) (pa_cons (pe_call GLdraw (hr.mono (by decide)) rfl gLdraw FLdraw.kp bLdraw .nil pass0 (pa_cons (pv 0) (pa_cons pe_int pa_nil))) pa_nil)) (by rfl))
          (pss_cons (ps_par (i := 8) (j := 9) (by rfl) scSpo.nd rfl rfl (by decide) rfl rfl (pa_cons (pe_slice sl_list (pv 2) (po_some (pv 5)) (po_some (pe_op op_add (pv 5) pe_int))) (pa_cons (pe_slice sl_list (pv 2) (po_some (pe_op op_add (pv 5) pe_int)) po_none) pa_nil)) (by rfl))
          (pss_cons (ps_set (i := 10) scSpo.nd rfl (Or.inl rfl) (pe_ifExp (pt_cmpR (op_neE (uE hr)) (pv 8) (pe_lst pa_nil) (nomark _)) (pe_ix ix_list (pv 8) pe_int (fun _ _ => rfl)) pe_str))
          (pss_cons (ps_set (i := 6) scSpo.nd rfl (Or.inl rfl) (pe_ix ix_list (pe_lst (pa_cons (pe_lst pa_nil) (pa_cons (pe_op op_cat (pv 8) (pv 8)) (pa_cons (pe_lst (pa_cons (pe_op op_add_str pe_str (pv 10)) pa_nil)) (pa_cons (pe_lst (pa_cons (pe_slice sl_str (pv 10) (po_some pe_int) po_none) pa_nil)) (pa_cons (pe_lst (pa_cons (pe_op op_add_str pe_str (pe_slice sl_str (pv 10) (po_some pe_int) po_none)) pa_nil)) pa_nil)))))) (pv 7) (fun _ _ => rfl)))
          (pss_one (ps_expr (pe_bm PySem.F.plainAttrs_list PySem.F.slot_list_append PySem.F.type_list_append mt_append (pv 3) (pa_cons (pe_join pe_str (pe_op op_cat (pe_op op_cat (pe_slice sl_list (pv 2) po_none (po_some (pv 5))) (pv 6)) (pv 9))) pa_nil)))))))))))
      (pss_one (ps_ret (pv 3))))), ?_⟩
    refine ⟨Nat.zero_le _, fun r hr => ?_⟩
    have nra : r ≠ a := fun e => (hp.ne hr) e.symm
    refine ⟨5, rfl, by decide, by decide, ?_⟩
    refine for_range (lo := 0) (n := 5) (fun i σ H' => ∃ (o4 o5 o6 o7 o8 o9 o10 : Option V) (ts : List Str), σ = [some (.ref a), some (.str (Txt.join "\n" ls)), some (.ref l), some (.ref r), o4, o5, o6, o7, o8, o9, o10] ∧ But a H H' ∧ Pur H' a (n + 10 * i) ∧ H' r = some (.lst (List.map V.str ts)) ∧ (∀ t ∈ ts, TxOk t) ∧ ts.length ≤ 2 * i)
      ⟨_, _, _, _, _, _, _, [], rfl, but_new hr, hp.same (same_new hr), upd_same, (fun t m => nomatch m), Nat.zero_le _⟩ ?_ ?_
    · rintro i σ H1 hi ⟨o4, o5, o6, o7, o8, o9, o10, ts, rfl, b1, hp1, hr1, tk, tl⟩
      have Tl : (Txt.join "\n" ls).length ≤ 3000 := by
        obtain ⟨_, _, c⟩ := join_runs (k := 90) lk.1
        rw [join_eq]
        have z : ls.length * (90 + 1) ≤ 25 * (90 + 1) := Nat.mul_le_mul_right _ lk.2
        omega
      have hl1 := b1 l la _ hl
      show tSeq _ _ _ [some (.ref a), some (.str (Txt.join "\n" ls)), some (.ref l), some (.ref r), some (.int (0 + (i : Int))), o5, o6, o7, o8, o9, o10] _
      refine ⟨_, rfl, _, rfl, _, rfl, by rw [sizeLine_eq]; omega, _, _, rfl, rfl, a, _, n + 10 * i, rfl, by omega, by omega, hp1, by omega, fun H2 d d0 d1 b2 hp2 => ?_⟩
      refine ⟨_, rfl, by show 10 ≤ sizeLine; rw [sizeLine_eq]; decide, fun p hp0 => ?_⟩
      have npa : p ≠ a := fun e => (hp2.ne hp0) e.symm
      refine ⟨a, p, PUTS.map V.str, n + 10 * i + 1, rfl, hp2.same (same_new hp0), by omega, upd_same, npa, by decide, by decide, fun j x H3 hx b3 hp3 => ?_⟩
      rw [List.getElem?_map] at hx
      obtain ⟨t, ht, rfl⟩ := Option.map_eq_some_iff.mp hx
      have t1 := puts_le t (List.mem_of_getElem? ht)
      have b13 := But.trans b2 (But.trans (but_new hp0) b3)
      have hr3 := b13 r nra _ hr1
      refine ⟨_, _, rfl, ?_⟩
      show tSeq _ _ _ [some (.ref a), some (.str (Txt.join "\n" ls)), some (.ref l), some (.ref r), some (.int (0 + (i : Int))), some (.int d), some (.str t), o7, o8, o9, o10] _
      refine ⟨_, rfl, .inl ⟨rfl, _, SqL.of hr3⟩, _, rfl, _, rfl, _, rfl, _, rfl, by rw [sizeLine_eq]; omega, ?_⟩
      have c1 := cutS_length (Txt.join "\n" ls) none (some d)
      refine ⟨_, rfl, _, _, rfl, rfl, by rw [sizeLine_eq]; omega, ?_⟩
      have c2 : ∀ hi : Option Int, (cutS (Txt.join "\n" ls) hi none).length ≤ (Txt.join "\n" ls).length := fun hi => cutS_length _ hi none
      refine ⟨_, rfl, _, rfl, _, rfl, rfl, .inr ⟨_, rfl, _, _, rfl, rfl, _, rfl, _, rfl, by rw [sizeLine_eq]; omega, _, _, rfl, rfl, ?_, r, _, _, rfl, rfl, hr3, by rw [List.length_map, sizeLine_eq]; omega, ?_⟩⟩
      · rw [Str.length_append, sizeLine_eq]
        have := c2 (some (d + if decide (V.str t = V.str "") = true then 1 else 0))
        omega
      have tx1 := spoil1 lk none (some d) (some (d + if decide (V.str t = V.str "") = true then 1 else 0)) none t1
      generalize cutS (Txt.join "\n" ls) none (some d) ++ t ++ cutS (Txt.join "\n" ls) (some (d + if decide (V.str t = V.str "") = true then 1 else 0)) none = x1 at tx1 ⊢
      have e4 : List.map V.str ts ++ [V.str x1] = List.map V.str (ts ++ [x1]) := by rw [List.map_append]; rfl
      rw [e4]
      have b4 : But a H (upd H3 r (.lst (List.map V.str (ts ++ [x1])))) := but_set (But.trans b1 b13) nra hr
      have hp4 : Pur (upd H3 r (.lst (List.map V.str (ts ++ [x1])))) a (n + 10 * i + 1 + 1) := hp3.but but_upd (Ne.symm nra)
      have hr4 : upd H3 r (.lst (List.map V.str (ts ++ [x1]))) r = some (.lst (List.map V.str (ts ++ [x1]))) := upd_same
      have tk4 : ∀ t ∈ ts ++ [x1], TxOk t := fun t m => (List.mem_append.mp m).elim (tk t) fun m => by
        rw [List.mem_singleton.mp m]
        exact tx1
      have tl4 : (ts ++ [x1]).length ≤ 2 * i + 1 := by
        rw [List.length_append]
        show _ + 1 ≤ _
        omega
      generalize upd H3 r (.lst (List.map V.str (ts ++ [x1]))) = H4 at b4 hp4 hr4 ⊢
      generalize ts ++ [x1] = ts4 at hr4 tk4 tl4 ⊢
      clear b1 hp1 hr1 tk tl b2 hp2 b3 hp3 b13 hr3 hl1 hx hp0 c1 c2
      have hl4 := b4 l la _ hl
      refine ⟨_, rfl, _, rfl, l, _, rfl, .inl (SqL.of hl4), _, _, rfl, rfl, a, _, n + 10 * i + 1 + 1, rfl, ?_, ?_, hp4, by omega, fun H5 e e0 e1 b5 hp5 => ?_⟩
      · show 0 < ((List.map V.str ls).length : Int) + 1
        omega
      · show ((List.map V.str ls).length : Int) + 1 < 100000
        rw [List.length_map]
        have := lk.2
        omega
      refine ⟨_, rfl, a, 5, _, rfl, by decide, by decide, hp5, by omega, fun H6 m m0 m1 b6 hp6 => ?_⟩
      refine ⟨_, _, rfl, ?_⟩
      show tSeq _ _ _ [some (.ref a), some (.str (Txt.join "\n" ls)), some (.ref l), some (.ref r), some (.int (0 + (i : Int))), some (.int e), some (.str t), some (.int m), o8, o9, o10] _
      have b46 := But.trans b4 (But.trans b5 b6)
      have hr6 := b6 r nra _ (b5 r nra _ hr4)
      have hl6 := b46 l la _ hl
      obtain ⟨n6, en6⟩ : ∃ n6, n6 = n + 10 * i + 1 + 1 + 1 + 1 := ⟨_, rfl⟩
      rw [← en6] at hp6
      obtain ⟨k, rfl⟩ := Int.eq_ofNat_of_zero_le e0
      obtain ⟨hs, eh, mh, lh⟩ := cut_strs ls (some ((k : Nat) : Int)) (some ((k : Nat) + 1))
      have l8 := cut_one (xs := ls.map V.str) (k := k)
      rw [eh, List.length_map] at l8
      obtain ⟨as, ea, ma, lna⟩ := cut_strs ls (some ((k : Nat) + 1)) none
      refine ⟨_, rfl, _, rfl, _, rfl, _, rfl, _, _, rfl, rfl, _, rfl, l, _, rfl, SqL.of hl6, fun p8 h8 => ?_⟩
      rw [eh]
      have n8 : p8 ≠ a := fun e => (hp6.ne h8) e.symm
      have s8 := same_new (o := HO.lst (List.map V.str hs)) h8
      have e8 : upd H6 p8 (HO.lst (List.map V.str hs)) p8 = some (.lst (List.map V.str hs)) := upd_same
      generalize upd H6 p8 (HO.lst (List.map V.str hs)) = H8 at s8 e8 ⊢
      refine ⟨_, rfl, _, rfl, _, _, rfl, rfl, _, rfl, l, _, rfl, SqL.of (s8 _ _ hl6), fun p9 h9 => ?_⟩
      rw [ea]
      have s9 := same_new (o := HO.lst (List.map V.str as)) h9
      have e9 : upd H8 p9 (HO.lst (List.map V.str as)) p9 = some (.lst (List.map V.str as)) := upd_same
      generalize upd H8 p9 (HO.lst (List.map V.str as)) = H9 at s9 e9 ⊢
      have s69 := same_trans s8 s9
      refine ⟨_, _, rfl, ?_⟩
      show tSeq _ _ _ [some (.ref a), some (.str (Txt.join "\n" ls)), some (.ref l), some (.ref r), some (.int (0 + (i : Int))), some (.int (k : Int)), some (.str t), some (.int m), some (.ref p8), some (.ref p9), o10] _
      refine ⟨_, rfl, Nat.zero_le _, fun q hq => ⟨p8, q, _, rfl, rfl, SqL.of ((same_new hq) _ _ (s9 _ _ e8)), SqL.of upd_same, ?_⟩⟩
      have sq := same_new (o := HO.lst []) hq
      generalize upd H9 q (HO.lst []) = H10 at sq ⊢
      have s610 := same_trans s69 sq
      have e8' := sq _ _ (s9 _ _ e8)
      have e9' := sq _ _ e9
      clear hq h8 h9 s8 s9 s69 sq e8 e9
      obtain ⟨line, lok, cse⟩ : ∃ line : Str, (10 ∉ cl line ∧ line.length ≤ 90) ∧ ((hs = [] ∧ line = "end") ∨ ∃ r, hs = line :: r) := by
        cases hs with
        | nil => exact ⟨"end", by decide +kernel, .inl ⟨rfl, rfl⟩⟩
        | cons x r => exact ⟨x, lk.1 x (mh x List.mem_cons_self), .inr ⟨r, rfl⟩⟩
      have lx := lok.2
      obtain ⟨x1n, x2l, x3n⟩ := xx_ok
      refine ⟨_, rfl, line_or rfl e8' cse ?_⟩
      show tSeq _ _ _ [some (.ref a), some (.str (Txt.join "\n" ls)), some (.ref l), some (.ref r), some (.int (0 + (i : Int))), some (.int (k : Int)), some (.str t), some (.int m), some (.ref p8), some (.ref p9), some (.str line)] _
      refine ⟨Nat.zero_le _, fun u0 g0 => ?_⟩
      have z0 := same_new (o := HO.lst []) g0
      have y0 : upd H10 u0 (HO.lst []) u0 = some (.lst (List.map V.str [])) := upd_same
      generalize upd H10 u0 (HO.lst []) = J0 at z0 y0 ⊢
      refine ⟨_, rfl, _, rfl, p8, p8, _, _, rfl, rfl, z0 _ _ e8', z0 _ _ e8', by rw [List.length_map, sizeLine_eq]; omega, fun u1 g1 => ?_⟩
      rw [strs_app]
      have z1 := same_new (o := HO.lst (List.map V.str (hs ++ hs))) g1
      have y1 : upd J0 u1 (HO.lst (List.map V.str (hs ++ hs))) u1 = some (.lst (List.map V.str (hs ++ hs))) := upd_same
      generalize upd J0 u1 (HO.lst (List.map V.str (hs ++ hs))) = J1 at z1 y1 ⊢
      refine ⟨_, rfl, _, _, rfl, rfl, by rw [sizeLine_eq, lead_len]; omega, one_fit, fun u2 g2 => ?_⟩
      have z2 := same_new (o := HO.lst [V.str ("  " ++ line)]) g2
      have y2 : upd J1 u2 (HO.lst [V.str ("  " ++ line)]) u2 = some (.lst (List.map V.str ["  " ++ line])) := upd_same
      generalize upd J1 u2 (HO.lst [V.str ("  " ++ line)]) = J2 at z2 y2 ⊢
      refine ⟨_, rfl, _, rfl, _, rfl, by rw [sizeLine_eq]; omega, one_fit, fun u3 g3 => ?_⟩
      have cl3 := cutS_nl (lo := some 2) (hi := none) lok
      have z3 := same_new (o := HO.lst [V.str (cutS line (some 2) none)]) g3
      have y3 : upd J2 u3 (HO.lst [V.str (cutS line (some 2) none)]) u3 = some (.lst (List.map V.str [cutS line (some 2) none])) := upd_same
      generalize upd J2 u3 (HO.lst [V.str (cutS line (some 2) none)]) = J3 at z3 y3 ⊢
      refine ⟨_, rfl, _, rfl, _, rfl, by rw [sizeLine_eq]; omega, _, _, rfl, rfl, by have := cl3.2; rw [sizeLine_eq, x2l]; omega, one_fit, fun u4 g4 => ?_⟩
      have z4 := same_new (o := HO.lst [V.str ("xx" ++ cutS line (some 2) none)]) g4
      have y4 : upd J3 u4 (HO.lst [V.str ("xx" ++ cutS line (some 2) none)]) u4 = some (.lst (List.map V.str ["xx" ++ cutS line (some 2) none])) := upd_same
      generalize upd J3 u4 (HO.lst [V.str ("xx" ++ cutS line (some 2) none)]) = J4 at z4 y4 ⊢
      refine ⟨by rw [sizeLine_eq]; exact Nat.le_of_ble_eq_true rfl, fun u5 g5 => ?_⟩
      have z5 := same_new (o := HO.lst [V.ref u0, V.ref u1, V.ref u2, V.ref u3, V.ref u4]) g5
      have y5 : upd J4 u5 (HO.lst [V.ref u0, V.ref u1, V.ref u2, V.ref u3, V.ref u4]) u5 = some (.lst [V.ref u0, V.ref u1, V.ref u2, V.ref u3, V.ref u4]) := upd_same
      generalize upd J4 u5 (HO.lst [V.ref u0, V.ref u1, V.ref u2, V.ref u3, V.ref u4]) = J5 at z5 y5 ⊢
      have ok1 : ∀ {x : Str} {n : Nat}, n ≤ 185 → (10 ∉ cl x ∧ x.length ≤ n) → ∀ p ∈ [x], 10 ∉ cl p ∧ p.length ≤ 185 := fun {x n} h g p mp => by
        rw [List.mem_singleton.mp mp]
        exact ⟨g.1, Nat.le_trans g.2 h⟩
      obtain ⟨u, ps, iu, hu, pok, pl⟩ : ∃ u ps, atI [V.ref u0, V.ref u1, V.ref u2, V.ref u3, V.ref u4] m = some (.ref u) ∧ J5 u = some (.lst (List.map V.str ps)) ∧ (∀ p ∈ ps, 10 ∉ cl p ∧ p.length ≤ 185) ∧ ps.length ≤ 2 := by
        obtain rfl | rfl | rfl | rfl | rfl : m = 0 ∨ m = 1 ∨ m = 2 ∨ m = 3 ∨ m = 4 := by omega
        · exact ⟨u0, [], atI_nat (j := 0) rfl, z5 _ _ (z4 _ _ (z3 _ _ (z2 _ _ (z1 _ _ y0)))), (fun p m => nomatch m), Nat.zero_le _⟩
        · exact ⟨u1, hs ++ hs, atI_nat (j := 1) rfl, z5 _ _ (z4 _ _ (z3 _ _ (z2 _ _ y1))), (fun p mp => (List.mem_append.mp mp).elim (fun mp => lk.all p (mh p mp)) fun mp => lk.all p (mh p mp)), by rw [List.length_append]; omega⟩
        · exact ⟨u2, _, atI_nat (j := 2) rfl, z5 _ _ (z4 _ _ (z3 _ _ y2)), ok1 (n := 92) (by decide) (app_ok x3n lead_len lok (by decide)), Nat.le_succ 1⟩
        · exact ⟨u3, _, atI_nat (j := 3) rfl, z5 _ _ (z4 _ _ y3), ok1 (n := 90) (by decide) cl3, Nat.le_succ 1⟩
        · exact ⟨u4, _, atI_nat (j := 4) rfl, z5 _ _ y4, ok1 (n := 92) (by decide) (app_ok x1n x2l cl3 (by decide)), Nat.le_succ 1⟩
      refine ⟨_, rfl, u5, _, m, _, rfl, rfl, SqL.of y5, iu, ?_⟩
      have s6 : Same H6 J5 := same_trans s610 (same_trans z0 (same_trans z1 (same_trans z2 (same_trans z3 (same_trans z4 z5)))))
      have e9'' : J5 p9 = some (.lst (List.map V.str as)) := z5 _ _ (z4 _ _ (z3 _ _ (z2 _ _ (z1 _ _ (z0 _ _ e9')))))
      clear z0 z1 z2 z3 z4 z5 y0 y1 y2 y3 y4 y5 g0 g1 g2 g3 g4 g5 iu
      obtain ⟨ms, em, mm, lm⟩ := cut_strs ls none (some ((k : Nat) : Int))
      have hr7 := s6 _ _ hr6
      have hl7 := s6 _ _ hl6
      have lk2 := lk.2
      refine ⟨_, rfl, .inl ⟨rfl, _, SqL.of hr7⟩, ⟨_, rfl⟩, _, rfl, _, rfl, _, rfl, l, _, rfl, SqL.of hl7, fun v1 f1 => ?_⟩
      rw [em]
      have w1 := same_new (o := HO.lst (List.map V.str ms)) f1
      have x1' : upd J5 v1 (HO.lst (List.map V.str ms)) v1 = some (.lst (List.map V.str ms)) := upd_same
      generalize upd J5 v1 (HO.lst (List.map V.str ms)) = J6 at w1 x1' ⊢
      refine ⟨_, rfl, v1, u, _, _, rfl, rfl, x1', w1 _ _ hu, by rw [List.length_map, List.length_map, sizeLine_eq]; omega, fun v2 f2 => ?_⟩
      rw [strs_app]
      have w2 := same_new (o := HO.lst (List.map V.str (ms ++ ps))) f2
      have x2' : upd J6 v2 (HO.lst (List.map V.str (ms ++ ps))) v2 = some (.lst (List.map V.str (ms ++ ps))) := upd_same
      generalize upd J6 v2 (HO.lst (List.map V.str (ms ++ ps))) = J7 at w2 x2' ⊢
      have la1 : (ms ++ ps).length ≤ 27 := by
        rw [List.length_append]
        omega
      refine ⟨_, rfl, v2, p9, _, _, rfl, rfl, x2', w2 _ _ (w1 _ _ e9''), by rw [List.length_map, List.length_map, sizeLine_eq]; omega, fun v3 f3 => ?_⟩
      rw [strs_app]
      have w3 := same_new (o := HO.lst (List.map V.str (ms ++ ps ++ as))) f3
      have x3' : upd J7 v3 (HO.lst (List.map V.str (ms ++ ps ++ as))) v3 = some (.lst (List.map V.str (ms ++ ps ++ as))) := upd_same
      generalize upd J7 v3 (HO.lst (List.map V.str (ms ++ ps ++ as))) = J8 at w3 x3' ⊢
      have la2 : (ms ++ ps ++ as).length ≤ 59 := by
        rw [List.length_append]
        omega
      have aok : ∀ p ∈ ms ++ ps ++ as, 10 ∉ cl p ∧ p.length ≤ 185 := fun p mp => (List.mem_append.mp mp).elim (fun mp => (List.mem_append.mp mp).elim (fun mp => lk.all p (mm p mp)) (pok p)) fun mp => lk.all p (ma p mp)
      have s8 := same_trans s6 (same_trans w1 (same_trans w2 w3))
      have hr8 := s8 _ _ hr6
      refine ⟨_, v3, ms ++ ps ++ as, rfl, rfl, .inl (SqL.of x3'), jn_fit aok la2, r, _, _, rfl, rfl, hr8, by rw [List.length_map, sizeLine_eq]; omega, ?_⟩
      have tx2 := tx_lines aok la2
      have e10 : List.map V.str ts4 ++ [V.str (Txt.join "\n" (ms ++ ps ++ as))] = List.map V.str (ts4 ++ [Txt.join "\n" (ms ++ ps ++ as)]) := by rw [List.map_append]; rfl
      rw [e10]
      refine ⟨_, _, _, _, _, _, _, ts4 ++ [Txt.join "\n" (ms ++ ps ++ as)], rfl, but_set (But.trans b46 (but_same s8)) nra hr, ((hp6.same s8).but but_upd (Ne.symm nra)).mono (by omega), upd_same, fun t mt => (List.mem_append.mp mt).elim (tk4 t) (fun mt => by rw [List.mem_singleton.mp mt]; exact tx2), ?_⟩
      rw [List.length_append]
      show _ + 1 ≤ _
      omega
    · rintro σ H1 ⟨o4, o5, o6, o7, o8, o9, o10, ts, rfl, b1, hp1, hr1, tk, tl⟩
      exact ⟨_, rfl, want H1 r ts b1 (hp1.mono (by omega)) hr nra hr1 tk tl⟩
end
end Vb
end L2

set_option Elab.async false
set_option linter.all false
set_option maxRecDepth 100000
set_option maxHeartbeats 4000000
/-! Vb, k88: how long the commands are, told by repr. -/
namespace L2
namespace Vb
open PySem PySem.Spec PyProof.Rows
theorem rp_keys : ∀ k ∈ ("" : Str) :: KEYS, (reprText k).length ≤ 20 := by decide +kernel
theorem rp_bare : ∀ k ∈ BARE_W, (reprText k).length ≤ 20 := by decide +kernel
theorem rp_let : ∀ b : Bool, (reprText (letW b)).length ≤ 20 := by decide +kernel
theorem rp_sum : ∀ k : Fin 4, (reprText (sumW k)).length ≤ 20 := by decide +kernel
theorem rp_try : (reprText ("try" : Str)).length = 5 := by decide +kernel
theorem rp_exch : (reprText ("exchange" : Str)).length = 10 := by decide +kernel
theorem rp_marks : ∀ m ∈ MARKS, (mkDt m).showable = true ∧ (mkDt m).shown.length ≤ 100 ∧ (mkDt m).depth ≤ 3 := by decide +kernel
theorem cc_len : (": " : Str).length = 2 := by decide +kernel
theorem sum_show : ∀ {W : SumZ}, (∀ q ∈ W, ((q.1 = "" ∧ 1 ≤ q.2) ∨ (q.1 ∈ KEYS ∧ 0 ≤ q.2)) ∧ q.2 < 10 ^ 5) → PyData.showableKv (W.map fun q => (PyData.str q.1, PyData.int q.2)) = true ∧ ((PyData.shownKv (W.map fun q => (PyData.str q.1, PyData.int q.2))).map (·.length)).sum ≤ 30 * W.length ∧ (PyData.shownKv (W.map fun q => (PyData.str q.1, PyData.int q.2))).length = W.length ∧ PyData.depthKv (W.map fun q => (PyData.str q.1, PyData.int q.2)) ≤ 1
  | [], _ => by decide +kernel
  | q :: W, h => by
    obtain ⟨i1, i2, i3, i4⟩ := sum_show (W := W) fun r m => h r (List.mem_cons_of_mem _ m)
    obtain ⟨e, l⟩ := h q List.mem_cons_self
    have n0 : 0 ≤ q.2 := by
      rcases e with ⟨_, e⟩ | ⟨_, e⟩ <;> omega
    have k20 : (reprText q.1).length ≤ 20 := by
      rcases e with ⟨e, _⟩ | ⟨e, _⟩
      · rw [e]
        exact rp_keys _ List.mem_cons_self
      · exact rp_keys _ (List.mem_cons_of_mem _ e)
    have t5 : (toString q.2 : Str).length ≤ 5 := toString_length_le n0 (by decide) l
    have lg : q.2.natAbs.log2 < 1920 := by
      have := (num_lim n0 (by omega)).1
      omega
    have e1 : PyData.showableKv ((q :: W).map fun q => (PyData.str q.1, PyData.int q.2)) = (true && decide (q.2.natAbs.log2 < 1920) && PyData.showableKv (W.map fun q => (PyData.str q.1, PyData.int q.2))) := rfl
    have e2 : PyData.shownKv ((q :: W).map fun q => (PyData.str q.1, PyData.int q.2)) = (reprText q.1 ++ ": " ++ (toString q.2 : Str)) :: PyData.shownKv (W.map fun q => (PyData.str q.1, PyData.int q.2)) := rfl
    refine ⟨by rw [e1, i1, decide_eq_true lg]; rfl, ?_, by rw [e2, List.length_cons, i3]; rfl, ?_⟩
    · rw [e2, List.map_cons, List.sum_cons, Str.length_append, Str.length_append, cc_len, List.length_cons]
      omega
    · show max (max 0 0) (PyData.depthKv _) ≤ 1
      exact Nat.max_le.mpr ⟨by decide, i4⟩
mutual
theorem cm_show : ∀ {c : Cm}, gdC c → (datC c).showable = true ∧ (datC c).shown.length + 2 ≤ 12000 * nlC c ∧ (datC c).depth ≤ 2 * dpC c + 4
  | .tr cs, h => by
    have h : gdS cs := by simpa only [gdC] using h
    obtain ⟨i1, i2, i3, i4⟩ := cs_show h
    rw [datC, nlC, dpC]
    refine ⟨?_, ?_, ?_⟩
    · show (true && (PyData.showableAll (datS cs) && true)) = true
      rw [i1]
      rfl
    · have z := tupleText_len_le [reprText ("try" : Str), listText (PyData.shownAll (datS cs))]
      have y := listText_len_le (PyData.shownAll (datS cs))
      show (tupleText [reprText ("try" : Str), listText (PyData.shownAll (datS cs))]).length + 2 ≤ _
      have e : ([reprText ("try" : Str), listText (PyData.shownAll (datS cs))].map (·.length)).sum = (reprText ("try" : Str)).length + ((listText (PyData.shownAll (datS cs))).length + 0) := rfl
      have e2 : [reprText ("try" : Str), listText (PyData.shownAll (datS cs))].length = 2 := rfl
      rw [e, e2, rp_try] at z
      omega
    · show max 0 (max (PyData.depthAll (datS cs) + 1) 0) + 1 ≤ _
      omega
  | .bare w, h => by
    have r := rp_bare w h
    obtain ⟨o1, o2⟩ := nl_one (c := .bare w) (by intro cs z; cases z)
    rw [datC, o1, o2]
    refine ⟨rfl, ?_, by show max 0 0 + 1 ≤ _; omega⟩
    have z := tupleText_len_le [reprText w]
    have e : ([reprText w].map (·.length)).sum = (reprText w).length + 0 := rfl
    have e2 : [reprText w].length = 1 := rfl
    rw [e, e2] at z
    show (tupleText [reprText w]).length + 2 ≤ _
    omega
  | .ltr b n, h => by
    obtain ⟨j, rfl, h0, h1⟩ := h
    have r := rp_let b
    have t := num_sm h0 h1
    have lg := (num_lim h0 h1).1
    obtain ⟨o1, o2⟩ := nl_one (c := .ltr b (some j)) (by intro cs z; cases z)
    rw [datC, o1, o2]
    refine ⟨?_, ?_, by show max 0 (max 0 0) + 1 ≤ _; omega⟩
    · show (true && (decide (j.natAbs.log2 < 1920) && true)) = true
      rw [decide_eq_true (by omega)]
      rfl
    · have z := tupleText_len_le [reprText (letW b), numS j]
      have e : ([reprText (letW b), numS j].map (·.length)).sum = (reprText (letW b)).length + ((numS j).length + 0) := rfl
      have e2 : [reprText (letW b), numS j].length = 2 := rfl
      rw [e, e2] at z
      show (tupleText [reprText (letW b), numS j]).length + 2 ≤ _
      omega
  | .sum k W, h => by
    obtain ⟨U, rfl, g, g4⟩ := h
    obtain ⟨i1, i2, i3, i4⟩ := sum_show g.2
    have r := rp_sum k
    obtain ⟨o1, o2⟩ := nl_one (c := .sum k (some U)) (by intro cs z; cases z)
    rw [datC, o1, o2]
    refine ⟨?_, ?_, ?_⟩
    · show (true && (PyData.showableKv _ && true)) = true
      rw [i1]
      rfl
    · have y := dictText_len_le (PyData.shownKv (U.map fun q => (PyData.str q.1, PyData.int q.2)))
      show (tupleText [reprText (sumW k), dictText (PyData.shownKv (U.map fun q => (PyData.str q.1, PyData.int q.2)))]).length + 2 ≤ _
      generalize PyData.shownKv (U.map fun q => (PyData.str q.1, PyData.int q.2)) = kv at i2 i3 y ⊢
      have z := tupleText_len_le [reprText (sumW k), dictText kv]
      have e : ([reprText (sumW k), dictText kv].map (·.length)).sum = (reprText (sumW k)).length + ((dictText kv).length + 0) := rfl
      have e2 : [reprText (sumW k), dictText kv].length = 2 := rfl
      rw [e, e2] at z
      omega
    · show max 0 (max (PyData.depthKv _ + 1) 0) + 1 ≤ _
      omega
  | .exch n mk, h => by
    obtain ⟨⟨j, rfl, h0, h1⟩, x, mx, rfl⟩ := h
    obtain ⟨m1, m2, m3⟩ := rp_marks x mx
    have t := num_sm h0 h1
    have lg := (num_lim h0 h1).1
    obtain ⟨o1, o2⟩ := nl_one (c := .exch (some j) (some x)) (by intro cs z; cases z)
    rw [datC, o1, o2]
    refine ⟨?_, ?_, ?_⟩
    · show (true && (decide (j.natAbs.log2 < 1920) && ((mkDt x).showable && true))) = true
      rw [m1, decide_eq_true (by omega)]
      rfl
    · have z := tupleText_len_le [reprText ("exchange" : Str), numS j, (mkDt x).shown]
      have e : ([reprText ("exchange" : Str), numS j, (mkDt x).shown].map (·.length)).sum = (reprText ("exchange" : Str)).length + ((numS j).length + ((mkDt x).shown.length + 0)) := rfl
      have e2 : [reprText ("exchange" : Str), numS j, (mkDt x).shown].length = 3 := rfl
      rw [e, e2, rp_exch] at z
      show (tupleText [reprText ("exchange" : Str), numS j, (mkDt x).shown]).length + 2 ≤ _
      omega
    · show max 0 (max 0 (max (mkDt x).depth 0)) + 1 ≤ _
      omega
theorem cs_show : ∀ {cs : List Cm}, gdS cs → PyData.showableAll (datS cs) = true ∧ ((PyData.shownAll (datS cs)).map (·.length)).sum + 2 * (PyData.shownAll (datS cs)).length ≤ 12000 * nlS cs ∧ (PyData.shownAll (datS cs)).length = cs.length ∧ PyData.depthAll (datS cs) ≤ 2 * dpS cs + 4
  | [], _ => by
    rw [datS, nlS, dpS]
    decide +kernel
  | c :: cs, h => by
    have h : gdC c ∧ gdS cs := by simpa only [gdS] using h
    obtain ⟨a1, a2, a3⟩ := cm_show h.1
    obtain ⟨i1, i2, i3, i4⟩ := cs_show h.2
    rw [datS, nlS, dpS]
    have e2 : PyData.shownAll (datC c :: datS cs) = (datC c).shown :: PyData.shownAll (datS cs) := rfl
    refine ⟨?_, ?_, by rw [e2, List.length_cons, i3]; rfl, ?_⟩
    · show ((datC c).showable && PyData.showableAll (datS cs)) = true
      rw [a1, i1]
      rfl
    · rw [e2, List.map_cons, List.sum_cons, List.length_cons]
      omega
    · show max (datC c).depth (PyData.depthAll (datS cs)) ≤ _
      omega
end
theorem sc_show {cs : List Cm} (h : gdS cs) (l : nlS cs ≤ 25) (d : dpS cs ≤ 4) : (PyData.list (datS cs)).showable = true ∧ (PyData.list (datS cs)).depth ≤ 30 ∧ (PyData.list (datS cs)).shown.length ≤ sizeLine := by
  obtain ⟨i1, i2, i3, i4⟩ := cs_show h
  have y := listText_len_le (PyData.shownAll (datS cs))
  refine ⟨i1, ?_, ?_⟩
  · show PyData.depthAll (datS cs) + 1 ≤ 30
    omega
  · show (listText (PyData.shownAll (datS cs))).length ≤ sizeLine
    rw [sizeLine_eq]
    omega
end Vb
end L2

set_option Elab.async false
set_option linter.all false
set_option maxRecDepth 100000
set_option maxHeartbeats 16000000
/-! Vb, k88: the written scripts. -/
namespace L2
namespace Vb
open PySem PySem.Spec PyProof.Rows
/-! ### the written scripts -/
def fx1 : List Cm := [.sum 0 (some [("x", 0)]), .sum 1 (some [("", 1)]), .sum 2 (some [("y", 0), ("", 2)]), .sum 3 (some [("", 3)])]
def fx2a : List Cm := [.ltr true (some (10 ^ 29)), .sum 0 (some []), .sum 3 (some [("y", 0), ("x", 10)])]
def fx2b : List Cm := [.sum 0 (some [("", 3), ("@10.2", 1)]), .tr []]
def gdwB (W : SumZ) : Bool := decide (W.map (·.1)).Nodup && (W.all fun q => ((decide (q.1 = "") && decide (1 ≤ q.2)) || (KEYS.contains q.1 && decide (0 ≤ q.2))) && decide (q.2 < 10 ^ 5))
theorem gdw_of {W : SumZ} (h : gdwB W = true) : GdW W := by
  obtain ⟨a, b⟩ := Bool.and_eq_true_iff.mp h
  refine ⟨of_decide_eq_true a, fun q m => ?_⟩
  obtain ⟨c, d⟩ := Bool.and_eq_true_iff.mp (List.all_eq_true.mp b q m)
  refine ⟨?_, of_decide_eq_true d⟩
  rcases Bool.or_eq_true_iff.mp c with c | c
  · obtain ⟨e, f⟩ := Bool.and_eq_true_iff.mp c
    exact .inl ⟨of_decide_eq_true e, of_decide_eq_true f⟩
  · obtain ⟨e, f⟩ := Bool.and_eq_true_iff.mp c
    exact .inr ⟨List.contains_iff_mem.mp e, of_decide_eq_true f⟩
theorem gd_sum {k : Fin 4} {W : SumZ} (h : gdwB W = true) (l : W.length ≤ 4) : gdC (.sum k (some W)) := by
  rw [gdC]
  exact ⟨W, rfl, gdw_of h, l⟩
theorem gd_nil : gdS [] := by
  rw [gdS]
  trivial
theorem gd_cons {c : Cm} {cs : List Cm} (h : gdC c) (g : gdS cs) : gdS (c :: cs) := by
  rw [gdS]
  exact ⟨h, g⟩
theorem fx1_gd : gdS fx1 := gd_cons (gd_sum (by decide +kernel) (by decide)) (gd_cons (gd_sum (by decide +kernel) (by decide)) (gd_cons (gd_sum (by decide +kernel) (by decide)) (gd_cons (gd_sum (by decide +kernel) (by decide)) gd_nil)))
theorem fx2_gd : gdS (fx2a ++ fx2b) := gd_cons (by rw [gdC]; exact ⟨_, rfl, by decide +kernel, by decide +kernel⟩) (gd_cons (gd_sum (by decide +kernel) (by decide)) (gd_cons (gd_sum (by decide +kernel) (by decide)) (gd_cons (gd_sum (by decide +kernel) (by decide)) (gd_cons (by rw [gdC]; exact gd_nil) gd_nil))))
def due1 : Str := "read 0 x\nmove 1\nsuppose 0 y + 2\nput 3"
theorem fx1_tx : txD fx1 = due1 := by decide +kernel
theorem fx2_tx : txD (fx2a ++ fx2b) = "number 1" ++ Txt.mul "0" 29 ++ "\nread 0\nput 10 x + 0 y\nread 1 @10.2 + 3\ntry\nend" := by decide +kernel
theorem disp1 {σ : St} {H : Hp} {Q : VK} {x : Str} {i : Int} (q : ∀ d H', Same H H' → H d = none → Dct H' d [(x, i)] → Q (.ref d) H') : tDisp [(tC (.str x), tC (.int i))] σ H Q := by
  refine fun d hd => ⟨upd_same, [(Sum.inr x, V.int i)], rfl, (by show 1 ≤ 15; decide), ?_⟩
  refine q d _ (fun b o e => ?_) hd upd_same
  have nb : b ≠ d := fun z => by
    rw [z, hd] at e
    cases e
  rw [upd_ne nb, upd_ne nb]
  exact e
theorem disp2 {σ : St} {H : Hp} {Q : VK} {x y : Str} {i j : Int} (ne : x ≠ y) (q : ∀ d H', Same H H' → H d = none → Dct H' d [(x, i), (y, j)] → Q (.ref d) H') : tDisp [(tC (.str x), tC (.int i)), (tC (.str y), tC (.int j))] σ H Q := by
  refine fun d hd => ⟨upd_same, [(Sum.inr x, V.int i), (Sum.inr y, V.int j)], rfl, (by show 2 ≤ 15; decide), ?_⟩
  have e : mergeK [] [((Sum.inr x : Key), V.int i), ((Sum.inr y : Key), V.int j)] = kvsZ [(x, i), (y, j)] := by
    have n2 : ¬ (Sum.inr x : Key) = Sum.inr y := fun e => ne (Sum.inr.inj e)
    simp [mergeK, putK, n2, kvsZ]
  rw [e]
  refine q d _ (fun b o e => ?_) hd upd_same
  have nb : b ≠ d := fun z => by
    rw [z, hd] at e
    cases e
  rw [upd_ne nb, upd_ne nb]
  exact e
/-- lays the command c -/
def LayC (te : TE) (c : Cm) : Prop := ∀ (σ : St) (H : Hp) (Q : VK), (∀ v H', Same H H' → Sho 3 H' v (datC c) → Q v H') → te σ H Q
theorem dct_sho {H : Hp} {d : Addr} {W : SumZ} (h : Dct H d W) : Sho 2 H (.ref d) (sumDt W) := by
  refine Sho.dict h ?_
  clear h
  unfold kvsZ
  induction W with
  | nil => exact .nil
  | cons q W ih => exact .cons ⟨⟨q.1, rfl, rfl⟩, Sho.int _⟩ ih
theorem lay_tup {x : Str} {te : TE} {W : SumZ} {k : Fin 4} (ex : sumW k = x) (h : ∀ (σ : St) (H : Hp) (Q : VK), (∀ d H', Same H H' → H d = none → Dct H' d W → Q (.ref d) H') → te σ H Q) : LayC (tTup (tCons (tC (.str x)) (tCons te tNil))) (.sum k (some W)) := by
  intro σ H Q q
  refine h σ H _ fun d H1 s1 nd hd => ⟨two_fit, fun t ht => ?_⟩
  have s2 := same_new (o := HO.tup [V.str x, V.ref d]) ht
  refine q _ _ (same_trans s1 s2) ?_
  rw [datC, ex]
  exact Sho.tup upd_same (.cons (Sho.str _) (.cons ((dct_sho hd).up s2) .nil))
def LayS (ta : TA) (cs : List Cm) : Prop := ∀ (σ : St) (H : Hp) (Q : List V → Hp → Prop), (∀ vs H', Same H H' → Paired (Sho 3 H') vs (datS cs) → Q vs H') → ta σ H Q
theorem layS_nil : LayS tNil [] := fun σ H Q q => q [] H same_rfl (by rw [datS]; exact .nil)
theorem layS_cons {te : TE} {ta : TA} {c : Cm} {cs : List Cm} (h : LayC te c) (g : LayS ta cs) : LayS (tCons te ta) (c :: cs) := fun σ H Q q => h σ H _ fun v H1 s1 e1 => g σ H1 _ fun vs H2 s2 e2 => q (v :: vs) H2 (same_trans s1 s2) (by
  rw [datS]
  exact .cons (e1.up s2) e2)
def tFx (cs : List Cm) : TE := fun _ H Q => ∀ l H', Same H H' → H l = none → (∃ vs, H' l = some (.lst vs) ∧ Paired (Sho 3 H') vs (datS cs)) → Q (.ref l) H'
theorem fx_imp {ta : TA} {cs : List Cm} (h : LayS ta cs) (l : cs.length ≤ 100) (σ : St) (H : Hp) (Q : VK) (k : tFx cs σ H Q) : tLst ta σ H Q := h σ H _ fun vs H1 s1 p1 => ⟨by rw [paired_len p1, dat_len, sizeLine_eq]; omega, fun a ha => by
  have s2 := same_new (o := HO.lst vs) ha
  exact k a _ (same_trans s1 s2) (s1.free ha) ⟨vs, upd_same, pr_le (Nat.le_refl _) s2 p1⟩⟩
def tFxM (i : Nat) (cs : List Cm) : TE := fun σ H Q => ∃ (a : Addr) (vs : List V) (bs : List Cm), σ[i]? = some (some (.ref a)) ∧ H a = some (.lst vs) ∧ Paired (Sho 3 H) vs (datS bs) ∧ bs.length ≤ 100 ∧ ∀ l H', Same H H' → (∃ vs, H' l = some (.lst vs) ∧ Paired (Sho 3 H') vs (datS (bs ++ cs))) → Q (.ref l) H'
theorem fxm_imp {i : Nat} {ta : TA} {cs : List Cm} (h : LayS ta cs) (l : cs.length ≤ 100) (σ : St) (H : Hp) (Q : VK) (k : tFxM i cs σ H Q) : tOp rCat (tVar i) (tLst ta) σ H Q := by
  obtain ⟨a, vs, bs, e, ha, pb, lb, k⟩ := k
  refine ⟨_, e, fx_imp h l σ H _ fun b H1 s1 nb ⟨ws, hb, pw⟩ => ⟨a, b, vs, ws, rfl, rfl, s1 _ _ ha, hb, by rw [paired_len pb, dat_len, paired_len pw, dat_len, sizeLine_eq]; omega, fun r hr => ?_⟩⟩
  have s2 := same_new (o := HO.lst (vs ++ ws)) hr
  refine k r _ (same_trans s1 s2) ⟨vs ++ ws, upd_same, ?_⟩
  rw [dat_map, List.map_append, ← dat_map, ← dat_map]
  exact paired_app (pr_le (Nat.le_refl _) (same_trans s1 s2) pb) (pr_le (Nat.le_refl _) s2 pw)
theorem fx1_lay : LayS (tCons (tTup (tCons (tC (.str "read")) (tCons (tDisp [(tC (.str "x"), tC (.int 0))]) tNil))) (tCons (tTup (tCons (tC (.str "move")) (tCons (tDisp [(tC (.str ""), tC (.int 1))]) tNil))) (tCons (tTup (tCons (tC (.str "suppose")) (tCons (tDisp [(tC (.str "y"), tC (.int 0)), (tC (.str ""), tC (.int 2))]) tNil))) (tCons (tTup (tCons (tC (.str "put")) (tCons (tDisp [(tC (.str ""), tC (.int 3))]) tNil))) tNil)))) fx1 :=
  layS_cons (lay_tup rfl fun σ H Q => disp1) (layS_cons (lay_tup rfl fun σ H Q => disp1) (layS_cons (lay_tup rfl fun σ H Q => disp2 (by decide +kernel)) (layS_cons (lay_tup rfl fun σ H Q => disp1) layS_nil)))
theorem lay_num : LayC (tTup (tCons (tC (.str "number")) (tCons (tOp (rI CPow fun i j => .int (i ^ j.toNat)) (tC (.int 10)) (tC (.int 29))) tNil))) (.ltr true (some (10 ^ 29))) := by
  intro σ H Q q
  refine ⟨10, 29, rfl, rfl, ?_, two_fit, fun t ht => ?_⟩
  · unfold CPow
    decide +kernel
  · refine q _ _ (same_new ht) ?_
    rw [datC]
    exact Sho.tup upd_same (.cons (Sho.str _) (.cons (Sho.int _) .nil))
theorem lay_emp : LayC (tTup (tCons (tC (.str "read")) (tCons tDNewK tNil))) (.sum 0 (some [])) := lay_tup rfl fun σ H Q q => fun d hd => q d _ (same_new hd) hd upd_same
theorem lay_try : LayC (tTup (tCons (tC (.str "try")) (tCons (tLst tNil) tNil))) (.tr []) := by
  intro σ H Q q
  refine ⟨Nat.zero_le _, fun l hl => ⟨two_fit, fun t ht => ?_⟩⟩
  have s1 := same_new (o := HO.lst []) hl
  have e1 : upd H l (HO.lst []) l = some (.lst []) := upd_same
  generalize upd H l (HO.lst []) = H1 at s1 e1 ht ⊢
  have s2 := same_new (o := HO.tup [V.str "try", V.ref l]) ht
  refine q _ _ (same_trans s1 s2) ?_
  rw [datC, datS]
  exact Sho.tup upd_same (.cons (Sho.str _) (.cons (Sho.lst (s2 _ _ e1) .nil) .nil))
theorem fx2a_lay : LayS (tCons (tTup (tCons (tC (.str "number")) (tCons (tOp (rI CPow fun i j => .int (i ^ j.toNat)) (tC (.int 10)) (tC (.int 29))) tNil))) (tCons (tTup (tCons (tC (.str "read")) (tCons tDNewK tNil))) (tCons (tTup (tCons (tC (.str "put")) (tCons (tDisp [(tC (.str "y"), tC (.int 0)), (tC (.str "x"), tC (.int 10))]) tNil))) tNil))) fx2a :=
  layS_cons lay_num (layS_cons lay_emp (layS_cons (lay_tup rfl fun σ H Q => disp2 (by decide +kernel)) layS_nil))
theorem fx2b_lay : LayS (tCons (tTup (tCons (tC (.str "read")) (tCons (tDisp [(tC (.str ""), tC (.int 3)), (tC (.str "@10.2"), tC (.int 1))]) tNil))) (tCons (tTup (tCons (tC (.str "try")) (tCons (tLst tNil) tNil))) tNil)) fx2b :=
  layS_cons (lay_tup rfl fun σ H Q => disp2 (by decide +kernel)) (layS_cons lay_try layS_nil)
end Vb
end L2

set_option Elab.async false
set_option linter.all false
set_option maxRecDepth 100000
set_option maxHeartbeats 4000000
/-! Vb, from Eo, part 4: promises that hold where no repr is under way (a def that asks for repr wants to know it). -/
namespace L2
namespace Vb
open PySem PySem.Spec PyProof.Rows
/-- a def's promise, kept where no repr is under way and no exception leaves -/
structure FnG (P : Program) (w : World) (K : PySem.W.Frag) (mg : Str → Option Value) (base : Heap) (k : Nat) (f : Addr) (fd : FuncData) (ps : List Str) (sp : Sp) : Prop where
  len : ∀ vs H Q, sp vs H Q E0 → vs.length = ps.length
  run : ∀ (A : Around) (below : List Env) (s : Shared) (H : Hp) (args : Args) (us : List Value) (vs : List V) (Q : VK), A.guards = some [] → Room k A → Env0 P w K mg base A below s H → BindsTo s fd args (ps.zip us) → Vals vs us → sp vs H Q E0 →
    codeAny (model P w) A (.call (.ref f) args) (CR CX0 below P w H s Q E0) s
section
variable {P : Program} {w : World} {K : PySem.W.Frag} {mg : Str → Option Value} {base : Heap} {k : Nat} {f : Addr} {fd : FuncData} {sp : Sp}
theorem guards_deeper {A : Around} {env : Env} (g : A.guards = some []) : (A.deeper env).guards = some [] := g
/-- a def of the text, by its body -/
theorem fnG_of {x qual : Str} {st : Stmt} {names ps : List Str} (F : Fun K x qual st f fd) (S : FnScope names ps (defScope st)) (len : ∀ vs H Q, sp vs H Q E0 → vs.length = ps.length)
    (body : ∀ (cdv : Value) (A : Around) (below : List Env) (s : Shared) (H : Hp) (vs : List V) (Q : VK), (A.deeper (envOfC qual (defScope st) s.heap.objs.size f cdv)).guards = some [] → Room k (A.deeper (envOfC qual (defScope st) s.heap.objs.size f cdv)) → sp vs H Q E0 →
      ∃ t, PSs (cxOf CX0 P w K mg base names qual (defScope st) f cdv A below s H E0).nox (defBody st) t ∧ t { nx := fun _ H' => Q .non H', rt := Q } (start names vs) H) : FnG P w K mg base (k + 1) f fd ps sp := by
  obtain ⟨oc, od, kV, doc, pm, an, cdv, ct, osl, rfl, lk, hcd⟩ := F.ex
  constructor
  · exact len
  · intro A below s H args us vs Q hgd hroom e0 hbinds rel want
    have n2 := len _ _ _ want
    have KX : K.In s.heap := e0.mod.kin.keeps fun b o e => (e0.bs b o e).1
    have lim : s.heap.NoLimit := e0.mod.nolimit.keeps fun b o e => (e0.bs b o e).1
    have kinds : ∀ y ∈ ps.zip us, (defScope st).names.lookup y.1 = some .local ∨ ((defScope st).names.lookup y.1 = some .cell ∧ ((cellsFrom (s.heap.objs.size + 1) (defScope st).names []).lookup y.1).isSome = true) := by
      rintro ⟨y, u⟩ hy
      have z := S.par y (List.of_mem_zip hy).1
      exact z.elim .inl fun q => .inr ⟨q, PySem.W.cellsFrom_some _ _ _ (.inl q)⟩
    refine codeAny_call_function hroom.depth (KX _ _ lk) rfl S.co S.gen rfl (PySem.W.codeRec_of KX hcd) (hbinds _ _ _ _ ?_)
    refine wpAny_newFunctionEnv_cells S.kind kinds fun env he s1 inc => ?_
    subst he
    refine ⟨lim.keeps inc.toInCall.keep, codeAny_func ?_⟩
    obtain ⟨t, ht, hq⟩ := body cdv A below s H vs Q (guards_deeper hgd) (hroom.deeper _) want
    have I0 : Inv (cxOf CX0 P w K mg base names qual (defScope st) f cdv A below s H E0) [] (start names vs) H s1 := inv_start S hroom.hd e0 n2 rel inc
    refine wpAny_mono (ht.nox.run [] s1 (start names vs) H _ I0 hq) (fun fl s' out => ?_) fun e s' out => out
    cases fl with
    | ret u =>
      obtain ⟨v, σ2, H2, J, rv, q⟩ := out
      exact ⟨v, H2, J.os, J.bare, J.base, J.hok, rv, q⟩
    | next =>
      obtain ⟨σ2, H2, J, q⟩ := out
      exact ⟨V.non, H2, J.os, J.bare, J.base, J.hok, rfl, q⟩
    | brk => exact out.elim fun _ z => z.elim fun _ z => z.2.elim
    | cont => exact out.elim fun _ z => z.elim fun _ z => z.2.elim
end
section
variable {X : Cx} {k : Nat} {f : Addr} {fd : FuncData} {ps : List Str} {sp : Sp} {x : Str} {p pos : Pos} {e : Expr} {es : List Expr} {t : TA}
/-- f(e, ..) of such a def -/
theorem pe_callG (F : FnG X.prog X.w X.K X.mg X.base k f fd ps sp) (hgd : X.A.guards = some []) (hr : Room k X.A) (hg : Gl X x) (hm : X.mg x = some (.ref f)) (hk : PySem.W.keepIn X.K (.ref f) = true) (hb : Binds X.K fd ps [])
    (ha : PA X (e :: es) t) (hdb : (x == ("__debug__" : Str)) = false := by decide) (hs : starEach (e :: es) X.env = (false, eval e X.env) :: starEach es X.env := by rfl) (hpl : (backTo pos (starEach es X.env)).any (·.1) = false := by rfl) :
    PE X (.Call (.Name x p) (e :: es) [] pos) (tCall sp [] E0 t) := by
  refine ⟨fun pins s σ H Q I h => ?_⟩
  refine wpAny_Call_Name_kw (ld_glob I hg hm ?_ hdb)
  refine PySem.W.callWith_K (h₀ := X.base) I.ok.mod.kin hk (thn (ha.run pos pins s σ H _ I h) fun us s1 ⟨vs, H1, I1, r, q⟩ => ⟨I1.kIn, ?_⟩) hs hpl
  have q1 : sp vs H1 Q E0 := by
    have z : sp (vs ++ []) H1 Q E0 := q
    rw [List.append_nil] at z
    exact z
  have n1 : (us ++ []).length = ps.length := by rw [List.append_nil, ← r.length, F.len _ _ _ q1]
  have b1 := hb s1 us I1.kIn n1
  rw [List.append_nil] at b1
  refine wpAny_call (codeAny_mono (F.run X.A X.stack s1 H1 ⟨us, []⟩ us vs Q hgd hr I1.env0 b1 r q1) fun r s' z => ?_)
  cases r with
  | error er => exact False.elim z
  | ok fl =>
    cases fl with
    | ret u => exact I1.after z
    | next => exact z.elim
    | brk => exact z.elim
    | cont => exact z.elim
end
/-- the law's call behind the top, by such a promise -/
theorem topG {P : Program} {w : World} {K : PySem.W.Frag} {mg mb : Str → Option Value} {k : Nat} {fa a : Addr} {fd : FuncData} {x : Str} {sp : Sp} {s1 : Shared} {vs : List Value} {ns : List Int}
    (KX : K.In s1.heap) (gm : s1.heap.Ns mainGlobals mg) (gb : s1.heap.Ns builtinsNs mb) (bb : ∀ x : Str, x ≠ "__name__" → mb x = bootBuiltins x) (lim : s1.heap.NoLimit) (gn : s1.gens = #[])
    (ha : s1.heap.get? a = some { cls := .type "list", data := .seq vs.toArray }) (hi : IntsAre vs ns) (hl : ns.length ≤ sizeLine) (hr : Room k callerA)
    (F : ∀ base : Heap, K.In base → base.Ns mainGlobals mg → FnG P w K mg base k fa fd [x] sp) (bind : ∀ (s : Shared) (u : Value), BindsTo s fd ⟨[u], []⟩ [(x, u)])
    (want : ∀ H : Hp, SqL K H a (ns.map V.int) → sp [.ref a] H (fun v _ => v = .bl true) E0) :
    codeAny (model P w) callerA (.call (.ref fa) ⟨[.ref a], []⟩) (fun r s' => r = .ok (.ret (.bool true)) ∧ OldK s1.heap s'.heap ∧ s'.os = s1.os ∧ AllBare s'.gens) s1 := by
  have rints := vals_ints hi
  have nv := hi.length
  obtain ⟨H, hS, hH, hM⟩ : ∃ H : Hp, SqL K H a (ns.map V.int) ∧ (∀ b u, H b = some u → b = a ∧ K.lookup a = none ∧ u = .frz { cls := .type "list", data := .seq vs.toArray } (.lst (ns.map V.int))) ∧ True := by
    cases hk : K.lookup a with
    | some o =>
      have e := (KX a o hk).symm.trans ha
      cases e
      exact ⟨fun _ => none, .inr ⟨_, vs.toArray, _, hk, rfl, rfl, rfl, by rw [List.size_toArray, nv]; exact hl, by simpa using rints⟩, fun b u z => (nomatch z), trivial⟩
    | none =>
      refine ⟨fun b => if b = a then some (.frz { cls := .type "list", data := .seq vs.toArray } (.lst (ns.map V.int))) else none, .inl (.inr ⟨_, if_pos rfl⟩), fun b u z => ?_, trivial⟩
      by_cases q : b = a
      · have z2 : (if b = a then some (HO.frz { cls := .type "list", data := .seq vs.toArray } (.lst (ns.map V.int))) else none) = some u := z
        rw [if_pos q] at z2
        exact ⟨q, rfl, (Option.some.inj z2).symm⟩
      · have z2 : (if b = a then some (HO.frz { cls := .type "list", data := .seq vs.toArray } (.lst (ns.map V.int))) else none) = some u := z
        rw [if_neg q] at z2
        cases z2
  have ok0 : HOk P w H s1.heap := fun b u z => by
    obtain ⟨rfl, _, rfl⟩ := hH b u z
    exact ⟨ha, by rw [List.length_map]; exact hl, vs, _, rints, ha⟩
  have hidden : ∀ {b : Addr} {o : Obj}, s1.heap.get? b = some o → H b = none → (hidT s1.heap H).get? b = some o := fun e n => hidT_get e n
  have dictFree : ∀ {b : Addr} {o : Obj} {es : Array DictEntry} {ep : Nat}, s1.heap.get? b = some o → o.data = .dict es ep → H b = none := fun {b o es ep} e d => by
    cases q : H b with
    | none => rfl
    | some u =>
      obtain ⟨rfl, _⟩ := hH b u q
      have z := ha.symm.trans e
      cases z
      cases d
  have nsk : ∀ {b : Addr} {m : Str → Option Value}, s1.heap.Ns b m → (hidT s1.heap H).Ns b m := fun {b m} ⟨o, es, ep, e, d, r⟩ => ⟨o, es, ep, hidden e (dictFree e d), d, r⟩
  have KB : K.In (hidT s1.heap H) := fun b o e => hidden (KX b o e) (by
    cases q : H b with
    | none => rfl
    | some u =>
      obtain ⟨rfl, z, _⟩ := hH b u q
      rw [z] at e
      cases e)
  obtain ⟨mc, l1, l2⟩ := lim
  have M0 : Mod K mg (hidT s1.heap H) := ⟨KB, nsk gm, ⟨mb, nsk gb, bb⟩, ⟨mc, nsk l1, l2⟩⟩
  have env0 : Env0 P w K mg (hidT s1.heap H) callerA [] s1 H := ⟨rfl, M0, fun b o e => of_hidT e, Nat.le_of_eq (hidT_size _ _), trivial, fun b z => (List.not_mem_nil z).elim, ok0, .of_eq gn⟩
  refine codeAny_mono ((F _ KB (nsk gm)).run callerA [] s1 H ⟨[.ref a], []⟩ [.ref a] [.ref a] _ rfl hr env0 (bind s1 (.ref a)) (.cons rfl .nil) (want H hS)) fun r s' out => ?_
  cases r with
  | error er => exact False.elim out
  | ok fl =>
    cases fl with
    | next => exact out.elim
    | brk => exact out.elim
    | cont => exact out.elim
    | ret u =>
      obtain ⟨v, H2, os2, bare, un, ok2, rv, q⟩ := out
      have q2 : v = .bl true := q
      subst q2
      obtain rfl : u = Value.bool true := rv
      refine ⟨rfl, OldK.of_keep fun b o e => ?_, os2, bare⟩
      cases q : H b with
      | none => exact un.keep b o e q (fun z => (List.not_mem_nil z).elim) (fun z => (List.not_mem_nil z).elim)
      | some u =>
        obtain ⟨rfl, _, rfl⟩ := hH b u q
        have z2 := un.frzs b _ _ q
        have e2 := (ok2 b _ z2).1
        have z3 := ha.symm.trans e
        cases z3
        exact e2
end Vb
end L2

set_option Elab.async false
set_option linter.all false
set_option maxRecDepth 100000
set_option maxHeartbeats 16000000
/-! Vb, k88: the law. -/
namespace L2
namespace Vb
open PySem PySem.Spec PyProof.Rows
theorem op_mulT {X : Cx} : OpR X (binaryOp .Mult) (fun x y H Q => ∃ z n, x = .str z ∧ y = .int n ∧ PySem.MulOk z n ∧ Q (.str (Txt.mul z n)) H) := by
  intro pins s σ H x y v u Q I rx ry h
  obtain ⟨z, n, rfl, rfl, ok, q⟩ := h
  obtain ⟨t, rfl⟩ := rx
  obtain ⟨t2, rfl⟩ := ry
  exact PySem.SB.mul ok fun t' k => ⟨.str _, H, I.tok k, ⟨_, rfl⟩, q⟩
def spLaw (K : PySem.W.Frag) : Sp := fun vs H Q _ => ∃ (sc : Addr) (ns : List Int), vs = [.ref sc] ∧ SqL K H sc (ns.map V.int) ∧ ns.length ≤ 63 ∧ ∀ H', Q (.bl true) H'
theorem nodup_at {l : List Addr} (h : l.Nodup) {i j : Nat} {a : Addr} (hi : l[i]? = some a) (hj : l[j]? = some a) : i = j := by
  have h2 : l.Pairwise (· ≠ ·) := h
  have pw := List.pairwise_iff_getElem.mp h2
  obtain ⟨l1, e1⟩ := List.getElem?_eq_some_iff.mp hi
  obtain ⟨l2, e2⟩ := List.getElem?_eq_some_iff.mp hj
  rcases Nat.lt_trichotomy i j with q | q | q
  · exact absurd (e1.trans e2.symm) (pw i j l1 l2 q)
  · exact q
  · exact absurd (e2.trans e1.symm) (pw j i l2 l1 q)
theorem sql_up {K : PySem.W.Frag} {H H' : Hp} {a : Addr} {xs : List V} (h : SqL K H a xs) (s : Same H H') : SqL K H' a xs := by
  rcases h with h | h
  · rcases h with h | ⟨o, h⟩
    · exact .inl (.inl (s _ _ h))
    · exact .inl (.inr ⟨o, s _ _ h⟩)
  · exact .inr h
/-- a command read from a text, as far as it is changed: what is changed was made since H0, and is not p -/
def CmM (H0 : Hp) (p : Addr) (n : Nat) (H : Hp) (v : V) : Prop := ∃ (t : Addr) (w : Str) (xs : List V), v = .ref t ∧ H t = some (.tup (.str w :: xs)) ∧
  (w = "try" → ∃ b ys, xs[0]? = some (.ref b) ∧ H0 b = none ∧ b ≠ p ∧ H b = some (.lst ys) ∧ ys.length ≤ n) ∧
  (WITH_SUMS_S.contains w = true → ∃ b kvs, xs[0]? = some (.ref b) ∧ H0 b = none ∧ b ≠ p ∧ H b = some (.dK kvs) ∧ kvs.length ≤ n)
theorem cmM_of {m : Nat} {H0 H : Hp} {p : Addr} {v : V} {c : Cm} (h : Sho m (pt H0 [p] H) v (datC c)) (g : cmB c = true) (li : liC c) : CmM H0 p 1000 H v := by
  obtain ⟨k, t, vs, rfl, ht, q⟩ := sho_cm h
  obtain ⟨_, _, ht⟩ := pt_le ht
  refine ⟨t, _, vs, rfl, ht, fun e => ?_, fun e => ?_⟩
  · cases c with
    | tr cs =>
      obtain ⟨x, rfl, hx⟩ := pair_one q
      obtain ⟨_, b, ys, _, rfl, hb, pb⟩ := hx.ofList
      obtain ⟨b1, b2, b3⟩ := pt_le hb
      rw [liC] at li
      exact ⟨b, ys, rfl, b1, fun z => b2 (by rw [z]; exact List.mem_cons_self), b3, by rw [paired_len pb, dat_len]; exact li.2⟩
    | bare w =>
      rw [cmB] at g
      exact ((bare_not w (List.contains_iff_mem.mp g)).1 e).elim
    | ltr r n => exact (let_try r e).elim
    | sum r W => exact (sum_try r e).elim
    | exch n mk => exact (exch_not.1 e).elim
  · cases c with
    | tr cs => exact absurd (show WITH_SUMS_S.contains ("try" : Str) = true from e) (by decide +kernel)
    | bare w =>
      rw [cmB] at g
      exact absurd ((bare_not w (List.contains_iff_mem.mp g)).2.2.1.symm.trans e) (by decide)
    | ltr r n =>
      have z : ∀ r : Bool, ¬ WITH_SUMS_S.contains (letW r) = true := by decide +kernel
      exact (z r e).elim
    | sum r W =>
      obtain ⟨x, rfl, hx⟩ := pair_one q
      cases W with
      | none =>
        rw [cmB] at g
        cases g
      | some U =>
        obtain ⟨d, rfl, hd⟩ := sumAt_of (o := some U) hx
        obtain ⟨b1, b2, b3⟩ := pt_le hd
        rw [liC] at li
        have l := (li U rfl).2.1
        exact ⟨d, kvsZ U, rfl, b1, fun z => b2 (by rw [z]; exact List.mem_cons_self), b3, by rw [kvs_len]; omega⟩
    | exch n mk => exact absurd (exch_not.2.2.symm.trans e) (by decide)
theorem CmM.le {H0 H : Hp} {p : Addr} {n m : Nat} {v : V} (h : CmM H0 p n H v) (l : n ≤ m) : CmM H0 p m H v := by
  obtain ⟨t, w, xs, e, ht, a, b⟩ := h
  refine ⟨t, w, xs, e, ht, fun z => ?_, fun z => ?_⟩
  · obtain ⟨b, ys, h1, h2, h3, h4, h5⟩ := a z
    exact ⟨b, ys, h1, h2, h3, h4, by omega⟩
  · obtain ⟨b, ys, h1, h2, h3, h4, h5⟩ := b z
    exact ⟨b, ys, h1, h2, h3, h4, by omega⟩
/-- a new object beside -/
theorem CmM.up {H0 H H' : Hp} {p : Addr} {n : Nat} {v : V} (h : CmM H0 p n H v) (s : Same H H') : CmM H0 p n H' v := by
  obtain ⟨t, w, xs, e, ht, a, b⟩ := h
  refine ⟨t, w, xs, e, s _ _ ht, fun z => ?_, fun z => ?_⟩
  · obtain ⟨b, ys, h1, h2, h3, h4, h5⟩ := a z
    exact ⟨b, ys, h1, h2, h3, s _ _ h4, h5⟩
  · obtain ⟨b, ys, h1, h2, h3, h4, h5⟩ := b z
    exact ⟨b, ys, h1, h2, h3, s _ _ h4, h5⟩
/-- a list made longer -/
theorem CmM.lst {H0 H : Hp} {p : Addr} {n : Nat} {v : V} (h : CmM H0 p n H v) {c : Addr} {zs : List V} (hc : H c = some (.lst zs)) (u : V) (l : zs.length ≤ n) : CmM H0 p (n + 1) (upd H c (.lst (zs ++ [u]))) v := by
  obtain ⟨t, w, xs, e, ht, a, b⟩ := h
  have ntc : t ≠ c := fun z => by
    rw [z, hc] at ht
    cases ht
  refine ⟨t, w, xs, e, by rw [upd_ne ntc]; exact ht, fun z => ?_, fun z => ?_⟩
  · obtain ⟨b, ys, h1, h2, h3, h4, h5⟩ := a z
    by_cases q : b = c
    · subst q
      exact ⟨b, _, h1, h2, h3, upd_same, by rw [List.length_append]; show zs.length + 1 ≤ _; omega⟩
    · exact ⟨b, ys, h1, h2, h3, by rw [upd_ne q]; exact h4, by omega⟩
  · obtain ⟨b, ys, h1, h2, h3, h4, h5⟩ := b z
    have q : b ≠ c := fun q => by
      rw [q, hc] at h4
      cases h4
    exact ⟨b, ys, h1, h2, h3, by rw [upd_ne q]; exact h4, by omega⟩
/-- a dict made longer -/
theorem CmM.dct {H0 H : Hp} {p : Addr} {n : Nat} {v : V} (h : CmM H0 p n H v) {c : Addr} {zs zs' : List (Key × V)} (hc : H c = some (.dK zs)) (l : zs'.length ≤ n + 1) : CmM H0 p (n + 1) (upd H c (.dK zs')) v := by
  obtain ⟨t, w, xs, e, ht, a, b⟩ := h
  have ntc : t ≠ c := fun z => by
    rw [z, hc] at ht
    cases ht
  refine ⟨t, w, xs, e, by rw [upd_ne ntc]; exact ht, fun z => ?_, fun z => ?_⟩
  · obtain ⟨b, ys, h1, h2, h3, h4, h5⟩ := a z
    have q : b ≠ c := fun q => by
      rw [q, hc] at h4
      cases h4
    exact ⟨b, ys, h1, h2, h3, by rw [upd_ne q]; exact h4, by omega⟩
  · obtain ⟨b, ys, h1, h2, h3, h4, h5⟩ := b z
    by_cases q : b = c
    · subst q
      exact ⟨b, _, h1, h2, h3, upd_same, l⟩
    · exact ⟨b, ys, h1, h2, h3, by rw [upd_ne q]; exact h4, by omega⟩
theorem marks_laid {σ : St} {H : Hp} {Q : VK} {a : Addr} {n : Nat} (hp : Pur H a n) (q : ∀ k H', Same H H' → H k = none → MksAt [a] H' k → Q (.ref k) H') :
    tLst (tCons (tTup (tCons (tC (.str "m")) (tCons (tTup tNil) tNil))) (tCons (tTup (tCons (tC (.str "again")) (tCons (tTup (tCons (tC (.str "in")) (tCons (tC (.str "c")) tNil))) tNil))) (tCons (tTup (tCons (tC (.str "mbc")) (tCons (tTup (tCons (tC (.str "do")) tNil)) tNil))) tNil))) σ H Q := by
  refine ⟨Nat.zero_le _, fun e1 h1 => ?_⟩
  have x1 : e1 ≠ a := fun e => (hp.ne h1) e.symm
  have s1 := same_new (o := HO.tup []) h1
  have y1 : upd H e1 (HO.tup []) e1 = some (.tup (List.map V.str [])) := upd_same
  generalize upd H e1 (HO.tup []) = H1 at s1 y1 ⊢
  refine ⟨two_fit, fun t1 g1 => ?_⟩
  have z1 : t1 ≠ a := fun e => ((hp.same s1).ne g1) e.symm
  have r1 := same_new (o := HO.tup [V.str "m", V.ref e1]) g1
  have w1 : upd H1 t1 (HO.tup [V.str "m", V.ref e1]) t1 = some (.tup [V.str "m", V.ref e1]) := upd_same
  generalize upd H1 t1 (HO.tup [V.str "m", V.ref e1]) = J1 at r1 w1 ⊢
  have S1 := same_trans s1 r1
  refine ⟨two_fit, fun e2 h2 => ?_⟩
  have x2 : e2 ≠ a := fun e => ((hp.same S1).ne h2) e.symm
  have s2 := same_new (o := HO.tup [V.str "in", V.str "c"]) h2
  have y2 : upd J1 e2 (HO.tup [V.str "in", V.str "c"]) e2 = some (.tup (List.map V.str ["in", "c"])) := upd_same
  generalize upd J1 e2 (HO.tup [V.str "in", V.str "c"]) = H2 at s2 y2 ⊢
  refine ⟨two_fit, fun t2 g2 => ?_⟩
  have z2 : t2 ≠ a := fun e => ((hp.same (same_trans S1 s2)).ne g2) e.symm
  have r2 := same_new (o := HO.tup [V.str "again", V.ref e2]) g2
  have w2 : upd H2 t2 (HO.tup [V.str "again", V.ref e2]) t2 = some (.tup [V.str "again", V.ref e2]) := upd_same
  generalize upd H2 t2 (HO.tup [V.str "again", V.ref e2]) = J2 at r2 w2 ⊢
  have T2 := same_trans s2 r2
  have S2 := same_trans S1 T2
  refine ⟨one_fit, fun e3 h3 => ?_⟩
  have x3 : e3 ≠ a := fun e => ((hp.same S2).ne h3) e.symm
  have s3 := same_new (o := HO.tup [V.str "do"]) h3
  have y3 : upd J2 e3 (HO.tup [V.str "do"]) e3 = some (.tup (List.map V.str ["do"])) := upd_same
  generalize upd J2 e3 (HO.tup [V.str "do"]) = H3 at s3 y3 ⊢
  refine ⟨two_fit, fun t3 g3 => ?_⟩
  have z3 : t3 ≠ a := fun e => ((hp.same (same_trans S2 s3)).ne g3) e.symm
  have r3 := same_new (o := HO.tup [V.str "mbc", V.ref e3]) g3
  have w3 : upd H3 t3 (HO.tup [V.str "mbc", V.ref e3]) t3 = some (.tup [V.str "mbc", V.ref e3]) := upd_same
  generalize upd H3 t3 (HO.tup [V.str "mbc", V.ref e3]) = J3 at r3 w3 ⊢
  have T3 := same_trans s3 r3
  have S3 := same_trans S2 T3
  refine ⟨three_fit, fun k hk => ?_⟩
  have sk := same_new (o := HO.lst [V.ref t1, V.ref t2, V.ref t3]) hk
  refine q k _ (same_trans S3 sk) (S3.free hk) ⟨_, upd_same, rfl, fun v m => ?_⟩
  have one : ∀ {x : Addr}, x ≠ a → x ∉ [a] := fun h m => h (List.mem_singleton.mp m)
  simp only [List.mem_cons, List.mem_nil_iff, or_false] at m
  rcases m with rfl | rfl | rfl
  · exact ⟨("m", []), by simp [MARKS], t1, e1, rfl, (mskL_ne (one z1)).trans (sk _ _ (T3 _ _ (T2 _ _ w1))), (mskL_ne (one x1)).trans (sk _ _ (T3 _ _ (T2 _ _ (r1 _ _ y1))))⟩
  · exact ⟨("again", ["in", "c"]), by simp [MARKS], t2, e2, rfl, (mskL_ne (one z2)).trans (sk _ _ (T3 _ _ w2)), (mskL_ne (one x2)).trans (sk _ _ (T3 _ _ (r2 _ _ y2)))⟩
  · exact ⟨("mbc", ["do"]), by simp [MARKS], t3, e3, rfl, (mskL_ne (one z3)).trans (sk _ _ w3), (mskL_ne (one x3)).trans (sk _ _ (r3 _ _ y3))⟩
def tMarks : TE := fun _ H Q => ∃ a n, Pur H a n ∧ ∀ k H', Same H H' → H k = none → MksAt [a] H' k → Q (.ref k) H'
theorem marks_imp (σ : St) (H : Hp) (Q : VK) (h : tMarks σ H Q) : tLst (tCons (tTup (tCons (tC (.str "m")) (tCons (tTup tNil) tNil))) (tCons (tTup (tCons (tC (.str "again")) (tCons (tTup (tCons (tC (.str "in")) (tCons (tC (.str "c")) tNil))) tNil))) (tCons (tTup (tCons (tC (.str "mbc")) (tCons (tTup (tCons (tC (.str "do")) tNil)) tNil))) tNil))) σ H Q := by
  obtain ⟨a, n, hp, q⟩ := h
  exact marks_laid hp q
theorem in_sums {K : PySem.W.Frag} {H : Hp} {w : Str} {R : VK} (k : ∀ (r : Addr) (H3 : Hp), Same H H3 → R (.bl (WITH_SUMS_S.contains w)) H3) : 4 ≤ sizeLine ∧ ∀ r, H r = none → rIn K false (V.str w) (.ref r) (upd H r (.tup [V.str "read", V.str "move", V.str "suppose", V.str "put"])) R :=
  ⟨by rw [sizeLine_eq]; decide, fun r hr => ⟨r, WITH_SUMS_S.map V.str, rfl, .inr (SqT.of upd_same), rfl, flat_strs _, by
    show R (.bl (inV (V.str w) (WITH_SUMS_S.map V.str))) _
    rw [inV_str]
    exact k r _ (same_new hr)⟩⟩
theorem head_of {zs : List V} {b : Addr} (h : zs[0]? = some (.ref b)) : ∃ ys, zs = .ref b :: ys := by
  cases zs with
  | nil => cases h
  | cons z r => exact ⟨r, by rw [Option.some.inj h]⟩
theorem try_no : WITH_SUMS_S.contains ("try" : Str) = false := by decide +kernel
theorem fm_none {α : Type} (xs : List α) : (xs.map fun _ => (none : Option V)).filterMap id = [] := by
  induction xs with
  | nil => rfl
  | cons x xs ih => exact ih
theorem fx_ok {cs : List Cm} (gd : gdS cs) (d : dpS cs ≤ 4) (l : nlS cs ≤ 25) : ScOk cs 60 ∧ scB cs = true ∧ TxOk (txD cs) ∧ rdS (txD cs) = some (nmS cs) := by
  have lk := ln_k gd d l
  exact ⟨⟨gd_liS gd (by omega), by omega, by omega, by have := len_nl cs; omega⟩, (gd_sc gd).1, tx_lines lk.all (by have := lk.2; omega), rd_back gd⟩
theorem mul_ok : PySem.MulOk "0" 29 := by
  unfold PySem.MulOk
  decide +kernel
abbrev sLaw : Stmt := topS 59
abbrev nLaw : List Str := ["_law_script_here", "_law_purse_here", "_law_prime", "_law_names", "_law_marks", "_law_commands", "_law_lines", "_law_noted", "_law_text", "_law_told", "_law_command_here", "_law_fixed", "_law_due", "_law_bent", "_law_odd"]
theorem scLaw : FnScope nLaw ["_law_script_here"] (defScope sLaw) := ⟨rfl, rfl, rfl, by decide +kernel, rfl, by decide +kernel, by decide +kernel⟩
-- cells set()
section
variable {P : Program} {w : World} {K : PySem.W.Frag} {mg : Str → Option Value} {base : Heap}
theorem ok_law {C f fLpurses fLdrawn_prime fLscript fLscript_lines fread_script fscript_text fLis_bent fLspoilt fLrefused fLodd_texts : Addr} {fd fdLpurses fdLdrawn_prime fdLscript fdLscript_lines fdread_script fdscript_text fdLis_bent fdLspoilt fdLrefused fdLodd_texts : FuncData} (F : Fun K "law" "law" sLaw f fd)
    (FLpurses : Fun K "_law_purses" "_law_purses" sPurses fLpurses fdLpurses) (GLpurses : FnOk P w K mg base CX0 2 fLpurses fdLpurses ["_law_script_here", "_law_few"] (spPurses K)) (gLpurses : mg "_law_purses" = some (.ref fLpurses))
    (FLdrawn_prime : Fun K "_law_drawn_prime" "_law_drawn_prime" sDp fLdrawn_prime fdLdrawn_prime) (GLdrawn_prime : FnOk P w K mg base CX0 4 fLdrawn_prime fdLdrawn_prime ["_law_purse_here"] spDp) (gLdrawn_prime : mg "_law_drawn_prime" = some (.ref fLdrawn_prime))
    (FLscript : Fun K "_law_script" "_law_script" sScr fLscript fdLscript) (GLscript : FnOk P w K mg base CX0 12 fLscript fdLscript ["_law_purse_here", "_law_prime", "_law_names", "_law_marks", "_law_most"] spScr) (gLscript : mg "_law_script" = some (.ref fLscript))
    (FLscript_lines : Fun K "_law_script_lines" "_law_script_lines" sLsl fLscript_lines fdLscript_lines) (GLscript_lines : FnOk P w K mg base CX0 9 fLscript_lines fdLscript_lines ["_law_script_here"] (spLsl 4)) (gLscript_lines : mg "_law_script_lines" = some (.ref fLscript_lines))
    (Fread_script : Fun K "read_script" "read_script" sRead fread_script fdread_script) (Gread_script : FnOk P w K mg base (L2.CX P w) 128 fread_script fdread_script ["text"] (spRead C)) (gread_script : mg "read_script" = some (.ref fread_script))
    (Fscript_text : Fun K "script_text" "script_text" sTx fscript_text fdscript_text) (Gscript_text : FnOk P w K mg base CX0 128 fscript_text fdscript_text ["script"] spTx) (gscript_text : mg "script_text" = some (.ref fscript_text))
    (FLis_bent : Fun K "_law_is_bent" "_law_is_bent" sBent fLis_bent fdLis_bent) (GLis_bent : FnOk P w K mg base CX0 131 fLis_bent fdLis_bent ["_law_text"] spBent) (gLis_bent : mg "_law_is_bent" = some (.ref fLis_bent))
    (FLspoilt : Fun K "_law_spoilt" "_law_spoilt" sSpo fLspoilt fdLspoilt) (GLspoilt : FnOk P w K mg base CX0 4 fLspoilt fdLspoilt ["_law_purse_here", "_law_text", "_law_lines"] spSpo) (gLspoilt : mg "_law_spoilt" = some (.ref fLspoilt))
    (FLrefused : Fun K "_law_refused" "_law_refused" sRef fLrefused fdLrefused) (GLrefused : FnOk P w K mg base CX0 129 fLrefused fdLrefused ["_law_text"] spRef) (gLrefused : mg "_law_refused" = some (.ref fLrefused))
    (FLodd_texts : Fun K "_law_odd_texts" "_law_odd_texts" sOdd fLodd_texts fdLodd_texts) (GLodd_texts : FnOk P w K mg base CX0 1 fLodd_texts fdLodd_texts ["_law_lines"] spOdd) (gLodd_texts : mg "_law_odd_texts" = some (.ref fLodd_texts)) (gRepr : mg "repr" = none) (sy : SysIn K) :
    FnG P w K mg base 132 f fd ["_law_script_here"] (spLaw K) := by
  have bLpurses : Binds K fdLpurses ["_law_script_here", "_law_few"] [] := FLpurses.binds fun _ _ _ _ _ _ us hl => match us, hl with | [_, _], _ => rfl
  have bLdrawn_prime : Binds K fdLdrawn_prime ["_law_purse_here"] [] := FLdrawn_prime.binds fun _ _ _ _ _ _ us hl => match us, hl with | [_], _ => rfl
  have bLscript : Binds K fdLscript ["_law_purse_here", "_law_prime", "_law_names", "_law_marks", "_law_most"] [] := FLscript.binds fun _ _ _ _ _ _ us hl => match us, hl with | [_, _, _, _, _], _ => rfl
  have bread_script : Binds K fdread_script ["text"] [] := Fread_script.binds fun _ _ _ _ _ _ us hl => match us, hl with | [_], _ => rfl
  have bscript_text : Binds K fdscript_text ["script"] [] := Fscript_text.binds fun _ _ _ _ _ _ us hl => match us, hl with | [_], _ => rfl
  have bLis_bent : Binds K fdLis_bent ["_law_text"] [] := FLis_bent.binds fun _ _ _ _ _ _ us hl => match us, hl with | [_], _ => rfl
  have bLspoilt : Binds K fdLspoilt ["_law_purse_here", "_law_text", "_law_lines"] [] := FLspoilt.binds fun _ _ _ _ _ _ us hl => match us, hl with | [_, _, _], _ => rfl
  have bLrefused : Binds K fdLrefused ["_law_text"] [] := FLrefused.binds fun _ _ _ _ _ _ us hl => match us, hl with | [_], _ => rfl
  have bLodd_texts : Binds K fdLodd_texts ["_law_lines"] [] := FLodd_texts.binds fun _ _ _ _ _ _ us hl => match us, hl with | [_], _ => rfl
  have bLscript_lines : Binds K fdLscript_lines ["_law_script_here"] [] := FLscript_lines.binds fun _ _ _ _ _ _ us hl => match us, hl with | [_], _ => rfl
  refine fnG_of F scLaw (fun vs H Q h => ?_) (fun cdv A below s0 H vs Q hgd hr h => ?_)
  · obtain ⟨sc, ns, rfl, _⟩ := h
    rfl
  · obtain ⟨sc, ns, rfl, hs, hl63, want⟩ := h
    refine ⟨_, (pss_cons (ps_for PassesOwn.never rfl (pi_list (pe_call GLpurses (hr.mono (by omega)) rfl gLpurses FLpurses.kp bLpurses .nil pass0 (pa_cons (pv 0) (pa_cons pe_int pa_nil)))) (pg_name (i := 1) scLaw.nd rfl (Or.inl rfl))
        (pss_cons (ps_par (i := 2) (j := 3) (by rfl) scLaw.nd rfl rfl (by decide) rfl rfl (pa_cons (pe_call GLdrawn_prime (hr.mono (by omega)) rfl gLdrawn_prime FLdrawn_prime.kp bLdrawn_prime .nil pass0 (pa_cons (pv 1) pa_nil)) (pa_cons (pe_lst (pa_cons pe_str (pa_cons pe_str (pa_cons pe_str (pa_cons pe_str (pa_cons pe_str pa_nil)))))) pa_nil)) (by rfl))
          (pss_cons (ps_set (i := 4) scLaw.nd rfl (Or.inl rfl) (pe_imp (te' := tMarks) (pe_lst (pa_cons (pe_tup (pa_cons pe_str (pa_cons (pe_tup pa_nil) pa_nil))) (pa_cons (pe_tup (pa_cons pe_str (pa_cons (pe_tup (pa_cons pe_str (pa_cons pe_str pa_nil))) pa_nil))) (pa_cons (pe_tup (pa_cons pe_str (pa_cons (pe_tup (pa_cons pe_str pa_nil)) pa_nil))) pa_nil)))) marks_imp))
          (pss_cons (ps_set (i := 5) scLaw.nd rfl (Or.inl rfl) (pe_call GLscript (hr.mono (by omega)) rfl gLscript FLscript.kp bLscript .nil pass0 (pa_cons (pv 1) (pa_cons (pv 2) (pa_cons (pv 3) (pa_cons (pv 4) (pa_cons pe_int pa_nil)))))))
          (pss_cons (ps_par (i := 6) (j := 7) (by rfl) scLaw.nd rfl rfl (by decide) rfl rfl (pa_cons (pe_call GLscript_lines (hr.mono (by omega)) rfl gLscript_lines FLscript_lines.kp bLscript_lines .nil pass0 (pa_cons (pv 5) pa_nil)) (pa_cons (pe_callB (call_repr hgd hr.units sy) (by rfl) gRepr boot_repr (pa_cons (pv 5) pa_nil)) pa_nil)) (by rfl))
          (pss_cons (ps_set (i := 8) scLaw.nd rfl (Or.inl rfl) (pe_join pe_str (pv 6)))
          (pss_cons (ps_if (PW.pt (pw_or (pt_cmpR op_ne (pe_call Gscript_text (hr.mono (by omega)) rfl gscript_text Fscript_text.kp bscript_text .nil pass0 (pa_cons (pv 5) pa_nil)) (pv 8) (nomark _)) (pw_or1 (pt_cmpR (op_neW hr.units) (pe_call Gread_script (hr.mono (by omega)) rfl gread_script Fread_script.kp bread_script .nil passF (pa_cons (pv 8) pa_nil)) (pv 5) (nomark _)))))
            (pss_one (ps_ret pe_bl))
            pss_nil)
          (pss_cons (ps_set (i := 9) scLaw.nd rfl (Or.inl rfl) (pe_call Gread_script (hr.mono (by omega)) rfl gread_script Fread_script.kp bread_script .nil passF (pa_cons (pv 8) pa_nil)))
          (pss_cons (ps_for PassesOwn.never rfl (pi_list (pv 9)) (pg_name (i := 10) scLaw.nd rfl (Or.inl rfl))
            (pss_cons (ps_if (pt_cmpR op_eq (pe_ix ix_tup (pv 10) pe_int (fun _ _ => rfl)) pe_str (nomark _))
                (pss_one (ps_expr (pe_bm PySem.F.plainAttrs_list PySem.F.slot_list_append PySem.F.type_list_append mt_append (pe_ix ix_tup (pv 10) pe_int (fun _ _ => rfl)) (pa_cons pe_str pa_nil))))
                pss_nil)
              (pss_one (ps_if (pt_cmpR op_in_seq (pe_ix ix_tup (pv 10) pe_int (fun _ _ => rfl)) (pe_tup (pa_cons pe_str (pa_cons pe_str (pa_cons pe_str (pa_cons pe_str pa_nil))))) (by rfl))
                (pss_one (ps_dput (huO hr) (pe_ix ix_tup (pv 10) pe_int (fun _ _ => rfl)) pe_str pe_int (by rfl)))
                pss_nil))))
          (pss_cons (ps_expr (pe_bm PySem.F.plainAttrs_list PySem.F.slot_list_append PySem.F.type_list_append mt_append (pv 9) (pa_cons pe_str pa_nil)))
          (pss_cons (ps_if (PW.pt (pw_or (pt_cmpR (op_neW hr.units) (pe_call Gread_script (hr.mono (by omega)) rfl gread_script Fread_script.kp bread_script .nil passF (pa_cons (pv 8) pa_nil)) (pv 5) (nomark _)) (pw_or1 (pt_cmpR op_ne (pe_callB (call_repr hgd hr.units sy) (by rfl) gRepr boot_repr (pa_cons (pv 5) pa_nil)) (pv 7) (nomark _)))))
            (pss_one (ps_ret pe_bl))
            pss_nil)
          (pss_cons (ps_if (pt_cmpR (op_neE (uE hr)) (pe_lc (own := [("_law_bent", 13)]) (g := (gName 13)) rfl scLaw.nd (pi_list (pe_call GLspoilt (hr.mono (by omega)) rfl gLspoilt FLspoilt.kp bLspoilt .nil pass0 (pa_cons (pv 1) (pa_cons (pv 8) (pa_cons (pv 6) pa_nil))))) (blkOk_by (N := nLaw) (sc := defScope sLaw) (by decide +kernel)) (fun _ _ _ _ _ => pg_name (i := 13) scLaw.nd rfl (Or.inl rfl)) (fun _ _ _ _ _ => (pts_one (pt_not (pt_val (pe_call GLis_bent (hr.mono (by omega)) rfl gLis_bent FLis_bent.kp bLis_bent .nil pass0 (pa_cons (pv 13) pa_nil)))))) (fun _ _ _ _ _ => (pv 13))) (pe_lst pa_nil) (nomark _))
            (pss_one (ps_ret pe_bl))
            pss_nil)
          (pss_one (ps_if (pt_cmpR (op_neE (uE hr)) (pe_lc (own := [("_law_odd", 14)]) (g := (gName 14)) rfl scLaw.nd (pi_list (pe_call GLodd_texts (hr.mono (by omega)) rfl gLodd_texts FLodd_texts.kp bLodd_texts .nil pass0 (pa_cons (pv 6) pa_nil))) (blkOk_by (N := nLaw) (sc := defScope sLaw) (by decide +kernel)) (fun _ _ _ _ _ => pg_name (i := 14) scLaw.nd rfl (Or.inl rfl)) (fun _ _ _ _ _ => (pts_one (pt_not (pt_val (pe_call GLrefused (hr.mono (by omega)) rfl gLrefused FLrefused.kp bLrefused .nil pass0 (pa_cons (pv 14) pa_nil)))))) (fun _ _ _ _ _ => (pv 14))) (pe_lst pa_nil) (nomark _))
            (pss_one (ps_ret pe_bl))
            pss_nil))))))))))))))
      (pss_cons (ps_set (i := 11) scLaw.nd rfl (Or.inl rfl) (pe_imp (te' := tFx fx1) (pe_lst (pa_cons (pe_tup (pa_cons pe_str (pa_cons (pe_disp (pps_cons pe_str pe_int pps_nil) (by rfl) (by rfl) (fun z => by cases z) (by decide)) pa_nil))) (pa_cons (pe_tup (pa_cons pe_str (pa_cons (pe_disp (pps_cons pe_str pe_int pps_nil) (by rfl) (by rfl) (fun z => by cases z) (by decide)) pa_nil))) (pa_cons (pe_tup (pa_cons pe_str (pa_cons (pe_disp (pps_cons pe_str pe_int (pps_cons pe_str pe_int pps_nil)) (by rfl) (by rfl) (fun z => by cases z) (by decide)) pa_nil))) (pa_cons (pe_tup (pa_cons pe_str (pa_cons (pe_disp (pps_cons pe_str pe_int pps_nil) (by rfl) (by rfl) (fun z => by cases z) (by decide)) pa_nil))) pa_nil))))) (fx_imp fx1_lay (by decide))))
      (pss_cons (ps_if (PW.pt (pw_or (pt_cmpR op_ne (pe_call Gscript_text (hr.mono (by omega)) rfl gscript_text Fscript_text.kp bscript_text .nil pass0 (pa_cons (pv 11) pa_nil)) pe_str (nomark _)) (pw_or1 (pt_cmpR (op_neW hr.units) (pe_call Gread_script (hr.mono (by omega)) rfl gread_script Fread_script.kp bread_script .nil passF (pa_cons (pe_call Gscript_text (hr.mono (by omega)) rfl gscript_text Fscript_text.kp bscript_text .nil pass0 (pa_cons (pv 11) pa_nil)) pa_nil)) (pv 11) (nomark _)))))
        (pss_one (ps_ret pe_bl))
        pss_nil)
      (pss_cons (ps_set (i := 11) scLaw.nd rfl (Or.inl rfl) (pe_imp (te' := tFx fx2a) (pe_lst (pa_cons (pe_tup (pa_cons pe_str (pa_cons (pe_op op_pow pe_int pe_int) pa_nil))) (pa_cons (pe_tup (pa_cons pe_str (pa_cons pe_dnewK pa_nil))) (pa_cons (pe_tup (pa_cons pe_str (pa_cons (pe_disp (pps_cons pe_str pe_int (pps_cons pe_str pe_int pps_nil)) (by rfl) (by rfl) (fun z => by cases z) (by decide)) pa_nil))) pa_nil)))) (fx_imp fx2a_lay (by decide))))
      (pss_cons (ps_set (i := 11) scLaw.nd rfl (Or.inl rfl) (pe_imp (te' := tFxM 11 fx2b) (pe_op op_cat (pv 11) (pe_lst (pa_cons (pe_tup (pa_cons pe_str (pa_cons (pe_disp (pps_cons pe_str pe_int (pps_cons pe_str pe_int pps_nil)) (by rfl) (by rfl) (fun z => by cases z) (by decide)) pa_nil))) (pa_cons (pe_tup (pa_cons pe_str (pa_cons (pe_lst pa_nil) pa_nil))) pa_nil)))) (fxm_imp fx2b_lay (by decide))))
      (pss_cons (ps_set (i := 12) scLaw.nd rfl (Or.inl rfl) (pe_op op_add_str (pe_op op_add_str pe_str (pe_op op_mulT pe_str pe_int)) pe_str))
      (pss_one (ps_ret (pe_and (pe_cmpR op_eq (pe_call Gscript_text (hr.mono (by omega)) rfl gscript_text Fscript_text.kp bscript_text .nil pass0 (pa_cons (pv 11) pa_nil)) (pv 12) (nomark _)) (pe_and (pe_cmpR (op_eqW hr.units) (pe_call Gread_script (hr.mono (by omega)) rfl gread_script Fread_script.kp bread_script .nil passF (pa_cons (pv 12) pa_nil)) (pv 11) (nomark _)) (pe_and (pe_cmpR (op_eqW hr.units) (pe_call Gread_script (hr.mono (by omega)) rfl gread_script Fread_script.kp bread_script .nil passF (pa_cons pe_str pa_nil)) (pe_lst pa_nil) (nomark _)) (pe_one (pe_cmpR op_eq (pe_call Gscript_text (hr.mono (by omega)) rfl gscript_text Fscript_text.kp bscript_text .nil pass0 (pa_cons (pe_lst pa_nil) pa_nil)) pe_str (nomark _)))))))))))))), ?_⟩
    refine ⟨_, rfl, sc, ns, 3, rfl, sql_up hs same_rfl, hl63, by decide, by decide, fun H1 l as s1 nl hl l100 nod hall => ?_⟩
    refine ⟨l, rfl, ⟨_, SqL.of hl⟩, ?_⟩
    refine for_list (xs := as.map V.ref) (fun i σ H' => (∃ u1 u2 u3 u4 u5 u6 u7 u8 u9 u10 u11 u12 u13 u14 : Option V, σ = [some (.ref sc), u1, u2, u3, u4, u5, u6, u7, u8, u9, u10, u11, u12, u13, u14]) ∧ H' l = some (.lst (as.map V.ref)) ∧ ∀ j a, i ≤ j → as[j]? = some a → Pur H' a 0) ⟨⟨_, _, _, _, _, _, _, _, _, _, _, _, _, _, rfl⟩, hl, fun j a _ hj => ?_⟩ (fun i σ H' _ z => SqL.of z.2.1) ?_ ?_
    · obtain ⟨_, _, p, q, i, pu⟩ := hall a (List.mem_of_getElem? hj)
      exact ⟨p, q, 0, i, pu, Int.le_refl _, Int.le_refl _⟩
    · rintro i x σ H2 hx ⟨⟨u1, u2, u3, u4, u5, u6, u7, u8, u9, u10, u11, u12, u13, u14, rfl⟩, hl2, purs⟩
      obtain ⟨a, ha, rfl⟩ : ∃ a, as[i]? = some a ∧ x = V.ref a := by
        rw [List.getElem?_map] at hx
        obtain ⟨a, ha, e⟩ := Option.map_eq_some_iff.mp hx
        exact ⟨a, ha, e.symm⟩
      have hp := purs i a (Nat.le_refl _) ha
      have nla : l ≠ a := fun e => (hall a (List.mem_of_getElem? ha)).2.1 e.symm
      have fin : ∀ (H' : Hp), But a H2 H' → H' l = some (.lst (as.map V.ref)) ∧ ∀ j c, i + 1 ≤ j → as[j]? = some c → Pur H' c 0 := fun H' b => ⟨b l nla _ hl2, fun j c hj hc => (purs j c (by omega) hc).but b fun e => by
        rw [e] at hc
        have z := nodup_at nod ha hc
        omega⟩
      show tSeq _ _ _ [some (.ref sc), some (.ref a), u2, u3, u4, u5, u6, u7, u8, u9, u10, u11, u12, u13, u14] _
      refine ⟨_, rfl, a, 0, rfl, hp, by decide, fun H3 p b3 hp3 p0 p1 => ?_⟩
      refine ⟨by show 5 ≤ sizeLine; rw [sizeLine_eq]; decide, fun nm hnm => ⟨_, _, rfl, ?_⟩⟩
      show tSeq _ _ _ [some (.ref sc), some (.ref a), some (.int p), some (.ref nm), u4, u5, u6, u7, u8, u9, u10, u11, u12, u13, u14] _
      have nna : nm ≠ a := fun e => (hp3.ne hnm) e.symm
      have b4 := But.trans b3 (but_new (a := a) (o := HO.lst (NAMES.map V.str)) hnm)
      have hp4 := hp3.same (same_new (o := HO.lst (NAMES.map V.str)) hnm)
      have en : upd H3 nm (HO.lst (NAMES.map V.str)) nm = some (.lst (NAMES.map V.str)) := upd_same
      change tSeq _ _ _ _ (upd H3 nm (HO.lst (NAMES.map V.str)))
      generalize upd H3 nm (HO.lst (NAMES.map V.str)) = H4 at b4 hp4 en ⊢
      refine ⟨a, _, hp4, fun mk H5 s5 nk ek => ?_⟩
      have nka : mk ≠ a := fun e => (hp4.ne nk) e.symm
      show tSeq _ _ _ [some (.ref sc), some (.ref a), some (.int p), some (.ref nm), some (.ref mk), u5, u6, u7, u8, u9, u10, u11, u12, u13, u14] _
      have b5 := But.trans b4 (but_same s5)
      have hp5 := hp4.same s5
      refine ⟨_, rfl, _, rfl, _, rfl, _, rfl, a, p, nm, mk, 1, rfl, hp5, by decide, p0, p1, s5 _ _ en, nna, ek, nka, fun H6 v s b6 hp6 sh6 gd dp mn => ?_⟩
      show tSeq _ _ _ [some (.ref sc), some (.ref a), some (.int p), some (.ref nm), some (.ref mk), some v, u6, u7, u8, u9, u10, u11, u12, u13, u14] _
      have b26 := But.trans b5 b6
      clear b3 b4 b5 b6 hp3 hp4 hp5 s5 en ek
      obtain ⟨m7, c, xs, e7, rfl, hc, pc⟩ := sh6.ofList
      obtain ⟨nca, hc6⟩ := mskL_of hc
      have nca : c ≠ a := fun e => nca (by rw [e]; exact List.mem_cons_self)
      have nl25 : nlS s ≤ 25 := by
        have := nl_mnS s
        omega
      have lk := ln_k gd dp nl25
      have shN : Sho 13 H6 (.ref c) (.list (datS s)) := sh6.up fun c o eo => (mskL_of eo).2
      refine ⟨_, rfl, .ref c, s, 13, rfl, shN, gd, dp, by omega, fun H7 q s7 nq eq => ?_⟩
      obtain ⟨w1, w2, w3⟩ := sc_show gd nl25 dp
      refine ⟨_, rfl, .ref c, _, 13, rfl, shN.up s7, w1, w2, w3, _, _, rfl, ?_⟩
      show tSeq _ _ _ [some (.ref sc), some (.ref a), some (.int p), some (.ref nm), some (.ref mk), some (.ref c), some (.ref q), some (.str (PyData.list (datS s)).shown), u8, u9, u10, u11, u12, u13, u14] _
      refine ⟨⟨_, rfl⟩, _, rfl, _, q, lnS s "", rfl, rfl, .inl (SqL.of eq), jn_fit lk.all (by have := lk.2; omega), ?_⟩
      show tSeq _ _ _ [some (.ref sc), some (.ref a), some (.int p), some (.ref nm), some (.ref mk), some (.ref c), some (.ref q), some (.str (PyData.list (datS s)).shown), some (.str (txD s)), u9, u10, u11, u12, u13, u14] _
      have so : ScOk s 60 := ⟨gd_liS gd (by omega), by omega, by omega, by have := len_nl s; omega⟩
      have sb := (gd_sc gd).1
      have tx : TxOk (txD s) := tx_lines lk.all (by have := lk.2; omega)
      have rb := rd_back gd
      have noN : ∀ {G : Hp} {v : V}, rdS (txD s) = none → Err G C v E0 := fun e => by
        rw [rb] at e
        cases e
      have same2 : ∀ {G G' : Hp} {p : Addr} {vs : List V}, Same H6 G → Same G G' → Paired (Sho 130 (pt G [p] G')) vs (datS (nmS s)) → Paired (EqW K G' 11) vs xs := fun {G G' p vs} s1 s2 pv => by
        obtain ⟨_, _, ys, _, e, hy, py⟩ := (shN.up (same_trans s1 s2)).ofList
        cases e
        have hx := (same_trans s1 s2) _ _ hc6
        rw [hx] at hy
        cases hy
        exact eqW_nmS gd dp (pr_le (Nat.le_refl _) pt_le2 pv) py
      refine ⟨_, rfl, .ref c, s, 13, rfl, shN.up s7, so, sb, fun H8 s8 => ⟨_, rfl, rfl, _, rfl, ?_⟩⟩
      rw [decide_eq_true rfl]
      have s68 := same_trans s7 s8
      refine iteF ⟨_, rfl, _, rfl, .inr ⟨txD s, rfl, tx, noN, fun H9 p9 v9 s9' s9 np9 e9 hp9 pv9 so9 => ?_⟩⟩
      rw [rb] at e9
      cases e9
      have s69 := same_trans s68 s9
      refine ⟨_, rfl, 11, p9, c, v9, xs, by decide, rfl, rfl, hp9, s69 _ _ hc6, same2 s68 s9 pv9, _, rfl, iteF ?_⟩
      clear hp9 pv9 so9
      refine ⟨_, rfl, _, rfl, .inr ⟨txD s, rfl, tx, noN, fun H10 tp v10 s' s10 np10 e10 hp10 pv10 so10 => ?_⟩⟩
      rw [rb] at e10
      cases e10
      show tSeq _ _ _ [some (.ref sc), some (.ref a), some (.int p), some (.ref nm), some (.ref mk), some (.ref c), some (.ref q), some (.str (PyData.list (datS s)).shown), some (.str (txD s)), some (.ref tp), u10, u11, u12, u13, u14] _
      have l10 : v10.length ≤ 60 := by
        rw [paired_len pv10, dat_len]
        exact so10.ln
      have cm10 : ∀ (j : Nat) (v : V), v10[j]? = some v → CmM H9 tp 1000 H10 v := fun j v e => by
        obtain ⟨d, e1, e2⟩ := paired_at pv10 e
        rw [dat_at] at e1
        obtain ⟨x, ex, rfl⟩ := Option.map_eq_some_iff.mp e1
        have mx := List.mem_of_getElem? ex
        exact cmM_of e2 (sc_mem (gd_sc gd).2 mx) (li_mem so10.li mx)
      refine ⟨_, rfl, tp, rfl, ⟨_, SqL.of hp10⟩, ?_⟩
      refine for_list (xs := v10) (fun j σ H' => (∃ u10, σ = [some (.ref sc), some (.ref a), some (.int p), some (.ref nm), some (.ref mk), some (.ref c), some (.ref q), some (.str (PyData.list (datS s)).shown), some (.str (txD s)), some (.ref tp), u10, u11, u12, u13, u14]) ∧ Same H9 H' ∧ H' tp = some (.lst v10) ∧ ∀ (k : Nat) (v : V), v10[k]? = some v → CmM H9 tp (1000 + 2 * j) H' v)
        ⟨⟨_, rfl⟩, s10, hp10, cm10⟩ (fun j σ H' _ z => SqL.of z.2.2.1) ?_ ?_
      · rintro j v σ H11 hv ⟨⟨o10, rfl⟩, s11, hp11, cm⟩
        have lj : j < 60 := by
          have := (List.getElem?_eq_some_iff.mp hv).1
          omega
        show tSeq _ _ _ [some (.ref sc), some (.ref a), some (.int p), some (.ref nm), some (.ref mk), some (.ref c), some (.ref q), some (.str (PyData.list (datS s)).shown), some (.str (txD s)), some (.ref tp), some v, u11, u12, u13, u14] _
        obtain ⟨t, w, zs, rfl, ht, cT, cS⟩ := cm j v hv
        refine ⟨_, rfl, t, _, 0, V.str w, rfl, rfl, SqT.of ht, at_0, ?_⟩
        refine ⟨rfl, _, rfl, ?_⟩
        rw [dec_strE]
        cases e1 : decide (w = "try") with
        | true =>
          obtain rfl := of_decide_eq_true e1
          obtain ⟨b, ys, zb, hb0, nbt, hb, lb⟩ := cT rfl
          obtain ⟨zs', rfl⟩ := head_of zb
          refine iteT ⟨_, rfl, t, _, 1, .ref b, rfl, rfl, SqT.of ht, at_1, .inl ⟨rfl, _, SqL.of hb⟩, b, ys, _, rfl, rfl, hb, by rw [sizeLine_eq]; omega, ?_⟩
          have s12 : Same H9 (upd H11 b (.lst (ys ++ [.str "more"]))) := same_set s11 hb0
          have hp12 : upd H11 b (.lst (ys ++ [.str "more"])) tp = some (.lst v10) := (upd_ne (Ne.symm nbt)).trans hp11
          have cm12 : ∀ (k : Nat) (v : V), v10[k]? = some v → CmM H9 tp (1000 + 2 * j + 1) (upd H11 b (.lst (ys ++ [.str "more"]))) v := fun k v e => (cm k v e).lst hb _ (by omega)
          have ntb : t ≠ b := fun z => by
            rw [z, hb] at ht
            cases ht
          have ht12 : upd H11 b (.lst (ys ++ [.str "more"])) t = some (.tup (.str "try" :: .ref b :: zs')) := (upd_ne ntb).trans ht
          generalize upd H11 b (.lst (ys ++ [.str "more"])) = H12 at s12 hp12 cm12 ht12 ⊢
          refine ⟨_, rfl, t, _, 0, _, rfl, rfl, SqT.of ht12, at_0, in_sums fun r H13 s13 => ⟨_, rfl, ?_⟩⟩
          show if WITH_SUMS_S.contains ("try" : Str) = true then _ else _
          rw [try_no]
          exact iteF ⟨⟨_, rfl⟩, same_trans s12 s13, s13 _ _ hp12, fun k v e => ((cm12 k v e).up s13).le (by omega)⟩
        | false =>
          refine iteF ⟨_, rfl, t, _, 0, _, rfl, rfl, SqT.of ht, at_0, in_sums fun r H12 s12 => ⟨_, rfl, ?_⟩⟩
          show if WITH_SUMS_S.contains w = true then _ else _
          cases e2 : WITH_SUMS_S.contains w with
          | false => exact iteF ⟨⟨_, rfl⟩, same_trans s11 s12, s12 _ _ hp11, fun k v e => ((cm k v e).up s12).le (by omega)⟩
          | true =>
            obtain ⟨b, ys, zb, hb0, nbt, hb, lb⟩ := cS e2
            obtain ⟨zs', rfl⟩ := head_of zb
            have hb12 := s12 _ _ hb
            refine iteT ⟨_, rfl, t, _, 1, .ref b, rfl, rfl, SqT.of (s12 _ _ ht), at_1, b, _, rfl, DPut.k (k := Sum.inr ("zz" : Str)) hb12 (by rw [sizeLine_eq]; omega), ?_⟩
            refine ⟨⟨_, rfl⟩, same_set (same_trans s11 s12) hb0, (upd_ne (Ne.symm nbt)).trans (s12 _ _ hp11), fun k v e => (((cm k v e).up s12).dct hb12 (by have := length_putK ys (Sum.inr ("zz" : Str)) (V.int 7); omega)).le (by omega)⟩
      · rintro σ H11 ⟨⟨o10, rfl⟩, s11, hp11, _⟩
        refine ⟨_, rfl, .inl ⟨rfl, _, SqL.of hp11⟩, tp, _, _, rfl, rfl, hp11, by rw [sizeLine_eq]; omega, ?_⟩
        have s12 : Same H9 (upd H11 tp (.lst (v10 ++ [.str "more"]))) := same_set s11 np10
        generalize upd H11 tp (.lst (v10 ++ [.str "more"])) = H12 at s12 ⊢
        clear cm10 hp11 s11 pv10 hp10 s10
        have s612 := same_trans s69 s12
        refine ⟨_, rfl, _, rfl, .inr ⟨txD s, rfl, tx, noN, fun H13 p13 v13 s' s13 np13 e13 hp13 pv13 so13 => ?_⟩⟩
        rw [rb] at e13
        cases e13
        have s613 := same_trans s612 s13
        refine ⟨_, rfl, 11, p13, c, v13, xs, by decide, rfl, rfl, hp13, s613 _ _ hc6, same2 s612 s13 pv13, _, rfl, iteF ?_⟩
        refine ⟨_, rfl, .ref c, _, 13, rfl, shN.up s613, w1, w2, w3, _, rfl, rfl, _, rfl, ?_⟩
        rw [decide_eq_true rfl]
        refine iteF ?_
        have eq13 : H13 q = some (.lst ((lnS s "").map V.str)) := s13 _ _ (s12 _ _ (s9 _ _ (s8 _ _ eq)))
        have nqa : q ≠ a := fun e => (hp6.ne nq) e.symm
        have hp13' := hp6.same s613
        clear hp13 pv13 so13 same2 shN
        refine ⟨_, rfl, _, rfl, _, rfl, a, q, 1 + 50000, lnS s "", rfl, hp13', by decide, eq13, nqa, lk, fun H14 r ts b14 hp14 nr nra hr14 tok tl => ⟨r, rfl, ⟨_, SqL.of hr14⟩, fun D hD => ?_⟩⟩
        refine lc_out (walk_list (xs := ts.map V.str)) (ts.map fun _ => none) (by rw [List.length_map, List.length_map]) (by rw [List.length_map]; omega) hD (fun H' s => SqL.of (s _ _ hr14)) ?_ ?_
        · rintro i2 o ho H15 v2 H16 s15 ⟨rfl, hv2⟩ Rn Ry hn hy
          obtain ⟨t, ht, rfl⟩ := some_of_get ho
          obtain rfl := map_get hv2 ht
          exact ⟨rfl, _, rfl, t, rfl, tok t (List.mem_of_getElem? ht), fun H17 s17 => ⟨_, rfl, iteF (hn _ s17 rfl)⟩⟩
        · intro H15 s15 hD15
          rw [fm_none] at hD15
          refine ⟨Nat.zero_le _, fun z hz => ⟨D, z, _, rfl, rfl, SqL.of ((same_new hz) _ _ hD15), SqL.of upd_same, _, rfl, iteF ?_⟩⟩
          have sz := same_new (o := HO.lst []) hz
          generalize upd H15 z (HO.lst []) = H16 at sz ⊢
          have b216 : But a H2 H16 := But.trans b26 (But.trans (but_same s613) (But.trans b14 (but_same (same_trans s15 sz))))
          have eq16 : H16 q = some (.lst ((lnS s "").map V.str)) := sz _ _ (s15 _ _ (b14 q nqa _ eq13))
          refine ⟨_, rfl, q, s, rfl, eq16, gd, lk, fun r2 H17 s17 nr2 o17 => ?_⟩
          obtain ⟨vs, ev, lv, ov⟩ := o17
          refine ⟨r2, rfl, ⟨_, SqL.of ev⟩, fun D2 hD2 => ?_⟩
          refine lc_out (walk_list (xs := vs)) (vs.map fun _ => none) (List.length_map _) (by omega) hD2 (fun H' s => SqL.of (s _ _ ev)) ?_ ?_
          · rintro i2 o ho H18 v2 H19 s18 ⟨rfl, hv2⟩ Rn Ry hn hy
            obtain ⟨v, hv, rfl⟩ := some_of_get ho
            obtain rfl : v2 = v := Option.some.inj (hv2.symm.trans hv)
            refine ⟨rfl, _, rfl, v2, rfl, ?_⟩
            rcases (ov v2 (List.mem_of_getElem? hv)).up s18 with ob | ⟨x, rfl, tx, rn⟩
            · exact .inl ⟨ob, fun H20 s20 => ⟨_, rfl, iteF (hn _ s20 rfl)⟩⟩
            · refine .inr ⟨x, rfl, tx, fun H20 s20 => ⟨_, rfl, ?_⟩⟩
              rw [rn]
              exact iteF (hn _ s20 rfl)
          · intro H18 s18 hD18
            rw [fm_none] at hD18
            refine ⟨Nat.zero_le _, fun z2 hz2 => ⟨D2, z2, _, rfl, rfl, SqL.of ((same_new hz2) _ _ hD18), SqL.of upd_same, _, rfl, iteF ?_⟩⟩
            exact ⟨⟨_, _, _, _, _, _, _, _, _, _, _, _, _, _, rfl⟩, fin _ (But.trans b216 (But.trans (but_same (same_trans s17 s18)) (but_new hz2)))⟩
    · rintro σ H2 ⟨⟨u1, u2, u3, u4, u5, u6, u7, u8, u9, u10, u11, u12, u13, u14, rfl⟩, _, _⟩
      obtain ⟨so, sb, tx, rb⟩ := fx_ok fx1_gd (by decide +kernel) (by decide +kernel)
      obtain ⟨so2, sb2, tx2, rb2⟩ := fx_ok fx2_gd (by decide +kernel) (by decide +kernel)
      have no1 : ∀ {G : Hp} {v : V} {s : List Cm}, rdS (txD s) = some (nmS s) → rdS (txD s) = none → Err G C v E0 := fun rb e => by
        rw [rb] at e
        cases e
      refine fun l1 H3 s3 n3 ⟨vs, hl1, pv⟩ => ?_
      show tSeq _ _ _ [some (.ref sc), u1, u2, u3, u4, u5, u6, u7, u8, u9, u10, some (.ref l1), u12, u13, u14] _
      have sh : Sho 4 H3 (.ref l1) (.list (datS fx1)) := Sho.lst hl1 pv
      refine ⟨_, rfl, .ref l1, fx1, 4, rfl, sh, so, sb, fun H4 s4 => ⟨rfl, _, rfl, ?_⟩⟩
      show if (!decide (V.str (txD fx1) = V.str due1)) = true then _ else _
      rw [fx1_tx, decide_eq_true rfl]
      refine iteF ⟨_, rfl, .ref l1, fx1, 4, rfl, sh.up s4, so, sb, fun H5 s5 => ⟨_, rfl, .inr ⟨txD fx1, rfl, tx, no1 rb, fun H6 p6 v6 s' s6 n6 e6 hp6 pv6 so6 => ?_⟩⟩⟩
      rw [rb] at e6
      cases e6
      have s36 := same_trans s4 (same_trans s5 s6)
      refine ⟨_, rfl, 11, p6, l1, v6, vs, by decide, rfl, rfl, hp6, s36 _ _ hl1, eqW_nmS (d := 4) fx1_gd (by decide +kernel) (pr_le (Nat.le_refl _) pt_le2 pv6) (pr_le (Nat.le_refl _) s36 pv), _, rfl, iteF ?_⟩
      clear hp6 pv6 so6
      refine fun l2 H7 s7 n7 ⟨vs2, hl2, pv2⟩ => ?_
      show tSeq _ _ _ [some (.ref sc), u1, u2, u3, u4, u5, u6, u7, u8, u9, u10, some (.ref l2), u12, u13, u14] _
      refine ⟨l2, vs2, fx2a, rfl, hl2, pv2, by decide, fun l3 H8 s8 ⟨vs3, hl3, pv3⟩ => ?_⟩
      show tSeq _ _ _ [some (.ref sc), u1, u2, u3, u4, u5, u6, u7, u8, u9, u10, some (.ref l3), u12, u13, u14] _
      have d29 : (Txt.mul "0" 29).length = 29 := by decide +kernel
      refine ⟨"0", 29, rfl, rfl, mul_ok, _, _, rfl, rfl, by rw [d29, sizeLine_eq]; decide +kernel, _, _, rfl, rfl, by rw [Str.length_append, d29, sizeLine_eq]; decide +kernel, ?_⟩
      rw [← fx2_tx]
      have sh3 : Sho 4 H8 (.ref l3) (.list (datS (fx2a ++ fx2b))) := Sho.lst hl3 pv3
      refine ⟨_, rfl, .ref l3, fx2a ++ fx2b, 4, rfl, sh3, so2, sb2, fun H9 s9 => ⟨_, rfl, rfl, _, rfl, ?_⟩⟩
      rw [decide_eq_true rfl]
      refine iteT ⟨_, rfl, _, rfl, .inr ⟨txD (fx2a ++ fx2b), rfl, tx2, no1 rb2, fun H10 p10 v10 s' s10 n10 e10 hp10 pv10 so10 => ?_⟩⟩
      rw [rb2] at e10
      cases e10
      have s810 := same_trans s9 s10
      refine ⟨_, rfl, 11, p10, l3, v10, vs3, by decide, rfl, rfl, hp10, s810 _ _ hl3, eqW_nmS (d := 4) fx2_gd (by decide +kernel) (pr_le (Nat.le_refl _) pt_le2 pv10) (pr_le (Nat.le_refl _) s810 pv3), _, rfl, ?_⟩
      clear hp10 pv10 so10
      obtain ⟨so0, sb0, tx0, rb0⟩ := fx_ok gd_nil (by decide +kernel) (by decide +kernel)
      have n0 : nmS [] = [] := by rw [nmS]
      rw [n0] at rb0
      rw [tx_nil] at tx0 rb0
      refine iteT ⟨_, rfl, .inr ⟨"", rfl, tx0, fun e => (by rw [rb0] at e; cases e), fun H11 p11 v11 s' s11 n11 e11 hp11 pv11 so11 => ?_⟩⟩
      rw [rb0] at e11
      cases e11
      have v0 : v11 = [] := by
        rw [datS] at pv11
        cases pv11
        rfl
      subst v0
      refine ⟨Nat.zero_le _, fun z hz => ⟨0, p11, z, [], [], by decide, rfl, rfl, (same_new hz) _ _ hp11, upd_same, .nil, _, rfl, iteT ?_⟩⟩
      refine ⟨Nat.zero_le _, fun z2 hz2 => ⟨.ref z2, [], 1, rfl, Sho.lst upd_same (by rw [datS]; exact .nil), so0, sb0, fun H12 s12 => ⟨rfl, ?_⟩⟩⟩
      show Q (.bl (decide (V.str (txD []) = V.str ""))) _
      rw [tx_nil, decide_eq_true rfl]
      exact want _
end
end Vb
end L2

set_option Elab.async false
set_option linter.all false
set_option maxRecDepth 100000
set_option maxHeartbeats 8000000
/-! Vb, k88: from the head's facts. -/
namespace L2
namespace Vb
open PySem PySem.Spec PyProof.Rows
open Eo (ErC spInit)
def iArgs (p1 p2 p3 : Pos) : Arguments := { posonlyargs := [], args := [{ arg := "self", annotation := none, pos := p1 }, { arg := "value", annotation := none, pos := p2 }], vararg := none, kwonlyargs := [], kw_defaults := [], kwarg := none, defaults := [.Constant .none 0 p3] }
def iBody (q1 q2 q3 q4 : Pos) : List Stmt := [.Assign [.Attribute (.Name "self" q1) "value" q2] (.Name "value" q3) q4]
def iScope : Scope := { kind := .function, names := [(Str.ofString "self", .local), (Str.ofString "value", .local)], isGenerator := false, isCoroutine := false, more := [] }
def InitShape (st : Stmt) : Prop := ∃ p1 p2 p3 q1 q2 q3 q4, defArgs st = iArgs p1 p2 p3 ∧ defBody st = iBody q1 q2 q3 q4 ∧ defScope st = iScope
theorem shapes : ∀ z ∈ inits, InitShape (initOf (topS z.2.2)) := by
  intro z hz
  simp only [inits, List.mem_cons, List.not_mem_nil, or_false] at hz
  rcases hz with rfl | rfl
  all_goals exact ⟨_, _, _, _, _, _, _, rfl, rfl, rfl⟩
section
variable {P : Program} {w : World} {K : PySem.W.Frag} {mg : Str → Option Value} {base : Heap}
theorem scInit : FnScope ["self", "value"] ["self", "value"] iScope := ⟨rfl, rfl, rfl, by decide +kernel, rfl, by decide +kernel, by decide +kernel⟩
theorem ok_init {q : Str} {C fI : Addr} {fd : FuncData} {p1 p2 p3 q1 q2 q3 q4 : Pos} (T : ErC K C fI) (F : FunD K "__init__" q (iArgs p1 p2 p3) (iBody q1 q2 q3 q4) iScope [.non] [] fI fd) : FnOk P w K mg base CX0 1 fI fd ["self", "value"] (spInit C) := by
  refine F.ok scInit (fun vs H Q E h => ?_) (fun cdv A outer s H vs Q E hr h => ?_)
  · obtain ⟨a, v, rfl, _⟩ := h
    rfl
  · obtain ⟨a, v, rfl, ha, want⟩ := h
    refine ⟨_, PSs.nox (pss_one (ps_ost (pv 0) (pv 1))), ?_⟩
    exact ⟨_, rfl, _, rfl, a, C, rfl, T.ox, T.noV, .inl ⟨ha, fun d nd ne => want d nd ne⟩⟩
theorem bad_of {x q : Str} {fd : FuncData} {p1 p2 p3 q1 q2 q3 q4 : Pos} (gC : mg x = some (.ref (He.ga K x))) (T : ErC K (He.ga K x) (He.ma K (He.ga K x) "__init__"))
    (F : FunD K "__init__" q (iArgs p1 p2 p3) (iBody q1 q2 q3 q4) iScope [.non] [] (He.ma K (He.ga K x) "__init__") fd) : Bad P w K mg base x (He.ga K x) := by
  obtain ⟨ds2, vd2, b2⟩ := FunD.binds1 (ps := ["self", "value"]) F 2 1 (by simp) rfl fun T kV doc pm an cdv ct us its l1 l2 => by
    match us, its, l1, l2 with
    | [a, b], [d], _, _ => exact ⟨_, rfl, rfl⟩
  have e2 : ds2 = [] := by
    cases vd2
    rfl
  subst e2
  exact ⟨gC, _, fd, T, ok_init T F, b2⟩
/-! ### the classes -/
theorem cls_of {x : Str} {tl : List Value} (h : clsOk K tl x = true) : ∃ nm q N bs sn sub ab col dd k0 k1 k2 k3 k5, K.lookup (He.ga K x) = some (excClassObj nm q (He.ga K x) N bs tl true sn sub ab col dd k0 k1 k2 k3 k5 "ValueError.__new__") := by
  unfold clsOk at h
  split at h
  · rename_i dd cd sl ho
    split at h
    · rename_i k0 k1 k2 k3 n k5 hsl
      simp only [Bool.and_eq_true, beq_iff_eq, Bool.not_eq_true'] at h
      obtain ⟨rfl, hm, hd, hdel⟩ := h
      obtain ⟨nm, bs, mro, ns, qn, hdct, sn, sub, ab, col, del⟩ := cd
      dsimp only at hm hd hdel
      subst hm hd hdel
      have e : sl = #[k0, k1, k2, k3, some (.builtin "ValueError.__new__"), k5] := by
        rw [← hsl]
      exact ⟨nm, qn, ns, bs, sn, sub, ab, col, dd, k0, k1, k2, k3, k5, by rw [ho, e]⟩
    · cases h
  · cases h
/-- what its class object says -/
structure Cl (K : PySem.W.Frag) (x : Str) (tl : List Value) : Prop where
  ob : ∃ nm q N bs sn sub ab col dd k0 k1 k2 k3 k5, K.lookup (He.ga K x) = some (excClassObj nm q (He.ga K x) N bs tl true sn sub ab col dd k0 k1 k2 k3 k5 "ValueError.__new__")
  isC : (PySem.W.clsIn K (He.ga K x)).isSome = true
  ty : PySem.W.typeIn K (.ref (He.ga K x)) = some (.type "type")
  dct : PySem.W.hasDictIn K (He.ga K x) = true
  mro : ∀ v : Value, PySem.W.mroIn K (He.ga K x) v = some ((Value.ref (He.ga K x) :: tl).contains v)
theorem cl_of {x : Str} {tl : List Value} (h : clsOk K tl x = true) : Cl K x tl := by
  obtain ⟨nm, q, N, bs, sn, sub, ab, col, dd, k0, k1, k2, k3, k5, e⟩ := cls_of h
  have ec : PySem.W.clsIn K (He.ga K x) = some { name := nm, bases := bs, mro := .ref (He.ga K x) :: tl, ns := N, qualname := q, hasDict := true, slotNames := sn, subclasses := sub, abstract := ab, collection := col, hasDel := false } := by
    unfold PySem.W.clsIn
    rw [e]
  refine ⟨⟨nm, q, N, bs, sn, sub, ab, col, dd, k0, k1, k2, k3, k5, e⟩, by rw [ec]; rfl, ?_, ?_, fun v => ?_⟩
  · show (K.lookup (He.ga K x)).map (·.cls) = _
    rw [e]
    rfl
  · unfold PySem.W.hasDictIn
    rw [ec]
    rfl
  · unfold PySem.W.mroIn
    rw [ec]
    rfl
theorem more_of {x : Str} (h : clsMore K x = true) : PySem.W.findIn K (.ref (He.ga K x)) "__setattr__" = some (some (.builtin "object.__setattr__")) ∧ PySem.W.findIn K (.ref (He.ga K x)) "__getattribute__" = some (some (.builtin "BaseException.__getattribute__")) ∧
    PySem.W.findIn K (.ref (He.ga K x)) "__getattr__" = some none ∧ PySem.W.findIn K (.ref (He.ga K x)) "__class__" = some (some (.builtin "object.__class__")) ∧ PySem.W.findIn K (.ref (He.ga K x)) "value" = some none ∧ PySem.W.keepIn K (.ref (He.ga K x)) = true := by
  unfold clsMore at h
  obtain ⟨a, h⟩ := He.ba h
  obtain ⟨b, h⟩ := He.ba h
  obtain ⟨c, h⟩ := He.ba h
  obtain ⟨d, h⟩ := He.ba h
  obtain ⟨e, h⟩ := He.ba h
  exact ⟨He.eqO_ok a, He.eqO_ok b, He.eqO_ok c, He.eqO_ok d, He.eqO_ok e, h⟩
theorem erA_of {x : Str} {tl : List Value} (c : Cl K x tl) (m : clsMore K x = true) (hb : (Value.ref (He.ga K x) :: tl).contains (.type "BaseException") = true) (ho : (Value.ref (He.ga K x) :: tl).contains (.type "object") = true) : EoM.ErA K (He.ga K x) := by
  obtain ⟨_, b, d, e, _, _⟩ := more_of m
  exact ⟨b, d, (c.mro _).trans (congrArg some hb), c.dct, e, (c.mro _).trans (congrArg some ho)⟩
theorem has_tail (a s : Addr) : (Value.ref a :: Value.ref s :: veT).contains (.type "BaseException") = true ∧ (Value.ref a :: Value.ref s :: veT).contains (.type "object") = true ∧ (Value.ref a :: Value.ref s :: veT).contains (.type "ValueError") = true := by
  refine ⟨?_, ?_, ?_⟩ <;> rfl
theorem has_ve (s : Addr) : (Value.ref s :: veT).contains (.type "BaseException") = true ∧ (Value.ref s :: veT).contains (.type "object") = true ∧ (Value.ref s :: veT).contains (.type "ValueError") = true := by
  refine ⟨?_, ?_, ?_⟩ <;> rfl
theorem ref_beq (a b : Addr) : (Value.ref a == Value.ref b) = decide (a = b) := by
  by_cases h : a = b
  · rw [h, decide_eq_true rfl]
    exact beq_self_eq_true _
  · rw [decide_eq_false h]
    exact beq_eq_false_iff_ne.mpr fun e => h (Value.ref.inj e)
theorem veT_ref (b : Addr) : veT.contains (.ref b) = false := rfl
theorem nodup_inj {f : Str → Addr} : ∀ {l : List Str}, nodupB (l.map f) = true → ∀ x ∈ l, ∀ y ∈ l, f x = f y → x = y
  | [], _, x, hx, _, _, _ => (List.not_mem_nil hx).elim
  | a :: r, h, x, hx, y, hy, e => by
    have h2 : (!((r.map f).contains (f a)) && nodupB (r.map f)) = true := h
    obtain ⟨h3, h4⟩ := He.ba h2
    have no : ∀ z ∈ r, f z ≠ f a := fun z hz q => by
      have w : (r.map f).contains (f a) = true := List.contains_iff_mem.mpr (q ▸ List.mem_map_of_mem hz)
      rw [w] at h3
      cases h3
    rcases List.mem_cons.mp hx with qx | qx
    · rcases List.mem_cons.mp hy with qy | qy
      · exact qx.trans qy.symm
      · subst qx
        exact absurd e.symm (no y qy)
    · rcases List.mem_cons.mp hy with qy | qy
      · subst qy
        exact absurd e (no x qx)
      · exact nodup_inj h4 x qx y qy e
theorem kit_ref {x y : Str} {tl tl2 : List Value} (c : Cl K x tl) (d : Cl K y tl2) (ne : He.ga K x ≠ He.ga K y) : PySem.W.kitOne K (.ref (He.ga K x)) (.ref (He.ga K y)) = some (tl.contains (.ref (He.ga K y))) := by
  unfold PySem.W.kitOne
  rw [ref_beq, decide_eq_false ne, if_neg (by decide)]
  show (if ((PySem.W.clsIn K (He.ga K y)).isSome && PySem.W.typeIn K (.ref (He.ga K y)) == some (.type "type")) = true then PySem.W.mroIn K (He.ga K x) (.ref (He.ga K y)) else none) = _
  rw [d.isC, d.ty, if_pos (by rfl), c.mro, List.contains_cons, ref_beq, decide_eq_false (Ne.symm ne), Bool.false_or]
theorem kit_self {a : Addr} : PySem.W.kitOne K (.ref a) (.ref a) = some true := by
  unfold PySem.W.kitOne
  rw [ref_beq, decide_eq_true rfl, if_pos rfl]
theorem kit_ve {x : Str} {tl : List Value} (c : Cl K x tl) (h : (Value.ref (He.ga K x) :: tl).contains (.type "ValueError") = true) : PySem.W.kitOne K (.ref (He.ga K x)) (.type "ValueError") = some true := by
  unfold PySem.W.kitOne
  rw [if_neg (by intro h; cases eq_of_beq h)]
  show (if PySem.W.kitMeta "ValueError" = true then PySem.W.mroIn K (He.ga K x) (.type "ValueError") else none) = _
  rw [if_pos (by decide +kernel), c.mro, h]
theorem exm_ref {x y : Str} {tl tl2 : List Value} (c : Cl K x tl) (d : Cl K y tl2) (hb : (Value.ref (He.ga K y) :: tl2).contains (.type "BaseException") = true) (hy : (Value.ref (He.ga K x) :: tl).contains (.ref (He.ga K y)) = true) : PySem.W.exmOne K (.ref (He.ga K x)) (.ref (He.ga K y)) = some true := by
  unfold PySem.W.exmOne
  have e1 : PySem.W.subIn K (.ref (He.ga K y)) (.type "BaseException") = some true := (d.mro _).trans (congrArg some hb)
  rw [e1, if_pos (by rfl)]
  show (if ((PySem.W.clsIn K (He.ga K y)).isSome && PySem.W.typeIn K (.ref (He.ga K y)) == some (.type "type")) = true then PySem.W.mroIn K (He.ga K x) (.ref (He.ga K y)) else none) = _
  rw [d.isC, d.ty, if_pos (by rfl), c.mro, hy]
theorem kinds_of (h : clsB K = true) : (∀ x ∈ kinds, ErC K (He.ga K x) (He.ma K (He.ga K x) "__init__")) ∧ TxC K (He.ga K "InvalidText") := by
  unfold clsB at h
  obtain ⟨h1, h⟩ := He.ba h
  have k1 : ∀ x ∈ kinds, Cl K x (tailOf K) ∧ clsMore K x = true ∧ initOk K x = true := fun x hx => by
    obtain ⟨a, b⟩ := He.ba (List.all_eq_true.mp h1 x hx)
    obtain ⟨b, c⟩ := He.ba b
    exact ⟨cl_of a, b, c⟩
  refine ⟨fun x hx => ?_, ?_⟩
  · obtain ⟨c, m, i⟩ := k1 x hx
    obtain ⟨a1, _, _, _, a5, a6⟩ := more_of m
    obtain ⟨i1, i2⟩ := He.ba i
    obtain ⟨nm, q, N, bs, sn, sub, ab, col, dd, z0, z1, z2, z3, z5, e⟩ := c.ob
    exact ⟨⟨⟨nm, q, N, bs, tailOf K, sn, sub, ab, col, dd, z0, z1, z2, z3, z5, e, rfl⟩, a1, (c.mro _).trans (congrArg some (has_tail _ _).1), c.ty, a6⟩, He.eqO_ok i1, beq_iff_eq.mp i2, a5⟩
  · obtain ⟨c, m, _⟩ := k1 "InvalidText" List.mem_cons_self
    obtain ⟨_, b1, b2, _, a5, _⟩ := more_of m
    refine ⟨⟨b1, b2, (c.mro _).trans (congrArg some (has_tail _ _).1), c.dct⟩, a5, exm_ref c c (has_tail _ _).1 ?_⟩
    rw [List.contains_cons, ref_beq, decide_eq_true rfl, Bool.true_or]
theorem sys_of (h : sysB K = true) : SysIn K := by
  unfold sysB at h
  split at h
  · rename_i o ho
    split at h
    · rename_i es n hd
      exact ⟨o, es, n, ho, hd⟩
    · cases h
  · cases h
end
end Vb
end L2

set_option Elab.async false
set_option linter.all false
set_option maxRecDepth 100000
set_option maxHeartbeats 8000000
/-! Vb, k88: the row. -/
namespace L2
namespace Vb
open PySem PySem.Spec PyProof.Rows
/-- where all stands -/
structure Stands (P : Program) (w : World) (K : PySem.W.Frag) (mg : Str → Option Value) (base : Heap) : Prop where
  fn : ∀ x i, (x, i) ∈ defs → (∃ fd, Fun K x x (topS i) (He.ga K x) fd) ∧ mg x = some (.ref (He.ga K x))
  free : ∀ x ∈ frees, mg x = none
  txc : TxC K (He.ga K "InvalidText")
  gText : mg "InvalidText" = some (.ref (He.ga K "InvalidText"))
  bad : ∀ x ∈ kinds, Bad P w K mg base x (He.ga K x)
  sy : SysIn K
  i_LONGEST_NAME : ∃ t, mg "LONGEST_NAME" = some (.int 8 t)
  i_MOST_DIGITS : ∃ t, mg "MOST_DIGITS" = some (.int 400 t)
  i_DIGITS : ∃ t, mg "DIGITS" = some (.str "0123456789" t)
  i_LEAD : ∃ t, mg "LEAD" = some (.str "  " t)
  g_BARE : mg "BARE" = some (.ref (He.ga K "BARE"))
  s_BARE : ∀ H : Hp, SqT K H (He.ga K "BARE") (BARE_S.map V.str)
  g_LETTERS : mg "LETTERS" = some (.ref (He.ga K "LETTERS"))
  s_LETTERS : ∀ H : Hp, SqT K H (He.ga K "LETTERS") (LETTERS_S.map V.str)
  g_WITH_SUMS : mg "WITH_SUMS" = some (.ref (He.ga K "WITH_SUMS"))
  s_WITH_SUMS : ∀ H : Hp, SqT K H (He.ga K "WITH_SUMS") (WITH_SUMS_S.map V.str)
section
variable {P : Program} {w : World} {K : PySem.W.Frag} {mg : Str → Option Value} {h base : Heap}
theorem stands_of (G : h.Ns mainGlobals mg) (KX : K.In h) (c : Says w K) : Stands P w K mg base := by
  have cd : He.SaysD fa fn K := c.t.d
  have mI : ∀ {z : He.Fa}, z ∈ [He.Fa.int "LONGEST_NAME" 8, He.Fa.int "MOST_DIGITS" 400] → He.Fa.ok K z = true := fun m => cd.facts (List.mem_append_right _ (List.mem_append_left _ (List.mem_append_left _ m)))
  have mS : ∀ {z : He.Fa}, z ∈ [He.Fa.str "DIGITS" "0123456789", He.Fa.str "LEAD" "  "] → He.Fa.ok K z = true := fun m => cd.facts (List.mem_append_right _ (List.mem_append_left _ (List.mem_append_right _ m)))
  have mA : ∀ {z : He.Fa}, z ∈ (defs.map fun z => He.Fa.glo z.1) → z ∈ fa := fun m => List.mem_append_right _ (List.mem_append_right _ (List.mem_append_left _ (List.mem_append_left _ m)))
  have mB : ∀ {z : He.Fa}, z ∈ ((("StopError" : Str) :: kinds).map He.Fa.glo) → z ∈ fa := fun m => List.mem_append_right _ (List.mem_append_right _ (List.mem_append_left _ (List.mem_append_right _ m)))
  have mC : ∀ {z : He.Fa}, z ∈ [He.Fa.glo "BARE", He.Fa.glo "LETTERS", He.Fa.glo "WITH_SUMS"] → He.Fa.ok K z = true := fun m => cd.facts (List.mem_append_right _ (List.mem_append_right _ (List.mem_append_right _ m)))
  have glo : ∀ x i, (x, i) ∈ defs → mg x = some (.ref (He.ga K x)) := fun x i hx => He.glo_ok KX G (cd.facts (mA (List.mem_map_of_mem (f := fun z : Str × Nat => He.Fa.glo z.1) hx)))
  have gloE : ∀ x ∈ ("StopError" : Str) :: kinds, mg x = some (.ref (He.ga K x)) := fun x hx => He.glo_ok KX G (cd.facts (mB (List.mem_map_of_mem (f := He.Fa.glo) hx)))
  have fr : ∀ x ∈ frees, mg x = none := fun x hx => He.free_ok KX G (cd.facts (List.mem_append_left _ (List.mem_map_of_mem (f := He.Fa.free) hx)))
  obtain ⟨m1, m2⟩ := He.ba c.more
  obtain ⟨t1, n2⟩ := He.ba m1
  obtain ⟨t2, t3⟩ := He.ba n2
  obtain ⟨k1, k2⟩ := He.ba m2
  obtain ⟨er, tc⟩ := kinds_of k1
  refine ⟨fun x i hx => ⟨?_, glo x i hx⟩, fr, tc, gloE _ (List.mem_cons_of_mem _ List.mem_cons_self), fun x hx => ?_, sys_of k2, He.int_ok KX G (mI List.mem_cons_self), He.int_ok KX G (mI (List.mem_cons_of_mem _ List.mem_cons_self)), He.str_ok KX G (mS List.mem_cons_self), He.str_ok KX G (mS (List.mem_cons_of_mem _ List.mem_cons_self)),
    He.glo_ok KX G (mC List.mem_cons_self), fun H => ?_, He.glo_ok KX G (mC (List.mem_cons_of_mem _ List.mem_cons_self)), fun H => ?_, He.glo_ok KX G (mC (List.mem_cons_of_mem _ (List.mem_cons_of_mem _ List.mem_cons_self))), fun H => ?_⟩
  · obtain ⟨fd, F⟩ := cd.defs (d := dG x i) (List.mem_append_left _ (List.mem_map_of_mem (f := fun z : Str × Nat => dG z.1 z.2) hx))
    exact ⟨fd, fun_of F⟩
  · obtain ⟨z, hz, e⟩ : ∃ z ∈ inits, z.1 = x := by
      have hx : x ∈ ([("InvalidText" : Str), "InvalidScript"] : List Str) := hx
      simp only [List.mem_cons, List.not_mem_nil, or_false] at hx
      rcases hx with rfl | rfl
      · exact ⟨_, List.mem_cons_self, rfl⟩
      · exact ⟨_, List.mem_cons_of_mem _ List.mem_cons_self, rfl⟩
    subst e
    obtain ⟨p1, p2, p3, q1, q2, q3, q4, e1, e2, e3⟩ := shapes z hz
    obtain ⟨fd, F⟩ := cd.defs (d := dI z.1 z.2.1 z.2.2) (List.mem_append_right _ (List.mem_map_of_mem (f := fun z : Str × Str × Nat => dI z.1 z.2.1 z.2.2) hz))
    have F2 : FunD K "__init__" z.2.1 (defArgs (initOf (topS z.2.2))) (defBody (initOf (topS z.2.2))) (defScope (initOf (topS z.2.2))) [.non] [] (He.ma K (He.ga K z.1) "__init__") fd := F
    rw [e1, e2, e3] at F2
    exact bad_of (gloE _ (List.mem_cons_of_mem _ hx)) (er _ hx) F2
  · have z := He.tupB_ok t1 H
    rw [List.map_map] at z
    exact z
  · have z := He.tupB_ok t2 H
    rw [List.map_map] at z
    exact z
  · have z := He.tupB_ok t3 H
    rw [List.map_map] at z
    exact z
theorem law_stands {f : Addr} {fd : FuncData} (S : Stands P w K mg base) (F : Fun K "law" "law" sLaw f fd) : FnG P w K mg base 132 f fd ["_law_script_here"] (spLaw K) := by
  obtain ⟨⟨_, F__law_purses⟩, g__law_purses⟩ := S.fn "_law_purses" 45 (by decide)
  obtain ⟨⟨_, F__law_purse⟩, g__law_purse⟩ := S.fn "_law_purse" 42 (by decide)
  obtain ⟨⟨_, F__law_drawn_prime⟩, g__law_drawn_prime⟩ := S.fn "_law_drawn_prime" 48 (by decide)
  obtain ⟨⟨_, F__law_one_of⟩, g__law_one_of⟩ := S.fn "_law_one_of" 46 (by decide)
  obtain ⟨⟨_, F__law_draw⟩, g__law_draw⟩ := S.fn "_law_draw" 44 (by decide)
  obtain ⟨⟨_, F__law_mixed⟩, g__law_mixed⟩ := S.fn "_law_mixed" 43 (by decide)
  obtain ⟨⟨_, F__law_script⟩, g__law_script⟩ := S.fn "_law_script" 51 (by decide)
  obtain ⟨⟨_, F__law_command⟩, g__law_command⟩ := S.fn "_law_command" 50 (by decide)
  obtain ⟨⟨_, F__law_told_dict⟩, g__law_told_dict⟩ := S.fn "_law_told_dict" 49 (by decide)
  obtain ⟨⟨_, F__law_shuffled⟩, g__law_shuffled⟩ := S.fn "_law_shuffled" 47 (by decide)
  obtain ⟨⟨_, F__law_many⟩, g__law_many⟩ := S.fn "_law_many" 52 (by decide)
  obtain ⟨⟨_, F__law_script_lines⟩, g__law_script_lines⟩ := S.fn "_law_script_lines" 54 (by decide)
  obtain ⟨⟨_, F__law_sum_line⟩, g__law_sum_line⟩ := S.fn "_law_sum_line" 53 (by decide)
  obtain ⟨⟨_, F_read_script⟩, g_read_script⟩ := S.fn "read_script" 40 (by decide)
  obtain ⟨⟨_, F_read_script_lines⟩, g_read_script_lines⟩ := S.fn "read_script_lines" 39 (by decide)
  obtain ⟨⟨_, F_read_command⟩, g_read_command⟩ := S.fn "read_command" 38 (by decide)
  obtain ⟨⟨_, F_read_count⟩, g_read_count⟩ := S.fn "read_count" 13 (by decide)
  obtain ⟨⟨_, F_read_sum_words⟩, g_read_sum_words⟩ := S.fn "read_sum_words" 24 (by decide)
  obtain ⟨⟨_, F_read_sum⟩, g_read_sum⟩ := S.fn "read_sum" 14 (by decide)
  obtain ⟨⟨_, F_sum_words⟩, g_sum_words⟩ := S.fn "sum_words" 9 (by decide)
  obtain ⟨⟨_, F_is_written_sum⟩, g_is_written_sum⟩ := S.fn "is_written_sum" 19 (by decide)
  obtain ⟨⟨_, F_is_count⟩, g_is_count⟩ := S.fn "is_count" 6 (by decide)
  obtain ⟨⟨_, F_is_holder⟩, g_is_holder⟩ := S.fn "is_holder" 17 (by decide)
  obtain ⟨⟨_, F_is_name⟩, g_is_name⟩ := S.fn "is_name" 7 (by decide)
  obtain ⟨⟨_, F_is_row_holder⟩, g_is_row_holder⟩ := S.fn "is_row_holder" 16 (by decide)
  obtain ⟨⟨_, F_read_mark_words⟩, g_read_mark_words⟩ := S.fn "read_mark_words" 26 (by decide)
  obtain ⟨⟨_, F_read_path_words⟩, g_read_path_words⟩ := S.fn "read_path_words" 25 (by decide)
  obtain ⟨⟨_, F_are_labels⟩, g_are_labels⟩ := S.fn "are_labels" 20 (by decide)
  obtain ⟨⟨_, F_script_lines⟩, g_script_lines⟩ := S.fn "script_lines" 36 (by decide)
  obtain ⟨⟨_, F_command_lines⟩, g_command_lines⟩ := S.fn "command_lines" 35 (by decide)
  obtain ⟨⟨_, F_mark_words⟩, g_mark_words⟩ := S.fn "mark_words" 23 (by decide)
  obtain ⟨⟨_, F_path_words⟩, g_path_words⟩ := S.fn "path_words" 22 (by decide)
  obtain ⟨⟨_, F_is_script⟩, g_is_script⟩ := S.fn "is_script" 33 (by decide)
  obtain ⟨⟨_, F_is_command⟩, g_is_command⟩ := S.fn "is_command" 32 (by decide)
  obtain ⟨⟨_, F_is_mark_form⟩, g_is_mark_form⟩ := S.fn "is_mark_form" 21 (by decide)
  obtain ⟨⟨_, F_script_text⟩, g_script_text⟩ := S.fn "script_text" 37 (by decide)
  obtain ⟨⟨_, F_require_script⟩, g_require_script⟩ := S.fn "require_script" 34 (by decide)
  obtain ⟨⟨_, F__law_is_bent⟩, g__law_is_bent⟩ := S.fn "_law_is_bent" 56 (by decide)
  obtain ⟨⟨_, F__law_refused⟩, g__law_refused⟩ := S.fn "_law_refused" 55 (by decide)
  obtain ⟨⟨_, F__law_spoilt⟩, g__law_spoilt⟩ := S.fn "_law_spoilt" 57 (by decide)
  obtain ⟨⟨_, F__law_odd_texts⟩, g__law_odd_texts⟩ := S.fn "_law_odd_texts" 58 (by decide)
  have f_all := S.free "all" (by decide)
  have f_dict := S.free "dict" (by decide)
  have f_int := S.free "int" (by decide)
  have f_isinstance := S.free "isinstance" (by decide)
  have f_len := S.free "len" (by decide)
  have f_list := S.free "list" (by decide)
  have f_max := S.free "max" (by decide)
  have f_min := S.free "min" (by decide)
  have f_range := S.free "range" (by decide)
  have f_repr := S.free "repr" (by decide)
  have f_sorted := S.free "sorted" (by decide)
  have f_str := S.free "str" (by decide)
  have f_sum := S.free "sum" (by decide)
  have f_tuple := S.free "tuple" (by decide)
  have f_type := S.free "type" (by decide)
  have G__law_purses : FnOk P w K mg base CX0 2 _ _ ["_law_script_here", "_law_few"] (spPurses K) := ok_purses F__law_purses F__law_purse g__law_purse f_sum f_max f_min f_range f_len
  have G__law_one_of : FnOk P w K mg base CX0 3 _ _ ["_law_purse_here", "_law_some"] spOneOf := ok_oneOf F__law_one_of F__law_draw F__law_mixed g__law_draw g__law_mixed f_range f_len
  have G__law_drawn_prime : FnOk P w K mg base CX0 4 _ _ ["_law_purse_here"] spDp := ok_dp F__law_drawn_prime F__law_one_of G__law_one_of g__law_one_of
  have G__law_draw : FnOk P w K mg base CX0 2 _ _ ["_law_purse_here", "_law_many_here"] spDraw := ok_draw F__law_draw F__law_mixed g__law_mixed f_range
  have G__law_shuffled : FnOk P w K mg base CX0 3 _ _ ["_law_purse_here", "_law_some"] spShuf := ok_shuf F__law_shuffled F__law_draw G__law_draw g__law_draw f_len
  have G__law_told_dict : FnOk P w K mg base CX0 5 _ _ ["_law_purse_here", "_law_prime", "_law_names", "_law_word"] spTd := ok_td F__law_told_dict F__law_draw G__law_draw g__law_draw F__law_one_of G__law_one_of g__law_one_of F__law_shuffled G__law_shuffled g__law_shuffled f_int
  have G__law_command : FnOk P w K mg base CX0 10 _ _ ["_law_purse_here", "_law_prime", "_law_names", "_law_marks", "_law_deep"] (spLc 4) := (ok_lcAll F__law_command F__law_draw G__law_draw g__law_draw F__law_one_of G__law_one_of g__law_one_of F__law_told_dict G__law_told_dict g__law_told_dict g__law_command f_range 4)
  have G__law_many : FnOk P w K mg base CX0 5 _ _ ["_law_script_here"] (spMany 4) := (ok_manyAll F__law_many g__law_many f_len f_sum 4)
  have G__law_script : FnOk P w K mg base CX0 12 _ _ ["_law_purse_here", "_law_prime", "_law_names", "_law_marks", "_law_most"] spScr := ok_scr F__law_script F__law_draw G__law_draw g__law_draw F__law_command G__law_command g__law_command F__law_many G__law_many g__law_many f_range
  have G__law_sum_line : FnOk P w K mg base CX0 2 _ _ ["_law_some"] spSlw := ok_slw F__law_sum_line f_sorted f_str
  have G__law_script_lines : FnOk P w K mg base CX0 9 _ _ ["_law_script_here"] (spLsl 4) := (ok_lslAll F__law_script_lines g__law_script_lines F__law_sum_line G__law_sum_line g__law_sum_line f_str 4)
  have G_read_count : FnOk P w K mg base CX0 1 _ _ ["text"] spRc := ok_rc F_read_count f_all f_int f_len S.i_MOST_DIGITS S.i_DIGITS
  have G_read_sum : FnOk P w K mg base CX0 2 _ _ ["text"] spRs := ok_rs F_read_sum F_read_count G_read_count g_read_count
  have G_sum_words : FnOk P w K mg base CX0 1 _ _ ["wanted"] spSw := ok_sw F_sum_words f_sorted f_str
  have G_is_count : FnOk P w K mg base CX0 1 _ _ ["value"] spCountD := ok_countD F_is_count f_type f_int
  have G_is_name : FnOk P w K mg base CX0 1 _ _ ["value"] spNameT := ok_nameT F_is_name f_len f_type f_str S.i_LONGEST_NAME
  have G_is_row_holder : FnOk P w K mg base CX0 2 _ _ ["value"] spRh := ok_rh F_is_row_holder F_read_count G_read_count g_read_count f_str f_type
  have G_is_holder : FnOk P w K mg base CX0 3 _ _ ["value"] spHo := ok_ho F_is_holder F_is_name G_is_name g_is_name F_is_row_holder G_is_row_holder g_is_row_holder f_all f_str f_type
  have G_is_written_sum : FnOk P w K mg base CX0 4 _ _ ["value"] spWr := ok_wr F_is_written_sum F_is_count G_is_count g_is_count F_is_holder G_is_holder g_is_holder f_all f_dict f_type
  have G_read_sum_words : FnOk P w K mg base CX0 5 _ _ ["text"] spRw := ok_rw F_read_sum_words F_read_sum G_read_sum g_read_sum F_sum_words G_sum_words g_sum_words F_is_written_sum G_is_written_sum g_is_written_sum f_sorted
  have G_are_labels : FnOk P w K mg base CX0 2 _ _ ["value"] spLb := ok_lb F_are_labels F_is_name G_is_name g_is_name f_all f_tuple f_type
  have G_read_path_words : FnOk P w K mg base CX0 3 _ _ ["text"] spRp := ok_rp F_read_path_words F_are_labels G_are_labels g_are_labels f_tuple
  have G_read_mark_words : FnOk P w K mg base CX0 4 _ _ ["text"] spRm := ok_rm F_read_mark_words F_read_path_words G_read_path_words g_read_path_words F_is_name G_is_name g_is_name
  have G_read_command : FnOk P w K mg base CX0 6 _ _ ["line"] spRd := ok_rd F_read_command F_read_count G_read_count g_read_count F_read_sum_words G_read_sum_words g_read_sum_words F_read_mark_words G_read_mark_words g_read_mark_words S.g_LETTERS S.s_LETTERS S.g_WITH_SUMS S.s_WITH_SUMS
  have G_read_script_lines : FnOk P w K mg base CX0 7 _ _ ["lines"] spRl := ok_rl F_read_script_lines F_read_command G_read_command g_read_command
  have G_path_words : FnOk P w K mg base CX0 1 _ _ ["path"] spPw := ok_pw F_path_words
  have G_mark_words : FnOk P w K mg base CX0 2 _ _ ["mark"] spMw := ok_mw F_mark_words F_path_words G_path_words g_path_words
  have G_script_lines : FnOk P w K mg base CX0 124 _ _ ["script", "lead"] (spSl 60) := (ok_slAll F_command_lines F_script_lines g_script_lines F_sum_words G_sum_words g_sum_words F_mark_words G_mark_words g_mark_words S.i_LEAD S.g_LETTERS S.s_LETTERS S.g_WITH_SUMS S.s_WITH_SUMS g_command_lines 60).2
  have G_is_mark_form : FnOk P w K mg base CX0 3 _ _ ["value"] spMf := ok_mf F_is_mark_form F_are_labels G_are_labels g_are_labels F_is_name G_is_name g_is_name f_len f_tuple f_type
  have G_is_script : FnOk P w K mg base CX0 126 _ _ ["value"] (spSc 60) := (ok_scAll F_is_command F_is_mark_form G_is_mark_form g_is_mark_form F_is_count G_is_count g_is_count F_is_written_sum G_is_written_sum g_is_written_sum F_is_script g_is_script S.g_BARE S.s_BARE S.g_LETTERS S.s_LETTERS S.g_WITH_SUMS S.s_WITH_SUMS f_len f_str f_tuple f_type g_is_command f_all f_list 60).2
  have G_read_script : FnOk P w K mg base (L2.CX P w) 128 _ _ ["text"] (spRead (He.ga K "InvalidText")) := ok_read (S.bad "InvalidText" (by decide)) F_read_script F_read_script_lines G_read_script_lines g_read_script_lines F_script_lines G_script_lines g_script_lines F_is_script G_is_script g_is_script f_str f_type
  have G_require_script : FnOk P w K mg base CX0 127 _ _ ["script"] spRq := ok_rq F_require_script F_is_script G_is_script g_is_script
  have G_script_text : FnOk P w K mg base CX0 128 _ _ ["script"] spTx := ok_tx F_script_text F_require_script G_require_script g_require_script F_script_lines G_script_lines g_script_lines
  have G__law_refused : FnOk P w K mg base CX0 129 _ _ ["_law_text"] spRef := ok_ref S.txc S.gText F__law_refused F_read_script G_read_script g_read_script f_isinstance f_str
  have G__law_is_bent : FnOk P w K mg base CX0 131 _ _ ["_law_text"] spBent := ok_bent F__law_is_bent F_script_text G_script_text g_script_text F_read_script G_read_script g_read_script F__law_refused G__law_refused g__law_refused
  have G__law_spoilt : FnOk P w K mg base CX0 4 _ _ ["_law_purse_here", "_law_text", "_law_lines"] spSpo := ok_spo F__law_spoilt F__law_one_of G__law_one_of g__law_one_of F__law_draw G__law_draw g__law_draw f_int f_len f_range
  have G__law_odd_texts : FnOk P w K mg base CX0 1 _ _ ["_law_lines"] spOdd := ok_odd F__law_odd_texts
  exact ok_law F F__law_purses G__law_purses g__law_purses F__law_drawn_prime G__law_drawn_prime g__law_drawn_prime F__law_script G__law_script g__law_script F__law_script_lines G__law_script_lines g__law_script_lines F_read_script G_read_script g_read_script F_script_text G_script_text g_script_text F__law_is_bent G__law_is_bent g__law_is_bent F__law_spoilt G__law_spoilt g__law_spoilt F__law_refused G__law_refused g__law_refused F__law_odd_texts G__law_odd_texts g__law_odd_texts f_repr S.sy
end
theorem law_end {P : Program} {w : World} {mg mb : Str → Option Value} {fa a : Addr} {s1 : Shared} {vs : List Value} {ns : List Int} (Y : hk.says w s1.heap) (hmg : mg ("law" : Str) = some (.ref fa))
    (gm : s1.heap.Ns mainGlobals mg) (gb : s1.heap.Ns builtinsNs mb) (bb : ∀ x : Str, x ≠ "__name__" → mb x = bootBuiltins x) (lim : s1.heap.NoLimit) (gn : s1.gens = #[])
    (ha : s1.heap.get? a = some { cls := .type "list", data := .seq vs.toArray }) (hi : IntsAre vs ns) (hl : ns.length ≤ 63) :
    codeAny (model P w) callerA (.call (.ref fa) ⟨[.ref a], []⟩) (fun r s' => r = .ok (.ret (.bool true)) ∧ OldK s1.heap s'.heap ∧ s'.os = s1.os ∧ AllBare s'.gens) s1 := by
  obtain ⟨K, KX, c⟩ := Y
  have cd : He.SaysD Vb.fa fn K := c.t.d
  have S : ∀ base : Heap, Stands P w K mg base := fun base => stands_of gm KX c
  obtain ⟨fd, F⟩ := cd.defs (d := dG "law" 59) (List.mem_append_left _ (List.mem_map_of_mem (f := fun z : Str × Nat => dG z.1 z.2) (a := (("law" : Str), 59)) (by decide)))
  have g := ((S s1.heap).fn "law" 59 (by decide)).2
  have e := hmg.symm.trans g
  obtain rfl : fa = He.ga K "law" := by
    cases e
    rfl
  have b := FunD.bindsA (ps := ["_law_script_here"]) F fun _ _ _ _ _ _ us hl => match us, hl with | [_], _ => rfl
  exact topG (k := 132) (sp := spLaw K) KX gm gb bb lim gn ha hi (Nat.le_trans hl (by decide)) ⟨rfl, by decide, by decide⟩ (fun base _ _ => law_stands (S base) (fun_of F)) (fun s v => b s [v] rfl) fun H hS => ⟨a, ns, rfl, hS, hl, fun _ => rfl⟩
end Vb
end L2
open PySem PySem.W PySem.Calls PyProof.Rows
theorem PySem.Challenge.cw_truestops_k88_whole_script_texts_holds : PySem.Challenge.rw_truestops_k88_whole_script_texts.Holds := by
  w_on; o_law
  refine HandSHeadRun.head_imp (r := OpenLaw.row PySem.Challenge.rw_truestops_k88_whole_script_texts) (q := view (OpenLaw.row PySem.Challenge.rw_truestops_k88_whole_script_texts).prog [59]) (H := L2.Vb.hk) (ob := L2.Vb.ob) (M := 40000) (loose := L2.Vb.loose) (d := HandSHeadRun.topDef (OpenLaw.row PySem.Challenge.rw_truestops_k88_whole_script_texts).prog 59) (kwd := []) L2.Vb.ob_eq
    L2.Vb.run (by kernel_rfl) (by kernel_rfl) (by kernel_rfl) (by rfl) (by first | assumption | decide +kernel) (by decide +kernel) ⟨rfl, rfl, rfl, rfl, rfl, by decide +kernel⟩ ?hw ?hc
  case hw => w_witness2
  case hc =>
    refine Att.attach_call (l := PySem.Challenge.rw_truestops_k88_whole_script_texts) (n := 63) rfl (by kernel_rfl) fun w s₀ s₁ mg mb fa o pm cd doc a vs ns G Y ho hd hcd hmg hobj hints hlen hg => ?_
    have e : (HandSHeadRun.topDef (OpenLaw.row PySem.Challenge.rw_truestops_k88_whole_script_texts).prog 59).name = ("law" : PySem.Str) := by kernel_rfl
    rw [e] at hmg
    exact L2.Vb.law_end Y hmg G.T.g G.T.b G.T.builtins G.T.nolimit hg hobj hints hlen
