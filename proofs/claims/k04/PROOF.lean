import PyProof.Rows.All
import Wide.All
import OpenK.AllK
import Wide.FinOn
import KE.KStateDown
import Lean
import HandS.ForMost
import HandS.Exc
import HandS.ExcInit
import HandS.ExcIs
import HandS.IsInst
import HandS.Defaults
import HandS.Head0
import HandS.Head1
import HandS.Head2
import HandS.Head3
import HandS.HeadEnd
import HandS.HeadHook1
import HandS.HeadHook2
import HandS.HeadHook3
import HandS.HeadHook4
import PySem.Challenge.RW_truestops_k04_numbers_refused_and_by_nam
import KE.SortData
import HandS.SortInts
import KE.KMathG
import HandS.WideBits
import HandS.Wide
import HandS.Flow
import HandS.More
import HandS.Codes
import HandS.Text
import HandS.Walk
import PyProof.ZipIter
import HandS.Star
import KE.KStar
import PyProof.StrLawsRepr
import PyProof.Rows.NestFoldShow
import PyProof.NeKinds
import HandS.MakeKw
import KE.KIsAll
import KE.KTryMore
import HandS.ExcValue
import HandS.WordsExc
import KE.Datum
import HandS.ExcField
import HandS.Lambda
import OpenK.KMore
set_option Elab.async false
set_option linter.all false
/-! LinA: rows over a field, what they span, reduced rows: their shape is one alone. Rows are functions of the place. -/
namespace LinA
open Lean.Grind
universe u
variable {K : Type u} [CommRing K]
abbrev Row (K : Type u) : Type u := Nat → K
def zr : Row K := fun _ => 0
/-- c times v, and w -/
def ax (c : K) (v w : Row K) : Row K := fun j => c * v j + w j
/-- what rows span; the order of the rows doesn't matter -/
inductive Span (S : List (Row K)) : Row K → Prop
  | zero : Span S zr
  | add (c : K) (v w : Row K) : v ∈ S → Span S w → Span S (ax c v w)
theorem Span.mem {S : List (Row K)} {v : Row K} (h : v ∈ S) : Span S v := by
  have e : v = ax 1 v zr := by
    funext j
    show v j = 1 * v j + 0
    grind
  rw [e]
  exact .add 1 v zr h .zero
theorem Span.ax {S : List (Row K)} {v w : Row K} (c : K) (hv : Span S v) (hw : Span S w) : Span S (ax c v w) := by
  induction hv with
  | zero =>
    have e : LinA.ax c zr w = w := by
      funext j
      show c * 0 + w j = w j
      grind
    rw [e]
    exact hw
  | add d v1 w1 m1 h1 ih =>
    have e : LinA.ax c (LinA.ax d v1 w1) w = LinA.ax (c * d) v1 (LinA.ax c w1 w) := by
      funext j
      show c * (d * v1 j + w1 j) + w j = c * d * v1 j + (c * w1 j + w j)
      grind
    rw [e]
    exact .add _ _ _ m1 ih
theorem Span.sub {S T : List (Row K)} (h : ∀ v ∈ S, Span T v) {v : Row K} (hv : Span S v) : Span T v := by
  induction hv with
  | zero => exact .zero
  | add c v w m h1 ih => exact .ax c (h v m) ih
theorem Span.mono {S T : List (Row K)} (h : ∀ v ∈ S, v ∈ T) {v : Row K} (hv : Span S v) : Span T v := hv.sub fun v m => .mem (h v m)
/-- two lists of rows span the same -/
def Same (S T : List (Row K)) : Prop := ∀ v, Span S v ↔ Span T v
theorem Same.of {S T : List (Row K)} (h1 : ∀ v ∈ S, Span T v) (h2 : ∀ v ∈ T, Span S v) : Same S T := fun _ => ⟨fun h => h.sub h1, fun h => h.sub h2⟩
theorem Same.rfl {S : List (Row K)} : Same S S := fun _ => Iff.rfl
theorem Same.symm {S T : List (Row K)} (h : Same S T) : Same T S := fun v => (h v).symm
theorem Same.trans {S T U : List (Row K)} (h : Same S T) (k : Same T U) : Same S U := fun v => (h v).trans (k v)
theorem Same.perm {S T : List (Row K)} (h : S.Perm T) : Same S T := fun _ => ⟨fun z => z.mono fun _ m => h.mem_iff.mp m, fun z => z.mono fun _ m => h.mem_iff.mpr m⟩
/-- more rows out of the span change nothing -/
theorem Same.more {S T : List (Row K)} (h : ∀ v ∈ T, Span S v) : Same (S ++ T) S := .of (fun v m => (List.mem_append.mp m).elim .mem (h v)) fun _ m => .mem (List.mem_append_left _ m)
/-! ### reduced rows, each with its top -/
abbrev Tops (K : Type u) : Type u := List (Row K × Nat)
structure Rref (P : Tops K) : Prop where
  one : ∀ x ∈ P, x.1 x.2 = 1
  low : ∀ x ∈ P, ∀ j, j < x.2 → x.1 j = 0
  two : P.Pairwise fun x y => x.2 < y.2 ∧ x.1 y.2 = 0
abbrev rows (P : Tops K) : List (Row K) := P.map (·.1)
abbrev tops (P : Tops K) : List Nat := P.map (·.2)
theorem Rref.tail {x : Row K × Nat} {P : Tops K} (h : Rref (x :: P)) : Rref P := ⟨fun y m => h.one y (List.mem_cons_of_mem _ m), fun y m => h.low y (List.mem_cons_of_mem _ m), (List.pairwise_cons.mp h.two).2⟩
/-- at another's top a row is 0 -/
theorem Rref.off {P : Tops K} (h : Rref P) : ∀ x ∈ P, ∀ y ∈ P, x.2 ≠ y.2 → x.1 y.2 = 0 := by
  induction P with
  | nil => exact fun x m => (List.not_mem_nil m).elim
  | cons z P ih =>
    intro x mx y my ne
    obtain ⟨h1, h2⟩ := List.pairwise_cons.mp h.two
    rcases List.mem_cons.mp mx with qx | qx
    · rcases List.mem_cons.mp my with qy | qy
      · exact absurd (by rw [qx, qy]) ne
      · rw [qx]
        exact (h1 y qy).2
    · rcases List.mem_cons.mp my with qy | qy
      · rw [qy]
        exact h.low x (List.mem_cons_of_mem _ qx) _ (h1 x qx).1
      · exact ih h.tail x qx y qy ne
/-- the same top, the same row -/
theorem Rref.inj {P : Tops K} (h : Rref P) : ∀ x ∈ P, ∀ y ∈ P, x.2 = y.2 → x = y := by
  induction P with
  | nil => exact fun x m => (List.not_mem_nil m).elim
  | cons z P ih =>
    intro x mx y my e
    obtain ⟨h1, h2⟩ := List.pairwise_cons.mp h.two
    rcases List.mem_cons.mp mx with qx | qx
    · rcases List.mem_cons.mp my with qy | qy
      · rw [qx, qy]
      · have z1 := (h1 y qy).1
        rw [qx] at e
        omega
    · rcases List.mem_cons.mp my with qy | qy
      · have z1 := (h1 x qx).1
        rw [qy] at e
        omega
      · exact ih h.tail x qx y qy e
/-- v's numbers at the tops, put onto the rows -/
def coord (v : Row K) : Tops K → Row K
  | [] => zr
  | x :: P => ax (v x.2) x.1 (coord v P)
theorem coord_zero (P : Tops K) : coord (zr : Row K) P = zr := by
  induction P with
  | nil => rfl
  | cons x P ih =>
    funext j
    show (0 : K) * x.1 j + coord zr P j = 0
    rw [ih]
    show (0 : K) * x.1 j + 0 = 0
    grind
theorem coord_ax (c : K) (v w : Row K) (P : Tops K) : coord (ax c v w) P = ax c (coord v P) (coord w P) := by
  induction P with
  | nil =>
    funext j
    show (0 : K) = c * 0 + 0
    grind
  | cons x P ih =>
    funext j
    show (c * v x.2 + w x.2) * x.1 j + coord (ax c v w) P j = c * (v x.2 * x.1 j + coord v P j) + (w x.2 * x.1 j + coord w P j)
    rw [ih]
    show (c * v x.2 + w x.2) * x.1 j + (c * coord v P j + coord w P j) = _
    grind
/-- only the numbers at the tops count -/
theorem coord_congr {v w : Row K} {P : Tops K} (h : ∀ x ∈ P, v x.2 = w x.2) : coord v P = coord w P := by
  induction P with
  | nil => rfl
  | cons x P ih =>
    show ax (v x.2) x.1 (coord v P) = ax (w x.2) x.1 (coord w P)
    rw [h x List.mem_cons_self, ih fun y m => h y (List.mem_cons_of_mem _ m)]
theorem coord_none {v : Row K} {P : Tops K} (h : ∀ x ∈ P, v x.2 = 0) : coord v P = zr := by
  rw [coord_congr (w := zr) h, coord_zero]
theorem coord_mem {P : Tops K} (h : Rref P) : ∀ x ∈ P, coord x.1 P = x.1 := by
  induction P with
  | nil => exact fun x m => (List.not_mem_nil m).elim
  | cons z P ih =>
    intro x mx
    obtain ⟨h1, h2⟩ := List.pairwise_cons.mp h.two
    rcases List.mem_cons.mp mx with qx | qx
    · rw [qx]
      show ax (z.1 z.2) z.1 (coord z.1 P) = z.1
      rw [coord_none fun y m => (h1 y m).2, h.one z List.mem_cons_self]
      funext j
      show 1 * z.1 j + 0 = z.1 j
      grind
    · show ax (x.1 z.2) z.1 (coord x.1 P) = x.1
      rw [ih h.tail x qx, h.low x mx _ (h1 x qx).1]
      funext j
      show 0 * z.1 j + x.1 j = x.1 j
      grind
/-- what reduced rows span is told by its numbers at the tops -/
theorem span_coord {P : Tops K} (h : Rref P) {v : Row K} (hv : Span (rows P) v) : coord v P = v := by
  induction hv with
  | zero => exact coord_zero P
  | add c v w m hw ih =>
    obtain ⟨x, mx, rfl⟩ := List.mem_map.mp m
    rw [coord_ax, ih, coord_mem h x mx]
theorem coord_span (v : Row K) : ∀ P Q : Tops K, (∀ x ∈ P, x ∈ Q) → Span (rows Q) (coord v P)
  | [], _, _ => .zero
  | x :: P, Q, h => .add _ _ _ (List.mem_map_of_mem (f := fun x : Row K × Nat => x.1) (h x List.mem_cons_self)) (coord_span v P Q fun y m => h y (List.mem_cons_of_mem _ m))
/-- the first place where it isn't 0 -/
def Lead (v : Row K) (t : Nat) : Prop := v t ≠ 0 ∧ ∀ j, j < t → v j = 0
theorem Lead.uniq {v : Row K} {s t : Nat} (h : Lead v s) (k : Lead v t) : s = t := by
  rcases Nat.lt_trichotomy s t with q | q | q
  · exact absurd (k.2 s q) h.1
  · exact q
  · exact absurd (h.2 t q) k.1
theorem coord_low {v : Row K} {j : Nat} : ∀ {P : Tops K}, (∀ x ∈ P, v x.2 = 0 ∨ x.1 j = 0) → coord v P j = 0
  | [], _ => rfl
  | x :: P, h => by
    show v x.2 * x.1 j + coord v P j = 0
    rw [coord_low fun y m => h y (List.mem_cons_of_mem _ m)]
    rcases h x List.mem_cons_self with q | q
    · rw [q]
      grind
    · rw [q]
      grind
/-- the first place of what is spanned is a top -/
theorem lead_top {P : Tops K} (h : Rref P) {v : Row K} (hv : Span (rows P) v) {t : Nat} (l : Lead v t) : t ∈ tops P := by
  have e := span_coord h hv
  refine Classical.byContradiction fun no => l.1 ?_
  rw [← e]
  refine coord_low fun x m => ?_
  rcases Nat.lt_trichotomy x.2 t with q | q | q
  · exact .inl (l.2 _ q)
  · exact absurd (List.mem_map.mpr ⟨x, m, q⟩) no
  · exact .inr (h.low x m t q)
theorem Rref.lead {P : Tops K} (h : Rref P) (h01 : (1 : K) ≠ 0) {x : Row K × Nat} (m : x ∈ P) : Lead x.1 x.2 := ⟨by rw [h.one x m]; exact h01, h.low x m⟩
theorem tops_sub {P Q : Tops K} (hP : Rref P) (hQ : Rref Q) (h01 : (1 : K) ≠ 0) (s : ∀ v, Span (rows P) v → Span (rows Q) v) : ∀ t ∈ tops P, t ∈ tops Q := fun t m => by
  obtain ⟨x, mx, rfl⟩ := List.mem_map.mp m
  exact lead_top hQ (s _ (.mem (List.mem_map_of_mem (f := fun x : Row K × Nat => x.1) mx))) (hP.lead h01 mx)
theorem tops_nodup {P : Tops K} (h : Rref P) : (tops P).Nodup := by
  have z : P.Pairwise fun x y => x.2 ≠ y.2 := h.two.imp fun q => Nat.ne_of_lt q.1
  exact List.Pairwise.map _ (fun _ _ q => q) z
theorem nodup_len {a b : List Nat} (n : a.Nodup) (h : ∀ x ∈ a, x ∈ b) : a.length ≤ b.length := by
  induction a generalizing b with
  | nil => exact Nat.zero_le _
  | cons x a ih =>
    obtain ⟨n1, n2⟩ := List.nodup_cons.mp n
    have mx := h x List.mem_cons_self
    have z := ih (b := b.erase x) n2 fun y my => (List.mem_erase_of_ne (a := y) (b := x) fun q => n1 (by rw [← q]; exact my)).mpr (h y (List.mem_cons_of_mem _ my))
    rw [List.length_erase_of_mem mx] at z
    have p := List.length_pos_of_mem mx
    show a.length + 1 ≤ b.length
    omega
/-- fewer spanned, fewer rows -/
theorem rank_le {P Q : Tops K} (hP : Rref P) (hQ : Rref Q) (h01 : (1 : K) ≠ 0) (s : ∀ v, Span (rows P) v → Span (rows Q) v) : P.length ≤ Q.length := by
  have z := nodup_len (tops_nodup hP) (tops_sub hP hQ h01 s)
  simpa using z
theorem mem_of_same {P Q : Tops K} (hP : Rref P) (hQ : Rref Q) (h01 : (1 : K) ≠ 0) (s : Same (rows P) (rows Q)) : ∀ x ∈ P, x ∈ Q := fun x mx => by
  obtain ⟨y, my, ey⟩ := List.mem_map.mp (tops_sub hP hQ h01 (fun v => (s v).mp) x.2 (List.mem_map_of_mem (f := fun x : Row K × Nat => x.2) mx))
  have sy : Span (rows P) y.1 := (s _).mpr (.mem (List.mem_map_of_mem (f := fun x : Row K × Nat => x.1) my))
  have e : y.1 = x.1 := by
    rw [← span_coord hP sy, ← coord_mem hP x mx]
    refine coord_congr fun z mz => ?_
    obtain ⟨u, mu, eu⟩ := List.mem_map.mp (tops_sub hP hQ h01 (fun v => (s v).mp) z.2 (List.mem_map_of_mem (f := fun x : Row K × Nat => x.2) mz))
    by_cases q : z.2 = x.2
    · rw [hP.inj z mz x mx q, hP.one x mx, ← ey]
      exact hQ.one y my
    · rw [hP.off x mx z mz (Ne.symm q), ← eu]
      exact hQ.off y my u mu fun w => q (by rw [← eu, ← ey, w])
  have e2 : x = y := Prod.ext e.symm ey.symm
  rw [e2]
  exact my
theorem sorted_eq {P Q : Tops K} (h : P.Pairwise fun x y => x.2 < y.2) (k : Q.Pairwise fun x y => x.2 < y.2) (a : ∀ x ∈ P, x ∈ Q) (b : ∀ x ∈ Q, x ∈ P) : P = Q := by
  induction P generalizing Q with
  | nil =>
    cases Q with
    | nil => rfl
    | cons y Q => exact (List.not_mem_nil (b y List.mem_cons_self)).elim
  | cons x P ih =>
    cases Q with
    | nil => exact (List.not_mem_nil (a x List.mem_cons_self)).elim
    | cons y Q =>
      obtain ⟨h1, h2⟩ := List.pairwise_cons.mp h
      obtain ⟨k1, k2⟩ := List.pairwise_cons.mp k
      have e : x = y := by
        rcases List.mem_cons.mp (a x List.mem_cons_self) with q | q
        · exact q
        · rcases List.mem_cons.mp (b y List.mem_cons_self) with r | r
          · exact r.symm
          · have z1 := k1 x q
            have z2 := h1 y r
            omega
      subst e
      rw [ih h2 k2 (fun z m => ?_) fun z m => ?_]
      · rcases List.mem_cons.mp (a z (List.mem_cons_of_mem _ m)) with q | q
        · have z1 := h1 z m
          rw [q] at z1
          omega
        · exact q
      · rcases List.mem_cons.mp (b z (List.mem_cons_of_mem _ m)) with q | q
        · have z1 := k1 z m
          rw [q] at z1
          omega
        · exact q
/-- the reduced rows of a span are one alone -/
theorem rref_one {P Q : Tops K} (hP : Rref P) (hQ : Rref Q) (h01 : (1 : K) ≠ 0) (s : Same (rows P) (rows Q)) : P = Q :=
  sorted_eq (hP.two.imp fun q => q.1) (hQ.two.imp fun q => q.1) (mem_of_same hP hQ h01 s) (mem_of_same hQ hP h01 s.symm)
/-! ### the way there, place by place -/
/-- behind the places below c: P are done, R are 0 there -/
structure Upto (P : Tops K) (R : List (Row K)) (c : Nat) : Prop where
  rr : Rref P
  lt : ∀ x ∈ P, x.2 < c
  low : ∀ v ∈ R, ∀ j, j < c → v j = 0
theorem Upto.start (R : List (Row K)) : Upto ([] : Tops K) R 0 := ⟨⟨fun x m => (List.not_mem_nil m).elim, fun x m => (List.not_mem_nil m).elim, .nil⟩, fun x m => (List.not_mem_nil m).elim, fun v m j h => (Nat.not_lt_zero j h).elim⟩
theorem Upto.none {P : Tops K} {R : List (Row K)} {c : Nat} (h : Upto P R c) (z : ∀ v ∈ R, v c = 0) : Upto P R (c + 1) := ⟨h.rr, fun x m => Nat.lt_succ_of_lt (h.lt x m), fun v m j hj => by
  rcases Nat.lt_succ_iff_lt_or_eq.mp hj with q | q
  · exact h.low v m j q
  · rw [q]
    exact z v m⟩
/-- v, less v's number at c times a -/
def less (a : Row K) (c : Nat) (v : Row K) : Row K := ax (-(v c)) a v
theorem less_at {a : Row K} {c : Nat} (h : a c = 1) (v : Row K) : less a c v c = 0 := by
  show -(v c) * a c + v c = 0
  rw [h]
  grind
theorem less_low {a v : Row K} {c j : Nat} (h : a j = 0) : less a c v j = v j := by
  show -(v c) * a j + v j = v j
  rw [h]
  grind
theorem less_none {a v : Row K} {c : Nat} (h : v c = 0) : less a c v = v := by
  funext j
  show -(v c) * a j + v j = v j
  rw [h]
  grind
abbrev lessP (a : Row K) (c : Nat) (P : Tops K) : Tops K := P.map fun x => (less a c x.1, x.2)
/-- a row of the rest, scaled to 1 at c, is taken out and off all others -/
theorem Upto.found {P : Tops K} {R : List (Row K)} {a : Row K} {c : Nat} (h : Upto P R c) (ha : a c = 1) (low : ∀ j, j < c → a j = 0) : Upto (lessP a c P ++ [(a, c)]) (R.map (less a c)) (c + 1) := by
  have offA : ∀ x ∈ P, a x.2 = 0 := fun x m => low _ (h.lt x m)
  refine ⟨⟨fun x m => ?_, fun x m j hj => ?_, ?_⟩, fun x m => ?_, fun v m j hj => ?_⟩
  · rcases List.mem_append.mp m with q | q
    · obtain ⟨y, my, rfl⟩ := List.mem_map.mp q
      exact (less_low (offA y my)).trans (h.rr.one y my)
    · rw [List.mem_singleton.mp q]
      exact ha
  · rcases List.mem_append.mp m with q | q
    · obtain ⟨y, my, rfl⟩ := List.mem_map.mp q
      have lt := h.lt y my
      exact (less_low (low j (Nat.lt_trans hj lt))).trans (h.rr.low y my j hj)
    · rw [List.mem_singleton.mp q] at hj ⊢
      exact low j hj
  · refine List.pairwise_append.mpr ⟨?_, List.pairwise_singleton _ _, fun x m y my => ?_⟩
    · refine List.pairwise_map.mpr ?_
      have z : P.Pairwise fun x y => y ∈ P ∧ (x.2 < y.2 ∧ x.1 y.2 = 0) := by
        refine List.pairwise_iff_forall_sublist.mpr fun {x y} sl => ⟨sl.subset (by simp), List.pairwise_iff_forall_sublist.mp h.rr.two sl⟩
      exact z.imp fun {x y} q => ⟨q.2.1, (less_low (offA y q.1)).trans q.2.2⟩
    · rw [List.mem_singleton.mp my]
      obtain ⟨u, mu, rfl⟩ := List.mem_map.mp m
      exact ⟨h.lt u mu, less_at ha u.1⟩
  · rcases List.mem_append.mp m with q | q
    · obtain ⟨y, my, rfl⟩ := List.mem_map.mp q
      exact Nat.lt_succ_of_lt (h.lt y my)
    · rw [List.mem_singleton.mp q]
      exact Nat.lt_succ_self c
  · obtain ⟨u, mu, rfl⟩ := List.mem_map.mp m
    rcases Nat.lt_succ_iff_lt_or_eq.mp hj with q | q
    · exact (less_low (low j q)).trans (h.low u mu j q)
    · rw [q]
      exact less_at ha u
theorem less_back {a : Row K} {c : Nat} (v : Row K) : v = ax (v c) a (less a c v) := by
  funext j
  show v j = v c * a j + (-(v c) * a j + v j)
  grind
/-- taking a row off others leaves the span -/
theorem same_less {S T : List (Row K)} {a : Row K} {c : Nat} (ha : a ∈ S) (hb : a ∈ T) (h1 : ∀ v ∈ S, v = a ∨ less a c v ∈ T) (h2 : ∀ v ∈ T, v = a ∨ ∃ u ∈ S, v = less a c u) : Same S T := by
  refine .of (fun v m => ?_) fun v m => ?_
  · rcases h1 v m with q | q
    · rw [q]
      exact .mem hb
    · rw [less_back (a := a) (c := c) v]
      exact .ax _ (.mem hb) (.mem q)
  · rcases h2 v m with q | ⟨u, mu, q⟩
    · rw [q]
      exact .mem ha
    · rw [q]
      exact .ax _ (.mem ha) (.mem mu)
/-- scaling one row by what has an inverse leaves the span -/
theorem same_scale {S : List (Row K)} {b : Row K} {s t : K} (h : t * s = 1) : Same (b :: S) (ax s b zr :: S) := by
  refine .of (fun v m => ?_) fun v m => ?_
  · rcases List.mem_cons.mp m with q | q
    · have e : v = ax t (ax s b zr) zr := by
        funext j
        show v j = t * (s * b j + 0) + 0
        have e2 : t * (s * b j + 0) + 0 = (t * s) * b j := by grind
        rw [e2, h, q]
        grind
      rw [e]
      exact .ax _ (.mem List.mem_cons_self) .zero
    · exact .mem (List.mem_cons_of_mem _ q)
  · rcases List.mem_cons.mp m with q | q
    · rw [q]
      exact .ax _ (.mem List.mem_cons_self) .zero
    · exact .mem (List.mem_cons_of_mem _ q)
/-- a row of 0 brings nothing -/
theorem same_zeros {S T : List (Row K)} (h : ∀ v ∈ T, v = zr) : Same (S ++ T) S := .more fun v m => by
  rw [h v m]
  exact .zero
end LinA

set_option Elab.async false
set_option linter.all false
/-! LinZ: lists of numbers below p as rows. -/
namespace LinA
open Lean.Grind
universe u
/-- a number among the numbers of K -/
def ic (K : Type u) [CommRing K] (a : Int) : K := @Int.cast K Ring.intCast a
theorem ic_add {K : Type u} [CommRing K] (a b : Int) : ic K (a + b) = ic K a + ic K b := Ring.intCast_add a b
theorem ic_mul {K : Type u} [CommRing K] (a b : Int) : ic K (a * b) = ic K a * ic K b := Ring.intCast_mul a b
theorem ic_sub {K : Type u} [CommRing K] (a b : Int) : ic K (a - b) = ic K a - ic K b := Ring.intCast_sub a b
theorem ic_neg {K : Type u} [CommRing K] (a : Int) : ic K (-a) = -ic K a := Ring.intCast_neg a
theorem ic_one {K : Type u} [CommRing K] : ic K 1 = 1 := Ring.intCast_one
theorem ic_zero {K : Type u} [CommRing K] : ic K 0 = 0 := Ring.intCast_zero
/-- a list of numbers as a row; behind its end 0 -/
def row (K : Type u) [CommRing K] (xs : List Int) : Row K := fun j => ic K (xs.getD j 0)
/-- L numbers, each below p -/
def Vec (p : Nat) (L : Nat) (xs : List Int) : Prop := xs.length = L ∧ ∀ x ∈ xs, 0 ≤ x ∧ x < (p : Int)
section
variable {K : Type u} [CommRing K] {p : Nat} [IsCharP K p]
theorem cast_mod (a : Int) : ic K (a % (p : Int)) = (ic K a) := (IsCharP.intCast_ext_iff p).mpr (Int.emod_emod_of_dvd a (Int.dvd_refl _))
theorem cast_eq {a b : Int} (h : (ic K a) = (ic K b)) (a0 : 0 ≤ a) (a1 : a < p) (b0 : 0 ≤ b) (b1 : b < p) : a = b := by
  have z := (IsCharP.intCast_ext_iff p).mp h
  rwa [Int.emod_eq_of_lt a0 a1, Int.emod_eq_of_lt b0 b1] at z
theorem cast_zero {a : Int} (a0 : 0 ≤ a) (a1 : a < p) : (ic K a) = 0 ↔ a = 0 := by
  show (@Int.cast K Ring.intCast a = 0) ↔ _
  rw [IsCharP.intCast_eq_zero_iff p, Int.emod_eq_of_lt a0 a1]
theorem one_ne (h : 1 < p) : (1 : K) ≠ 0 := fun e => by
  have z : ic K (1) = 0 := by
    rw [ic_one]
    exact e
  rw [cast_zero (p := p) (by omega) (by omega)] at z
  cases z
theorem getD_lt {xs : List Int} {j : Nat} (h : j < xs.length) : xs.getD j 0 = xs[j] := by
  rw [List.getD_eq_getElem?_getD, List.getElem?_eq_getElem h]
  rfl
theorem getD_ge {xs : List Int} {j : Nat} (h : xs.length ≤ j) : xs.getD j 0 = 0 := by
  rw [List.getD_eq_getElem?_getD, List.getElem?_eq_none h]
  rfl
theorem row_ge {xs : List Int} {j : Nat} (h : xs.length ≤ j) : row K xs j = 0 := by
  show ic K (xs.getD j 0) = 0
  rw [getD_ge h]
  exact ic_zero
theorem row_eq {L : Nat} {xs ys : List Int} (hx : Vec p L xs) (hy : Vec p L ys) (h : row K xs = row K ys) : xs = ys := by
  refine List.ext_getElem (hx.1.trans hy.1.symm) fun j h1 h2 => ?_
  have z : ic K (xs.getD j 0) = ic K (ys.getD j 0) := congrFun h j
  rw [getD_lt h1, getD_lt h2] at z
  obtain ⟨a0, a1⟩ := hx.2 _ (List.getElem_mem h1)
  obtain ⟨b0, b1⟩ := hy.2 _ (List.getElem_mem h2)
  exact cast_eq z a0 a1 b0 b1
/-- two lists of one length, number by number: u + f v -/
theorem row_zip {f : Int} {g : Int → Int → Int} (hg : ∀ a b, ic K (g a b) = (ic K f) * (ic K b) + (ic K a)) {xs ys : List Int} (hl : xs.length = ys.length) : row K (List.zipWith g xs ys) = ax (ic K f) (row K ys) (row K xs) := by
  funext j
  show ic K ((List.zipWith g xs ys).getD j 0) = (ic K f) * ic K (ys.getD j 0) + ic K (xs.getD j 0)
  by_cases h : j < xs.length
  · have h2 : j < ys.length := by omega
    have h3 : j < (List.zipWith g xs ys).length := by
      rw [List.length_zipWith]
      omega
    rw [getD_lt h, getD_lt h2, getD_lt h3, List.getElem_zipWith]
    exact hg _ _
  · have h2 : ys.length ≤ j := by omega
    have h3 : (List.zipWith g xs ys).length ≤ j := by
      rw [List.length_zipWith]
      omega
    rw [getD_ge (Nat.le_of_not_lt h), getD_ge h2, getD_ge h3, ic_zero]
    grind
/-- (a + f b) % p -/
theorem row_more {f : Int} {xs ys : List Int} (hl : xs.length = ys.length) : row K (List.zipWith (fun a b => (a + f * b) % (p : Int)) xs ys) = ax (ic K f) (row K ys) (row K xs) := row_zip (fun a b => by
  rw [cast_mod (p := p), ic_add, ic_mul]
  grind) hl
/-- (a - f b) % p -/
theorem row_less {f : Int} {xs ys : List Int} (hl : xs.length = ys.length) : row K (List.zipWith (fun a b => (a - f * b) % (p : Int)) xs ys) = ax (-(ic K f)) (row K ys) (row K xs) := by
  have z := row_zip (K := K) (f := -f) (g := fun a b => (a - f * b) % (p : Int)) (fun a b => by
    rw [cast_mod (p := p), ic_sub, ic_mul, ic_neg]
    grind) hl
  rw [z, ic_neg]
theorem row_scale {s : Int} {xs : List Int} : row K (xs.map fun n => n * s % (p : Int)) = ax (ic K s) (row K xs) zr := by
  funext j
  show ic K ((xs.map fun n => n * s % (p : Int)).getD j 0) = (ic K s) * ic K (xs.getD j 0) + 0
  by_cases h : j < xs.length
  · rw [getD_lt h, getD_lt (by rw [List.length_map]; exact h), List.getElem_map, cast_mod (p := p), ic_mul]
    grind
  · rw [getD_ge (Nat.le_of_not_lt h), getD_ge (by rw [List.length_map]; omega), ic_zero]
    grind
end
/-! ### rows stay below p -/
section
variable {p L : Nat}
theorem mod_in (hp : 0 < p) (a : Int) : 0 ≤ a % (p : Int) ∧ a % (p : Int) < (p : Int) := ⟨Int.emod_nonneg _ (by omega), Int.emod_lt_of_pos _ (by omega)⟩
theorem vec_zip (hp : 0 < p) {h : Int → Int → Int} {xs ys : List Int} (hx : xs.length = L) (hy : ys.length = L) : Vec p L (List.zipWith (fun a b => h a b % (p : Int)) xs ys) := ⟨by rw [List.length_zipWith, hx, hy, Nat.min_self], fun z m => by
  obtain ⟨i, hi, e⟩ := List.mem_iff_getElem.mp m
  rw [← e, List.getElem_zipWith]
  exact mod_in hp _⟩
theorem vec_map (hp : 0 < p) {h : Int → Int} {xs : List Int} (hx : xs.length = L) : Vec p L (xs.map fun a => h a % (p : Int)) := ⟨by rw [List.length_map, hx], fun z m => by
  obtain ⟨a, _, e⟩ := List.mem_map.mp m
  rw [← e]
  exact mod_in hp _⟩
end
/-! ### one place of the way -/
/-- a row less its number at c times the lead -/
def lessZ (p : Nat) (lead : List Int) (c : Nat) (xs : List Int) : List Int := if xs.getD c 0 = 0 then xs else List.zipWith (fun a b => (a - xs.getD c 0 * b) % (p : Int)) xs lead
def scaleZ (p : Nat) (s : Int) (xs : List Int) : List Int := xs.map fun n => n * s % (p : Int)
section
variable {K : Type u} [CommRing K] {p : Nat} [IsCharP K p] {L : Nat}
theorem row_lessZ {lead xs : List Int} {c : Nat} (hl : xs.length = lead.length) : row K (lessZ p lead c xs) = less (row K lead) c (row K xs) := by
  unfold lessZ
  by_cases h : xs.getD c 0 = 0
  · rw [if_pos h]
    refine (less_none ?_).symm
    show ic K (xs.getD c 0) = 0
    rw [h, ic_zero]
  · rw [if_neg h, row_less hl]
    rfl
omit [IsCharP K p] in
theorem vec_lessZ (hp : 0 < p) {lead xs : List Int} {c : Nat} (hx : Vec p L xs) (hl : lead.length = L) : Vec p L (lessZ p lead c xs) := by
  unfold lessZ
  by_cases h : xs.getD c 0 = 0
  · rw [if_pos h]
    exact hx
  · rw [if_neg h]
    exact vec_zip hp (h := fun a b => a - xs.getD c 0 * b) hx.1 hl
abbrev rowsOf (K : Type u) [CommRing K] (T : List (List Int)) : List (Row K) := T.map (row K)
/-- what stands behind the places below c: D are done with their tops t, E is the rest; V was given -/
structure Way (K : Type u) [CommRing K] (p L : Nat) (V D E : List (List Int)) (t : List Nat) (c : Nat) : Prop where
  vd : ∀ xs ∈ D, Vec p L xs
  ve : ∀ xs ∈ E, Vec p L xs
  len : D.length = t.length
  up : Upto ((rowsOf K D).zip t) (rowsOf K E) c
  same : Same (rowsOf K (D ++ E)) (rowsOf K V)
omit [IsCharP K p] in
theorem Way.start {V : List (List Int)} (h : ∀ xs ∈ V, Vec p L xs) : Way K p L V [] V [] 0 := ⟨fun xs m => (List.not_mem_nil m).elim, h, rfl, Upto.start _, Same.rfl⟩
omit [IsCharP K p] in
theorem Way.none {V D E : List (List Int)} {t : List Nat} {c : Nat} (w : Way K p L V D E t c) (h : ∀ xs ∈ E, xs.getD c 0 = 0) : Way K p L V D E t (c + 1) := ⟨w.vd, w.ve, w.len, w.up.none fun v m => by
  obtain ⟨xs, mx, rfl⟩ := List.mem_map.mp m
  show ic K (xs.getD c 0) = 0
  rw [h xs mx, ic_zero], w.same⟩
theorem zip_less {a : List Int} {c : Nat} : ∀ {D : List (List Int)} {t : List Nat}, (∀ xs ∈ D, xs.length = a.length) → (rowsOf K (D.map (lessZ p a c))).zip t = lessP (row K a) c ((rowsOf K D).zip t)
  | [], _, _ => rfl
  | xs :: D, [], _ => rfl
  | xs :: D, y :: t, h => by
    show (row K (lessZ p a c xs), y) :: (rowsOf K (D.map (lessZ p a c))).zip t = (less (row K a) c (row K xs), y) :: lessP (row K a) c ((rowsOf K D).zip t)
    rw [row_lessZ (h xs List.mem_cons_self), zip_less fun z m => h z (List.mem_cons_of_mem _ m)]
/-- a row b of the rest, not 0 at c, scaled by s; E' is what else is left, in any order -/
theorem Way.found {V D E E' : List (List Int)} {t : List Nat} {c : Nat} {b : List Int} {s : Int} (hp : 1 < p) (w : Way K p L V D E t c) (pm : E.Perm (b :: E')) (hs : b.getD c 0 * s % (p : Int) = 1) :
    Way K p L V (D.map (lessZ p (scaleZ p s b) c) ++ [scaleZ p s b]) (E'.map (lessZ p (scaleZ p s b) c)) (t ++ [c]) (c + 1) := by
  have p0 : 0 < p := by omega
  have mb : b ∈ E := pm.mem_iff.mpr List.mem_cons_self
  have me : ∀ xs ∈ E', xs ∈ E := fun xs m => pm.mem_iff.mpr (List.mem_cons_of_mem _ m)
  have vb := w.ve b mb
  have vl : Vec p L (scaleZ p s b) := vec_map p0 (h := fun n => n * s) vb.1
  have eD : ∀ xs ∈ D, xs.length = (scaleZ p s b).length := fun xs m => (w.vd xs m).1.trans vl.1.symm
  have eE : ∀ xs ∈ E', xs.length = (scaleZ p s b).length := fun xs m => (w.ve xs (me xs m)).1.trans vl.1.symm
  have rl : row K (scaleZ p s b) = ax (ic K s) (row K b) zr := row_scale (p := p)
  have unit : ic K (b.getD c 0) * (ic K s) = 1 := by
    rw [← ic_mul, ← cast_mod (p := p), hs, ic_one]
  have one : row K (scaleZ p s b) c = 1 := by
    rw [rl]
    show (ic K s) * ic K (b.getD c 0) + 0 = 1
    grind
  have low : ∀ j, j < c → row K (scaleZ p s b) j = 0 := fun j hj => by
    have z : row K b j = 0 := w.up.low _ (List.mem_map_of_mem mb) j hj
    rw [rl]
    show (ic K s) * row K b j + 0 = 0
    rw [z]
    grind
  have upE : Upto ((rowsOf K D).zip t) (rowsOf K E') c := ⟨w.up.rr, w.up.lt, fun v m j hj => by
    obtain ⟨xs, mx, rfl⟩ := List.mem_map.mp m
    exact w.up.low _ (List.mem_map_of_mem (me xs mx)) j hj⟩
  have up := upE.found one low
  refine ⟨fun xs m => ?_, fun xs m => ?_, ?_, ?_, ?_⟩
  · rcases List.mem_append.mp m with q | q
    · obtain ⟨ys, my, rfl⟩ := List.mem_map.mp q
      exact vec_lessZ p0 (w.vd ys my) vl.1
    · rw [List.mem_singleton.mp q]
      exact vl
  · obtain ⟨ys, my, rfl⟩ := List.mem_map.mp m
    exact vec_lessZ p0 (w.ve ys (me ys my)) vl.1
  · rw [List.length_append, List.length_append, List.length_map, w.len]
    rfl
  · have e1 : (rowsOf K (D.map (lessZ p (scaleZ p s b) c) ++ [scaleZ p s b])).zip (t ++ [c]) = lessP (row K (scaleZ p s b)) c ((rowsOf K D).zip t) ++ [(row K (scaleZ p s b), c)] := by
      rw [show rowsOf K (D.map (lessZ p (scaleZ p s b) c) ++ [scaleZ p s b]) = rowsOf K (D.map (lessZ p (scaleZ p s b) c)) ++ [row K (scaleZ p s b)] from List.map_append, List.zip_append (by rw [List.length_map, List.length_map, w.len]), zip_less eD]
      rfl
    have e2 : rowsOf K (E'.map (lessZ p (scaleZ p s b) c)) = (rowsOf K E').map (less (row K (scaleZ p s b)) c) := by
      show (E'.map (lessZ p (scaleZ p s b) c)).map (row K) = (E'.map (row K)).map (less (row K (scaleZ p s b)) c)
      rw [List.map_map, List.map_map]
      exact List.map_congr_left fun xs m => row_lessZ (eE xs m)
    rw [e1, e2]
    exact up
  · refine Same.trans ?_ w.same
    have s1 : Same (rowsOf K (D ++ E)) (row K b :: rowsOf K (D ++ E')) := .perm (by
      refine (((List.Perm.refl D).append pm).map (row K)).trans ?_
      exact (List.perm_middle (l₁ := D) (l₂ := E') (a := b)).map (row K))
    have s2 : Same (row K b :: rowsOf K (D ++ E')) (ax (ic K s) (row K b) zr :: rowsOf K (D ++ E')) := same_scale unit
    rw [← rl] at s2
    have s3 : Same (row K (scaleZ p s b) :: rowsOf K (D ++ E')) (rowsOf K ((D.map (lessZ p (scaleZ p s b) c) ++ [scaleZ p s b]) ++ E'.map (lessZ p (scaleZ p s b) c))) := by
      have inB : row K (scaleZ p s b) ∈ rowsOf K ((D.map (lessZ p (scaleZ p s b) c) ++ [scaleZ p s b]) ++ E'.map (lessZ p (scaleZ p s b) c)) := List.mem_map_of_mem (by simp)
      refine same_less (a := row K (scaleZ p s b)) (c := c) List.mem_cons_self inB (fun v m => ?_) fun v m => ?_
      · rcases List.mem_cons.mp m with q | q
        · exact .inl q
        · obtain ⟨xs, mx, rfl⟩ := List.mem_map.mp q
          refine .inr ?_
          rcases List.mem_append.mp mx with r | r
          · rw [← row_lessZ (eD xs r)]
            exact List.mem_map_of_mem (List.mem_append_left _ (List.mem_append_left _ (List.mem_map_of_mem r)))
          · rw [← row_lessZ (eE xs r)]
            exact List.mem_map_of_mem (List.mem_append_right _ (List.mem_map_of_mem r))
      · obtain ⟨xs, mx, rfl⟩ := List.mem_map.mp m
        rcases List.mem_append.mp mx with r | r
        · rcases List.mem_append.mp r with r | r
          · obtain ⟨ys, my, rfl⟩ := List.mem_map.mp r
            exact .inr ⟨row K ys, List.mem_cons_of_mem _ (List.mem_map_of_mem (List.mem_append_left _ my)), row_lessZ (eD ys my)⟩
          · rw [List.mem_singleton.mp r]
            exact .inl rfl
        · obtain ⟨ys, my, rfl⟩ := List.mem_map.mp r
          exact .inr ⟨row K ys, List.mem_cons_of_mem _ (List.mem_map_of_mem (List.mem_append_right _ my)), row_lessZ (eE ys my)⟩
    exact ((s1.trans s2).trans s3).symm
/-- at the end: D spans what was given, and is reduced -/
theorem Way.fin {V D E : List (List Int)} {t : List Nat} (w : Way K p L V D E t L) : Rref ((rowsOf K D).zip t) ∧ Same (rowsOf K D) (rowsOf K V) ∧ rows ((rowsOf K D).zip t) = rowsOf K D := by
  refine ⟨w.up.rr, ?_, ?_⟩
  · refine Same.trans (Same.symm ?_) w.same
    rw [show rowsOf K (D ++ E) = rowsOf K D ++ rowsOf K E from List.map_append]
    refine same_zeros fun v m => ?_
    obtain ⟨xs, mx, rfl⟩ := List.mem_map.mp m
    funext j
    by_cases q : j < L
    · exact w.up.low _ m j q
    · exact row_ge (by rw [(w.ve xs mx).1]; omega)
  · exact List.map_fst_zip (by rw [List.length_map, w.len]; exact Nat.le_refl _)
end
end LinA

set_option Elab.async false
set_option linter.all false
/-! LinF: a number below a prime, to the prime less one, leaves 1. -/
namespace LinA
theorem cop {p k : Nat} (hp : ∀ d, 2 ≤ d → d < p → p % d ≠ 0) (k0 : 0 < k) (kp : k < p) : Nat.Coprime p k := by
  have g0 : 0 < Nat.gcd p k := Nat.gcd_pos_of_pos_right p k0
  have gk : Nat.gcd p k ≤ k := Nat.le_of_dvd k0 (Nat.gcd_dvd_right p k)
  have gp : p % Nat.gcd p k = 0 := Nat.mod_eq_zero_of_dvd (Nat.gcd_dvd_left p k)
  show Nat.gcd p k = 1
  rcases Nat.lt_or_ge (Nat.gcd p k) 2 with h | h
  · omega
  · exact absurd gp (hp _ h (by omega))
theorem len_nodup {a b : List Nat} (n : a.Nodup) (h : ∀ x ∈ a, x ∈ b) : a.length ≤ b.length := by
  induction a generalizing b with
  | nil => exact Nat.zero_le _
  | cons x a ih =>
    obtain ⟨n1, n2⟩ := List.nodup_cons.mp n
    have mx := h x List.mem_cons_self
    have z := ih (b := b.erase x) n2 fun y my => (List.mem_erase_of_ne (a := y) (b := x) fun q => n1 (by rw [← q]; exact my)).mpr (h y (List.mem_cons_of_mem _ my))
    rw [List.length_erase_of_mem mx] at z
    have p := List.length_pos_of_mem mx
    show a.length + 1 ≤ b.length
    omega
theorem perm_nodup {a b : List Nat} (n : a.Nodup) (m : b.Nodup) (h : ∀ x ∈ a, x ∈ b) (l : b.length ≤ a.length) : a.Perm b := by
  refine (List.perm_ext_iff_of_nodup n m).mpr fun x => ⟨h x, fun mx => ?_⟩
  refine Classical.byContradiction fun no => ?_
  have z := len_nodup (b := b.erase x) n fun y my => (List.mem_erase_of_ne (a := y) (b := x) fun q => no (by rw [← q]; exact my)).mpr (h y my)
  rw [List.length_erase_of_mem mx] at z
  have p := List.length_pos_of_mem mx
  omega
def prodL : List Nat → Nat
  | [] => 1
  | x :: xs => x * prodL xs
theorem prodL_perm {a b : List Nat} (h : a.Perm b) : prodL a = prodL b := by
  induction h with
  | nil => rfl
  | cons x _ ih => exact congrArg (x * ·) ih
  | swap x y l =>
    show y * (x * prodL l) = x * (y * prodL l)
    exact Nat.mul_left_comm y x (prodL l)
  | trans _ _ i j => exact i.trans j
theorem prodL_map (p a : Nat) : ∀ l : List Nat, prodL (l.map fun k => a * k % p) % p = a ^ l.length * prodL l % p
  | [] => by
    show 1 % p = a ^ 0 * 1 % p
    rw [Nat.pow_zero]
  | k :: l => by
    show (a * k % p) * prodL (l.map fun k => a * k % p) % p = a ^ (l.length + 1) * (k * prodL l) % p
    rw [Nat.mul_mod, Nat.mod_mod, prodL_map p a l, ← Nat.mul_mod]
    congr 1
    rw [Nat.pow_succ]
    grind
theorem prodL_cop {p : Nat} : ∀ {l : List Nat}, (∀ k ∈ l, Nat.Coprime p k) → Nat.Coprime p (prodL l)
  | [], _ => Nat.coprime_one_right p
  | k :: l, h => Nat.Coprime.mul_right (h k List.mem_cons_self) (prodL_cop fun x m => h x (List.mem_cons_of_mem _ m))
theorem fermat {p a : Nat} (hp : ∀ d, 2 ≤ d → d < p → p % d ≠ 0) (h2 : 2 ≤ p) (a0 : 0 < a) (ap : a < p) : a ^ (p - 1) % p = 1 := by
  have ca := cop hp a0 ap
  let L : List Nat := List.range' 1 (p - 1)
  have mL : ∀ k, k ∈ L ↔ 1 ≤ k ∧ k < p := fun k => by
    show k ∈ List.range' 1 (p - 1) ↔ _
    rw [List.mem_range'_1]
    omega
  have lL : L.length = p - 1 := List.length_range'
  have nL : L.Nodup := List.nodup_range' 1 (by decide)
  have key : ∀ x y, x ≤ y → y < p → a * x % p = a * y % p → x = y := fun x y xy yp e => by
    have d : p ∣ a * (y - x) := by
      rw [Nat.mul_sub]
      exact Nat.dvd_of_mod_eq_zero (Nat.sub_mod_eq_zero_of_mod_eq e.symm)
    have d2 : p ∣ y - x := ca.dvd_of_dvd_mul_left d
    rcases Nat.eq_zero_or_pos (y - x) with z | z
    · omega
    · have := Nat.le_of_dvd z d2
      omega
  have nM : (L.map fun k => a * k % p).Nodup := by
    refine List.pairwise_map.mpr (nL.imp_of_mem fun {x y} mx my ne e => ne ?_)
    rcases Nat.le_total x y with q | q
    · exact key x y q ((mL y).mp my).2 e
    · exact (key y x q ((mL x).mp mx).2 e.symm).symm
  have sub : ∀ x ∈ L.map fun k => a * k % p, x ∈ L := fun x mx => by
    obtain ⟨k, mk, rfl⟩ := List.mem_map.mp mx
    obtain ⟨k0, kp⟩ := (mL k).mp mk
    refine (mL _).mpr ⟨?_, Nat.mod_lt _ (by omega)⟩
    rcases Nat.eq_zero_or_pos (a * k % p) with z | z
    · have d : p ∣ k := ca.dvd_of_dvd_mul_left (Nat.dvd_of_mod_eq_zero z)
      have := Nat.le_of_dvd k0 d
      omega
    · exact z
  have pm := prodL_perm (perm_nodup nM nL sub (by rw [List.length_map]; exact Nat.le_refl _))
  have e := prodL_map p a L
  rw [pm, lL] at e
  have cF : Nat.Coprime p (prodL L) := prodL_cop fun k mk => cop hp ((mL k).mp mk).1 ((mL k).mp mk).2
  have a1 : 1 ≤ a ^ (p - 1) := Nat.pow_pos a0
  have d : p ∣ prodL L * (a ^ (p - 1) - 1) := by
    rw [Nat.mul_sub, Nat.mul_one, Nat.mul_comm (prodL L)]
    exact Nat.dvd_of_mod_eq_zero (Nat.sub_mod_eq_zero_of_mod_eq e.symm)
  have d2 : p ∣ a ^ (p - 1) - 1 := cF.dvd_of_dvd_mul_left d
  obtain ⟨c, hc⟩ := d2
  have e2 : a ^ (p - 1) = 1 + p * c := by omega
  rw [e2, Nat.add_mul_mod_self_left]
  exact Nat.mod_eq_of_lt (by omega)
end LinA

set_option Elab.async false
set_option linter.all false
/-! LinS: all that vectors span, as one sorted list; sums of vectors by factors; how many there are. -/
namespace LinA
open Lean.Grind
/-! ### a sorted list without doubles -/
def stepU (acc : List (List Int)) (x : List Int) : List (List Int) := if acc.getLast? = some x then acc else acc ++ [x]
structure Asc (xs : List (List Int)) : Prop where
  nd : xs.Nodup
  le : xs.Pairwise (· ≤ ·)
theorem Asc.nil : Asc [] := ⟨List.nodup_nil, .nil⟩
theorem Asc.eq {xs ys : List (List Int)} (h : Asc xs) (k : Asc ys) (m : ∀ v, v ∈ xs ↔ v ∈ ys) : xs = ys :=
  ((List.perm_ext_iff_of_nodup h.nd k.nd).mpr m).eq_of_pairwise (fun _ _ _ _ p q => List.le_antisymm p q) h.le k.le
theorem le_last {acc : List (List Int)} {z : List Int} (h : acc.Pairwise (· ≤ ·)) (e : acc.getLast? = some z) : ∀ a ∈ acc, a ≤ z := by
  obtain ⟨ys, rfl⟩ := List.getLast?_eq_some_iff.mp e
  intro a m
  rcases List.mem_append.mp m with q | q
  · exact (List.pairwise_append.mp h).2.2 a q z (by simp)
  · rw [List.mem_singleton.mp q]
    exact List.le_refl z
theorem stepU_asc {acc : List (List Int)} {x : List Int} (h : Asc acc) (u : ∀ a ∈ acc, a ≤ x) : Asc (stepU acc x) ∧ ∀ v, v ∈ stepU acc x ↔ v ∈ acc ∨ v = x := by
  unfold stepU
  by_cases e : acc.getLast? = some x
  · rw [if_pos e]
    refine ⟨h, fun v => ⟨.inl, fun m => m.elim id fun q => ?_⟩⟩
    rw [q]
    exact List.mem_of_getLast? e
  · rw [if_neg e]
    refine ⟨⟨List.nodup_append.mpr ⟨h.nd, by simp, fun a ma b mb q => ?_⟩, List.pairwise_append.mpr ⟨h.le, by simp, fun a ma b mb => ?_⟩⟩, fun v => by simp⟩
    · rw [List.mem_singleton.mp mb] at q
      subst q
      cases hl : acc.getLast? with
      | none =>
        rw [List.getLast?_eq_none_iff.mp hl] at ma
        cases ma
      | some z =>
        have z1 := le_last h.le hl a ma
        have z2 := u z (List.mem_of_getLast? hl)
        rw [List.le_antisymm z1 z2] at e
        exact e hl
    · rw [List.mem_singleton.mp mb]
      exact u a ma
theorem foldU : ∀ {xs acc : List (List Int)}, Asc acc → xs.Pairwise (· ≤ ·) → (∀ a ∈ acc, ∀ x ∈ xs, a ≤ x) → Asc (xs.foldl stepU acc) ∧ ∀ v, v ∈ xs.foldl stepU acc ↔ v ∈ acc ∨ v ∈ xs
  | [], acc, h, _, _ => ⟨h, fun v => by simp⟩
  | x :: xs, acc, h, p, u => by
    obtain ⟨p1, p2⟩ := List.pairwise_cons.mp p
    obtain ⟨a1, m1⟩ := stepU_asc h fun a ma => u a ma x List.mem_cons_self
    obtain ⟨a2, m2⟩ := foldU (xs := xs) a1 p2 fun a ma y my => by
      rcases (m1 a).mp ma with q | q
      · exact u a q y (List.mem_cons_of_mem _ my)
      · rw [q]
        exact p1 y my
    refine ⟨a2, fun v => ?_⟩
    show v ∈ xs.foldl stepU (stepU acc x) ↔ _
    rw [m2, m1, List.mem_cons, _root_.or_assoc]
/-- what unlike tells of a sorted list -/
def uniqU (xs : List (List Int)) : List (List Int) := xs.foldl stepU []
theorem uniqU_asc {xs : List (List Int)} (p : xs.Pairwise (· ≤ ·)) : Asc (uniqU xs) ∧ ∀ v, v ∈ uniqU xs ↔ v ∈ xs := by
  obtain ⟨a, m⟩ := foldU (xs := xs) Asc.nil p fun a ma => nomatch ma
  exact ⟨a, fun v => by rw [uniqU, m]; simp⟩
theorem stepU_len (acc : List (List Int)) (x : List Int) : (stepU acc x).length ≤ acc.length + 1 := by
  unfold stepU
  split
  · omega
  · simp
theorem foldU_len : ∀ (xs acc : List (List Int)), (xs.foldl stepU acc).length ≤ acc.length + xs.length
  | [], acc => by simp
  | x :: xs, acc => by
    have z := foldU_len xs (stepU acc x)
    have y := stepU_len acc x
    show (xs.foldl stepU (stepU acc x)).length ≤ acc.length + (xs.length + 1)
    omega
theorem uniqU_len (xs : List (List Int)) : (uniqU xs).length ≤ xs.length := by
  have z := foldU_len xs []
  show (xs.foldl stepU []).length ≤ xs.length
  simpa using z
theorem uniqU_len_take (xs : List (List Int)) (k : Nat) : ((xs.take k).foldl stepU []).length ≤ xs.length := by
  have z := foldU_len (xs.take k) []
  have y : (xs.take k).length ≤ xs.length := by rw [List.length_take]; omega
  simp at z y
  omega
/-! ### sums -/
section
variable {K : Type} [CommRing K]
theorem span_snoc {S : List (Row K)} {v w : Row K} : Span (S ++ [v]) w ↔ ∃ c u, Span S u ∧ w = ax c v u := by
  constructor
  · intro h
    induction h with
    | zero =>
      refine ⟨0, zr, .zero, ?_⟩
      funext j
      show (0 : K) = 0 * v j + 0
      grind
    | add d x w' m _ ih =>
      obtain ⟨c, u, hu, rfl⟩ := ih
      rcases List.mem_append.mp m with q | q
      · refine ⟨c, ax d x u, .ax d (.mem q) hu, ?_⟩
        funext j
        show d * x j + (c * v j + u j) = c * v j + (d * x j + u j)
        grind
      · rw [List.mem_singleton.mp q]
        refine ⟨d + c, u, hu, ?_⟩
        funext j
        show d * v j + (c * v j + u j) = (d + c) * v j + u j
        grind
  · rintro ⟨c, u, hu, rfl⟩
    exact .ax c (.mem (by simp)) (hu.mono fun x m => List.mem_append_left _ m)
theorem span_nil {w : Row K} : Span [] w ↔ w = zr := by
  constructor
  · intro h
    cases h with
    | zero => rfl
    | add c v w m _ => exact nomatch m
  · intro h
    rw [h]
    exact .zero
/-- rows, each times its factor -/
def comb : List (Row K) → List Int → Row K
  | v :: vs, c :: cs => ax (ic K c) v (comb vs cs)
  | _, _ => zr
theorem comb_span : ∀ (vs : List (Row K)) (cs : List Int), Span vs (comb vs cs)
  | [], _ => .zero
  | _ :: _, [] => .zero
  | v :: vs, c :: cs => .ax _ (.mem List.mem_cons_self) ((comb_span vs cs).mono fun x m => List.mem_cons_of_mem _ m)
end
def addF (p : Nat) (acc : List Int) (z : List Int × Int) : List Int := List.zipWith (fun a b => (a + z.2 * b) % (p : Int)) acc z.1
/-- vectors, each times its factor, as the law adds them up -/
def sumZ (p L : Nat) (T : List (List Int)) (fs : List Int) : List Int := (T.zip fs).foldl (addF p) (List.replicate L 0)
section
variable {p L : Nat}
theorem zeros_vec (h : 0 < p) : Vec p L (List.replicate L 0) := ⟨List.length_replicate, fun x m => by
  rw [(List.mem_replicate.mp m).2]
  omega⟩
theorem fold_vec (h : 0 < p) : ∀ {zs : List (List Int × Int)} {acc : List Int}, Vec p L acc → (∀ z ∈ zs, Vec p L z.1) → Vec p L (zs.foldl (addF p) acc)
  | [], acc, v, _ => v
  | z :: zs, acc, v, k => fold_vec h (zs := zs) (vec_zip h (h := fun a b => a + z.2 * b) v.1 (k z List.mem_cons_self).1) fun y m => k y (List.mem_cons_of_mem _ m)
theorem sumZ_vec (h : 0 < p) {T : List (List Int)} {fs : List Int} (hT : ∀ xs ∈ T, Vec p L xs) : Vec p L (sumZ p L T fs) := fold_vec h (zeros_vec h) fun z m => hT _ (List.of_mem_zip m).1
end
section
variable {K : Type} [CommRing K] {p : Nat} [IsCharP K p] {L : Nat}
theorem row_zeros : row K (List.replicate L 0) = zr := by
  funext j
  show ic K ((List.replicate L 0).getD j 0) = 0
  rw [List.getD_eq_getElem?_getD, List.getElem?_replicate]
  by_cases h : j < L
  · rw [if_pos h]
    exact ic_zero
  · rw [if_neg h]
    exact ic_zero
theorem fold_row (h : 0 < p) : ∀ {zs : List (List Int × Int)} {acc : List Int}, Vec p L acc → (∀ z ∈ zs, Vec p L z.1) → ∀ j, row K (zs.foldl (addF p) acc) j = row K acc j + comb (zs.map fun z => row K z.1) (zs.map (·.2)) j
  | [], acc, v, _, j => by
    show row K acc j = row K acc j + 0
    grind
  | z :: zs, acc, v, k, j => by
    have kz := k z List.mem_cons_self
    have va : Vec p L (addF p acc z) := vec_zip h (h := fun a b => a + z.2 * b) v.1 kz.1
    show row K (zs.foldl (addF p) (addF p acc z)) j = _
    rw [fold_row h (zs := zs) va (fun y m => k y (List.mem_cons_of_mem _ m)) j]
    have e : row K (addF p acc z) = ax (ic K z.2) (row K z.1) (row K acc) := row_more (v.1.trans kz.1.symm)
    rw [e]
    show (ic K z.2 * row K z.1 j + row K acc j) + comb _ _ j = row K acc j + (ic K z.2 * row K z.1 j + comb _ _ j)
    grind
theorem zip_maps {T : List (List Int)} {fs : List Int} (e : T.length = fs.length) : ((T.zip fs).map fun z => row K z.1) = rowsOf K T ∧ (T.zip fs).map (·.2) = fs := by
  constructor
  · have z : (T.zip fs).map (fun z => row K z.1) = ((T.zip fs).map (·.1)).map (row K) := by rw [List.map_map]; rfl
    rw [z, List.map_fst_zip (Nat.le_of_eq e)]
  · exact List.map_snd_zip (Nat.le_of_eq e.symm)
theorem sumZ_row (h : 0 < p) {T : List (List Int)} {fs : List Int} (hT : ∀ xs ∈ T, Vec p L xs) (e : T.length = fs.length) : row K (sumZ p L T fs) = comb (rowsOf K T) fs := by
  funext j
  rw [sumZ, fold_row h (zeros_vec h) (fun z m => hT _ (List.of_mem_zip m).1), (zip_maps (K := K) e).1, (zip_maps (K := K) e).2, row_zeros]
  show (0 : K) + _ = _
  grind
end
end LinA

set_option Elab.async false
set_option linter.all false
/-! LinT: what vectors span by numbers below p; spans in Fin p; bases: one alone, how many sums. -/
namespace LinA
open Lean.Grind
/-- what S adds up to by factors -/
def InS (p L : Nat) (S : List (List Int)) (xs : List Int) : Prop := ∃ fs, Vec p S.length fs ∧ xs = sumZ p L S fs
def IsSpan (p L : Nat) (S found : List (List Int)) : Prop := Asc found ∧ ∀ xs, xs ∈ found ↔ InS p L S xs
section
variable {p L : Nat}
theorem zip_snoc {α β : Type} {a : List α} {b : List β} (h : a.length = b.length) (x : α) (y : β) : (a ++ [x]).zip (b ++ [y]) = a.zip b ++ [(x, y)] := by
  rw [List.zip_append h]
  rfl
theorem sumZ_snoc {S : List (List Int)} {fs : List Int} (h : S.length = fs.length) (v : List Int) (f : Int) : sumZ p L (S ++ [v]) (fs ++ [f]) = addF p (sumZ p L S fs) (v, f) := by
  unfold sumZ
  rw [zip_snoc h, List.foldl_append]
  rfl
theorem add_zeros {xs : List Int} (h : Vec p L xs) : addF p (List.replicate L 0) (xs, 1) = xs := by
  have e : addF p (List.replicate L 0) (xs, 1) = List.zipWith (fun a b => (a + 1 * b) % (p : Int)) (List.replicate L 0) xs := rfl
  rw [e]
  refine List.ext_getElem ?_ fun j h1 h2 => ?_
  · rw [List.length_zipWith, List.length_replicate, h.1, Nat.min_self]
  · rw [List.getElem_zipWith, List.getElem_replicate]
    obtain ⟨a0, a1⟩ := h.2 _ (List.getElem_mem h2)
    rw [Int.zero_add, Int.one_mul, Int.emod_eq_of_lt a0 a1]
theorem sumZ_two {one v : List Int} (h : Vec p L one) (f : Int) : sumZ p L [one, v] [1, f] = addF p one (v, f) := by
  show addF p (addF p (List.replicate L 0) (one, 1)) (v, f) = _
  rw [add_zeros h]
theorem InS.vec (hp : 0 < p) {S : List (List Int)} {xs : List Int} (hS : ∀ v ∈ S, Vec p L v) (h : InS p L S xs) : Vec p L xs := by
  obtain ⟨fs, _, rfl⟩ := h
  exact sumZ_vec hp hS
theorem span_start : IsSpan p L [] [List.replicate L 0] := ⟨⟨by simp, by simp⟩, fun xs => by
  constructor
  · intro m
    exact ⟨[], ⟨rfl, fun x m => nomatch m⟩, List.mem_singleton.mp m⟩
  · rintro ⟨fs, ⟨h1, _⟩, rfl⟩
    rw [List.eq_nil_of_length_eq_zero h1]
    exact List.mem_singleton.mpr rfl⟩
/-- all ones and multiples of v below k -/
def moreZ (p L : Nat) (v : List Int) (found : List (List Int)) (k : Nat) : List (List Int) := (List.range k).flatMap fun f : Nat => found.map fun one => sumZ p L [one, v] [1, (f : Int)]
theorem moreZ_succ (v : List Int) (found : List (List Int)) (k : Nat) : moreZ p L v found (k + 1) = moreZ p L v found k ++ found.map fun one => sumZ p L [one, v] [1, (k : Int)] := by
  unfold moreZ
  rw [List.range_succ, List.flatMap_append]
  simp
theorem moreZ_len (v : List Int) (found : List (List Int)) : ∀ k : Nat, (moreZ p L v found k).length = k * found.length
  | 0 => by simp [moreZ]
  | k + 1 => by
    rw [moreZ_succ, List.length_append, moreZ_len v found k, List.length_map, Nat.succ_mul]
theorem span_step (hp : 0 < p) {S found sorted : List (List Int)} {v : List Int} (hS : ∀ v ∈ S, Vec p L v) (hv : Vec p L v) (h : IsSpan p L S found) (pm : sorted.Perm (moreZ p L v found p)) (le : sorted.Pairwise (· ≤ ·)) : IsSpan p L (S ++ [v]) (uniqU sorted) := by
  obtain ⟨a, m⟩ := uniqU_asc le
  refine ⟨a, fun xs => ?_⟩
  rw [m, pm.mem_iff]
  unfold moreZ
  rw [List.mem_flatMap]
  constructor
  · rintro ⟨f, mf, mx⟩
    obtain ⟨one, mo, rfl⟩ := List.mem_map.mp mx
    obtain ⟨fs, hf, rfl⟩ := (h.2 one).mp mo
    refine ⟨fs ++ [(f : Int)], ⟨by rw [List.length_append, List.length_append, hf.1]; rfl, fun x m => ?_⟩, ?_⟩
    · rcases List.mem_append.mp m with q | q
      · exact hf.2 x q
      · rw [List.mem_singleton.mp q]
        have := List.mem_range.mp mf
        omega
    · rw [sumZ_snoc hf.1.symm, sumZ_two (sumZ_vec hp hS)]
  · rintro ⟨fs, hf, rfl⟩
    have l1 : fs.length = S.length + 1 := by rw [hf.1, List.length_append]; rfl
    have e : fs = fs.dropLast ++ [fs.getLast (by intro z; rw [z] at l1; cases l1)] := (List.dropLast_concat_getLast _).symm
    generalize hl : fs.getLast _ = f at e
    have mf : f ∈ fs := by rw [← hl]; exact List.getLast_mem _
    obtain ⟨f0, f1⟩ := hf.2 f mf
    have ld : fs.dropLast.length = S.length := by rw [List.length_dropLast, l1]; rfl
    have hd : Vec p S.length fs.dropLast := ⟨ld, fun x m => hf.2 x (List.dropLast_subset _ m)⟩
    refine ⟨f.toNat, List.mem_range.mpr (by omega), List.mem_map.mpr ⟨sumZ p L S fs.dropLast, (h.2 _).mpr ⟨_, hd, rfl⟩, ?_⟩⟩
    have ef : ((f.toNat : Nat) : Int) = f := Int.toNat_of_nonneg f0
    rw [sumZ_two (sumZ_vec hp hS), ef]
    conv => rhs; rw [e]
    rw [sumZ_snoc ld.symm]
/-! ### in Fin p -/
theorem ic_val [NeZero p] (c : Fin p) : ic (Fin p) (c.val : Int) = c := by
  show @Int.cast (Fin p) Ring.intCast (c.val : Int) = c
  rw [@Ring.intCast_natCast (Fin p) _ c.val]
  exact Fin.ofNat_val_eq_self c
theorem span_cons {K : Type} [CommRing K] {S : List (Row K)} {v w : Row K} : Span (v :: S) w ↔ ∃ c u, Span S u ∧ w = ax c v u := by
  rw [← span_snoc]
  exact Same.perm (by simpa using (List.perm_append_comm (l₁ := [v]) (l₂ := S))) w
theorem span_comb [NeZero p] : ∀ {T : List (List Int)} {w : Row (Fin p)}, Span (rowsOf (Fin p) T) w → ∃ fs, Vec p T.length fs ∧ w = comb (rowsOf (Fin p) T) fs
  | [], w, h => ⟨[], ⟨rfl, fun x m => nomatch m⟩, span_nil.mp h⟩
  | v :: T, w, h => by
    obtain ⟨c, u, hu, rfl⟩ := span_cons.mp h
    obtain ⟨fs, hf, rfl⟩ := span_comb hu
    refine ⟨(c.val : Int) :: fs, ⟨by rw [List.length_cons, hf.1]; rfl, fun x m => ?_⟩, ?_⟩
    · rcases List.mem_cons.mp m with q | q
      · rw [q]
        have := c.isLt
        omega
      · exact hf.2 x q
    · show ax c (row (Fin p) v) (comb _ fs) = ax (ic (Fin p) (c.val : Int)) (row (Fin p) v) (comb _ fs)
      rw [ic_val]
theorem inS_iff [NeZero p] {T : List (List Int)} {xs : List Int} (hT : ∀ v ∈ T, Vec p L v) : InS p L T xs ↔ Vec p L xs ∧ Span (rowsOf (Fin p) T) (row (Fin p) xs) := by
  have hp : 0 < p := Nat.pos_of_ne_zero (NeZero.ne p)
  constructor
  · intro h
    refine ⟨h.vec hp hT, ?_⟩
    obtain ⟨fs, hf, rfl⟩ := h
    rw [sumZ_row hp hT hf.1.symm]
    exact comb_span _ _
  · rintro ⟨hx, h⟩
    obtain ⟨fs, hf, e⟩ := span_comb h
    refine ⟨fs, hf, row_eq (K := Fin p) hx (sumZ_vec hp hT) ?_⟩
    rw [sumZ_row hp hT hf.1.symm]
    exact e
end
end LinA

set_option Elab.async false
set_option linter.all false
/-! LinU: bases in numbers: one alone, coordinates, how many sums; a place's clearing in the list. -/
namespace LinA
open Lean.Grind
structure Bas (p L : Nat) (T B : List (List Int)) (t : List Nat) : Prop where
  vec : ∀ xs ∈ B, Vec p L xs
  len : B.length = t.length
  top : ∀ c ∈ t, c < L
  one : ∀ x ∈ B.zip t, x.1.getD x.2 0 = 1
  low : ∀ x ∈ B.zip t, ∀ j, j < x.2 → x.1.getD j 0 = 0
  two : (B.zip t).Pairwise fun x y => x.2 < y.2 ∧ x.1.getD y.2 0 = 0
  same : ∀ xs, InS p L B xs ↔ InS p L T xs
abbrev topsOf (p : Nat) [NeZero p] (B : List (List Int)) (t : List Nat) : Tops (Fin p) := (rowsOf (Fin p) B).zip t
section
variable {p L : Nat}
theorem zip_rows [NeZero p] (B : List (List Int)) (t : List Nat) : topsOf p B t = (B.zip t).map fun x => (row (Fin p) x.1, x.2) := by
  show (B.map (row (Fin p))).zip t = _
  rw [List.zip_map_left]
  rfl
theorem inS_sub [NeZero p] {S T : List (List Int)} (hS : ∀ v ∈ S, Vec p L v) (hT : ∀ v ∈ T, Vec p L v) (h : ∀ v ∈ S, InS p L T v) {xs : List Int} (k : InS p L S xs) : InS p L T xs := by
  obtain ⟨a, b⟩ := (inS_iff hS).mp k
  refine (inS_iff hT).mpr ⟨a, b.sub fun v m => ?_⟩
  obtain ⟨ys, my, rfl⟩ := List.mem_map.mp m
  exact ((inS_iff hT).mp (h ys my)).2
theorem inS_mem [NeZero p] {S : List (List Int)} (hS : ∀ v ∈ S, Vec p L v) {v : List Int} (m : v ∈ S) : InS p L S v := (inS_iff hS).mpr ⟨hS v m, .mem (List.mem_map_of_mem m)⟩
theorem same_of [NeZero p] {S T : List (List Int)} (hS : ∀ v ∈ S, Vec p L v) (hT : ∀ v ∈ T, Vec p L v) (h : ∀ xs, InS p L S xs ↔ InS p L T xs) : Same (rowsOf (Fin p) S) (rowsOf (Fin p) T) := by
  refine .of (fun v m => ?_) fun v m => ?_
  · obtain ⟨ys, my, rfl⟩ := List.mem_map.mp m
    exact ((inS_iff hT).mp ((h ys).mp (inS_mem hS my))).2
  · obtain ⟨ys, my, rfl⟩ := List.mem_map.mp m
    exact ((inS_iff hS).mp ((h ys).mpr (inS_mem hT my))).2
theorem inS_same [NeZero p] {S T : List (List Int)} (hS : ∀ v ∈ S, Vec p L v) (hT : ∀ v ∈ T, Vec p L v) (h : Same (rowsOf (Fin p) S) (rowsOf (Fin p) T)) (xs : List Int) : InS p L S xs ↔ InS p L T xs := by
  rw [inS_iff hS, inS_iff hT, h]
theorem Bas.rref [NeZero p] {T B : List (List Int)} {t : List Nat} (h : Bas p L T B t) : Rref (topsOf p B t) := by
  rw [zip_rows]
  refine ⟨fun x m => ?_, fun x m j hj => ?_, ?_⟩
  · obtain ⟨y, my, rfl⟩ := List.mem_map.mp m
    show ic (Fin p) (y.1.getD y.2 0) = 1
    rw [h.one y my, ic_one]
  · obtain ⟨y, my, rfl⟩ := List.mem_map.mp m
    show ic (Fin p) (y.1.getD j 0) = 0
    rw [h.low y my j hj, ic_zero]
  · refine List.pairwise_map.mpr (h.two.imp fun {x y} q => ⟨q.1, ?_⟩)
    show ic (Fin p) (x.1.getD y.2 0) = 0
    rw [q.2, ic_zero]
theorem vec_at {xs : List Int} (h : Vec p L xs) (hp : 0 < p) (j : Nat) : 0 ≤ xs.getD j 0 ∧ xs.getD j 0 < p := by
  by_cases q : j < xs.length
  · rw [getD_lt q]
    exact h.2 _ (List.getElem_mem q)
  · rw [getD_ge (Nat.le_of_not_lt q)]
    omega
theorem Bas.of_way [NeZero p] (p1 : 1 < p) {T D E : List (List Int)} {t : List Nat} (hT : ∀ v ∈ T, Vec p L v) (w : Way (Fin p) p L T D E t L) : Bas p L T D t := by
  obtain ⟨r, s, _⟩ := w.fin
  have r2 : Rref (topsOf p D t) := r
  have lt : ∀ x ∈ topsOf p D t, x.2 < L := w.up.lt
  rw [zip_rows] at r2 lt
  have hz : ∀ x ∈ D.zip t, Vec p L x.1 := fun x m => w.vd _ (List.of_mem_zip m).1
  have p0 : 0 < p := by omega
  refine ⟨w.vd, w.len, fun c m => ?_, fun x m => ?_, fun x m j hj => ?_, ?_, inS_same w.vd hT s⟩
  · obtain ⟨i, hi, e⟩ := List.mem_iff_getElem.mp m
    have hi2 : i < (D.zip t).length := by rw [List.length_zip, w.len]; omega
    have z := lt _ (List.mem_map_of_mem (f := fun x : List Int × Nat => (row (Fin p) x.1, x.2)) (List.getElem_mem hi2))
    rw [← e]
    simpa using z
  · have z : ic (Fin p) (x.1.getD x.2 0) = 1 := r2.one _ (List.mem_map_of_mem (f := fun x : List Int × Nat => (row (Fin p) x.1, x.2)) m)
    obtain ⟨a0, a1⟩ := vec_at (hz x m) p0 x.2
    refine cast_eq (K := Fin p) (p := p) (by rw [z, ic_one]) a0 a1 (by omega) (by omega)
  · have z : ic (Fin p) (x.1.getD j 0) = 0 := r2.low _ (List.mem_map_of_mem (f := fun x : List Int × Nat => (row (Fin p) x.1, x.2)) m) j hj
    obtain ⟨a0, a1⟩ := vec_at (hz x m) p0 j
    exact (cast_zero (K := Fin p) a0 a1).mp z
  · have z := List.pairwise_map.mp r2.two
    refine z.imp_of_mem fun {x y} mx my q => ⟨q.1, ?_⟩
    obtain ⟨a0, a1⟩ := vec_at (hz x mx) p0 y.2
    exact (cast_zero (K := Fin p) a0 a1).mp q.2
theorem rows_of_tops [NeZero p] {T B : List (List Int)} {t : List Nat} (h : Bas p L T B t) : rows (topsOf p B t) = rowsOf (Fin p) B := List.map_fst_zip (by rw [List.length_map, h.len]; exact Nat.le_refl _)
theorem rows_inj [NeZero p] : ∀ {B C : List (List Int)}, (∀ v ∈ B, Vec p L v) → (∀ v ∈ C, Vec p L v) → rowsOf (Fin p) B = rowsOf (Fin p) C → B = C
  | [], [], _, _, _ => rfl
  | [], _ :: _, _, _, e => nomatch e
  | _ :: _, [], _, _, e => nomatch e
  | x :: B, y :: C, h, k, e => by
    obtain ⟨e1, e2⟩ := List.cons.inj e
    rw [row_eq (K := Fin p) (h x List.mem_cons_self) (k y List.mem_cons_self) e1, rows_inj (fun v m => h v (List.mem_cons_of_mem _ m)) (fun v m => k v (List.mem_cons_of_mem _ m)) e2]
/-- the reduced basis is one alone -/
theorem Bas.uniq (p1 : 1 < p) {S T B C : List (List Int)} {s t : List Nat} (h : Bas p L S B s) (k : Bas p L T C t) (e : ∀ xs, InS p L S xs ↔ InS p L T xs) : B = C ∧ s = t := by
  haveI : NeZero p := ⟨by omega⟩
  have q : Same (rows (topsOf p B s)) (rows (topsOf p C t)) := by
    rw [rows_of_tops h, rows_of_tops k]
    exact same_of h.vec k.vec fun xs => by rw [h.same, k.same, e]
  have z := rref_one h.rref k.rref (one_ne (p := p) p1) q
  have z1 := congrArg (fun P => P.map (·.1)) z
  have z2 := congrArg (fun P => P.map (·.2)) z
  have e1 : rowsOf (Fin p) B = rowsOf (Fin p) C := by
    rw [← rows_of_tops h, ← rows_of_tops k]
    exact z1
  refine ⟨rows_inj h.vec k.vec e1, ?_⟩
  have t1 : (topsOf p B s).map (·.2) = s := List.map_snd_zip (by rw [List.length_map, h.len]; exact Nat.le_refl _)
  have t2 : (topsOf p C t).map (·.2) = t := List.map_snd_zip (by rw [List.length_map, k.len]; exact Nat.le_refl _)
  rw [← t1, ← t2]
  exact z2
theorem Bas.rank_le (p1 : 1 < p) {S T B C : List (List Int)} {s t : List Nat} (h : Bas p L S B s) (k : Bas p L T C t) (e : ∀ xs, InS p L S xs → InS p L T xs) : B.length ≤ C.length := by
  haveI : NeZero p := ⟨by omega⟩
  have q : ∀ v, Span (rows (topsOf p B s)) v → Span (rows (topsOf p C t)) v := by
    rw [rows_of_tops h, rows_of_tops k]
    intro v hv
    refine hv.sub fun u m => ?_
    obtain ⟨ys, my, rfl⟩ := List.mem_map.mp m
    exact ((inS_iff k.vec).mp ((k.same ys).mpr (e ys ((h.same ys).mp (inS_mem h.vec my))))).2
  have z := LinA.rank_le h.rref k.rref (one_ne (p := p) p1) q
  rw [List.length_zip, List.length_map, List.length_zip, List.length_map, h.len, k.len] at z
  rw [h.len, k.len]
  omega
theorem comb_coord [NeZero p] {xs : List Int} : ∀ (B : List (List Int)) (t : List Nat), comb (rowsOf (Fin p) B) (t.map fun c => xs.getD c 0) = coord (row (Fin p) xs) (topsOf p B t)
  | [], _ => rfl
  | _ :: _, [] => rfl
  | b :: B, c :: t => by
    show ax (ic (Fin p) (xs.getD c 0)) (row (Fin p) b) (comb _ _) = ax (row (Fin p) xs c) (row (Fin p) b) (coord _ _)
    rw [comb_coord B t]
    rfl
/-- the numbers at the tops put it together -/
theorem Bas.coords (p1 : 1 < p) {T B : List (List Int)} {t : List Nat} (h : Bas p L T B t) {xs : List Int} (k : InS p L T xs) : sumZ p L B (t.map fun c => xs.getD c 0) = xs := by
  haveI : NeZero p := ⟨by omega⟩
  have p0 : 0 < p := by omega
  obtain ⟨hx, hs⟩ := (inS_iff h.vec).mp ((h.same xs).mpr k)
  refine row_eq (K := Fin p) (sumZ_vec p0 h.vec) hx ?_
  rw [sumZ_row p0 h.vec (by rw [List.length_map, h.len]), comb_coord]
  refine span_coord h.rref ?_
  rw [rows_of_tops h]
  exact hs
/-- the factors are the numbers at the tops -/
theorem comb_tops [NeZero p] : ∀ {B : List (List Int)} {t : List Nat} {cs : List Int}, (topsOf p B t).Pairwise (fun x y => x.2 < y.2 ∧ x.1 y.2 = 0) → (∀ x ∈ topsOf p B t, x.1 x.2 = 1) → (∀ x ∈ topsOf p B t, ∀ j, j < x.2 → x.1 j = 0) → B.length = t.length → cs.length = t.length → t.map (comb (rowsOf (Fin p) B) cs) = cs.map (ic (Fin p)) ∧ ∀ j, (∀ c ∈ t, j < c) → comb (rowsOf (Fin p) B) cs j = 0
  | [], [], [], _, _, _, _, _ => ⟨rfl, fun _ _ => rfl⟩
  | b :: B, c :: t, f :: cs, h2, h1, hl, l1, l2 => by
    obtain ⟨q1, q2⟩ := List.pairwise_cons.mp h2
    obtain ⟨e, z⟩ := comb_tops (B := B) (t := t) (cs := cs) q2 (fun x m => h1 x (List.mem_cons_of_mem _ m)) (fun x m => hl x (List.mem_cons_of_mem _ m)) (Nat.succ.inj l1) (Nat.succ.inj l2)
    have one : row (Fin p) b c = 1 := h1 (row (Fin p) b, c) List.mem_cons_self
    have mem : ∀ d ∈ t, ∃ x ∈ topsOf p B t, x.2 = d := fun d m => by
      have w : (topsOf p B t).map (·.2) = t := List.map_snd_zip (by rw [List.length_map]; exact Nat.le_of_eq (Nat.succ.inj l1).symm)
      rw [← w] at m
      obtain ⟨x, mx, ex⟩ := List.mem_map.mp m
      exact ⟨x, mx, ex⟩
    have lt : ∀ d ∈ t, c < d := fun d m => by
      obtain ⟨x, mx, rfl⟩ := mem d m
      exact (q1 x mx).1
    have off : ∀ d ∈ t, row (Fin p) b d = 0 := fun d m => by
      obtain ⟨x, mx, rfl⟩ := mem d m
      exact (q1 x mx).2
    constructor
    · show (ic (Fin p) f * row (Fin p) b c + comb _ cs c) :: t.map (fun d => ic (Fin p) f * row (Fin p) b d + comb _ cs d) = ic (Fin p) f :: cs.map _
      rw [one, z c lt, ← e]
      congr 1
      · grind
      · refine List.map_congr_left fun d m => ?_
        rw [off d m]
        grind
    · intro j hj
      show ic (Fin p) f * row (Fin p) b j + comb _ cs j = 0
      have zb : row (Fin p) b j = 0 := hl (row (Fin p) b, c) List.mem_cons_self j (hj c List.mem_cons_self)
      rw [zb, z j fun d m => hj d (List.mem_cons_of_mem _ m)]
      grind
/-- all lists of n numbers below p -/
def allZ (p : Nat) : Nat → List (List Int)
  | 0 => [[]]
  | n + 1 => (List.range p).flatMap fun f : Nat => (allZ p n).map fun cs => (f : Int) :: cs
theorem sum_const {α : Type} (n : Nat) : ∀ l : List α, (l.map fun _ => n).sum = l.length * n
  | [] => by simp
  | _ :: l => by
    show n + (l.map fun _ => n).sum = (l.length + 1) * n
    rw [sum_const n l, Nat.succ_mul, Nat.add_comm]
theorem allZ_len : ∀ n : Nat, (allZ p n).length = p ^ n
  | 0 => rfl
  | n + 1 => by
    unfold allZ
    rw [List.length_flatMap]
    have e : (fun f : Nat => ((allZ p n).map fun cs => (f : Int) :: cs).length) = fun _ => p ^ n := by
      funext f
      rw [List.length_map, allZ_len n]
    rw [e, sum_const, List.length_range, Nat.pow_succ, Nat.mul_comm]
theorem allZ_mem : ∀ {n : Nat} {cs : List Int}, cs ∈ allZ p n ↔ Vec p n cs
  | 0, cs => by
    constructor
    · intro m
      rw [List.mem_singleton.mp m]
      exact ⟨rfl, fun x m => nomatch m⟩
    · rintro ⟨h, _⟩
      rw [List.eq_nil_of_length_eq_zero h]
      exact List.mem_singleton.mpr rfl
  | n + 1, cs => by
    unfold allZ
    rw [List.mem_flatMap]
    constructor
    · rintro ⟨f, mf, m⟩
      obtain ⟨ds, md, rfl⟩ := List.mem_map.mp m
      obtain ⟨l, h⟩ := allZ_mem.mp md
      refine ⟨by rw [List.length_cons, l], fun x m => ?_⟩
      rcases List.mem_cons.mp m with q | q
      · rw [q]
        have := List.mem_range.mp mf
        omega
      · exact h x q
    · rintro ⟨l, h⟩
      cases cs with
      | nil => cases l
      | cons c cs =>
        obtain ⟨c0, c1⟩ := h c List.mem_cons_self
        refine ⟨c.toNat, List.mem_range.mpr (by omega), List.mem_map.mpr ⟨cs, allZ_mem.mpr ⟨Nat.succ.inj l, fun x m => h x (List.mem_cons_of_mem _ m)⟩, ?_⟩⟩
        rw [Int.toNat_of_nonneg c0]
theorem allZ_nodup : ∀ n : Nat, (allZ p n).Nodup
  | 0 => by simp [allZ]
  | n + 1 => by
    unfold allZ
    refine List.pairwise_flatMap.mpr ⟨fun f _ => ?_, ?_⟩
    · exact List.pairwise_map.mpr ((allZ_nodup n).imp fun q e => q (List.cons.inj e).2)
    · refine (List.nodup_range (n := p)).imp fun {f g} q x mx y my e => ?_
      obtain ⟨a, _, rfl⟩ := List.mem_map.mp mx
      obtain ⟨b, _, rfl⟩ := List.mem_map.mp my
      have z := (List.cons.inj e).1
      omega
/-- as many sums as lists of factors -/
theorem Bas.count (p1 : 1 < p) {T B found : List (List Int)} {t : List Nat} (h : Bas p L T B t) (k : IsSpan p L T found) : found.length = p ^ B.length := by
  haveI : NeZero p := ⟨by omega⟩
  have p0 : 0 < p := by omega
  have r := h.rref
  have key : ∀ cs, cs ∈ allZ p B.length → t.map (fun c => (sumZ p L B cs).getD c 0) = cs := fun cs m => by
    obtain ⟨l, hc⟩ := allZ_mem.mp m
    have z := (comb_tops (B := B) (t := t) (cs := cs) r.two r.one r.low h.len (by rw [l, h.len])).1
    rw [← sumZ_row p0 h.vec (by rw [l])] at z
    refine List.ext_getElem (by rw [List.length_map, l, h.len]) fun i h1 h2 => ?_
    have z2 : (t.map (row (Fin p) (sumZ p L B cs)))[i]? = (cs.map (ic (Fin p)))[i]? := by rw [z]
    have it : i < t.length := by
      rw [List.length_map] at h1
      exact h1
    rw [List.getElem?_map, List.getElem?_map, List.getElem?_eq_getElem h2, List.getElem?_eq_getElem (by rw [List.length_map] at h1; exact h1)] at z2
    have z3 : ic (Fin p) ((sumZ p L B cs).getD t[i] 0) = ic (Fin p) cs[i] := Option.some.inj z2
    obtain ⟨a0, a1⟩ := vec_at (sumZ_vec p0 h.vec (fs := cs)) p0 (t[i]'it)
    obtain ⟨b0, b1⟩ := hc _ (List.getElem_mem h2)
    rw [List.getElem_map]
    exact cast_eq (K := Fin p) z3 a0 a1 b0 b1
  have nd : ((allZ p B.length).map (sumZ p L B)).Nodup := by
    refine List.pairwise_map.mpr ((allZ_nodup B.length).imp_of_mem fun {a b} ma mb q e => q ?_)
    rw [← key a ma, ← key b mb, e]
  have pm : found.Perm ((allZ p B.length).map (sumZ p L B)) := (List.perm_ext_iff_of_nodup k.1.nd nd).mpr fun xs => by
    rw [k.2, ← h.same, List.mem_map]
    constructor
    · rintro ⟨fs, hf, rfl⟩
      exact ⟨fs, allZ_mem.mpr hf, rfl⟩
    · rintro ⟨fs, hf, rfl⟩
      exact ⟨fs, allZ_mem.mp hf, rfl⟩
  rw [pm.length_eq, List.length_map, allZ_len]
/-- one of the basis alone -/
theorem Bas.single {T B : List (List Int)} {t : List Nat} (h : Bas p L T B t) {x : List Int × Nat} (m : x ∈ B.zip t) : Bas p L [x.1] [x.1] [x.2] := by
  obtain ⟨m1, m2⟩ := List.of_mem_zip (a := x.1) (b := x.2) m
  refine ⟨fun xs q => ?_, rfl, fun c q => ?_, fun y q => ?_, fun y q j hj => ?_, by simp, fun xs => Iff.rfl⟩
  · rw [List.mem_singleton.mp q]
    exact h.vec _ m1
  · rw [List.mem_singleton.mp q]
    exact h.top _ m2
  · rw [show y = x from List.mem_singleton.mp q]
    exact h.one x m
  · rw [show y = x from List.mem_singleton.mp q] at hj ⊢
    exact h.low x m j hj
theorem Bas.none : Bas p L [] [] [] where
  vec xs m := nomatch m
  len := rfl
  top c m := nomatch m
  one x m := nomatch m
  low x m := nomatch m
  two := .nil
  same _ := Iff.rfl
end
end LinA

set_option Elab.async false
set_option linter.all false
/-! LinE: the inverse by taking off, down to 1. -/
namespace LinA
/-- one and the other less and less, with what each is of the number -/
structure Eu (p a : Nat) (g l : Nat) (k f : Int) : Prop where
  g1 : Nat.Coprime g l
  l0 : 0 < l
  lg : l ≤ p
  gp : g ≤ p
  eg : (k * (a : Int) - (g : Int)) % (p : Int) = 0
  el : (f * (a : Int) - (l : Int)) % (p : Int) = 0
theorem Eu.start {p a : Nat} (c : Nat.Coprime p a) (a0 : 0 < a) (ap : a < p) : Eu p a p a 0 1 := by
  refine ⟨c, a0, by omega, Nat.le_refl _, ?_, ?_⟩
  · rw [Int.zero_mul, Int.zero_sub, Int.neg_emod_self]
  · rw [Int.one_mul, Int.sub_self, Int.zero_emod]
theorem Eu.step {p a g l : Nat} {k f : Int} (h : Eu p a g l k f) (l1 : 1 < l) : Eu p a l (g % l) f (k - ((g / l : Nat) : Int) * f) := by
  obtain ⟨g1, l0, lg, gp, eg, el⟩ := h
  have r0 : 0 < g % l := by
    refine Nat.pos_of_ne_zero fun e => ?_
    have d : l ∣ g := Nat.dvd_of_mod_eq_zero e
    have z : Nat.gcd g l = l := Nat.gcd_eq_right d
    have z2 : Nat.gcd g l = 1 := g1
    omega
  have rl : g % l < l := Nat.mod_lt _ l0
  refine ⟨?_, r0, by omega, lg, el, ?_⟩
  · have z : Nat.gcd g l = 1 := g1
    show Nat.gcd l (g % l) = 1
    rw [Nat.gcd_comm, ← Nat.gcd_rec, Nat.gcd_comm]
    exact z
  · have e1 : (g : Int) = ((g / l : Nat) : Int) * (l : Int) + ((g % l : Nat) : Int) := by
      have z := Nat.div_add_mod g l
      have z2 : (l : Int) * ((g / l : Nat) : Int) + ((g % l : Nat) : Int) = (g : Int) := by
        rw [← Int.natCast_mul, ← Int.natCast_add, z]
      rw [Int.mul_comm]
      exact z2.symm
    have e2 : (k - ((g / l : Nat) : Int) * f) * (a : Int) - ((g % l : Nat) : Int) = (k * (a : Int) - (g : Int)) - ((g / l : Nat) : Int) * (f * (a : Int) - (l : Int)) := by
      rw [Int.sub_mul, Int.mul_sub, Int.mul_assoc]
      generalize ((g / l : Nat) : Int) * (f * (a : Int)) = u at *
      generalize k * (a : Int) = v at *
      omega
    rw [e2]
    have d1 := Int.dvd_of_emod_eq_zero eg
    have d2 := Int.dvd_of_emod_eq_zero el
    exact Int.emod_eq_zero_of_dvd (Int.dvd_sub d1 (Int.dvd_mul_of_dvd_right d2))
theorem Eu.fin {p a g l : Nat} {k f : Int} (h : Eu p a g l k f) (p2 : 2 ≤ p) (l1 : ¬ 1 < l) : f * (a : Int) % (p : Int) = 1 := by
  obtain ⟨g1, l0, lg, gp, eg, el⟩ := h
  have e : l = 1 := by omega
  subst e
  obtain ⟨c, hc⟩ := Int.dvd_of_emod_eq_zero el
  have z : f * (a : Int) = 1 + (p : Int) * c := by
    have : ((1 : Nat) : Int) = 1 := rfl
    omega
  rw [z, Int.add_mul_emod_self_left]
  exact Int.emod_eq_of_lt (by omega) (by omega)
/-- there is one inverse alone -/
theorem inv_uniq {p a : Nat} {x y : Int} (c : Nat.Coprime p a) (p2 : 2 ≤ p) (hx : x * (a : Int) % (p : Int) = 1) (hy : y * (a : Int) % (p : Int) = 1) : x % (p : Int) = y % (p : Int) := by
  have e : x * 1 % (p : Int) = y * 1 % (p : Int) := by
    have e1 : x * (y * (a : Int)) % (p : Int) = y * (x * (a : Int)) % (p : Int) := by
      have : x * (y * (a : Int)) = y * (x * (a : Int)) := by
        rw [← Int.mul_assoc, ← Int.mul_assoc, Int.mul_comm x y]
      rw [this]
    have h1 : (1 : Int) % (p : Int) = 1 := Int.emod_eq_of_lt (by omega) (by omega)
    have a1 : x * (y * (a : Int)) % (p : Int) = x * 1 % (p : Int) := by
      rw [Int.mul_emod, hy, Int.mul_emod x 1, h1]
    have a2 : y * (x * (a : Int)) % (p : Int) = y * 1 % (p : Int) := by
      rw [Int.mul_emod, hx, Int.mul_emod y 1, h1]
    rw [← a1, ← a2, e1]
  rw [Int.mul_one, Int.mul_one] at e
  exact e
end LinA

set_option Elab.async false
set_option linter.all false
/-! LinQ: products of rows; what vectors add up to, or what bars it; all that is nought on them. -/
namespace LinA
open Lean.Grind
section
variable {K : Type} [CommRing K]
/-- the product of two rows, of their first n places -/
def ip (x : Row K) : Nat → Row K → K
  | 0, _ => 0
  | n + 1, r => ip x n r + r n * x n
theorem ip_ax (x : Row K) (c : K) (v w : Row K) : ∀ n, ip x n (ax c v w) = c * ip x n v + ip x n w
  | 0 => by
    show (0 : K) = c * 0 + 0
    grind
  | n + 1 => by
    show ip x n (ax c v w) + (c * v n + w n) * x n = c * (ip x n v + v n * x n) + (ip x n w + w n * x n)
    rw [ip_ax x c v w n]
    grind
theorem ip_xa (c : K) (x y r : Row K) : ∀ n, ip (ax c x y) n r = c * ip x n r + ip y n r
  | 0 => by
    show (0 : K) = c * 0 + 0
    grind
  | n + 1 => by
    show ip (ax c x y) n r + r n * (c * x n + y n) = c * (ip x n r + r n * x n) + (ip y n r + r n * y n)
    rw [ip_xa c x y r n]
    grind
theorem ip_zr (x : Row K) : ∀ n, ip x n zr = 0
  | 0 => rfl
  | n + 1 => by
    show ip x n zr + 0 * x n = 0
    rw [ip_zr x n]
    grind
theorem ip_rz (r : Row K) : ∀ n, ip zr n r = 0
  | 0 => rfl
  | n + 1 => by
    show ip zr n r + r n * 0 = 0
    rw [ip_rz r n]
    grind
theorem ip_comm (x y : Row K) : ∀ n, ip x n y = ip y n x
  | 0 => rfl
  | n + 1 => by
    show ip x n y + y n * x n = ip y n x + x n * y n
    rw [ip_comm x y n]
    grind
theorem ip_congr {x y r s : Row K} : ∀ {n : Nat}, (∀ j, j < n → x j = y j ∧ r j = s j) → ip x n r = ip y n s
  | 0, _ => rfl
  | n + 1, h => by
    show ip x n r + r n * x n = ip y n s + s n * y n
    rw [ip_congr (n := n) fun j hj => h j (Nat.lt_succ_of_lt hj), (h n (Nat.lt_succ_self n)).1, (h n (Nat.lt_succ_self n)).2]
theorem ip_none {x r : Row K} : ∀ {n : Nat}, (∀ j, j < n → r j * x j = 0) → ip x n r = 0
  | 0, _ => rfl
  | n + 1, h => by
    show ip x n r + r n * x n = 0
    rw [ip_none (n := n) fun j hj => h j (Nat.lt_succ_of_lt hj), h n (Nat.lt_succ_self n)]
    grind
/-- one place alone counts -/
theorem ip_one {x r : Row K} {c : Nat} : ∀ {n : Nat}, c < n → (∀ j, j < n → j ≠ c → r j * x j = 0) → ip x n r = r c * x c
  | 0, h, _ => (Nat.not_lt_zero c h).elim
  | n + 1, h, k => by
    show ip x n r + r n * x n = r c * x c
    by_cases q : c = n
    · subst q
      rw [ip_none fun j hj => k j (Nat.lt_succ_of_lt hj) (Nat.ne_of_lt hj)]
      grind
    · rw [ip_one (n := n) (by omega) fun j hj => k j (Nat.lt_succ_of_lt hj), k n (Nat.lt_succ_self n) (Ne.symm q)]
      grind
theorem ip_span {x : Row K} {n : Nat} {S : List (Row K)} (h : ∀ v ∈ S, ip x n v = 0) {v : Row K} (hv : Span S v) : ip x n v = 0 := by
  induction hv with
  | zero => exact ip_zr x n
  | add c v w m _ ih =>
    rw [ip_ax, h v m, ih]
    grind
/-- factors times numbers, added up -/
def csum : List K → List Int → K
  | k :: ks, c :: cs => ic K c * k + csum ks cs
  | _, _ => 0
theorem ip_comb (x : Row K) (n : Nat) : ∀ (vs : List (Row K)) (cs : List Int), ip x n (comb vs cs) = csum (vs.map (ip x n)) cs
  | [], cs => by
    cases cs <;> exact ip_zr x n
  | v :: vs, [] => ip_zr x n
  | v :: vs, c :: cs => by
    show ip x n (ax (ic K c) v (comb vs cs)) = ic K c * ip x n v + csum (vs.map (ip x n)) cs
    rw [ip_ax, ip_comb x n vs cs]
theorem csum_none : ∀ {ks : List K} {cs : List Int}, (∀ k ∈ ks, k = 0) → csum ks cs = 0
  | [], cs, _ => by cases cs <;> rfl
  | _ :: _, [], _ => rfl
  | k :: ks, c :: cs, h => by
    show ic K c * k + csum ks cs = 0
    rw [h k List.mem_cons_self, csum_none fun y m => h y (List.mem_cons_of_mem _ m)]
    grind
end
/-- products of two lists, added up -/
def dotA (xs ys : List Int) : Int := (List.zipWith (· * ·) xs ys).sum
theorem dotA_comm (xs ys : List Int) : dotA xs ys = dotA ys xs := by
  unfold dotA
  rw [List.zipWith_comm]
  have e : (fun (b a : Int) => a * b) = fun (a b : Int) => a * b := by
    funext a b
    exact Int.mul_comm b a
  rw [e]
section
variable {K : Type} [CommRing K]
theorem ic_dot : ∀ (xs ys : List Int), ic K (dotA xs ys) = csum (xs.map (ic K)) ys
  | [], ys => by
    have e : dotA [] ys = 0 := by simp [dotA]
    rw [e, ic_zero]
    cases ys <;> rfl
  | x :: xs, [] => by
    have e : dotA (x :: xs) [] = 0 := by simp [dotA]
    rw [e, ic_zero]
    rfl
  | x :: xs, y :: ys => by
    have e : dotA (x :: xs) (y :: ys) = x * y + dotA xs ys := by simp [dotA]
    rw [e, ic_add, ic_mul, ic_dot xs ys]
    show ic K x * ic K y + _ = ic K y * ic K x + _
    grind
theorem row_snoc_lt {xs : List Int} {a : Int} {j : Nat} (h : j < xs.length) : row K (xs ++ [a]) j = row K xs j := by
  show ic K ((xs ++ [a]).getD j 0) = ic K (xs.getD j 0)
  rw [List.getD_eq_getElem?_getD, List.getElem?_append_left h, List.getD_eq_getElem?_getD]
theorem row_snoc_at {xs : List Int} {a : Int} : row K (xs ++ [a]) xs.length = ic K a := by
  show ic K ((xs ++ [a]).getD xs.length 0) = ic K a
  rw [List.getD_eq_getElem?_getD, List.getElem?_append_right (Nat.le_refl _), Nat.sub_self]
  rfl
theorem snoc_of {α : Type} {n : Nat} : ∀ {xs : List α}, xs.length = n + 1 → ∃ ys a, xs = ys ++ [a] ∧ ys.length = n := fun {xs} h => by
  have ne : xs ≠ [] := fun e => by
    rw [e] at h
    cases h
  exact ⟨xs.dropLast, xs.getLast ne, (List.dropLast_concat_getLast ne).symm, by rw [List.length_dropLast, h]; rfl⟩
theorem dot_ip : ∀ {n : Nat} {xs ys : List Int}, xs.length = n → ys.length = n → ic K (dotA xs ys) = ip (row K ys) n (row K xs)
  | 0, xs, ys, hx, hy => by
    rw [List.eq_nil_of_length_eq_zero hx]
    have e : dotA [] ys = 0 := by simp [dotA]
    rw [e, ic_zero]
    rfl
  | n + 1, xs, ys, hx, hy => by
    obtain ⟨xs, a, rfl, lx⟩ := snoc_of hx
    obtain ⟨ys, b, rfl, ly⟩ := snoc_of hy
    have e : dotA (xs ++ [a]) (ys ++ [b]) = dotA xs ys + a * b := by
      unfold dotA
      rw [List.zipWith_append (by rw [lx, ly]), List.sum_append]
      show _ + (a * b + 0) = _
      rw [Int.add_zero]
    rw [e, ic_add, ic_mul, dot_ip lx ly]
    show _ = ip (row K (ys ++ [b])) n (row K (xs ++ [a])) + row K (xs ++ [a]) n * row K (ys ++ [b]) n
    have e1 : row K (xs ++ [a]) n = ic K a := by
      have z := row_snoc_at (K := K) (xs := xs) (a := a)
      rw [lx] at z
      exact z
    have e2 : row K (ys ++ [b]) n = ic K b := by
      have z := row_snoc_at (K := K) (xs := ys) (a := b)
      rw [ly] at z
      exact z
    rw [e1, e2, ip_congr (x := row K (ys ++ [b])) (y := row K ys) (r := row K (xs ++ [a])) (s := row K xs) fun j hj => ⟨row_snoc_lt (by omega), row_snoc_lt (by omega)⟩]
end
/-! ### the way there is always one -/
abbrev Prm' (p : Nat) : Prop := ∀ d, 2 ≤ d → d < p → p % d ≠ 0
theorem inv_ex {p : Nat} (pr : Prm' p) (p2 : 2 ≤ p) {a : Int} (a0 : 0 < a) (a1 : a < (p : Int)) : ∃ s : Int, a * s % (p : Int) = 1 := by
  obtain ⟨n, rfl⟩ : ∃ n : Nat, a = (n : Int) := ⟨a.toNat, (Int.toNat_of_nonneg (by omega)).symm⟩
  have f := fermat pr p2 (a := n) (by omega) (by omega)
  refine ⟨((n ^ (p - 2) : Nat) : Int), ?_⟩
  have z : n * n ^ (p - 2) % p = 1 := by
    rw [Nat.mul_comm, ← Nat.pow_succ]
    have e2 : (p - 2).succ = p - 1 := by omega
    rw [e2]
    exact f
  rw [← Int.natCast_mul, ← Int.natCast_emod, z]
  rfl
theorem way_ex {p L : Nat} [NeZero p] (pr : Prm' p) (p2 : 2 ≤ p) {T : List (List Int)} (hT : ∀ v ∈ T, Vec p L v) : ∀ c, c ≤ L → ∃ D E t, Way (Fin p) p L T D E t c
  | 0, _ => ⟨[], T, [], Way.start hT⟩
  | c + 1, h => by
    obtain ⟨D, E, t, w⟩ := way_ex pr p2 hT c (Nat.le_of_succ_le h)
    by_cases q : ∀ xs ∈ E, xs.getD c 0 = 0
    · exact ⟨D, E, t, w.none q⟩
    · obtain ⟨b, q⟩ := Classical.not_forall.mp q
      obtain ⟨mb, q⟩ := Classical.not_imp.mp q
      obtain ⟨a0, a1⟩ := vec_at (w.ve b mb) (by omega) c
      obtain ⟨s, hs⟩ := inv_ex pr p2 (a := b.getD c 0) (by omega) a1
      exact ⟨_, _, _, w.found (E' := E.erase b) (by omega) (List.perm_cons_erase mb) hs⟩
end LinA

set_option Elab.async false
set_option linter.all false
/-! LinR: vectors whose products with given ones are given; none, if a row of the rest says so. -/
namespace LinA
open Lean.Grind
/-! ### numbers put to places -/
section
variable {α : Type} (k : α → Nat) (f : α → Int)
def putF (zs : List α) (acc : List Int) : List Int := zs.foldl (fun acc z => acc.set (k z) (f z)) acc
theorem putF_len : ∀ (zs : List α) (acc : List Int), (putF k f zs acc).length = acc.length
  | [], acc => rfl
  | z :: zs, acc => by
    show (putF k f zs (acc.set (k z) (f z))).length = _
    rw [putF_len zs, List.length_set]
theorem getD_set_ne {xs : List Int} {i j : Nat} {a : Int} (h : i ≠ j) : (xs.set i a).getD j 0 = xs.getD j 0 := by
  rw [List.getD_eq_getElem?_getD, List.getElem?_set_ne h, List.getD_eq_getElem?_getD]
theorem getD_set_at {xs : List Int} {i : Nat} {a : Int} (h : i < xs.length) : (xs.set i a).getD i 0 = a := by
  rw [List.getD_eq_getElem?_getD, List.getElem?_set_self h]
  rfl
theorem putF_off {j : Nat} : ∀ {zs : List α} {acc : List Int}, (∀ z ∈ zs, k z ≠ j) → (putF k f zs acc).getD j 0 = acc.getD j 0
  | [], acc, _ => rfl
  | z :: zs, acc, h => by
    show (putF k f zs (acc.set (k z) (f z))).getD j 0 = _
    rw [putF_off fun y m => h y (List.mem_cons_of_mem _ m), getD_set_ne (h z List.mem_cons_self)]
theorem putF_at : ∀ {zs : List α} {acc : List Int}, (zs.map k).Nodup → (∀ z ∈ zs, k z < acc.length) → ∀ z ∈ zs, (putF k f zs acc).getD (k z) 0 = f z
  | [], _, _, _, z, m => nomatch m
  | y :: zs, acc, nd, lt, z, m => by
    obtain ⟨n1, n2⟩ := List.nodup_cons.mp nd
    show (putF k f zs (acc.set (k y) (f y))).getD (k z) 0 = _
    rcases List.mem_cons.mp m with q | q
    · subst q
      rw [putF_off k f fun x mx e => n1 (by rw [← e]; exact List.mem_map_of_mem mx), getD_set_at (lt z List.mem_cons_self)]
    · exact putF_at n2 (fun x mx => by rw [List.length_set]; exact lt x (List.mem_cons_of_mem _ mx)) z q
theorem putF_vec {p L : Nat} (hf : ∀ z : α, 0 ≤ f z ∧ f z < (p : Int)) : ∀ {zs : List α} {acc : List Int}, Vec p L acc → Vec p L (putF k f zs acc)
  | [], _, v => v
  | z :: zs, acc, v => putF_vec hf (zs := zs) ⟨by rw [List.length_set]; exact v.1, fun x m => by
    rcases List.mem_or_eq_of_mem_set m with q | q
    · exact v.2 x q
    · rw [q]
      exact hf z⟩
end
/-! ### with the aims behind -/
def augZ (V : List (List Int)) (aims : List Int) : List (List Int) := List.zipWith (fun v a => v ++ [a]) V aims
def Sol (p n : Nat) (V : List (List Int)) (aims x : List Int) : Prop := Vec p n x ∧ ∀ z ∈ V.zip aims, dotA z.1 x % (p : Int) = z.2
def putZ (n : Nat) (D : List (List Int)) (t : List Nat) : List Int := putF (fun z : List Int × Nat => z.2) (fun z => z.1.getD n 0) (D.zip t) (List.replicate n 0)
theorem augZ_mem {V : List (List Int)} {aims : List Int} {r : List Int} (h : r ∈ augZ V aims) : ∃ z ∈ V.zip aims, r = z.1 ++ [z.2] := by
  unfold augZ at h
  rw [← List.map_uncurry_zip_eq_zipWith] at h
  obtain ⟨z, mz, e⟩ := List.mem_map.mp h
  exact ⟨z, mz, e.symm⟩
theorem augZ_of {V : List (List Int)} {aims : List Int} {z : List Int × Int} (h : z ∈ V.zip aims) : z.1 ++ [z.2] ∈ augZ V aims := by
  unfold augZ
  rw [← List.map_uncurry_zip_eq_zipWith]
  exact List.mem_map.mpr ⟨z, h, rfl⟩
theorem augZ_vec {p n m : Nat} {V : List (List Int)} {aims : List Int} (hV : ∀ v ∈ V, Vec p n v) (ha : Vec p m aims) : ∀ r ∈ augZ V aims, Vec p (n + 1) r := fun r mr => by
  obtain ⟨z, mz, rfl⟩ := augZ_mem mr
  obtain ⟨m1, m2⟩ := List.of_mem_zip (a := z.1) (b := z.2) mz
  refine ⟨by rw [List.length_append, (hV _ m1).1]; rfl, fun x mx => ?_⟩
  rcases List.mem_append.mp mx with q | q
  · exact (hV _ m1).2 x q
  · rw [List.mem_singleton.mp q]
    exact ha.2 _ m2
section
variable {p n m : Nat} [NeZero p]
/-- the row that tells by how much x misses -/
def mis (p n : Nat) [NeZero p] (x : List Int) : Row (Fin p) := fun j => if j < n then row (Fin p) x j else -1
theorem ip_mis (x : List Int) (r : Row (Fin p)) : ip (mis p n x) (n + 1) r = ip (row (Fin p) x) n r - r n := by
  show ip (mis p n x) n r + r n * mis p n x n = _
  have e : mis p n x n = -1 := by
    unfold mis
    rw [if_neg (Nat.lt_irrefl n)]
  rw [e, ip_congr (y := row (Fin p) x) (s := r) fun j hj => ⟨by unfold mis; rw [if_pos hj], rfl⟩]
  grind
theorem mis_aug {v x : List Int} {a : Int} (lv : v.length = n) (lx : x.length = n) : ip (mis p n x) (n + 1) (row (Fin p) (v ++ [a])) = ic (Fin p) (dotA v x) - ic (Fin p) a := by
  rw [ip_mis, dot_ip lv lx, ip_congr (x := row (Fin p) x) (y := row (Fin p) x) (r := row (Fin p) (v ++ [a])) (s := row (Fin p) v) fun j hj => ⟨rfl, row_snoc_lt (by omega)⟩]
  have z := row_snoc_at (K := Fin p) (xs := v) (a := a)
  rw [lv] at z
  rw [z]
theorem dot_hit {v x : List Int} {a : Int} (a0 : 0 ≤ a) (a1 : a < (p : Int)) : dotA v x % (p : Int) = a ↔ ic (Fin p) (dotA v x) - ic (Fin p) a = 0 := by
  have hp : 0 < p := Nat.pos_of_ne_zero (NeZero.ne p)
  constructor
  · intro h
    rw [← cast_mod (K := Fin p) (p := p), h]
    grind
  · intro h
    obtain ⟨q0, q1⟩ := mod_in hp (dotA v x)
    refine cast_eq (K := Fin p) (p := p) ?_ q0 q1 a0 a1
    rw [cast_mod (K := Fin p) (p := p)]
    grind
theorem sol_iff {V : List (List Int)} {aims x : List Int} (hV : ∀ v ∈ V, Vec p n v) (ha : Vec p m aims) (hx : x.length = n) : (∀ z ∈ V.zip aims, dotA z.1 x % (p : Int) = z.2) ↔ ∀ r ∈ rowsOf (Fin p) (augZ V aims), ip (mis p n x) (n + 1) r = 0 := by
  constructor
  · intro h r mr
    obtain ⟨y, my, rfl⟩ := List.mem_map.mp mr
    obtain ⟨z, mz, rfl⟩ := augZ_mem my
    obtain ⟨m1, m2⟩ := List.of_mem_zip (a := z.1) (b := z.2) mz
    rw [mis_aug (hV _ m1).1 hx]
    exact (dot_hit (ha.2 _ m2).1 (ha.2 _ m2).2).mp (h z mz)
  · intro h z mz
    obtain ⟨m1, m2⟩ := List.of_mem_zip (a := z.1) (b := z.2) mz
    refine (dot_hit (ha.2 _ m2).1 (ha.2 _ m2).2).mpr ?_
    rw [← mis_aug (hV _ m1).1 hx]
    exact h _ (List.mem_map_of_mem (augZ_of mz))
/-- a row of the rest with something at the end: no vector -/
theorem way_no {V D E : List (List Int)} {aims : List Int} {t : List Nat} (hV : ∀ v ∈ V, Vec p n v) (ha : Vec p m aims) (w : Way (Fin p) p (n + 1) (augZ V aims) D E t n) {e : List Int} (me : e ∈ E) (ne : e.getD n 0 ≠ 0) : ¬ ∃ x, Sol p n V aims x := by
  rintro ⟨x, hx, h⟩
  have hp : 0 < p := Nat.pos_of_ne_zero (NeZero.ne p)
  have z := (sol_iff hV ha hx.1).mp h
  have s : Span (rowsOf (Fin p) (augZ V aims)) (row (Fin p) e) := (w.same _).mp (.mem (List.mem_map_of_mem (List.mem_append_right _ me)))
  have q := ip_span z s
  rw [ip_mis, ip_none fun j hj => ?_] at q
  · obtain ⟨a0, a1⟩ := vec_at (w.ve e me) hp n
    refine ne ((cast_zero (K := Fin p) a0 a1).mp ?_)
    have q2 : (0 : Fin p) - ic (Fin p) (e.getD n 0) = 0 := q
    grind
  · have z0 : row (Fin p) e j = 0 := w.up.low _ (List.mem_map_of_mem me) j hj
    rw [z0]
    grind
theorem tops_zip {D : List (List Int)} {t : List Nat} (l : D.length = t.length) : tops ((rowsOf (Fin p) D).zip t) = t := List.map_snd_zip (by rw [List.length_map, l]; exact Nat.le_refl _)
theorem snd_zip {D : List (List Int)} {t : List Nat} (l : D.length = t.length) : (D.zip t).map (fun z : List Int × Nat => z.2) = t := List.map_snd_zip (by rw [l]; exact Nat.le_refl _)
theorem mem_zip_snd {D : List (List Int)} {t : List Nat} (l : D.length = t.length) {c : Nat} (m : c ∈ t) : ∃ z ∈ D.zip t, z.2 = c := by
  rw [← snd_zip l] at m
  exact List.mem_map.mp m
theorem top_row {D : List (List Int)} {t : List Nat} {z : List Int × Nat} (m : z ∈ D.zip t) : (row (Fin p) z.1, z.2) ∈ (rowsOf (Fin p) D).zip t := by
  have e := zip_rows (p := p) D t
  show _ ∈ topsOf p D t
  rw [e]
  exact List.mem_map_of_mem (f := fun x : List Int × Nat => (row (Fin p) x.1, x.2)) m
section
variable {D : List (List Int)} {t : List Nat} (r : Rref ((rowsOf (Fin p) D).zip t)) (l : D.length = t.length) (lt : ∀ c ∈ t, c < n)
include r l lt
omit lt in
theorem t_nodup : t.Nodup := by
  have z := tops_nodup r
  rw [tops_zip l] at z
  exact z
theorem putZ_at {z : List Int × Nat} (m : z ∈ D.zip t) : (putZ n D t).getD z.2 0 = z.1.getD n 0 := by
  refine putF_at (fun z : List Int × Nat => z.2) (fun z => z.1.getD n 0) ?_ (fun y my => ?_) z m
  · rw [snd_zip l]
    exact t_nodup r l
  · rw [List.length_replicate]
    exact lt _ (List.of_mem_zip (a := y.1) (b := y.2) my).2
omit r l lt in
theorem putZ_off {j : Nat} (h : j ∉ t) : (putZ n D t).getD j 0 = 0 := by
  unfold putZ
  rw [putF_off (fun z : List Int × Nat => z.2) (fun z => z.1.getD n 0) fun z mz e => h (by rw [← e]; exact (List.of_mem_zip (a := z.1) (b := z.2) mz).2)]
  by_cases q : j < n
  · rw [List.getD_eq_getElem?_getD, List.getElem?_replicate_of_lt q]
    rfl
  · rw [List.getD_eq_getElem?_getD, List.getElem?_eq_none (by rw [List.length_replicate]; omega)]
    rfl
/-- a reduced row, by x that is nought but at tops -/
theorem ip_top {x : Row (Fin p)} (off : ∀ j, j ∉ t → x j = 0) {z : List Int × Nat} (m : z ∈ D.zip t) : ip x n (row (Fin p) z.1) = x z.2 := by
  have mz := top_row (p := p) m
  have one : row (Fin p) z.1 z.2 = 1 := r.one _ mz
  have hz : z.2 < n := lt _ (List.of_mem_zip (a := z.1) (b := z.2) m).2
  rw [ip_one (c := z.2) hz fun j hj ne => ?_, one]
  · grind
  · by_cases q : j ∈ t
    · obtain ⟨y, my, e⟩ := mem_zip_snd l q
      have o : row (Fin p) z.1 y.2 = 0 := r.off _ mz _ (top_row (p := p) my) (by show z.2 ≠ y.2; rw [e]; exact Ne.symm ne)
      rw [e] at o
      rw [o]
      grind
    · rw [off j q]
      grind
end
theorem way_yes {V D E : List (List Int)} {aims : List Int} {t : List Nat} (hV : ∀ v ∈ V, Vec p n v) (ha : Vec p m aims) (w : Way (Fin p) p (n + 1) (augZ V aims) D E t n) (z : ∀ e ∈ E, e.getD n 0 = 0) : Sol p n V aims (putZ n D t) := by
  have hp : 0 < p := Nat.pos_of_ne_zero (NeZero.ne p)
  have lt : ∀ c ∈ t, c < n := fun c m => by
    obtain ⟨y, my, e⟩ := mem_zip_snd w.len m
    have q := w.up.lt _ (top_row (p := p) my)
    rw [← e]
    exact q
  have lx : (putZ n D t).length = n := by
    unfold putZ
    rw [putF_len, List.length_replicate]
  refine ⟨⟨lx, fun x m => ?_⟩, (sol_iff hV ha lx).mpr fun r mr => ip_span (S := rowsOf (Fin p) (D ++ E)) (fun v mv => ?_) ((w.same _).mpr (.mem mr))⟩
  · obtain ⟨j, hj, e⟩ := List.mem_iff_getElem.mp m
    have g : (putZ n D t).getD j 0 = x := by
      rw [List.getD_eq_getElem?_getD, List.getElem?_eq_getElem hj, e]
      rfl
    by_cases q : j ∈ t
    · obtain ⟨y, my, ey⟩ := mem_zip_snd w.len q
      rw [← g, ← ey, putZ_at w.up.rr w.len lt my]
      exact vec_at (w.vd _ (List.of_mem_zip (a := y.1) (b := y.2) my).1) hp n
    · rw [← g, putZ_off q]
      omega
  · obtain ⟨y, my, rfl⟩ := List.mem_map.mp mv
    rw [ip_mis]
    rcases List.mem_append.mp my with q | q
    · obtain ⟨i, hi, e⟩ := List.mem_iff_getElem.mp q
      have hi2 : i < t.length := by rw [← w.len]; exact hi
      have mz : (y, t[i]) ∈ D.zip t := by
        rw [List.mem_iff_getElem]
        exact ⟨i, by rw [List.length_zip]; omega, by rw [List.getElem_zip, e]⟩
      have e1 := ip_top (x := row (Fin p) (putZ n D t)) w.up.rr w.len lt (fun j hj => by
        show ic (Fin p) ((putZ n D t).getD j 0) = 0
        rw [putZ_off hj, ic_zero]) mz
      have e2 := putZ_at w.up.rr w.len lt mz
      rw [e1]
      show ic (Fin p) ((putZ n D t).getD t[i] 0) - ic (Fin p) (y.getD n 0) = 0
      have e3 : (putZ n D t).getD t[i] 0 = y.getD n 0 := e2
      rw [e3]
      grind
    · rw [ip_none fun j hj => ?_]
      · show (0 : Fin p) - ic (Fin p) (y.getD n 0) = 0
        rw [z y q, ic_zero]
        grind
      · have z0 : row (Fin p) y j = 0 := w.up.low _ (List.mem_map_of_mem q) j hj
        rw [z0]
        grind
end
/-- what meeting tells -/
def Meets (p n : Nat) (V : List (List Int)) (aims : List Int) : Option (List Int) → Prop
  | none => ¬ ∃ x, Sol p n V aims x
  | some x => Sol p n V aims x ∧ ∃ D t, Bas p (n + 1) (augZ V aims) D t ∧ (∀ c ∈ t, c < n) ∧ x = putZ n D t
theorem Meets.uniq {p n : Nat} {V : List (List Int)} {aims : List Int} (p1 : 1 < p) : ∀ {r s : Option (List Int)}, Meets p n V aims r → Meets p n V aims s → r = s
  | none, none, _, _ => rfl
  | none, some x, h, k => (h ⟨x, k.1⟩).elim
  | some x, none, h, k => (k ⟨x, h.1⟩).elim
  | some x, some y, ⟨_, D, t, b, _, e⟩, ⟨_, D2, t2, b2, _, e2⟩ => by
    obtain ⟨e3, e4⟩ := b.uniq p1 b2 fun _ => Iff.rfl
    rw [e, e2, e3, e4]
theorem meets_way {p n m : Nat} [NeZero p] (p1 : 1 < p) {V D E : List (List Int)} {aims : List Int} {t : List Nat} (hV : ∀ v ∈ V, Vec p n v) (ha : Vec p m aims) (w : Way (Fin p) p (n + 1) (augZ V aims) D E t n) :
    ((∃ e ∈ E, e.getD n 0 ≠ 0) → Meets p n V aims none) ∧ ((∀ e ∈ E, e.getD n 0 = 0) → Meets p n V aims (some (putZ n D t))) :=
  ⟨fun ⟨e, me, ne⟩ => way_no hV ha w me ne, fun z => ⟨way_yes hV ha w z, D, t, Bas.of_way p1 (augZ_vec hV ha) (w.none z), fun c m => by
    obtain ⟨y, my, e⟩ := mem_zip_snd w.len m
    have q := w.up.lt _ (top_row (p := p) my)
    rw [← e]
    exact q, rfl⟩⟩
theorem meets_ex {p n m : Nat} (pr : Prm' p) (p2 : 2 ≤ p) {V : List (List Int)} {aims : List Int} (hV : ∀ v ∈ V, Vec p n v) (ha : Vec p m aims) : ∃ r, Meets p n V aims r := by
  haveI : NeZero p := ⟨by omega⟩
  obtain ⟨D, E, t, w⟩ := way_ex pr p2 (augZ_vec hV ha) n (Nat.le_succ n)
  obtain ⟨h1, h2⟩ := meets_way (by omega) hV ha w
  by_cases q : ∃ e ∈ E, e.getD n 0 ≠ 0
  · exact ⟨_, h1 q⟩
  · refine ⟨_, h2 fun e me => Classical.byContradiction fun z => q ⟨e, me, z⟩⟩
end LinA

set_option Elab.async false
set_option linter.all false
/-! LinV: columns; a vector is added up, or one bars it; all that is nought on vectors. -/
namespace LinA
open Lean.Grind
def colA (T : List (List Int)) (c : Nat) : List Int := T.map fun xs => xs.getD c 0
def colsA (T : List (List Int)) (L : Nat) : List (List Int) := (List.range L).map (colA T)
def addA (p : Int) (T : List (List Int)) (fs : List Int) (L : Nat) : List Int := (List.range L).map fun c => dotA fs (colA T c) % p
section
variable {p L : Nat}
theorem colA_vec (p0 : 0 < p) {T : List (List Int)} {c : Nat} (hv : ∀ xs ∈ T, Vec p L xs) : Vec p T.length (colA T c) := ⟨List.length_map .., fun x m => by
  obtain ⟨xs, mx, rfl⟩ := List.mem_map.mp m
  exact vec_at (hv xs mx) p0 c⟩
theorem colsA_vec (p0 : 0 < p) {T : List (List Int)} {M : Nat} (hv : ∀ xs ∈ T, Vec p L xs) : ∀ v ∈ colsA T M, Vec p T.length v := fun v m => by
  obtain ⟨c, _, rfl⟩ := List.mem_map.mp m
  exact colA_vec p0 hv
theorem colsA_len {T : List (List Int)} : (colsA T L).length = L := by
  unfold colsA
  rw [List.length_map, List.length_range]
theorem addA_get {T : List (List Int)} {fs : List Int} {c : Nat} (h : c < L) : (addA (p : Int) T fs L).getD c 0 = dotA fs (colA T c) % (p : Int) := by
  unfold addA
  rw [List.getD_eq_getElem?_getD, List.getElem?_map, List.getElem?_range h]
  rfl
theorem addA_vec (p0 : 0 < p) (T : List (List Int)) (fs : List Int) : Vec p L (addA (p : Int) T fs L) := ⟨by unfold addA; rw [List.length_map, List.length_range], fun x m => by
  obtain ⟨c, _, rfl⟩ := List.mem_map.mp m
  exact mod_in p0 _⟩
theorem dot_comb [NeZero p] {c : Nat} : ∀ (T : List (List Int)) (fs : List Int), ic (Fin p) (dotA fs (colA T c)) = comb (rowsOf (Fin p) T) fs c
  | [], fs => by
    have e : dotA fs (colA [] c) = 0 := by
      unfold dotA colA
      rw [List.map_nil, List.zipWith_nil_right]
      rfl
    rw [e]
    exact ic_zero
  | _ :: _, [] => ic_zero
  | xs :: T, f :: fs => by
    show ic (Fin p) (f * xs.getD c 0 + dotA fs (colA T c)) = ic (Fin p) f * ic (Fin p) (xs.getD c 0) + comb _ fs c
    rw [ic_add, ic_mul, dot_comb T fs]
theorem comb_ge [NeZero p] {T : List (List Int)} (hT : ∀ xs ∈ T, Vec p L xs) : ∀ (fs : List Int) {c : Nat}, L ≤ c → comb (rowsOf (Fin p) T) fs c = 0 := by
  induction T with
  | nil => exact fun fs c _ => rfl
  | cons xs T ih =>
    intro fs c h
    cases fs with
    | nil => rfl
    | cons f fs =>
      show ic (Fin p) f * row (Fin p) xs c + comb (rowsOf (Fin p) T) fs c = 0
      rw [ih (fun v m => hT v (List.mem_cons_of_mem _ m)) fs h, row_ge (by rw [(hT xs List.mem_cons_self).1]; exact h)]
      grind
theorem add_row [NeZero p] {T : List (List Int)} {fs : List Int} (hT : ∀ xs ∈ T, Vec p L xs) : row (Fin p) (addA (p : Int) T fs L) = comb (rowsOf (Fin p) T) fs := by
  have p0 : 0 < p := Nat.pos_of_ne_zero (NeZero.ne p)
  funext c
  by_cases h : c < L
  · show ic (Fin p) ((addA (p : Int) T fs L).getD c 0) = _
    rw [addA_get h, cast_mod (p := p), dot_comb]
  · rw [row_ge (by rw [(addA_vec p0 T fs).1]; omega), comb_ge hT fs (Nat.le_of_not_lt h)]
theorem add_sum [NeZero p] {T : List (List Int)} {fs : List Int} (hT : ∀ xs ∈ T, Vec p L xs) (e : T.length = fs.length) : addA (p : Int) T fs L = sumZ p L T fs := by
  have p0 : 0 < p := Nat.pos_of_ne_zero (NeZero.ne p)
  refine row_eq (K := Fin p) (addA_vec p0 T fs) (sumZ_vec p0 hT) ?_
  rw [sumZ_row p0 hT e, add_row hT]
theorem inS_add [NeZero p] {T : List (List Int)} {xs : List Int} (hT : ∀ xs ∈ T, Vec p L xs) : InS p L T xs ↔ ∃ fs, Vec p T.length fs ∧ addA (p : Int) T fs L = xs := by
  constructor
  · rintro ⟨fs, h, e⟩
    exact ⟨fs, h, by rw [add_sum hT h.1.symm, e]⟩
  · rintro ⟨fs, h, e⟩
    exact ⟨fs, h, by rw [← add_sum hT h.1.symm, e]⟩
theorem getD_ext {xs ys : List Int} (l : xs.length = L) (k : ys.length = L) (h : ∀ j, j < L → xs.getD j 0 = ys.getD j 0) : xs = ys := by
  refine List.ext_getElem (l.trans k.symm) fun j h1 h2 => ?_
  have z := h j (by omega)
  rw [getD_lt h1, getD_lt h2] at z
  exact z
/-- columns hit what is wanted: the vectors add up to it -/
theorem sol_cols (p0 : 0 < p) {V : List (List Int)} {w x : List Int} (hw : Vec p L w) : Sol p V.length (colsA V L) w x ↔ Vec p V.length x ∧ addA (p : Int) V x L = w := by
  unfold Sol
  refine and_congr_right fun hx => ?_
  constructor
  · intro h
    refine getD_ext (L := L) (addA_vec p0 V x).1 hw.1 fun j hj => ?_
    rw [addA_get hj, dotA_comm]
    have m : (colA V j, w.getD j 0) ∈ (colsA V L).zip w := by
      rw [List.mem_iff_getElem]
      refine ⟨j, by rw [List.length_zip, colsA_len, hw.1]; omega, ?_⟩
      rw [List.getElem_zip]
      unfold colsA
      rw [List.getElem_map, List.getElem_range, getD_lt (by rw [hw.1]; exact hj)]
    exact h _ m
  · rintro rfl z mz
    obtain ⟨j, hj, e⟩ := List.mem_iff_getElem.mp mz
    have jL : j < L := by
      rw [List.length_zip, colsA_len] at hj
      omega
    rw [List.getElem_zip] at e
    unfold colsA at e
    rw [List.getElem_map, List.getElem_range] at e
    rw [← e]
    have jl : j < (addA (p : Int) V x L).length := by rw [hw.1]; exact jL
    show dotA (colA V j) x % (p : Int) = (addA (p : Int) V x L)[j]'jl
    rw [dotA_comm, ← addA_get jL, getD_lt jl]
/-- what solved tells -/
theorem solve_iff (p2 : 2 ≤ p) {V : List (List Int)} {w : List Int} (hV : ∀ v ∈ V, Vec p L v) (hw : Vec p L w) {r : Option (List Int)} (h : Meets p V.length (colsA V L) w r) :
    (r = none ↔ ¬ InS p L V w) ∧ ∀ x, r = some x → Vec p V.length x ∧ addA (p : Int) V x L = w := by
  haveI : NeZero p := ⟨by omega⟩
  have key : (∃ x, Sol p V.length (colsA V L) w x) ↔ InS p L V w := by
    rw [inS_add hV]
    exact exists_congr fun x => sol_cols (by omega) hw
  cases r with
  | none => exact ⟨⟨fun _ q => h (key.mpr q), fun _ => rfl⟩, fun x e => nomatch e⟩
  | some x => exact ⟨⟨fun e => (nomatch e), fun q => (q (key.mp ⟨x, h.1⟩)).elim⟩, fun y e => by
      cases e
      exact (sol_cols (by omega) hw).mp h.1⟩
end
/-! ### added up, or barred -/
section
variable {p n : Nat}
def cut (n : Nat) {K : Type} [CommRing K] (r : Row K) : Row K := fun j => if j < n then r j else 0
theorem cut_zr {K : Type} [CommRing K] : cut n (zr : Row K) = zr := by
  funext j
  unfold cut
  split <;> rfl
theorem cut_ax {K : Type} [CommRing K] (c : K) (v w : Row K) : cut n (ax c v w) = ax c (cut n v) (cut n w) := by
  funext j
  show cut n (ax c v w) j = c * cut n v j + cut n w j
  unfold cut
  split
  · rfl
  · grind
theorem span_cut {K : Type} [CommRing K] {S T : List (Row K)} (h : ∀ v ∈ S, Span T (cut n v)) {v : Row K} (hv : Span S v) : Span T (cut n v) := by
  induction hv with
  | zero => rw [cut_zr]; exact .zero
  | add c v w m _ ih => rw [cut_ax]; exact .ax c (h v m) ih
theorem span_at {K : Type} [CommRing K] {S : List (Row K)} {j : Nat} (h : ∀ v ∈ S, v j = 0) {v : Row K} (hv : Span S v) : v j = 0 := by
  induction hv with
  | zero => rfl
  | add c v w m _ ih =>
    show c * v j + w j = 0
    rw [h v m, ih]
    grind
theorem cut_snoc [NeZero p] {v : List Int} {a : Int} (l : v.length = n) : cut n (row (Fin p) (v ++ [a])) = row (Fin p) v := by
  funext j
  unfold cut
  by_cases q : j < n
  · rw [if_pos q, row_snoc_lt (by omega)]
  · rw [if_neg q, row_ge (by omega)]
def bars (k : Nat) : List Int := List.replicate k 0 ++ [1]
theorem bars_vec (p2 : 2 ≤ p) (k : Nat) : Vec p (k + 1) (bars k) := ⟨by unfold bars; rw [List.length_append, List.length_replicate]; rfl, fun x m => by
  rcases List.mem_append.mp m with q | q
  · rw [(List.mem_replicate.mp q).2]
    omega
  · rw [List.mem_singleton.mp q]
    omega⟩
theorem zip_bars (V : List (List Int)) (w : List Int) : (V ++ [w]).zip (bars V.length) = V.zip (List.replicate V.length 0) ++ [(w, 1)] := by
  unfold bars
  rw [List.zip_append (by rw [List.length_replicate])]
  rfl
theorem sol_bars (V : List (List Int)) (w x : List Int) : Sol p n (V ++ [w]) (bars V.length) x ↔ Vec p n x ∧ (∀ v ∈ V, dotA v x % (p : Int) = 0) ∧ dotA w x % (p : Int) = 1 := by
  unfold Sol
  refine and_congr_right fun _ => ?_
  rw [zip_bars]
  constructor
  · intro h
    refine ⟨fun v mv => ?_, h (w, 1) (by simp)⟩
    obtain ⟨i, hi, e⟩ := List.mem_iff_getElem.mp mv
    refine h (v, 0) (List.mem_append_left _ ?_)
    rw [List.mem_iff_getElem]
    exact ⟨i, by rw [List.length_zip, List.length_replicate]; omega, by rw [List.getElem_zip, List.getElem_replicate, e]⟩
  · rintro ⟨h1, h2⟩ z mz
    rcases List.mem_append.mp mz with q | q
    · obtain ⟨m1, m2⟩ := List.of_mem_zip (a := z.1) (b := z.2) q
      rw [(List.mem_replicate.mp m2).2]
      exact h1 _ m1
    · rw [List.mem_singleton.mp q]
      exact h2
/-- nothing bars it: it is added up -/
theorem bar_alt (pr : Prm' p) (p2 : 2 ≤ p) {V : List (List Int)} {w : List Int} (hV : ∀ v ∈ V, Vec p n v) (hw : Vec p n w) : InS p n V w ∨ ∃ x, Vec p n x ∧ (∀ v ∈ V, dotA v x % (p : Int) = 0) ∧ dotA w x % (p : Int) = 1 := by
  haveI : NeZero p := ⟨by omega⟩
  have hVw : ∀ v ∈ V ++ [w], Vec p n v := fun v m => (List.mem_append.mp m).elim (hV v) fun q => by rw [List.mem_singleton.mp q]; exact hw
  obtain ⟨D, E, t, wy⟩ := way_ex pr p2 (augZ_vec hVw (bars_vec p2 V.length)) n (Nat.le_succ n)
  by_cases q : ∃ e ∈ E, e.getD n 0 ≠ 0
  · refine .inl ?_
    obtain ⟨e, me, ne⟩ := q
    obtain ⟨a0, a1⟩ := vec_at (wy.ve e me) (by omega) n
    obtain ⟨s, hs⟩ := inv_ex pr p2 (a := e.getD n 0) (by omega) a1
    have unit : ic (Fin p) (e.getD n 0) * ic (Fin p) s = 1 := by
      rw [← ic_mul, ← cast_mod (p := p), hs, ic_one]
    have sp : Span (rowsOf (Fin p) (augZ (V ++ [w]) (bars V.length))) (row (Fin p) e) := (wy.same _).mp (.mem (List.mem_map_of_mem (List.mem_append_right _ me)))
    have eA : rowsOf (Fin p) (augZ (V ++ [w]) (bars V.length)) = rowsOf (Fin p) (augZ V (List.replicate V.length 0)) ++ [row (Fin p) (w ++ [1])] := by
      have e1 : augZ (V ++ [w]) (bars V.length) = augZ V (List.replicate V.length 0) ++ [w ++ [1]] := by
        unfold augZ bars
        rw [List.zipWith_append (by rw [List.length_replicate])]
        rfl
      rw [e1]
      exact List.map_append
    rw [eA] at sp
    obtain ⟨c, u, hu, eu⟩ := span_snoc.mp sp
    have un : u n = 0 := by
      refine span_at (fun v mv => ?_) hu
      obtain ⟨y, my, rfl⟩ := List.mem_map.mp mv
      obtain ⟨z, mz, rfl⟩ := augZ_mem my
      obtain ⟨m1, m2⟩ := List.of_mem_zip (a := z.1) (b := z.2) mz
      have k := row_snoc_at (K := Fin p) (xs := z.1) (a := z.2)
      rw [(hV _ m1).1] at k
      rw [k, (List.mem_replicate.mp m2).2, ic_zero]
    have wn : row (Fin p) (w ++ [1]) n = 1 := by
      have k := row_snoc_at (K := Fin p) (xs := w) (a := 1)
      rw [hw.1] at k
      rw [k, ic_one]
    have ec : c = ic (Fin p) (e.getD n 0) := by
      have k : row (Fin p) e n = c * row (Fin p) (w ++ [1]) n + u n := congrFun eu n
      rw [un, wn] at k
      have k2 : ic (Fin p) (e.getD n 0) = row (Fin p) e n := rfl
      rw [k2, k]
      grind
    have hcu : Span (rowsOf (Fin p) V) (cut n u) := by
      refine span_cut (fun v mv => ?_) hu
      obtain ⟨y, my, rfl⟩ := List.mem_map.mp mv
      obtain ⟨z, mz, rfl⟩ := augZ_mem my
      obtain ⟨m1, m2⟩ := List.of_mem_zip (a := z.1) (b := z.2) mz
      rw [cut_snoc (hV _ m1).1]
      exact .mem (List.mem_map_of_mem m1)
    refine (inS_iff hV).mpr ⟨hw, ?_⟩
    have ew : row (Fin p) w = ax (-(ic (Fin p) s)) (cut n u) zr := by
      funext j
      show row (Fin p) w j = -(ic (Fin p) s) * cut n u j + 0
      by_cases hj : j < n
      · have k : row (Fin p) e j = c * row (Fin p) (w ++ [1]) j + u j := congrFun eu j
        have z0 : row (Fin p) e j = 0 := wy.up.low _ (List.mem_map_of_mem me) j hj
        rw [z0, row_snoc_lt (by rw [hw.1]; exact hj), ec] at k
        have cu : cut n u j = u j := by
          unfold cut
          rw [if_pos hj]
        rw [cu]
        have k2 : u j = -(ic (Fin p) (e.getD n 0) * row (Fin p) w j) := by grind
        rw [k2]
        have k3 : -(ic (Fin p) s) * -(ic (Fin p) (e.getD n 0) * row (Fin p) w j) = (ic (Fin p) (e.getD n 0) * ic (Fin p) s) * row (Fin p) w j := by grind
        rw [k3, unit]
        grind
      · have cu : cut n u j = 0 := by
          unfold cut
          rw [if_neg hj]
        rw [cu, row_ge (by rw [hw.1]; omega)]
        grind
    rw [ew]
    exact .ax _ hcu .zero
  · have z : ∀ e ∈ E, e.getD n 0 = 0 := fun e me => Classical.byContradiction fun k => q ⟨e, me, k⟩
    exact .inr ⟨_, (sol_bars V w _).mp (way_yes hVw (bars_vec p2 V.length) wy z)⟩
theorem bar_not [NeZero p] (p2 : 2 ≤ p) {V : List (List Int)} {w x : List Int} (hV : ∀ v ∈ V, Vec p n v) (hw : Vec p n w) (lx : x.length = n) (h : ∀ v ∈ V, dotA v x % (p : Int) = 0) (k : InS p n V w) : dotA w x % (p : Int) = 0 := by
  obtain ⟨_, s⟩ := (inS_iff hV).mp k
  have z : ip (row (Fin p) x) n (row (Fin p) w) = 0 := ip_span (fun v mv => by
    obtain ⟨y, my, rfl⟩ := List.mem_map.mp mv
    rw [← dot_ip (hV y my).1 lx, ← cast_mod (p := p), h y my, ic_zero]) s
  rw [← dot_ip hw.1 lx, ← cast_mod (p := p)] at z
  obtain ⟨a0, a1⟩ := mod_in (show 0 < p by omega) (dotA w x)
  exact (cast_zero (K := Fin p) a0 a1).mp z
/-- what barred tells -/
theorem bar_iff (pr : Prm' p) (p2 : 2 ≤ p) {V : List (List Int)} {w : List Int} (hV : ∀ v ∈ V, Vec p n v) (hw : Vec p n w) {r : Option (List Int)} (h : Meets p n (V ++ [w]) (bars V.length) r) :
    (r = none ↔ InS p n V w) ∧ ∀ x, r = some x → Vec p n x ∧ (∀ v ∈ V, dotA v x % (p : Int) = 0) ∧ dotA w x % (p : Int) = 1 := by
  haveI : NeZero p := ⟨by omega⟩
  cases r with
  | none => exact ⟨⟨fun _ => (bar_alt pr p2 hV hw).elim id fun ⟨x, k⟩ => (h ⟨x, (sol_bars V w x).mpr k⟩).elim, fun _ => rfl⟩, fun x e => nomatch e⟩
  | some x =>
    obtain ⟨h1, h2, h3⟩ := (sol_bars V w x).mp h.1
    refine ⟨⟨fun e => (nomatch e), fun q => ?_⟩, fun y e => by cases e; exact ⟨h1, h2, h3⟩⟩
    rw [bar_not p2 hV hw h1.1 h2 q] at h3
    cases h3
end
/-! ### what is nought on vectors -/
section
variable {p L : Nat}
def Ker (p L : Nat) (V : List (List Int)) (x : List Int) : Prop := Vec p L x ∧ ∀ v ∈ V, dotA v x % (p : Int) = 0
def kerZ (p L : Nat) (D : List (List Int)) (t : List Nat) (f : Nat) : List Int := putF (fun z : List Int × Nat => z.2) (fun z => -(z.1.getD f 0) % (p : Int)) (D.zip t) ((List.replicate L 0).set f 1)
def kersZ (p L : Nat) (D : List (List Int)) (t : List Nat) : List (List Int) := ((List.range L).filter fun f => decide (f ∉ t)).map (kerZ p L D t)
variable [NeZero p]
theorem ker_ip {V : List (List Int)} {x : List Int} (hV : ∀ v ∈ V, Vec p L v) (lx : x.length = L) : (∀ v ∈ V, dotA v x % (p : Int) = 0) ↔ ∀ v ∈ rowsOf (Fin p) V, ip (row (Fin p) x) L v = 0 := by
  have p0 : 0 < p := Nat.pos_of_ne_zero (NeZero.ne p)
  constructor
  · intro h v mv
    obtain ⟨y, my, rfl⟩ := List.mem_map.mp mv
    rw [← dot_ip (hV y my).1 lx, ← cast_mod (p := p), h y my, ic_zero]
  · intro h v mv
    have z := h _ (List.mem_map_of_mem mv)
    rw [← dot_ip (hV v mv).1 lx, ← cast_mod (p := p)] at z
    obtain ⟨a0, a1⟩ := mod_in p0 (dotA v x)
    exact (cast_zero (K := Fin p) a0 a1).mp z
/-- noughts are added up to noughts -/
theorem ker_span {V B : List (List Int)} (hV : ∀ v ∈ V, Vec p L v) (hB : ∀ b ∈ B, Ker p L V b) {x : List Int} (k : InS p L B x) : Ker p L V x := by
  obtain ⟨hx, s⟩ := (inS_iff fun b m => (hB b m).1).mp k
  refine ⟨hx, (ker_ip hV hx.1).mpr fun v mv => ?_⟩
  rw [ip_comm]
  refine ip_span (fun b mb => ?_) s
  obtain ⟨y, my, rfl⟩ := List.mem_map.mp mb
  rw [ip_comm]
  exact (ker_ip hV (hB y my).1.1).mp (hB y my).2 v mv
variable {D E V : List (List Int)} {t : List Nat}
theorem way_lt (w : Way (Fin p) p L V D E t L) : ∀ c ∈ t, c < L := fun c m => by
  obtain ⟨y, my, e⟩ := mem_zip_snd w.len m
  have q := w.up.lt _ (top_row (p := p) my)
  rw [← e]
  exact q
theorem kerZ_at (w : Way (Fin p) p L V D E t L) {f : Nat} {z : List Int × Nat} (m : z ∈ D.zip t) : (kerZ p L D t f).getD z.2 0 = -(z.1.getD f 0) % (p : Int) := by
  refine putF_at (fun z : List Int × Nat => z.2) (fun z => -(z.1.getD f 0) % (p : Int)) ?_ (fun y my => ?_) z m
  · rw [snd_zip w.len]
    exact t_nodup w.up.rr w.len
  · rw [List.length_set, List.length_replicate]
    exact way_lt w _ (List.of_mem_zip (a := y.1) (b := y.2) my).2
theorem kerZ_off {f j : Nat} (hj : j < L) (h : j ∉ t) : (kerZ p L D t f).getD j 0 = if j = f then 1 else 0 := by
  unfold kerZ
  rw [putF_off (fun z : List Int × Nat => z.2) (fun z => -(z.1.getD f 0) % (p : Int)) fun z mz e => h (by rw [← e]; exact (List.of_mem_zip (a := z.1) (b := z.2) mz).2)]
  by_cases q : j = f
  · subst q
    rw [if_pos rfl, getD_set_at (by rw [List.length_replicate]; exact hj)]
  · rw [if_neg q, getD_set_ne (Ne.symm q), List.getD_eq_getElem?_getD, List.getElem?_replicate_of_lt hj]
    rfl
theorem kerZ_vec (p2 : 2 ≤ p) (f : Nat) : Vec p L (kerZ p L D t f) := by
  refine putF_vec _ _ (fun z => mod_in (by omega) _) ⟨by rw [List.length_set, List.length_replicate], fun x m => ?_⟩
  rcases List.mem_or_eq_of_mem_set m with q | q
  · rw [(List.mem_replicate.mp q).2]
    omega
  · rw [q]
    omega
/-- a row is nought on x just if the numbers of x tell its number at the top -/
theorem ip_ker (w : Way (Fin p) p L V D E t L) {x : Row (Fin p)} {z : List Int × Nat} (m : z ∈ D.zip t) (y : Row (Fin p)) (hy : ∀ j, j ∉ t → y j = 0) (e : ∀ j, j < L → x j = y j + (if j ∈ t then 0 else x j)) : ip x L (row (Fin p) z.1) = y z.2 + ip (fun j => if j ∈ t then 0 else x j) L (row (Fin p) z.1) := by
  have k : ip x L (row (Fin p) z.1) = ip (ax 1 y fun j => if j ∈ t then 0 else x j) L (row (Fin p) z.1) := ip_congr fun j hj => ⟨by
    show x j = 1 * y j + (if j ∈ t then 0 else x j)
    have z := e j hj
    grind, rfl⟩
  rw [k, ip_xa, ip_top w.up.rr w.len (way_lt w) hy m]
  grind
theorem kers_ker (p2 : 2 ≤ p) (hV : ∀ v ∈ V, Vec p L v) (w : Way (Fin p) p L V D E t L) {f : Nat} (hf : f < L) (nf : f ∉ t) : Ker p L V (kerZ p L D t f) := by
  have kv : Vec p L (kerZ p L D t f) := kerZ_vec p2 f
  refine ⟨kv, (ker_ip hV kv.1).mpr fun v mv => ip_span (S := rowsOf (Fin p) (D ++ E)) (fun u mu => ?_) ((w.same _).mpr (.mem mv))⟩
  obtain ⟨y, my, rfl⟩ := List.mem_map.mp mu
  rcases List.mem_append.mp my with q | q
  · obtain ⟨i, hi, e⟩ := List.mem_iff_getElem.mp q
    have hi2 : i < t.length := by rw [← w.len]; exact hi
    have mz : (y, t[i]) ∈ D.zip t := by
      rw [List.mem_iff_getElem]
      exact ⟨i, by rw [List.length_zip]; omega, by rw [List.getElem_zip, e]⟩
    have k := ip_ker w (x := row (Fin p) (kerZ p L D t f)) mz (fun j => if j ∈ t then row (Fin p) (kerZ p L D t f) j else 0) (fun j hj => if_neg hj) fun j hj => by
      by_cases q : j ∈ t
      · rw [if_pos q, if_pos q]
        grind
      · rw [if_neg q, if_neg q]
        grind
    rw [k]
    have mt : t[i] ∈ t := List.getElem_mem hi2
    have e1 : (if t[i] ∈ t then row (Fin p) (kerZ p L D t f) t[i] else 0) = -(row (Fin p) y f) := by
      rw [if_pos mt]
      show ic (Fin p) ((kerZ p L D t f).getD t[i] 0) = -(ic (Fin p) (y.getD f 0))
      have g := kerZ_at w (f := f) mz
      have g2 : (kerZ p L D t f).getD t[i] 0 = -(y.getD f 0) % (p : Int) := g
      rw [g2, cast_mod (p := p), ic_neg]
    have e2 : ip (fun j => if j ∈ t then 0 else row (Fin p) (kerZ p L D t f) j) L (row (Fin p) y) = row (Fin p) y f := by
      rw [ip_one (c := f) hf fun j hj ne => ?_]
      · rw [if_neg nf]
        have g : row (Fin p) (kerZ p L D t f) f = 1 := by
          show ic (Fin p) ((kerZ p L D t f).getD f 0) = 1
          rw [kerZ_off hf nf, if_pos rfl, ic_one]
        rw [g]
        grind
      · by_cases q : j ∈ t
        · rw [if_pos q]
          grind
        · rw [if_neg q]
          have g : row (Fin p) (kerZ p L D t f) j = 0 := by
            show ic (Fin p) ((kerZ p L D t f).getD j 0) = 0
            rw [kerZ_off hj q, if_neg ne, ic_zero]
          rw [g]
          grind
    rw [e1, e2]
    grind
  · refine ip_none fun j hj => ?_
    have z0 : row (Fin p) y j = 0 := w.up.low _ (List.mem_map_of_mem q) j hj
    rw [z0]
    grind
/-- the numbers of x at the free places, put onto the rows of these places -/
def ksum (p L : Nat) [NeZero p] (D : List (List Int)) (t : List Nat) (x : List Int) : List Nat → Row (Fin p)
  | [] => zr
  | f :: fs => ax (row (Fin p) x f) (row (Fin p) (kerZ p L D t f)) (ksum p L D t x fs)
theorem ksum_span (x : List Int) : ∀ (fs : List Nat), Span (rowsOf (Fin p) (fs.map (kerZ p L D t))) (ksum p L D t x fs)
  | [] => .zero
  | f :: fs => .ax _ (.mem List.mem_cons_self) ((ksum_span x fs).mono fun v m => List.mem_cons_of_mem _ m)
theorem ksum_at {x : List Int} {j : Nat} (hj : j < L) (h : j ∉ t) : ∀ {fs : List Nat}, fs.Nodup → ksum p L D t x fs j = if j ∈ fs then row (Fin p) x j else 0
  | [], _ => by simp [ksum, zr]
  | f :: fs, nd => by
    obtain ⟨n1, n2⟩ := List.nodup_cons.mp nd
    show row (Fin p) x f * row (Fin p) (kerZ p L D t f) j + ksum p L D t x fs j = _
    rw [ksum_at hj h n2]
    have g : row (Fin p) (kerZ p L D t f) j = if j = f then 1 else 0 := by
      show ic (Fin p) ((kerZ p L D t f).getD j 0) = _
      rw [kerZ_off hj h]
      split
      · exact ic_one
      · exact ic_zero
    rw [g]
    by_cases q : j = f
    · subst q
      rw [if_pos rfl, if_neg n1, if_pos List.mem_cons_self]
      grind
    · rw [if_neg q]
      by_cases q2 : j ∈ fs
      · rw [if_pos q2, if_pos (List.mem_cons_of_mem _ q2)]
        grind
      · rw [if_neg q2, if_neg fun m => (List.mem_cons.mp m).elim q q2]
        grind
/-- the rows of the free places span all that is nought -/
theorem kers_span (p2 : 2 ≤ p) (hV : ∀ v ∈ V, Vec p L v) (w : Way (Fin p) p L V D E t L) (x : List Int) : InS p L (kersZ p L D t) x ↔ Ker p L V x := by
  have hk : ∀ b ∈ kersZ p L D t, Ker p L V b := fun b mb => by
    obtain ⟨f, mf, rfl⟩ := List.mem_map.mp mb
    obtain ⟨m1, m2⟩ := List.mem_filter.mp mf
    exact kers_ker p2 hV w (List.mem_range.mp m1) (of_decide_eq_true m2)
  refine ⟨ker_span hV hk, fun h => (inS_iff fun b m => (hk b m).1).mpr ⟨h.1, ?_⟩⟩
  let fs := (List.range L).filter fun f => decide (f ∉ t)
  have nd : fs.Nodup := (List.nodup_range (n := L)).sublist List.filter_sublist
  let s := ksum p L D t x fs
  have hs : Span (rowsOf (Fin p) (kersZ p L D t)) s := ksum_span x fs
  have e : row (Fin p) x = s := by
    -- the difference is nought at the free places, so at the tops too
    let y : Row (Fin p) := ax (-1) s (row (Fin p) x)
    have yo : ∀ j, j ∉ t → j < L → y j = 0 := fun j hj jL => by
      show -1 * s j + row (Fin p) x j = 0
      have g : s j = row (Fin p) x j := by
        show ksum p L D t x fs j = _
        rw [ksum_at jL hj nd, if_pos (List.mem_filter.mpr ⟨List.mem_range.mpr jL, decide_eq_true hj⟩)]
      rw [g]
      grind
    have sz : ∀ v, Span (rowsOf (Fin p) V) v → ip y L v = 0 := fun v hv => by
      rw [ip_xa]
      have a1 : ip (row (Fin p) x) L v = 0 := ip_span ((ker_ip hV h.1.1).mp h.2) hv
      have a2 : ip s L v = 0 := by
        rw [ip_comm]
        refine ip_span (fun b mb => ?_) hs
        obtain ⟨z, mz, rfl⟩ := List.mem_map.mp mb
        rw [ip_comm]
        exact ip_span ((ker_ip hV (hk z mz).1.1).mp (hk z mz).2) hv
      rw [a1, a2]
      grind
    have yz : ∀ j, j < L → y j = 0 := fun j jL => by
      by_cases q : j ∈ t
      · obtain ⟨z, mz, ez⟩ := mem_zip_snd w.len q
        have k := sz (row (Fin p) z.1) ((w.same _).mp (.mem (List.mem_map_of_mem (List.mem_append_left _ (List.of_mem_zip (a := z.1) (b := z.2) mz).1))))
        have k2 : ip y L (row (Fin p) z.1) = ip (fun i => if i < L then y i else 0) L (row (Fin p) z.1) := ip_congr fun i hi => ⟨by rw [if_pos hi], rfl⟩
        rw [k2, ip_top w.up.rr w.len (way_lt w) (fun i hi => by
          by_cases q2 : i < L
          · rw [if_pos q2, yo i hi q2]
          · rw [if_neg q2]) mz, ez, if_pos jL] at k
        exact k
      · exact yo j q jL
    funext j
    by_cases jL : j < L
    · have k : -1 * s j + row (Fin p) x j = 0 := yz j jL
      grind
    · rw [row_ge (by rw [h.1.1]; omega)]
      refine (span_at (fun v mv => ?_) hs).symm
      obtain ⟨z, mz, rfl⟩ := List.mem_map.mp mv
      exact row_ge (by rw [(hk z mz).1.1]; omega)
  rw [e]
  exact hs
end
end LinA

set_option Elab.async false
set_option linter.all false
/-! LinW: what stands between two lists of vectors, or bars it. -/
namespace LinA
open Lean.Grind
/-- nothing on the left bars it -/
def LCond (p n o : Nat) (F W : List (List Int)) : Prop := ∀ u, Ker p F.length (colsA F n) u → ∀ c, c < o → dotA u (colA W c) % (p : Int) = 0
/-- nothing on the right bars it -/
def RCond (p o : Nat) (S W : List (List Int)) : Prop := ∀ z, Ker p o S z → ∀ w ∈ W, dotA w z % (p : Int) = 0
/-- the middle ones, column by column -/
def Mids (p n o : Nat) (F W xs : List (List Int)) : Prop := xs.length = o ∧ ∀ c x, xs[c]? = some x → Meets p n F (colA W c) (some x)
section
variable {p n m : Nat} [NeZero p]
theorem cut_lt {K : Type} [CommRing K] {r : Row K} {j : Nat} (h : j < n) : cut n r j = r j := by
  unfold cut
  rw [if_pos h]
theorem bas_cut (p2 : 2 ≤ p) {F D : List (List Int)} {aims : List Int} {t : List Nat} (hF : ∀ v ∈ F, Vec p n v) (ha : Vec p F.length aims) (b : Bas p (n + 1) (augZ F aims) D t) (lt : ∀ c ∈ t, c < n) :
    Rref ((topsOf p D t).map fun x => (cut n x.1, x.2)) ∧ Same (rows ((topsOf p D t).map fun x => (cut n x.1, x.2))) (rowsOf (Fin p) F) ∧ tops ((topsOf p D t).map fun x => (cut n x.1, x.2)) = t := by
  have r := b.rref
  have ht : ∀ x ∈ topsOf p D t, x.2 < n := fun x m => lt _ (List.of_mem_zip (a := x.1) (b := x.2) m).2
  have hA := augZ_vec hF ha
  have sm : Same (rowsOf (Fin p) D) (rowsOf (Fin p) (augZ F aims)) := same_of b.vec hA b.same
  have er : rows ((topsOf p D t).map fun x => (cut n x.1, x.2)) = (rowsOf (Fin p) D).map (cut n) := by
    rw [← rows_of_tops b]
    show (((topsOf p D t).map fun x => (cut n x.1, x.2)).map fun x => x.1) = ((topsOf p D t).map fun x => x.1).map (cut n)
    rw [List.map_map, List.map_map]
    rfl
  refine ⟨⟨fun x m => ?_, fun x m j hj => ?_, ?_⟩, ?_, ?_⟩
  · obtain ⟨y, my, rfl⟩ := List.mem_map.mp m
    exact (cut_lt (ht y my)).trans (r.one y my)
  · obtain ⟨y, my, rfl⟩ := List.mem_map.mp m
    have hj : j < y.2 := hj
    exact (cut_lt (Nat.lt_trans hj (ht y my))).trans (r.low y my j hj)
  · refine List.pairwise_map.mpr (r.two.imp_of_mem fun {x y} mx my q => ⟨q.1, ?_⟩)
    exact (cut_lt (ht y my)).trans q.2
  · rw [er]
    refine .of (fun v mv => ?_) fun v mv => ?_
    · obtain ⟨y, my, rfl⟩ := List.mem_map.mp mv
      refine span_cut (fun u mu => ?_) ((sm _).mp (.mem my))
      obtain ⟨a, ma, rfl⟩ := List.mem_map.mp mu
      obtain ⟨z, mz, rfl⟩ := augZ_mem ma
      obtain ⟨m1, m2⟩ := List.of_mem_zip (a := z.1) (b := z.2) mz
      rw [cut_snoc (hF _ m1).1]
      exact .mem (List.mem_map_of_mem m1)
    · obtain ⟨f, mf, rfl⟩ := List.mem_map.mp mv
      obtain ⟨i, hi, e⟩ := List.mem_iff_getElem.mp mf
      have hi2 : i < aims.length := by rw [ha.1]; exact hi
      have mz : (f, aims[i]) ∈ F.zip aims := by
        rw [List.mem_iff_getElem]
        exact ⟨i, by rw [List.length_zip]; omega, by rw [List.getElem_zip, e]⟩
      have sp : Span (rowsOf (Fin p) D) (row (Fin p) (f ++ [aims[i]])) := (sm _).mpr (.mem (List.mem_map_of_mem (augZ_of mz)))
      rw [← cut_snoc (a := aims[i]) (hF f mf).1]
      exact span_cut (fun u mu => .mem (List.mem_map_of_mem mu)) sp
  · show (((topsOf p D t).map fun x => (cut n x.1, x.2)).map fun x => x.2) = t
    rw [List.map_map]
    exact tops_zip b.len
/-- where the vector that meeting tells isn't nought -/
theorem meets_sup (p2 : 2 ≤ p) {F D E : List (List Int)} {aims x : List Int} {t : List Nat} (hF : ∀ v ∈ F, Vec p n v) (ha : Vec p F.length aims) (w : Way (Fin p) p n F D E t n) (h : Meets p n F aims (some x)) {j : Nat} (hj : j ∉ t) : row (Fin p) x j = 0 := by
  obtain ⟨_, D2, t2, b, lt, e⟩ := h
  obtain ⟨r1, s1, e1⟩ := bas_cut p2 hF ha b lt
  obtain ⟨r2, s2, e2⟩ := w.fin
  have q : Same (rows ((topsOf p D2 t2).map fun x => (cut n x.1, x.2))) (rows ((rowsOf (Fin p) D).zip t)) := by
    rw [e2]
    exact s1.trans s2.symm
  have z := rref_one r1 r2 (one_ne (p := p) (by omega)) q
  have et : t2 = t := by
    rw [← e1, z]
    exact tops_zip w.len
  rw [e]
  show ic (Fin p) ((putZ n D2 t2).getD j 0) = 0
  rw [putZ_off (by rw [et]; exact hj), ic_zero]
end
section
variable {p n o : Nat} [NeZero p] {F S W xs : List (List Int)}
theorem zip_col {f w : List Int} (h : (f, w) ∈ F.zip W) (c : Nat) : (f, w.getD c 0) ∈ F.zip (colA W c) := by
  unfold colA
  rw [List.zip_map_right]
  exact List.mem_map.mpr ⟨_, h, rfl⟩
theorem mids_dot (p0 : 0 < p) (h : Mids p n o F W xs) {f w : List Int} (m : (f, w) ∈ F.zip W) (lf : f.length = n) (lw : w.length = o) : (rowsOf (Fin p) xs).map (ip (row (Fin p) f) n) = w.map (ic (Fin p)) := by
  obtain ⟨lx, h⟩ := h
  refine List.ext_getElem (by rw [List.length_map, List.length_map, List.length_map, lx, lw]) fun c h1 h2 => ?_
  have hc : c < xs.length := by
    rw [List.length_map, List.length_map] at h1
    exact h1
  have hw : c < w.length := by omega
  rw [List.getElem_map, List.getElem_map, List.getElem_map]
  obtain ⟨⟨v, s⟩, _⟩ := h c xs[c] (List.getElem?_eq_getElem hc)
  have z := s _ (zip_col m c)
  have z2 : dotA f xs[c] % (p : Int) = w.getD c 0 := z
  rw [ip_comm, ← dot_ip lf v.1, ← cast_mod (p := p), z2, getD_lt hw]
/-- what is nought on all wanted ones is nought on the middle ones -/
theorem mids_lin (pr : Prm' p) (p2 : 2 ≤ p) (hF : ∀ v ∈ F, Vec p n v) (hW : ∀ v ∈ W, Vec p o v) (lW : W.length = F.length) (h : Mids p n o F W xs) {z : List Int} (hz : z.length = o) (k : ∀ w ∈ W, dotA w z % (p : Int) = 0) :
    ∀ r, r < n → dotA (colA xs r) z % (p : Int) = 0 := by
  have p0 : 0 < p := by omega
  obtain ⟨D, E, t, w⟩ := way_ex pr p2 hF n (Nat.le_refl n)
  have hx : ∀ x ∈ xs, ∀ j, j ∉ t → row (Fin p) x j = 0 := fun x mx j hj => by
    obtain ⟨c, hc, e⟩ := List.mem_iff_getElem.mp mx
    have q := h.2 c xs[c] (List.getElem?_eq_getElem hc)
    rw [e] at q
    refine meets_sup p2 hF ?_ w q hj
    have v := colA_vec (c := c) p0 hW
    rw [lW] at v
    exact v
  let y : Row (Fin p) := comb (rowsOf (Fin p) xs) z
  have yo : ∀ j, j ∉ t → y j = 0 := fun j hj => span_at (fun v mv => by
    obtain ⟨x, mx, rfl⟩ := List.mem_map.mp mv
    exact hx x mx j hj) (comb_span _ _)
  have yF : ∀ v ∈ rowsOf (Fin p) F, ip y n v = 0 := fun v mv => by
    obtain ⟨f, mf, rfl⟩ := List.mem_map.mp mv
    obtain ⟨i, hi, e⟩ := List.mem_iff_getElem.mp mf
    have hi2 : i < W.length := by omega
    have mz : (f, W[i]) ∈ F.zip W := by
      rw [List.mem_iff_getElem]
      exact ⟨i, by rw [List.length_zip]; omega, by rw [List.getElem_zip, e]⟩
    have mW : W[i] ∈ W := List.getElem_mem hi2
    rw [ip_comm, ip_comb, mids_dot p0 h mz (hF f mf).1 (hW _ mW).1, ← ic_dot, ← cast_mod (p := p), k _ mW, ic_zero]
  have yt : ∀ j, y j = 0 := fun j => by
    by_cases q : j ∈ t
    · obtain ⟨d, md, ed⟩ := mem_zip_snd w.len q
      have s : Span (rowsOf (Fin p) F) (row (Fin p) d.1) := (w.same _).mp (.mem (List.mem_map_of_mem (List.mem_append_left _ (List.of_mem_zip (a := d.1) (b := d.2) md).1)))
      have g := ip_span yF s
      rw [ip_top w.up.rr w.len (way_lt w) yo md, ed] at g
      exact g
    · exact yo j q
  intro r hr
  have g : ic (Fin p) (dotA z (colA xs r)) = 0 := by
    rw [dot_comb]
    exact yt r
  rw [← cast_mod (p := p)] at g
  obtain ⟨a0, a1⟩ := mod_in p0 (dotA z (colA xs r))
  rw [dotA_comm]
  exact (cast_zero (K := Fin p) a0 a1).mp g
/-- nothing on the left: each column is met -/
theorem mid_some (pr : Prm' p) (p2 : 2 ≤ p) (hF : ∀ v ∈ F, Vec p n v) (hW : ∀ v ∈ W, Vec p o v) (lW : W.length = F.length) (L : LCond p n o F W) {c : Nat} (hc : c < o) : ¬ Meets p n F (colA W c) none := by
  have p0 : 0 < p := by omega
  have hcol : Vec p F.length (colA W c) := by
    have v := colA_vec (c := c) p0 hW
    rw [lW] at v
    exact v
  intro no
  refine no ?_
  rcases bar_alt pr p2 (colsA_vec (M := n) p0 hF) hcol with q | ⟨u, hu, k, one⟩
  · obtain ⟨x, hx, e⟩ := (inS_add (colsA_vec (M := n) p0 hF)).mp q
    rw [colsA_len] at hx
    refine ⟨x, hx, fun z mz => ?_⟩
    obtain ⟨i, hi, ez⟩ := List.mem_iff_getElem.mp mz
    rw [List.getElem_zip] at ez
    have hi1 : i < F.length := by
      rw [List.length_zip] at hi
      omega
    have hi2 : i < (colA W c).length := by
      rw [List.length_zip] at hi
      omega
    have g : (addA (p : Int) (colsA F n) x F.length).getD i 0 = (colA W c).getD i 0 := by rw [e]
    rw [addA_get hi1, getD_lt hi2] at g
    rw [← ez]
    show dotA F[i] x % (p : Int) = (colA W c)[i]
    rw [← g]
    have er : colA (colsA F n) i = F[i] := by
      refine getD_ext (L := n) (by unfold colA; rw [List.length_map, colsA_len]) (hF _ (List.getElem_mem hi1)).1 fun j hj => ?_
      unfold colA colsA
      rw [List.map_map, List.getD_eq_getElem?_getD, List.getElem?_map, List.getElem?_range hj]
      show (colA F j).getD i 0 = F[i].getD j 0
      unfold colA
      rw [List.getD_eq_getElem?_getD, List.getElem?_map, List.getElem?_eq_getElem hi1]
      rfl
    rw [er, dotA_comm]
  · have z := L u ⟨hu, k⟩ c hc
    rw [dotA_comm, one] at z
    cases z
/-- nothing on the right: the middle ones are sums of the second ones -/
theorem mid_span (pr : Prm' p) (p2 : 2 ≤ p) (hF : ∀ v ∈ F, Vec p n v) (hS : ∀ v ∈ S, Vec p o v) (hW : ∀ v ∈ W, Vec p o v) (lW : W.length = F.length) (R : RCond p o S W) (h : Mids p n o F W xs) {r : Nat} (hr : r < n) : InS p o S (colA xs r) := by
  have p0 : 0 < p := by omega
  have hv : Vec p o (colA xs r) := by
    have v := colA_vec (p := p) (L := n) (c := r) p0 (T := xs) fun x mx => by
      obtain ⟨c, hc, e⟩ := List.mem_iff_getElem.mp mx
      have q := (h.2 c xs[c] (List.getElem?_eq_getElem hc)).1.1
      rw [e] at q
      exact q
    rw [h.1] at v
    exact v
  rcases bar_alt pr p2 hS hv with q | ⟨z, hz, k, one⟩
  · exact q
  · rw [mids_lin pr p2 hF hW lW h hz.1 (R z ⟨hz, k⟩) r hr] at one
    cases one
/-- what stands between is barred by nothing -/
theorem mid_left (p2 : 2 ≤ p) (hF : ∀ v ∈ F, Vec p n v) (lW : W.length = F.length) (h : Mids p n o F W xs) : LCond p n o F W := by
  have p0 : 0 < p := by omega
  intro u ⟨hu, k⟩ c hc
  have hx : c < xs.length := by rw [h.1]; exact hc
  obtain ⟨⟨v, s⟩, _⟩ := h.2 c xs[c] (List.getElem?_eq_getElem hx)
  have e : (rowsOf (Fin p) F).map (ip (row (Fin p) xs[c]) n) = (colA W c).map (ic (Fin p)) := by
    refine List.ext_getElem (by unfold colA; rw [List.length_map, List.length_map, List.length_map, List.length_map, lW]) fun i h1 h2 => ?_
    have hi : i < F.length := by
      rw [List.length_map, List.length_map] at h1
      exact h1
    have hi2 : i < (colA W c).length := by
      unfold colA
      rw [List.length_map, lW]
      exact hi
    rw [List.getElem_map, List.getElem_map, List.getElem_map, ← dot_ip (hF _ (List.getElem_mem hi)).1 v.1, ← cast_mod (p := p)]
    have mz : (F[i], (colA W c)[i]) ∈ F.zip (colA W c) := by
      rw [List.mem_iff_getElem]
      exact ⟨i, by rw [List.length_zip]; omega, by rw [List.getElem_zip]⟩
    rw [s _ mz]
  have z : ip (row (Fin p) xs[c]) n (comb (rowsOf (Fin p) F) u) = 0 := ip_none fun j hj => by
    have g : comb (rowsOf (Fin p) F) u j = 0 := by
      rw [← dot_comb, ← cast_mod (p := p), dotA_comm, k _ (List.mem_map_of_mem (List.mem_range.mpr hj)), ic_zero]
    rw [g]
    grind
  rw [ip_comb, e, ← ic_dot, ← cast_mod (p := p)] at z
  obtain ⟨a0, a1⟩ := mod_in p0 (dotA (colA W c) u)
  rw [dotA_comm]
  exact (cast_zero (K := Fin p) a0 a1).mp z
theorem mid_right (p2 : 2 ≤ p) (hF : ∀ v ∈ F, Vec p n v) (hS : ∀ v ∈ S, Vec p o v) (hW : ∀ v ∈ W, Vec p o v) (lW : W.length = F.length) (h : Mids p n o F W xs) (k : ∀ r, r < n → InS p o S (colA xs r)) : RCond p o S W := by
  have p0 : 0 < p := by omega
  intro z ⟨hz, kz⟩ w mw
  obtain ⟨i, hi, e⟩ := List.mem_iff_getElem.mp mw
  have hi2 : i < F.length := by omega
  have mz : (F[i], w) ∈ F.zip W := by
    rw [List.mem_iff_getElem]
    exact ⟨i, by rw [List.length_zip]; omega, by rw [List.getElem_zip, e]⟩
  have g : ip (row (Fin p) F[i]) n (comb (rowsOf (Fin p) xs) z) = 0 := ip_none fun j hj => by
    have hv := (k j hj).vec p0 hS
    have g : comb (rowsOf (Fin p) xs) z j = 0 := by
      rw [← dot_comb, ← cast_mod (p := p), dotA_comm, bar_not p2 hS hv hz.1 kz (k j hj), ic_zero]
    rw [g]
    grind
  rw [ip_comb, mids_dot p0 h mz (hF _ (List.getElem_mem hi2)).1 (hW w mw).1, ← ic_dot, ← cast_mod (p := p)] at g
  obtain ⟨a0, a1⟩ := mod_in p0 (dotA w z)
  exact (cast_zero (K := Fin p) a0 a1).mp g
/-- the left and the right, asked of what spans them -/
theorem left_basis (p2 : 2 ≤ p) {B T : List (List Int)} (hW : ∀ v ∈ W, Vec p o v) (lW : W.length = F.length) (hB : ∀ xs, InS p F.length B xs ↔ Ker p F.length (colsA F n) xs) (vB : ∀ b ∈ B, Vec p F.length b)
    (h : ∀ b ∈ B, ∀ c, c < o → dotA b (colA W c) % (p : Int) = 0) : LCond p n o F W := by
  have p0 : 0 < p := by omega
  intro u hu c hc
  have hv : Vec p F.length (colA W c) := by
    have v := colA_vec (c := c) p0 hW
    rw [lW] at v
    exact v
  exact bar_not p2 vB hu.1 hv.1 (fun b mb => h b mb c hc) ((hB u).mpr hu)
theorem right_basis (p2 : 2 ≤ p) {B : List (List Int)} (hW : ∀ v ∈ W, Vec p o v) (hB : ∀ xs, InS p o B xs ↔ Ker p o S xs) (vB : ∀ b ∈ B, Vec p o b)
    (h : ∀ b ∈ B, ∀ w ∈ W, dotA w b % (p : Int) = 0) : RCond p o S W := by
  intro z hz w mw
  rw [dotA_comm]
  exact bar_not p2 vB hz.1 (hW w mw).1 (fun b mb => by rw [dotA_comm]; exact h b mb w mw) ((hB z).mpr hz)
end
end LinA

set_option Elab.async false
set_option linter.all false
set_option maxRecDepth 100000
set_option maxHeartbeats 0
/-! Vb, part 1: the head. -/
namespace L2
namespace Vb
open PySem PySem.Spec PyProof.Rows
abbrev Pw : Program := PySem.Challenge.pw_truestops_k04_numbers_refused_and_by_nam
def topS (i : Nat) : Stmt := Pw.main.body.getD i (.Pass ⟨0, 0, 0, 0⟩)
def dG (x : Str) (i : Nat) : He.DefD := ⟨(x, none), x, x, defArgs (topS i), defBody (topS i), defScope (topS i), [], []⟩
def defs : List (Str × Nat) := [(("is_count" : Str), (10 : Nat)), (("is_prime" : Str), (11 : Nat)), (("require_prime" : Str), (12 : Nat)), (("is_number" : Str), (13 : Nat)), (("is_factor" : Str), (14 : Nat)), (("is_vector" : Str), (15 : Nat)), (("is_vector_of" : Str), (16 : Nat)), (("is_vectors" : Str), (17 : Nat)), (("is_vectors_of" : Str), (18 : Nat)), (("inverse_of" : Str), (20 : Nat)), (("product_of" : Str), (21 : Nat)), (("columns_of" : Str), (22 : Nat)), (("added_up" : Str), (23 : Nat)), (("pivot_row" : Str), (24 : Nat)), (("clear_column" : Str), (25 : Nat)), (("eliminated" : Str), (26 : Nat)), (("basis_of" : Str), (27 : Nat)), (("meeting" : Str), (28 : Nat)), (("crossing" : Str), (29 : Nat)), (("factors_for" : Str), (30 : Nat)), (("middle_of" : Str), (31 : Nat)), (("require_vectors" : Str), (33 : Nat)), (("require_some_vectors" : Str), (34 : Nat)), (("inverse" : Str), (35 : Nat)), (("combined" : Str), (36 : Nat)), (("reduced" : Str), (37 : Nat)), (("rank" : Str), (38 : Nat)), (("require_question" : Str), (39 : Nat)), (("solved" : Str), (40 : Nat)), (("is_solved" : Str), (41 : Nat)), (("barred" : Str), (42 : Nat)), (("is_barred" : Str), (43 : Nat)), (("nothings" : Str), (44 : Nat)), (("require_between" : Str), (45 : Nat)), (("between" : Str), (46 : Nat)), (("is_between" : Str), (47 : Nat)), (("barred_between" : Str), (48 : Nat)), (("is_barred_between" : Str), (49 : Nat)), (("_law_purse" : Str), (51 : Nat)), (("_law_mixed" : Str), (52 : Nat)), (("_law_draw" : Str), (53 : Nat)), (("_law_purses" : Str), (54 : Nat)), (("_law_numbers" : Str), (55 : Nat)), (("_law_called" : Str), (56 : Nat)), (("_law_once" : Str), (57 : Nat)), (("_law_heard" : Str), (58 : Nat)), (("_law_bad_vectors" : Str), (59 : Nat)), (("_law_firsts_right" : Str), (60 : Nat)), (("_law_lasts_right" : Str), (61 : Nat)), (("law" : Str), (62 : Nat))]
/-- the first statement of a class -/
def initOf : Stmt → Stmt
  | .ClassDef (body := b) .. => b.getD 0 (.Pass ⟨0, 0, 0, 0⟩)
  | s => s
def dI (x q : Str) (i : Nat) : He.DefD := ⟨(x, some "__init__"), "__init__", q, defArgs (initOf (topS i)), defBody (initOf (topS i)), defScope (initOf (topS i)), [.non], []⟩
def kinds : List Str := [("InvalidPrime" : Str), ("InvalidNumber" : Str), ("InvalidVectors" : Str)]
def inits : List (Str × Str × Nat) := [(("InvalidPrime" : Str), ("InvalidPrime.__init__" : Str), 3), (("InvalidNumber" : Str), ("InvalidNumber.__init__" : Str), 4), (("InvalidVectors" : Str), ("InvalidVectors.__init__" : Str), 5)]
def fn : List He.DefD := (defs.map fun z => dG z.1 z.2) ++ inits.map fun z => dI z.1 z.2.1 z.2.2
def frees : List Str := [("ValueError" : Str), ("all" : Str), ("any" : Str), ("int" : Str), ("isinstance" : Str), ("len" : Str), ("list" : Str), ("max" : Str), ("min" : Str), ("range" : Str), ("repr" : Str), ("sum" : Str), ("tuple" : Str), ("type" : Str), ("zip" : Str)]
def fa : List He.Fa := frees.map He.Fa.free ++ ([He.Fa.int "GREATEST_PRIME" 65537, He.Fa.int "SMALL_PRODUCT" 64266330917908644872330635228106713310880186591609208114244758680898150367880703152525200743234420230] ++ (((defs.map fun z => He.Fa.glo z.1) ++ (("StopError" : Str) :: kinds).map He.Fa.glo) ++ [He.Fa.glo "SMALL_PRIMES"]))
def loose : List Str := [("GREATEST_PRIME" : Str), ("SMALL_PRIMES" : Str), ("SMALL_PRODUCT" : Str), ("StopError" : Str), ("InvalidPrime" : Str), ("InvalidNumber" : Str), ("InvalidVectors" : Str), ("is_count" : Str), ("is_prime" : Str), ("require_prime" : Str), ("is_number" : Str), ("is_factor" : Str), ("is_vector" : Str), ("is_vector_of" : Str), ("is_vectors" : Str), ("is_vectors_of" : Str), ("inverse_of" : Str), ("product_of" : Str), ("columns_of" : Str), ("added_up" : Str), ("pivot_row" : Str), ("clear_column" : Str), ("eliminated" : Str), ("basis_of" : Str), ("meeting" : Str), ("crossing" : Str), ("factors_for" : Str), ("middle_of" : Str), ("require_vectors" : Str), ("require_some_vectors" : Str), ("inverse" : Str), ("combined" : Str), ("reduced" : Str), ("rank" : Str), ("require_question" : Str), ("solved" : Str), ("is_solved" : Str), ("barred" : Str), ("is_barred" : Str), ("nothings" : Str), ("require_between" : Str), ("between" : Str), ("is_between" : Str), ("barred_between" : Str), ("is_barred_between" : Str), ("_law_purse" : Str), ("_law_mixed" : Str), ("_law_draw" : Str), ("_law_purses" : Str), ("_law_numbers" : Str), ("_law_called" : Str), ("_law_once" : Str), ("_law_heard" : Str), ("_law_bad_vectors" : Str), ("_law_firsts_right" : Str), ("_law_lasts_right" : Str)]
def veT : List Value := [.type "ValueError", .type "Exception", .type "BaseException", .type "object"]
def tailOf (K : PySem.W.Frag) : List Value := .ref (He.ga K "StopError") :: veT
/-- the class object stands as it should: tl is what its bases bring -/
def clsOk (K : PySem.W.Frag) (tl : List Value) (x : Str) : Bool := (match K.lookup (He.ga K x) with
  | some ⟨.type "type", _, .cls cd, sl⟩ => (match sl.toList with
    | [_, _, _, _, some (.builtin n), _] => n == "ValueError.__new__" && (cd.mro == (.ref (He.ga K x) :: tl) && (cd.hasDict && !cd.hasDel))
    | _ => false)
  | _ => false)
def clsMore (K : PySem.W.Frag) (x : Str) : Bool :=
  He.eqO (PySem.W.findIn K (.ref (He.ga K x)) "__setattr__") (some (some (.builtin "object.__setattr__"))) &&
  (He.eqO (PySem.W.findIn K (.ref (He.ga K x)) "__getattribute__") (some (some (.builtin "BaseException.__getattribute__"))) &&
  (He.eqO (PySem.W.findIn K (.ref (He.ga K x)) "__getattr__") (some none) &&
  (He.eqO (PySem.W.findIn K (.ref (He.ga K x)) "__class__") (some (some (.builtin "object.__class__"))) &&
  (He.eqO (PySem.W.findIn K (.ref (He.ga K x)) "value") (some none) &&
  (PySem.W.keepIn K (.ref (He.ga K x)))))))
def initOk (K : PySem.W.Frag) (x : Str) : Bool :=
  He.eqO (PySem.W.findIn K (.ref (He.ga K x)) "__init__") (some (some (.ref (He.ma K (He.ga K x) "__init__")))) && PySem.W.isFn K (.ref (He.ma K (He.ga K x) "__init__"))
def nodupB : List Nat → Bool
  | [] => true
  | a :: r => !(r.contains a) && nodupB r
def clsB (K : PySem.W.Frag) : Bool := (kinds.all fun x => clsOk K (tailOf K) x && (clsMore K x && initOk K x)) && ((clsOk K veT "StopError" && clsMore K "StopError") && nodupB ((("StopError" : Str) :: kinds).map (He.ga K)))
def sysB (K : PySem.W.Frag) : Bool := match K.lookup PySem.sysModules with
  | some o => (match o.data with
    | .dict _ _ => true
    | _ => false)
  | none => false
def SMALL_PRIMES_L : List Int := [2, 3, 5, 7, 11, 13, 17, 19, 23, 29, 31, 37, 41, 43, 47, 53, 59, 61, 67, 71, 73, 79, 83, 89, 97, 101, 103, 107, 109, 113, 127, 131, 137, 139, 149, 151, 157, 163, 167, 173, 179, 181, 191, 193, 197, 199, 211, 223, 227, 229, 233, 239, 241, 251]
def exB (K : PySem.W.Frag) : Bool := He.eqO (PySem.W.nsIn K mainGlobals "gcd") (some (some (.builtin "math.gcd"))) && (He.tupB K "SMALL_PRIMES" (SMALL_PRIMES_L.map He.Dv.int))
def ex (K : PySem.W.Frag) : Bool := exB K && (clsB K && sysB K)
abbrev R : PySem.W.OpenRow := PySem.W.OpenLaw.row PySem.Challenge.rw_truestops_k04_numbers_refused_and_by_nam
/-! the Hook, with one address more -/
def asY (g : Addr → Option Obj) : List Addr := PySem.sysModules :: He.asD g 5
abbrev frY (g : Addr → Option Obj) : PySem.W.Frag := He.frT g (asY g)
abbrev AlY : Type := He.AlT × Bool
def obY (g : Addr → Option Obj) : AlY := (He.obsT fa fn [] (frY g), ex (frY g))
def valY (w : World) : AlY := (He.valT fn [] w, true)
structure Says (w : World) (K : PySem.W.Frag) : Prop where
  t : He.SaysT fa fn [] w K
  more : ex K = true
def hk : PySem.W.Hook where
  α := AlY
  obs := fun s => obY s.heap.get?
  val := fun w => valY w
  says := fun w h => ∃ K : PySem.W.Frag, K.In h ∧ Says w K
  of := fun _ _ e => ⟨_, He.frT_in, ⟨congrArg (fun z : AlY => z.1) e, congrArg (fun z : AlY => z.2) e⟩⟩
  keeps := fun _ _ _ ⟨K, hK, c⟩ k => ⟨K, PySem.W.Frag.In.keeps hK k, c⟩
def ob (s : PySem.W.SharedT) : AlY := obY (HandSHeadRun.getT s)
theorem obY_eq {g : Addr → Option Obj} {s : Shared} (h : ∀ a, g a = s.heap.get? a) : obY g = hk.obs s := by
  have e : g = s.heap.get? := funext h
  rw [e] <;> rfl
theorem ob_eq (s : PySem.W.SharedT) : ob s = hk.obs s.abs := obY_eq (HandSHeadRun.getT_eq s)
open HandSHeadRun PySem.W in
theorem run_a (w : World) : (wholeF (fun p => stepQ (denQ tabQ) p w) fenceQ 40000 R.prog).map (fun x => looksF R.prog x.1.heap x.2.abs) = some true := by kernel_rfl
open HandSHeadRun PySem.W in
theorem run_b (w : World) : (wholeF (fun p => stepQ (denQ tabQ) p w) fenceQ 40000 R.prog).map (fun x => seenQ (view R.prog [0, 62]) loose (importedModules R.prog.main.body) (fun s => xlAt (view R.prog [0, 62]) [] s && recOk R.toRowW.records s) x.2.abs) = some (openGood (view R.prog [0, 62]) loose) := by kernel_rfl
abbrev frS (s : PySem.W.SharedT) : PySem.W.Frag := frY (HandSHeadRun.getT s)
open HandSHeadRun PySem.W in
theorem run_c1 (w : World) : (wholeF (fun p => stepQ (denQ tabQ) p w) fenceQ 40000 R.prog).map (fun x => exB (frS x.2)) = some true := by kernel_rfl
open HandSHeadRun PySem.W in
theorem run_c2 (w : World) : (wholeF (fun p => stepQ (denQ tabQ) p w) fenceQ 40000 R.prog).map (fun x => clsB (frS x.2)) = some true := by kernel_rfl
open HandSHeadRun PySem.W in
theorem run_c3 (w : World) : (wholeF (fun p => stepQ (denQ tabQ) p w) fenceQ 40000 R.prog).map (fun x => sysB (frS x.2)) = some true := by kernel_rfl
theorem three {α : Type} {o : Option α} {f g h : α → Bool} (hf : o.map f = some true) (hg : o.map g = some true) (hh : o.map h = some true) : o.map (fun s => f s && (g s && h s)) = some true := by
  cases o with
  | none => cases hf
  | some x =>
    have a : f x = true := Option.some.inj hf
    have b : g x = true := Option.some.inj hg
    have c : h x = true := Option.some.inj hh
    show some (f x && (g x && h x)) = some true
    rw [a, b, c]
    rfl
open HandSHeadRun PySem.W in
theorem run_c (w : World) : (wholeF (fun p => stepQ (denQ tabQ) p w) fenceQ 40000 R.prog).map (fun x => (ob x.2).2) = some true := three (run_c1 w) (run_c2 w) (run_c3 w)
open HandSHeadRun PySem.W in
theorem run_d (w : World) : (wholeF (fun p => stepQ (denQ tabQ) p w) fenceQ 40000 R.prog).map (fun x => (ob x.2).1) = some (He.valT fn [] w) := by kernel_rfl
/-- four looks at one end are one look -/
theorem four {α β γ δ ε : Type} {o : Option α} {f : α → β} {g : α → γ} {h : α → δ} {k : α → ε} {b : β} {c : γ} {d : δ} {e : ε} (hf : o.map f = some b) (hg : o.map g = some c) (hh : o.map h = some d) (hk : o.map k = some e) :
    o.map (fun s => (f s, g s, (h s, k s))) = some (b, c, (d, e)) := by
  cases o with
  | none => cases hf
  | some x =>
    cases hf
    cases hg
    cases hh
    cases hk
    rfl
theorem run (w : World) : HandSHeadRun.RunEqI R (PySem.W.view R.prog [0, 62]) hk ob 40000 loose w := by
  have z := four (run_a w) (run_b w) (run_d w) (run_c w)
  exact z
end Vb
end L2

set_option Elab.async false
set_option linter.all false
set_option maxRecDepth 100000
set_option maxHeartbeats 4000000
/-! Vb, part 2: lists of lists of numbers; sorted of such. -/
namespace L2
namespace Vb
open PySem PySem.Spec PyProof.Rows
/-- b is the list of these numbers -/
def Rw (H : Hp) (b : Addr) (xs : List Int) : Prop := H b = some (.lst (xs.map V.int))
/-- they stand one by one -/
def Rws (H : Hp) (as : List Addr) (T : List (List Int)) : Prop := Paired (Rw H) as T
theorem Rws.mono {H H' : Hp} {as : List Addr} {T : List (List Int)} (h : Rws H as T) (k : ∀ b ∈ as, ∀ o, H b = some o → H' b = some o) : Rws H' as T := by
  induction h with
  | nil => exact .nil
  | cons p ps ih => exact .cons (k _ List.mem_cons_self _ p) (ih fun b m => k b (List.mem_cons_of_mem _ m))
theorem Rws.len {H : Hp} {as : List Addr} {T : List (List Int)} (h : Rws H as T) : as.length = T.length := by
  induction h with
  | nil => rfl
  | cons _ _ ih => exact congrArg (· + 1) ih
/-- a and its row -/
abbrev AR : Type := Addr × List Int
theorem rws_zip {H : Hp} {as : List Addr} {T : List (List Int)} (h : Rws H as T) : ∀ z ∈ as.zip T, Rw H z.1 z.2 := by
  induction h with
  | nil => exact fun z m => (List.not_mem_nil m).elim
  | cons p _ ih =>
    intro z m
    rcases List.mem_cons.mp m with q | q
    · rw [q]
      exact p
    · exact ih z q
theorem rws_of {H : Hp} : ∀ {zs : List AR}, (∀ z ∈ zs, Rw H z.1 z.2) → Rws H (zs.map (·.1)) (zs.map (·.2))
  | [], _ => .nil
  | z :: zs, h => .cons (h z List.mem_cons_self) (rws_of fun y m => h y (List.mem_cons_of_mem _ m))
def rSortedM (K : PySem.W.Frag) : List V → Hp → VK → Prop := fun vs H Q => ∃ (a : Addr) (as : List Addr) (T : List (List Int)), vs = [V.ref a] ∧ SqL K H a (as.map V.ref) ∧ Rws H as T ∧
  ∀ (as' : List Addr) (T' : List (List Int)) (p : Addr), Rws H as' T' → T'.Perm T → T'.Pairwise (· ≤ ·) → (∀ b ∈ as', b ∈ as) → H p = none → Q (.ref p) (upd H p (.lst (as'.map V.ref)))
theorem each_refs {R : Value → AR → Prop} (hR : ∀ z : AR, R (.ref z.1) z) : ∀ {zs : List AR} {its : List Value}, Vals ((zs.map (·.1)).map V.ref) its → PySem.W.EachIs R its zs
  | [], _, r => by
    cases r
    exact .nil
  | z :: zs, _, r => by
    cases r with
    | cons h t =>
      cases (show _ = Value.ref z.1 from h)
      exact .cons (hR z) (each_refs hR t)
theorem vals_refs {zs : List AR} : ∀ {out : List Value}, PySem.W.EachIs (fun v z => v = Value.ref z.1) out zs → Vals ((zs.map (·.1)).map V.ref) out := by
  induction zs with
  | nil =>
    intro out e
    cases e
    exact .nil
  | cons z zs ih =>
    intro out e
    cases e with
    | cons h t => exact .cons h (ih t)
theorem reads_ints {h : Heap} : ∀ {ts : List Value} {ns : List Int}, IntsAre ts ns → ReadsAll h ts (ns.map PyData.int) []
  | _, _, .nil => .nil
  | _, _, .cons n t r => .cons (.int n t) (reads_ints r)
abbrev rowD (z : AR) : PyData := .list (z.2.map PyData.int)
theorem row_depth (z : AR) : (rowD z).depth ≤ 1 := by
  show PyData.depth (.list (z.2.map PyData.int)) ≤ 1
  unfold PyData.depth
  rw [PySem.W.depth_ints]
  omega
theorem rows_alike (zs : List AR) : PySem.W.AllAlike (zs.map rowD) := .of fun a b => by
  show PySem.W.alike (.list (a.2.map .int)) (.list (b.2.map .int)) = true
  simp only [PySem.W.alike]
  exact PySem.W.alike_ints _ _
theorem rows_sortable (zs : List AR) : PySem.W.Sortable (zs.map rowD) := .others fun b => ⟨fun e => (nomatch e), fun xs e => (nomatch e)⟩
section
variable {X : Cx}
theorem cr_sortedM (hu : X.A.units + 8 < cLine) : CallR X (.builtin "sorted") (rSortedM X.K) := by
  intro pins s σ H vs us Q I r h
  obtain ⟨a, as, T, rfl, hs, hT, q⟩ := h
  obtain ⟨its, rv, hl, hz⟩ := I.list hs
  rw [Vals.ref1 r]
  have ln := hT.len
  have e1 : (as.zip T).map (·.1) = as := List.map_fst_zip (Nat.le_of_eq ln)
  have e2 : (as.zip T).map (·.2) = T := List.map_snd_zip (Nat.le_of_eq ln.symm)
  have hz2 := rws_zip hT
  have rv2 : Vals (((as.zip T).map (·.1)).map V.ref) its := by
    rw [e1]
    exact rv
  have mem : ∀ z ∈ as.zip T, ∃ bs, Reads s.heap (.ref z.1) (rowD z) bs := fun z m => by
    obtain ⟨_, ts, n, rt, e⟩ := (show ObjOk X.prog X.w H s.heap z.1 (.lst (z.2.map V.int)) from I.hok _ _ (hz2 z m))
    exact ⟨_, .list e rfl rfl (reads_ints rt.ints)⟩
  have ee : PySem.W.EachIs (fun v z => v = Value.ref z.1) its (as.zip T) := each_refs (fun _ => rfl) rv2
  have er : PySem.W.EachIs (fun v z => ∃ bs, Reads s.heap v (rowD z) bs) its (as.zip T) := (PySem.W.each_mem ee).mono fun v z ⟨e, m⟩ => by
    rw [e]
    exact mem z m
  have lz : (as.zip T).length = as.length := by rw [List.length_zip]; omega
  refine PySem.W.sorted_data hl.isList ee er (rows_alike _) (rows_sortable _) (by rw [lz]; rw [List.length_map] at hz; exact hz) (fun b m => by have d := row_depth b; omega) fun out lo eo => ?_
  have pm : ((as.zip T).mergeSort (PySem.W.dataLe false rowD)).Perm (as.zip T) := List.mergeSort_perm _ _
  have srt : ((as.zip T).mergeSort (PySem.W.dataLe false rowD)).Pairwise fun x y => x.2 ≤ y.2 := by
    have el : PySem.W.dataLe false rowD = fun p q : AR => decide (p.2 ≤ q.2) := PySem.W.dataLe_rows (fun z : AR => z.2)
    rw [el]
    refine (List.pairwise_mergeSort (le := fun p q : AR => decide (p.2 ≤ q.2)) (fun x y z h1 h2 => ?_) (fun x y => ?_) _).imp fun h => of_decide_eq_true h
    · exact decide_eq_true (List.le_trans (of_decide_eq_true h1) (of_decide_eq_true h2))
    · rcases List.le_total x.2 y.2 with w | w
      · exact Bool.or_eq_true_iff.mpr (.inl (decide_eq_true w))
      · exact Bool.or_eq_true_iff.mpr (.inr (decide_eq_true w))
  obtain ⟨ep, he'⟩ := PyProof.Rows.sortedAll_at s.heap its out.toArray
  have vo := vals_refs eo
  have ll : ((((as.zip T).mergeSort (PySem.W.dataLe false rowD)).map (·.1)).map V.ref).length ≤ sizeLine := by
    rw [List.length_map, List.length_map, pm.length_eq, lz]
    rw [List.length_map] at hz
    exact hz
  refine ⟨.ref _, upd H (s.heap.objs.size + 1) (.lst ((((as.zip T).mergeSort (PySem.W.dataLe false rowD)).map (·.1)).map V.ref)), I.laid (t' := s.toks) (fun _ _ => PyProof.Rows.sortedAll_old) (Nat.le_succ _) ⟨ll, out, ep, vo, he'⟩, rfl, ?_⟩
  refine q _ _ _ (rws_of fun z m => hz2 z (pm.mem_iff.mp m)) ?_ (List.pairwise_map.mpr srt) (fun b mb => ?_) (I.hok.fresh (Nat.le_succ _))
  · have z := pm.map (·.2)
    rw [e2] at z
    exact z
  · obtain ⟨y, my, rfl⟩ := List.mem_map.mp mb
    exact (List.of_mem_zip (a := y.1) (b := y.2) (pm.mem_iff.mp my)).1
end
end Vb
end L2

set_option Elab.async false
set_option linter.all false
set_option maxRecDepth 100000
set_option maxHeartbeats 4000000
/-! Vb, part 3: calls that the layer lacks: a global that is a built-in, isqrt, all of numbers. -/
namespace L2
namespace Vb
open PySem PySem.Spec PyProof.Rows
section
variable {X : Cx} {x : Str} {id : String} {r : List V → Hp → VK → Prop} {p pos : Pos} {e : Expr} {es : List Expr} {t : TA}
/-- f(e, ..), f an imported built-in -/
theorem pe_callImp (hc : CallR X (.builtin id) r) (hg : Gl X x) (hm : X.mg x = some (.builtin id)) (ha : PA X (e :: es) t) (hdb : (x == ("__debug__" : Str)) = false := by decide)
    (he : starEach (e :: es) X.env = (false, eval e X.env) :: starEach es X.env := by rfl) (hpl : (backTo pos (starEach es X.env)).any (·.1) = false := by rfl) : PE X (.Call (.Name x p) (e :: es) [] pos) (tCB r t) := by
  refine ⟨fun pins s σ H Q I h => ?_⟩
  refine wpAny_Call_Name_kw (ld_glob I hg hm ?_ hdb)
  exact PyProof.Rows.callWith_builtin1 (thn (ha.run pos pins s σ H _ I h) fun us s1 ⟨vs, H1, I1, r1, q1⟩ => hc pins s1 σ H1 vs us Q I1 r1 q1) he hpl
def rGcd : List V → Hp → VK → Prop := fun vs H Q => ∃ a b : Int, vs = [V.int a, V.int b] ∧ Q (.int ((a.natAbs.gcd b.natAbs : Nat) : Int)) H
theorem cr_gcd : CallR X (.builtin "math.gcd") rGcd := by
  intro pins s σ H vs us Q I rr h
  obtain ⟨a, b, rfl, q⟩ := h
  obtain ⟨u, v, rfl, ru, rv⟩ := vals2 rr
  obtain ⟨tk, rfl⟩ := (show ∃ tk, u = Value.int a tk from ru)
  obtain ⟨tl, rfl⟩ := (show ∃ tk, v = Value.int b tk from rv)
  exact PySem.W.mg_gcd fun _ => ⟨.int _, H, I.kept (t' := s.toks + 1) fun b o eo => eo, ⟨_, rfl⟩, q⟩
def rIsqrt : List V → Hp → VK → Prop := fun vs H Q => ∃ a : Int, vs = [V.int a] ∧ 0 ≤ a ∧ a < 2 ^ 64 ∧ Q (.int ((Float64.isqrt a.toNat : Nat) : Int)) H
theorem cr_isqrt : CallR X (.builtin "math.isqrt") rIsqrt := by
  intro pins s σ H vs us Q I rr h
  obtain ⟨a, rfl, h0, h1, q⟩ := h
  obtain ⟨u, rfl, ru⟩ := vals1 rr
  obtain ⟨tk, rfl⟩ := (show ∃ tk, u = Value.int a tk from ru)
  exact PySem.W.mg_isqrt h0 h1 ⟨.int _, H, I.kept (t' := s.toks + 1) fun b o eo => eo, ⟨_, rfl⟩, q⟩
theorem truth_ints {prog : Program} {w : World} {A : Around} {its : List Value} {ns : List Int} (e : IntsAre its ns) :
    TruthOf prog w A (fun i v => its.toArray[i]? = some v) (fun i => decide (ns.getD i 0 ≠ 0)) := fun i v s Q E hv hq => by
  have hv' : its[i]? = some v := by simpa using hv
  have key : ∃ n t, v = Value.int n t ∧ ns.getD i 0 = n := by
    clear hq hv
    induction e generalizing i with
    | nil => cases hv'
    | cons n t r ih =>
      cases i with
      | zero =>
        cases hv'
        exact ⟨n, t, rfl, rfl⟩
      | succ i => exact ih i hv'
  obtain ⟨n, t, rfl, en⟩ := key
  have hq' : Q (decide (ns.getD i 0 ≠ 0)) s := hq
  rw [en] at hq'
  have eb : (n != 0) = decide (n ≠ 0) := by
    by_cases h : n = 0
    · rw [h]
      rfl
    · rw [decide_eq_true h]
      exact bne_iff_ne.mpr h
  have hq2 : Q (n != 0) s := by
    rw [eb]
    exact hq'
  first | exact truthy_int hq2 | exact PyProof.Rows.truthy_int hq2 | exact PureInt.truthy_int hq2 | exact PySem.PureInt.truthy_int hq2 | exact PyProof.Rows.RuleU_int.truthy_int hq2
def rAllI (K : PySem.W.Frag) : List V → Hp → VK → Prop := fun vs H Q => ∃ (a : Addr) (ns : List Int), vs = [V.ref a] ∧ SqL K H a (ns.map V.int) ∧ Q (.bl (ns.all fun n => decide (n ≠ 0))) H
theorem all_rangeI : ∀ ns : List Int, (List.range ns.length).all (fun i => decide (ns.getD i 0 ≠ 0)) = ns.all fun n => decide (n ≠ 0)
  | [] => rfl
  | n :: ns => by
    rw [List.length_cons, List.range_succ_eq_map, List.all_cons, List.all_map, List.all_cons, ← all_rangeI ns]
    rfl
theorem cr_allI (hc : X.calm = true) : CallR X (.builtin "all") (rAllI X.K) := by
  intro pins s σ H vs us Q I r h
  obtain ⟨a, ns, rfl, hs, q⟩ := h
  obtain ⟨its, rv, hl, _⟩ := I.list hs
  rw [Vals.ref1 r]
  have hi := rv.ints
  refine call_all_walk (iter_any hl.isList fun s₂ e2 st hne => ?_)
  subst e2
  refine ⟨_, _, _, _, _, _, _, rfl, Walks.list (A := X.A.in1) (I.ok.hd hc) _ a hne its.toArray, st, truth_ints hi, fun h' tk hk => ?_⟩
  refine ⟨.bl _, H, I.kept fun b o eo => hk b o (fun hmem => ?_) (Heap.get?_push_of_some _ eo), ?_, q⟩
  · rcases List.mem_cons.mp hmem with e1 | hmem
    · exact absurd (e1 ▸ Heap.lt_size eo) (Nat.lt_irrefl _)
    · cases hmem
  · show Value.bool _ = Value.bool _
    rw [← all_rangeI, List.size_toArray, hi.length]
end
end Vb
end L2

set_option Elab.async false
set_option linter.all false
set_option maxRecDepth 100000
set_option maxHeartbeats 4000000
/-! Vb, part 4: numbers. -/
namespace L2
namespace Vb
open PySem PySem.Spec PyProof.Rows
theorem fun_of {K : PySem.W.Frag} {x q : Str} {st : Stmt} {f : Addr} {fd : FuncData} (F : FunD K x q (defArgs st) (defBody st) (defScope st) [] [] f fd) : Fun K x q st f fd := by
  obtain ⟨⟨oc, od, dV, kV, doc, pm, an, cdv, ct, osl, e, lk, hc, hD, _⟩, kp⟩ := F
  rcases hD with ⟨_, rfl⟩ | ⟨z, _⟩
  · exact ⟨⟨oc, od, kV, doc, pm, an, cdv, ct, osl, e, lk, hc⟩, kp⟩
  · exact absurd rfl z
abbrev sCount : Stmt := topS 10
abbrev sPrime : Stmt := topS 11
abbrev sReqP : Stmt := topS 12
abbrev sNumber : Stmt := topS 13
abbrev sFactor : Stmt := topS 14
theorem boot_int : bootBuiltins ("int" : Str) = some (.type "int") := by decide +kernel
theorem boot_list : bootBuiltins ("list" : Str) = some (.type "list") := by decide +kernel
theorem rel_int : RelV (.ty "int") (.type "int") := rfl
theorem rel_list : RelV (.ty "list") (.type "list") := rfl
def spCount : Sp := fun vs H Q _ => ∃ i : Int, vs = [.int i] ∧ Q (.bl (decide (0 ≤ i))) H
/-- the primes that the law asks of -/
def goods : List Int := [2, 3, 5, 7, 251, 257, 4099, 65521, 65537]
abbrev smallProduct : Int := 64266330917908644872330635228106713310880186591609208114244758680898150367880703152525200743234420230
/-- what the form asks of a number that is neither too small nor too great -/
def primI (p : Int) : Bool := inV (.int p) (SMALL_PRIMES_L.map V.int) || decide (((p.natAbs.gcd smallProduct.natAbs : Nat) : Int) = 1)
def goodB (p : Int) : Bool := decide (2 ≤ p) && (decide (p ≤ 65537) && primI p)
theorem goods_all : goods.all goodB = true := by decide +kernel
theorem good_facts (p : Int) (h : p ∈ goods) : 2 ≤ p ∧ p ≤ 65537 ∧ primI p = true := by
  have z := List.all_eq_true.mp goods_all p h
  obtain ⟨a, z⟩ := He.ba z
  obtain ⟨b, z⟩ := He.ba z
  exact ⟨of_decide_eq_true a, of_decide_eq_true b, z⟩
abbrev Prm (p : Nat) : Prop := ∀ d, 2 ≤ d → d < p → p % d ≠ 0
theorem prm_of {p : Nat} (hp : p < 257 * 257) (h : ((List.range 257).all fun d => decide (d < 2) || (decide (p ≤ d) || decide (p % d ≠ 0))) = true) : Prm p := fun d d2 dp e => by
  have key : ∀ k, 2 ≤ k → k < 257 → k < p → p % k ≠ 0 := fun k k2 k3 k4 => by
    have z := List.all_eq_true.mp h k (List.mem_range.mpr k3)
    rcases Bool.or_eq_true_iff.mp z with q | q
    · have := of_decide_eq_true q
      omega
    · rcases Bool.or_eq_true_iff.mp q with q | q
      · have := of_decide_eq_true q
        omega
      · exact of_decide_eq_true q
  by_cases q : d < 257
  · exact key d d2 q dp e
  · obtain ⟨c, hc⟩ := Nat.dvd_of_mod_eq_zero e
    have c257 : c < 257 := by
      refine Nat.lt_of_not_le fun z => ?_
      have z2 : 257 * 257 ≤ d * c := Nat.mul_le_mul (by omega) z
      omega
    have c2 : 2 ≤ c := by
      rcases Nat.lt_or_ge c 2 with z | z
      · have z2 : c = 0 ∨ c = 1 := by omega
        rcases z2 with z2 | z2
        · rw [z2, Nat.mul_zero] at hc
          omega
        · rw [z2, Nat.mul_one] at hc
          omega
      · exact z
    refine key c c2 c257 (by omega) ?_
    rw [hc]
    exact Nat.mul_mod_left d c
def goodP (p : Int) : Bool := decide (2 ≤ p) && (decide (p ≤ 65537) && (decide (p.toNat < 257 * 257) && ((List.range 257).all fun d => decide (d < 2) || (decide (p.toNat ≤ d) || decide (p.toNat % d ≠ 0)))))
theorem goodP_all : goods.all goodP = true := by decide +kernel
theorem good_prm {p : Nat} (h : (p : Int) ∈ goods) : 2 ≤ p ∧ p ≤ 65537 ∧ Prm p := by
  have z := List.all_eq_true.mp goodP_all _ h
  obtain ⟨a, z⟩ := He.ba z
  obtain ⟨b, z⟩ := He.ba z
  obtain ⟨c, z⟩ := He.ba z
  have a' := of_decide_eq_true a
  have b' := of_decide_eq_true b
  have c' := of_decide_eq_true c
  rw [Int.toNat_natCast] at c' z
  exact ⟨by omega, by omega, prm_of c' z⟩
theorem small_flat : (SMALL_PRIMES_L.map V.int).all flatV = true := by decide +kernel
theorem same_rfl {H : Hp} : Same H H := fun _ _ e => e
theorem same_trans {H H1 H2 : Hp} (a : Same H H1) (b : Same H1 H2) : Same H H2 := fun x o e => b x o (a x o e)
theorem same_new {H : Hp} {a : Addr} {o : HO} (h : H a = none) : Same H (upd H a o) := fun b u e => by rw [upd_ne (ne_of_none e h)]; exact e
theorem same_set {H H' : Hp} {a : Addr} {o : HO} (x : Same H H') (h : H a = none) : Same H (upd H' a o) := fun b u e => by rw [upd_ne (ne_of_none e h)]; exact x b u e
theorem pe_gint {X : Cx} {x : Str} {i : Int} {p : Pos} (hg : Gl X x) (h : ∃ t, X.mg x = some (.int i t)) (hd : (x == ("__debug__" : Str)) = false := by decide) : PE X (.Name x p) (tC (.int i)) := h.elim fun t e => pe_glob (v := .int i) hg e ⟨t, rfl⟩ hd
theorem tyes {σ : St} {H : Hp} {A B : Hp → Prop} (h : A H) : tYes σ H (fun b H3 => if b = true then A H3 else B H3) := iteT (B := B H) h
def spPrime : Sp := fun vs H Q _ => ∃ p : Int, vs = [.int p] ∧ p ∈ goods ∧ ∀ H', Same H H' → Q (.bl true) H'
section
variable {P : Program} {w : World} {K : PySem.W.Frag} {mg : Str → Option Value} {base : Heap}
theorem scCount : FnScope ["value"] ["value"] (defScope sCount) := ⟨rfl, rfl, rfl, by decide +kernel, rfl, by decide +kernel, by decide +kernel⟩
theorem ok_count {f : Addr} {fd : FuncData} (F : Fun K "is_count" "is_count" sCount f fd) (gT : mg "type" = none) (gI : mg "int" = none) : FnOk P w K mg base CX0 1 f fd ["value"] spCount := by
  refine F.ok scCount (fun vs H Q E h => ?_) (fun cdv A outer s H vs Q E hr h => ?_)
  · obtain ⟨i, rfl, _⟩ := h
    rfl
  · obtain ⟨i, rfl, want⟩ := h
    refine ⟨_, pss_one (ps_ret (pe_and (pe_cmpR op_isTy (pe_typeOf rfl gT (pv 0)) (pe_bltn rfl gI boot_int rel_int) (nomark _)) (pe_one (pe_cmpR op_ge (pv 0) pe_int (nomark _))))), ?_⟩
    refine ⟨_, rfl, _, rfl, _, _, rfl, rfl, _, rfl, iteT ?_⟩
    exact ⟨_, rfl, _, _, rfl, rfl, want⟩
theorem scPrime : FnScope ["value"] ["value"] (defScope sPrime) := ⟨rfl, rfl, rfl, by decide +kernel, rfl, by decide +kernel, by decide +kernel⟩
/-- the globals that the form of primes asks for -/
structure PrimG (K : PySem.W.Frag) (mg : Str → Option Value) : Prop where
  ty : mg "type" = none
  int : mg "int" = none
  great : ∃ t, mg "GREATEST_PRIME" = some (.int 65537 t)
  small : ∃ a, mg "SMALL_PRIMES" = some (.ref a) ∧ ∀ H : Hp, SqT K H a (SMALL_PRIMES_L.map V.int)
  prod : ∃ t, mg "SMALL_PRODUCT" = some (.int smallProduct t)
  gcd : mg "gcd" = some (.builtin "math.gcd")
theorem ok_prime {f : Addr} {fd : FuncData} (F : Fun K "is_prime" "is_prime" sPrime f fd) (g : PrimG K mg) :
    FnOk P w K mg base CX0 1 f fd ["value"] spPrime := by
  obtain ⟨gT, gI, gG, ⟨sa, gS, hS⟩, gP, gC⟩ := g
  refine F.ok scPrime (fun vs H Q E h => ?_) (fun cdv A outer s H vs Q E hr h => ?_)
  · obtain ⟨p, rfl, _⟩ := h
    rfl
  · obtain ⟨p, rfl, mp, want⟩ := h
    obtain ⟨p2, p6, pd⟩ := good_facts p mp
    refine ⟨_, pss_cons (ps_if (PW.pt (pw_or (pt_cmpR op_isNotTy (pe_typeOf rfl gT (pv 0)) (pe_bltn rfl gI boot_int rel_int) (nomark _)) (pw_or1 (pt_not (pt_chain op_le op_le pe_int (pv 0) (pe_gint rfl gG))))))
        (pss_one (ps_ret pe_bl)) pss_nil)
      (pss_one (ps_ret (pe_or (pe_cmpR op_in_seq (pv 0) (pe_glob (v := .ref sa) rfl gS rfl (by decide)) (by rfl)) (pe_one (pe_cmpR op_eq (pe_callImp cr_gcd rfl gC (pa_cons (pv 0) (pa_cons (pe_gint rfl gP) pa_nil))) pe_int (nomark _)))))), ?_⟩
    refine ⟨_, rfl, _, rfl, _, _, rfl, rfl, _, rfl, iteF ?_⟩
    refine ⟨_, rfl, _, _, rfl, rfl, _, rfl, ?_⟩
    rw [decide_eq_true p2]
    refine iteT ⟨_, _, rfl, rfl, _, rfl, ?_⟩
    rw [decide_eq_true p6]
    refine iteF ?_
    refine ⟨_, rfl, sa, _, rfl, .inr (hS _), rfl, small_flat, _, rfl, ?_⟩
    cases e : inV (.int p) (SMALL_PRIMES_L.map V.int) with
    | true => exact iteT (want H same_rfl)
    | false =>
      refine iteF ⟨_, rfl, p, smallProduct, rfl, rfl, ?_⟩
      have z : decide (((p.natAbs.gcd smallProduct.natAbs : Nat) : Int) = 1) = true := by
        unfold primI at pd
        rw [e, Bool.false_or] at pd
        exact pd
      have z2 : decide (V.int ((p.natAbs.gcd smallProduct.natAbs : Nat) : Int) = V.int 1) = true := decide_eq_true (congrArg V.int (of_decide_eq_true z))
      rw [z2]
      exact want H same_rfl
def spReqP : Sp := fun vs H Q _ => ∃ p : Int, vs = [.int p] ∧ p ∈ goods ∧ ∀ H', Same H H' → Q .non H'
theorem scReqP : FnScope ["prime"] ["prime"] (defScope sReqP) := ⟨rfl, rfl, rfl, by decide +kernel, rfl, by decide +kernel, by decide +kernel⟩
theorem ok_reqP {f fP : Addr} {fd fdP : FuncData} (F : Fun K "require_prime" "require_prime" sReqP f fd) (FP : Fun K "is_prime" "is_prime" sPrime fP fdP) (GP : FnOk P w K mg base CX0 1 fP fdP ["value"] spPrime) (gP : mg "is_prime" = some (.ref fP)) :
    FnOk P w K mg base CX0 2 f fd ["prime"] spReqP := by
  have bP : Binds K fdP ["value"] [] := FP.binds fun _ _ _ _ _ _ us hl => match us, hl with | [_], _ => rfl
  refine F.ok scReqP (fun vs H Q E h => ?_) (fun cdv A outer s H vs Q E hr h => ?_)
  · obtain ⟨p, rfl, _⟩ := h
    rfl
  · obtain ⟨p, rfl, mp, want⟩ := h
    refine ⟨_, pss_one (ps_if (pt_not (pt_val (pe_call GP hr rfl gP FP.kp bP .nil pass0 (pa_cons (pv 0) pa_nil)))) pss_never pss_nil), ?_⟩
    exact ⟨_, rfl, p, rfl, mp, fun H' sm => ⟨_, rfl, iteF (want H' sm)⟩⟩
def spNumber : Sp := fun vs H Q _ => ∃ p v : Int, vs = [.int p, .int v] ∧ 0 ≤ v ∧ v < p ∧ Q (.bl true) H
theorem scNumber : FnScope ["prime", "value"] ["prime", "value"] (defScope sNumber) := ⟨rfl, rfl, rfl, by decide +kernel, rfl, by decide +kernel, by decide +kernel⟩
theorem ok_number {f fC : Addr} {fd fdC : FuncData} (F : Fun K "is_number" "is_number" sNumber f fd) (FC : Fun K "is_count" "is_count" sCount fC fdC) (GC : FnOk P w K mg base CX0 1 fC fdC ["value"] spCount) (gC : mg "is_count" = some (.ref fC)) :
    FnOk P w K mg base CX0 2 f fd ["prime", "value"] spNumber := by
  have bC : Binds K fdC ["value"] [] := FC.binds fun _ _ _ _ _ _ us hl => match us, hl with | [_], _ => rfl
  refine F.ok scNumber (fun vs H Q E h => ?_) (fun cdv A outer s H vs Q E hr h => ?_)
  · obtain ⟨p, v, rfl, _⟩ := h
    rfl
  · obtain ⟨p, v, rfl, v0, v1, want⟩ := h
    refine ⟨_, pss_one (ps_ret (pe_and (pe_call GC hr rfl gC FC.kp bC .nil pass0 (pa_cons (pv 1) pa_nil)) (pe_one (pe_cmpR op_lt (pv 1) (pv 0) (nomark _))))), ?_⟩
    refine ⟨_, rfl, v, rfl, _, rfl, ?_⟩
    rw [decide_eq_true v0]
    refine iteT ⟨_, rfl, _, rfl, _, _, rfl, rfl, ?_⟩
    show Q (.bl (decide (v < p))) H
    rw [decide_eq_true v1]
    exact want
def spFactor : Sp := fun vs H Q _ => ∃ p v : Int, vs = [.int p, .int v] ∧ 0 < v ∧ v < p ∧ Q (.bl true) H
theorem scFactor : FnScope ["prime", "value"] ["prime", "value"] (defScope sFactor) := ⟨rfl, rfl, rfl, by decide +kernel, rfl, by decide +kernel, by decide +kernel⟩
theorem ok_factor {f fN : Addr} {fd fdN : FuncData} (F : Fun K "is_factor" "is_factor" sFactor f fd) (FN : Fun K "is_number" "is_number" sNumber fN fdN) (GN : FnOk P w K mg base CX0 2 fN fdN ["prime", "value"] spNumber) (gN : mg "is_number" = some (.ref fN)) :
    FnOk P w K mg base CX0 3 f fd ["prime", "value"] spFactor := by
  have bN : Binds K fdN ["prime", "value"] [] := FN.binds fun _ _ _ _ _ _ us hl => match us, hl with | [_, _], _ => rfl
  refine F.ok scFactor (fun vs H Q E h => ?_) (fun cdv A outer s H vs Q E hr h => ?_)
  · obtain ⟨p, v, rfl, _⟩ := h
    rfl
  · obtain ⟨p, v, rfl, v0, v1, want⟩ := h
    refine ⟨_, pss_one (ps_ret (pe_and (pe_call GN hr rfl gN FN.kp bN .nil pass0 (pa_cons (pv 0) (pa_cons (pv 1) pa_nil))) (pe_one (pe_cmpR op_gt (pv 1) pe_int (nomark _))))), ?_⟩
    refine ⟨_, rfl, _, rfl, p, v, rfl, by omega, v1, _, rfl, iteT ?_⟩
    refine ⟨_, rfl, _, _, rfl, rfl, ?_⟩
    show Q (.bl (decide (0 < v))) H
    rw [decide_eq_true v0]
    exact want
end
end Vb
end L2

set_option Elab.async false
set_option linter.all false
set_option maxRecDepth 100000
set_option maxHeartbeats 4000000
/-! Vb, part 5: what is a vector. -/
namespace L2
namespace Vb
open PySem PySem.Spec PyProof.Rows
abbrev sVector : Stmt := topS 15
abbrev sVectorOf : Stmt := topS 16
abbrev sVectors : Stmt := topS 17
/-- L numbers, each below p -/
def Vc (p : Int) (L : Nat) (xs : List Int) : Prop := xs.length = L ∧ ∀ x ∈ xs, 0 ≤ x ∧ x < p
def spVector : Sp := fun vs H Q _ => ∃ (p : Int) (b : Addr) (xs : List Int) (L : Nat), vs = [.int p, .ref b] ∧ Rw H b xs ∧ Vc p L xs ∧ L ≤ 1000 ∧ ∀ H', Same H H' → Q (.bl true) H'
def spVectors : Sp := fun vs H Q _ => ∃ (p : Int) (m : Addr) (as : List Addr) (T : List (List Int)) (L : Nat), vs = [.int p, .ref m] ∧ H m = some (.lst (as.map V.ref)) ∧ Rws H as T ∧ (∀ xs ∈ T, Vc p L xs) ∧ L ≤ 1000 ∧ T.length ≤ 1000 ∧ ∀ H', Same H H' → Q (.bl true) H'
theorem all_true (n : Nat) : (List.replicate n true).all id = true := by simp
theorem trues_succ (n : Nat) : (List.replicate n true).map V.bl ++ [V.bl true] = (List.replicate (n + 1) true).map V.bl := by
  rw [List.replicate_succ', List.map_append]
  rfl
theorem mem_ints {xs : List Int} {i : Nat} {x : V} (h : (xs.map V.int)[i]? = some x) : ∃ n, x = .int n ∧ n ∈ xs ∧ xs[i]? = some n := by
  rw [List.getElem?_map] at h
  obtain ⟨n, hn, e⟩ := Option.map_eq_some_iff.mp h
  exact ⟨n, e.symm, List.mem_of_getElem? hn, hn⟩
section
variable {P : Program} {w : World} {K : PySem.W.Frag} {mg : Str → Option Value} {base : Heap}
theorem scVector : FnScope ["prime", "value", "number"] ["prime", "value"] (defScope sVector) := ⟨rfl, rfl, rfl, by decide +kernel, rfl, by decide +kernel, by decide +kernel⟩
theorem ok_vector {f fN : Addr} {fd fdN : FuncData} (F : Fun K "is_vector" "is_vector" sVector f fd) (FN : Fun K "is_number" "is_number" sNumber fN fdN) (GN : FnOk P w K mg base CX0 2 fN fdN ["prime", "value"] spNumber) (gN : mg "is_number" = some (.ref fN))
    (gT : mg "type" = none) (gL : mg "list" = none) (gA : mg "all" = none) : FnOk P w K mg base CX0 3 f fd ["prime", "value"] spVector := by
  have bN : Binds K fdN ["prime", "value"] [] := FN.binds fun _ _ _ _ _ _ us hl => match us, hl with | [_, _], _ => rfl
  refine F.ok scVector (fun vs H Q E h => ?_) (fun cdv A outer s H vs Q E hr h => ?_)
  · obtain ⟨p, b, xs, L, rfl, _⟩ := h
    rfl
  · obtain ⟨p, b, xs, L, rfl, hb, hv, hL, want⟩ := h
    have hb : H b = some (.lst (xs.map V.int)) := hb
    refine ⟨_, pss_one (ps_ret (pe_and (pe_cmpR op_isTy (pe_typeOf rfl gT (pv 1)) (pe_bltn rfl gL boot_list rel_list) (nomark _)) (pe_one (pe_callB (cr_all rfl) (by rfl) gA boot_all (pa_cons (pe_lc (own := [("number", 2)]) (g := gName 2) (tt := tYes) rfl scVector.nd
      (pi_list (pv 1)) (blkOk_by (N := ["prime", "value", "number"]) (sc := defScope sVector) (by decide +kernel)) (fun _ _ _ _ _ => pg_name (i := 2) scVector.nd rfl (Or.inl rfl)) (fun _ _ _ _ _ => pts_nil)
      (fun _ _ _ _ _ => pe_call GN hr rfl gN FN.kp bN .nil pass0 (pa_cons (pv 0) (pa_cons (pv 2) pa_nil)))) pa_nil))))), ?_⟩
    refine ⟨_, rfl, "list", by simp only [zTyV, hb], _, _, rfl, rfl, _, rfl, iteT ?_⟩
    refine ⟨_, rfl, b, rfl, ⟨xs.map V.int, SqL.of hb⟩, ?_⟩
    intro D hD
    refine lc_list (fun k H' => Same H H' ∧ H' D = some (.lst ((List.replicate k true).map V.bl))) ⟨same_new hD, upd_same⟩ (fun i H' _ z => SqL.of (z.1 _ _ hb)) ?_ ?_
    · rintro k x H' hx ⟨sm, hDl⟩
      obtain ⟨n, rfl, mn, hn⟩ := mem_ints hx
      have kl : k < xs.length := (List.getElem?_eq_some_iff.mp hn).1
      obtain ⟨n0, n1⟩ := hv.2 n mn
      refine ⟨rfl, tyes ?_⟩
      refine ⟨_, rfl, _, rfl, p, n, rfl, n0, n1, ?_⟩
      refine ⟨_, hDl, by rw [List.length_map, List.length_replicate, sizeLine_eq]; have := hv.1; omega, same_set sm hD, ?_⟩
      rw [upd_same, trues_succ]
    · rintro H' ⟨sm, hDl⟩
      refine ⟨D, _, rfl, SqL.of hDl, ?_⟩
      rw [all_true]
      exact want H' sm
def spVectorOf : Sp := fun vs H Q _ => ∃ (p : Int) (b : Addr) (xs : List Int) (L : Nat), vs = [.int p, .ref b, .int (L : Int)] ∧ Rw H b xs ∧ Vc p L xs ∧ L ≤ 1000 ∧ ∀ H', Same H H' → Q (.bl true) H'
theorem scVectorOf : FnScope ["prime", "value", "length"] ["prime", "value", "length"] (defScope sVectorOf) := ⟨rfl, rfl, rfl, by decide +kernel, rfl, by decide +kernel, by decide +kernel⟩
theorem ok_vectorOf {f fV : Addr} {fd fdV : FuncData} (F : Fun K "is_vector_of" "is_vector_of" sVectorOf f fd) (FV : Fun K "is_vector" "is_vector" sVector fV fdV) (GV : FnOk P w K mg base CX0 3 fV fdV ["prime", "value"] spVector) (gV : mg "is_vector" = some (.ref fV)) (gN : mg "len" = none) :
    FnOk P w K mg base CX0 4 f fd ["prime", "value", "length"] spVectorOf := by
  have bV : Binds K fdV ["prime", "value"] [] := FV.binds fun _ _ _ _ _ _ us hl => match us, hl with | [_, _], _ => rfl
  refine F.ok scVectorOf (fun vs H Q E h => ?_) (fun cdv A outer s H vs Q E hr h => ?_)
  · obtain ⟨p, b, xs, L, rfl, _⟩ := h
    rfl
  · obtain ⟨p, b, xs, L, rfl, hb, hv, hL, want⟩ := h
    refine ⟨_, pss_one (ps_ret (pe_and (pe_call GV hr rfl gV FV.kp bV .nil pass0 (pa_cons (pv 0) (pa_cons (pv 1) pa_nil))) (pe_one (pe_cmpR op_eq (pe_callB call_len_seq (by rfl) gN PySem.boot_len (pa_cons (pv 1) pa_nil)) (pv 2) (nomark _))))), ?_⟩
    refine ⟨_, rfl, _, rfl, p, b, xs, L, rfl, hb, hv, hL, fun H' sm => ⟨_, rfl, iteT ?_⟩⟩
    have hb2 : H' b = some (.lst (xs.map V.int)) := sm _ _ hb
    refine ⟨_, rfl, b, _, rfl, .inl (SqL.of hb2), _, rfl, ?_⟩
    refine ⟨rfl, ?_⟩
    show Q (.bl (decide (V.int ((xs.map V.int).length : Int) = V.int (L : Int)))) H'
    rw [List.length_map, hv.1, decide_eq_true rfl]
    exact want H' sm
def rLenQ (K : PySem.W.Frag) : List V → Hp → VK → Prop := fun xs H Q => ∃ p ys, xs = [.ref p] ∧ (SqL K H p ys ∨ SqT K H p ys) ∧ Q (.int ys.length) H
theorem scVectors : FnScope ["prime", "value", "vector"] ["prime", "value"] (defScope sVectors) := ⟨rfl, rfl, rfl, by decide +kernel, rfl, by decide +kernel, by decide +kernel⟩
theorem rws_at {H : Hp} {as : List Addr} {T : List (List Int)} (h : Rws H as T) : ∀ {i : Nat} {x : V}, (as.map V.ref)[i]? = some x → ∃ b xs, x = .ref b ∧ Rw H b xs ∧ xs ∈ T ∧ T[i]? = some xs ∧ as[i]? = some b := by
  induction h with
  | nil =>
    intro i x e
    cases e
  | @cons b xs as T p ps ih =>
    intro i x e
    cases i with
    | zero =>
      cases e
      exact ⟨b, xs, rfl, p, List.mem_cons_self, rfl, rfl⟩
    | succ i =>
      obtain ⟨c, ys, e1, e2, e3, e4, e5⟩ := ih (i := i) (x := x) e
      exact ⟨c, ys, e1, e2, List.mem_cons_of_mem _ e3, e4, e5⟩
theorem ok_vectors {f fV : Addr} {fd fdV : FuncData} (F : Fun K "is_vectors" "is_vectors" sVectors f fd) (FV : Fun K "is_vector" "is_vector" sVector fV fdV) (GV : FnOk P w K mg base CX0 3 fV fdV ["prime", "value"] spVector) (gV : mg "is_vector" = some (.ref fV))
    (gT : mg "type" = none) (gL : mg "list" = none) (gA : mg "all" = none) (gN : mg "len" = none) : FnOk P w K mg base CX0 4 f fd ["prime", "value"] spVectors := by
  have bV : Binds K fdV ["prime", "value"] [] := FV.binds fun _ _ _ _ _ _ us hl => match us, hl with | [_, _], _ => rfl
  refine F.ok scVectors (fun vs H Q E h => ?_) (fun cdv A outer s H vs Q E hr h => ?_)
  · obtain ⟨p, m, as, T, L, rfl, _⟩ := h
    rfl
  · obtain ⟨p, m, as, T, L, rfl, hm, hT, hv, hL, tL, want⟩ := h
    have la := hT.len
    refine ⟨_, pss_cons (ps_if (PW.pt (pw_or (pt_cmpR op_isNotTy (pe_typeOf rfl gT (pv 1)) (pe_bltn rfl gL boot_list rel_list) (nomark _)) (pw_or1 (pt_not (pt_val (pe_callB (cr_all rfl) (by rfl) gA boot_all (pa_cons (pe_lc (own := [("vector", 2)]) (g := gName 2) (tt := tYes) rfl scVectors.nd
        (pi_list (pv 1)) (blkOk_by (N := ["prime", "value", "vector"]) (sc := defScope sVectors) (by decide +kernel)) (fun _ _ _ _ _ => pg_name (i := 2) scVectors.nd rfl (Or.inl rfl)) (fun _ _ _ _ _ => pts_nil)
        (fun _ _ _ _ _ => pe_call GV hr rfl gV FV.kp bV .nil pass0 (pa_cons (pv 0) (pa_cons (pv 2) pa_nil)))) pa_nil)))))))
        pss_never pss_nil)
      (pss_one (ps_ret (pe_callB (cr_all rfl) (by rfl) gA boot_all (pa_cons (pe_lc (own := [("vector", 2)]) (g := gName 2) (tt := tYes) (te := tOp rEq (tCB (rLenQ K) (tCons (tVar 2) tNil)) (tCB (rLenQ K) (tCons (tOp (rIxL K) (tVar 1) (tC (.int 0))) tNil))) rfl scVectors.nd
        (pi_list (pv 1)) (blkOk_by (N := ["prime", "value", "vector"]) (sc := defScope sVectors) (by decide +kernel)) (fun _ _ _ _ _ => pg_name (i := 2) scVectors.nd rfl (Or.inl rfl)) (fun _ _ _ _ _ => pts_nil)
        (fun _ _ _ _ _ => pe_cmpR op_eq (pe_callB call_len_seq (by rfl) gN PySem.boot_len (pa_cons (pv 2) pa_nil)) (pe_callB call_len_seq (by rfl) gN PySem.boot_len (pa_cons (pe_ix ix_list (pv 1) pe_int (fun _ _ => rfl)) pa_nil)) (nomark _))) pa_nil)))), ?_⟩
    refine ⟨_, rfl, "list", by simp only [zTyV, hm], _, _, rfl, rfl, _, rfl, iteF ?_⟩
    refine ⟨_, rfl, m, rfl, ⟨as.map V.ref, SqL.of hm⟩, ?_⟩
    intro D hD
    refine lc_list (fun k H' => Same H H' ∧ H' D = some (.lst ((List.replicate k true).map V.bl))) ⟨same_new hD, upd_same⟩ (fun i H' _ z => SqL.of (z.1 _ _ hm)) ?_ ?_
    · rintro k x H' hx ⟨sm, hDl⟩
      obtain ⟨b, xs, rfl, hb, mx, _, hk⟩ := rws_at hT hx
      have kl : k < as.length := (List.getElem?_eq_some_iff.mp hk).1
      refine ⟨rfl, tyes ?_⟩
      refine ⟨_, rfl, _, rfl, p, b, xs, L, rfl, sm _ _ hb, hv xs mx, hL, fun H2 s2 => ?_⟩
      refine ⟨_, s2 _ _ hDl, by rw [List.length_map, List.length_replicate, sizeLine_eq]; omega, same_set (same_trans sm s2) hD, ?_⟩
      rw [upd_same, trues_succ]
    · rintro H1 ⟨sm, hDl⟩
      refine ⟨D, _, rfl, SqL.of hDl, ?_⟩
      rw [all_true]
      refine ⟨_, rfl, iteF ?_⟩
      refine ⟨_, rfl, m, rfl, ⟨as.map V.ref, SqL.of (sm _ _ hm)⟩, ?_⟩
      intro D2 hD2
      refine lc_list (fun k H' => Same H1 H' ∧ H' D2 = some (.lst ((List.replicate k true).map V.bl))) ⟨same_new hD2, upd_same⟩ (fun i H' _ z => SqL.of (z.1 _ _ (sm _ _ hm))) ?_ ?_
      · rintro k x H' hx ⟨s2, hD2l⟩
        obtain ⟨b, xs, rfl, hb, mx, _, hk⟩ := rws_at hT hx
        have kl : k < as.length := (List.getElem?_eq_some_iff.mp hk).1
        have h0 : (as.map V.ref)[0]? = some ((as.map V.ref)[0]'(by rw [List.length_map]; omega)) := List.getElem?_eq_getElem _
        obtain ⟨b0, xs0, e0, hb0, m0, _, _⟩ := rws_at hT h0
        have s3 := same_trans sm s2
        refine ⟨rfl, tyes ?_⟩
        refine ⟨_, rfl, b, _, rfl, .inl (SqL.of (s3 _ _ hb)), _, rfl, m, _, 0, _, rfl, rfl, SqL.of (s3 _ _ hm), atI_nat (j := 0) h0, ?_⟩
        rw [e0]
        refine ⟨b0, _, rfl, .inl (SqL.of (s3 _ _ hb0)), ?_⟩
        have el : decide (V.int ((xs.map V.int).length : Int) = V.int ((xs0.map V.int).length : Int)) = true := by
          rw [List.length_map, List.length_map, (hv xs mx).1, (hv xs0 m0).1]
          exact decide_eq_true rfl
        refine ⟨rfl, _, hD2l, by rw [List.length_map, List.length_replicate, sizeLine_eq]; omega, same_set s2 hD2, ?_⟩
        rw [upd_same, el, trues_succ]
      · rintro H3 ⟨s2, hD2l⟩
        refine ⟨D2, _, rfl, SqL.of hD2l, ?_⟩
        rw [all_true]
        exact want H3 (same_trans sm s2)
end
end Vb
end L2

set_option Elab.async false
set_option linter.all false
set_option maxRecDepth 100000
set_option maxHeartbeats 4000000
/-! Vb, part 6: the inverse. -/
namespace L2
namespace Vb
open PySem PySem.Spec PyProof.Rows
abbrev sInvOf : Stmt := topS 20
def spInvOf : Sp := fun vs H Q _ => ∃ p a : Nat, vs = [.int (p : Int), .int (a : Int)] ∧ 2 ≤ p ∧ p ≤ 65537 ∧ Prm p ∧ 0 < a ∧ a < p ∧ ∀ H', Same H H' → Q (.int ((a ^ (p - 2) % p : Nat) : Int)) H'
theorem inv_pow {p a : Nat} (pr : Prm p) (p2 : 2 ≤ p) (a0 : 0 < a) (ap : a < p) : ((a ^ (p - 2) % p : Nat) : Int) * (a : Int) % (p : Int) = 1 := by
  have f := LinA.fermat pr p2 a0 ap
  have z : a ^ (p - 2) % p * a % p = 1 := by
    rw [Nat.mul_mod, Nat.mod_mod, ← Nat.mul_mod, ← Nat.pow_succ]
    have e2 : (p - 2).succ = p - 1 := by omega
    rw [e2]
    exact f
  rw [← Int.natCast_mul, ← Int.natCast_emod, z]
  rfl
theorem eu_end {p a g l : Nat} {k f : Int} (pr : Prm p) (p2 : 2 ≤ p) (a0 : 0 < a) (ap : a < p) (h : LinA.Eu p a g l k f) (l1 : ¬ 1 < l) : f % (p : Int) = ((a ^ (p - 2) % p : Nat) : Int) := by
  have z := LinA.inv_uniq (LinA.cop pr a0 ap) p2 (h.fin p2 l1) (inv_pow pr p2 a0 ap)
  rw [z]
  have lt : a ^ (p - 2) % p < p := Nat.mod_lt _ (by omega)
  exact Int.emod_eq_of_lt (by omega) (by omega)
section
variable {P : Program} {w : World} {K : PySem.W.Frag} {mg : Str → Option Value} {base : Heap}
abbrev nInvOf : List Str := ["prime", "number", "greater", "less", "known", "found", "times"]
theorem scInvOf : FnScope nInvOf ["prime", "number"] (defScope sInvOf) := ⟨rfl, rfl, rfl, by decide +kernel, rfl, by decide +kernel, by decide +kernel⟩
theorem ok_invOf {f : Addr} {fd : FuncData} (F : Fun K "inverse_of" "inverse_of" sInvOf f fd) : FnOk P w K mg base CX0 1 f fd ["prime", "number"] spInvOf := by
  refine F.ok scInvOf (fun vs H Q E h => ?_) (fun cdv A outer s H vs Q E hr h => ?_)
  · obtain ⟨p, a, rfl, _⟩ := h
    rfl
  · obtain ⟨p, a, rfl, p2, p6, pr, a0, ap, want⟩ := h
    refine ⟨_, (pss_cons (ps_par (i := 2) (j := 3) (by rfl) scInvOf.nd rfl rfl (by decide) rfl rfl (pa_cons (pv 0) (pa_cons (pv 1) pa_nil)) (by rfl))
      (pss_cons (ps_asg (pe_tup (pa_cons pe_int (pa_cons pe_int pa_nil))) (pg_tup rfl (pgs_cons (pg_name (i := 4) scInvOf.nd rfl (Or.inl rfl)) (pgs_cons (pg_name (i := 5) scInvOf.nd rfl (Or.inl rfl)) pgs_nil))))
      (pss_cons (ps_while PassesOwn.never (pt_cmpR op_gt (pv 3) pe_int (nomark _))
        (pss_cons (ps_set (i := 6) scInvOf.nd rfl (Or.inl rfl) (pe_op op_fdiv (pv 2) (pv 3)))
          (pss_cons (ps_par (i := 2) (j := 3) (by rfl) scInvOf.nd rfl rfl (by decide) rfl rfl (pa_cons (pv 3) (pa_cons (pe_op op_sub (pv 2) (pe_op op_mul (pv 6) (pv 3))) pa_nil)) (by rfl))
          (pss_one (ps_par (i := 4) (j := 5) (by rfl) scInvOf.nd rfl rfl (by decide) rfl rfl (pa_cons (pv 5) (pa_cons (pe_op op_sub (pv 4) (pe_op op_mul (pv 6) (pv 5))) pa_nil)) (by rfl))))))
      (pss_one (ps_ret (pe_op op_mod (pv 5) (pv 0))))))), ?_⟩
    refine ⟨_, rfl, _, rfl, _, _, rfl, ?_⟩
    refine ⟨by decide, fun t ht => ?_⟩
    refine ⟨t, _, rfl, SqT.of upd_same, rfl, _, _, rfl, ?_⟩
    refine ⟨_, _, rfl, rfl, ?_⟩
    have sm := same_new (o := .tup [V.int 0, V.int 1]) ht
    refine while_by (fun σ H' => ∃ (g l : Nat) (k e : Int) (x : Option V), σ = [some (.int (p : Int)), some (.int (a : Int)), some (.int (g : Int)), some (.int (l : Int)), some (.int k), some (.int e), x] ∧ H' = upd H t (.tup [V.int 0, V.int 1]) ∧ LinA.Eu p a g l k e)
      (fun σ _ => match σ with | [_, _, _, some (.int l), _, _, _] => l.toNat | _ => 0) ⟨p, a, 0, 1, none, rfl, rfl, LinA.Eu.start (LinA.cop pr a0 ap) a0 ap⟩ ?_ ?_
    · rintro σ H' ⟨g, l, k, e, x, rfl, rfl, inv⟩
      refine ⟨_, rfl, _, _, rfl, rfl, _, rfl, ?_⟩
      by_cases hl : 1 < l
      · have z : decide ((1 : Int) < (l : Int)) = true := decide_eq_true (by omega)
        rw [z]
        refine iteT ?_
        obtain ⟨g1, l0, lg, gp, _, _⟩ := id inv
        have q6 : g / l ≤ 65537 := Nat.le_trans (Nat.div_le_self _ _) (by omega)
        refine ⟨_, rfl, _, rfl, (g : Int), (l : Int), rfl, rfl, ⟨by omega, by omega⟩, ?_⟩
        have q7 : (0 : Int) ≤ ((g / l : Nat) : Int) := Int.natCast_nonneg _
        have q8 : ((g / l : Nat) : Int) ≤ (65537 : Nat) := Int.ofNat_le.mpr q6
        have q9 : CMul ((g / l : Nat) : Int) (l : Int) := .inl ⟨Int.lt_of_lt_of_le (by decide) q7, Int.lt_of_le_of_lt q8 (by decide)⟩
        have q10 : CMul ((g / l : Nat) : Int) e := .inl ⟨Int.lt_of_lt_of_le (by decide) q7, Int.lt_of_le_of_lt q8 (by decide)⟩
        refine ⟨_, rfl, _, rfl, _, rfl, _, rfl, ((g / l : Nat) : Int), (l : Int), rfl, rfl, q9, _, _, rfl, rfl, _, _, rfl, ?_⟩
        refine ⟨_, rfl, _, rfl, _, rfl, _, rfl, ((g / l : Nat) : Int), e, rfl, rfl, q10, _, _, rfl, rfl, _, _, rfl, ?_⟩
        have e2 : (g : Int) - ((g / l : Nat) : Int) * (l : Int) = ((g % l : Nat) : Int) := by
          have z1 := Nat.div_add_mod g l
          have z2 : (l : Int) * ((g / l : Nat) : Int) + ((g % l : Nat) : Int) = (g : Int) := by
            rw [← Int.natCast_mul, ← Int.natCast_add, z1]
          rw [Int.mul_comm]
          omega
        refine ⟨⟨l, g % l, e, k - ((g / l : Nat) : Int) * e, some (.int ((g / l : Nat) : Int)), ?_, rfl, inv.step hl⟩, ?_⟩
        · rw [← e2]
          rfl
        · show ((g : Int) - ((g / l : Nat) : Int) * (l : Int)).toNat < ((l : Int)).toNat
          rw [e2]
          have := Nat.mod_lt g l0
          omega
      · have z : decide ((1 : Int) < (l : Int)) = false := decide_eq_false (by omega)
        rw [z]
        refine iteF ⟨_, rfl, _, rfl, _, _, rfl, rfl, (by show (0 : Int) < (p : Int); omega), ?_⟩
        show Q (.int (e % (p : Int))) _
        rw [eu_end pr p2 a0 ap inv hl]
        exact want _ sm
    · rintro σ H' Q1 Q2 imp ⟨v, e, i, j, e1, e2, k, e3, q⟩
      exact ⟨v, e, i, j, e1, e2, k, e3, imp _ _ q⟩
end
end Vb
end L2

set_option Elab.async false
set_option linter.all false
set_option maxRecDepth 100000
set_option maxHeartbeats 4000000
/-! Vb, part 8: the next row with a number at a place. -/
namespace L2
namespace Vb
open PySem PySem.Spec PyProof.Rows
abbrev sPivot : Stmt := topS 24
/-- the number of row i at place c -/
abbrev at_ (T : List (List Int)) (i c : Nat) : Int := (T.getD i []).getD c 0
def spPivot : Sp := fun vs H Q _ => ∃ (m : Addr) (s c L : Nat) (as : List Addr) (T : List (List Int)) (p : Int), vs = [.ref m, .int (s : Int), .int (c : Int)] ∧ H m = some (.lst (as.map V.ref)) ∧ Rws H as T ∧ (∀ xs ∈ T, Vc p L xs) ∧ c < L ∧ s ≤ T.length ∧ T.length ≤ 1000 ∧
  (∀ i, s ≤ i → i < T.length → at_ T i c ≠ 0 → (∀ j, s ≤ j → j < i → at_ T j c = 0) → Q (.int (i : Int)) H) ∧ ((∀ j, s ≤ j → j < T.length → at_ T j c = 0) → Q .non H)
section
variable {P : Program} {w : World} {K : PySem.W.Frag} {mg : Str → Option Value} {base : Heap}
theorem scPivot : FnScope ["table", "start", "place", "at"] ["table", "start", "place"] (defScope sPivot) := ⟨rfl, rfl, rfl, by decide +kernel, rfl, by decide +kernel, by decide +kernel⟩
theorem ok_pivot {f : Addr} {fd : FuncData} (F : Fun K "pivot_row" "pivot_row" sPivot f fd) (gR : mg "range" = none) (gN : mg "len" = none) : FnOk P w K mg base CX0 1 f fd ["table", "start", "place"] spPivot := by
  refine F.ok scPivot (fun vs H Q E h => ?_) (fun cdv A outer s0 H vs Q E hr h => ?_)
  · obtain ⟨m, s, c, L, as, T, p, rfl, _⟩ := h
    rfl
  · obtain ⟨m, s, c, L, as, T, p, rfl, hm, hT, hv, hc, hs, tL, wantI, wantN⟩ := h
    have la := hT.len
    refine ⟨_, pss_cons (ps_for PassesOwn.never rfl (pi_range2 rfl gR (pa_cons (pv 1) (pa_cons (pe_callB call_len_seq (by rfl) gN PySem.boot_len (pa_cons (pv 0) pa_nil)) pa_nil))) (pg_name (i := 3) scPivot.nd rfl (Or.inl rfl))
        (pss_one (ps_if (pt_truth (pe_ix ix_list (pe_ix ix_list (pv 0) (pv 3) (fun _ _ => rfl)) (pv 2) (fun _ _ => rfl)) (by intro _; rfl)) (pss_one (ps_ret (pv 3))) pss_nil)))
      (pss_one (ps_ret pe_non)), ?_⟩
    refine ⟨_, rfl, _, rfl, m, _, rfl, .inl (SqL.of hm), (s : Int), _, rfl, ⟨by omega, by omega, by rw [List.length_map]; omega, by rw [List.length_map]; omega⟩, ?_⟩
    have en : (((as.map V.ref).length : Int) - (s : Int)).toNat = T.length - s := by
      rw [List.length_map]
      omega
    rw [en]
    refine for_range (lo := (s : Int)) (n := T.length - s) (fun k σ H' => H' = H ∧ (∃ v, σ = [some (.ref m), some (.int (s : Int)), some (.int (c : Int)), v]) ∧ ∀ j, s ≤ j → j < s + k → at_ T j c = 0) ⟨rfl, ⟨_, rfl⟩, fun j h1 h2 => by omega⟩ ?_ ?_
    · rintro k σ H' hk ⟨rfl, ⟨v, rfl⟩, inv⟩
      have kT : s + k < T.length := by omega
      have hx : (as.map V.ref)[s + k]? = some ((as.map V.ref)[s + k]'(by rw [List.length_map]; omega)) := List.getElem?_eq_getElem _
      obtain ⟨b, xs, e1, hb, mx, ht, _⟩ := rws_at hT hx
      have vx := hv xs mx
      have eT : T.getD (s + k) [] = xs := by rw [List.getD_eq_getElem?_getD, ht]; rfl
      have hb2 : H' b = some (.lst (xs.map V.int)) := hb
      have hc2 : (xs.map V.int)[c]? = some (V.int (xs.getD c 0)) := by
        rw [List.getElem?_map, List.getD_eq_getElem?_getD, List.getElem?_eq_getElem (by rw [vx.1]; exact hc)]
        rfl
      rw [e1] at hx
      refine ⟨_, rfl, _, rfl, m, _, (s : Int) + (k : Int), _, rfl, rfl, SqL.of hm, atI_nat (j := s + k) hx, _, rfl, b, _, (c : Int), _, rfl, rfl, SqL.of hb2, atI_nat hc2, xs.getD c 0 != 0, rfl, ?_⟩
      have ea : at_ T (s + k) c = xs.getD c 0 := by
        show (T.getD (s + k) []).getD c 0 = _
        rw [eT]
      by_cases z : xs.getD c 0 = 0
      · rw [z]
        refine iteF ⟨rfl, ⟨_, rfl⟩, fun j h1 h2 => ?_⟩
        by_cases q : j < s + k
        · exact inv j h1 q
        · have ej : j = s + k := by omega
          rw [ej, ea, z]
      · have zb : (xs.getD c 0 != 0) = true := bne_iff_ne.mpr z
        rw [zb]
        refine iteT ⟨_, rfl, ?_⟩
        exact wantI (s + k) (by omega) kT (by rw [ea]; exact z) inv
    · rintro σ H' ⟨rfl, ⟨v, rfl⟩, inv⟩
      exact wantN fun j h1 h2 => inv j h1 (by omega)
end
end Vb
end L2

set_option Elab.async false
set_option linter.all false
set_option maxRecDepth 100000
set_option maxHeartbeats 4000000
/-! Vb, part 9b: lists of new rows that grow. -/
namespace L2
namespace Vb
open PySem PySem.Spec PyProof.Rows
theorem paired_snoc {α β : Type} {R : α → β → Prop} {as : List α} {bs : List β} {a : α} {b : β} (h : Paired R as bs) (r : R a b) : Paired R (as ++ [a]) (bs ++ [b]) := by
  induction h with
  | nil => exact .cons r .nil
  | cons p _ ih => exact .cons p ih
theorem cut_take (xs : List V) (n : Nat) : cutV xs none (some (n : Int)) = xs.take n := by
  unfold cutV
  rw [HT.sIx_none, HT.sIx_nat, List.drop_zero, Nat.sub_zero]
  rcases Nat.le_total n xs.length with h | h
  · rw [Nat.min_eq_left h]
  · rw [Nat.min_eq_right h, List.take_length, List.take_of_length_le h]
theorem rws_up {H H' : Hp} {as : List Addr} {T : List (List Int)} (h : Rws H as T) (s : Same H H') : Rws H' as T := h.mono fun b _ o e => s _ _ e
/-- at D stands a new list of new rows, the first k of T -/
def Grow (H : Hp) (D : Addr) (T : List (List Int)) (k : Nat) (H' : Hp) : Prop := Same H H' ∧ ∃ cs : List Addr, cs.length = k ∧ H' D = some (.lst (cs.map V.ref)) ∧ Rws H' cs (T.take k) ∧ (∀ b ∈ cs, b ≠ D) ∧ ∀ b ∈ cs, H b = none
theorem Grow.start {H : Hp} {D : Addr} {T : List (List Int)} (h : H D = none) : Grow H D T 0 (upd H D (.lst [])) := ⟨same_new h, [], rfl, upd_same, .nil, fun b z => (List.not_mem_nil z).elim, fun b z => (List.not_mem_nil z).elim⟩
theorem Grow.step {H H1 H2 : Hp} {D d : Addr} {T : List (List Int)} {k : Nat} {row : List Int} (hD : H D = none) (g : Grow H D T k H1) (s : Same H1 H2) (nd : H1 d = none) (hd : Rw H2 d row) (ht : T[k]? = some row) :
    ∃ acc, H2 D = some (.lst acc) ∧ acc.length = k ∧ Grow H D T (k + 1) (upd H2 D (.lst (acc ++ [.ref d]))) := by
  obtain ⟨sm, cs, lc, h1, h2, h3, h4⟩ := g
  have ne : d ≠ D := fun e => by
    rw [e, h1] at nd
    cases nd
  have st : ∀ b, b ≠ D → ∀ o, H2 b = some o → upd H2 D (.lst (cs.map V.ref ++ [V.ref d])) b = some o := fun b n o e => (upd_ne n).trans e
  refine ⟨_, s _ _ h1, by rw [List.length_map, lc], same_set (same_trans sm s) hD, cs ++ [d], by rw [List.length_append, lc]; rfl, ?_, ?_, fun b m => ?_, fun b m => ?_⟩
  · rw [upd_same, List.map_append]
    rfl
  · rw [List.take_succ, ht]
    exact paired_snoc ((h2.mono fun b _ o e => s _ _ e).mono fun b m o e => st b (h3 b m) o e) (st d ne _ hd)
  · rcases List.mem_append.mp m with q | q
    · exact h3 b q
    · rw [List.mem_singleton.mp q]
      exact ne
  · rcases List.mem_append.mp m with q | q
    · exact h4 b q
    · rw [List.mem_singleton.mp q]
      exact sm.free nd
theorem Grow.done {H H' : Hp} {D : Addr} {T : List (List Int)} {k : Nat} (g : Grow H D T k H') (h : T.length ≤ k) : Same H H' ∧ ∃ cs : List Addr, H' D = some (.lst (cs.map V.ref)) ∧ Rws H' cs T ∧ (∀ b ∈ cs, H b = none) ∧ cs.length = T.length := by
  obtain ⟨sm, cs, lc, h1, h2, h3, h4⟩ := g
  rw [List.take_of_length_le h] at h2
  exact ⟨sm, cs, h1, h2, h4, h2.len⟩
/-- .. a list of numbers -/
def GrowI (H : Hp) (D : Addr) (xs : List Int) (k : Nat) (H' : Hp) : Prop := Same H H' ∧ H' D = some (.lst ((xs.take k).map V.int))
theorem GrowI.start {H : Hp} {D : Addr} {xs : List Int} (h : H D = none) : GrowI H D xs 0 (upd H D (.lst [])) := ⟨same_new h, upd_same⟩
theorem GrowI.step {H H1 H2 : Hp} {D : Addr} {xs : List Int} {k : Nat} {x : Int} (hD : H D = none) (g : GrowI H D xs k H1) (s : Same H1 H2) (ht : xs[k]? = some x) :
    ∃ acc, H2 D = some (.lst acc) ∧ acc.length ≤ k ∧ GrowI H D xs (k + 1) (upd H2 D (.lst (acc ++ [.int x]))) := by
  obtain ⟨sm, h1⟩ := g
  refine ⟨_, s _ _ h1, by rw [List.length_map, List.length_take]; omega, same_set (same_trans sm s) hD, ?_⟩
  rw [upd_same, List.take_succ, ht, List.map_append]
  rfl
theorem GrowI.done {H H' : Hp} {D : Addr} {xs : List Int} {k : Nat} (g : GrowI H D xs k H') (h : xs.length ≤ k) : Same H H' ∧ H' D = some (.lst (xs.map V.int)) := by
  obtain ⟨sm, h1⟩ := g
  rw [List.take_of_length_le h] at h1
  exact ⟨sm, h1⟩
/-- .. a list of truths -/
def GrowB (H : Hp) (D : Addr) (xs : List Bool) (k : Nat) (H' : Hp) : Prop := Same H H' ∧ H' D = some (.lst ((xs.take k).map V.bl))
theorem GrowB.start {H : Hp} {D : Addr} {xs : List Bool} (h : H D = none) : GrowB H D xs 0 (upd H D (.lst [])) := ⟨same_new h, upd_same⟩
theorem GrowB.step {H H1 H2 : Hp} {D : Addr} {xs : List Bool} {k : Nat} {x : Bool} (hD : H D = none) (g : GrowB H D xs k H1) (s : Same H1 H2) (ht : xs[k]? = some x) :
    ∃ acc, H2 D = some (.lst acc) ∧ acc.length ≤ k ∧ GrowB H D xs (k + 1) (upd H2 D (.lst (acc ++ [.bl x]))) := by
  obtain ⟨sm, h1⟩ := g
  refine ⟨_, s _ _ h1, by rw [List.length_map, List.length_take]; omega, same_set (same_trans sm s) hD, ?_⟩
  rw [upd_same, List.take_succ, ht, List.map_append]
  rfl
theorem GrowB.done {H H' : Hp} {D : Addr} {xs : List Bool} {k : Nat} (g : GrowB H D xs k H') (h : xs.length ≤ k) : Same H H' ∧ H' D = some (.lst (xs.map V.bl)) := by
  obtain ⟨sm, h1⟩ := g
  rw [List.take_of_length_le h] at h1
  exact ⟨sm, h1⟩
theorem size_ok {k : Nat} (h : k ≤ 1000000) : k < sizeLine := by
  rw [sizeLine_eq]
  omega
theorem rep_zeros (n : Nat) : (List.replicate ((n : Int)).toNat [V.int 0]).flatten = (List.replicate n (0 : Int)).map V.int := by
  rw [Int.toNat_natCast]
  induction n with
  | zero => rfl
  | succ n ih =>
    rw [List.replicate_succ, List.replicate_succ, List.flatten_cons, ih]
    rfl
def rLO (K : PySem.W.Frag) : List V → Hp → VK → Prop := fun xs H Q => ∃ p ys, xs = [.ref p] ∧ (SqL K H p ys ∨ SqT K H p ys) ∧ ∀ l, H l = none → Q (.ref l) (upd H l (.lst ys))
theorem boot_list2 : bootBuiltins ("list" : Str) = some (.type "list") := by decide +kernel
end Vb
end L2

set_option Elab.async false
set_option linter.all false
set_option maxRecDepth 100000
set_option maxHeartbeats 4000000
/-! Vb, part 10: vectors added up. -/
namespace L2
namespace Vb
open PySem PySem.Spec PyProof.Rows
abbrev sAdd : Stmt := topS 23
def dotZ (xs ys : List Int) : Int := (List.zipWith (· * ·) xs ys).sum
def colZ (T : List (List Int)) (c : Nat) : List Int := T.map fun xs => xs.getD c 0
def addZ (p : Int) (T : List (List Int)) (fs : List Int) (L : Nat) : List Int := (List.range L).map fun c => dotZ fs (colZ T c) % p
theorem vc_col {p : Int} {L : Nat} {T : List (List Int)} {c : Nat} (hv : ∀ xs ∈ T, Vc p L xs) (hc : c < L) : Vc p T.length (colZ T c) := ⟨List.length_map .., fun x m => by
  obtain ⟨xs, mx, rfl⟩ := List.mem_map.mp m
  obtain ⟨l, h⟩ := hv xs mx
  rw [List.getD_eq_getElem?_getD, List.getElem?_eq_getElem (by omega)]
  exact h _ (List.getElem_mem _)⟩
/-- the sums so far, place by place, not yet cut by the prime -/
def sumsZ (T : List (List Int)) (fs : List Int) (L k : Nat) : List Int := (List.range L).map fun c => dotZ (fs.take k) (colZ (T.take k) c)
theorem sumsZ_len (T : List (List Int)) (fs : List Int) (L k : Nat) : (sumsZ T fs L k).length = L := by
  unfold sumsZ
  rw [List.length_map, List.length_range]
theorem dotZ_snoc (xs ys : List Int) (x y : Int) (h : xs.length = ys.length) : dotZ (xs ++ [x]) (ys ++ [y]) = dotZ xs ys + x * y := by
  unfold dotZ
  rw [List.zipWith_append h, List.sum_append]
  show _ + (x * y + 0) = _
  rw [Int.add_zero]
theorem colZ_take (T : List (List Int)) (k c : Nat) : colZ (T.take k) c = (colZ T c).take k := List.map_take
theorem sum_at {T : List (List Int)} {fs : List Int} {k c : Nat} {f : Int} {xs : List Int} (hf : fs[k]? = some f) (hx : T[k]? = some xs) : dotZ (fs.take (k + 1)) (colZ (T.take (k + 1)) c) = dotZ (fs.take k) (colZ (T.take k) c) + f * xs.getD c 0 := by
  rw [List.take_succ, hf, colZ_take, colZ_take, List.take_succ (l := colZ T c)]
  have e : (colZ T c)[k]? = some (xs.getD c 0) := by
    unfold colZ
    rw [List.getElem?_map, hx]
    rfl
  rw [e]
  have kf := (List.getElem?_eq_some_iff.mp hf).1
  have kt := (List.getElem?_eq_some_iff.mp hx).1
  refine dotZ_snoc _ _ _ _ ?_
  unfold colZ
  rw [List.length_take, List.length_take, List.length_map]
  omega
/-- all factors so far are noughts -/
def Noughts (fs : List Int) (k : Nat) : Prop := ∀ i, i < k → fs.getD i 0 = 0
theorem noughts_sum {T : List (List Int)} {fs : List Int} (ht : T.length = fs.length) {k : Nat} (h : Noughts fs k) (hk : k ≤ fs.length) (c : Nat) : dotZ (fs.take k) (colZ (T.take k) c) = 0 := by
  induction k with
  | zero => rfl
  | succ k ih =>
    have hf : fs[k]? = some (fs[k]'(by omega)) := List.getElem?_eq_getElem _
    have hx : T[k]? = some (T[k]'(by omega)) := List.getElem?_eq_getElem _
    rw [sum_at hf hx, ih (fun i hi => h i (by omega)) (by omega)]
    have z := h k (by omega)
    rw [List.getD_eq_getElem?_getD, hf] at z
    have z2 : fs[k]'(by omega) = 0 := z
    rw [z2, Int.zero_mul]
    rfl
theorem get_sums {T : List (List Int)} {fs : List Int} {L k c : Nat} (h : c < L) : (sumsZ T fs L k)[c]? = some (dotZ (fs.take k) (colZ (T.take k) c)) := by
  unfold sumsZ
  rw [List.getElem?_map, List.getElem?_range h]
  rfl
theorem sums_nought {T : List (List Int)} {fs : List Int} {L k : Nat} {f : Int} {xs : List Int} (hf : fs[k]? = some f) (hx : T[k]? = some xs) (f0 : f = 0) : sumsZ T fs L (k + 1) = sumsZ T fs L k := by
  refine List.ext_getElem? fun c => ?_
  by_cases h : c < L
  · rw [get_sums h, get_sums h, sum_at hf hx, f0, Int.zero_mul, Int.add_zero]
  · rw [List.getElem?_eq_none (by rw [sumsZ_len]; omega), List.getElem?_eq_none (by rw [sumsZ_len]; omega)]
theorem sums_first {T : List (List Int)} {fs : List Int} (ht : T.length = fs.length) {L k : Nat} {f : Int} {xs : List Int} (hf : fs[k]? = some f) (hx : T[k]? = some xs) (lx : xs.length = L) (h : Noughts fs k) : xs.map (fun n => f * n) = sumsZ T fs L (k + 1) := by
  have kf := (List.getElem?_eq_some_iff.mp hf).1
  refine List.ext_getElem? fun c => ?_
  by_cases q : c < L
  · rw [get_sums q, sum_at hf hx, noughts_sum ht h (by omega), Int.zero_add, List.getElem?_map, List.getElem?_eq_getElem (by omega), List.getD_eq_getElem?_getD, List.getElem?_eq_getElem (by omega)]
    rfl
  · rw [List.getElem?_eq_none (by rw [List.length_map]; omega), List.getElem?_eq_none (by rw [sumsZ_len]; omega)]
theorem sums_next {T : List (List Int)} {fs : List Int} {L k : Nat} {f : Int} {xs : List Int} (hf : fs[k]? = some f) (hx : T[k]? = some xs) (lx : xs.length = L) : List.zipWith (fun a b => a + f * b) (sumsZ T fs L k) xs = sumsZ T fs L (k + 1) := by
  refine List.ext_getElem? fun c => ?_
  by_cases q : c < L
  · rw [get_sums q, sum_at hf hx, List.getElem?_zipWith, get_sums q, List.getElem?_eq_getElem (by omega), List.getD_eq_getElem?_getD, List.getElem?_eq_getElem (by omega)]
    rfl
  · rw [List.getElem?_eq_none (by rw [List.length_zipWith, sumsZ_len]; omega), List.getElem?_eq_none (by rw [sumsZ_len]; omega)]
theorem add_all {p : Int} {T : List (List Int)} {fs : List Int} {L : Nat} (ht : T.length = fs.length) : (sumsZ T fs L T.length).map (fun n => n % p) = addZ p T fs L := by
  unfold sumsZ addZ
  rw [List.map_map]
  refine List.map_congr_left fun c _ => ?_
  show dotZ (fs.take T.length) (colZ (T.take T.length) c) % p = _
  rw [List.take_of_length_le (by omega), List.take_of_length_le (Nat.le_refl _)]
theorem add_none {p : Int} {T : List (List Int)} {fs : List Int} {L : Nat} (ht : T.length = fs.length) (h : Noughts fs T.length) : addZ p T fs L = List.replicate L 0 := by
  rw [← add_all ht]
  refine List.ext_getElem? fun c => ?_
  by_cases q : c < L
  · rw [List.getElem?_map, get_sums q, noughts_sum ht h (by omega), List.getElem?_replicate, if_pos q]
    show some (0 % p) = _
    rw [Int.zero_emod]
  · rw [List.getElem?_eq_none (by rw [List.length_map, sumsZ_len]; omega), List.getElem?_eq_none (by rw [List.length_replicate]; omega)]
section
variable {P : Program} {w : World} {K : PySem.W.Frag} {mg : Str → Option Value} {base : Heap}
def spAdd : Sp := fun vs H Q _ => ∃ (p : Int) (m b : Addr) (L : Nat) (as : List Addr) (T : List (List Int)) (fs : List Int), vs = [.int p, .ref m, .ref b, .int (L : Int)] ∧ 2 ≤ p ∧ p ≤ 65537 ∧ H m = some (.lst (as.map V.ref)) ∧ Rws H as T ∧ (∀ xs ∈ T, Vc p L xs) ∧ Rw H b fs ∧ Vc p T.length fs ∧ L ≤ 1000 ∧ T.length ≤ 1000 ∧
  ∀ (H' : Hp) (d : Addr), Same H H' → H d = none → Rw H' d (addZ p T fs L) → Q (.ref d) H'
abbrev nAdd : List Str := ["prime", "vectors", "factors", "length", "total", "factor", "vector", "number", "a", "b"]
theorem scAdd : FnScope nAdd ["prime", "vectors", "factors", "length"] (defScope sAdd) := ⟨rfl, rfl, rfl, by decide +kernel, rfl, by decide +kernel, by decide +kernel⟩
/-- the total so far: none, or a new list of the sums -/
def Tot (H H' : Hp) (T : List (List Int)) (fs : List Int) (L k : Nat) (v : V) : Prop := (v = .non ∧ Noughts fs k) ∨ ∃ d, v = .ref d ∧ H d = none ∧ Rw H' d (sumsZ T fs L k)
theorem ok_add {f : Addr} {fd : FuncData} (F : Fun K "added_up" "added_up" sAdd f fd) (gZ : mg "zip" = none) : FnOk P w K mg base CX0 1 f fd ["prime", "vectors", "factors", "length"] spAdd := by
  refine F.ok scAdd (fun vs H Q E h => ?_) (fun cdv A outer s0 H vs Q E hr h => ?_)
  · obtain ⟨p, m, b, L, as, T, fs, rfl, _⟩ := h
    rfl
  · obtain ⟨p, m, b, L, as, T, fs, rfl, p2, p6, hm, hT, hv, hb, hf, hL, tL, want⟩ := h
    have hb : H b = some (.lst (fs.map V.int)) := hb
    refine ⟨_, (pss_cons (ps_set (i := 4) scAdd.nd rfl (Or.inl rfl) pe_non)
      (pss_cons (ps_for PassesOwn.never rfl (pi_zip (by rfl) gZ (pa_cons (pv 2) (pa_cons (pv 1) pa_nil))) (pg_tup rfl (pgs_cons (pg_name (i := 5) scAdd.nd rfl (Or.inr rfl)) (pgs_cons (pg_name (i := 6) scAdd.nd rfl (Or.inl rfl)) pgs_nil)))
        (pss_one (ps_if (PW.pt (pw_and (pt_truth (pv 5) (by intro _; rfl)) (pw_and1 (pt_cmpR op_isN (pv 4) pe_non (nomark _)))))
            (pss_one (ps_setLc (i := 4) (own := [("number", 7)]) (g := (gName 7)) (tt := tYes) rfl scAdd.nd rfl rfl (sw_true rfl rfl rfl (by decide +kernel)) (pi_list (pe_slice sl_list (pv 6) po_none (po_some (pv 3)))) (blkOk_by (N := nAdd) (sc := defScope sAdd) (by decide +kernel)) (fun _ _ _ _ _ => pg_name (i := 7) scAdd.nd rfl (Or.inl rfl)) (fun _ _ _ _ _ => pts_nil) (fun _ _ _ _ _ => (pe_op op_mul (pv 5) (pv 7)))))
            (pss_one (ps_if (pt_truth (pv 5) (by intro _; rfl))
                (pss_one (ps_setLc (i := 4) (own := [("a", 8), ("b", 9)]) (g := (gTup K 2 (gCons (gName 8) (gCons (gName 9) gNil)))) (tt := tYes) rfl scAdd.nd rfl rfl (sw_true rfl rfl rfl (by decide +kernel)) (pi_zip (by rfl) gZ (pa_cons (pv 4) (pa_cons (pv 6) pa_nil))) (blkOk_by (N := nAdd) (sc := defScope sAdd) (by decide +kernel)) (fun _ _ _ _ _ => pg_tup rfl (pgs_cons (pg_name (i := 8) scAdd.nd rfl (Or.inl rfl)) (pgs_cons (pg_name (i := 9) scAdd.nd rfl (Or.inl rfl)) pgs_nil))) (fun _ _ _ _ _ => pts_nil) (fun _ _ _ _ _ => (pe_op op_add (pv 8) (pe_op op_mul (pv 5) (pv 9))))))
                pss_nil)))))
      (pss_one (ps_ret (pe_ifExp (pt_cmpR op_isN (pv 4) pe_non (nomark _)) (pe_op op_rep (pe_lst (pa_cons pe_int pa_nil)) (pv 3)) (pe_lc (own := [("number", 7)]) (g := (gName 7)) (tt := tYes) rfl scAdd.nd (pi_list (pv 4)) (blkOk_by (N := nAdd) (sc := defScope sAdd) (by decide +kernel)) (fun _ _ _ _ _ => pg_name (i := 7) scAdd.nd rfl (Or.inl rfl)) (fun _ _ _ _ _ => pts_nil) (fun _ _ _ _ _ => (pe_op op_mod (pv 7) (pv 0))))))))), ?_⟩
    refine ⟨_, rfl, _, rfl, b, m, _, _, rfl, SqL.of hb, SqL.of hm, ?_⟩
    have la : (as.map V.ref).length = T.length := by rw [List.length_map, hT.len]
    have lb : (fs.map V.int).length = T.length := by rw [List.length_map, hf.1]
    refine for_it (walk_zip (n := T.length) (by rw [la, lb, Nat.min_self])) (fun k σ H' => (∃ tot u v, σ = [some (.int p), some (.ref m), some (.ref b), some (.int (L : Int)), some tot, u, v, none, none, none] ∧ Tot H H' T fs L k tot) ∧ Same H H')
      ⟨⟨_, _, _, rfl, .inl ⟨rfl, fun i hi => absurd hi (Nat.not_lt_zero i)⟩⟩, same_rfl⟩ (fun i σ H' _ z => ⟨SqL.of (z.2 _ _ hb), SqL.of (z.2 _ _ hm)⟩) ?_ ?_
    · rintro k x σ H1 H' hk ⟨⟨tot, u, v, rfl, ht⟩, sm⟩ ⟨T2, x1, x2, rfl, nT, rfl, e1, e2⟩
      obtain ⟨f, rfl, mf, hfk⟩ := mem_ints e1
      obtain ⟨c, xs, rfl, hc, mx, htk, _⟩ := rws_at hT e2
      have s2 := same_new (o := .tup [V.int f, V.ref c]) nT
      have s12 := same_trans sm s2
      have hc1 : upd H1 T2 (.tup [V.int f, V.ref c]) c = some (.lst (xs.map V.int)) := s2 _ _ (sm _ _ hc)
      have lx : xs.length = L := (hv xs mx).1
      obtain ⟨f0, f1⟩ := hf.2 f mf
      refine ⟨T2, _, rfl, SqT.of upd_same, rfl, _, _, rfl, ?_⟩
      refine ⟨_, _, rfl, rfl, ?_⟩
      refine ⟨_, rfl, f != 0, rfl, ?_⟩
      by_cases fz : f = 0
      · rw [bne_eq_false_iff_eq.mpr fz]
        refine iteF ⟨_, rfl, f != 0, rfl, ?_⟩
        rw [bne_eq_false_iff_eq.mpr fz]
        refine iteF ⟨⟨tot, _, _, rfl, ?_⟩, s12⟩
        rcases ht with ⟨rfl, hn⟩ | ⟨d, rfl, nd, hd⟩
        · refine .inl ⟨rfl, fun i hi => ?_⟩
          by_cases q : i < k
          · exact hn i q
          · have e : i = k := by omega
            rw [e, List.getD_eq_getElem?_getD, hfk]
            exact fz
        · refine .inr ⟨d, rfl, nd, ?_⟩
          rw [sums_nought hfk htk fz]
          exact s2 _ _ hd
      · rw [bne_iff_ne.mpr fz]
        refine iteT ⟨_, rfl, rfl, _, rfl, ?_⟩
        rcases ht with ⟨rfl, hn⟩ | ⟨d, rfl, nd, hd⟩
        · rw [decide_eq_true rfl]
          refine iteT ?_
          refine ⟨_, rfl, ⟨_, rfl, _, rfl, c, _, rfl, SqL.of hc1, fun q hq => ?_⟩⟩
          rw [cut_take, List.take_of_length_le (by rw [List.length_map, lx]; exact Nat.le_refl _)]
          refine ⟨q, rfl, ⟨_, SqL.of upd_same⟩, ?_⟩
          intro D hD
          have s3 := same_new (o := .lst (xs.map V.int)) hq
          refine lc_list (GrowI (upd (upd H1 T2 (.tup [V.int f, V.ref c])) q (.lst (xs.map V.int))) D (xs.map fun n => f * n)) (GrowI.start hD) (fun i H' _ z => SqL.of (z.1 _ _ upd_same)) ?_ ?_
          · rintro j x H2 hx g
            obtain ⟨n, rfl, mn, hn⟩ := mem_ints hx
            have jl : j < xs.length := (List.getElem?_eq_some_iff.mp hn).1
            refine ⟨rfl, tyes ?_⟩
            refine ⟨_, rfl, _, rfl, f, n, rfl, rfl, .inl ⟨by omega, by omega⟩, ?_⟩
            obtain ⟨acc, k1, k2, k3⟩ := g.step (x := f * n) hD same_rfl (by rw [List.getElem?_map, hn]; rfl)
            exact ⟨acc, k1, size_ok (by omega), k3⟩
          · intro H2 g
            obtain ⟨s4, hD1⟩ := g.done (by rw [List.length_map, List.length_map]; exact Nat.le_refl _)
            refine ⟨⟨.ref D, _, _, rfl, .inr ⟨D, rfl, (same_trans s12 s3).free hD, ?_⟩⟩, same_trans s12 (same_trans s3 s4)⟩
            rw [← sums_first (by rw [hf.1]) hfk htk lx hn]
            exact hD1
        · rw [decide_eq_false (fun e => nomatch e)]
          refine iteF ⟨_, rfl, f != 0, rfl, ?_⟩
          rw [bne_iff_ne.mpr fz]
          refine iteT ?_
          have hd1 : upd H1 T2 (.tup [V.int f, V.ref c]) d = some (.lst ((sumsZ T fs L k).map V.int)) := s2 _ _ hd
          refine ⟨_, rfl, _, rfl, d, c, _, _, rfl, SqL.of hd1, SqL.of hc1, ?_⟩
          intro D hD
          have ls := sumsZ_len T fs L k
          refine lc_it (walk_zip (n := L) (by rw [List.length_map, List.length_map, ls, lx, Nat.min_self])) (GrowI (upd H1 T2 (.tup [V.int f, V.ref c])) D (List.zipWith (fun a b => a + f * b) (sumsZ T fs L k) xs)) (GrowI.start hD) (fun i H' _ z => ⟨SqL.of (z.1 _ _ hd1), SqL.of (z.1 _ _ hc1)⟩) ?_ ?_
          · rintro j x H2 H3 hj g ⟨T3, y1, y2, rfl, nT3, rfl, z1, z2⟩
            obtain ⟨a1, rfl, ma, ha⟩ := mem_ints z1
            obtain ⟨a2, rfl, ma2, ha2⟩ := mem_ints z2
            have s5 := same_new (o := .tup [V.int a1, V.int a2]) nT3
            refine ⟨T3, _, rfl, SqT.of upd_same, rfl, _, _, rfl, ?_⟩
            refine ⟨_, _, rfl, rfl, rfl, tyes ?_⟩
            refine ⟨_, rfl, _, rfl, _, rfl, f, a2, rfl, rfl, .inl ⟨by omega, by omega⟩, _, _, rfl, rfl, ?_⟩
            obtain ⟨acc, k1, k2, k3⟩ := g.step (x := a1 + f * a2) hD s5 (by rw [List.getElem?_zipWith, ha, ha2])
            exact ⟨acc, k1, size_ok (by omega), k3⟩
          · intro H2 g
            obtain ⟨s4, hD1⟩ := g.done (by rw [List.length_zipWith, ls, lx, Nat.min_self]; exact Nat.le_refl _)
            refine ⟨⟨.ref D, _, _, rfl, .inr ⟨D, rfl, s12.free hD, ?_⟩⟩, same_trans s12 s4⟩
            rw [← sums_next hfk htk lx]
            exact hD1
    · rintro σ H' ⟨⟨tot, u, v, rfl, ht⟩, sm⟩
      refine ⟨_, rfl, rfl, _, rfl, ?_⟩
      rcases ht with ⟨rfl, hn⟩ | ⟨d, rfl, nd, hd⟩
      · rw [decide_eq_true rfl]
        refine iteT ?_
        refine ⟨by show 1 ≤ sizeLine; decide, fun z hz => ?_⟩
        refine ⟨_, rfl, z, (L : Int), [V.int 0], rfl, rfl, upd_same, by omega, by omega, by rw [Int.toNat_natCast, sizeLine_eq]; show 1 * L ≤ 16777216; omega, fun d hd => ?_⟩
        rw [rep_zeros]
        have s5 := same_new (o := .lst [V.int 0]) hz
        have s6 := same_new (o := .lst ((List.replicate L (0 : Int)).map V.int)) hd
        refine want _ d (same_trans sm (same_trans s5 s6)) ((same_trans sm s5).free hd) ?_
        rw [add_none (by rw [hf.1]) hn]
        exact upd_same
      · rw [decide_eq_false (fun e => nomatch e)]
        refine iteF ?_
        have hd1 : H' d = some (.lst ((sumsZ T fs L T.length).map V.int)) := hd
        refine ⟨_, rfl, d, rfl, ⟨_, SqL.of hd1⟩, ?_⟩
        intro D hD
        have ls := sumsZ_len T fs L T.length
        refine lc_list (GrowI H' D ((sumsZ T fs L T.length).map fun n => n % p)) (GrowI.start hD) (fun i H2 _ z => SqL.of (z.1 _ _ hd1)) ?_ ?_
        · rintro j x H2 hx g
          obtain ⟨n, rfl, mn, hn⟩ := mem_ints hx
          have jl : j < (sumsZ T fs L T.length).length := (List.getElem?_eq_some_iff.mp hn).1
          refine ⟨rfl, tyes ?_⟩
          refine ⟨_, rfl, _, rfl, n, p, rfl, rfl, (by show (0 : Int) < p; omega), ?_⟩
          obtain ⟨acc, k1, k2, k3⟩ := g.step (x := n % p) hD same_rfl (by rw [List.getElem?_map, hn]; rfl)
          exact ⟨acc, k1, size_ok (by omega), k3⟩
        · intro H2 g
          obtain ⟨s4, hD1⟩ := g.done (by rw [List.length_map, List.length_map]; exact Nat.le_refl _)
          refine want _ D (same_trans sm s4) (sm.free hD) ?_
          rw [← add_all (by rw [hf.1])]
          exact hD1
end
end Vb
end L2

set_option Elab.async false
set_option linter.all false
set_option maxRecDepth 100000
set_option maxHeartbeats 4000000
/-! VbZipN: zip of as many lists as there are. -/
namespace ZN
open PySem
open PySem.Sem (wp)
theorem sizeN : sizeLine = 16777216 := rfl
theorem typeCall_n (args : List Value) : checkTypeCall "zip" ⟨args, []⟩ = pure () := by kernel_rfl
theorem newCall_n (args : List Value) : checkBuiltinCall "zip.__new__" ⟨.type "zip" :: args, []⟩ = pure () := by
  cases args with
  | nil => kernel_rfl
  | cons a as => kernel_rfl
theorem args_n (obj : Value) (args : List Value) : argsOk "object.__init__" ⟨obj :: args, []⟩ := by
  unfold argsOk; rw [signature?_of (id := "object.__init__") (n := ['_', '_', 't', 'i', 'n', 'i', '_', '_']) (o := ['t', 'c', 'e', 'j', 'b', 'o']) (by kernel_rfl) F.owner_object]; kernel_rfl
abbrev IsZipN (h : Heap) (z TI TO : Addr) (f0 f1 : Value) : Prop :=
  h.get? z = some { cls := .type "zip", dict := none, data := .fields #[f0, f1, .bool false, .ref TI, .ref TO], slots := #[] }
abbrev IsTupN (h : Heap) (T : Addr) (vs : Array Value) : Prop := h.get? T = some { cls := .type "tuple", data := .seq vs }
section
variable {M : Model} {A : Around} {E : Value → Shared → Prop}
/-- a for over a list, by what holds at each turn -/
theorem forIn_inv {α β : Type} {l : List α} {f : α → β → Sem (ForInStep β)} (I : Nat → β → Shared → Prop) {Q : β → Shared → Prop} {b : β} {s : Shared}
    (h0 : I 0 b s) (hs : ∀ k x b s, l[k]? = some x → I k b s → wpAny M A (f x b) (fun r s' => match r with | .yield b' => I (k + 1) b' s' | .done b' => Q b' s') E s) (hq : ∀ b s, I l.length b s → Q b s) :
    wpAny M A (forIn l b f) Q E s := by
  have key : ∀ (m : List α) (k : Nat) (b : β) (s : Shared), l.drop k = m → k ≤ l.length → I k b s → wpAny M A (forIn m b f) Q E s := by
    intro m
    induction m with
    | nil =>
      intro k b s e hk hi
      rw [List.forIn_nil]
      have hk2 : l.length ≤ k := List.drop_eq_nil_iff.mp e
      have q : k = l.length := by omega
      subst q
      exact wpAny_pure (hq b s hi)
    | cons x m ih =>
      intro k b s e hk hi
      rw [List.forIn_cons]
      have hx : l[k]? = some x := by
        have z := congrArg (fun y => y[0]?) e
        simp at z
        exact z
      have kl := (List.getElem?_eq_some_iff.mp hx).1
      refine wpAny_bind (wpAny_mono (hs k x b s hx hi) (fun r s' q => ?_) fun e s' q => q)
      cases r with
      | done b' => exact wpAny_pure q
      | yield b' =>
        refine ih (k + 1) b' s' ?_ kl q
        have z := congrArg List.tail e
        rw [List.tail_drop] at z
        exact z
  exact key l 0 b s rfl (Nat.zero_le _) h0
end
section
variable {prog : Program} {w : World} {A : Around} {E : Value → Shared → Prop} {s : Shared}
/-- iterators of lists, one after the other -/
def Its (h : Heap) (is ls : List Addr) (c : Nat → Nat) : Prop := is.length = ls.length ∧ ∀ j i l, is[j]? = some i → ls[j]? = some l → h.IsListIter i l (c j)
theorem iterAll_lists {ls : List Addr} {Q : List Value → Shared → Prop} (hl : ∀ l ∈ ls, ∃ xs, s.heap.IsList l xs)
    (h : ∀ h' : Heap, Its h' (List.range' s.heap.objs.size ls.length) ls (fun _ => 0) → h'.objs.size = s.heap.objs.size + ls.length → (∀ c o, s.heap.get? c = some o → h'.get? c = some o) →
      Q ((List.range' s.heap.objs.size ls.length).map Value.ref) { s with heap := h' }) :
    wpAny (model prog w) A (Builtin.SmallTypes.iterAll (ls.map Value.ref)) Q E s := by
  unfold Builtin.SmallTypes.iterAll
  refine wpAny_bind ?_
  refine forIn_inv (I := fun k b s' => ∃ h' : Heap, s' = { s with heap := h' } ∧ b = ((List.range' s.heap.objs.size k).map Value.ref).toArray ∧ Its h' (List.range' s.heap.objs.size k) (ls.take k) (fun _ => 0) ∧ h'.objs.size = s.heap.objs.size + k ∧ ∀ c o, s.heap.get? c = some o → h'.get? c = some o)
    ⟨s.heap, rfl, rfl, ⟨rfl, fun j i l e => nomatch e⟩, rfl, fun c o e => e⟩ ?_ ?_
  · rintro k x b s' hx ⟨h', rfl, rfl, it, sz, kp⟩
    rw [List.getElem?_map] at hx
    obtain ⟨l, hx2, rfl⟩ := Option.map_eq_some_iff.mp hx
    obtain ⟨xs, o, ho, r⟩ := hl l (List.mem_of_getElem? hx2)
    have hl' : h'.IsList l xs := ⟨o, kp _ _ ho, r⟩
    refine wpAny_bind (wpAny_holding (wpAny_pyIter_list hl' (wpAny_pure ?_)))
    refine ⟨_, rfl, ?_, ⟨?_, fun j i l' h1 h2 => ?_⟩, ?_, fun c o e => Heap.get?_push_of_some _ (kp c o e)⟩
    · show Array.push _ (Value.ref h'.objs.size) = _
      rw [sz, List.range'_concat, List.map_append]
      simp
    · rw [List.length_range', List.length_take]
      have := (List.getElem?_eq_some_iff.mp hx2).1
      omega
    · have kl := (List.getElem?_eq_some_iff.mp hx2).1
      have jk : j < k + 1 := by
        have := (List.getElem?_eq_some_iff.mp h1).1
        rw [List.length_range'] at this
        exact this
      rw [List.getElem?_range' jk] at h1
      rw [List.getElem?_take, if_pos jk] at h2
      by_cases q : j < k
      · obtain ⟨o2, e1, e2⟩ := it.2 j i l' (by rw [List.getElem?_range' q]; exact h1) (by rw [List.getElem?_take, if_pos q]; exact h2)
        exact ⟨o2, Heap.get?_push_of_some _ e1, e2⟩
      · have e : j = k := by omega
        subst e
        rw [hx2] at h2
        cases h2
        have e2 : i = h'.objs.size := by
          have z := Option.some.inj h1
          rw [sz, ← z, Nat.one_mul]
        rw [e2]
        exact ⟨_, Heap.get?_push_size _ rfl, rfl, rfl⟩
    · show (h'.push _).objs.size = _
      rw [Heap.size_push, sz]
      omega
  · rintro b s' ⟨h', rfl, rfl, it, sz, kp⟩
    refine wpAny_pure ?_
    rw [List.length_map] at it sz ⊢
    rw [List.take_of_length_le (Nat.le_refl _)] at it
    exact h h' it sz kp
/-- nothing of the zip's is another thing of it, or a list -/
structure ApartN (z TI TO : Addr) (is ls : List Addr) : Prop where
  TIz : TI ≠ z
  TOz : TO ≠ z
  TITO : TI ≠ TO
  iz : ∀ i ∈ is, i ≠ z
  iTI : ∀ i ∈ is, i ≠ TI
  iTO : ∀ i ∈ is, i ≠ TO
  nd : is.Nodup
  lz : ∀ l ∈ ls, l ≠ z ∧ l ≠ TO ∧ ∀ i ∈ is, l ≠ i
/-- the zip between two turns, behind c of them -/
structure StN (h : Heap) (z TI TO : Addr) (is ls : List Addr) (c : Nat) : Prop where
  zip : ∃ f0 f1, IsZipN h z TI TO f0 f1 ∧ (f0 = .none ∨ ∃ a : Int, f0 = rawInt a)
  ti : IsTupN h TI (is.map Value.ref).toArray
  to : ∃ vs : Array Value, IsTupN h TO vs ∧ vs.size = is.length
  its : Its h is ls fun _ => c
theorem wpAny_loadIfAlive {M : Model} {a : Addr} {Q : Option Obj → Shared → Prop} (h : Q (s.heap.get? a) s) : wpAny M A (loadIfAlive a) Q E s := by
  intro Γ p _
  unfold loadIfAlive
  rw [Sem.wp_loadIfAlive]
  exact h
theorem free_of {z TI TO : Addr} {f0 f1 : Value} {Q : Bool → Shared → Prop} (hz : IsZipN s.heap z TI TO f0 f1) (hf : f0 = .none ∨ ∃ a : Int, f0 = rawInt a)
    (h : ∀ (b : Bool) (h' : Heap) (f1' : Value), IsZipN h' z TI TO f0 f1' → Heap.SameBut z s.heap h' → Q b { s with heap := h' }) :
    wpAny (model prog w) A (Builtin.SmallTypes.ownedTupleIsFree (.ref z)) Q E s := by
  unfold Builtin.SmallTypes.ownedTupleIsFree
  rcases hf with rfl | ⟨a, rfl⟩
  · exact wpAny_bind (wpAny_field hz rfl (x := .none) rfl (wpAny_pure (h true s.heap f1 hz (Heap.SameBut.refl _ _))))
  · refine wpAny_bind (wpAny_field hz rfl (x := rawInt a) rfl ?_)
    refine wpAny_bind (wpAny_loadIfAlive ?_)
    cases q : s.heap.get? a.toNat with
    | none => exact wpAny_pure (h true s.heap f1 hz (Heap.SameBut.refl _ _))
    | some o =>
      refine wpAny_bind (wpAny_field hz rfl (x := f1) rfl ?_)
      by_cases q : (f1 != Value.bool true) = true
      · simp only [q, if_true]
        refine wpAny_bind (wpAny_setField_rec hz (by simp) fun h₁ hz₁ hs₁ => wpAny_pure (h false h₁ (.bool true) hz₁ hs₁))
      · simp only [q]
        exact wpAny_pure (h false s.heap f1 hz (Heap.SameBut.refl _ _))
/-- what is drawn at turn c -/
def DrawsN (h : Heap) (ls : List Addr) (c : Nat) (ys : List Value) : Prop := ys.length = ls.length ∧ ∀ (j : Nat) (l : Addr), ls[j]? = some l → ∃ (xs : Array Value) (y : Value), h.IsList l xs ∧ xs[c]? = some y ∧ ys[j]? = some y
theorem take_snoc {ys : List Value} {k : Nat} {y : Value} (h : ys[k]? = some y) : (ys.take k).toArray.push y = (ys.take (k + 1)).toArray := by
  rw [List.take_succ, h]
  simp
theorem its_step {h h' : Heap} {is ls : List Addr} {k c : Nat} {i l : Addr} (nd : is.Nodup) (hx : is[k]? = some i) (hl : ls[k]? = some l) (it : ∀ j i l, is[j]? = some i → ls[j]? = some l → h.IsListIter i l (if j < k then c + 1 else c))
    (n : h'.IsListIter i l (c + 1)) (hs : Heap.SameBut i h h') : ∀ j i l, is[j]? = some i → ls[j]? = some l → h'.IsListIter i l (if j < k + 1 then c + 1 else c) := by
  intro j i' l' e1 e2
  by_cases q : j = k
  · subst q
    rw [hx] at e1
    rw [hl] at e2
    cases e1
    cases e2
    rw [if_pos (Nat.lt_succ_self j)]
    exact n
  · have ne : i' ≠ i := fun e => by
      subst e
      obtain ⟨l1, x1⟩ := List.getElem?_eq_some_iff.mp hx
      obtain ⟨l2, x2⟩ := List.getElem?_eq_some_iff.mp e1
      have pw := List.pairwise_iff_getElem.mp (show is.Pairwise (· ≠ ·) from nd)
      rcases Nat.lt_or_gt_of_ne q with r | r
      · exact pw j k l2 l1 r (x2.trans x1.symm)
      · exact pw k j l1 l2 r (x1.trans x2.symm)
    have z := it j i' l' e1 e2
    have e3 : (if j < k + 1 then c + 1 else c) = (if j < k then c + 1 else c) := by
      by_cases r : j < k
      · rw [if_pos r, if_pos (by omega)]
      · rw [if_neg r, if_neg (by omega)]
    rw [e3]
    exact z.extBut hs.extBut ne
theorem its_all {h : Heap} {is ls : List Addr} {c : Nat} (e : is.length = ls.length) (it : ∀ j i l, is[j]? = some i → ls[j]? = some l → h.IsListIter i l (if j < is.length then c + 1 else c)) : Its h is ls fun _ => c + 1 := ⟨e, fun j i l h1 h2 => by
  have z := it j i l h1 h2
  rw [if_pos (List.getElem?_eq_some_iff.mp h1).1] at z
  exact z⟩
theorem list_kept {h h' : Heap} {l : Addr} {xs : Array Value} (hl : h.IsList l xs) (k : ∀ o, h.get? l = some o → h'.get? l = some o) : h'.IsList l xs := by
  obtain ⟨o, ho, r⟩ := hl
  exact ⟨o, k _ ho, r⟩
theorem updateSeq_tup {T : Addr} {us : Array Value} {x : Value} {k : Nat} {Q : Unit → Shared → Prop} (hT : IsTupN s.heap T us) (hz : us.size ≤ 1000)
    (h : ∀ h' : Heap, IsTupN h' T (us.setIfInBounds k x) → Heap.SameBut T s.heap h' → Q () { s with heap := h' }) : wpAny (model prog w) A (updateSeq T (·.setIfInBounds k x)) Q E s := by
  refine wpAny_updateSeq hT rfl (h _ ?_ (Heap.SameBut.update ..)) (by rw [sizeN]; omega) (by rw [Array.size_setIfInBounds, sizeN]; omega)
  show (s.heap.update T _).get? T = _
  rw [Heap.get?_update_self _ hT rfl]
  simp [Obj.mapSeq]
theorem next_item {z TI TO : Addr} {is ls : List Addr} {c : Nat} {ys : List Value} {Q : Fin → Shared → Prop} (D : ApartN z TI TO is ls) (hne : is ≠ []) (small : is.length ≤ 1000) (st : StN s.heap z TI TO is ls c) (hd : DrawsN s.heap ls c ys)
    (hQ : ∀ h' : Heap, StN h' z TI TO is ls (c + 1) → IsTupN h' s.heap.objs.size ys.toArray → h'.objs.size = s.heap.objs.size + 1 → (∀ b o, b ≠ z → b ≠ TO → b ∉ is → s.heap.get? b = some o → h'.get? b = some o) →
      Q (.done (.ret (.ref s.heap.objs.size))) { s with heap := h' }) :
    wpAny (model prog w) A (Builtin.«zip.__next__» ⟨[.ref z], []⟩) Q E s := by
  obtain ⟨⟨f0, f1, hz, hf⟩, hTI, ⟨vs, hTO, vsz⟩, hi⟩ := st
  show wpAny _ _ (field (.ref z) 2 >>= _) _ _ _
  refine wpAny_bind (wpAny_field hz rfl (x := .bool false) rfl ?_)
  show wpAny _ _ (field (.ref z) 3 >>= _) _ _ _
  refine wpAny_bind (wpAny_field hz rfl (x := .ref TI) rfl ?_)
  refine wpAny_bind (wpAny_seqItems hTI rfl ?_)
  have e0 : (is.map Value.ref).toArray.isEmpty = false := by
    cases is with
    | nil => exact absurd rfl hne
    | cons x xs => rfl
  simp only [e0]
  show wpAny _ _ (Builtin.SmallTypes.ownedTupleIsFree (.ref z) >>= _) _ _ _
  refine wpAny_bind (free_of hz hf fun b h' f1' hz' hs' => ?_)
  cases b with
  | false =>
    simp only [Bool.false_eq_true, if_false]
    refine wpAny_bind ?_
    rw [List.forIn_toArray]
    refine forIn_inv (I := fun k b s' => ∃ h2 : Heap, s' = { s with heap := h2 } ∧ b = (none, (ys.take k).toArray) ∧ IsZipN h2 z TI TO f0 f1' ∧ (∀ j i l, is[j]? = some i → ls[j]? = some l → h2.IsListIter i l (if j < k then c + 1 else c)) ∧ h2.objs.size = s.heap.objs.size ∧ ∀ b o, b ≠ z → b ∉ is → s.heap.get? b = some o → h2.get? b = some o)
      ⟨h', rfl, rfl, hz', fun j i l e1 e2 => ?_, hs'.1, fun b o n1 _ e => hs'.extBut _ _ n1 e⟩ ?_ ?_
    · rw [if_neg (Nat.not_lt_zero j)]
      exact (hi.2 j i l e1 e2).extBut hs'.extBut (D.iz i (List.mem_of_getElem? e1))
    · rintro k x b s' hx ⟨h2, rfl, rfl, hz2, it2, sz2, kp2⟩
      rw [List.getElem?_map] at hx
      obtain ⟨i, hx2, rfl⟩ := Option.map_eq_some_iff.mp hx
      have kl := (List.getElem?_eq_some_iff.mp hx2).1
      have hlk : ls[k]? = some (ls[k]'(by have := hi.1; omega)) := List.getElem?_eq_getElem _
      generalize ls[k]'(by have := hi.1; omega) = l at hlk
      obtain ⟨xs, y, l1, l2, l3⟩ := hd.2 k l hlk
      have lm := D.lz l (List.mem_of_getElem? hlk)
      have hit := it2 k i l hx2 hlk
      rw [if_neg (Nat.lt_irrefl k)] at hit
      refine wpAny_bind (wpAny_holding ?_)
      show wpAny _ _ (Builtin.SmallTypes.nextOf (.ref i) >>= _) _ _ _
      refine wpAny_bind (wpAny_nextOf_list_item hit (list_kept l1 fun o e => kp2 l o lm.1 (fun m => lm.2.2 l m rfl) e) l2 fun h3 hi3 hs3 => wpAny_pure ?_)
      refine wpAny_pure ?_
      have im := List.mem_of_getElem? hx2
      refine ⟨h3, rfl, ?_, hs3.extBut _ _ (Ne.symm (D.iz i im)) hz2, its_step D.nd hx2 hlk it2 hi3 hs3, hs3.1.trans sz2, fun b o n1 n2 e => hs3.extBut _ _ (fun q => n2 (q ▸ im)) (kp2 b o n1 n2 e)⟩
      show (none, (ys.take k).toArray.push y) = _
      rw [take_snoc l3]
    · rintro b s' ⟨h2, rfl, rfl, hz2, it2, sz2, kp2⟩
      rw [List.length_map] at it2 ⊢
      rw [List.take_of_length_le (by have := hd.1; have := hi.1; omega)]
      refine wpAny_bind (wpAny_newTuple ?_ (by show ys.length ≤ sizeLine; rw [hd.1, ← hi.1, sizeN]; omega))
      refine wpAny_pure ?_
      have e4 : (ys.toArray.toList).toArray = ys.toArray := rfl
      rw [sz2]
      refine hQ _ ⟨⟨f0, f1', Heap.get?_push_of_some _ hz2, hf⟩, Heap.get?_push_of_some _ (kp2 _ _ D.TIz (fun m => D.iTI _ m rfl) hTI), ⟨vs, Heap.get?_push_of_some _ (kp2 _ _ D.TOz (fun m => D.iTO _ m rfl) hTO), vsz⟩, hi.1, fun j i l e1 e2 => ?_⟩ ?_ ?_ (fun b o n1 n2 n3 e => Heap.get?_push_of_some _ (kp2 b o n1 n3 e))
      · obtain ⟨o, q1, q2⟩ := (its_all hi.1 it2).2 j i l e1 e2
        exact ⟨o, Heap.get?_push_of_some _ q1, q2⟩
      · have z := Heap.get?_push_size h2 (o := { cls := .type "tuple", data := .seq ys.toArray }) rfl
        rw [sz2] at z
        exact z
      · show (h2.push _).objs.size = _
        rw [Heap.size_push, sz2]
  | true =>
    simp only [if_true]
    refine wpAny_bind (wpAny_rule ?_)
    refine wpAny_bind (wpAny_field hz' rfl (x := .ref TO) rfl ?_)
    refine wpAny_bind (wpAny_setField_rec hz' (by simp) fun h₁ hz₁ hs₁ => ?_)
    replace hz₁ : IsZipN h₁ z TI TO .ellipsis f1' := hz₁
    refine wpAny_bind ?_
    have s01 : ∀ b o, b ≠ z → s.heap.get? b = some o → h₁.get? b = some o := fun b o n e => hs₁.extBut _ _ n (hs'.extBut _ _ n e)
    refine forIn_inv (I := fun k b s' => ∃ (h2 : Heap) (us : Array Value), s' = { s with heap := h2 } ∧ b = (none, ()) ∧ IsZipN h2 z TI TO .ellipsis f1' ∧ IsTupN h2 TO us ∧ us.size = is.length ∧ (∀ j, j < k → us[j]? = ys[j]?) ∧ (∀ j i l, is[j]? = some i → ls[j]? = some l → h2.IsListIter i l (if j < k then c + 1 else c)) ∧ h2.objs.size = s.heap.objs.size ∧ ∀ b o, b ≠ z → b ≠ TO → b ∉ is → s.heap.get? b = some o → h2.get? b = some o)
      ⟨h₁, vs, rfl, rfl, hz₁, s01 _ _ D.TOz hTO, vsz, fun j hj => absurd hj (Nat.not_lt_zero j), fun j i l e1 e2 => ?_, hs₁.1.trans hs'.1, fun b o n1 _ _ e => s01 b o n1 e⟩ ?_ ?_
    · rw [if_neg (Nat.not_lt_zero j)]
      obtain ⟨o, q1, q2⟩ := hi.2 j i l e1 e2
      exact ⟨o, s01 _ _ (D.iz i (List.mem_of_getElem? e1)) q1, q2⟩
    · rintro k x b s' hx ⟨h2, us, rfl, rfl, hz2, hTO2, usz, uy, it2, sz2, kp2⟩
      rw [List.getElem?_zipIdx, List.getElem?_map] at hx
      obtain ⟨u, hu, rfl⟩ := Option.map_eq_some_iff.mp hx
      obtain ⟨i, hx2, rfl⟩ := Option.map_eq_some_iff.mp hu
      have kl := (List.getElem?_eq_some_iff.mp hx2).1
      have hlk : ls[k]? = some (ls[k]'(by have := hi.1; omega)) := List.getElem?_eq_getElem _
      generalize ls[k]'(by have := hi.1; omega) = l at hlk
      obtain ⟨xs, y, l1, l2, l3⟩ := hd.2 k l hlk
      have lm := D.lz l (List.mem_of_getElem? hlk)
      have hit := it2 k i l hx2 hlk
      rw [if_neg (Nat.lt_irrefl k)] at hit
      have im := List.mem_of_getElem? hx2
      refine wpAny_bind (wpAny_onRaise ?_)
      show wpAny _ _ (Builtin.SmallTypes.nextOf (.ref i) >>= _) _ _ _
      refine wpAny_bind (wpAny_nextOf_list_item hit (list_kept l1 fun o e => kp2 l o lm.1 lm.2.1 (fun m => lm.2.2 l m rfl) e) l2 fun h3 hi3 hs3 => wpAny_pure ?_)
      have hTO3 : IsTupN h3 TO us := hs3.extBut _ _ (Ne.symm (D.iTO i im)) hTO2
      refine wpAny_bind (wpAny_seqItems hTO3 rfl ?_)
      refine wpAny_bind (updateSeq_tup (s := { s with heap := h3 }) hTO3 (by omega) fun h4 hTO4 hs4 => ?_)
      refine wpAny_bind (wpAny_letGo (wpAny_pure ?_))
      have st3 := its_step D.nd hx2 hlk it2 hi3 hs3
      have ek : 0 + k = k := Nat.zero_add k
      refine ⟨h4, us.setIfInBounds (0 + k) y, rfl, rfl, hs4.extBut _ _ (Ne.symm D.TOz) (hs3.extBut _ _ (Ne.symm (D.iz i im)) hz2), hTO4, by rw [Array.size_setIfInBounds]; exact usz, fun j hj => ?_, fun j i' l' e1 e2 => ?_, hs4.1.trans (hs3.1.trans sz2), fun b o n1 n2 n3 e => hs4.extBut _ _ n2 (hs3.extBut _ _ (fun q => n3 (q ▸ im)) (kp2 b o n1 n2 n3 e))⟩
      · rw [ek, Array.getElem?_setIfInBounds]
        by_cases q : k = j
        · subst q
          rw [if_pos rfl, if_pos (by omega), l3]
        · rw [if_neg q]
          exact uy j (by omega)
      · exact (st3 j i' l' e1 e2).extBut hs4.extBut (D.iTO i' (List.mem_of_getElem? e1))
    · rintro b s' ⟨h2, us, rfl, rfl, hz2, hTO2, usz, uy, it2, sz2, kp2⟩
      rw [List.length_zipIdx, List.length_map] at it2 uy
      have eu : us = ys.toArray := by
        refine Array.ext_getElem? fun j => ?_
        by_cases q : j < is.length
        · rw [uy j q]
          simp
        · have := hd.1
          have := hi.1
          rw [Array.getElem?_eq_none (by omega), Array.getElem?_eq_none (by simp; omega)]
      subst eu
      refine wpAny_bind (wpAny_seqItems hTO2 rfl ?_)
      refine wpAny_bind (wpAny_newTuple ?_ (by show ys.length ≤ sizeLine; rw [hd.1, ← hi.1, sizeN]; omega))
      show wpAny _ _ (Builtin.SmallTypes.ownedTupleHandOut (.ref z) (.ref h2.objs.size) >>= _) _ _ _
      refine wpAny_bind ?_
      unfold Builtin.SmallTypes.ownedTupleHandOut
      have hz₆ : IsZipN (h2.push { cls := .type "tuple", data := .seq ys.toArray }) z TI TO .ellipsis f1' := Heap.get?_push_of_some _ hz2
      refine wpAny_bind (wpAny_setField_rec hz₆ (by simp) fun h₇ hz₇ hs₇ => ?_)
      replace hz₇ : IsZipN h₇ z TI TO (rawInt h2.objs.size) f1' := hz₇
      refine wpAny_setField_rec hz₇ (by simp) fun h₈ hz₈ hs₈ => ?_
      replace hz₈ : IsZipN h₈ z TI TO (rawInt h2.objs.size) (.bool false) := hz₈
      have up : ∀ b o, b ≠ z → h2.get? b = some o → h₈.get? b = some o := fun b o n e => hs₈.extBut _ _ n (hs₇.extBut _ _ n (Heap.get?_push_of_some _ e))
      have zl : z < h2.objs.size := Heap.lt_size hz2
      refine wpAny_pure ?_
      rw [sz2] at hz₈ zl ⊢
      refine hQ h₈ ⟨⟨_, _, hz₈, .inr ⟨_, rfl⟩⟩, up _ _ D.TIz (kp2 _ _ D.TIz D.TITO (fun m => D.iTI _ m rfl) hTI), ⟨_, up _ _ D.TOz hTO2, by rw [List.size_toArray, hd.1, hi.1]⟩, hi.1, fun j i l e1 e2 => ?_⟩ ?_ ?_ (fun b o n1 n2 n3 e => up b o n1 (kp2 b o n1 n2 n3 e))
      · obtain ⟨o, q1, q2⟩ := (its_all hi.1 it2).2 j i l e1 e2
        exact ⟨o, up _ _ (D.iz i (List.mem_of_getElem? e1)) q1, q2⟩
      · have z9 := Heap.get?_push_size h2 (o := { cls := .type "tuple", data := .seq ys.toArray }) rfl
        rw [sz2] at z9
        exact hs₈.extBut _ _ (Nat.ne_of_gt zl) (hs₇.extBut _ _ (Nat.ne_of_gt zl) z9)
      · rw [hs₈.1, hs₇.1, Heap.size_push, sz2]
theorem next_end {z TI TO : Addr} {is ls : List Addr} {c : Nat} {Q : Fin → Shared → Prop} (hh : A.handled = none) (D : ApartN z TI TO is ls) (st : StN s.heap z TI TO is ls c) {l : Addr} {xs : Array Value} (h0 : ls[0]? = some l) (hl : s.heap.IsList l xs) (hx : xs[c]? = none)
    (hE : ∀ h' e, (∀ b o, b ≠ z → b ≠ TO → b ∉ is → s.heap.get? b = some o → h'.get? b = some o) → (∃ o, h'.get? e = some o ∧ o.cls = .type "StopIteration") → E (.ref e) { s with heap := h' }) :
    wpAny (model prog w) A (Builtin.«zip.__next__» ⟨[.ref z], []⟩) Q E s := by
  obtain ⟨⟨f0, f1, hz, hf⟩, hTI, ⟨vs, hTO, vsz⟩, hi⟩ := st
  have hx0 : is[0]? = some (is[0]'(by have := hi.1; have := (List.getElem?_eq_some_iff.mp h0).1; omega)) := List.getElem?_eq_getElem _
  generalize is[0]'(by have := hi.1; have := (List.getElem?_eq_some_iff.mp h0).1; omega) = i at hx0
  have im := List.mem_of_getElem? hx0
  have lm := D.lz l (List.mem_of_getElem? h0)
  have hit := hi.2 0 i l hx0 h0
  obtain ⟨is', eis⟩ : ∃ is', is = i :: is' := by
    cases is with
    | nil => cases hx0
    | cons x r =>
      cases hx0
      exact ⟨r, rfl⟩
  show wpAny _ _ (field (.ref z) 2 >>= _) _ _ _
  refine wpAny_bind (wpAny_field hz rfl (x := .bool false) rfl ?_)
  show wpAny _ _ (field (.ref z) 3 >>= _) _ _ _
  refine wpAny_bind (wpAny_field hz rfl (x := .ref TI) rfl ?_)
  refine wpAny_bind (wpAny_seqItems hTI rfl ?_)
  have e0 : (is.map Value.ref).toArray.isEmpty = false := by
    rw [eis]
    rfl
  simp only [e0]
  show wpAny _ _ (Builtin.SmallTypes.ownedTupleIsFree (.ref z) >>= _) _ _ _
  refine wpAny_bind (free_of hz hf fun b h' f1' hz' hs' => ?_)
  cases b with
  | false =>
    simp only [Bool.false_eq_true, if_false]
    refine wpAny_bind ?_
    rw [List.forIn_toArray]
    conv => arg 3; rw [eis, List.map_cons, List.forIn_cons]
    refine wpAny_bind (wpAny_bind (wpAny_holding ?_))
    show wpAny _ _ (Builtin.SmallTypes.nextOf (.ref i) >>= _) _ _ _
    refine wpAny_bind (wpAny_nextOf_list_end hh (hit.extBut hs'.extBut (D.iz i im)) (hl.extBut hs'.extBut lm.1) hx fun h₂ e hs₂ he => ?_)
    exact hE h₂ e (fun b o n1 n2 n3 q => hs₂ _ _ (fun y => n3 (y ▸ im)) (hs'.extBut _ _ n1 q)) he
  | true =>
    simp only [if_true]
    refine wpAny_bind (wpAny_rule ?_)
    refine wpAny_bind (wpAny_field hz' rfl (x := .ref TO) rfl ?_)
    refine wpAny_bind (wpAny_setField_rec hz' (by simp) fun h₁ hz₁ hs₁ => ?_)
    replace hz₁ : IsZipN h₁ z TI TO .ellipsis f1' := hz₁
    refine wpAny_bind ?_
    conv => arg 3; rw [eis, List.map_cons, List.zipIdx_cons, List.forIn_cons]
    refine wpAny_bind (wpAny_bind (wpAny_onRaise ?_))
    show wpAny _ _ (Builtin.SmallTypes.nextOf (.ref i) >>= _) _ _ _
    refine wpAny_bind (wpAny_nextOf_list_end hh ((hit.extBut hs'.extBut (D.iz i im)).extBut hs₁.extBut (D.iz i im)) ((hl.extBut hs'.extBut lm.1).extBut hs₁.extBut lm.1) hx fun h₂ e hs₂ he => ?_)
    obtain ⟨oe, hoe, hce⟩ := he
    have hz₂ : IsZipN h₂ z TI TO .ellipsis f1' := hs₂ _ _ (Ne.symm (D.iz i im)) hz₁
    have hez : e ≠ z := fun y => by subst y; rw [hz₂] at hoe; cases hoe; simp at hce
    exact wpAny_setField_rec hz₂ (by simp) fun h₃ _ hs₃ => hE h₃ e (fun b o n1 n2 n3 q => hs₃.extBut _ _ n1 (hs₂ _ _ (fun y => n3 (y ▸ im)) (hs₁.extBut _ _ n1 (hs'.extBut _ _ n1 q)))) ⟨oe, hs₃.extBut _ _ hez hoe, hce⟩
theorem pyNext_item {z TI TO : Addr} {is ls : List Addr} {c : Nat} {ys : List Value} {Q : Option Value → Shared → Prop} (D : ApartN z TI TO is ls) (hne : is ≠ []) (small : is.length ≤ 1000) (st : StN s.heap z TI TO is ls c) (hd : DrawsN s.heap ls c ys)
    (hQ : ∀ h' : Heap, StN h' z TI TO is ls (c + 1) → IsTupN h' s.heap.objs.size ys.toArray → h'.objs.size = s.heap.objs.size + 1 → (∀ b o, b ≠ z → b ≠ TO → b ∉ is → s.heap.get? b = some o → h'.get? b = some o) →
      Q (some (.ref s.heap.objs.size)) { s with heap := h' }) :
    wpAny (model prog w) A (pyNext (.ref z)) Q E s := by
  obtain ⟨f0, f1, hz, _⟩ := st.zip
  have hT : s.TypeIs (.ref z) "zip" := ⟨_, hz, rfl⟩
  unfold pyNext
  exact wpAny_bind (wpAny_attempt (wpAny_callSpecial?_slot (name := Str.ofString "__next__") hT F.slot_zip_next
    (wpAny_call_entry F.slot_zip_next hT F.entry_zip_next
      (next_item D hne small st hd fun h' a1 a2 a3 a4 => ⟨_, rfl, wpAny_pure (hQ h' a1 a2 a3 a4)⟩) (F.args_zip_next_1 _))))
theorem pyNext_end {z TI TO : Addr} {is ls : List Addr} {c : Nat} {Q : Option Value → Shared → Prop} (hh : A.handled = none) (D : ApartN z TI TO is ls) (st : StN s.heap z TI TO is ls c) {l : Addr} {xs : Array Value} (h0 : ls[0]? = some l) (hl : s.heap.IsList l xs) (hx : xs[c]? = none)
    (hQ : ∀ h', (∀ b o, b ≠ z → b ≠ TO → b ∉ is → s.heap.get? b = some o → h'.get? b = some o) → Q none { s with heap := h' }) :
    wpAny (model prog w) A (pyNext (.ref z)) Q E s := by
  obtain ⟨f0, f1, hz, _⟩ := st.zip
  have hT : s.TypeIs (.ref z) "zip" := ⟨_, hz, rfl⟩
  unfold pyNext
  refine wpAny_bind (wpAny_attempt (wpAny_callSpecial?_slot (name := Str.ofString "__next__") hT F.slot_zip_next
    (wpAny_call_entry F.slot_zip_next hT F.entry_zip_next (next_end hh D st h0 hl hx fun h' e hk he => ?_) (F.args_zip_next_1 _))))
  obtain ⟨o, ho, hc⟩ := he
  refine wpAny_bind (wpAny_isInstance (T := "StopIteration") (b := true) ⟨o, ho, hc⟩ isSubtype_stop ?_)
  exact wpAny_pure (hQ _ hk)
end
end ZN

set_option Elab.async false
set_option linter.all false
set_option maxRecDepth 100000
set_option maxHeartbeats 4000000
namespace ZN
open PySem
open PySem.Sem (wp)
theorem new_n (ls : List Addr) (small : ls.length ≤ 1000) :
    Meets (Builtin.«zip.__new__» ⟨.type "zip" :: ls.map Value.ref, []⟩) (fun _ R s => (∀ l ∈ ls, ∃ xs, s.heap.IsList l xs) ∧
      ∀ h' : Heap, IsZipN h' (s.heap.objs.size + ls.length + 2) (s.heap.objs.size + ls.length) (s.heap.objs.size + ls.length + 1) .none (.bool false) →
        IsTupN h' (s.heap.objs.size + ls.length) ((List.range' s.heap.objs.size ls.length).map Value.ref).toArray → (∃ vs : Array Value, IsTupN h' (s.heap.objs.size + ls.length + 1) vs ∧ vs.size = ls.length) →
        Its h' (List.range' s.heap.objs.size ls.length) ls (fun _ => 0) → h'.objs.size = s.heap.objs.size + ls.length + 3 → (∀ b o, s.heap.get? b = some o → h'.get? b = some o) →
        R (.ok (.ret (.ref (s.heap.objs.size + ls.length + 2)))) { s with heap := h' }) :=
  .of_wp fun prog w A R s h => by
    obtain ⟨hl, h⟩ := h
    have hsub := sub_zip
    have e : Builtin.SmallTypes.newClass "zip" ⟨.type "zip" :: ls.map Value.ref, []⟩ = pure (.type "zip", ls.map Value.ref) := by
      unfold Builtin.SmallTypes.newClass
      show (isType (Value.type "zip") >>= _) = _
      have e1 : isType (Value.type "zip") = pure true := rfl
      rw [e1]
      show (isSubtype (Value.type "zip") (Value.type "zip") >>= _) = _
      rw [hsub]
      rfl
    show wpAny _ _ (Builtin.SmallTypes.newClass "zip" _ >>= _) _ _ _
    rw [e]
    show wpAny _ _ (Builtin.SmallTypes.iterAll (ls.map Value.ref) >>= _) _ _ _
    refine wpAny_bind (iterAll_lists hl fun h1 it sz kp => ?_)
    refine wpAny_bind (wpAny_newTuple ?_ (by rw [List.length_map, List.length_range', sizeN]; omega))
    refine wpAny_bind (wpAny_newTuple ?_ (by rw [List.length_map, List.length_map, List.length_range', sizeN]; omega))
    unfold Builtin.SmallTypes.newRecord
    refine wpAny_bind (wpAny_newObj_type ?_ (by show 5 ≤ sizeLine + 2; decide))
    refine wpAny_pure ⟨_, rfl, ?_⟩
    obtain ⟨t1, et1⟩ : ∃ t1 : Obj, t1 = { cls := .type "tuple", data := .seq ((List.range' s.heap.objs.size ls.length).map Value.ref).toArray } := ⟨_, rfl⟩
    obtain ⟨t2, et2⟩ : ∃ t2 : Obj, t2 = { cls := .type "tuple", data := .seq (((List.range' s.heap.objs.size ls.length).map Value.ref).map fun _ => Value.none).toArray } := ⟨_, rfl⟩
    show R (.ok (.ret (.ref ((h1.push { cls := .type "tuple", data := .seq ((List.range' s.heap.objs.size ls.length).map Value.ref).toArray }).push { cls := .type "tuple", data := .seq (((List.range' s.heap.objs.size ls.length).map Value.ref).map fun _ => Value.none).toArray }).objs.size)))
      { s with heap := (((h1.push { cls := .type "tuple", data := .seq ((List.range' s.heap.objs.size ls.length).map Value.ref).toArray }).push { cls := .type "tuple", data := .seq (((List.range' s.heap.objs.size ls.length).map Value.ref).map fun _ => Value.none).toArray }).push
        { cls := .type "zip", dict := none, data := .fields #[.none, .bool false, .bool false, .ref h1.objs.size, .ref (h1.push { cls := .type "tuple", data := .seq ((List.range' s.heap.objs.size ls.length).map Value.ref).toArray }).objs.size], slots := #[] }) }
    rw [← et1, ← et2]
    have f1 : t1.isFreed = false := by rw [et1]; rfl
    have f2 : t2.isFreed = false := by rw [et2]; rfl
    have z1 : (h1.push t1).objs.size = s.heap.objs.size + ls.length + 1 := by rw [Heap.size_push, sz]
    have z2 : ((h1.push t1).push t2).objs.size = s.heap.objs.size + ls.length + 2 := by rw [Heap.size_push, z1]
    have g1 := Heap.get?_push_size h1 (o := t1) f1
    have g2 := Heap.get?_push_size (h1.push t1) (o := t2) f2
    have g3 := Heap.get?_push_size ((h1.push t1).push t2) (o := { cls := .type "zip", dict := none, data := .fields #[.none, .bool false, .bool false, .ref h1.objs.size, .ref (h1.push t1).objs.size], slots := #[] }) rfl
    have k1 : ∀ b o, h1.get? b = some o → ((h1.push t1).push t2).get? b = some o := fun b o e => Heap.get?_push_of_some _ (Heap.get?_push_of_some _ e)
    rw [z2, z1, sz] at g3
    rw [sz] at g1
    rw [z1] at g2
    rw [z2, z1, sz]
    refine h _ g3 (Heap.get?_push_of_some _ (Heap.get?_push_of_some _ (by rw [← et1]; exact g1))) ⟨_, Heap.get?_push_of_some _ (g2.trans (congrArg some et2)), ?_⟩ ⟨it.1, fun j i l e1 e2 => ?_⟩ ?_ (fun b o e => Heap.get?_push_of_some _ (k1 _ _ (kp b o e)))
    · simp
    · obtain ⟨o, q1, q2⟩ := it.2 j i l e1 e2
      exact ⟨o, Heap.get?_push_of_some _ (k1 _ _ q1), q2⟩
    · rw [Heap.size_push, z2]
section
variable {prog : Program} {w : World} {A : Around} {E : Value → Shared → Prop} {s : Shared}
theorem call_n {ls : List Addr} {Q : Value → Shared → Prop} (small : ls.length ≤ 1000) (hl : ∀ l ∈ ls, ∃ xs, s.heap.IsList l xs)
    (h : ∀ h' : Heap, StN h' (s.heap.objs.size + ls.length + 2) (s.heap.objs.size + ls.length) (s.heap.objs.size + ls.length + 1) (List.range' s.heap.objs.size ls.length) ls 0 → h'.objs.size = s.heap.objs.size + ls.length + 3 →
      (∀ b o, s.heap.get? b = some o → h'.get? b = some o) → Q (.ref (s.heap.objs.size + ls.length + 2)) { s with heap := h' }) :
    wpAny (model prog w) A (call (.type "zip") (ls.map Value.ref)) Q E s := by
  refine callType_new F.called_zip (by decide) (typeCall_n _) (newCall_n _) (fun obj => args_n obj _) F.entry_zip_new (new_n ls small) ⟨hl, fun h' a1 a2 a3 a4 a5 a6 => ?_⟩
  obtain ⟨vs, a3, a7⟩ := a3
  exact ⟨⟨_, a1, rfl⟩, h h' ⟨⟨_, _, a1, .inl rfl⟩, a2, ⟨vs, a3, by rw [a7, List.length_range']⟩, a4⟩ a5 a6⟩
theorem apart_n {ls : List Addr} {n : Nat} (h : ∀ l ∈ ls, l < n) : ApartN (n + ls.length + 2) (n + ls.length) (n + ls.length + 1) (List.range' n ls.length) ls := by
  have m : ∀ i ∈ List.range' n ls.length, n ≤ i ∧ i < n + ls.length := fun i hi => by
    have z := List.mem_range'_1.mp hi
    exact z
  have ne : ∀ {a b : Nat}, a < b → a ≠ b := fun h e => Nat.lt_irrefl _ (e ▸ h)
  have ne2 : ∀ {a b : Nat}, b < a → a ≠ b := fun h e => Nat.lt_irrefl _ (e ▸ h)
  exact ⟨ne (by omega), ne (by omega), ne (by omega), fun i hi => ne (Nat.lt_of_lt_of_le (m i hi).2 (Nat.le_add_right _ 2)), fun i hi => ne (m i hi).2, fun i hi => ne (Nat.lt_of_lt_of_le (m i hi).2 (Nat.le_add_right _ 1)), List.nodup_range' ..,
    fun l hl => ⟨ne (Nat.lt_of_lt_of_le (h l hl) (Nat.le_trans (Nat.le_add_right n ls.length) (Nat.le_add_right _ 2))), ne (Nat.lt_of_lt_of_le (h l hl) (Nat.le_trans (Nat.le_add_right n ls.length) (Nat.le_add_right _ 1))), fun i hi => ne (Nat.lt_of_lt_of_le (h l hl) (m i hi).1)⟩⟩
end
end ZN

set_option Elab.async false
set_option linter.all false
set_option maxRecDepth 100000
set_option maxHeartbeats 4000000
namespace L2
open PySem PySem.Spec PyProof.Rows
open ZN (ApartN StN IsZipN IsTupN DrawsN)
/-- the lists at as as they stand at each turn, the items in a new tuple -/
def ItzN (K : PySem.W.Frag) (as : List Addr) : It :=
  ⟨fun i H => ∃ ys : List V, ys.length = as.length ∧ ∀ (j : Nat) (a : Addr), as[j]? = some a → ∃ xs y, SqL K H a xs ∧ xs[i]? = some y ∧ ys[j]? = some y,
    fun i H v H' => ∃ T ys, v = .ref T ∧ H T = none ∧ H' = upd H T (.tup ys) ∧ ys.length = as.length ∧ ∀ (j : Nat) (a : Addr) (xs : List V), as[j]? = some a → SqL K H a xs → ys[j]? = xs[i]?,
    fun i H => ∃ a xs, as[0]? = some a ∧ SqL K H a xs ∧ xs.length ≤ i⟩
theorem choose_list {α : Type} (P : Nat → α → Prop) : ∀ n : Nat, (∀ j, j < n → ∃ u, P j u) → ∃ us : List α, us.length = n ∧ ∀ (j : Nat) (u : α), us[j]? = some u → P j u
  | 0, _ => ⟨[], rfl, fun j u e => by cases e⟩
  | n + 1, h => by
    obtain ⟨us, l, k⟩ := choose_list P n fun j hj => h j (Nat.lt_succ_of_lt hj)
    obtain ⟨u, hu⟩ := h n (Nat.lt_succ_self n)
    refine ⟨us ++ [u], by rw [List.length_append, l]; rfl, fun j v e => ?_⟩
    by_cases q : j < n
    · rw [List.getElem?_append_left (by omega)] at e
      exact k j v e
    · have lt := (List.getElem?_eq_some_iff.mp e).1
      rw [List.length_append, l] at lt
      have ej : j = n := by
        have : [u].length = 1 := rfl
        omega
      subst ej
      rw [List.getElem?_append_right (by omega), l, Nat.sub_self] at e
      cases e
      exact hu
theorem vals_at : ∀ {ys : List V} {us : List Value}, ys.length = us.length → (∀ (j : Nat) y u, ys[j]? = some y → us[j]? = some u → RelV y u) → Vals ys us
  | [], [], _, _ => .nil
  | [], _ :: _, h, _ => by cases h
  | _ :: _, [], h, _ => by cases h
  | y :: ys, u :: us, h, k => .cons (k 0 y u rfl rfl) (vals_at (Nat.succ.inj h) fun j y u e1 e2 => k (j + 1) y u e1 e2)
theorem turn_zipN {P : Program} {w : World} {K : PySem.W.Frag} {nm : Str} {tpos : Pos} {as is : List Addr} {z TI TO : Addr} (D : ApartN z TI TO is as) (hne : as ≠ []) (small : as.length ≤ 1000) (hla : is.length = as.length) :
    Turn P w K (.Name nm tpos) (ItzN K as) (z :: TI :: TO :: is) z (fun i h => StN h z TI TO is as i) where
  mem := by simp
  obj := fun i h st c hc => by
    obtain ⟨⟨f0, f1, hz, _⟩, hTI, ⟨vs, hTO, _⟩, hi⟩ := st
    rcases List.mem_cons.mp hc with q | hc
    · rw [q]; exact ⟨_, hz, fun v q => nomatch q⟩
    rcases List.mem_cons.mp hc with q | hc
    · rw [q]; exact ⟨_, hTI, fun v q => nomatch q⟩
    rcases List.mem_cons.mp hc with q | hc
    · rw [q]; exact ⟨_, hTO, fun v q => nomatch q⟩
    obtain ⟨j, hj, e⟩ := List.mem_iff_getElem.mp hc
    obtain ⟨o, e1, _, d1⟩ := hi.2 j c (as[j]'(by rw [← hla]; exact hj)) (by rw [List.getElem?_eq_getElem hj, e]) (List.getElem?_eq_getElem _)
    exact ⟨o, e1, fun v q => by rw [d1] at q; cases q⟩
  keep := fun i h h' st k => by
    obtain ⟨⟨f0, f1, hz, hf⟩, hTI, ⟨vs, hTO, hv⟩, hi⟩ := st
    refine ⟨⟨f0, f1, k z (by simp) _ hz, hf⟩, k TI (by simp) _ hTI, ⟨vs, k TO (by simp) _ hTO, hv⟩, hi.1, fun j a l e1 e2 => ?_⟩
    obtain ⟨o, q1, q2⟩ := hi.2 j a l e1 e2
    exact ⟨o, k a (List.mem_cons_of_mem _ (List.mem_cons_of_mem _ (List.mem_cons_of_mem _ (List.mem_of_getElem? e1)))) _ q1, q2⟩
  item := by
    intro X hP hw hK hc i pins s σ H E I hf st hg
    subst hP hw hK
    obtain ⟨ys, ly, hy⟩ := hg
    obtain ⟨us, lu, hu⟩ := choose_list (fun j u => ∃ a its y, as[j]? = some a ∧ s.heap.IsList a its ∧ its[i]? = some u ∧ ys[j]? = some y ∧ RelV y u) as.length fun j hj => by
      obtain ⟨xs, y, q1, q2, q3⟩ := hy j _ (List.getElem?_eq_getElem hj)
      obtain ⟨its, rv, p, _⟩ := I.list q1
      obtain ⟨u, h1, h2⟩ := rv.get q2
      exact ⟨u, _, its.toArray, y, List.getElem?_eq_getElem hj, p.isList, by simpa using h1, q3, h2⟩
    have rv : Vals ys us := vals_at (by omega) fun j y u e1 e2 => by
      obtain ⟨_, _, y2, _, _, _, e3, r⟩ := hu j u e2
      rw [e1] at e3
      cases e3
      exact r
    have ine : is ≠ [] := fun e => hne (List.length_eq_zero_iff.mp (by rw [← hla, e]; rfl))
    have hd : DrawsN s.heap as i us := ⟨lu, fun j l e => by
      have jl := (List.getElem?_eq_some_iff.mp e).1
      obtain ⟨a, its, y, e1, q1, q2, _, _⟩ := hu j _ (List.getElem?_eq_getElem (by omega))
      rw [e] at e1
      cases e1
      exact ⟨its, _, q1, q2, List.getElem?_eq_getElem _⟩⟩
    have hz : z < s.heap.objs.size := by
      obtain ⟨f0, f1, hz, _⟩ := st.zip
      exact Heap.lt_size hz
    refine ZN.pyNext_item D ine (by omega) st hd fun h' st' hT hsz hk => ?_
    refine ⟨_, rfl, ?_⟩
    unfold letOwnedTupleGo
    refine wpAny_pure ?_
    have new : ObjOk X.prog X.w (upd H s.heap.objs.size (.tup ys)) h' s.heap.objs.size (.tup ys) :=
      ⟨by rw [ly, ZN.sizeN]; omega, us, rv, ⟨_, hT, rfl, _, rfl⟩⟩
    have I1 : Inv X pins σ (upd H s.heap.objs.size (.tup ys)) { s with heap := h' } :=
      I.turnedNew (t' := s.toks) (ch := z :: TI :: TO :: is) (fun c o hb q => hk c o (fun q' => hb (by simp [q'])) (fun q' => hb (by simp [q'])) (fun q' => hb (by simp [q'])) q) hf (Nat.le_refl _) new
    refine ⟨.ref s.heap.objs.size, _, I1, rfl, ⟨_, ys, rfl, I.hok.fresh (Nat.le_refl _), rfl, ly, fun j a xs e hl => ?_⟩, st', fun c hcm => ?_⟩
    · obtain ⟨xs2, y, q1, q2, q3⟩ := hy j a e
      rw [I.list_inj hl q1, q2, q3]
    · have hlt : c < s.heap.objs.size := by
        obtain ⟨o, e, _⟩ := (show ∃ o, s.heap.get? c = some o ∧ True from by
          obtain ⟨⟨f0, f1, hz, _⟩, hTI, ⟨vs, hTO, _⟩, hi⟩ := st
          rcases List.mem_cons.mp hcm with q | hc
          · rw [q]; exact ⟨_, hz, trivial⟩
          rcases List.mem_cons.mp hc with q | hc
          · rw [q]; exact ⟨_, hTI, trivial⟩
          rcases List.mem_cons.mp hc with q | hc
          · rw [q]; exact ⟨_, hTO, trivial⟩
          obtain ⟨j, hj, e⟩ := List.mem_iff_getElem.mp hc
          obtain ⟨o, e1, _⟩ := hi.2 j c (as[j]'(by rw [← hla]; exact hj)) (by rw [List.getElem?_eq_getElem hj, e]) (List.getElem?_eq_getElem _)
          exact ⟨o, e1, trivial⟩)
        exact Heap.lt_size e
      rw [upd_ne (Nat.ne_of_lt hlt)]
      exact (hf c hcm).1
  done := by
    intro X hP hw hK hc i pins s σ H E I hf st hg
    subst hP hw hK
    obtain ⟨a, xs, h0, hq, hend⟩ := hg
    obtain ⟨its, rv, p, _⟩ := I.list hq
    have l1 := rv.length
    exact ZN.pyNext_end (I.ok.hd hc) D st h0 p.isList (by simp; omega) fun h' hk => ⟨rfl, I.turnedL (t' := s.toks) (ch := z :: TI :: TO :: is) (fun c o hb q =>
      hk c o (fun q' => hb (by simp [q'])) (fun q' => hb (by simp [q'])) (fun q' => hb (by simp [q'])) q) hf⟩
  self := fun A i s Q E st h => by
    obtain ⟨f0, f1, hz, _⟩ := st.zip
    have hT : s.TypeIs (.ref z) "zip" := ⟨_, hz, rfl⟩
    refine wpAny_pyIter_slot hT F.slot_zip_iter (wpAny_call_entry F.slot_zip_iter hT F.entry_zip_iter ?_ (F.args_zip_iter_1 _))
    show wpAny _ _ (ret (.ref z)) _ _ s
    exact wpAny_pure ⟨_, rfl, "zip", _, hT, F.slot_zip_next.lookup, h⟩
def iZipN (K : PySem.W.Frag) (te : TE) : TI := fun σ H R => te σ H fun x H1 => ∃ (m : Addr) (as : List Addr), x = .ref m ∧ SqL K H1 m (as.map V.ref) ∧ as ≠ [] ∧ as.length ≤ 1000 ∧ (∀ a ∈ as, ∃ xs, SqL K H1 a xs) ∧ R (ItzN K as) H1
theorem vals_refs' {as : List Addr} : ∀ {us : List Value}, Vals (as.map V.ref) us → us = as.map Value.ref := by
  induction as with
  | nil =>
    intro us r
    cases r
    rfl
  | cons a as ih =>
    intro us r
    cases r with
    | cons h t =>
      cases (show _ = Value.ref a from h)
      rw [ih t]
      rfl
theorem callWith_typeS {M : Model} {A : Around} {E : Value → Shared → Prop} {s : Shared} {T : String} {env : Env} {e : Expr} {p pos : Pos} {Q : Value → Shared → Prop}
    (h : wpAny M A (eval e env) (fun v s₁ => PySem.W.StarOf M A E v (fun vs s₂ => wpAny M A (call (.type T) vs) Q E s₂) s₁) E s) (he : starEach [.Starred e p] env = [(true, eval e env)] := by rfl) :
    wpAny M A (callWith pos (.type T) [] (backTo pos (starEach [.Starred e p] env)) []) Q E s := by
  rw [he]
  refine PySem.W.ks_call (P := fun _ => True) rfl (fun h _ => ⟨.machine, .inr (.inl rfl), PySem.W.Looks.of_pure rfl⟩) (PySem.W.ks_lone ?_)
  refine wpAny_mono h (fun v s1 q => ?_) fun _ _ y => y
  unfold PySem.W.StarOf at q ⊢
  refine wpAny_mono q (fun b s2 ⟨eb, q2⟩ => ⟨eb, wpAny_mono q2 (fun vs s3 q3 => ⟨trivial, q3⟩) fun _ _ y => y⟩) fun _ _ y => y
theorem pi_zipN {X : Cx} {e : Expr} {te : TE} {nm : Str} {p pos spos tpos : Pos} (hg : Gl X "zip") (hm : X.mg "zip" = none) (he : PE X e te)
    (hs : starEach [.Starred e spos] X.env = [(true, eval e X.env)] := by rfl) :
    PI X (.Name nm tpos) (.Call (.Name "zip" p) [.Starred e spos] [] pos) (iZipN X.K te) := by
  refine ⟨fun pins s σ H R I h => ?_⟩
  refine Call_ (ld_blt I hg hm PyProof.Rows.boot_zip (callWith_typeS (thn (he.run pins s σ H _ I h) fun v s1 ⟨y, H1, I1, ry, m, as, ey, hq, hne, small, hal, q⟩ => ?_) hs))
  subst ey
  obtain rfl : v = Value.ref m := ry
  refine StX.star_any I1 (.inr hq) fun us s2 I2 rv => ?_
  rw [vals_refs' rv]
  refine ZN.call_n small (fun l ml => ?_) fun h' st hsz hk => ?_
  · obtain ⟨xs, hx⟩ := hal l ml
    obtain ⟨its, _, p1, _⟩ := I2.list hx
    exact ⟨_, p1.isList⟩
  · have lt : ∀ l ∈ as, l < s2.heap.objs.size := fun l ml => by
      obtain ⟨xs, hx⟩ := hal l ml
      obtain ⟨its, _, p1, _⟩ := I2.list hx
      exact p1.lt
    have I3 : Inv X pins σ H1 { s2 with heap := h' } := I2.kept (t' := s2.toks) hk
    have T := turn_zipN (P := X.prog) (w := X.w) (K := X.K) (nm := nm) (tpos := tpos) (ZN.apart_n lt) hne small (List.length_range' ..)
    refine T.self _ 0 _ _ _ st ⟨_, _, _, _, H1, rfl, I3, T, st, fun c hcm => ?_, q⟩
    have hle : s2.heap.objs.size ≤ c := by
      rcases List.mem_cons.mp hcm with z | hc
      · rw [z]; exact Nat.le_trans (Nat.le_add_right _ _) (Nat.le_add_right _ _)
      rcases List.mem_cons.mp hc with z | hc
      · rw [z]; exact Nat.le_add_right _ _
      rcases List.mem_cons.mp hc with z | hc
      · rw [z]; exact Nat.le_trans (Nat.le_add_right _ _) (Nat.le_add_right _ _)
      exact (List.mem_range'_1.mp hc).1
    exact I2.fpOk hle (I2.hok.fresh hle)
/-- the walk where all lists are as long -/
theorem walk_zipN {K : PySem.W.Frag} {as : List Addr} {L : Nat} (xss : List (List V)) (hne : as ≠ []) (hl : xss.length = as.length) (hL : ∀ xs ∈ xss, xs.length = L) :
    Walk (ItzN K as) L (fun H => ∀ (j : Nat) (a : Addr) (xs : List V), as[j]? = some a → xss[j]? = some xs → SqL K H a xs)
      (fun i H v H' => ∃ T, v = .ref T ∧ H T = none ∧ H' = upd H T (.tup (xss.map fun xs => xs.getD i .non))) where
  goes := fun i H hi hG => by
    refine ⟨xss.map fun xs => xs.getD i .non, by rw [List.length_map, hl], fun j a e => ?_⟩
    have jl := (List.getElem?_eq_some_iff.mp e).1
    have hx : xss[j]? = some (xss[j]'(by omega)) := List.getElem?_eq_getElem _
    refine ⟨_, (xss[j]'(by omega)).getD i .non, hG j a _ e hx, ?_, ?_⟩
    · have z := hL _ (List.mem_of_getElem? hx)
      rw [List.getD_eq_getElem?_getD, List.getElem?_eq_getElem (by omega)]
      rfl
    · rw [List.getElem?_map, hx]
      rfl
  stops := fun H hG => by
    cases as with
    | nil => exact absurd rfl hne
    | cons a as =>
      cases xss with
      | nil => cases hl
      | cons xs xss => exact ⟨a, xs, rfl, hG 0 a xs rfl rfl, Nat.le_of_eq (hL xs List.mem_cons_self)⟩
  yields := fun i H v H' hi hG ⟨T, ys, e1, e2, e3, e4, e5⟩ => by
    refine ⟨T, e1, e2, ?_⟩
    have ey : ys = xss.map fun xs => xs.getD i .non := by
      refine List.ext_getElem? fun j => ?_
      by_cases q : j < as.length
      · have ha : as[j]? = some as[j] := List.getElem?_eq_getElem q
        have hx : xss[j]? = some (xss[j]'(by omega)) := List.getElem?_eq_getElem _
        rw [e5 j _ _ ha (hG j _ _ ha hx), List.getElem?_map, hx]
        have z := hL _ (List.mem_of_getElem? hx)
        rw [List.getElem?_eq_getElem (by omega)]
        show _ = some (List.getD _ _ _)
        rw [List.getD_eq_getElem?_getD, List.getElem?_eq_getElem (by omega)]
        rfl
      · rw [List.getElem?_eq_none (by omega), List.getElem?_eq_none (by rw [List.length_map]; omega)]
    rw [e3, ey]
end L2

set_option Elab.async false
set_option linter.all false
set_option maxRecDepth 100000
set_option maxHeartbeats 4000000
/-! Vb, part 9: columns. -/
namespace L2
namespace Vb
open PySem PySem.Spec PyProof.Rows
abbrev sCols : Stmt := topS 22
abbrev nCols : List Str := ["vectors", "length", "_", "column"]
theorem rws_lists {H : Hp} {as : List Addr} {T : List (List Int)} (h : Rws H as T) {j : Nat} {a : Addr} {xs : List V} (h1 : as[j]? = some a) (h2 : (T.map fun xs => xs.map V.int)[j]? = some xs) : H a = some (.lst xs) := by
  obtain ⟨b, ys, e1, e2, e3, e4, e5⟩ := rws_at h (i := j) (x := .ref a) (by rw [List.getElem?_map, h1]; rfl)
  cases e1
  rw [List.getElem?_map, e4] at h2
  cases h2
  exact e2
theorem col_at {T : List (List Int)} {p : Int} {L k : Nat} (hv : ∀ xs ∈ T, Vc p L xs) (hk : k < L) : ((T.map fun xs => xs.map V.int).map fun xs => xs.getD k .non) = (T.map fun xs => xs.getD k 0).map V.int := by
  rw [List.map_map, List.map_map]
  refine List.map_congr_left fun xs mx => ?_
  show (xs.map V.int).getD k .non = V.int (xs.getD k 0)
  rw [List.getD_eq_getElem?_getD, List.getElem?_map, List.getElem?_eq_getElem (by rw [(hv xs mx).1]; exact hk), List.getD_eq_getElem?_getD, List.getElem?_eq_getElem (by rw [(hv xs mx).1]; exact hk)]
  rfl
section
variable {P : Program} {w : World} {K : PySem.W.Frag} {mg : Str → Option Value} {base : Heap}
def spCols : Sp := fun vs H Q _ => ∃ (m : Addr) (L : Nat) (as : List Addr) (T : List (List Int)) (p : Int), vs = [.ref m, .int (L : Int)] ∧ H m = some (.lst (as.map V.ref)) ∧ Rws H as T ∧ (∀ xs ∈ T, Vc p L xs) ∧ L ≤ 1000 ∧ T.length ≤ 1000 ∧
  ∀ (H' : Hp) (d : Addr) (cs : List Addr), Same H H' → H d = none → H' d = some (.lst (cs.map V.ref)) → Rws H' cs ((List.range L).map fun c => T.map fun xs => xs.getD c 0) → Q (.ref d) H'
theorem scCols : FnScope nCols ["vectors", "length"] (defScope sCols) := ⟨rfl, rfl, rfl, by decide +kernel, rfl, by decide +kernel, by decide +kernel⟩
theorem ok_cols {f : Addr} {fd : FuncData} (F : Fun K "columns_of" "columns_of" sCols f fd) (gR : mg "range" = none) (gZ : mg "zip" = none) (gL : mg "list" = none) : FnOk P w K mg base CX0 1 f fd ["vectors", "length"] spCols := by
  refine F.ok scCols (fun vs H Q E h => ?_) (fun cdv A outer s0 H vs Q E hr h => ?_)
  · obtain ⟨m, L, as, T, p, rfl, _⟩ := h
    rfl
  · obtain ⟨m, L, as, T, p, rfl, hm, hT, hv, hL, tL, want⟩ := h
    have la := hT.len
    refine ⟨_, (pss_cons (ps_if (pt_not (pt_truth (pv 0) (by intro _; rfl)))
        (pss_one (ps_ret (pe_lc (own := [("_", 2)]) (g := (gName 2)) (tt := tYes) rfl scCols.nd (pi_range1 rfl gR (pa_cons (pv 1) pa_nil)) (blkOk_by (N := nCols) (sc := defScope sCols) (by decide +kernel)) (fun _ _ _ _ _ => pg_name (i := 2) scCols.nd rfl (Or.inl rfl)) (fun _ _ _ _ _ => pts_nil) (fun _ _ _ _ _ => (pe_lst pa_nil)))))
        pss_nil)
      (pss_one (ps_ret (pe_slice sl_list (pe_lc (own := [("column", 3)]) (g := (gName 3)) (tt := tYes) (te := tCB (rLO K) (tCons (tVar 3) tNil)) rfl scCols.nd (pi_zipN rfl gZ (pv 0)) (blkOk_by (N := nCols) (sc := defScope sCols) (by decide +kernel)) (fun _ _ _ _ _ => pg_name (i := 3) scCols.nd rfl (Or.inl rfl)) (fun _ _ _ _ _ => pts_nil) (fun _ _ _ _ _ => (pe_callTy call_list_of (by rfl) gL boot_list2 (pa_cons (pv 3) pa_nil)))) po_none (po_some (pv 1)))))), ?_⟩
    have lR : ((List.range L).map fun c => T.map fun xs => xs.getD c 0).length = L := by rw [List.length_map, List.length_range]
    refine ⟨_, rfl, !(as.map V.ref).isEmpty, .inl ⟨_, SqL.of hm, rfl⟩, ?_⟩
    cases T with
    | nil =>
      cases as with
      | cons a as => cases la
      | nil =>
        refine iteT ?_
        refine ⟨_, rfl, (L : Int), rfl, by omega, by omega, ?_⟩
        intro D hD
        rw [Int.toNat_natCast]
        refine lc_range (lo := 0) (n := L) (Grow H D ((List.range L).map fun c => ([] : List (List Int)).map fun xs => xs.getD c 0)) (Grow.start hD) ?_ ?_
        · rintro k H' hk g
          refine ⟨rfl, tyes ?_⟩
          refine ⟨by show 0 ≤ sizeLine; decide, fun d nd => ?_⟩
          obtain ⟨acc, k1, k2, k3⟩ := g.step (row := []) hD (same_new (o := .lst []) nd) nd upd_same (by rw [List.getElem?_map, List.getElem?_range hk]; rfl)
          exact ⟨acc, k1, by rw [k2]; exact size_ok (by omega), k3⟩
        · intro H' g
          obtain ⟨s1, cs, hD1, hcs, fr, lcs⟩ := g.done (by rw [lR]; exact Nat.le_refl _)
          exact want H' D cs s1 hD hD1 hcs
    | cons t T =>
      cases as with
      | nil => cases la
      | cons a as =>
        refine iteF ?_
        refine ⟨_, rfl, m, a :: as, rfl, SqL.of hm, List.cons_ne_nil _ _, by rw [la]; exact tL, fun b mb => ?_, ?_⟩
        · obtain ⟨o, ho⟩ := List.mem_iff_getElem?.mp mb
          obtain ⟨c, ys, e1, e2, _⟩ := rws_at hT (i := o) (x := .ref b) (by rw [List.getElem?_map, ho]; rfl)
          cases e1
          exact ⟨_, SqL.of (show H b = some (.lst (ys.map V.int)) from e2)⟩
        intro D hD
        refine lc_it (walk_zipN (L := L) ((t :: T).map fun xs => xs.map V.int) (List.cons_ne_nil _ _) (by rw [List.length_map, la]) (fun xs mx => ?_)) (Grow H D ((List.range L).map fun c => (t :: T).map fun xs => xs.getD c 0)) (Grow.start hD) (fun i H' _ z j b xs h1 h2 => SqL.of (z.1 _ _ (rws_lists hT h1 h2))) ?_ ?_
        · obtain ⟨ys, my, rfl⟩ := List.mem_map.mp mx
          rw [List.length_map]
          exact (hv ys my).1
        · rintro k x H1 H' hk g ⟨T2, rfl, nT, rfl⟩
          refine ⟨rfl, tyes ?_⟩
          have s2 := same_new (o := .tup (((t :: T).map fun xs => xs.map V.int).map fun xs => xs.getD k .non)) nT
          refine ⟨_, rfl, T2, _, rfl, .inr (SqT.of upd_same), fun l hl => ?_⟩
          have s3 := same_new (o := .lst (((t :: T).map fun xs => xs.map V.int).map fun xs => xs.getD k .non)) hl
          obtain ⟨acc, k1, k2, k3⟩ := g.step (d := l) (row := (t :: T).map fun xs => xs.getD k 0) hD (same_trans s2 s3) (s2.free hl) (by
            show upd _ l _ l = some (.lst (((t :: T).map fun xs => xs.getD k 0).map V.int))
            rw [upd_same, col_at hv hk]) (by rw [List.getElem?_map, List.getElem?_range hk]; rfl)
          exact ⟨acc, k1, by rw [k2]; exact size_ok (by omega), k3⟩
        · intro H' g
          obtain ⟨s1, cs, hD1, hcs, fr, lcs⟩ := g.done (by rw [lR]; exact Nat.le_refl _)
          refine ⟨_, rfl, _, rfl, D, _, rfl, SqL.of hD1, fun q hq => ?_⟩
          rw [cut_take, List.take_of_length_le (by rw [List.length_map, lcs, lR]; exact Nat.le_refl _)]
          have s2 := same_new (o := .lst (cs.map V.ref)) hq
          exact want _ q cs (same_trans s1 s2) (s1.free hq) upd_same (rws_up hcs s2)
end
end Vb
end L2

set_option Elab.async false
set_option linter.all false
set_option maxRecDepth 100000
set_option maxHeartbeats 4000000
/-! Vb, part 7: products and columns. -/
namespace L2
namespace Vb
open PySem PySem.Spec PyProof.Rows
abbrev sProd : Stmt := topS 21
def spProd : Sp := fun vs H Q _ => ∃ (p : Int) (a b : Addr) (xs ys : List Int) (L : Nat), vs = [.int p, .ref a, .ref b] ∧ 2 ≤ p ∧ p ≤ 65537 ∧ Rw H a xs ∧ Rw H b ys ∧ Vc p L xs ∧ Vc p L ys ∧ L ≤ 1000 ∧ ∀ H', Same H H' → Q (.int (dotZ xs ys % p)) H'
section
variable {P : Program} {w : World} {K : PySem.W.Frag} {mg : Str → Option Value} {base : Heap}
theorem scProd : FnScope ["prime", "one", "other", "a", "b"] ["prime", "one", "other"] (defScope sProd) := ⟨rfl, rfl, rfl, by decide +kernel, rfl, by decide +kernel, by decide +kernel⟩
theorem ok_prod {f : Addr} {fd : FuncData} (F : Fun K "product_of" "product_of" sProd f fd) (gS : mg "sum" = none) (gZ : mg "zip" = none) : FnOk P w K mg base CX0 1 f fd ["prime", "one", "other"] spProd := by
  refine F.ok scProd (fun vs H Q E h => ?_) (fun cdv A outer s H vs Q E hr h => ?_)
  · obtain ⟨p, a, b, xs, ys, L, rfl, _⟩ := h
    rfl
  · obtain ⟨p, a, b, xs, ys, L, rfl, p2, p6, ha, hb, vx, vy, hL, want⟩ := h
    have ha : H a = some (.lst (xs.map V.int)) := ha
    have hb : H b = some (.lst (ys.map V.int)) := hb
    refine ⟨_, pss_one (ps_ret (pe_op op_mod (pe_callB (cr_sum rfl) (by rfl) gS boot_sum (pa_cons (pe_lc (own := [("a", 3), ("b", 4)]) (g := gTup K 2 (gCons (gName 3) (gCons (gName 4) gNil))) (te := tOp (rI CMul fun i j => .int (i * j)) (tVar 3) (tVar 4)) (tt := tYes) rfl scProd.nd
      (pi_zip (by rfl) gZ (pa_cons (pv 1) (pa_cons (pv 2) pa_nil)))
      (blkOk_by (N := ["prime", "one", "other", "a", "b"]) (sc := defScope sProd) (by decide +kernel)) (fun _ _ _ _ _ => pg_tup rfl (pgs_cons (pg_name (i := 3) scProd.nd rfl (Or.inl rfl)) (pgs_cons (pg_name (i := 4) scProd.nd rfl (Or.inl rfl)) pgs_nil))) (fun _ _ _ _ _ => pts_nil)
      (fun _ _ _ _ _ => pe_op op_mul (pv 3) (pv 4))) pa_nil)) (pv 0))), ?_⟩
    refine ⟨_, rfl, _, rfl, ?_⟩
    refine ⟨a, b, _, _, rfl, SqL.of ha, SqL.of hb, ?_⟩
    intro D hD
    have la : (xs.map V.int).length = L := by rw [List.length_map, vx.1]
    have lb : (ys.map V.int).length = L := by rw [List.length_map, vy.1]
    refine lc_it (walk_zip (n := L) (by rw [la, lb, Nat.min_self])) (fun k H' => Same H H' ∧ H' D = some (.lst (((List.zipWith (· * ·) xs ys).take k).map V.int))) ⟨same_new hD, upd_same⟩ (fun i H' _ z => ⟨SqL.of (z.1 _ _ ha), SqL.of (z.1 _ _ hb)⟩) ?_ ?_
    · rintro k x H1 H' hk ⟨sm, hDl⟩ ⟨T, x1, x2, rfl, nT, rfl, e1, e2⟩
      obtain ⟨m, rfl, mm, hm⟩ := mem_ints e1
      obtain ⟨n, rfl, mn, hn⟩ := mem_ints e2
      obtain ⟨m0, m1⟩ := vx.2 m mm
      have nTD : T ≠ D := fun z => by
        rw [z, hDl] at nT
        cases nT
      refine ⟨T, _, rfl, SqT.of upd_same, rfl, _, _, rfl, ?_⟩
      refine ⟨_, _, rfl, rfl, rfl, tyes ?_⟩
      refine ⟨_, rfl, _, rfl, m, n, rfl, rfl, .inl ⟨by omega, by omega⟩, ?_⟩
      have hz : (List.zipWith (· * ·) xs ys)[k]? = some (m * n) := by
        rw [List.getElem?_zipWith, hm, hn]
      refine ⟨_, (upd_ne (Ne.symm nTD)).trans hDl, by rw [List.length_map, List.length_take, sizeLine_eq]; omega, same_set (same_trans sm (same_new nT)) hD, ?_⟩
      rw [upd_same, List.take_succ, hz, List.map_append]
      rfl
    · rintro H' ⟨sm, hDl⟩
      have lz : (List.zipWith (· * ·) xs ys).length ≤ L := by rw [List.length_zipWith, vx.1, vy.1]; omega
      rw [List.take_of_length_le lz] at hDl
      refine ⟨D, _, rfl, SqL.of hDl, ?_⟩
      exact ⟨_, rfl, _, _, rfl, rfl, (by show (0 : Int) < p; omega), want H' sm⟩
end
end Vb
end L2

set_option Elab.async false
set_option linter.all false
set_option maxRecDepth 100000
set_option maxHeartbeats 4000000
/-! Vb, part 11: inverse, combined. -/
namespace L2
namespace Vb
open PySem PySem.Spec PyProof.Rows
abbrev sReqV : Stmt := topS 33
abbrev sReqS : Stmt := topS 34
abbrev sInv : Stmt := topS 35
section
variable {P : Program} {w : World} {K : PySem.W.Frag} {mg : Str → Option Value} {base : Heap}
def spReqV : Sp := fun vs H Q _ => ∃ (p : Int) (m : Addr) (as : List Addr) (T : List (List Int)) (L : Nat), vs = [.int p, .ref m] ∧ H m = some (.lst (as.map V.ref)) ∧ Rws H as T ∧ (∀ xs ∈ T, Vc p L xs) ∧ L ≤ 1000 ∧ T.length ≤ 1000 ∧ ∀ H', Same H H' → Q .non H'
theorem scReqV : FnScope ["prime", "vectors"] ["prime", "vectors"] (defScope sReqV) := ⟨rfl, rfl, rfl, by decide +kernel, rfl, by decide +kernel, by decide +kernel⟩
theorem ok_reqV {f fV : Addr} {fd fdV : FuncData} (F : Fun K "require_vectors" "require_vectors" sReqV f fd) (FV : Fun K "is_vectors" "is_vectors" sVectors fV fdV) (GV : FnOk P w K mg base CX0 4 fV fdV ["prime", "value"] spVectors) (gV : mg "is_vectors" = some (.ref fV)) :
    FnOk P w K mg base CX0 5 f fd ["prime", "vectors"] spReqV := by
  have bV : Binds K fdV ["prime", "value"] [] := FV.binds fun _ _ _ _ _ _ us hl => match us, hl with | [_, _], _ => rfl
  refine F.ok scReqV (fun vs H Q E h => ?_) (fun cdv A outer s H vs Q E hr h => ?_)
  · obtain ⟨p, m, as, T, L, rfl, _⟩ := h
    rfl
  · obtain ⟨p, m, as, T, L, rfl, hm, hT, hv, hL, tL, want⟩ := h
    refine ⟨_, pss_one (ps_if (pt_not (pt_val (pe_call GV hr rfl gV FV.kp bV .nil pass0 (pa_cons (pv 0) (pa_cons (pv 1) pa_nil))))) pss_never pss_nil), ?_⟩
    exact ⟨_, rfl, _, rfl, p, m, as, T, L, rfl, hm, hT, hv, hL, tL, fun H' sm => ⟨_, rfl, iteF (want H' sm)⟩⟩
def spReqS : Sp := fun vs H Q _ => ∃ (p : Int) (m : Addr) (as : List Addr) (T : List (List Int)) (L : Nat), vs = [.int p, .ref m] ∧ H m = some (.lst (as.map V.ref)) ∧ Rws H as T ∧ (∀ xs ∈ T, Vc p L xs) ∧ L ≤ 1000 ∧ T.length ≤ 1000 ∧ 0 < T.length ∧ ∀ H', Same H H' → Q .non H'
theorem scReqS : FnScope ["prime", "vectors"] ["prime", "vectors"] (defScope sReqS) := ⟨rfl, rfl, rfl, by decide +kernel, rfl, by decide +kernel, by decide +kernel⟩
theorem ok_reqS {f fV : Addr} {fd fdV : FuncData} (F : Fun K "require_some_vectors" "require_some_vectors" sReqS f fd) (FV : Fun K "is_vectors" "is_vectors" sVectors fV fdV) (GV : FnOk P w K mg base CX0 4 fV fdV ["prime", "value"] spVectors) (gV : mg "is_vectors" = some (.ref fV)) :
    FnOk P w K mg base CX0 5 f fd ["prime", "vectors"] spReqS := by
  have bV : Binds K fdV ["prime", "value"] [] := FV.binds fun _ _ _ _ _ _ us hl => match us, hl with | [_, _], _ => rfl
  refine F.ok scReqS (fun vs H Q E h => ?_) (fun cdv A outer s H vs Q E hr h => ?_)
  · obtain ⟨p, m, as, T, L, rfl, _⟩ := h
    rfl
  · obtain ⟨p, m, as, T, L, rfl, hm, hT, hv, hL, tL, t0, want⟩ := h
    refine ⟨_, pss_one (ps_if (PW.pt (pw_or (pt_not (pt_val (pe_call GV hr rfl gV FV.kp bV .nil pass0 (pa_cons (pv 0) (pa_cons (pv 1) pa_nil))))) (pw_or1 (pt_not (pt_truth (pv 1) (by intro _; rfl)))))) pss_never pss_nil), ?_⟩
    refine ⟨_, rfl, _, rfl, p, m, as, T, L, rfl, hm, hT, hv, hL, tL, fun H' sm => ⟨_, rfl, iteF ?_⟩⟩
    have hm2 : H' m = some (.lst (as.map V.ref)) := sm _ _ hm
    refine ⟨_, rfl, true, .inl ⟨_, SqL.of hm2, ?_⟩, iteF (want H' sm)⟩
    have la := hT.len
    cases as with
    | nil => exact absurd (show (0 : Nat) = T.length from la) (by omega)
    | cons a as => rfl
def spInv : Sp := fun vs H Q _ => ∃ p a : Nat, vs = [.int (p : Int), .int (a : Int)] ∧ (p : Int) ∈ goods ∧ 0 < a ∧ a < p ∧ ∀ H', Same H H' → Q (.int ((a ^ (p - 2) % p : Nat) : Int)) H'
theorem scInv : FnScope ["prime", "number"] ["prime", "number"] (defScope sInv) := ⟨rfl, rfl, rfl, by decide +kernel, rfl, by decide +kernel, by decide +kernel⟩
theorem ok_inv {f fR fF fI : Addr} {fd fdR fdF fdI : FuncData} (F : Fun K "inverse" "inverse" sInv f fd) (FR : Fun K "require_prime" "require_prime" sReqP fR fdR) (GR : FnOk P w K mg base CX0 2 fR fdR ["prime"] spReqP) (gR : mg "require_prime" = some (.ref fR))
    (FF : Fun K "is_factor" "is_factor" sFactor fF fdF) (GF : FnOk P w K mg base CX0 3 fF fdF ["prime", "value"] spFactor) (gF : mg "is_factor" = some (.ref fF)) (FI : Fun K "inverse_of" "inverse_of" sInvOf fI fdI) (GI : FnOk P w K mg base CX0 1 fI fdI ["prime", "number"] spInvOf) (gI : mg "inverse_of" = some (.ref fI)) :
    FnOk P w K mg base CX0 4 f fd ["prime", "number"] spInv := by
  have bR : Binds K fdR ["prime"] [] := FR.binds fun _ _ _ _ _ _ us hl => match us, hl with | [_], _ => rfl
  have bF : Binds K fdF ["prime", "value"] [] := FF.binds fun _ _ _ _ _ _ us hl => match us, hl with | [_, _], _ => rfl
  have bI : Binds K fdI ["prime", "number"] [] := FI.binds fun _ _ _ _ _ _ us hl => match us, hl with | [_, _], _ => rfl
  refine F.ok scInv (fun vs H Q E h => ?_) (fun cdv A outer s H vs Q E hr h => ?_)
  · obtain ⟨p, a, rfl, _⟩ := h
    rfl
  · obtain ⟨p, a, rfl, mp, a0, ap, want⟩ := h
    obtain ⟨q2, q6, pr⟩ := good_prm mp
    refine ⟨_, pss_cons (ps_expr (pe_call GR (hr.mono (by decide)) rfl gR FR.kp bR .nil pass0 (pa_cons (pv 0) pa_nil)))
      (pss_cons (ps_if (pt_not (pt_val (pe_call GF hr rfl gF FF.kp bF .nil pass0 (pa_cons (pv 0) (pa_cons (pv 1) pa_nil))))) pss_never pss_nil)
      (pss_one (ps_ret (pe_call GI (hr.mono (by decide)) rfl gI FI.kp bI .nil pass0 (pa_cons (pv 0) (pa_cons (pv 1) pa_nil)))))), ?_⟩
    refine ⟨_, rfl, _, rfl, mp, fun H' sm => ?_⟩
    refine ⟨_, rfl, _, rfl, (p : Int), (a : Int), rfl, by omega, by omega, _, rfl, iteF ?_⟩
    exact ⟨_, rfl, _, rfl, p, a, rfl, q2, q6, pr, a0, ap, fun H2 s2 => want H2 (same_trans sm s2)⟩
end
end Vb
end L2

set_option Elab.async false
set_option linter.all false
set_option maxRecDepth 100000
set_option maxHeartbeats 4000000
/-! Vb, part 12: combined. -/
namespace L2
namespace Vb
open PySem PySem.Spec PyProof.Rows
abbrev sComb : Stmt := topS 36
section
variable {P : Program} {w : World} {K : PySem.W.Frag} {mg : Str → Option Value} {base : Heap}
def spComb : Sp := fun vs H Q _ => ∃ (p : Int) (m b : Addr) (L : Nat) (as : List Addr) (T : List (List Int)) (fs : List Int), vs = [.int p, .ref m, .ref b] ∧ p ∈ goods ∧ H m = some (.lst (as.map V.ref)) ∧ Rws H as T ∧ (∀ xs ∈ T, Vc p L xs) ∧ Rw H b fs ∧ Vc p T.length fs ∧ L ≤ 1000 ∧ T.length ≤ 1000 ∧ 0 < T.length ∧
  ∀ (H' : Hp) (d : Addr), Same H H' → H d = none → Rw H' d (addZ p T fs L) → Q (.ref d) H'
theorem scComb : FnScope ["prime", "vectors", "factors"] ["prime", "vectors", "factors"] (defScope sComb) := ⟨rfl, rfl, rfl, by decide +kernel, rfl, by decide +kernel, by decide +kernel⟩
theorem ok_comb {f fR fS fO fA : Addr} {fd fdR fdS fdO fdA : FuncData} (F : Fun K "combined" "combined" sComb f fd) (FR : Fun K "require_prime" "require_prime" sReqP fR fdR) (GR : FnOk P w K mg base CX0 2 fR fdR ["prime"] spReqP) (gR : mg "require_prime" = some (.ref fR))
    (FS : Fun K "require_some_vectors" "require_some_vectors" sReqS fS fdS) (GS : FnOk P w K mg base CX0 5 fS fdS ["prime", "vectors"] spReqS) (gS : mg "require_some_vectors" = some (.ref fS))
    (FO : Fun K "is_vector_of" "is_vector_of" sVectorOf fO fdO) (GO : FnOk P w K mg base CX0 4 fO fdO ["prime", "value", "length"] spVectorOf) (gO : mg "is_vector_of" = some (.ref fO))
    (FA : Fun K "added_up" "added_up" sAdd fA fdA) (GA : FnOk P w K mg base CX0 1 fA fdA ["prime", "vectors", "factors", "length"] spAdd) (gA : mg "added_up" = some (.ref fA)) (gN : mg "len" = none) :
    FnOk P w K mg base CX0 6 f fd ["prime", "vectors", "factors"] spComb := by
  have bR : Binds K fdR ["prime"] [] := FR.binds fun _ _ _ _ _ _ us hl => match us, hl with | [_], _ => rfl
  have bS : Binds K fdS ["prime", "vectors"] [] := FS.binds fun _ _ _ _ _ _ us hl => match us, hl with | [_, _], _ => rfl
  have bO : Binds K fdO ["prime", "value", "length"] [] := FO.binds fun _ _ _ _ _ _ us hl => match us, hl with | [_, _, _], _ => rfl
  have bA : Binds K fdA ["prime", "vectors", "factors", "length"] [] := FA.binds fun _ _ _ _ _ _ us hl => match us, hl with | [_, _, _, _], _ => rfl
  refine F.ok scComb (fun vs H Q E h => ?_) (fun cdv A outer s H vs Q E hr h => ?_)
  · obtain ⟨p, m, b, L, as, T, fs, rfl, _⟩ := h
    rfl
  · obtain ⟨p, m, b, L, as, T, fs, rfl, mp, hm, hT, hv, hb, hf, hL, tL, t0, want⟩ := h
    obtain ⟨q2, q6, _⟩ := good_facts _ mp
    have la := hT.len
    refine ⟨_, pss_cons (ps_expr (pe_call GR (hr.mono (by decide)) rfl gR FR.kp bR .nil pass0 (pa_cons (pv 0) pa_nil)))
      (pss_cons (ps_expr (pe_call GS hr rfl gS FS.kp bS .nil pass0 (pa_cons (pv 0) (pa_cons (pv 1) pa_nil))))
      (pss_cons (ps_if (pt_not (pt_val (pe_call GO (hr.mono (by decide)) rfl gO FO.kp bO .nil pass0 (pa_cons (pv 0) (pa_cons (pv 2) (pa_cons (pe_callB call_len_seq (by rfl) gN PySem.boot_len (pa_cons (pv 1) pa_nil)) pa_nil)))))) pss_never pss_nil)
      (pss_one (ps_ret (pe_call GA (hr.mono (by decide)) rfl gA FA.kp bA .nil pass0 (pa_cons (pv 0) (pa_cons (pv 1) (pa_cons (pv 2) (pa_cons (pe_callB call_len_seq (by rfl) gN PySem.boot_len (pa_cons (pe_ix ix_list (pv 1) pe_int (fun _ _ => rfl)) pa_nil)) pa_nil)))))))) ), ?_⟩
    refine ⟨_, rfl, p, rfl, mp, fun H1 s1 => ?_⟩
    have up : ∀ {H' : Hp}, Same H H' → Rws H' as T := fun sm => hT.mono fun b _ o e => sm _ _ e
    refine ⟨_, rfl, _, rfl, p, m, as, T, L, rfl, s1 _ _ hm, up s1, hv, hL, tL, t0, fun H2 s2 => ?_⟩
    have s12 := same_trans s1 s2
    refine ⟨_, rfl, _, rfl, _, rfl, m, _, rfl, .inl (SqL.of (s12 _ _ hm)), p, b, fs, T.length, ?_, s12 _ _ hb, hf, tL, fun H3 s3 => ⟨_, rfl, iteF ?_⟩⟩
    · rw [List.length_map, la]
      rfl
    have s13 := same_trans s12 s3
    have hx : (as.map V.ref)[0]? = some ((as.map V.ref)[0]'(by rw [List.length_map]; omega)) := List.getElem?_eq_getElem _
    obtain ⟨b0, xs0, e0, hb0, m0, _, _⟩ := rws_at hT hx
    refine ⟨_, rfl, _, rfl, _, rfl, _, rfl, m, _, 0, _, rfl, rfl, SqL.of (s13 _ _ hm), atI_nat (j := 0) hx, ?_⟩
    rw [e0]
    refine ⟨b0, _, rfl, .inl (SqL.of (s13 _ _ hb0)), p, m, b, L, as, T, fs, ?_, q2, q6, s13 _ _ hm, up s13, hv, s13 _ _ hb, hf, hL, tL, fun H4 d s4 nd hd => want H4 d (same_trans s13 s4) (s13.free nd) hd⟩
    rw [List.length_map, (hv xs0 m0).1]
    rfl
end
end Vb
end L2

set_option Elab.async false
set_option linter.all false
set_option maxRecDepth 100000
set_option maxHeartbeats 4000000
/-! Vb, part 13: a place cleared. -/
namespace L2
namespace Vb
open PySem PySem.Spec PyProof.Rows
open LinA (scaleZ lessZ)
abbrev sClear : Stmt := topS 25
/-- row i is scaled by s, all others lose their number at c -/
def midZ (p : Nat) (l : List Int) (i c k : Nat) (T : List (List Int)) : List (List Int) := T.mapIdx fun j xs => if j = i then l else if j < k then lessZ p l c xs else xs
def invN (p : Nat) (T : List (List Int)) (i c : Nat) : Int := (((at_ T i c).toNat ^ (p - 2) % p : Nat) : Int)
def leadZ (p : Nat) (T : List (List Int)) (i c : Nat) : List Int := scaleZ p (invN p T i c) (T.getD i [])
/-- all but m stands -/
def But (m : Addr) (H H' : Hp) : Prop := ∀ b, b ≠ m → ∀ o, H b = some o → H' b = some o
theorem but_same {m : Addr} {H H' : Hp} (h : Same H H') : But m H H' := fun b _ o e => h b o e
theorem But.trans {m : Addr} {H H1 H2 : Hp} (h : But m H H1) (k : But m H1 H2) : But m H H2 := fun b n o e => k b n o (h b n o e)
theorem but_upd {m : Addr} {H : Hp} {o : HO} : But m H (upd H m o) := fun b n u e => (upd_ne n).trans e
theorem rws_ne {H : Hp} {m : Addr} {as : List Addr} {T : List (List Int)} (hm : H m = some (.lst (as.map V.ref))) (hT : Rws H as T) : ∀ b ∈ as, b ≠ m := by
  intro b mb e
  subst e
  have key : ∀ {bs : List Addr} {U : List (List Int)}, Rws H bs U → b ∈ bs → ∃ xs : List Int, H b = some (.lst (xs.map V.int)) := by
    intro bs U h
    induction h with
    | nil => exact fun z => (List.not_mem_nil z).elim
    | cons p _ ih =>
      intro z
      rcases List.mem_cons.mp z with q | q
      · rw [q]
        exact ⟨_, p⟩
      · exact ih q
  obtain ⟨xs, hx⟩ := key hT mb
  rw [hm] at hx
  have e2 : as.map V.ref = xs.map V.int := by
    injection hx with z
    injection z
  cases as with
  | nil => cases mb
  | cons a as =>
    cases xs with
    | nil => cases e2
    | cons x xs =>
      injection e2 with z1 z2
      cases z1
theorem rws_but {H H' : Hp} {m : Addr} {as : List Addr} {T : List (List Int)} (hT : Rws H as T) (n : ∀ b ∈ as, b ≠ m) (h : But m H H') : Rws H' as T := hT.mono fun b mb o e => h b (n b mb) o e
theorem rws_set {H : Hp} {as : List Addr} {T : List (List Int)} (h : Rws H as T) (i : Nat) {a : Addr} {xs : List Int} (r : Rw H a xs) : Rws H (as.set i a) (T.set i xs) := by
  induction h generalizing i with
  | nil => exact .nil
  | cons p ps ih =>
    cases i with
    | zero => exact .cons r ps
    | succ i => exact .cons p (ih i)
theorem rws_get {H : Hp} {as : List Addr} {T : List (List Int)} (h : Rws H as T) {i : Nat} (hi : i < T.length) : ∃ b, (as.map V.ref)[i]? = some (V.ref b) ∧ Rw H b (T.getD i []) ∧ T.getD i [] ∈ T := by
  have hx : (as.map V.ref)[i]? = some ((as.map V.ref)[i]'(by rw [List.length_map, h.len]; exact hi)) := List.getElem?_eq_getElem _
  obtain ⟨b, xs, e1, hb, mx, ht, _⟩ := rws_at h hx
  have e : T.getD i [] = xs := by rw [List.getD_eq_getElem?_getD, ht]; rfl
  rw [e]
  rw [e1] at hx
  exact ⟨b, hx, hb, mx⟩
theorem int_get {xs : List Int} {c L : Nat} (h : xs.length = L) (hc : c < L) : (xs.map V.int)[c]? = some (V.int (xs.getD c 0)) := by
  rw [List.getElem?_map, List.getD_eq_getElem?_getD, List.getElem?_eq_getElem (by omega)]
  rfl
theorem ixN_nat {n j : Nat} (h : j < n) : ixN n (j : Int) = some j := by
  unfold ixN
  rw [if_pos (by omega), if_pos (by omega), Int.toNat_natCast]
section
variable {p : Nat} {l : List Int} {i c : Nat}
theorem mid_len (k : Nat) (T : List (List Int)) : (midZ p l i c k T).length = T.length := List.length_mapIdx
theorem mid_get (k : Nat) (T : List (List Int)) (j : Nat) (hj : j < T.length) : (midZ p l i c k T)[j]? = some (if j = i then l else if j < k then lessZ p l c (T.getD j []) else T.getD j []) := by
  unfold midZ
  rw [List.getElem?_mapIdx, List.getElem?_eq_getElem hj, List.getD_eq_getElem?_getD, List.getElem?_eq_getElem hj]
  rfl
theorem mid_zero {T : List (List Int)} (hi : i < T.length) : midZ p l i c 0 T = T.set i l := by
  refine List.ext_getElem? fun j => ?_
  by_cases hj : j < T.length
  · rw [mid_get 0 T j hj, List.getElem?_set, List.getElem?_eq_getElem hj, List.getD_eq_getElem?_getD, List.getElem?_eq_getElem hj]
    by_cases e : i = j
    · subst e
      rw [if_pos rfl, if_pos rfl, if_pos hj]
    · rw [if_neg e, if_neg (Ne.symm e), if_neg (Nat.not_lt_zero j)]
      rfl
  · rw [List.getElem?_eq_none (by rw [mid_len]; omega), List.getElem?_eq_none (by rw [List.length_set]; omega)]
theorem mid_same {k : Nat} {T : List (List Int)} (h : k = i ∨ lessZ p l c (T.getD k []) = T.getD k []) (hk : k < T.length) : midZ p l i c (k + 1) T = midZ p l i c k T := by
  refine List.ext_getElem? fun j => ?_
  by_cases hj : j < T.length
  · rw [mid_get _ T j hj, mid_get _ T j hj]
    by_cases e : j = i
    · rw [if_pos e, if_pos e]
    · rw [if_neg e, if_neg e]
      by_cases q : j = k
      · subst q
        rw [if_pos (Nat.lt_succ_self j), if_neg (Nat.lt_irrefl j)]
        rcases h with h | h
        · exact absurd h e
        · rw [h]
      · by_cases r : j < k
        · rw [if_pos r, if_pos (Nat.lt_succ_of_lt r)]
        · rw [if_neg r, if_neg (by omega)]
  · rw [List.getElem?_eq_none (by rw [mid_len]; omega), List.getElem?_eq_none (by rw [mid_len]; omega)]
theorem mid_next {k : Nat} {T : List (List Int)} (h : k ≠ i) (hk : k < T.length) : midZ p l i c (k + 1) T = (midZ p l i c k T).set k (lessZ p l c (T.getD k [])) := by
  refine List.ext_getElem? fun j => ?_
  by_cases hj : j < T.length
  · rw [mid_get _ T j hj, List.getElem?_set, mid_get _ T j hj, mid_len]
    by_cases q : k = j
    · subst q
      rw [if_neg h, if_pos (Nat.lt_succ_self k), if_pos rfl, if_pos hk]
    · rw [if_neg q]
      by_cases e : j = i
      · rw [if_pos e, if_pos e]
      · rw [if_neg e, if_neg e]
        by_cases r : j < k
        · rw [if_pos r, if_pos (Nat.lt_succ_of_lt r)]
        · rw [if_neg r, if_neg (by omega)]
  · rw [List.getElem?_eq_none (by rw [mid_len]; omega), List.getElem?_eq_none (by rw [List.length_set, mid_len]; omega)]
end
section
variable {P : Program} {w : World} {K : PySem.W.Frag} {mg : Str → Option Value} {base : Heap}
def spClear : Sp := fun vs H Q _ => ∃ (p : Nat) (m : Addr) (i c L : Nat) (as : List Addr) (T : List (List Int)), vs = [.int (p : Int), .ref m, .int (i : Int), .int (c : Int)] ∧ 2 ≤ p ∧ p ≤ 65537 ∧ Prm p ∧ H m = some (.lst (as.map V.ref)) ∧ Rws H as T ∧ (∀ xs ∈ T, Vc (p : Int) L xs) ∧ i < T.length ∧ c < L ∧ at_ T i c ≠ 0 ∧ L ≤ 1000 ∧ T.length ≤ 1000 ∧
  ∀ (H' : Hp) (as' : List Addr), But m H H' → H' m = some (.lst (as'.map V.ref)) → Rws H' as' (midZ p (leadZ p T i c) i c T.length T) → (∀ b ∈ as', b ∈ as ∨ H b = none) → Q .non H'
theorem one_pow {p : Nat} (p2 : 2 ≤ p) : (1 ^ (p - 2) % p : Nat) = 1 := by
  rw [Nat.one_pow]
  exact Nat.mod_eq_of_lt (by omega)
theorem lead_one {p : Nat} {T : List (List Int)} {i c : Nat} (p2 : 2 ≤ p) (h : at_ T i c = 1) (hv : ∀ n ∈ T.getD i [], 0 ≤ n ∧ n < (p : Int)) : leadZ p T i c = T.getD i [] := by
  unfold leadZ invN
  rw [h]
  show scaleZ p ((((1 : Int).toNat ^ (p - 2) % p : Nat) : Int)) (T.getD i []) = _
  have e : ((1 : Int).toNat) = 1 := rfl
  rw [e, one_pow p2]
  unfold scaleZ
  have z : ∀ xs : List Int, (∀ n ∈ xs, 0 ≤ n ∧ n < (p : Int)) → xs.map (fun n => n * ((1 : Nat) : Int) % (p : Int)) = xs := by
    intro xs hx
    induction xs with
    | nil => rfl
    | cons x xs ih =>
      obtain ⟨x0, x1⟩ := hx x List.mem_cons_self
      rw [List.map_cons, ih fun n m => hx n (List.mem_cons_of_mem _ m)]
      have e2 : x * ((1 : Nat) : Int) % (p : Int) = x := by
        have e3 : ((1 : Nat) : Int) = 1 := rfl
        rw [e3, Int.mul_one]
        exact Int.emod_eq_of_lt x0 x1
      rw [e2]
  exact z _ hv
theorem set_same {T : List (List Int)} {i : Nat} (h : i < T.length) : T.set i (T.getD i []) = T := by
  refine List.ext_getElem? fun j => ?_
  rw [List.getElem?_set]
  by_cases e : i = j
  · subst e
    rw [if_pos rfl, if_pos h, List.getD_eq_getElem?_getD, List.getElem?_eq_getElem h]
    rfl
  · rw [if_neg e]
abbrev nClear : List Str := ["prime", "table", "at", "place", "lead", "scale", "row", "factor", "number", "a", "b"]
theorem scClear : FnScope nClear ["prime", "table", "at", "place"] (defScope sClear) := ⟨rfl, rfl, rfl, by decide +kernel, rfl, by decide +kernel, by decide +kernel⟩
theorem ok_clear {f fI : Addr} {fd fdI : FuncData} (F : Fun K "clear_column" "clear_column" sClear f fd) (FI : Fun K "inverse_of" "inverse_of" sInvOf fI fdI) (GI : FnOk P w K mg base CX0 1 fI fdI ["prime", "number"] spInvOf) (gI : mg "inverse_of" = some (.ref fI))
    (gR : mg "range" = none) (gN : mg "len" = none) (gZ : mg "zip" = none) : FnOk P w K mg base CX0 2 f fd ["prime", "table", "at", "place"] spClear := by
  have bI : Binds K fdI ["prime", "number"] [] := FI.binds fun _ _ _ _ _ _ us hl => match us, hl with | [_, _], _ => rfl
  refine F.ok scClear (fun vs H Q E h => ?_) (fun cdv A outer s0 H vs Q E hr h => ?_)
  · obtain ⟨p, m, i, c, L, as, T, rfl, _⟩ := h
    rfl
  · obtain ⟨p, m, i, c, L, as, T, rfl, p2, p6, pr, hm, hT, hv, hi, hc, nz, hL, tL, want⟩ := h
    have la := hT.len
    refine ⟨_, (pss_cons (ps_set (i := 4) scClear.nd rfl (Or.inl rfl) (pe_ix ix_list (pv 1) (pv 2) (fun _ _ => rfl)))
      (C8.pss_cut (ps_if (pt_cmpR op_ne (pe_ix ix_list (pv 4) (pv 3) (fun _ _ => rfl)) pe_int (nomark _))
        (pss_cons (ps_set (i := 5) scClear.nd rfl (Or.inr rfl) (pe_call GI hr rfl gI FI.kp bI .nil pass0 (pa_cons (pv 0) (pa_cons (pe_ix ix_list (pv 4) (pv 3) (fun _ _ => rfl)) pa_nil))))
          (pss_cons (ps_setLc (i := 4) (own := [("number", 8)]) (g := (gName 8)) (tt := tYes) rfl scClear.nd rfl rfl (sw_true rfl rfl rfl (by decide +kernel)) (pi_list (pv 4)) (blkOk_by (N := nClear) (sc := defScope sClear) (by decide +kernel)) (fun _ _ _ _ _ => pg_name (i := 8) scClear.nd rfl (Or.inl rfl)) (fun _ _ _ _ _ => pts_nil) (fun _ _ _ _ _ => (pe_op op_mod (pe_op op_mul (pv 8) (pv 5)) (pv 0))))
          (pss_one (ps_asg (pv 4) (pg_sub (pv 1) (pv 2) set_list)))))
        pss_nil)
      (pss_one (ps_for PassesOwn.never rfl (pi_range1 rfl gR (pa_cons (pe_callB (call_len_seq) (by rfl) gN PySem.boot_len (pa_cons (pv 1) pa_nil)) pa_nil)) (pg_name (i := 6) scClear.nd rfl (Or.inl rfl))
        (pss_cons (ps_set (i := 7) scClear.nd rfl (Or.inr rfl) (pe_ix ix_list (pe_ix ix_list (pv 1) (pv 6) (fun _ _ => rfl)) (pv 3) (fun _ _ => rfl)))
          (pss_one (ps_if (PW.pt (pw_and (pt_cmpR op_ne (pv 6) (pv 2) (nomark _)) (pw_and1 (pt_truth (pv 7) (by intro _; rfl)))))
            (pss_one (ps_asg (pe_lc (own := [("a", 9), ("b", 10)]) (g := (gTup K 2 (gCons (gName 9) (gCons (gName 10) gNil)))) (tt := tYes) rfl scClear.nd (pi_zip (by rfl) gZ (pa_cons (pe_ix ix_list (pv 1) (pv 6) (fun _ _ => rfl)) (pa_cons (pv 4) pa_nil))) (blkOk_by (N := nClear) (sc := defScope sClear) (by decide +kernel)) (fun _ _ _ _ _ => pg_tup rfl (pgs_cons (pg_name (i := 9) scClear.nd rfl (Or.inl rfl)) (pgs_cons (pg_name (i := 10) scClear.nd rfl (Or.inl rfl)) pgs_nil))) (fun _ _ _ _ _ => pts_nil) (fun _ _ _ _ _ => (pe_op op_mod (pe_op op_sub (pv 9) (pe_op op_mul (pv 7) (pv 10))) (pv 0)))) (pg_sub (pv 1) (pv 6) set_list)))
            pss_nil))))))), ?_⟩
    obtain ⟨b0, g0, hb0, m0⟩ := rws_get hT hi
    obtain ⟨l0, v0⟩ := hv _ m0
    have q0 : 0 ≤ at_ T i c ∧ at_ T i c < (p : Int) := LinA.vec_at (p := p) (hv _ m0) (by omega) c
    have hb0' : H b0 = some (.lst ((T.getD i []).map V.int)) := hb0
    have inL : ∀ n ∈ T.getD i [], 0 ≤ n ∧ n < (p : Int) := v0
    have nm := rws_ne hm hT
    have vl : Vc (p : Int) L (leadZ p T i c) := LinA.vec_map (p := p) (by omega) (h := fun n => n * invN p T i c) l0
    refine ⟨_, rfl, _, rfl, m, _, (i : Int), _, rfl, rfl, SqL.of hm, atI_nat g0, ?_⟩
    refine ⟨fun σ H1 => ∃ (D : Addr) (x : Option V) (bs : List Addr), σ = [some (.int (p : Int)), some (.ref m), some (.int (i : Int)), some (.int (c : Int)), some (.ref D), x, none, none, none, none, none] ∧ But m H H1 ∧ Rw H1 D (leadZ p T i c) ∧ D ≠ m ∧ bs.length = T.length ∧ H1 m = some (.lst (bs.map V.ref)) ∧ Rws H1 bs (midZ p (leadZ p T i c) i c 0 T) ∧ ∀ b ∈ bs, b ∈ as ∨ H b = none, ?_, ?_⟩
    · refine ⟨_, rfl, _, rfl, b0, _, (c : Int), _, rfl, rfl, SqL.of hb0', atI_nat (int_get l0 hc), rfl, _, rfl, ?_⟩
      have bm : b0 ≠ m := fun e => by
        obtain ⟨o, z⟩ : ∃ o, (as.map V.ref)[i]? = some o := ⟨_, g0⟩
        rw [List.getElem?_map] at g0
        obtain ⟨b, hb, e2⟩ := Option.map_eq_some_iff.mp g0
        cases e2
        exact nm b0 (List.mem_of_getElem? hb) e
      by_cases h1 : at_ T i c = 1
      · have z : (!decide (V.int (at_ T i c) = V.int 1)) = false := by
          rw [h1, decide_eq_true rfl]
          rfl
        rw [z]
        refine iteF ⟨b0, none, as, rfl, but_same same_rfl, ?_, bm, la, hm, ?_, fun b mb => .inl mb⟩
        · rw [lead_one p2 h1 inL]
          exact hb0
        · rw [mid_zero hi, lead_one p2 h1 inL, set_same hi]
          exact hT
      · have z : (!decide (V.int (at_ T i c) = V.int 1)) = true := by
          rw [decide_eq_false (fun e => h1 (V.int.inj e))]
          rfl
        rw [z]
        refine iteT ?_
        refine ⟨_, rfl, _, rfl, _, rfl, b0, _, (c : Int), _, rfl, rfl, SqL.of hb0', atI_nat (int_get l0 hc), p, (at_ T i c).toNat, ?_, p2, p6, pr, by omega, by omega, fun H1 s1 => ?_⟩
        · rw [Int.toNat_of_nonneg q0.1]
          rfl
        have hb1 : H1 b0 = some (.lst ((T.getD i []).map V.int)) := s1 _ _ hb0'
        refine ⟨_, rfl, b0, rfl, ⟨_, SqL.of hb1⟩, ?_⟩
        intro D hD
        have scl : invN p T i c < (p : Int) ∧ 0 ≤ invN p T i c := by
          have z : (at_ T i c).toNat ^ (p - 2) % p < p := Nat.mod_lt _ (by omega)
          unfold invN
          omega
        have ll : (leadZ p T i c).length = L := vl.1
        refine lc_list (GrowI H1 D (leadZ p T i c)) (GrowI.start hD) (fun k H' _ z => SqL.of (z.1 _ _ hb1)) ?_ ?_
        · rintro k x H' hx g
          obtain ⟨n, rfl, mn, hn⟩ := mem_ints hx
          have kl : k < (T.getD i []).length := (List.getElem?_eq_some_iff.mp hn).1
          obtain ⟨n0, n1⟩ := inL n mn
          refine ⟨rfl, tyes ?_⟩
          refine ⟨_, rfl, _, rfl, n, invN p T i c, rfl, rfl, .inl ⟨by omega, by omega⟩, _, rfl, _, (p : Int), rfl, rfl, by show (0 : Int) < (p : Int); omega, ?_⟩
          obtain ⟨acc, k1, k2, k3⟩ := g.step (x := n * invN p T i c % (p : Int)) hD same_rfl (by
            unfold leadZ scaleZ
            rw [List.getElem?_map, hn]
            rfl)
          exact ⟨acc, k1, size_ok (by omega), k3⟩
        · intro H2 g
          obtain ⟨s2, hDl⟩ := g.done (by rw [List.length_map, ll, l0]; exact Nat.le_refl _)
          have s12 := same_trans s1 s2
          have mD : m ≠ D := ne_of_none (s1 _ _ hm) hD
          have hm1 : H2 m = some (.lst (as.map V.ref)) := s12 _ _ hm
          refine ⟨_, rfl, _, rfl, _, rfl, m, _, (i : Int), i, rfl, rfl, hm1, ixN_nat (by rw [List.length_map, la]; exact hi), ?_⟩
          have b2 : But m H (upd H2 m (.lst ((as.map V.ref).set i (V.ref D)))) := (but_same s12).trans but_upd
          refine ⟨D, _, as.set i D, rfl, b2, ?_, Ne.symm mD, by rw [List.length_set, la], ?_, ?_, fun b mb => ?_⟩
          · show upd H2 m _ D = _
            rw [upd_ne (Ne.symm mD)]
            exact hDl
          · show upd H2 m _ m = _
            rw [upd_same, List.map_set]
          · rw [mid_zero hi]
            refine rws_set (rws_but hT nm b2) i ?_
            show upd H2 m _ D = _
            rw [upd_ne (Ne.symm mD)]
            exact hDl
          · rcases List.mem_or_eq_of_mem_set mb with q | q
            · exact .inl q
            · rw [q]
              exact .inr (s1.free hD)
    · rintro σ H1 ⟨D, xs0, bs0, rfl, bt0, hl1, Dm, lb0, hm1, hT1, fr0⟩
      let l := leadZ p T i c
      refine ⟨_, rfl, m, _, rfl, .inl (SqL.of hm1), _, rfl, by omega, by rw [List.length_map]; omega, ?_⟩
      have en2 : (((bs0.map V.ref).length : Int)).toNat = T.length := by rw [List.length_map, lb0]; exact Int.toNat_natCast _
      rw [en2]
      refine for_range (lo := 0) (n := T.length) (fun k σ H' => (∃ u v, σ = [some (.int (p : Int)), some (.ref m), some (.int (i : Int)), some (.int (c : Int)), some (.ref D), xs0, u, v, none, none, none]) ∧ But m H H' ∧ Rw H' D l ∧
        ∃ bs : List Addr, bs.length = T.length ∧ H' m = some (.lst (bs.map V.ref)) ∧ Rws H' bs (midZ p l i c k T) ∧ ∀ b ∈ bs, b ∈ as ∨ H b = none) ⟨⟨_, _, rfl⟩, bt0, hl1, bs0, lb0, hm1, hT1, fr0⟩ ?_ ?_
      · rintro k σ H' hk ⟨⟨u, v, rfl⟩, bt, hlD, bs, lb, hm', hT', fr⟩
        have kT : k < (midZ p l i c k T).length := by rw [mid_len]; exact hk
        obtain ⟨b, g, hb, mb⟩ := rws_get hT' kT
        have vm : ∀ xs ∈ midZ p l i c k T, Vc (p : Int) L xs := fun xs mx => by
          obtain ⟨j, hj, e⟩ := List.mem_iff_getElem.mp mx
          have hj2 : j < T.length := by rw [mid_len] at hj; exact hj
          have z := mid_get (p := p) (l := l) (i := i) (c := c) k T j hj2
          rw [List.getElem?_eq_getElem hj, e] at z
          have vt : Vc (p : Int) L (T.getD j []) := hv _ (by rw [List.getD_eq_getElem?_getD, List.getElem?_eq_getElem hj2]; exact List.getElem_mem _)
          rw [Option.some.inj z]
          split
          · exact vl
          · split
            · exact LinA.vec_lessZ (by omega) vt vl.1
            · exact vt
        obtain ⟨lb2, vb2⟩ := vm _ mb
        have hb' : H' b = some (.lst (((midZ p l i c k T).getD k []).map V.int)) := hb
        have e0 : (0 : Int) + (k : Int) = (k : Int) := by omega
        rw [e0]
        refine ⟨_, rfl, _, rfl, m, _, (k : Int), _, rfl, rfl, SqL.of hm', atI_nat g, _, rfl, b, _, (c : Int), _, rfl, rfl, SqL.of hb', atI_nat (int_get lb2 hc), ?_⟩
        refine ⟨_, rfl, _, rfl, rfl, _, rfl, ?_⟩
        by_cases q : k = i
        · have z : (!decide (V.int (k : Int) = V.int (i : Int))) = false := by
            rw [q, decide_eq_true rfl]
            rfl
          rw [z]
          refine iteF (iteF ⟨⟨_, _, rfl⟩, bt, hlD, bs, lb, hm', ?_, fr⟩)
          rw [mid_same (.inl q) hk]
          exact hT'
        · have z : (!decide (V.int (k : Int) = V.int (i : Int))) = true := by
            rw [decide_eq_false (fun e => q (by injection e with e; omega))]
            rfl
          rw [z]
          have eT : (midZ p l i c k T).getD k [] = T.getD k [] := by
            rw [List.getD_eq_getElem?_getD, mid_get k T k hk, if_neg q, if_neg (Nat.lt_irrefl k)]
            rfl
          refine iteT ⟨_, rfl, ((midZ p l i c k T).getD k []).getD c 0 != 0, rfl, ?_⟩
          by_cases r : ((midZ p l i c k T).getD k []).getD c 0 = 0
          · rw [bne_eq_false_iff_eq.mpr r]
            refine iteF ⟨⟨_, _, rfl⟩, bt, hlD, bs, lb, hm', ?_, fr⟩
            rw [mid_same (.inr ?_) hk]
            · exact hT'
            · unfold lessZ
              rw [eT] at r
              rw [if_pos r]
          · rw [bne_iff_ne.mpr r]
            refine iteT ?_
            have hlD' : H' D = some (.lst (l.map V.int)) := hlD
            refine ⟨_, rfl, _, rfl, m, _, (k : Int), _, rfl, rfl, SqL.of hm', atI_nat g, _, rfl, b, D, _, _, rfl, SqL.of hb', SqL.of hlD', ?_⟩
            intro D2 hD2
            let xs := (midZ p l i c k T).getD k []
            have lx : (xs.map V.int).length = L := by rw [List.length_map]; exact lb2
            have lv : (l.map V.int).length = L := by rw [List.length_map]; exact vl.1
            have n2 : D2 ≠ D := fun e => by
              rw [e, hlD'] at hD2
              cases hD2
            have nb : D2 ≠ b := fun e => by
              rw [e, hb'] at hD2
              cases hD2
            have n3 : m ≠ D2 := ne_of_none hm' hD2
            have f2 : H D2 = none := by
              cases e : H D2 with
              | none => rfl
              | some o =>
                have z := bt D2 (Ne.symm n3) o e
                rw [hD2] at z
                cases z
            have fx := vb2
            refine lc_it (walk_zip (n := L) (by rw [lx, lv, Nat.min_self])) (fun j H3 => Same H' H3 ∧ H3 D2 = some (.lst (((List.zipWith (fun a b => (a - xs.getD c 0 * b) % (p : Int)) xs l).take j).map V.int))) ⟨same_new hD2, upd_same⟩ (fun j H3 _ z => ⟨SqL.of (z.1 _ _ hb'), SqL.of (z.1 _ _ hlD')⟩) ?_ ?_
            · rintro j x H1 H3 hj ⟨sm, hDl⟩ ⟨T2, x1, x2, rfl, nT, rfl, y1, y2⟩
              obtain ⟨a1, rfl, ma, ha⟩ := mem_ints y1
              obtain ⟨a2, rfl, mb2, hb2⟩ := mem_ints y2
              have cc : 0 ≤ xs.getD c 0 ∧ xs.getD c 0 < (p : Int) := LinA.vec_at (p := p) (vm _ mb) (by omega) c
              obtain ⟨c0, c1⟩ := cc
              have nTD : T2 ≠ D2 := fun z => by
                rw [z, hDl] at nT
                cases nT
              refine ⟨T2, _, rfl, SqT.of upd_same, rfl, _, _, rfl, ?_⟩
              refine ⟨_, _, rfl, rfl, rfl, tyes ?_⟩
              refine ⟨_, rfl, _, rfl, _, rfl, xs.getD c 0, a2, rfl, rfl, .inl ⟨by omega, by omega⟩, _, _, rfl, rfl, _, rfl, _, (p : Int), rfl, rfl, by show (0 : Int) < (p : Int); omega, ?_⟩
              have hz : (List.zipWith (fun a b => (a - xs.getD c 0 * b) % (p : Int)) xs l)[j]? = some ((a1 - xs.getD c 0 * a2) % (p : Int)) := by
                rw [List.getElem?_zipWith, ha, hb2]
              refine ⟨_, (upd_ne (Ne.symm nTD)).trans hDl, by rw [List.length_map, List.length_take, sizeLine_eq]; omega, same_set (same_trans sm (same_new nT)) hD2, ?_⟩
              rw [upd_same, List.take_succ, hz, List.map_append]
              rfl
            · rintro H3 ⟨sm, hDl⟩
              have lz : (List.zipWith (fun a b => (a - xs.getD c 0 * b) % (p : Int)) xs l).length ≤ L := by rw [List.length_zipWith, lb2]; omega
              rw [List.take_of_length_le lz] at hDl
              have hm3 : H3 m = some (.lst (bs.map V.ref)) := sm _ _ hm'
              refine ⟨_, rfl, _, rfl, m, _, (k : Int), k, rfl, rfl, hm3, ixN_nat (by rw [List.length_map, lb]; exact hk), ?_⟩
              have bt2 : But m H' (upd H3 m (.lst ((bs.map V.ref).set k (V.ref D2)))) := (but_same sm).trans but_upd
              refine ⟨⟨_, _, rfl⟩, bt.trans bt2, ?_, bs.set k D2, by rw [List.length_set, lb], ?_, ?_, fun d md => ?_⟩
              · show upd H3 m _ D = _
                rw [upd_ne Dm]
                exact sm _ _ hlD'
              · rw [upd_same, List.map_set]
              · rw [mid_next q hk]
                refine rws_set (rws_but hT' (rws_ne hm' hT') bt2) k ?_
                show upd H3 m _ D2 = _
                rw [upd_ne (Ne.symm n3), hDl]
                unfold lessZ
                have r2 : (T.getD k []).getD c 0 ≠ 0 := by
                  rw [← eT]
                  exact r
                rw [if_neg r2, ← eT]
              · rcases List.mem_or_eq_of_mem_set md with w | w
                · exact fr d w
                · rw [w]
                  exact .inr f2
      · rintro σ H' ⟨_, bt, hlD, bs, lb, hm', hT', fr⟩
        exact want H' bs bt hm' hT' fr
end
end Vb
end L2

set_option Elab.async false
set_option linter.all false
set_option maxRecDepth 100000
set_option maxHeartbeats 4000000
/-! Vb, part 14: elimination. -/
namespace L2
namespace Vb
open PySem PySem.Spec PyProof.Rows
open LinA (scaleZ lessZ)
abbrev sElim : Stmt := topS 26
theorem inv_one {p : Nat} (pr : Prm p) (p2 : 2 ≤ p) {a : Int} (a0 : 0 < a) (a1 : a < (p : Int)) : a * (((a.toNat ^ (p - 2) % p : Nat) : Int)) % (p : Int) = 1 := by
  have f := LinA.fermat pr p2 (a := a.toNat) (by omega) (by omega)
  have e : ((a.toNat : Nat) : Int) = a := Int.toNat_of_nonneg (by omega)
  have z : a.toNat * (a.toNat ^ (p - 2) % p) % p = 1 := by
    rw [Nat.mul_mod, Nat.mod_mod, ← Nat.mul_mod, Nat.mul_comm, ← Nat.pow_succ]
    have e2 : (p - 2).succ = p - 1 := by omega
    rw [e2]
    exact f
  rw [← e, Int.toNat_natCast, ← Int.natCast_mul, ← Int.natCast_emod, z]
  rfl
theorem set_perm {a b : List Int} : ∀ {E : List (List Int)} {k : Nat}, E[k]? = some b → (a :: E).Perm (b :: E.set k a)
  | [], k, h => by cases h
  | x :: E, 0, h => by
    cases h
    exact List.Perm.swap _ _ _
  | x :: E, k + 1, h => by
    have z := set_perm (a := a) (b := b) (E := E) (k := k) h
    show (a :: x :: E).Perm (b :: x :: E.set k a)
    exact ((List.Perm.swap x a E).trans (z.cons x)).trans (List.Perm.swap b x _)
theorem swap_rest {D E : List (List Int)} {f : Nat} (h1 : D.length ≤ f) (h2 : f < (D ++ E).length) : ∃ E', E.Perm ((D ++ E).getD f [] :: E') ∧ (((D ++ E).set D.length ((D ++ E).getD f [])).set f ((D ++ E).getD D.length [])) = D ++ (D ++ E).getD f [] :: E' := by
  obtain ⟨k, rfl⟩ : ∃ k, f = D.length + k := ⟨f - D.length, by omega⟩
  have hk : k < E.length := by rw [List.length_append] at h2; omega
  have g : ∀ j, (D ++ E).getD (D.length + j) [] = E.getD j [] := fun j => by
    rw [List.getD_eq_getElem?_getD, List.getD_eq_getElem?_getD, List.getElem?_append_right (by omega), Nat.add_sub_cancel_left]
  have g0 := g 0
  rw [Nat.add_zero] at g0
  rw [g k, g0]
  have st : ∀ (X : List (List Int)) (j : Nat) (v : List Int), (D ++ X).set (D.length + j) v = D ++ X.set j v := fun X j v => by
    rw [List.set_append_right _ _ (by omega), Nat.add_sub_cancel_left]
  have st0 := st E 0 (E.getD k [])
  rw [Nat.add_zero] at st0
  rw [st0, st]
  cases E with
  | nil => exact absurd hk (Nat.not_lt_zero k)
  | cons a E =>
    cases k with
    | zero => exact ⟨E, List.Perm.refl _, rfl⟩
    | succ k =>
      refine ⟨E.set k a, set_perm ?_, rfl⟩
      show E[k]? = some (E.getD k [])
      have hk2 : k < E.length := Nat.lt_of_succ_lt_succ hk
      rw [List.getD_eq_getElem?_getD, List.getElem?_eq_getElem hk2]
      rfl
theorem mid_parts {p : Nat} {l b : List Int} {c : Nat} {D E : List (List Int)} : midZ p l D.length c (D ++ b :: E).length (D ++ b :: E) = (D.map (lessZ p l c) ++ [l]) ++ E.map (lessZ p l c) := by
  refine List.ext_getElem? fun j => ?_
  by_cases hj : j < (D ++ b :: E).length
  · rw [mid_get _ _ j hj, if_pos hj]
    have gD : (D ++ b :: E).getD j [] = if j < D.length then D.getD j [] else (b :: E).getD (j - D.length) [] := by
      by_cases q : j < D.length
      · rw [if_pos q, List.getD_eq_getElem?_getD, List.getD_eq_getElem?_getD, List.getElem?_append_left q]
      · rw [if_neg q, List.getD_eq_getElem?_getD, List.getD_eq_getElem?_getD, List.getElem?_append_right (Nat.le_of_not_lt q)]
    rw [gD]
    rcases Nat.lt_trichotomy j D.length with q | q | q
    · rw [if_neg (Nat.ne_of_lt q), if_pos q, List.append_assoc, List.getElem?_append_left (by rw [List.length_map]; exact q), List.getElem?_map, List.getD_eq_getElem?_getD, List.getElem?_eq_getElem q]
      rfl
    · rw [if_pos q, List.append_assoc, List.getElem?_append_right (by rw [List.length_map]; omega), List.length_map, q, Nat.sub_self]
      rfl
    · rw [if_neg (Nat.ne_of_gt q), if_neg (by omega), List.getElem?_append_right (by rw [List.length_append, List.length_map]; show D.length + 1 ≤ j; omega)]
      rw [List.length_append, List.length_map]
      obtain ⟨k, rfl⟩ : ∃ k, j = D.length + 1 + k := ⟨j - (D.length + 1), by omega⟩
      have e1 : D.length + 1 + k - D.length = k + 1 := by omega
      have e2 : D.length + 1 + k - (D.length + [l].length) = k := by
        show D.length + 1 + k - (D.length + 1) = k
        omega
      have hk : k < E.length := by
        rw [List.length_append, List.length_cons] at hj
        omega
      rw [e1, e2, List.getElem?_map, List.getElem?_eq_getElem hk]
      show some (lessZ p l c ((b :: E).getD (k + 1) [])) = some (lessZ p l c E[k])
      rw [List.getD_cons_succ, List.getD_eq_getElem?_getD, List.getElem?_eq_getElem hk]
      rfl
  · rw [List.getElem?_eq_none (by rw [mid_len]; omega), List.getElem?_eq_none ?_]
    rw [List.length_append, List.length_append, List.length_map, List.length_map]
    rw [List.length_append, List.length_cons] at hj
    show D.length + 1 + E.length ≤ j
    omega
theorem rws_mem {as : List Addr} {i : Nat} {b : Addr} (h : (as.map V.ref)[i]? = some (V.ref b)) : b ∈ as := by
  rw [List.getElem?_map] at h
  obtain ⟨c, hc, e⟩ := Option.map_eq_some_iff.mp h
  cases e
  exact List.mem_of_getElem? hc
theorem rws_some {H : Hp} {as : List Addr} {T : List (List Int)} (h : Rws H as T) {b : Addr} (m : b ∈ as) : ∃ o, H b = some o := by
  induction h with
  | nil => cases m
  | cons r _ ih =>
    rcases List.mem_cons.mp m with q | q
    · rw [q]
      exact ⟨_, r⟩
    · exact ih q
section
variable {P : Program} {w : World} {K : PySem.W.Frag} {mg : Str → Option Value} {base : Heap}
def nat_ (c : Nat) : V := .int (c : Int)
def spElim : Sp := fun vs H Q _ => ∃ (p : Nat) (m : Addr) (L W : Nat) (as : List Addr) (T : List (List Int)), vs = [.int (p : Int), .ref m, .int (W : Int)] ∧ 2 ≤ p ∧ p ≤ 65537 ∧ Prm p ∧ H m = some (.lst (as.map V.ref)) ∧ Rws H as T ∧ (∀ xs ∈ T, Vc (p : Int) L xs) ∧ W ≤ L ∧ L ≤ 1000 ∧ T.length ≤ 1000 ∧
  ∀ (H' : Hp) (tb mt pv : Addr) (as' : List Addr) (D E : List (List Int)) (t : List Nat), Same H H' → H tb = none → H mt = none → H pv = none → mt ≠ pv → H' tb = some (.tup [.ref mt, .ref pv]) → H' mt = some (.lst (as'.map V.ref)) → H' pv = some (.lst (t.map nat_)) → Rws H' as' (D ++ E) → (∀ b ∈ as', H b = none) →
    (∀ [NeZero p], LinA.Way (Fin p) p L T D E t W) → (∀ c ∈ t, c < W) → D.length = t.length → D.length + E.length = T.length → Q (.ref tb) H'
theorem scElim : FnScope ["prime", "vectors", "width", "table", "pivots", "place", "at", "found", "vector"] ["prime", "vectors", "width"] (defScope sElim) := ⟨rfl, rfl, rfl, by decide +kernel, rfl, by decide +kernel, by decide +kernel⟩
theorem ok_elim {f fP fC : Addr} {fd fdP fdC : FuncData} (F : Fun K "eliminated" "eliminated" sElim f fd) (FP : Fun K "pivot_row" "pivot_row" sPivot fP fdP) (GP : FnOk P w K mg base CX0 1 fP fdP ["table", "start", "place"] spPivot) (gP : mg "pivot_row" = some (.ref fP))
    (FC : Fun K "clear_column" "clear_column" sClear fC fdC) (GC : FnOk P w K mg base CX0 2 fC fdC ["prime", "table", "at", "place"] spClear) (gC : mg "clear_column" = some (.ref fC)) (gR : mg "range" = none) (gN : mg "len" = none) (gL : mg "list" = none) :
    FnOk P w K mg base CX0 3 f fd ["prime", "vectors", "width"] spElim := by
  have bP : Binds K fdP ["table", "start", "place"] [] := FP.binds fun _ _ _ _ _ _ us hl => match us, hl with | [_, _, _], _ => rfl
  have bC : Binds K fdC ["prime", "table", "at", "place"] [] := FC.binds fun _ _ _ _ _ _ us hl => match us, hl with | [_, _, _, _], _ => rfl
  refine F.ok scElim (fun vs H Q E h => ?_) (fun cdv A outer s0 H vs Q E hr h => ?_)
  · obtain ⟨p, m, L, W, as, T, rfl, _⟩ := h
    rfl
  · obtain ⟨p, m, L, W, as, T, rfl, p2, p6, pr, hm, hT, hv, hW, hL, tL, want⟩ := h
    have la := hT.len
    refine ⟨_, pss_cons (ps_setLc (i := 3) (own := [("vector", 8)]) (g := gName 8) (tt := tYes) (te := tCB (rLO K) (tCons (tVar 8) tNil)) rfl scElim.nd rfl rfl (sw_true rfl rfl rfl (by decide +kernel)) (pi_list (pv 1))
          (blkOk_by (N := ["prime", "vectors", "width", "table", "pivots", "place", "at", "found", "vector"]) (sc := defScope sElim) (by decide +kernel)) (fun _ _ _ _ _ => pg_name (i := 8) scElim.nd rfl (Or.inl rfl)) (fun _ _ _ _ _ => pts_nil)
          (fun _ _ _ _ _ => pe_callTy call_list_of (by rfl) gL boot_list2 (pa_cons (pv 8) pa_nil)))
      (pss_cons (ps_set (i := 4) scElim.nd rfl (Or.inl rfl) (pe_lst pa_nil))
      (pss_cons (ps_for PassesOwn.never rfl (pi_range1 rfl gR (pa_cons (pv 2) pa_nil)) (pg_name (i := 5) scElim.nd rfl (Or.inl rfl))
        (pss_cons (ps_set (i := 6) scElim.nd rfl (Or.inl rfl) (pe_callB call_len_seq (by rfl) gN PySem.boot_len (pa_cons (pv 4) pa_nil)))
        (pss_cons (ps_set (i := 7) scElim.nd rfl (Or.inl rfl) (pe_call GP (hr.mono (by decide)) rfl gP FP.kp bP .nil pass0 (pa_cons (pv 3) (pa_cons (pv 6) (pa_cons (pv 5) pa_nil)))))
        (pss_one (ps_if (pt_cmpR op_notN (pv 7) pe_non (nomark _))
          (pss_cons (ps_asg (pe_tup (pa_cons (pe_ix ix_list (pv 3) (pv 7) (fun _ _ => rfl)) (pa_cons (pe_ix ix_list (pv 3) (pv 6) (fun _ _ => rfl)) pa_nil))) (pg_tup rfl (pgs_cons (pg_sub (pv 3) (pv 6) set_list) (pgs_cons (pg_sub (pv 3) (pv 7) set_list) pgs_nil))))
          (pss_cons (ps_expr (pe_call GC hr rfl gC FC.kp bC .nil pass0 (pa_cons (pv 0) (pa_cons (pv 3) (pa_cons (pv 6) (pa_cons (pv 5) pa_nil))))))
          (pss_one (ps_expr (pe_bm PySem.F.plainAttrs_list PySem.F.slot_list_append PySem.F.type_list_append mt_append (pv 4) (pa_cons (pv 5) pa_nil)))))) pss_nil)))))
      (pss_one (ps_ret (pe_tup (pa_cons (pv 3) (pa_cons (pv 4) pa_nil))))))), ?_⟩
    refine ⟨_, rfl, m, rfl, ⟨_, SqL.of hm⟩, ?_⟩
    intro mt hmt
    refine lc_list (fun k H' => Same H H' ∧ ∃ cs : List Addr, cs.length = k ∧ H' mt = some (.lst (cs.map V.ref)) ∧ Rws H' cs (T.take k) ∧ (∀ b ∈ cs, b ≠ mt) ∧ ∀ b ∈ cs, H b = none) ⟨same_new hmt, [], rfl, upd_same, .nil, fun b z => (List.not_mem_nil z).elim, fun b z => (List.not_mem_nil z).elim⟩ (fun i H2 _ z => SqL.of (z.1 _ _ hm)) ?_ ?_
    · rintro k x H' hx ⟨sm, cs, lc, hcl, hcs, nm, fr⟩
      obtain ⟨b, xs, rfl, hb, mx, ht, _⟩ := rws_at hT hx
      have hb' : H' b = some (.lst (xs.map V.int)) := sm _ _ hb
      refine ⟨rfl, tyes ?_⟩
      refine ⟨_, rfl, b, _, rfl, .inl (SqL.of hb'), fun l hl => ?_⟩
      have nl : mt ≠ l := fun e => by
        rw [← e, hcl] at hl
        cases hl
      have kl : k < T.length := (List.getElem?_eq_some_iff.mp ht).1
      refine ⟨_, (upd_ne nl).trans hcl, by rw [List.length_map, sizeLine_eq]; omega, same_set (same_trans sm (same_new hl)) hmt, cs ++ [l], by rw [List.length_append, lc]; rfl, ?_, ?_, fun d md => ?_, fun d md => ?_⟩
      · rw [upd_same, List.map_append]
        rfl
      · rw [List.take_succ, ht]
        have st : ∀ d, d ≠ mt → ∀ o, upd H' l (.lst (xs.map V.int)) d = some o → upd (upd H' l (.lst (xs.map V.int))) mt (.lst (cs.map V.ref ++ [V.ref l])) d = some o := fun d ne o e => (upd_ne ne).trans e
        refine paired_snoc ((hcs.mono fun d _ o e => same_new hl _ _ e).mono fun d md o e => st d (nm d md) o e) ?_
        exact st l (Ne.symm nl) _ upd_same
      · rcases List.mem_append.mp md with q | q
        · exact nm d q
        · rw [List.mem_singleton.mp q]
          exact Ne.symm nl
      · rcases List.mem_append.mp md with q | q
        · exact fr d q
        · rw [List.mem_singleton.mp q]
          exact sm.free hl
    · rintro H1 ⟨s1, cs, lc, hcl, hcs, nm, fr⟩
      rw [List.length_map, la] at lc
      rw [List.take_of_length_le (by rw [List.length_map, la]; omega)] at hcs
      refine ⟨by show 0 ≤ sizeLine; omega, fun pv hpv => ?_⟩
      have n1 : mt ≠ pv := fun e => by
        rw [← e, hcl] at hpv
        cases hpv
      have np : ∀ b ∈ cs, b ≠ pv := fun b mb e => by
        obtain ⟨o, z⟩ := rws_some hcs mb
        rw [e, hpv] at z
        cases z
      refine ⟨_, rfl, (W : Int), rfl, by omega, by omega, ?_⟩
      rw [Int.toNat_natCast W]
      refine for_range (lo := 0) (n := W) (fun k σ H' => (∃ u v x, σ = [some (.int (p : Int)), some (.ref m), some (.int (W : Int)), some (.ref mt), some (.ref pv), u, v, x, none]) ∧ Same H H' ∧
        ∃ (as' : List Addr) (D E : List (List Int)) (t : List Nat), H' mt = some (.lst (as'.map V.ref)) ∧ H' pv = some (.lst (t.map nat_)) ∧ Rws H' as' (D ++ E) ∧ (∀ b ∈ as', H b = none) ∧ (∀ b ∈ as', b ≠ pv) ∧ (∀ [NeZero p], LinA.Way (Fin p) p L T D E t k) ∧ (∀ c ∈ t, c < k) ∧ D.length = t.length ∧ D.length + E.length = T.length)
        ⟨⟨_, _, _, rfl⟩, same_trans s1 (same_new hpv), cs, [], T, [], (upd_ne n1).trans hcl, upd_same, hcs.mono fun b _ o e => same_new hpv _ _ e, fr, np, fun {_} => LinA.Way.start hv, fun c z => (List.not_mem_nil z).elim, rfl, Nat.zero_add _⟩ ?_ ?_
      · rintro k σ H' hk ⟨⟨u, v, x, rfl⟩, sm, bs, D, E, t, hm', hp', hT', fr', np', way, tk, ld, le⟩
        have e0 : (0 : Int) + (k : Int) = (k : Int) := by omega
        rw [e0]
        haveI : NeZero p := ⟨by omega⟩
        have vD := way.vd
        have vE := way.ve
        have vDE : ∀ xs ∈ D ++ E, Vc (p : Int) L xs := fun xs mx => (List.mem_append.mp mx).elim (vD xs) (vE xs)
        have ls : (t.map nat_).length = D.length := by rw [List.length_map, ld]
        refine ⟨_, rfl, pv, _, rfl, .inl (SqL.of hp'), _, rfl, _, rfl, _, rfl, ?_⟩
        refine ⟨mt, D.length, k, L, bs, D ++ E, (p : Int), by rw [ls]; rfl, hm', hT', vDE, by omega, by rw [List.length_append]; omega, by rw [List.length_append]; omega, fun f f1 f2 f3 f4 => ?_, fun z => ?_⟩
        · have eb : at_ (D ++ E) f k ≠ 0 := f3
          have fE : D.length ≤ f := f1
          obtain ⟨gb, gf, hgb, mgb⟩ := rws_get hT' f2
          obtain ⟨ga, gg, hga, mga⟩ := rws_get hT' (i := D.length) (by omega)
          refine ⟨_, rfl, rfl, _, rfl, iteT ?_⟩
          refine ⟨_, rfl, _, rfl, mt, _, (f : Int), _, rfl, rfl, SqL.of hm', atI_nat gf, _, rfl, _, rfl, mt, _, _, _, rfl, rfl, SqL.of hm', by rw [ls]; exact atI_nat gg, by show 2 ≤ sizeLine; decide, fun tp htp => ?_⟩
          have nt : mt ≠ tp := ne_of_none hm' htp
          have hmA : upd H' tp (.tup [V.ref gb, V.ref ga]) mt = some (.lst (bs.map V.ref)) := (upd_ne nt).trans hm'
          refine ⟨tp, _, rfl, SqT.of upd_same, rfl, _, _, rfl, ?_⟩
          refine ⟨_, rfl, _, rfl, mt, _, _, D.length, rfl, rfl, hmA, by rw [ls]; exact ixN_nat (by rw [List.length_map, hT'.len]; omega), ?_⟩
          refine ⟨_, _, rfl, ?_⟩
          refine ⟨_, rfl, _, rfl, mt, _, (f : Int), f, rfl, rfl, upd_same, ixN_nat (by rw [List.length_set, List.length_map, hT'.len]; exact f2), ?_⟩
          refine ⟨rfl, ?_⟩
          obtain ⟨E', pm, es⟩ := swap_rest fE f2
          have nm' := rws_ne hm' hT'
          let H2 : Hp := upd (upd (upd H' tp (.tup [V.ref gb, V.ref ga])) mt (.lst ((bs.map V.ref).set D.length (V.ref gb)))) mt (.lst (((bs.map V.ref).set D.length (V.ref gb)).set f (V.ref ga)))
          have but2 : But mt H' H2 := ((but_same (same_new htp)).trans but_upd).trans but_upd
          have hm2 : H2 mt = some (.lst (((bs.set D.length gb).set f ga).map V.ref)) := by
            show upd _ mt _ mt = _
            rw [upd_same, List.map_set, List.map_set]
          have hT2 : Rws H2 ((bs.set D.length gb).set f ga) (D ++ (D ++ E).getD f [] :: E') := by
            rw [← es]
            exact rws_set (rws_set (rws_but hT' nm' but2) D.length (but2 _ (nm' gb (rws_mem gf)) _ hgb)) f (but2 _ (nm' ga (rws_mem gg)) _ hga)
          have vb := vDE _ mgb
          have vT2 : ∀ xs ∈ D ++ (D ++ E).getD f [] :: E', Vc (p : Int) L xs := fun xs mx => by
            rcases List.mem_append.mp mx with q | q
            · exact vD xs q
            · rcases List.mem_cons.mp q with q | q
              · rw [q]
                exact vb
              · exact vE xs (pm.mem_iff.mpr (List.mem_cons_of_mem _ q))
          have lpm := pm.length_eq
          rw [List.length_cons] at lpm
          have lT2 : (D ++ (D ++ E).getD f [] :: E').length = T.length := by
            rw [List.length_append, List.length_cons]
            omega
          have g2 : (D ++ (D ++ E).getD f [] :: E').getD D.length [] = (D ++ E).getD f [] := by
            rw [List.getD_eq_getElem?_getD, List.getElem?_append_right (Nat.le_refl _), Nat.sub_self]
            rfl
          have bat : at_ (D ++ (D ++ E).getD f [] :: E') D.length k = at_ (D ++ E) f k := by
            show ((D ++ (D ++ E).getD f [] :: E').getD D.length []).getD k 0 = _
            rw [g2]
          refine ⟨_, rfl, _, rfl, _, rfl, _, rfl, p, mt, D.length, k, L, (bs.set D.length gb).set f ga, D ++ (D ++ E).getD f [] :: E', by rw [ls]; rfl, p2, p6, pr, hm2, hT2, vT2, by rw [lT2]; omega, by omega, by rw [bat]; assumption, hL, by rw [lT2]; exact tL, fun H3 bs3 but3 hm3 hT3 fr3 => ?_⟩
          have np3 : mt ≠ pv := n1
          have hp2 : H2 pv = some (.lst (t.map nat_)) := but2 pv (Ne.symm n1) _ hp'
          have hp3 : H3 pv = some (.lst (t.map nat_)) := but3 pv (Ne.symm n1) _ hp2
          refine ⟨_, rfl, .inl ⟨rfl, _, SqL.of hp3⟩, _, rfl, pv, _, _, rfl, rfl, hp3, by rw [List.length_map, sizeLine_eq]; omega, ?_⟩
          let l := leadZ p (D ++ (D ++ E).getD f [] :: E') D.length k
          have el : l = scaleZ p (invN p (D ++ (D ++ E).getD f [] :: E') D.length k) ((D ++ E).getD f []) := by
            show scaleZ p _ ((D ++ (D ++ E).getD f [] :: E').getD D.length []) = _
            rw [g2]
          have b34 : ∀ b, b ≠ pv → ∀ o, H3 b = some o → upd H3 pv (.lst (t.map nat_ ++ [V.int (k : Int)])) b = some o := fun b n o e => (upd_ne n).trans e
          have sm3 : Same H (upd H3 pv (.lst (t.map nat_ ++ [V.int (k : Int)]))) := fun b o e => by
            have z1 : b ≠ mt := fun q => by
              rw [q, hmt] at e
              cases e
            have z2 : b ≠ pv := fun q => by
              rw [q, s1.free hpv] at e
              cases e
            exact b34 b z2 o (but3 b z1 o (but2 b z1 o (sm b o e)))
          have in2 : ∀ b ∈ (bs.set D.length gb).set f ga, b ∈ bs := fun b mb => by
            rcases List.mem_or_eq_of_mem_set mb with q | q
            · rcases List.mem_or_eq_of_mem_set q with q | q
              · exact q
              · rw [q]
                exact rws_mem gf
            · rw [q]
              exact rws_mem gg
          have H02 : ∀ b, H2 b = none → H b = none := fun b e => by
            cases q : H b with
            | none => rfl
            | some o =>
              have z1 : b ≠ mt := fun r => by
                rw [r, hmt] at q
                cases q
              rw [but2 b z1 o (sm b o q)] at e
              cases e
          have nv3 : ∀ b ∈ bs3, b ≠ pv := fun b mb => by
            rcases fr3 b mb with q | q
            · exact np' b (in2 b q)
            · exact ne_of_none hp2 q |>.symm
          refine ⟨⟨_, _, _, rfl⟩, sm3, bs3, D.map (lessZ p l k) ++ [l], E'.map (lessZ p l k), t ++ [k], b34 mt n1 _ hm3, ?_, ?_, fun b mb => ?_, nv3, fun {_} => ?_, fun c mc => ?_, ?_, ?_⟩
          · rw [upd_same, List.map_append]
            rfl
          · rw [mid_parts] at hT3
            exact hT3.mono fun b mb o e => b34 b (nv3 b mb) o e
          · rcases fr3 b mb with q | q
            · exact fr' b (in2 b q)
            · exact H02 b q
          · rw [el]
            refine LinA.Way.found (by omega) way pm ?_
            have q0 : 0 ≤ at_ (D ++ E) f k ∧ at_ (D ++ E) f k < (p : Int) := LinA.vec_at (p := p) vb (by omega) k
            have q1 : 0 < at_ (D ++ E) f k ∧ at_ (D ++ E) f k < (p : Int) := ⟨by have := q0.1; omega, q0.2⟩
            have q2 := inv_one pr p2 q1.1 q1.2
            unfold invN
            rw [bat]
            exact q2
          · rcases List.mem_append.mp mc with q | q
            · exact Nat.lt_succ_of_lt (tk c q)
            · rw [List.mem_singleton.mp q]
              exact Nat.lt_succ_self k
          · rw [List.length_append, List.length_append, List.length_map, ld]
            rfl
          · rw [List.length_append, List.length_map, List.length_map]
            show D.length + 1 + E'.length = T.length
            omega
        · refine ⟨_, rfl, rfl, _, rfl, iteF ⟨⟨_, _, _, rfl⟩, sm, bs, D, E, t, hm', hp', hT', fr', np', fun {_} => LinA.Way.none way fun xs mx => ?_, fun c mc => Nat.lt_succ_of_lt (tk c mc), ld, le⟩⟩
          obtain ⟨j, hj, e⟩ := List.mem_iff_getElem.mp mx
          have y := z (D.length + j) (by omega) (by rw [List.length_append]; omega)
          have g : (D ++ E).getD (D.length + j) [] = xs := by
            rw [List.getD_eq_getElem?_getD, List.getElem?_append_right (by omega), Nat.add_sub_cancel_left, List.getElem?_eq_getElem hj, e]
            rfl
          have y2 : ((D ++ E).getD (D.length + j) []).getD k 0 = 0 := y
          rw [g] at y2
          exact y2
      · rintro σ H' ⟨⟨u, v, x, rfl⟩, sm, bs, D, E, t, hm', hp', hT', fr', np', way, tk, ld, le⟩
        refine ⟨_, rfl, _, rfl, by show 2 ≤ sizeLine; decide, fun tb htb => ?_⟩
        have s2 := same_new (o := .tup [V.ref mt, V.ref pv]) htb
        exact want _ tb mt pv bs D E t (same_trans sm s2) (sm.free htb) hmt (s1.free hpv) n1 upd_same (s2 _ _ hm') (s2 _ _ hp') (hT'.mono fun b _ o e => s2 _ _ e) fr' way tk ld le
end
end Vb
end L2

set_option Elab.async false
set_option linter.all false
set_option maxRecDepth 100000
set_option maxHeartbeats 4000000
/-! Vb, part 15: bases. -/
namespace L2
namespace Vb
open PySem PySem.Spec PyProof.Rows
abbrev sBas : Stmt := topS 27
abbrev sRed : Stmt := topS 37
abbrev sRank : Stmt := topS 38
theorem rws_take {H : Hp} {as : List Addr} {T : List (List Int)} (h : Rws H as T) (n : Nat) : Rws H (as.take n) (T.take n) := by
  induction h generalizing n with
  | nil => rw [List.take_nil, List.take_nil]; exact .nil
  | cons r _ ih =>
    cases n with
    | zero => exact .nil
    | succ n => exact .cons r (ih n)
/-- what a call of reduced leaves -/
def Reds (H : Hp) (p L : Nat) (T : List (List Int)) (H' : Hp) (d : Addr) (bs : List Addr) (B : List (List Int)) (t : List Nat) : Prop :=
  Same H H' ∧ H d = none ∧ H' d = some (.lst (bs.map V.ref)) ∧ Rws H' bs B ∧ (∀ b ∈ bs, H b = none) ∧ LinA.Bas p L T B t ∧ B.length ≤ T.length
section
variable {P : Program} {w : World} {K : PySem.W.Frag} {mg : Str → Option Value} {base : Heap}
def spBas : Sp := fun vs H Q _ => ∃ (p : Nat) (m : Addr) (L : Nat) (as : List Addr) (T : List (List Int)), vs = [.int (p : Int), .ref m] ∧ 2 ≤ p ∧ p ≤ 65537 ∧ Prm p ∧ H m = some (.lst (as.map V.ref)) ∧ Rws H as T ∧ (∀ xs ∈ T, Vc (p : Int) L xs) ∧ L ≤ 1000 ∧ T.length ≤ 1000 ∧
  ∀ (H' : Hp) (d : Addr) (bs : List Addr) (B : List (List Int)) (t : List Nat), Reds H p L T H' d bs B t → Q (.ref d) H'
theorem scBas : FnScope ["prime", "vectors", "table", "pivots"] ["prime", "vectors"] (defScope sBas) := ⟨rfl, rfl, rfl, by decide +kernel, rfl, by decide +kernel, by decide +kernel⟩
theorem ok_bas {f fE : Addr} {fd fdE : FuncData} (F : Fun K "basis_of" "basis_of" sBas f fd) (FE : Fun K "eliminated" "eliminated" sElim fE fdE) (GE : FnOk P w K mg base CX0 3 fE fdE ["prime", "vectors", "width"] spElim) (gE : mg "eliminated" = some (.ref fE)) (gN : mg "len" = none) :
    FnOk P w K mg base CX0 4 f fd ["prime", "vectors"] spBas := by
  have bE : Binds K fdE ["prime", "vectors", "width"] [] := FE.binds fun _ _ _ _ _ _ us hl => match us, hl with | [_, _, _], _ => rfl
  refine F.ok scBas (fun vs H Q E h => ?_) (fun cdv A outer s0 H vs Q E hr h => ?_)
  · obtain ⟨p, m, L, as, T, rfl, _⟩ := h
    rfl
  · obtain ⟨p, m, L, as, T, rfl, p2, p6, pr, hm, hT, hv, hL, tL, want⟩ := h
    have la := hT.len
    refine ⟨_, pss_cons (ps_if (pt_not (pt_truth (pv 1) (by intro _; rfl))) (pss_one (ps_ret (pe_lst pa_nil))) pss_nil)
      (pss_cons (ps_asg (pe_call GE hr rfl gE FE.kp bE .nil pass0 (pa_cons (pv 0) (pa_cons (pv 1) (pa_cons (pe_callB call_len_seq (by rfl) gN PySem.boot_len (pa_cons (pe_ix ix_list (pv 1) pe_int (fun _ _ => rfl)) pa_nil)) pa_nil))))
          (pg_tup rfl (pgs_cons (pg_name (i := 2) scBas.nd rfl (Or.inl rfl)) (pgs_cons (pg_name (i := 3) scBas.nd rfl (Or.inl rfl)) pgs_nil))))
      (pss_one (ps_ret (pe_slice sl_list (pv 2) po_none (po_some (pe_callB call_len_seq (by rfl) gN PySem.boot_len (pa_cons (pv 3) pa_nil))))))), ?_⟩
    cases hT with
    | nil =>
      refine ⟨_, rfl, false, .inl ⟨_, SqL.of hm, rfl⟩, iteT ⟨by show 0 ≤ sizeLine; omega, fun d hd => ?_⟩⟩
      exact want _ d [] [] [] ⟨same_new hd, hd, upd_same, .nil, fun b z => (List.not_mem_nil z).elim, LinA.Bas.none, Nat.zero_le _⟩
    | @cons a xs as T ha hT =>
      have hT1 : Rws H (a :: as) (xs :: T) := .cons ha hT
      have ha' : H a = some (.lst (xs.map V.int)) := ha
      refine ⟨_, rfl, true, .inl ⟨_, SqL.of hm, rfl⟩, iteF ?_⟩
      refine ⟨_, rfl, _, rfl, _, rfl, m, _, 0, _, rfl, rfl, SqL.of hm, atI_nat (j := 0) rfl, a, _, rfl, .inl (SqL.of ha'), ?_⟩
      have lx : xs.length = L := (hv xs List.mem_cons_self).1
      refine ⟨p, m, L, L, a :: as, xs :: T, ?_, p2, p6, pr, hm, hT1, hv, Nat.le_refl _, hL, tL, fun H' tb mt pv cs D E t sm _ hmt hpv nmp htb hmt' hpv' hDE fr way tk ld le => ?_⟩
      · rw [List.length_map, lx]
        rfl
      refine ⟨tb, _, rfl, SqT.of htb, rfl, _, _, rfl, _, _, rfl, rfl, ?_⟩
      refine ⟨_, rfl, ⟨_, rfl, pv, _, rfl, .inl (SqL.of hpv'), _, rfl, mt, _, rfl, SqL.of hmt', fun d hd => ?_⟩⟩
      have ec : cutV (cs.map V.ref) none (some ((t.map nat_).length : Int)) = (cs.take t.length).map V.ref := by
        rw [cut_take, List.length_map, List.map_take]
      rw [ec]
      haveI : NeZero p := ⟨by omega⟩
      have eB : (D ++ E).take t.length = D := by rw [← ld, List.take_left]
      have hB : Rws H' (cs.take t.length) D := by
        rw [← eB]
        exact rws_take hDE _
      have s2 := same_new (o := .lst ((cs.take t.length).map V.ref)) hd
      refine want _ d (cs.take t.length) D t ⟨same_trans sm s2, sm.free hd, upd_same, hB.mono fun b _ o e => s2 _ _ e, fun b mb => fr b (List.mem_of_mem_take mb), LinA.Bas.of_way (by omega) hv way, by omega⟩
def spRed : Sp := fun vs H Q _ => ∃ (p : Nat) (m : Addr) (L : Nat) (as : List Addr) (T : List (List Int)), vs = [.int (p : Int), .ref m] ∧ (p : Int) ∈ goods ∧ H m = some (.lst (as.map V.ref)) ∧ Rws H as T ∧ (∀ xs ∈ T, Vc (p : Int) L xs) ∧ L ≤ 1000 ∧ T.length ≤ 1000 ∧
  ∀ (H' : Hp) (d : Addr) (bs : List Addr) (B : List (List Int)) (t : List Nat), Reds H p L T H' d bs B t → Q (.ref d) H'
theorem scRed : FnScope ["prime", "vectors"] ["prime", "vectors"] (defScope sRed) := ⟨rfl, rfl, rfl, by decide +kernel, rfl, by decide +kernel, by decide +kernel⟩
theorem ok_red {f fR fV fB : Addr} {fd fdR fdV fdB : FuncData} (F : Fun K "reduced" "reduced" sRed f fd) (FR : Fun K "require_prime" "require_prime" sReqP fR fdR) (GR : FnOk P w K mg base CX0 2 fR fdR ["prime"] spReqP) (gR : mg "require_prime" = some (.ref fR))
    (FV : Fun K "require_vectors" "require_vectors" sReqV fV fdV) (GV : FnOk P w K mg base CX0 5 fV fdV ["prime", "vectors"] spReqV) (gV : mg "require_vectors" = some (.ref fV)) (FB : Fun K "basis_of" "basis_of" sBas fB fdB) (GB : FnOk P w K mg base CX0 4 fB fdB ["prime", "vectors"] spBas) (gB : mg "basis_of" = some (.ref fB)) :
    FnOk P w K mg base CX0 6 f fd ["prime", "vectors"] spRed := by
  have bR : Binds K fdR ["prime"] [] := FR.binds fun _ _ _ _ _ _ us hl => match us, hl with | [_], _ => rfl
  have bV : Binds K fdV ["prime", "vectors"] [] := FV.binds fun _ _ _ _ _ _ us hl => match us, hl with | [_, _], _ => rfl
  have bB : Binds K fdB ["prime", "vectors"] [] := FB.binds fun _ _ _ _ _ _ us hl => match us, hl with | [_, _], _ => rfl
  refine F.ok scRed (fun vs H Q E h => ?_) (fun cdv A outer s0 H vs Q E hr h => ?_)
  · obtain ⟨p, m, L, as, T, rfl, _⟩ := h
    rfl
  · obtain ⟨p, m, L, as, T, rfl, mp, hm, hT, hv, hL, tL, want⟩ := h
    obtain ⟨p2, p6, pr⟩ := good_prm mp
    refine ⟨_, pss_cons (ps_expr (pe_call GR (hr.mono (by decide)) rfl gR FR.kp bR .nil pass0 (pa_cons (pv 0) pa_nil)))
      (pss_cons (ps_expr (pe_call GV hr rfl gV FV.kp bV .nil pass0 (pa_cons (pv 0) (pa_cons (pv 1) pa_nil))))
      (pss_one (ps_ret (pe_call GB (hr.mono (by decide)) rfl gB FB.kp bB .nil pass0 (pa_cons (pv 0) (pa_cons (pv 1) pa_nil)))))), ?_⟩
    refine ⟨_, rfl, _, rfl, mp, fun H1 s1 => ?_⟩
    have up : ∀ {H' : Hp}, Same H H' → Rws H' as T := fun sm => hT.mono fun b _ o e => sm _ _ e
    refine ⟨_, rfl, _, rfl, (p : Int), m, as, T, L, rfl, s1 _ _ hm, up s1, hv, hL, tL, fun H2 s2 => ?_⟩
    have s12 := same_trans s1 s2
    refine ⟨_, rfl, _, rfl, p, m, L, as, T, rfl, p2, p6, pr, s12 _ _ hm, up s12, hv, hL, tL, fun H3 d bs B t r => ?_⟩
    obtain ⟨r1, r2, r3, r4, r5, r6, r7⟩ := r
    exact want H3 d bs B t ⟨same_trans s12 r1, s12.free r2, r3, r4, fun b mb => s12.free (r5 b mb), r6, r7⟩
def spRank : Sp := fun vs H Q _ => ∃ (p : Nat) (m : Addr) (L : Nat) (as : List Addr) (T : List (List Int)), vs = [.int (p : Int), .ref m] ∧ (p : Int) ∈ goods ∧ H m = some (.lst (as.map V.ref)) ∧ Rws H as T ∧ (∀ xs ∈ T, Vc (p : Int) L xs) ∧ L ≤ 1000 ∧ T.length ≤ 1000 ∧
  ∀ (H' : Hp) (B : List (List Int)) (t : List Nat), Same H H' → LinA.Bas p L T B t → Q (.int (B.length : Int)) H'
theorem scRank : FnScope ["prime", "vectors"] ["prime", "vectors"] (defScope sRank) := ⟨rfl, rfl, rfl, by decide +kernel, rfl, by decide +kernel, by decide +kernel⟩
theorem ok_rank {f fR : Addr} {fd fdR : FuncData} (F : Fun K "rank" "rank" sRank f fd) (FR : Fun K "reduced" "reduced" sRed fR fdR) (GR : FnOk P w K mg base CX0 6 fR fdR ["prime", "vectors"] spRed) (gR : mg "reduced" = some (.ref fR)) (gN : mg "len" = none) :
    FnOk P w K mg base CX0 7 f fd ["prime", "vectors"] spRank := by
  have bR : Binds K fdR ["prime", "vectors"] [] := FR.binds fun _ _ _ _ _ _ us hl => match us, hl with | [_, _], _ => rfl
  refine F.ok scRank (fun vs H Q E h => ?_) (fun cdv A outer s0 H vs Q E hr h => ?_)
  · obtain ⟨p, m, L, as, T, rfl, _⟩ := h
    rfl
  · obtain ⟨p, m, L, as, T, rfl, mp, hm, hT, hv, hL, tL, want⟩ := h
    refine ⟨_, pss_one (ps_ret (pe_callB call_len_seq (by rfl) gN PySem.boot_len (pa_cons (pe_call GR hr rfl gR FR.kp bR .nil pass0 (pa_cons (pv 0) (pa_cons (pv 1) pa_nil))) pa_nil))), ?_⟩
    refine ⟨_, rfl, _, rfl, p, m, L, as, T, rfl, mp, hm, hT, hv, hL, tL, fun H' d bs B t ⟨r1, r2, r3, r4, r5, r6, r7⟩ => ?_⟩
    refine ⟨d, _, rfl, .inl (SqL.of r3), ?_⟩
    rw [List.length_map, r4.len]
    exact want H' B t r1 r6
end
end Vb
end L2

set_option Elab.async false
set_option linter.all false
set_option maxRecDepth 100000
set_option maxHeartbeats 4000000
/-! Vb, from Eo, part 4: promises that hold where no repr is under way (a def that asks for repr wants to know it). -/
namespace L2
namespace Vb
open PySem PySem.Spec PyProof.Rows
/-- a def's promise, kept where no repr is under way and no exception leaves -/
structure FnG (P : Program) (w : World) (K : PySem.W.Frag) (mg : Str → Option Value) (base : Heap) (k : Nat) (f : Addr) (fd : FuncData) (ps : List Str) (sp : Sp) : Prop where
  len : ∀ vs H Q, sp vs H Q E0 → vs.length = ps.length
  run : ∀ (A : Around) (below : List Env) (s : Shared) (H : Hp) (args : Args) (us : List Value) (vs : List V) (Q : VK), A.guards = some [] → Room k A → Env0 P w K mg base A below s H → BindsTo s fd args (ps.zip us) → Vals vs us → sp vs H Q E0 →
    codeAny (model P w) A (.call (.ref f) args) (CR CX0 below P w H s Q E0) s
section
variable {P : Program} {w : World} {K : PySem.W.Frag} {mg : Str → Option Value} {base : Heap} {k : Nat} {f : Addr} {fd : FuncData} {sp : Sp}
theorem guards_deeper {A : Around} {env : Env} (g : A.guards = some []) : (A.deeper env).guards = some [] := g
/-- a def of the text, by its body -/
theorem fnG_of {x qual : Str} {st : Stmt} {names ps : List Str} (F : Fun K x qual st f fd) (S : FnScope names ps (defScope st)) (len : ∀ vs H Q, sp vs H Q E0 → vs.length = ps.length)
    (body : ∀ (cdv : Value) (A : Around) (below : List Env) (s : Shared) (H : Hp) (vs : List V) (Q : VK), (A.deeper (envOfC qual (defScope st) s.heap.objs.size f cdv)).guards = some [] → Room k (A.deeper (envOfC qual (defScope st) s.heap.objs.size f cdv)) → sp vs H Q E0 →
      ∃ t, PSs (cxOf CX0 P w K mg base names qual (defScope st) f cdv A below s H E0).nox (defBody st) t ∧ t { nx := fun _ H' => Q .non H', rt := Q } (start names vs) H) : FnG P w K mg base (k + 1) f fd ps sp := by
  obtain ⟨oc, od, kV, doc, pm, an, cdv, ct, osl, rfl, lk, hcd⟩ := F.ex
  constructor
  · exact len
  · intro A below s H args us vs Q hgd hroom e0 hbinds rel want
    have n2 := len _ _ _ want
    have KX : K.In s.heap := e0.mod.kin.keeps fun b o e => (e0.bs b o e).1
    have lim : s.heap.NoLimit := e0.mod.nolimit.keeps fun b o e => (e0.bs b o e).1
    have kinds : ∀ y ∈ ps.zip us, (defScope st).names.lookup y.1 = some .local ∨ ((defScope st).names.lookup y.1 = some .cell ∧ ((cellsFrom (s.heap.objs.size + 1) (defScope st).names []).lookup y.1).isSome = true) := by
      rintro ⟨y, u⟩ hy
      have z := S.par y (List.of_mem_zip hy).1
      exact z.elim .inl fun q => .inr ⟨q, PySem.W.cellsFrom_some _ _ _ (.inl q)⟩
    refine codeAny_call_function hroom.depth (KX _ _ lk) rfl S.co S.gen rfl (PySem.W.codeRec_of KX hcd) (hbinds _ _ _ _ ?_)
    refine wpAny_newFunctionEnv_cells S.kind kinds fun env he s1 inc => ?_
    subst he
    refine ⟨lim.keeps inc.toInCall.keep, codeAny_func ?_⟩
    obtain ⟨t, ht, hq⟩ := body cdv A below s H vs Q (guards_deeper hgd) (hroom.deeper _) want
    have I0 : Inv (cxOf CX0 P w K mg base names qual (defScope st) f cdv A below s H E0) [] (start names vs) H s1 := inv_start S hroom.hd e0 n2 rel inc
    refine wpAny_mono (ht.nox.run [] s1 (start names vs) H _ I0 hq) (fun fl s' out => ?_) fun e s' out => out
    cases fl with
    | ret u =>
      obtain ⟨v, σ2, H2, J, rv, q⟩ := out
      exact ⟨v, H2, J.os, J.bare, J.base, J.hok, rv, q⟩
    | next =>
      obtain ⟨σ2, H2, J, q⟩ := out
      exact ⟨V.non, H2, J.os, J.bare, J.base, J.hok, rfl, q⟩
    | brk => exact out.elim fun _ z => z.elim fun _ z => z.2.elim
    | cont => exact out.elim fun _ z => z.elim fun _ z => z.2.elim
end
section
variable {X : Cx} {k : Nat} {f : Addr} {fd : FuncData} {ps : List Str} {sp : Sp} {x : Str} {p pos : Pos} {e : Expr} {es : List Expr} {t : TA}
/-- f(e, ..) of such a def -/
theorem pe_callG (F : FnG X.prog X.w X.K X.mg X.base k f fd ps sp) (hgd : X.A.guards = some []) (hr : Room k X.A) (hg : Gl X x) (hm : X.mg x = some (.ref f)) (hk : PySem.W.keepIn X.K (.ref f) = true) (hb : Binds X.K fd ps [])
    (ha : PA X (e :: es) t) (hdb : (x == ("__debug__" : Str)) = false := by decide) (hs : starEach (e :: es) X.env = (false, eval e X.env) :: starEach es X.env := by rfl) (hpl : (backTo pos (starEach es X.env)).any (·.1) = false := by rfl) :
    PE X (.Call (.Name x p) (e :: es) [] pos) (tCall sp [] E0 t) := by
  refine ⟨fun pins s σ H Q I h => ?_⟩
  refine wpAny_Call_Name_kw (ld_glob I hg hm ?_ hdb)
  refine PySem.W.callWith_K (h₀ := X.base) I.ok.mod.kin hk (thn (ha.run pos pins s σ H _ I h) fun us s1 ⟨vs, H1, I1, r, q⟩ => ⟨I1.kIn, ?_⟩) hs hpl
  have q1 : sp vs H1 Q E0 := by
    have z : sp (vs ++ []) H1 Q E0 := q
    rw [List.append_nil] at z
    exact z
  have n1 : (us ++ []).length = ps.length := by rw [List.append_nil, ← r.length, F.len _ _ _ q1]
  have b1 := hb s1 us I1.kIn n1
  rw [List.append_nil] at b1
  refine wpAny_call (codeAny_mono (F.run X.A X.stack s1 H1 ⟨us, []⟩ us vs Q hgd hr I1.env0 b1 r q1) fun r s' z => ?_)
  cases r with
  | error er => exact False.elim z
  | ok fl =>
    cases fl with
    | ret u => exact I1.after z
    | next => exact z.elim
    | brk => exact z.elim
    | cont => exact z.elim
end
/-- the law's call behind the top, by such a promise -/
theorem topG {P : Program} {w : World} {K : PySem.W.Frag} {mg mb : Str → Option Value} {k : Nat} {fa a : Addr} {fd : FuncData} {x : Str} {sp : Sp} {s1 : Shared} {vs : List Value} {ns : List Int}
    (KX : K.In s1.heap) (gm : s1.heap.Ns mainGlobals mg) (gb : s1.heap.Ns builtinsNs mb) (bb : ∀ x : Str, x ≠ "__name__" → mb x = bootBuiltins x) (lim : s1.heap.NoLimit) (gn : s1.gens = #[])
    (ha : s1.heap.get? a = some { cls := .type "list", data := .seq vs.toArray }) (hi : IntsAre vs ns) (hl : ns.length ≤ sizeLine) (hr : Room k callerA)
    (F : ∀ base : Heap, K.In base → base.Ns mainGlobals mg → FnG P w K mg base k fa fd [x] sp) (bind : ∀ (s : Shared) (u : Value), BindsTo s fd ⟨[u], []⟩ [(x, u)])
    (want : ∀ H : Hp, SqL K H a (ns.map V.int) → sp [.ref a] H (fun v _ => v = .bl true) E0) :
    codeAny (model P w) callerA (.call (.ref fa) ⟨[.ref a], []⟩) (fun r s' => r = .ok (.ret (.bool true)) ∧ OldK s1.heap s'.heap ∧ s'.os = s1.os ∧ AllBare s'.gens) s1 := by
  have rints := vals_ints hi
  have nv := hi.length
  obtain ⟨H, hS, hH, hM⟩ : ∃ H : Hp, SqL K H a (ns.map V.int) ∧ (∀ b u, H b = some u → b = a ∧ K.lookup a = none ∧ u = .frz { cls := .type "list", data := .seq vs.toArray } (.lst (ns.map V.int))) ∧ True := by
    cases hk : K.lookup a with
    | some o =>
      have e := (KX a o hk).symm.trans ha
      cases e
      exact ⟨fun _ => none, .inr ⟨_, vs.toArray, _, hk, rfl, rfl, rfl, by rw [List.size_toArray, nv]; exact hl, by simpa using rints⟩, fun b u z => (nomatch z), trivial⟩
    | none =>
      refine ⟨fun b => if b = a then some (.frz { cls := .type "list", data := .seq vs.toArray } (.lst (ns.map V.int))) else none, .inl (.inr ⟨_, if_pos rfl⟩), fun b u z => ?_, trivial⟩
      by_cases q : b = a
      · have z2 : (if b = a then some (HO.frz { cls := .type "list", data := .seq vs.toArray } (.lst (ns.map V.int))) else none) = some u := z
        rw [if_pos q] at z2
        exact ⟨q, rfl, (Option.some.inj z2).symm⟩
      · have z2 : (if b = a then some (HO.frz { cls := .type "list", data := .seq vs.toArray } (.lst (ns.map V.int))) else none) = some u := z
        rw [if_neg q] at z2
        cases z2
  have ok0 : HOk P w H s1.heap := fun b u z => by
    obtain ⟨rfl, _, rfl⟩ := hH b u z
    exact ⟨ha, by rw [List.length_map]; exact hl, vs, _, rints, ha⟩
  have hidden : ∀ {b : Addr} {o : Obj}, s1.heap.get? b = some o → H b = none → (hidT s1.heap H).get? b = some o := fun e n => hidT_get e n
  have dictFree : ∀ {b : Addr} {o : Obj} {es : Array DictEntry} {ep : Nat}, s1.heap.get? b = some o → o.data = .dict es ep → H b = none := fun {b o es ep} e d => by
    cases q : H b with
    | none => rfl
    | some u =>
      obtain ⟨rfl, _⟩ := hH b u q
      have z := ha.symm.trans e
      cases z
      cases d
  have nsk : ∀ {b : Addr} {m : Str → Option Value}, s1.heap.Ns b m → (hidT s1.heap H).Ns b m := fun {b m} ⟨o, es, ep, e, d, r⟩ => ⟨o, es, ep, hidden e (dictFree e d), d, r⟩
  have KB : K.In (hidT s1.heap H) := fun b o e => hidden (KX b o e) (by
    cases q : H b with
    | none => rfl
    | some u =>
      obtain ⟨rfl, z, _⟩ := hH b u q
      rw [z] at e
      cases e)
  obtain ⟨mc, l1, l2⟩ := lim
  have M0 : Mod K mg (hidT s1.heap H) := ⟨KB, nsk gm, ⟨mb, nsk gb, bb⟩, ⟨mc, nsk l1, l2⟩⟩
  have env0 : Env0 P w K mg (hidT s1.heap H) callerA [] s1 H := ⟨rfl, M0, fun b o e => of_hidT e, Nat.le_of_eq (hidT_size _ _), trivial, fun b z => (List.not_mem_nil z).elim, ok0, .of_eq gn⟩
  refine codeAny_mono ((F _ KB (nsk gm)).run callerA [] s1 H ⟨[.ref a], []⟩ [.ref a] [.ref a] _ rfl hr env0 (bind s1 (.ref a)) (.cons rfl .nil) (want H hS)) fun r s' out => ?_
  cases r with
  | error er => exact False.elim out
  | ok fl =>
    cases fl with
    | next => exact out.elim
    | brk => exact out.elim
    | cont => exact out.elim
    | ret u =>
      obtain ⟨v, H2, os2, bare, un, ok2, rv, q⟩ := out
      have q2 : v = .bl true := q
      subst q2
      obtain rfl : u = Value.bool true := rv
      refine ⟨rfl, OldK.of_keep fun b o e => ?_, os2, bare⟩
      cases q : H b with
      | none => exact un.keep b o e q (fun z => (List.not_mem_nil z).elim) (fun z => (List.not_mem_nil z).elim)
      | some u =>
        obtain ⟨rfl, _, rfl⟩ := hH b u q
        have z2 := un.frzs b _ _ q
        have e2 := (ok2 b _ z2).1
        have z3 := ha.symm.trans e
        cases z3
        exact e2
end Vb
end L2

set_option Elab.async false
set_option linter.all false
set_option maxRecDepth 100000
set_option maxHeartbeats 4000000
/-! Vb, part 40: lists of new rows that grow; any of numbers. -/
namespace L2
namespace Vb
open PySem PySem.Spec PyProof.Rows
section
variable {X : Cx}
def rAnyI (K : PySem.W.Frag) : List V → Hp → VK → Prop := fun vs H Q => ∃ (a : Addr) (ns : List Int), vs = [V.ref a] ∧ SqL K H a (ns.map V.int) ∧ Q (.bl (ns.any fun n => decide (n ≠ 0))) H
theorem any_rangeI : ∀ ns : List Int, (List.range ns.length).any (fun i => decide (ns.getD i 0 ≠ 0)) = ns.any fun n => decide (n ≠ 0)
  | [] => rfl
  | n :: ns => by
    rw [List.length_cons, List.range_succ_eq_map, List.any_cons, List.any_map, List.any_cons, ← any_rangeI ns]
    rfl
theorem cr_anyI (hc : X.calm = true) : CallR X (.builtin "any") (rAnyI X.K) := by
  intro pins s σ H vs us Q I r h
  obtain ⟨a, ns, rfl, hs, q⟩ := h
  obtain ⟨its, rv, hl, _⟩ := I.list hs
  rw [Vals.ref1 r]
  have hi := rv.ints
  refine call_any_walk (iter_any hl.isList fun s₂ e2 st hne => ?_)
  subst e2
  refine ⟨_, _, _, _, _, _, _, rfl, Walks.list (A := X.A.in1) (I.ok.hd hc) _ a hne its.toArray, st, truth_ints hi, fun h' tk hk => ?_⟩
  refine ⟨.bl _, H, I.kept fun b o eo => hk b o (fun hmem => ?_) (Heap.get?_push_of_some _ eo), ?_, q⟩
  · rcases List.mem_cons.mp hmem with e1 | hmem
    · exact absurd (e1 ▸ Heap.lt_size eo) (Nat.lt_irrefl _)
    · cases hmem
  · show Value.bool _ = Value.bool _
    rw [← any_rangeI, List.size_toArray, hi.length]
end
theorem boot_any' : bootBuiltins ("any" : Str) = some (.builtin "any") := by decide +kernel
end Vb
end L2

set_option Elab.async false
set_option linter.all false
set_option maxRecDepth 100000
set_option maxHeartbeats 4000000
/-! Vb, part 41: meeting. -/
namespace L2
namespace Vb
open PySem PySem.Spec PyProof.Rows
open LinA (augZ putZ Meets)
abbrev sMeet : Stmt := topS 28
abbrev nMeet : List Str := ["prime", "vectors", "aims", "length", "table", "pivots", "row", "found", "place", "vector", "aim"]
theorem augZ_get {T : List (List Int)} {aims : List Int} {k : Nat} {xs : List Int} {a : Int} (h1 : T[k]? = some xs) (h2 : aims[k]? = some a) : (augZ T aims)[k]? = some (xs ++ [a]) := by
  unfold augZ
  rw [List.getElem?_zipWith, h1, h2]
theorem cut_drop (xs : List V) (n : Nat) : cutV xs (some (n : Int)) none = xs.drop n := by
  unfold cutV
  rw [HT.sIx_none, HT.sIx_nat]
  rcases Nat.le_total n xs.length with h | h
  · rw [Nat.min_eq_left h]
    exact List.take_of_length_le (by rw [List.length_drop]; exact Nat.le_refl _)
  · rw [Nat.min_eq_right h, List.drop_length, List.drop_eq_nil_of_le h, List.take_nil]
theorem rws_drop {H : Hp} {as : List Addr} {T : List (List Int)} (h : Rws H as T) (n : Nat) : Rws H (as.drop n) (T.drop n) := by
  induction h generalizing n with
  | nil => rw [List.drop_nil, List.drop_nil]; exact .nil
  | cons r t ih =>
    cases n with
    | zero => exact .cons r t
    | succ n => exact ih n
/-- v is the answer r, new -/
def OptRw (H H' : Hp) (v : V) : Option (List Int) → Prop
  | none => v = .non
  | some x => ∃ d, v = .ref d ∧ H d = none ∧ Rw H' d x
theorem nat_get {t : List Nat} {k : Nat} {x : V} (h : (t.map nat_)[k]? = some x) : ∃ c, x = nat_ c ∧ t[k]? = some c := by
  rw [List.getElem?_map] at h
  obtain ⟨c, hc, e⟩ := Option.map_eq_some_iff.mp h
  exact ⟨c, e.symm, hc⟩
theorem any_not {E : List (List Int)} {n : Nat} (h : ((E.map fun xs => xs.getD n 0).any fun n => decide (n ≠ 0)) = false) : ∀ e ∈ E, e.getD n 0 = 0 := fun e me => by
  have z := List.any_eq_false.mp h _ (List.mem_map_of_mem me)
  exact Classical.byContradiction fun q => z (decide_eq_true q)
theorem any_yes {E : List (List Int)} {n : Nat} (h : ((E.map fun xs => xs.getD n 0).any fun n => decide (n ≠ 0)) = true) : ∃ e ∈ E, e.getD n 0 ≠ 0 := by
  obtain ⟨x, mx, hx⟩ := List.any_eq_true.mp h
  obtain ⟨e, me, rfl⟩ := List.mem_map.mp mx
  exact ⟨e, me, of_decide_eq_true hx⟩
section
variable {P : Program} {w : World} {K : PySem.W.Frag} {mg : Str → Option Value} {base : Heap}
def spMeet : Sp := fun vs H Q _ => ∃ (p : Nat) (m b : Addr) (n : Nat) (as : List Addr) (T : List (List Int)) (aims : List Int), vs = [.int (p : Int), .ref m, .ref b, .int (n : Int)] ∧ 2 ≤ p ∧ p ≤ 65537 ∧ Prm p ∧ H m = some (.lst (as.map V.ref)) ∧ Rws H as T ∧ (∀ xs ∈ T, Vc (p : Int) n xs) ∧ Rw H b aims ∧ Vc (p : Int) T.length aims ∧ n < 1000 ∧ T.length ≤ 1000 ∧
  ∀ (H' : Hp) (v : V) (r : Option (List Int)), Same H H' → OptRw H H' v r → Meets p n T aims r → Q v H'
theorem scMeet : FnScope nMeet ["prime", "vectors", "aims", "length"] (defScope sMeet) := ⟨rfl, rfl, rfl, by decide +kernel, rfl, by decide +kernel, by decide +kernel⟩
theorem ok_meet {f fE : Addr} {fd fdE : FuncData} (F : Fun K "meeting" "meeting" sMeet f fd) (FE : Fun K "eliminated" "eliminated" sElim fE fdE) (GE : FnOk P w K mg base CX0 3 fE fdE ["prime", "vectors", "width"] spElim) (gE : mg "eliminated" = some (.ref fE)) (gN : mg "len" = none) (gZ : mg "zip" = none) (gA : mg "any" = none) :
    FnOk P w K mg base CX0 4 f fd ["prime", "vectors", "aims", "length"] spMeet := by
  have bE : Binds K fdE ["prime", "vectors", "width"] [] := FE.binds fun _ _ _ _ _ _ us hl => match us, hl with | [_, _, _], _ => rfl
  refine F.ok scMeet (fun vs H Q E h => ?_) (fun cdv A outer s0 H vs Q E hr h => ?_)
  · obtain ⟨p, m, b, n, as, T, aims, rfl, _⟩ := h
    rfl
  · obtain ⟨p, m, b, n, as, T, aims, rfl, p2, p6, pr, hm, hT, hv, hb, ha, hn, tL, want⟩ := h
    have hb : H b = some (.lst (aims.map V.int)) := hb
    haveI : NeZero p := ⟨by omega⟩
    refine ⟨_, pss_cons (ps_asg (pe_call GE hr rfl gE FE.kp bE .nil pass0 (pa_cons (pv 0) (pa_cons
          (pe_lc (own := [("vector", 9), ("aim", 10)]) (g := gTup K 2 (gCons (gName 9) (gCons (gName 10) gNil))) (tt := tYes) (te := tOp rCat (tVar 9) (tLst (tCons (tVar 10) tNil))) rfl scMeet.nd (pi_zip (by rfl) gZ (pa_cons (pv 1) (pa_cons (pv 2) pa_nil)))
            (blkOk_by (N := nMeet) (sc := defScope sMeet) (by decide +kernel)) (fun _ _ _ _ _ => pg_tup rfl (pgs_cons (pg_name (i := 9) scMeet.nd rfl (Or.inl rfl)) (pgs_cons (pg_name (i := 10) scMeet.nd rfl (Or.inl rfl)) pgs_nil))) (fun _ _ _ _ _ => pts_nil)
            (fun _ _ _ _ _ => pe_op op_cat (pv 9) (pe_lst (pa_cons (pv 10) pa_nil)))) (pa_cons (pv 3) pa_nil))))
          (pg_tup rfl (pgs_cons (pg_name (i := 4) scMeet.nd rfl (Or.inl rfl)) (pgs_cons (pg_name (i := 5) scMeet.nd rfl (Or.inl rfl)) pgs_nil))))
      (pss_cons (ps_if (pt_val (pe_callB (cr_anyI rfl) (by rfl) gA boot_any' (pa_cons (pe_lc (own := [("row", 6)]) (g := gName 6) (tt := tYes) (te := tOp (rIxL K) (tVar 6) (tVar 3)) rfl scMeet.nd
            (pi_list (pe_slice sl_list (pv 4) (po_some (pe_callB call_len_seq (by rfl) gN PySem.boot_len (pa_cons (pv 5) pa_nil))) po_none)) (blkOk_by (N := nMeet) (sc := defScope sMeet) (by decide +kernel))
            (fun _ _ _ _ _ => pg_name (i := 6) scMeet.nd rfl (Or.inl rfl)) (fun _ _ _ _ _ => pts_nil) (fun _ _ _ _ _ => pe_ix ix_list (pv 6) (pv 3) (fun _ _ => rfl))) pa_nil)))
          (pss_one (ps_ret pe_non)) pss_nil)
      (pss_cons (ps_set (i := 7) scMeet.nd rfl (Or.inl rfl) (pe_op op_rep (pe_lst (pa_cons pe_int pa_nil)) (pv 3)))
      (pss_cons (ps_for PassesOwn.never rfl (pi_zip (by rfl) gZ (pa_cons (pv 4) (pa_cons (pv 5) pa_nil))) (pg_tup rfl (pgs_cons (pg_name (i := 6) scMeet.nd rfl (Or.inl rfl)) (pgs_cons (pg_name (i := 8) scMeet.nd rfl (Or.inl rfl)) pgs_nil)))
        (pss_one (ps_asg (pe_ix ix_list (pv 6) (pv 3) (fun _ _ => rfl)) (pg_sub (pv 7) (pv 8) set_list))))
      (pss_one (ps_ret (pv 7)))))), ?_⟩
    refine ⟨_, rfl, ?_⟩
    refine ⟨_, rfl, _, rfl, m, b, _, _, rfl, SqL.of hm, SqL.of hb, ?_⟩
    intro D hD
    have la : (as.map V.ref).length = T.length := by rw [List.length_map, hT.len]
    have lb : (aims.map V.int).length = T.length := by rw [List.length_map, ha.1]
    have lA : (augZ T aims).length = T.length := by
      unfold augZ
      rw [List.length_zipWith, ha.1, Nat.min_self]
    refine lc_it (walk_zip (n := T.length) (by rw [la, lb, Nat.min_self])) (Grow H D (augZ T aims)) (Grow.start hD) (fun i H' _ z => ⟨SqL.of (z.1 _ _ hm), SqL.of (z.1 _ _ hb)⟩) ?_ ?_
    · rintro k x H1 H' hk g ⟨T2, x1, x2, rfl, nT, rfl, e1, e2⟩
      obtain ⟨c, xs, rfl, hc, mx, ht, _⟩ := rws_at hT e1
      obtain ⟨a, rfl, ma, hak⟩ := mem_ints e2
      have s2 := same_new (o := .tup [V.ref c, V.int a]) nT
      refine ⟨T2, _, rfl, SqT.of upd_same, rfl, _, _, rfl, ?_⟩
      refine ⟨_, _, rfl, rfl, rfl, tyes ?_⟩
      have hc1 : upd H1 T2 (.tup [V.ref c, V.int a]) c = some (.lst (xs.map V.int)) := s2 _ _ (g.1 _ _ hc)
      refine ⟨_, rfl, _, rfl, by show 1 ≤ sizeLine; decide, fun q hq => ?_⟩
      have s3 := same_new (o := .lst [V.int a]) hq
      have lx : xs.length = n := (hv xs mx).1
      refine ⟨c, q, _, _, rfl, rfl, s3 _ _ hc1, upd_same, by rw [List.length_map, sizeLine_eq, lx]; show n + 1 ≤ 16777216; omega, fun l hl => ?_⟩
      have s4 := same_new (o := .lst (xs.map V.int ++ [V.int a])) hl
      obtain ⟨acc, k1, k2, k3⟩ := g.step (d := l) (row := xs ++ [a]) hD (same_trans s2 (same_trans s3 s4)) (same_trans s2 s3 |>.free hl) (by
        show upd _ l _ l = some (.lst ((xs ++ [a]).map V.int))
        rw [upd_same, List.map_append]
        rfl) (augZ_get ht hak)
      exact ⟨acc, k1, by rw [k2]; exact size_ok (by omega), k3⟩
    · intro H1 g
      obtain ⟨s1, cs, hD1, hcs, fr, lcs⟩ := g.done (by rw [lA]; exact Nat.le_refl _)
      have vA : ∀ xs ∈ augZ T aims, Vc (p : Int) (n + 1) xs := LinA.augZ_vec hv ha
      refine ⟨_, rfl, p, D, n + 1, n, cs, augZ T aims, rfl, p2, p6, pr, hD1, hcs, vA, Nat.le_succ n, hn, by rw [lA]; exact tL, fun H2 tb mt pv bs Dn En t s2 ntb nmt npv nmp htb hmt hpv hDE frb way tk ld le => ?_⟩
      have sm := same_trans s1 s2
      refine ⟨tb, _, rfl, SqT.of htb, rfl, _, _, rfl, _, _, rfl, rfl, ?_⟩
      obtain ⟨no, yes⟩ := LinA.meets_way (m := T.length) (by omega) hv ha way
      have lE : (bs.map V.ref).length = (Dn ++ En).length := by rw [List.length_map, hDE.len]
      have vDE : ∀ xs ∈ Dn ++ En, xs.length = n + 1 := fun xs mx => (List.mem_append.mp mx).elim (fun q => (way.vd xs q).1) fun q => (way.ve xs q).1
      -- the rest's last numbers
      refine ⟨_, rfl, ⟨_, rfl, pv, _, rfl, .inl (SqL.of hpv), _, rfl, mt, _, rfl, SqL.of hmt, fun q hq => ?_⟩⟩
      rw [cut_drop, List.length_map, ← List.map_drop]
      have hE : Rws H2 (bs.drop t.length) En := by
        have z := rws_drop hDE t.length
        rw [← ld, List.drop_left] at z
        rw [← ld]
        exact z
      have s3 := same_new (o := .lst ((bs.drop t.length).map V.ref)) hq
      refine ⟨q, rfl, ⟨_, SqL.of upd_same⟩, ?_⟩
      intro D2 hD2
      have lEn : (En.map fun xs => xs.getD n 0).length = En.length := List.length_map ..
      refine lc_list (GrowI (upd H2 q (.lst ((bs.drop t.length).map V.ref))) D2 (En.map fun xs => xs.getD n 0)) (GrowI.start hD2) (fun i H' _ z => SqL.of (z.1 _ _ upd_same)) ?_ ?_
      · rintro k x H' hx g2
        obtain ⟨c, xs, rfl, hc, mx, ht, _⟩ := rws_at hE hx
        have hc' : H' c = some (.lst (xs.map V.int)) := g2.1 _ _ (s3 _ _ hc)
        have hcn := int_get (xs := xs) (vDE xs (List.mem_append_right _ mx)) (Nat.lt_succ_self n)
        refine ⟨rfl, tyes ?_⟩
        refine ⟨_, rfl, _, rfl, c, _, (n : Int), _, rfl, rfl, SqL.of hc', atI_nat hcn, ?_⟩
        obtain ⟨acc, k1, k2, k3⟩ := g2.step (x := xs.getD n 0) hD2 same_rfl (by rw [List.getElem?_map, ht]; rfl)
        have kl : k < En.length := (List.getElem?_eq_some_iff.mp ht).1
        exact ⟨acc, k1, size_ok (by omega), k3⟩
      · intro H3 g2
        rw [List.length_map, hE.len] at g2
        obtain ⟨s4, hD3⟩ := g2.done (by rw [lEn]; exact Nat.le_refl _)
        have s34 := same_trans s3 s4
        have sm4 := same_trans sm s34
        refine ⟨D2, _, rfl, SqL.of hD3, _, rfl, ?_⟩
        cases hany : ((En.map fun xs => xs.getD n 0).any fun n => decide (n ≠ 0)) with
        | true => exact iteT (want H3 .non none sm4 rfl (no (any_yes hany)))
        | false =>
          have z0 := any_not hany
          have fin := yes z0
          refine iteF ?_
          refine ⟨by show 1 ≤ sizeLine; decide, fun z hz => ?_⟩
          refine ⟨_, rfl, z, (n : Int), [V.int 0], rfl, rfl, upd_same, by omega, by omega, by rw [Int.toNat_natCast, sizeLine_eq]; show 1 * n ≤ 16777216; omega, fun d hd => ?_⟩
          have e0 := rep_zeros n
          rw [e0]
          have s5 := same_new (o := .lst [V.int 0]) hz
          have s6 := same_new (o := .lst ((List.replicate n (0 : Int)).map V.int)) hd
          have s26 := same_trans s34 (same_trans s5 s6)
          have nH : H d = none := (same_trans sm4 s5).free hd
          have nm1 : mt ≠ d := fun e => by
            rw [← e, same_trans s34 s5 _ _ hmt] at hd
            cases hd
          have np1 : pv ≠ d := fun e => by
            rw [← e, same_trans s34 s5 _ _ hpv] at hd
            cases hd
          have hmt6 := s26 _ _ hmt
          have hpv6 := s26 _ _ hpv
          have hDE6 := rws_up hDE s26
          have lz : min (bs.map V.ref).length (t.map nat_).length = t.length := by
            rw [lE, List.length_map, List.length_append]
            omega
          refine ⟨_, rfl, _, rfl, mt, pv, _, _, rfl, SqL.of hmt6, SqL.of hpv6, ?_⟩
          refine for_it (walk_zip (n := t.length) lz.symm) (fun k σ H' => (∃ u v, σ = [some (.int (p : Int)), some (.ref m), some (.ref b), some (.int (n : Int)), some (.ref mt), some (.ref pv), u, some (.ref d), v, none, none]) ∧ But d (upd (upd H3 z (.lst [V.int 0])) d (.lst ((List.replicate n (0 : Int)).map V.int))) H' ∧ H' d = some (.lst ((LinA.putF (fun z : List Int × Nat => z.2) (fun z => z.1.getD n 0) ((Dn.zip t).take k) (List.replicate n 0)).map V.int)))
            ⟨⟨_, _, rfl⟩, but_same same_rfl, upd_same⟩ (fun i σ H' _ y => ⟨SqL.of (y.2.1 _ nm1 _ hmt6), SqL.of (y.2.1 _ np1 _ hpv6)⟩) ?_ ?_
          · rintro k x σ H5 H6 hk ⟨⟨u, v, rfl⟩, bt, hd5⟩ ⟨T2, x1, x2, rfl, nT, rfl, e1, e2⟩
            obtain ⟨c, xs, rfl, hc, mx, ht, hbs⟩ := rws_at hDE6 e1
            obtain ⟨pl, rfl, hpl⟩ := nat_get e2
            have s7 := same_new (o := .tup [V.ref c, nat_ pl]) nT
            have ncd : c ≠ d := fun e => by
              have hc0 : upd (upd H3 z (.lst [V.int 0])) d (.lst ((List.replicate n (0 : Int)).map V.int)) c = some (.lst (xs.map V.int)) := hc
              have q9 := fr
              have mc : c ∈ bs := List.mem_of_getElem? hbs
              obtain ⟨o9, z9⟩ := rws_some hDE mc
              rw [e] at z9
              rw [same_trans s34 s5 _ _ z9] at hd
              cases hd
            have hc5 : H5 c = some (.lst (xs.map V.int)) := bt c ncd _ hc
            have hcn := int_get (xs := xs) (vDE xs mx) (Nat.lt_succ_self n)
            refine ⟨T2, _, rfl, SqT.of upd_same, rfl, _, _, rfl, ?_⟩
            refine ⟨_, _, rfl, rfl, ?_⟩
            refine ⟨_, rfl, _, rfl, c, _, (n : Int), _, rfl, rfl, SqL.of (s7 _ _ hc5), atI_nat hcn, ?_⟩
            have ltp : pl < n := tk pl (List.mem_of_getElem? hpl)
            refine ⟨_, rfl, _, rfl, d, _, (pl : Int), pl, rfl, rfl, s7 _ _ hd5, ixN_nat (by rw [List.length_map, LinA.putF_len, List.length_replicate]; exact ltp), ?_⟩
            have kl : k < t.length := (List.getElem?_eq_some_iff.mp hpl).1
            have hxs : Dn[k]? = some xs := by
              rw [List.getElem?_append_left (by omega)] at ht
              exact ht
            have hz2 : (Dn.zip t)[k]? = some (xs, pl) := List.getElem?_zip_eq_some.mpr ⟨hxs, hpl⟩
            refine ⟨⟨_, _, rfl⟩, (bt.trans (but_same s7)).trans but_upd, ?_⟩
            rw [upd_same, List.take_succ, hz2]
            unfold LinA.putF
            rw [Option.toList_some, List.foldl_append, List.foldl_cons, List.foldl_nil, List.map_set]
          · rintro σ H5 ⟨⟨u, v, rfl⟩, bt, hd5⟩
            rw [List.take_of_length_le (by rw [List.length_zip]; omega)] at hd5
            refine ⟨_, rfl, want H5 (.ref d) (some (putZ n Dn t)) (fun b9 o e => ?_) ⟨d, rfl, nH, hd5⟩ fin⟩
            have n9 : b9 ≠ d := fun q => by
              rw [q, nH] at e
              cases e
            exact bt b9 n9 o (same_trans sm4 (same_trans s5 s6) _ _ e)
end
end Vb
end L2

set_option Elab.async false
set_option linter.all false
set_option maxRecDepth 100000
set_option maxHeartbeats 4000000
/-! Vb, part 42: crossing. -/
namespace L2
namespace Vb
open PySem PySem.Spec PyProof.Rows
open LinA (kerZ kersZ Ker)
abbrev sCross : Stmt := topS 29
abbrev nCross : List Str := ["prime", "vectors", "length", "table", "pivots", "found", "place", "vector", "row", "pivot"]
theorem in_nats (f : Nat) (t : List Nat) : inV (nat_ f) (t.map nat_) = decide (f ∈ t) := by
  unfold inV
  induction t with
  | nil => rfl
  | cons c t ih =>
    rw [List.map_cons, List.any_cons, ih]
    have e : eqV (nat_ c) (nat_ f) = decide (f = c) := by
      show decide ((c : Int) = (f : Int)) = decide (f = c)
      by_cases q : f = c
      · rw [q, decide_eq_true rfl, decide_eq_true rfl]
      · rw [decide_eq_false q, decide_eq_false (by omega)]
    rw [e]
    by_cases q : f = c
    · rw [decide_eq_true q, decide_eq_true (p := f ∈ c :: t) (by rw [q]; exact List.mem_cons_self)]
      rfl
    · rw [decide_eq_false q, Bool.false_or]
      by_cases q2 : f ∈ t
      · rw [decide_eq_true q2, decide_eq_true (List.mem_cons_of_mem _ q2)]
      · rw [decide_eq_false q2, decide_eq_false fun m => (List.mem_cons.mp m).elim q q2]
theorem flat_nats (t : List Nat) : (t.map nat_).all flatV = true := by
  refine List.all_eq_true.mpr fun x m => ?_
  obtain ⟨c, _, rfl⟩ := List.mem_map.mp m
  rfl
/-- the rows of the free places below k -/
def kersTo (p L : Nat) (D : List (List Int)) (t : List Nat) (k : Nat) : List (List Int) := ((List.range k).filter fun f => decide (f ∉ t)).map (kerZ p L D t)
theorem kersTo_succ (p L : Nat) (D : List (List Int)) (t : List Nat) (k : Nat) : kersTo p L D t (k + 1) = if k ∈ t then kersTo p L D t k else kersTo p L D t k ++ [kerZ p L D t k] := by
  unfold kersTo
  rw [List.range_succ, List.filter_append, List.map_append]
  by_cases q : k ∈ t
  · rw [if_pos q, List.filter_cons_of_neg (by simpa using q)]
    simp
  · rw [if_neg q, List.filter_cons_of_pos (by simpa using q)]
    simp
theorem kersTo_len (p L : Nat) (D : List (List Int)) (t : List Nat) (k : Nat) : (kersTo p L D t k).length ≤ k := by
  unfold kersTo
  rw [List.length_map]
  have z := List.length_filter_le (fun f => decide (f ∉ t)) (List.range k)
  rw [List.length_range] at z
  exact z
section
variable {P : Program} {w : World} {K : PySem.W.Frag} {mg : Str → Option Value} {base : Heap}
/-- what crossing leaves -/
def Crossed (H : Hp) (p L : Nat) (T : List (List Int)) (H' : Hp) (d : Addr) (bs : List Addr) (B : List (List Int)) : Prop :=
  Same H H' ∧ H d = none ∧ H' d = some (.lst (bs.map V.ref)) ∧ Rws H' bs B ∧ (∀ b ∈ bs, H b = none) ∧ B.length ≤ L ∧ ∃ (F : List (List Int)) (t : List Nat), LinA.Bas p L F B t ∧ ∀ xs, LinA.InS p L F xs ↔ Ker p L T xs
def spCross : Sp := fun vs H Q _ => ∃ (p : Nat) (m : Addr) (L : Nat) (as : List Addr) (T : List (List Int)), vs = [.int (p : Int), .ref m, .int (L : Int)] ∧ 2 ≤ p ∧ p ≤ 65537 ∧ Prm p ∧ H m = some (.lst (as.map V.ref)) ∧ Rws H as T ∧ (∀ xs ∈ T, Vc (p : Int) L xs) ∧ L ≤ 1000 ∧ T.length ≤ 1000 ∧
  ∀ (H' : Hp) (d : Addr) (bs : List Addr) (B : List (List Int)), Crossed H p L T H' d bs B → Q (.ref d) H'
theorem scCross : FnScope nCross ["prime", "vectors", "length"] (defScope sCross) := ⟨rfl, rfl, rfl, by decide +kernel, rfl, by decide +kernel, by decide +kernel⟩
theorem ok_cross {f fE fB : Addr} {fd fdE fdB : FuncData} (F : Fun K "crossing" "crossing" sCross f fd) (FE : Fun K "eliminated" "eliminated" sElim fE fdE) (GE : FnOk P w K mg base CX0 3 fE fdE ["prime", "vectors", "width"] spElim) (gE : mg "eliminated" = some (.ref fE))
    (FB : Fun K "basis_of" "basis_of" sBas fB fdB) (GB : FnOk P w K mg base CX0 4 fB fdB ["prime", "vectors"] spBas) (gB : mg "basis_of" = some (.ref fB)) (gR : mg "range" = none) (gZ : mg "zip" = none) :
    FnOk P w K mg base CX0 5 f fd ["prime", "vectors", "length"] spCross := by
  have bE : Binds K fdE ["prime", "vectors", "width"] [] := FE.binds fun _ _ _ _ _ _ us hl => match us, hl with | [_, _, _], _ => rfl
  have bB : Binds K fdB ["prime", "vectors"] [] := FB.binds fun _ _ _ _ _ _ us hl => match us, hl with | [_, _], _ => rfl
  refine F.ok scCross (fun vs H Q E h => ?_) (fun cdv A outer s0 H vs Q E hr h => ?_)
  · obtain ⟨p, m, L, as, T, rfl, _⟩ := h
    rfl
  · obtain ⟨p, m, L, as, T, rfl, p2, p6, pr, hm, hT, hv, hL, tL, want⟩ := h
    haveI : NeZero p := ⟨by omega⟩
    refine ⟨_, pss_cons (ps_asg (pe_call GE (hr.mono (by decide)) rfl gE FE.kp bE .nil pass0 (pa_cons (pv 0) (pa_cons (pv 1) (pa_cons (pv 2) pa_nil))))
          (pg_tup rfl (pgs_cons (pg_name (i := 3) scCross.nd rfl (Or.inl rfl)) (pgs_cons (pg_name (i := 4) scCross.nd rfl (Or.inl rfl)) pgs_nil))))
      (pss_cons (ps_set (i := 5) scCross.nd rfl (Or.inl rfl) (pe_lst pa_nil))
      (pss_cons (ps_for PassesOwn.never rfl (pi_range1 rfl gR (pa_cons (pv 2) pa_nil)) (pg_name (i := 6) scCross.nd rfl (Or.inl rfl))
        (pss_one (ps_if (pt_cmpR op_notIn_seq (pv 6) (pv 4) (by rfl))
          (pss_cons (ps_set (i := 7) scCross.nd rfl (Or.inl rfl) (pe_op op_rep (pe_lst (pa_cons pe_int pa_nil)) (pv 2)))
          (pss_cons (ps_asg pe_int (pg_sub (pv 7) (pv 6) set_list))
          (pss_cons (ps_for PassesOwn.never rfl (pi_zip (by rfl) gZ (pa_cons (pv 3) (pa_cons (pv 4) pa_nil))) (pg_tup rfl (pgs_cons (pg_name (i := 8) scCross.nd rfl (Or.inl rfl)) (pgs_cons (pg_name (i := 9) scCross.nd rfl (Or.inl rfl)) pgs_nil)))
            (pss_one (ps_asg (pe_op op_mod (pe_un un_neg (pe_ix ix_list (pv 8) (pv 6) (fun _ _ => rfl))) (pv 0)) (pg_sub (pv 7) (pv 9) set_list))))
          (pss_one (ps_expr (pe_bm PySem.F.plainAttrs_list PySem.F.slot_list_append PySem.F.type_list_append mt_append (pv 5) (pa_cons (pv 7) pa_nil))))))) pss_nil)))
      (pss_one (ps_ret (pe_call GB hr rfl gB FB.kp bB .nil pass0 (pa_cons (pv 0) (pa_cons (pv 5) pa_nil))))))), ?_⟩
    refine ⟨_, rfl, _, rfl, _, rfl, p, m, L, L, as, T, rfl, p2, p6, pr, hm, hT, hv, Nat.le_refl _, hL, tL, fun H1 tb mt pv bs Dn En t s1 ntb nmt npv nmp htb hmt hpv hDE frb way tk ld le => ?_⟩
    refine ⟨tb, _, rfl, SqT.of htb, rfl, _, _, rfl, _, _, rfl, rfl, ?_⟩
    refine ⟨by show 0 ≤ sizeLine; omega, fun fo hfo => ?_⟩
    have lE : (bs.map V.ref).length = (Dn ++ En).length := by rw [List.length_map, hDE.len]
    have vDE : ∀ xs ∈ Dn ++ En, xs.length = L := fun xs mx => (List.mem_append.mp mx).elim (fun q => (way.vd xs q).1) fun q => (way.ve xs q).1
    have lz : min (bs.map V.ref).length (t.map nat_).length = t.length := by
      rw [lE, List.length_map, List.length_append]
      omega
    have nf1 : mt ≠ fo := ne_of_none hmt hfo
    have nf2 : pv ≠ fo := ne_of_none hpv hfo
    have nf3 : ∀ b ∈ bs, b ≠ fo := fun b mb => by
      obtain ⟨o, z⟩ := rws_some hDE mb
      exact ne_of_none z hfo
    have nH : H fo = none := s1.free hfo
    refine ⟨_, rfl, (L : Int), rfl, by omega, by omega, ?_⟩
    rw [Int.toNat_natCast L]
    refine for_range (lo := 0) (n := L) (fun k σ H' => (∃ u1 u2 u3 u4, σ = [some (.int (p : Int)), some (.ref m), some (.int (L : Int)), some (.ref mt), some (.ref pv), some (.ref fo), u1, u2, u3, u4]) ∧ But fo H1 H' ∧ ∃ cs : List Addr, H' fo = some (.lst (cs.map V.ref)) ∧ Rws H' cs (kersTo p L Dn t k) ∧ (∀ b ∈ cs, b ≠ fo) ∧ ∀ b ∈ cs, H1 b = none)
      ⟨⟨_, _, _, _, rfl⟩, but_same (same_new hfo), [], upd_same, .nil, fun b z => (List.not_mem_nil z).elim, fun b z => (List.not_mem_nil z).elim⟩ ?_ ?_
    · rintro k σ H2 hk ⟨⟨u1, u2, u3, u4, rfl⟩, bt, cs, hfo2, hcs, nfo, frc⟩
      have e0 : (0 : Int) + (k : Int) = (k : Int) := by omega
      rw [e0]
      have hpv2 := bt pv nf2 _ hpv
      have hmt2 := bt mt nf1 _ hmt
      refine ⟨_, rfl, _, rfl, pv, _, rfl, .inl (SqL.of hpv2), rfl, flat_nats t, _, rfl, ?_⟩
      have ein : (if true = true then !inV (.int (k : Int)) (t.map nat_) else inV (.int (k : Int)) (t.map nat_)) = !decide (k ∈ t) := by
        rw [if_pos rfl]
        exact congrArg _ (in_nats k t)
      rw [ein]
      by_cases kt : k ∈ t
      · rw [decide_eq_true kt]
        refine iteF ⟨⟨_, _, _, _, rfl⟩, bt, cs, hfo2, ?_, nfo, frc⟩
        rw [kersTo_succ, if_pos kt]
        exact hcs
      · rw [decide_eq_false kt]
        refine iteT ?_
        have hmtB := bt
        refine ⟨by show 1 ≤ sizeLine; decide, fun z hz => ?_⟩
        refine ⟨_, rfl, z, (L : Int), [V.int 0], rfl, rfl, upd_same, by omega, by omega, by rw [Int.toNat_natCast, sizeLine_eq]; show 1 * L ≤ 16777216; omega, fun d hd => ?_⟩
        rw [rep_zeros L]
        have s5 := same_new (o := .lst [V.int 0]) hz
        have s6 := same_new (o := .lst ((List.replicate L (0 : Int)).map V.int)) hd
        have s56 := same_trans s5 s6
        -- vector[place] = 1
        refine ⟨_, rfl, _, rfl, d, _, (k : Int), k, rfl, rfl, upd_same, ixN_nat (by rw [List.length_map, List.length_replicate]; exact hk), ?_⟩
        have nd2 : H2 d = none := s5.free hd
        have nd1 : d ≠ fo := fun e => by
          rw [e, hfo2] at nd2
          cases nd2
        have dm : mt ≠ d := ne_of_none hmt2 nd2
        have dp : pv ≠ d := ne_of_none hpv2 nd2
        let H3 : Hp := upd (upd (upd H2 z (.lst [V.int 0])) d (.lst ((List.replicate L (0 : Int)).map V.int))) d (.lst (((List.replicate L (0 : Int)).map V.int).set k (.int 1)))
        have b23 : But d H2 H3 := (but_same s56).trans but_upd
        have hd3 : H3 d = some (.lst ((((List.replicate L (0 : Int)).set k 1)).map V.int)) := by
          show upd _ d _ d = _
          rw [upd_same, List.map_set]
        have hmt3 := b23 mt dm _ hmt2
        have hpv3 := b23 pv dp _ hpv2
        have nbd : ∀ b ∈ bs, b ≠ d := fun b mb e => by
          obtain ⟨o, q⟩ := rws_some hDE mb
          have q2 := bt b (nf3 b mb) o q
          rw [e, nd2] at q2
          cases q2
        have hDE3 : Rws H3 bs (Dn ++ En) := (hDE.mono fun b mb o e => bt b (nf3 b mb) o e).mono fun b mb o e => b23 b (nbd b mb) o e
        refine ⟨_, rfl, _, rfl, mt, pv, _, _, rfl, SqL.of hmt3, SqL.of hpv3, ?_⟩
        refine for_it (walk_zip (n := t.length) lz.symm) (fun i σ H' => (∃ v1 v2, σ = [some (.int (p : Int)), some (.ref m), some (.int (L : Int)), some (.ref mt), some (.ref pv), some (.ref fo), some (.int (k : Int)), some (.ref d), v1, v2]) ∧ But d H3 H' ∧ H' d = some (.lst ((LinA.putF (fun z : List Int × Nat => z.2) (fun z => -(z.1.getD k 0) % (p : Int)) ((Dn.zip t).take i) ((List.replicate L 0).set k 1)).map V.int)))
          ⟨⟨_, _, rfl⟩, but_same same_rfl, hd3⟩ (fun i σ H' _ y => ⟨SqL.of (y.2.1 _ dm _ hmt3), SqL.of (y.2.1 _ dp _ hpv3)⟩) ?_ ?_
        · rintro i x σ H5 H6 hi ⟨⟨v1, v2, rfl⟩, b35, hd5⟩ ⟨T2, x1, x2, rfl, nT, rfl, e1, e2⟩
          obtain ⟨c, xs, rfl, hc, mx, ht, hbs⟩ := rws_at hDE3 e1
          obtain ⟨pl, rfl, hpl⟩ := nat_get e2
          have s7 := same_new (o := .tup [V.ref c, nat_ pl]) nT
          have hc5 : H5 c = some (.lst (xs.map V.int)) := b35 c (nbd c (List.mem_of_getElem? hbs)) _ hc
          have hcn := int_get (xs := xs) (vDE xs mx) hk
          have ltp : pl < L := tk pl (List.mem_of_getElem? hpl)
          refine ⟨T2, _, rfl, SqT.of upd_same, rfl, _, _, rfl, ?_⟩
          refine ⟨_, _, rfl, rfl, ?_⟩
          refine ⟨_, rfl, _, rfl, c, _, (k : Int), _, rfl, rfl, SqL.of (s7 _ _ hc5), atI_nat hcn, ?_⟩
          refine ⟨xs.getD k 0, rfl, _, rfl, _, _, rfl, rfl, (by show (0 : Int) < (p : Int); omega), ?_⟩
          refine ⟨_, rfl, _, rfl, d, _, (pl : Int), pl, rfl, rfl, s7 _ _ hd5, ixN_nat (by rw [List.length_map, LinA.putF_len, List.length_set, List.length_replicate]; exact ltp), ?_⟩
          have il : i < t.length := (List.getElem?_eq_some_iff.mp hpl).1
          have hxs : Dn[i]? = some xs := by
            rw [List.getElem?_append_left (by omega)] at ht
            exact ht
          have hz2 : (Dn.zip t)[i]? = some (xs, pl) := List.getElem?_zip_eq_some.mpr ⟨hxs, hpl⟩
          refine ⟨⟨_, _, rfl⟩, (b35.trans (but_same s7)).trans but_upd, ?_⟩
          rw [upd_same, List.take_succ, hz2]
          unfold LinA.putF
          rw [Option.toList_some, List.foldl_append, List.foldl_cons, List.foldl_nil, List.map_set]
        · rintro σ H5 ⟨⟨v1, v2, rfl⟩, b35, hd5⟩
          rw [List.take_of_length_le (by rw [List.length_zip]; omega)] at hd5
          have b25 := b23.trans b35
          have hfo5 := b25 fo (Ne.symm nd1) _ hfo2
          have ncd : ∀ b ∈ cs, b ≠ d := fun b mb e => by
            obtain ⟨o, q⟩ := rws_some hcs mb
            rw [e, nd2] at q
            cases q
          refine ⟨_, rfl, .inl ⟨rfl, _, SqL.of hfo5⟩, _, rfl, fo, _, _, rfl, rfl, hfo5, by rw [List.length_map, hcs.len]; exact size_ok (by have := kersTo_len p L Dn t k; omega), ?_⟩
          have st : ∀ b, b ≠ fo → ∀ o, H5 b = some o → upd H5 fo (.lst (cs.map V.ref ++ [V.ref d])) b = some o := fun b n o e => (upd_ne n).trans e
          refine ⟨⟨_, _, _, _, rfl⟩, fun b nb o e => ?_, cs ++ [d], ?_, ?_, fun b mb => ?_, fun b mb => ?_⟩
          · have q2 := bt b nb o e
            have q3 : b ≠ d := fun q => by
              rw [q, nd2] at q2
              cases q2
            exact st b nb o (b25 b q3 o q2)
          · rw [upd_same, List.map_append]
            rfl
          · rw [kersTo_succ, if_neg kt]
            refine paired_snoc ((hcs.mono fun b mb o e => b25 b (ncd b mb) o e).mono fun b mb o e => st b (nfo b mb) o e) ?_
            exact st d nd1 _ hd5
          · rcases List.mem_append.mp mb with q | q
            · exact nfo b q
            · rw [List.mem_singleton.mp q]
              exact nd1
          · rcases List.mem_append.mp mb with q | q
            · exact frc b q
            · rw [List.mem_singleton.mp q]
              cases q8 : H1 d with
              | none => rfl
              | some o =>
                have q9 := bt d nd1 o q8
                rw [nd2] at q9
                cases q9
    · rintro σ H2 ⟨⟨u1, u2, u3, u4, rfl⟩, bt, cs, hfo2, hcs, nfo, frc⟩
      have vk : ∀ xs ∈ kersTo p L Dn t L, Vc (p : Int) L xs := fun xs mx => by
        obtain ⟨f, _, rfl⟩ := List.mem_map.mp mx
        exact LinA.kerZ_vec p2 f
      refine ⟨_, rfl, _, rfl, p, fo, L, cs, kersTo p L Dn t L, rfl, p2, p6, pr, hfo2, hcs, vk, hL, by have := kersTo_len p L Dn t L; omega, fun H3 d ds B t2 ⟨r1, r2, r3, r4, r5, r6, r7⟩ => ?_⟩
      have s12 : Same H H2 := fun b o e => by
        have n9 : b ≠ fo := fun q => by
          rw [q, nH] at e
          cases e
        exact bt b n9 o (s1 _ _ e)
      exact want H3 d ds B ⟨same_trans s12 r1, s12.free r2, r3, r4, fun b mb => s12.free (r5 b mb), Nat.le_trans r7 (kersTo_len p L Dn t L), _, _, r6, LinA.kers_span p2 hv way⟩
end
end Vb
end L2

set_option Elab.async false
set_option linter.all false
set_option maxRecDepth 100000
set_option maxHeartbeats 4000000
/-! Vb, part 43: plain data that is tracked, with empty dicts in it: its type, its repr, lists of the same. -/
namespace L2
namespace Vb
open PySem PySem.Spec PyProof.Rows
/-- numbers, texts, truth values, None -/
def Flat (v : V) (d : PyData) : Prop := (v = .non ∧ d = .none) ∨ (∃ b, v = .bl b ∧ d = .bool b) ∨ (∃ i, v = .int i ∧ d = .int i) ∨ (∃ x, v = .str x ∧ d = .str x)
/-- v is the data d, at most n lists and tuples deep -/
def Sho : Nat → Hp → V → PyData → Prop
  | 0, _, v, d => Flat v d
  | n + 1, H, v, d => Flat v d ∨ (∃ (a : Addr) (xs : List V) (ds : List PyData), v = .ref a ∧ d = .list ds ∧ H a = some (.lst xs) ∧ Paired (Sho n H) xs ds) ∨
      (∃ (a : Addr) (xs : List V) (ds : List PyData), v = .ref a ∧ d = .tuple ds ∧ H a = some (.tup xs) ∧ Paired (Sho n H) xs ds) ∨
      (∃ (a : Addr), v = .ref a ∧ d = .dict [] ∧ H a = some (.dK []))
theorem Sho.mono {H H' : Hp} (k : ∀ b o, H b = some o → H' b = some o) : ∀ {n : Nat} {v : V} {d : PyData}, Sho n H v d → Sho n H' v d
  | 0, _, _, h => h
  | n + 1, _, _, h => by
    rcases h with h | ⟨a, xs, ds, e1, e2, e3, h⟩ | ⟨a, xs, ds, e1, e2, e3, h⟩ | ⟨a, e1, e2, e3⟩
    · exact .inl h
    · exact .inr (.inl ⟨a, xs, ds, e1, e2, k _ _ e3, L2.Paired.mapP h fun _ _ z => Sho.mono k z⟩)
    · exact .inr (.inr (.inl ⟨a, xs, ds, e1, e2, k _ _ e3, L2.Paired.mapP h fun _ _ z => Sho.mono k z⟩))
    · exact .inr (.inr (.inr ⟨a, e1, e2, k _ _ e3⟩))
theorem Sho.up {H H' : Hp} {n : Nat} {v : V} {d : PyData} (h : Sho n H v d) (s : Same H H') : Sho n H' v d := h.mono s
theorem Sho.non {n : Nat} {H : Hp} : Sho n H .non .none := by
  cases n with
  | zero => exact .inl ⟨rfl, rfl⟩
  | succ n => exact .inl (.inl ⟨rfl, rfl⟩)
theorem Sho.bl {n : Nat} {H : Hp} (b : Bool) : Sho n H (.bl b) (.bool b) := by
  cases n with
  | zero => exact .inr (.inl ⟨b, rfl, rfl⟩)
  | succ n => exact .inl (.inr (.inl ⟨b, rfl, rfl⟩))
theorem Sho.int {n : Nat} {H : Hp} (i : Int) : Sho n H (.int i) (.int i) := by
  cases n with
  | zero => exact .inr (.inr (.inl ⟨i, rfl, rfl⟩))
  | succ n => exact .inl (.inr (.inr (.inl ⟨i, rfl, rfl⟩)))
theorem Sho.str {n : Nat} {H : Hp} (x : Str) : Sho n H (.str x) (.str x) := by
  cases n with
  | zero => exact .inr (.inr (.inr ⟨x, rfl, rfl⟩))
  | succ n => exact .inl (.inr (.inr (.inr ⟨x, rfl, rfl⟩)))
theorem Sho.lst {n : Nat} {H : Hp} {a : Addr} {xs : List V} {ds : List PyData} (h : H a = some (.lst xs)) (p : Paired (Sho n H) xs ds) : Sho (n + 1) H (.ref a) (.list ds) := .inr (.inl ⟨a, xs, ds, rfl, rfl, h, p⟩)
theorem Sho.tup {n : Nat} {H : Hp} {a : Addr} {xs : List V} {ds : List PyData} (h : H a = some (.tup xs)) (p : Paired (Sho n H) xs ds) : Sho (n + 1) H (.ref a) (.tuple ds) := .inr (.inr (.inl ⟨a, xs, ds, rfl, rfl, h, p⟩))
theorem Sho.dct {n : Nat} {H : Hp} {a : Addr} (h : H a = some (.dK [])) : Sho (n + 1) H (.ref a) (.dict []) := .inr (.inr (.inr ⟨a, rfl, rfl, h⟩))
theorem Sho.ints {n : Nat} {H : Hp} : ∀ xs : List Int, Paired (Sho n H) (xs.map V.int) (xs.map PyData.int)
  | [] => .nil
  | x :: xs => .cons (.int x) (Sho.ints xs)
theorem Sho.row {n : Nat} {H : Hp} {b : Addr} {xs : List Int} (h : Rw H b xs) : Sho (n + 1) H (.ref b) (.list (xs.map PyData.int)) := .lst h (Sho.ints xs)
theorem Sho.rows {n : Nat} {H : Hp} {as : List Addr} {T : List (List Int)} (h : Rws H as T) : Paired (Sho (n + 1) H) (as.map V.ref) (T.map fun xs => .list (xs.map PyData.int)) := by
  induction h with
  | nil => exact .nil
  | cons r _ ih => exact .cons (Sho.row r) ih
theorem Sho.mat {n : Nat} {H : Hp} {m : Addr} {as : List Addr} {T : List (List Int)} (h : H m = some (.lst (as.map V.ref))) (k : Rws H as T) : Sho (n + 2) H (.ref m) (.list (T.map fun xs => .list (xs.map PyData.int))) := .lst h (Sho.rows k)
/-! ### by their kind -/
theorem Sho.ofInt {n : Nat} {H : Hp} {v : V} {i : Int} (h : Sho n H v (.int i)) : v = .int i := by
  cases n with
  | zero => rcases h with ⟨_, e⟩ | ⟨b, _, e⟩ | ⟨j, e1, e⟩ | ⟨x, _, e⟩ <;> cases e; exact e1
  | succ n =>
    rcases h with (⟨_, e⟩ | ⟨b, _, e⟩ | ⟨j, e1, e⟩ | ⟨x, _, e⟩) | ⟨a, xs, ds, e1, e, _⟩ | ⟨a, xs, ds, e1, e, _⟩ | ⟨a, e1, e, _⟩ <;> cases e
    exact e1
theorem Sho.ofBool {n : Nat} {H : Hp} {v : V} {i : Bool} (h : Sho n H v (.bool i)) : v = .bl i := by
  cases n with
  | zero => rcases h with ⟨_, e⟩ | ⟨b, e1, e⟩ | ⟨j, _, e⟩ | ⟨x, _, e⟩ <;> cases e; exact e1
  | succ n =>
    rcases h with (⟨_, e⟩ | ⟨b, e1, e⟩ | ⟨j, _, e⟩ | ⟨x, _, e⟩) | ⟨a, xs, ds, e1, e, _⟩ | ⟨a, xs, ds, e1, e, _⟩ | ⟨a, e1, e, _⟩ <;> cases e
    exact e1
theorem Sho.ofNone {n : Nat} {H : Hp} {v : V} (h : Sho n H v .none) : v = .non := by
  cases n with
  | zero => rcases h with ⟨e1, e⟩ | ⟨b, _, e⟩ | ⟨j, _, e⟩ | ⟨x, _, e⟩ <;> first | exact e1 | cases e
  | succ n =>
    rcases h with (⟨e1, e⟩ | ⟨b, _, e⟩ | ⟨j, _, e⟩ | ⟨x, _, e⟩) | ⟨a, xs, ds, e1, e, _⟩ | ⟨a, xs, ds, e1, e, _⟩ | ⟨a, e1, e, _⟩ <;> first | exact e1 | cases e
theorem Sho.ofStr {n : Nat} {H : Hp} {v : V} {i : Str} (h : Sho n H v (.str i)) : v = .str i := by
  cases n with
  | zero => rcases h with ⟨_, e⟩ | ⟨b, _, e⟩ | ⟨j, _, e⟩ | ⟨x, e1, e⟩ <;> cases e; exact e1
  | succ n =>
    rcases h with (⟨_, e⟩ | ⟨b, _, e⟩ | ⟨j, _, e⟩ | ⟨x, e1, e⟩) | ⟨a, xs, ds, e1, e, _⟩ | ⟨a, xs, ds, e1, e, _⟩ | ⟨a, e1, e, _⟩ <;> cases e
    exact e1
theorem Sho.ofList {n : Nat} {H : Hp} {v : V} {ds : List PyData} (h : Sho n H v (.list ds)) : ∃ m a xs, n = m + 1 ∧ v = .ref a ∧ H a = some (.lst xs) ∧ Paired (Sho m H) xs ds := by
  cases n with
  | zero => rcases h with ⟨_, e⟩ | ⟨b, _, e⟩ | ⟨j, _, e⟩ | ⟨x, e1, e⟩ <;> cases e
  | succ n =>
    rcases h with (⟨_, e⟩ | ⟨b, _, e⟩ | ⟨j, _, e⟩ | ⟨x, e1, e⟩) | ⟨a, xs, ds, e1, e, e3, p⟩ | ⟨a, xs, ds, e1, e, _⟩ | ⟨a, e1, e, _⟩ <;> cases e
    exact ⟨n, a, xs, rfl, e1, e3, p⟩
theorem Sho.ofTuple {n : Nat} {H : Hp} {v : V} {ds : List PyData} (h : Sho n H v (.tuple ds)) : ∃ m a xs, n = m + 1 ∧ v = .ref a ∧ H a = some (.tup xs) ∧ Paired (Sho m H) xs ds := by
  cases n with
  | zero => rcases h with ⟨_, e⟩ | ⟨b, _, e⟩ | ⟨j, _, e⟩ | ⟨x, e1, e⟩ <;> cases e
  | succ n =>
    rcases h with (⟨_, e⟩ | ⟨b, _, e⟩ | ⟨j, _, e⟩ | ⟨x, e1, e⟩) | ⟨a, xs, ds, e1, e, _⟩ | ⟨a, xs, ds, e1, e, e3, p⟩ | ⟨a, e1, e, _⟩ <;> cases e
    exact ⟨n, a, xs, rfl, e1, e3, p⟩
theorem Sho.ofDict {n : Nat} {H : Hp} {v : V} {ds : List (PyData × PyData)} (h : Sho n H v (.dict ds)) : ∃ a, v = .ref a ∧ ds = [] ∧ H a = some (.dK []) := by
  cases n with
  | zero => rcases h with ⟨_, e⟩ | ⟨b, _, e⟩ | ⟨j, _, e⟩ | ⟨x, e1, e⟩ <;> cases e
  | succ n =>
    rcases h with (⟨_, e⟩ | ⟨b, _, e⟩ | ⟨j, _, e⟩ | ⟨x, e1, e⟩) | ⟨a, xs, ds, e1, e, _⟩ | ⟨a, xs, ds, e1, e, e3, p⟩ | ⟨a, e1, e, e3⟩ <;> cases e
    exact ⟨a, e1, rfl, e3⟩
/-! ### the type -/
def zTyD (x : V) (H : Hp) : Option String :=
  match x with
  | .non => some "NoneType"
  | .bl _ => some "bool"
  | .int _ => some "int"
  | .str _ => some "str"
  | .ref p => (match H p with
    | some (.lst _) => some "list"
    | some (.tup _) => some "tuple"
    | some (.dK _) => some "dict"
    | _ => none)
  | _ => none
def tyD : PyData → String
  | .none => "NoneType"
  | .bool _ => "bool"
  | .int _ => "int"
  | .str _ => "str"
  | .list _ => "list"
  | .tuple _ => "tuple"
  | .dict _ => "dict"
theorem Sho.ty {n : Nat} {H : Hp} {v : V} {d : PyData} (h : Sho n H v d) : zTyD v H = some (tyD d) := by
  cases d with
  | none => rw [h.ofNone]; rfl
  | bool b => rw [h.ofBool]; rfl
  | int i => rw [h.ofInt]; rfl
  | str x => rw [h.ofStr]; rfl
  | list ds =>
    obtain ⟨m, a, xs, _, rfl, e, _⟩ := h.ofList
    simp only [zTyD, e]
    rfl
  | tuple ds =>
    obtain ⟨m, a, xs, _, rfl, e, _⟩ := h.ofTuple
    simp only [zTyD, e]
    rfl
  | dict ds =>
    obtain ⟨a, rfl, _, e⟩ := h.ofDict
    simp only [zTyD, e]
    rfl
def kTypD (x : V) (H : Hp) (Q : VK) : Prop := ∃ n, zTyD x H = some n ∧ Q (.ty n) H
section
variable {X : Cx}
theorem rl_typeD (pins : List (Addr × Obj)) (s : Shared) (σ : St) (H : Hp) (x : V) (v : Value) (Q : VK) (I : Inv X pins σ H s) (r : RelV x v) (h : kTypD x H Q) :
    wpAny (model X.prog X.w) X.A (call (.type "type") [v]) (EP X pins σ Q) X.xe s := by
  obtain ⟨n, e, q⟩ := h
  have fin : EP X pins σ Q (.type n) s := ⟨.ty n, H, I, rfl, q⟩
  cases x with
  | non => cases (show v = Value.none from r); cases e; exact call_type_of (Tx := "NoneType") rfl (by decide +kernel) fin
  | bl y => cases (show v = Value.bool y from r); cases e; exact call_type_of (Tx := "bool") rfl (by decide +kernel) fin
  | int i => obtain ⟨t, rfl⟩ := (show ∃ t, v = Value.int i t from r); cases e; exact call_type_of (Tx := "int") rfl (by decide +kernel) fin
  | str y => obtain ⟨t, rfl⟩ := (show ∃ t, v = Value.str y t from r); cases e; exact call_type_of (Tx := "str") rfl (by decide +kernel) fin
  | byt y => cases e
  | flt y => cases e
  | ty y => cases e
  | ref p =>
    cases (show v = Value.ref p from r)
    simp only [zTyD] at e
    cases ho : H p with
    | none => rw [ho] at e; cases e
    | some o =>
      rw [ho] at e
      have ok := I.hok p o ho
      cases o with
      | lst xs =>
        cases e
        obtain ⟨hz, its, k, r', g⟩ := ok
        exact call_type_of (Tx := "list") ⟨_, g, rfl⟩ (by decide +kernel) fin
      | tup xs =>
        cases e
        obtain ⟨hz, its, r', ob, g, c, k⟩ := ok
        exact call_type_of (Tx := "tuple") ⟨ob, g, c⟩ (by decide +kernel) fin
      | dK kvs =>
        cases e
        obtain ⟨_, _, vs, kv, o, es, ep, g, ex, _⟩ := ok
        exact call_type_of (Tx := "dict") ⟨o, g, ex.1⟩ (by decide +kernel) fin
      | _ => cases e
theorem pe_typeD {a : Expr} {ta : TE} {p pos : Pos} (hg : Gl X "type") (hm : X.mg "type" = none) (ha : PE X a ta) (na : starEach [a] X.env = (false, eval a X.env) :: starEach [] X.env := by rfl) :
    PE X (.Call (.Name "type" p) [a] [] pos) (tThenZ ta kTypD) := pe_callTy (call_r1 rl_typeD) hg hm (by decide +kernel) (pa_cons ha pa_nil na) (he := na)
end
/-! ### repr -/
/-- the modules' dict stands in the written part -/
def SysIn (K : PySem.W.Frag) : Prop := ∃ o es n, K.lookup sysModules = some o ∧ o.data = .dict es n
theorem pair_reads {h : Heap} {F : V → PyData → Prop} (g : ∀ v u d, F v d → RelV v u → ∃ as, Reads h u d as ∧ sysModules ∉ as) : ∀ {xs : List V} {us : List Value} {ds : List PyData}, Paired F xs ds → Vals xs us → ∃ as, ReadsAll h us ds as ∧ sysModules ∉ as
  | _, _, _, .nil, .nil => ⟨_, .nil, fun m => nomatch m⟩
  | _, _, _, .cons p ps, .cons r rs => by
    obtain ⟨a1, h1, n1⟩ := g _ _ _ p r
    obtain ⟨a2, h2, n2⟩ := pair_reads g ps rs
    exact ⟨_, .cons h1 h2, fun m => (List.mem_append.mp m).elim n1 n2⟩
theorem flat_reads {h : Heap} {v : V} {u : Value} {d : PyData} (f : Flat v d) (r : RelV v u) : Reads h u d [] := by
  rcases f with ⟨rfl, rfl⟩ | ⟨b, rfl, rfl⟩ | ⟨i, rfl, rfl⟩ | ⟨x, rfl, rfl⟩
  · cases (show u = Value.none from r)
    exact .none
  · cases (show u = Value.bool b from r)
    exact .bool b
  · obtain ⟨t, rfl⟩ := (show ∃ t, u = Value.int i t from r)
    exact .int i t
  · obtain ⟨t, rfl⟩ := (show ∃ t, u = Value.str x t from r)
    exact .str x t
theorem Sho.reads {P : Program} {w : World} {H : Hp} {h : Heap} (ok : HOk P w H h) (sy : ∃ o es n, h.get? sysModules = some o ∧ o.data = .dict es n) : ∀ {n : Nat} {v : V} {u : Value} {d : PyData}, Sho n H v d → RelV v u → ∃ as, Reads h u d as ∧ sysModules ∉ as
  | 0, _, _, _, f, r => ⟨_, flat_reads f r, fun m => nomatch m⟩
  | n + 1, _, u, _, f, r => by
    have deep : ∀ v u d, Sho n H v d → RelV v u → ∃ as, Reads h u d as ∧ sysModules ∉ as := fun v u d f r => Sho.reads ok sy f r
    obtain ⟨so, se, sn, s1, s2⟩ := sy
    have noS : ∀ {a : Addr} {o : Obj} {vs : Array Value} {k : Nat}, h.get? a = some o → o.data = .seq vs k → a ≠ sysModules := fun {a o vs k} e1 e2 q => by
      rw [q, s1] at e1
      cases e1
      rw [s2] at e2
      cases e2
    rcases f with f | ⟨a, xs, ds, rfl, rfl, e3, f⟩ | ⟨a, xs, ds, rfl, rfl, e3, f⟩ | ⟨a, rfl, rfl, e3⟩
    · exact ⟨_, flat_reads f r, fun m => nomatch m⟩
    · obtain ⟨_, its, m, rv, e⟩ := (show ObjOk P w H h a (.lst xs) from ok a _ e3)
      obtain ⟨as, z, nz⟩ := pair_reads deep f rv
      cases (show u = Value.ref a from r)
      exact ⟨_, .list e rfl rfl z, fun q => (List.mem_cons.mp q).elim (fun q => noS e rfl q.symm) nz⟩
    · obtain ⟨_, its, rv, o, e, ec, m, ed⟩ := (show ObjOk P w H h a (.tup xs) from ok a _ e3)
      obtain ⟨as, z, nz⟩ := pair_reads deep f rv
      cases (show u = Value.ref a from r)
      exact ⟨_, .tuple e ec ed z, nz⟩
    · obtain ⟨_, ns, vs, kv, o, es, ep, e, ex, ed, ks, prs, _⟩ := (show ObjOk P w H h a (.dK []) from ok a _ e3)
      cases kv
      have e0 : es.toList = [] := by
        cases hz : es.toList with
        | nil => rfl
        | cons y ys =>
          rw [hz] at prs
          cases prs
      cases (show u = Value.ref a from r)
      refine ⟨_, .dict (as := []) (bs := []) (kvs := []) e ex.1 ed (by rw [e0]; exact .nil) (by rw [e0]; exact .nil), fun hm => ?_⟩
      have q : sysModules = a := by simpa using hm
      rw [q] at ns
      simp at ns
/-- repr(v) of such data -/
def rShow : List V → Hp → VK → Prop := fun xs H Q => ∃ (v : V) (d : PyData) (n : Nat), xs = [v] ∧ Sho n H v d ∧ d.showable = true ∧ d.depth ≤ 30 ∧ d.shown.length ≤ sizeLine ∧ Q (.str d.shown) H
theorem call_repr {X : Cx} (hgd : X.A.guards = some []) (hu : X.A.units + 64 < cLine) (sy : SysIn X.K) : CallR X (.builtin "repr") rShow := by
  intro pins s σ H xs us Q I r h
  obtain ⟨v, d, n, rfl, f, hs, hd, hz, q⟩ := h
  obtain ⟨u, rfl, rv⟩ : ∃ u, us = [u] ∧ RelV v u := by
    cases r with
    | cons r1 r2 =>
      cases r2
      exact ⟨_, rfl, r1⟩
  obtain ⟨so, se, sn, s1, s2⟩ := sy
  obtain ⟨as, rd, ns⟩ := f.reads I.hok ⟨so, se, sn, I.kIn _ _ s1, s2⟩ rv
  have ns : d.hasDict = true → sysModules ∉ as := fun _ => ns
  cases rd with
  | none => exact PySem.P.repr_of_none ⟨.str _, H, I.tok _, ⟨_, rfl⟩, q⟩
  | bool b => exact PySem.P.repr_of_bool ⟨.str _, H, I.tok _, ⟨_, rfl⟩, q⟩
  | int i t => exact PySem.P.repr_of_int (by simpa [PyData.showable] using hs) ⟨.str _, H, I.tok _, ⟨_, rfl⟩, q⟩
  | str x t => exact PySem.P.repr_of_str ⟨.str _, H, I.tok _, ⟨_, rfl⟩, q⟩ hz
  | list h1 h2 h3 h4 => exact repr_of_reads' (.list h1 h2 h3 h4) hs ns hgd (by omega) (fun _ _ e => e) (fun h' t tk k => ⟨.str _, H, I.kept (t' := tk) k, ⟨_, rfl⟩, q⟩) hz
  | tuple h1 h2 h3 h4 => exact repr_of_reads' (.tuple h1 h2 h3 h4) hs ns hgd (by omega) (fun _ _ e => e) (fun h' t tk k => ⟨.str _, H, I.kept (t' := tk) k, ⟨_, rfl⟩, q⟩) hz
  | dict h1 h2 h3 h4 h5 => exact repr_of_reads' (.dict h1 h2 h3 h4 h5) hs ns hgd (by omega) (fun _ _ e => e) (fun h' t tk k => ⟨.str _, H, I.kept (t' := tk) k, ⟨_, rfl⟩, q⟩) hz
/-! ### lists of one text and the very same thing -/
section
variable {X : Cx}
/-- the answer of == of two things that are the same, or both flat -/
def EqS (x y : V) (b : Bool) : Prop := (x = y ∧ (flatV x = true ∨ ∃ a, x = .ref a) ∧ b = true) ∨ (flatV x = true ∧ flatV y = true ∧ b = eqV x y)
theorem eqV_same {x : V} (h : flatV x = true) : eqV x x = true := by
  cases x with
  | non => rfl
  | bl b => exact beq_self_eq_true b
  | int b => exact beq_self_eq_true b
  | str b => exact beq_self_eq_true b
  | _ => exact absurd (show false = true from h) Bool.false_ne_true
theorem eqS_at {A : Around} {s : Shared} {x y : V} {u v : Value} {b : Bool} (h : EqS x y b) (rx : RelV x u) (ry : RelV y v) : SeqAt.EqAt A s u v b := by
  rcases h with ⟨rfl, h | ⟨a, rfl⟩, rfl⟩ | ⟨h1, h2, rfl⟩
  · have z := eqAt_V (A := A) (s := s) rx ry h h
    rw [eqV_same h] at z
    exact z
  · cases (show u = Value.ref a from rx)
    cases (show v = Value.ref a from ry)
    exact SeqAt.EqAt.same _
  · exact eqAt_V rx ry h1 h2
def rEqL : R2 := fun x y H Q => ∃ (a b : Addr) (x1 x2 y1 y2 : V) (b1 b2 : Bool), x = .ref a ∧ y = .ref b ∧ H a = some (.lst [x1, x2]) ∧ H b = some (.lst [y1, y2]) ∧ EqS x1 y1 b1 ∧ EqS x2 y2 b2 ∧ Q (.bl (b1 && b2)) H
def rNeL : R2 := fun x y H Q => ∃ (a b : Addr) (x1 x2 y1 y2 : V) (b1 b2 : Bool), x = .ref a ∧ y = .ref b ∧ H a = some (.lst [x1, x2]) ∧ H b = some (.lst [y1, y2]) ∧ EqS x1 y1 b1 ∧ EqS x2 y2 b2 ∧ Q (.bl (!(b1 && b2))) H
theorem two_vals {x1 x2 : V} {its : List Value} (r : Vals [x1, x2] its) : ∃ u1 u2, its = [u1, u2] ∧ RelV x1 u1 ∧ RelV x2 u2 := by
  cases r with
  | cons r1 r =>
    cases r with
    | cons r2 r =>
      cases r
      exact ⟨_, _, rfl, r1, r2⟩
theorem op_eqL (hu : X.A.units < cLine) : OpR X (compareOp .Eq) rEqL := by
  intro pins s σ H x y v u Q I rx ry h
  obtain ⟨a, b, x1, x2, y1, y2, b1, b2, rfl, rfl, ha, hb, h1, h2, q⟩ := h
  cases rx
  cases ry
  obtain ⟨_, its, n, r, _, e⟩ := I.lstM ha
  obtain ⟨_, jts, m, r2, _, e2⟩ := I.lstM hb
  obtain ⟨u1, u2, rfl, p1, p2⟩ := two_vals r
  obtain ⟨w1, w2, rfl, q1, q2⟩ := two_vals r2
  have il : s.heap.IsList a [u1, u2].toArray := ⟨_, e, rfl, n, rfl⟩
  have jl : s.heap.IsList b [w1, w2].toArray := ⟨_, e2, rfl, m, rfl⟩
  refine SeqAt.eq_listAt (e := fun j => if j = 0 then b1 else b2) il jl rfl hu (fun j k1 k2 => ?_) ?_
  · match j, k1, k2 with
    | 0, _, _ => exact eqS_at h1 p1 q1
    | 1, _, _ => exact eqS_at h2 p2 q2
  · refine ⟨.bl _, H, I, rfl, ?_⟩
    have e3 : ((List.range [u1, u2].toArray.size).all fun j => if j = 0 then b1 else b2) = (b1 && b2) := by
      show (b1 && (b2 && true)) = (b1 && b2)
      rw [Bool.and_true]
    rw [e3]
    exact q
theorem op_neL (hu : X.A.units < cLine) : OpR X (compareOp .NotEq) rNeL := by
  intro pins s σ H x y v u Q I rx ry h
  obtain ⟨a, b, x1, x2, y1, y2, b1, b2, rfl, rfl, ha, hb, h1, h2, q⟩ := h
  cases rx
  cases ry
  obtain ⟨_, its, n, r, _, e⟩ := I.lstM ha
  obtain ⟨_, jts, m, r2, _, e2⟩ := I.lstM hb
  obtain ⟨u1, u2, rfl, p1, p2⟩ := two_vals r
  obtain ⟨w1, w2, rfl, q1, q2⟩ := two_vals r2
  have il : s.heap.IsList a [u1, u2].toArray := ⟨_, e, rfl, n, rfl⟩
  have jl : s.heap.IsList b [w1, w2].toArray := ⟨_, e2, rfl, m, rfl⟩
  refine SeqAt.RcNeAt.lists (e := fun j => if j = 0 then b1 else b2) il jl rfl hu (fun j k1 k2 => ?_) _ _ _ _ ?_
  · match j, k1, k2 with
    | 0, _, _ => exact eqS_at h1 p1 q1
    | 1, _, _ => exact eqS_at h2 p2 q2
  · refine ⟨.bl _, H, I, rfl, ?_⟩
    have e3 : ((List.range [u1, u2].toArray.size).all fun j => if j = 0 then b1 else b2) = (b1 && b2) := by
      show (b1 && (b2 && true)) = (b1 && b2)
      rw [Bool.and_true]
    rw [e3]
    exact q
end
end Vb
end L2

set_option Elab.async false
set_option linter.all false
set_option maxRecDepth 100000
set_option maxHeartbeats 4000000
/-! Vb, part 44: what is a number, a vector, vectors: asked of any data. -/
namespace L2
namespace Vb
open PySem PySem.Spec PyProof.Rows
abbrev sVectorsOf : Stmt := topS 18
def cntD : PyData → Bool
  | .int i => decide (0 ≤ i)
  | _ => false
def numD (p : Int) : PyData → Bool
  | .int i => decide (0 ≤ i) && decide (i < p)
  | _ => false
def facD (p : Int) : PyData → Bool
  | .int i => (decide (0 ≤ i) && decide (i < p)) && decide (0 < i)
  | _ => false
def vecD (p : Int) : PyData → Bool
  | .list ds => ds.all (numD p)
  | _ => false
def lenD : PyData → Nat
  | .list ds => ds.length
  | _ => 0
def vecOfD (p : Int) (L : Nat) (d : PyData) : Bool := vecD p d && decide (lenD d = L)
def evenD : List PyData → Bool
  | [] => true
  | d :: ds => (d :: ds).all fun e => decide (lenD e = lenD d)
def vecsD (p : Int) : PyData → Bool
  | .list ds => ds.all (vecD p) && evenD ds
  | _ => false
def vecsOfD (p : Int) (m L : Nat) : PyData → Bool
  | .list ds => decide (ds.length = m) && ds.all (vecOfD p L)
  | _ => false
/-- lists not too long -/
def Sm1 (d : PyData) : Prop := ∀ ds, d = .list ds → ds.length ≤ 900
def Sm2 (d : PyData) : Prop := ∀ ds, d = .list ds → ds.length ≤ 900 ∧ ∀ e ∈ ds, Sm1 e
theorem paired_at {α β : Type} {R : α → β → Prop} {xs : List α} {ds : List β} (h : Paired R xs ds) : ∀ {k : Nat} {x : α}, xs[k]? = some x → ∃ d, ds[k]? = some d ∧ R x d := by
  induction h with
  | nil =>
    intro k x e
    cases e
  | cons r _ ih =>
    intro k x e
    cases k with
    | zero =>
      cases e
      exact ⟨_, rfl, r⟩
    | succ k => exact ih e
theorem paired_len {α β : Type} {R : α → β → Prop} {xs : List α} {ds : List β} (h : Paired R xs ds) : xs.length = ds.length := by
  induction h with
  | nil => rfl
  | cons _ _ ih => exact congrArg (· + 1) ih
theorem vecD_list {p : Int} {d : PyData} (h : vecD p d = true) : ∃ ds, d = .list ds := by
  cases d with
  | list ds => exact ⟨ds, rfl⟩
  | _ => cases h
theorem all_map_id (f : PyData → Bool) (ds : List PyData) : (ds.map f).all id = ds.all f := by
  rw [List.all_map]
  rfl
section
variable {P : Program} {w : World} {K : PySem.W.Frag} {mg : Str → Option Value} {base : Heap}
def spCountD : Sp := fun vs H Q _ => ∃ (v : V) (d : PyData) (n : Nat), vs = [v] ∧ Sho n H v d ∧ Q (.bl (cntD d)) H
theorem ok_countD {f : Addr} {fd : FuncData} (F : Fun K "is_count" "is_count" sCount f fd) (gT : mg "type" = none) (gI : mg "int" = none) : FnOk P w K mg base CX0 1 f fd ["value"] spCountD := by
  refine F.ok scCount (fun vs H Q E h => ?_) (fun cdv A outer s H vs Q E hr h => ?_)
  · obtain ⟨v, d, n, rfl, _⟩ := h
    rfl
  · obtain ⟨v, d, n, rfl, sh, want⟩ := h
    refine ⟨_, pss_one (ps_ret (pe_and (pe_cmpR op_isTy (pe_typeD rfl gT (pv 0)) (pe_bltn rfl gI boot_int rel_int) (nomark _)) (pe_one (pe_cmpR op_ge (pv 0) pe_int (nomark _))))), ?_⟩
    refine ⟨_, rfl, _, sh.ty, _, _, rfl, rfl, _, rfl, ?_⟩
    cases d with
    | int i =>
      rw [sh.ofInt]
      exact iteT ⟨_, rfl, _, _, rfl, rfl, want⟩
    | none => exact iteF want
    | bool b => exact iteF want
    | str b => exact iteF want
    | list b => exact iteF want
    | tuple b => exact iteF want
    | dict b => exact iteF want
def spNumD : Sp := fun vs H Q _ => ∃ (p : Int) (v : V) (d : PyData) (n : Nat), vs = [.int p, v] ∧ Sho n H v d ∧ Q (.bl (numD p d)) H
theorem ok_numD {f fC : Addr} {fd fdC : FuncData} (F : Fun K "is_number" "is_number" sNumber f fd) (FC : Fun K "is_count" "is_count" sCount fC fdC) (GC : FnOk P w K mg base CX0 1 fC fdC ["value"] spCountD) (gC : mg "is_count" = some (.ref fC)) :
    FnOk P w K mg base CX0 2 f fd ["prime", "value"] spNumD := by
  have bC : Binds K fdC ["value"] [] := FC.binds fun _ _ _ _ _ _ us hl => match us, hl with | [_], _ => rfl
  refine F.ok scNumber (fun vs H Q E h => ?_) (fun cdv A outer s H vs Q E hr h => ?_)
  · obtain ⟨p, v, d, n, rfl, _⟩ := h
    rfl
  · obtain ⟨p, v, d, n, rfl, sh, want⟩ := h
    refine ⟨_, pss_one (ps_ret (pe_and (pe_call GC hr rfl gC FC.kp bC .nil pass0 (pa_cons (pv 1) pa_nil)) (pe_one (pe_cmpR op_lt (pv 1) (pv 0) (nomark _))))), ?_⟩
    refine ⟨_, rfl, v, d, n, rfl, sh, _, rfl, ?_⟩
    cases d with
    | int i =>
      obtain rfl := sh.ofInt
      by_cases h0 : 0 ≤ i
      · have e : cntD (.int i) = true := decide_eq_true h0
        rw [e]
        refine iteT ⟨_, rfl, _, rfl, _, _, rfl, rfl, ?_⟩
        have e2 : numD p (.int i) = decide (i < p) := by
          show (decide (0 ≤ i) && decide (i < p)) = _
          rw [decide_eq_true h0]
          rfl
        rw [e2] at want
        exact want
      · have e : cntD (.int i) = false := decide_eq_false h0
        rw [e]
        have e2 : numD p (.int i) = false := by
          show (decide (0 ≤ i) && decide (i < p)) = _
          rw [decide_eq_false h0]
          rfl
        rw [e2] at want
        exact iteF want
    | none => exact iteF want
    | bool b => exact iteF want
    | str b => exact iteF want
    | list b => exact iteF want
    | tuple b => exact iteF want
    | dict b => exact iteF want
def spFacD : Sp := fun vs H Q _ => ∃ (p : Int) (v : V) (d : PyData) (n : Nat), vs = [.int p, v] ∧ Sho n H v d ∧ Q (.bl (facD p d)) H
theorem ok_facD {f fN : Addr} {fd fdN : FuncData} (F : Fun K "is_factor" "is_factor" sFactor f fd) (FN : Fun K "is_number" "is_number" sNumber fN fdN) (GN : FnOk P w K mg base CX0 2 fN fdN ["prime", "value"] spNumD) (gN : mg "is_number" = some (.ref fN)) :
    FnOk P w K mg base CX0 3 f fd ["prime", "value"] spFacD := by
  have bN : Binds K fdN ["prime", "value"] [] := FN.binds fun _ _ _ _ _ _ us hl => match us, hl with | [_, _], _ => rfl
  refine F.ok scFactor (fun vs H Q E h => ?_) (fun cdv A outer s H vs Q E hr h => ?_)
  · obtain ⟨p, v, d, n, rfl, _⟩ := h
    rfl
  · obtain ⟨p, v, d, n, rfl, sh, want⟩ := h
    refine ⟨_, pss_one (ps_ret (pe_and (pe_call GN hr rfl gN FN.kp bN .nil pass0 (pa_cons (pv 0) (pa_cons (pv 1) pa_nil))) (pe_one (pe_cmpR op_gt (pv 1) pe_int (nomark _))))), ?_⟩
    refine ⟨_, rfl, _, rfl, p, v, d, n, rfl, sh, _, rfl, ?_⟩
    cases d with
    | int i =>
      obtain rfl := sh.ofInt
      cases e : numD p (.int i) with
      | true =>
        refine iteT ⟨_, rfl, _, _, rfl, rfl, ?_⟩
        have e2 : facD p (.int i) = decide (0 < i) := by
          show (numD p (.int i) && decide (0 < i)) = _
          rw [e]
          rfl
        rw [e2] at want
        exact want
      | false =>
        have e2 : facD p (.int i) = false := by
          show (numD p (.int i) && decide (0 < i)) = _
          rw [e]
          rfl
        rw [e2] at want
        exact iteF want
    | none => exact iteF want
    | bool b => exact iteF want
    | str b => exact iteF want
    | list b => exact iteF want
    | tuple b => exact iteF want
    | dict b => exact iteF want
def spVecD : Sp := fun vs H Q _ => ∃ (p : Int) (v : V) (d : PyData) (n : Nat), vs = [.int p, v] ∧ Sho n H v d ∧ Sm1 d ∧ ∀ H', Same H H' → Q (.bl (vecD p d)) H'
theorem ok_vecD {f fN : Addr} {fd fdN : FuncData} (F : Fun K "is_vector" "is_vector" sVector f fd) (FN : Fun K "is_number" "is_number" sNumber fN fdN) (GN : FnOk P w K mg base CX0 2 fN fdN ["prime", "value"] spNumD) (gN : mg "is_number" = some (.ref fN))
    (gT : mg "type" = none) (gL : mg "list" = none) (gA : mg "all" = none) : FnOk P w K mg base CX0 3 f fd ["prime", "value"] spVecD := by
  have bN : Binds K fdN ["prime", "value"] [] := FN.binds fun _ _ _ _ _ _ us hl => match us, hl with | [_, _], _ => rfl
  refine F.ok scVector (fun vs H Q E h => ?_) (fun cdv A outer s H vs Q E hr h => ?_)
  · obtain ⟨p, v, d, n, rfl, _⟩ := h
    rfl
  · obtain ⟨p, v, d, n, rfl, sh, sm1, want⟩ := h
    refine ⟨_, pss_one (ps_ret (pe_and (pe_cmpR op_isTy (pe_typeD rfl gT (pv 1)) (pe_bltn rfl gL boot_list rel_list) (nomark _)) (pe_one (pe_callB (cr_all rfl) (by rfl) gA boot_all (pa_cons (pe_lc (own := [("number", 2)]) (g := gName 2) (tt := tYes) rfl scVector.nd
      (pi_list (pv 1)) (blkOk_by (N := ["prime", "value", "number"]) (sc := defScope sVector) (by decide +kernel)) (fun _ _ _ _ _ => pg_name (i := 2) scVector.nd rfl (Or.inl rfl)) (fun _ _ _ _ _ => pts_nil)
      (fun _ _ _ _ _ => pe_call GN hr rfl gN FN.kp bN .nil pass0 (pa_cons (pv 0) (pa_cons (pv 2) pa_nil)))) pa_nil))))), ?_⟩
    refine ⟨_, rfl, _, sh.ty, _, _, rfl, rfl, _, rfl, ?_⟩
    cases d with
    | list ds =>
      obtain ⟨m, b, xs, rfl, rfl, hb, prs⟩ := sh.ofList
      have ll := sm1 ds rfl
      have lx := paired_len prs
      refine iteT ?_
      refine ⟨_, rfl, b, rfl, ⟨xs, SqL.of hb⟩, ?_⟩
      intro D hD
      refine lc_list (GrowB H D (ds.map (numD p))) (GrowB.start hD) (fun i H' _ z => SqL.of (z.1 _ _ hb)) ?_ ?_
      · rintro k x H' hx g
        obtain ⟨e, he, se⟩ := paired_at prs hx
        refine ⟨rfl, tyes ?_⟩
        refine ⟨_, rfl, _, rfl, p, x, e, m, rfl, se.up g.1, ?_⟩
        obtain ⟨acc, k1, k2, k3⟩ := g.step (x := numD p e) hD same_rfl (by rw [List.getElem?_map, he]; rfl)
        have kl := (List.getElem?_eq_some_iff.mp he).1
        exact ⟨acc, k1, size_ok (by omega), k3⟩
      · intro H' g
        obtain ⟨s1, hD1⟩ := g.done (by rw [List.length_map, lx]; exact Nat.le_refl _)
        refine ⟨D, _, rfl, SqL.of hD1, ?_⟩
        rw [all_map_id]
        exact want H' s1
    | int i => exact iteF (want H same_rfl)
    | none => exact iteF (want H same_rfl)
    | bool b => exact iteF (want H same_rfl)
    | str b => exact iteF (want H same_rfl)
    | tuple b => exact iteF (want H same_rfl)
    | dict b => exact iteF (want H same_rfl)
def spVecOfD : Sp := fun vs H Q _ => ∃ (p : Int) (v : V) (d : PyData) (n L : Nat), vs = [.int p, v, .int (L : Int)] ∧ Sho n H v d ∧ Sm1 d ∧ ∀ H', Same H H' → Q (.bl (vecOfD p L d)) H'
theorem ok_vecOfD {f fV : Addr} {fd fdV : FuncData} (F : Fun K "is_vector_of" "is_vector_of" sVectorOf f fd) (FV : Fun K "is_vector" "is_vector" sVector fV fdV) (GV : FnOk P w K mg base CX0 3 fV fdV ["prime", "value"] spVecD) (gV : mg "is_vector" = some (.ref fV)) (gN : mg "len" = none) :
    FnOk P w K mg base CX0 4 f fd ["prime", "value", "length"] spVecOfD := by
  have bV : Binds K fdV ["prime", "value"] [] := FV.binds fun _ _ _ _ _ _ us hl => match us, hl with | [_, _], _ => rfl
  refine F.ok scVectorOf (fun vs H Q E h => ?_) (fun cdv A outer s H vs Q E hr h => ?_)
  · obtain ⟨p, v, d, n, L, rfl, _⟩ := h
    rfl
  · obtain ⟨p, v, d, n, L, rfl, sh, sm1, want⟩ := h
    refine ⟨_, pss_one (ps_ret (pe_and (pe_call GV hr rfl gV FV.kp bV .nil pass0 (pa_cons (pv 0) (pa_cons (pv 1) pa_nil))) (pe_one (pe_cmpR op_eq (pe_callB call_len_seq (by rfl) gN PySem.boot_len (pa_cons (pv 1) pa_nil)) (pv 2) (nomark _))))), ?_⟩
    refine ⟨_, rfl, _, rfl, p, v, d, n, rfl, sh, sm1, fun H' sm => ⟨_, rfl, ?_⟩⟩
    cases e : vecD p d with
    | false =>
      have z : vecOfD p L d = false := by
        unfold vecOfD
        rw [e]
        rfl
      rw [z] at want
      exact iteF (want H' sm)
    | true =>
      obtain ⟨ds, rfl⟩ := vecD_list e
      obtain ⟨m, b, xs, rfl, rfl, hb, prs⟩ := sh.ofList
      refine iteT ?_
      refine ⟨_, rfl, b, _, rfl, .inl (SqL.of (sm _ _ hb)), _, rfl, ?_⟩
      refine ⟨rfl, ?_⟩
      have z : vecOfD p L (.list ds) = decide (V.int (xs.length : Int) = V.int (L : Int)) := by
        unfold vecOfD
        rw [e, Bool.true_and]
        show decide (ds.length = L) = _
        rw [paired_len prs]
        by_cases q : ds.length = L
        · rw [q, decide_eq_true rfl, decide_eq_true rfl]
        · rw [decide_eq_false q, decide_eq_false fun r => q (by have := V.int.inj r; omega)]
      rw [z] at want
      exact want H' sm
theorem sho_vec {p : Int} {n : Nat} {H : Hp} {v : V} {d : PyData} (sh : Sho n H v d) (h : vecD p d = true) : ∃ b xs, v = .ref b ∧ H b = some (.lst xs) ∧ xs.length = lenD d := by
  obtain ⟨ds, rfl⟩ := vecD_list h
  obtain ⟨m, b, xs, _, e, hb, prs⟩ := sh.ofList
  exact ⟨b, xs, e, hb, paired_len prs⟩
def spVecsD : Sp := fun vs H Q _ => ∃ (p : Int) (v : V) (d : PyData) (n : Nat), vs = [.int p, v] ∧ Sho n H v d ∧ Sm2 d ∧ ∀ H', Same H H' → Q (.bl (vecsD p d)) H'
theorem ok_vecsD {f fV : Addr} {fd fdV : FuncData} (F : Fun K "is_vectors" "is_vectors" sVectors f fd) (FV : Fun K "is_vector" "is_vector" sVector fV fdV) (GV : FnOk P w K mg base CX0 3 fV fdV ["prime", "value"] spVecD) (gV : mg "is_vector" = some (.ref fV))
    (gT : mg "type" = none) (gL : mg "list" = none) (gA : mg "all" = none) (gN : mg "len" = none) : FnOk P w K mg base CX0 4 f fd ["prime", "value"] spVecsD := by
  have bV : Binds K fdV ["prime", "value"] [] := FV.binds fun _ _ _ _ _ _ us hl => match us, hl with | [_, _], _ => rfl
  refine F.ok scVectors (fun vs H Q E h => ?_) (fun cdv A outer s H vs Q E hr h => ?_)
  · obtain ⟨p, v, d, n, rfl, _⟩ := h
    rfl
  · obtain ⟨p, v, d, n, rfl, sh, sm2, want⟩ := h
    refine ⟨_, pss_cons (ps_if (PW.pt (pw_or (pt_cmpR op_isNotTy (pe_typeD rfl gT (pv 1)) (pe_bltn rfl gL boot_list rel_list) (nomark _)) (pw_or1 (pt_not (pt_val (pe_callB (cr_all rfl) (by rfl) gA boot_all (pa_cons (pe_lc (own := [("vector", 2)]) (g := gName 2) (tt := tYes) rfl scVectors.nd
        (pi_list (pv 1)) (blkOk_by (N := ["prime", "value", "vector"]) (sc := defScope sVectors) (by decide +kernel)) (fun _ _ _ _ _ => pg_name (i := 2) scVectors.nd rfl (Or.inl rfl)) (fun _ _ _ _ _ => pts_nil)
        (fun _ _ _ _ _ => pe_call GV hr rfl gV FV.kp bV .nil pass0 (pa_cons (pv 0) (pa_cons (pv 2) pa_nil)))) pa_nil)))))))
        (pss_one (ps_ret pe_bl)) pss_nil)
      (pss_one (ps_ret (pe_callB (cr_all rfl) (by rfl) gA boot_all (pa_cons (pe_lc (own := [("vector", 2)]) (g := gName 2) (tt := tYes) (te := tOp rEq (tCB (rLenQ K) (tCons (tVar 2) tNil)) (tCB (rLenQ K) (tCons (tOp (rIxL K) (tVar 1) (tC (.int 0))) tNil))) rfl scVectors.nd
        (pi_list (pv 1)) (blkOk_by (N := ["prime", "value", "vector"]) (sc := defScope sVectors) (by decide +kernel)) (fun _ _ _ _ _ => pg_name (i := 2) scVectors.nd rfl (Or.inl rfl)) (fun _ _ _ _ _ => pts_nil)
        (fun _ _ _ _ _ => pe_cmpR op_eq (pe_callB call_len_seq (by rfl) gN PySem.boot_len (pa_cons (pv 2) pa_nil)) (pe_callB call_len_seq (by rfl) gN PySem.boot_len (pa_cons (pe_ix ix_list (pv 1) pe_int (fun _ _ => rfl)) pa_nil)) (nomark _))) pa_nil)))), ?_⟩
    refine ⟨_, rfl, _, sh.ty, _, _, rfl, rfl, _, rfl, ?_⟩
    cases d with
    | list ds =>
      obtain ⟨m, b, xs, rfl, rfl, hb, prs⟩ := sh.ofList
      obtain ⟨ll, sml⟩ := sm2 ds rfl
      have lx := paired_len prs
      refine iteF ?_
      refine ⟨_, rfl, b, rfl, ⟨xs, SqL.of hb⟩, ?_⟩
      intro D hD
      refine lc_list (GrowB H D (ds.map (vecD p))) (GrowB.start hD) (fun i H' _ z => SqL.of (z.1 _ _ hb)) ?_ ?_
      · rintro k x H' hx g
        obtain ⟨e, he, se⟩ := paired_at prs hx
        refine ⟨rfl, tyes ?_⟩
        refine ⟨_, rfl, _, rfl, p, x, e, m, rfl, se.up g.1, sml e (List.mem_of_getElem? he), fun H2 s2 => ?_⟩
        obtain ⟨acc, k1, k2, k3⟩ := g.step (x := vecD p e) hD s2 (by rw [List.getElem?_map, he]; rfl)
        have kl := (List.getElem?_eq_some_iff.mp he).1
        exact ⟨acc, k1, size_ok (by omega), k3⟩
      · intro H1 g
        obtain ⟨s1, hD1⟩ := g.done (by rw [List.length_map, lx]; exact Nat.le_refl _)
        refine ⟨D, _, rfl, SqL.of hD1, ?_⟩
        rw [all_map_id]
        refine ⟨_, rfl, ?_⟩
        cases ea : ds.all (vecD p) with
        | false =>
          have z : vecsD p (.list ds) = false := by
            show (ds.all (vecD p) && evenD ds) = false
            rw [ea]
            rfl
          rw [z] at want
          exact iteT (want H1 s1)
        | true =>
          have z : vecsD p (.list ds) = evenD ds := by
            show (ds.all (vecD p) && evenD ds) = _
            rw [ea]
            rfl
          rw [z] at want
          refine iteF ?_
          refine ⟨_, rfl, b, rfl, ⟨xs, SqL.of (s1 _ _ hb)⟩, ?_⟩
          intro D2 hD2
          have allv := List.all_eq_true.mp ea
          refine lc_list (GrowB H1 D2 (ds.map fun e => decide (lenD e = lenD (ds.getD 0 .none)))) (GrowB.start hD2) (fun i H' _ z => SqL.of (z.1 _ _ (s1 _ _ hb))) ?_ ?_
          · rintro k x H' hx g2
            obtain ⟨e, he, se⟩ := paired_at prs hx
            have kl := (List.getElem?_eq_some_iff.mp he).1
            have s3 := same_trans s1 g2.1
            obtain ⟨y, hy⟩ : ∃ y, xs[0]? = some y := ⟨xs[0]'(by omega), List.getElem?_eq_getElem _⟩
            obtain ⟨e0, he0, se0⟩ := paired_at prs hy
            obtain ⟨c, zs, rfl, hc, lc⟩ := sho_vec (se.up s3) (allv e (List.mem_of_getElem? he))
            obtain ⟨c0, zs0, rfl, hc0, lc0⟩ := sho_vec (se0.up s3) (allv e0 (List.mem_of_getElem? he0))
            refine ⟨rfl, tyes ?_⟩
            refine ⟨_, rfl, c, _, rfl, .inl (SqL.of hc), _, rfl, b, _, 0, _, rfl, rfl, SqL.of (s3 _ _ hb), atI_nat (j := 0) hy, ?_⟩
            refine ⟨c0, _, rfl, .inl (SqL.of hc0), ?_⟩
            have g0 : ds.getD 0 .none = e0 := by
              rw [List.getD_eq_getElem?_getD, he0]
              rfl
            have el : decide (V.int (zs.length : Int) = V.int (zs0.length : Int)) = decide (lenD e = lenD (ds.getD 0 .none)) := by
              rw [g0, lc, lc0]
              by_cases q : lenD e = lenD e0
              · rw [q, decide_eq_true rfl, decide_eq_true rfl]
              · rw [decide_eq_false q, decide_eq_false fun r => q (by have := V.int.inj r; omega)]
            obtain ⟨acc, k1, k2, k3⟩ := g2.step (x := decide (lenD e = lenD (ds.getD 0 .none))) hD2 same_rfl (by rw [List.getElem?_map, he]; rfl)
            refine ⟨rfl, acc, k1, size_ok (by omega), ?_⟩
            rw [el]
            exact k3
          · intro H3 g2
            obtain ⟨s3, hD3⟩ := g2.done (by rw [List.length_map, lx]; exact Nat.le_refl _)
            refine ⟨D2, _, rfl, SqL.of hD3, ?_⟩
            rw [all_map_id]
            have ee : (ds.all fun e => decide (lenD e = lenD (ds.getD 0 .none))) = evenD ds := by
              cases ds with
              | nil => rfl
              | cons d ds => rfl
            rw [ee]
            exact want H3 (same_trans s1 s3)
    | int i => exact iteT (want H same_rfl)
    | none => exact iteT (want H same_rfl)
    | bool b => exact iteT (want H same_rfl)
    | str b => exact iteT (want H same_rfl)
    | tuple b => exact iteT (want H same_rfl)
    | dict b => exact iteT (want H same_rfl)
def spVecsOfD : Sp := fun vs H Q _ => ∃ (p : Int) (v : V) (d : PyData) (n m L : Nat), vs = [.int p, v, .int (m : Int), .int (L : Int)] ∧ Sho n H v d ∧ Sm2 d ∧ ∀ H', Same H H' → Q (.bl (vecsOfD p m L d)) H'
theorem scVectorsOf : FnScope ["prime", "value", "many", "length", "vector"] ["prime", "value", "many", "length"] (defScope sVectorsOf) := ⟨rfl, rfl, rfl, by decide +kernel, rfl, by decide +kernel, by decide +kernel⟩
theorem ok_vecsOfD {f fV : Addr} {fd fdV : FuncData} (F : Fun K "is_vectors_of" "is_vectors_of" sVectorsOf f fd) (FV : Fun K "is_vector_of" "is_vector_of" sVectorOf fV fdV) (GV : FnOk P w K mg base CX0 4 fV fdV ["prime", "value", "length"] spVecOfD) (gV : mg "is_vector_of" = some (.ref fV))
    (gT : mg "type" = none) (gL : mg "list" = none) (gA : mg "all" = none) (gN : mg "len" = none) : FnOk P w K mg base CX0 5 f fd ["prime", "value", "many", "length"] spVecsOfD := by
  have bV : Binds K fdV ["prime", "value", "length"] [] := FV.binds fun _ _ _ _ _ _ us hl => match us, hl with | [_, _, _], _ => rfl
  refine F.ok scVectorsOf (fun vs H Q E h => ?_) (fun cdv A outer s H vs Q E hr h => ?_)
  · obtain ⟨p, v, d, n, m, L, rfl, _⟩ := h
    rfl
  · obtain ⟨p, v, d, n, mm, L, rfl, sh, sm2, want⟩ := h
    refine ⟨_, pss_cons (ps_if (PW.pt (pw_or (pt_cmpR op_isNotTy (pe_typeD rfl gT (pv 1)) (pe_bltn rfl gL boot_list rel_list) (nomark _)) (pw_or1 (pt_cmpR op_ne (pe_callB call_len_seq (by rfl) gN PySem.boot_len (pa_cons (pv 1) pa_nil)) (pv 2) (nomark _)))))
        (pss_one (ps_ret pe_bl)) pss_nil)
      (pss_one (ps_ret (pe_callB (cr_all rfl) (by rfl) gA boot_all (pa_cons (pe_lc (own := [("vector", 4)]) (g := gName 4) (tt := tYes) rfl scVectorsOf.nd
        (pi_list (pv 1)) (blkOk_by (N := ["prime", "value", "many", "length", "vector"]) (sc := defScope sVectorsOf) (by decide +kernel)) (fun _ _ _ _ _ => pg_name (i := 4) scVectorsOf.nd rfl (Or.inl rfl)) (fun _ _ _ _ _ => pts_nil)
        (fun _ _ _ _ _ => pe_call GV hr rfl gV FV.kp bV .nil pass0 (pa_cons (pv 0) (pa_cons (pv 4) (pa_cons (pv 3) pa_nil))))) pa_nil)))), ?_⟩
    refine ⟨_, rfl, _, sh.ty, _, _, rfl, rfl, _, rfl, ?_⟩
    cases d with
    | list ds =>
      obtain ⟨m, b, xs, rfl, rfl, hb, prs⟩ := sh.ofList
      obtain ⟨ll, sml⟩ := sm2 ds rfl
      have lx := paired_len prs
      refine iteF ?_
      refine ⟨_, rfl, b, _, rfl, .inl (SqL.of hb), _, rfl, rfl, _, rfl, ?_⟩
      have el : (!decide (V.int (xs.length : Int) = V.int (mm : Int))) = !decide (ds.length = mm) := by
        rw [lx]
        by_cases q : ds.length = mm
        · rw [q, decide_eq_true rfl, decide_eq_true rfl]
        · rw [decide_eq_false q, decide_eq_false fun r => q (by have := V.int.inj r; omega)]
      rw [el]
      by_cases q : ds.length = mm
      · rw [decide_eq_true q]
        refine iteF ?_
        have z : vecsOfD p mm L (.list ds) = ds.all (vecOfD p L) := by
          show (decide (ds.length = mm) && ds.all (vecOfD p L)) = _
          rw [decide_eq_true q]
          rfl
        rw [z] at want
        refine ⟨_, rfl, b, rfl, ⟨xs, SqL.of hb⟩, ?_⟩
        intro D hD
        refine lc_list (GrowB H D (ds.map (vecOfD p L))) (GrowB.start hD) (fun i H' _ z => SqL.of (z.1 _ _ hb)) ?_ ?_
        · rintro k x H' hx g
          obtain ⟨e, he, se⟩ := paired_at prs hx
          refine ⟨rfl, tyes ?_⟩
          refine ⟨_, rfl, _, rfl, _, rfl, p, x, e, m, L, rfl, se.up g.1, sml e (List.mem_of_getElem? he), fun H2 s2 => ?_⟩
          obtain ⟨acc, k1, k2, k3⟩ := g.step (x := vecOfD p L e) hD s2 (by rw [List.getElem?_map, he]; rfl)
          have kl := (List.getElem?_eq_some_iff.mp he).1
          exact ⟨acc, k1, size_ok (by omega), k3⟩
        · intro H1 g
          obtain ⟨s1, hD1⟩ := g.done (by rw [List.length_map, lx]; exact Nat.le_refl _)
          refine ⟨D, _, rfl, SqL.of hD1, ?_⟩
          rw [all_map_id]
          exact want H1 s1
      · rw [decide_eq_false q]
        have z : vecsOfD p mm L (.list ds) = false := by
          show (decide (ds.length = mm) && ds.all (vecOfD p L)) = false
          rw [decide_eq_false q]
          rfl
        rw [z] at want
        exact iteT (want H same_rfl)
    | int i => exact iteT (want H same_rfl)
    | none => exact iteT (want H same_rfl)
    | bool b => exact iteT (want H same_rfl)
    | str b => exact iteT (want H same_rfl)
    | tuple b => exact iteT (want H same_rfl)
    | dict b => exact iteT (want H same_rfl)
end
end Vb
end L2

set_option Elab.async false
set_option linter.all false
set_option maxRecDepth 100000
set_option maxHeartbeats 4000000
/-! Eo, part 1: an own error class over ValueError with an own __init__, called with one keyword. -/
namespace EoM
open PySem PySem.W PySem.Calls PyProof.Rows PySem.HandSPX
section
variable {M : Model} {A : Around} {E : Value → Shared → Prop} {hh : Heap} {gg : Array GenState} {dd : Drawn} {tk : Nat} {oo : OsState}
variable {nm qn : Str} {C N : Addr} {bs bm : List Value} {sn : List Str} {sub : List Value} {ab : Bool} {col : Option Bool} {dc : Option Addr} {k0 k1 k2 k3 k5 : Option Value}
/-- the class object of such a class -/
abbrev ErrObj (nm qn : Str) (C N : Addr) (bs bm : List Value) (sn : List Str) (sub : List Value) (ab : Bool) (col : Option Bool) (dc : Option Addr) (k0 k1 k2 k3 k5 : Option Value) : Obj :=
  excClassObj nm qn C N bs bm true sn sub ab col dc k0 k1 k2 k3 k5 "ValueError.__new__"
theorem mro_ve (hb : refsVE bm = true) (X : String) : bm.contains (.type X) = veTail.contains (.type X) := refsVE_contains X bm hb
theorem kwcheck {name : Str} {v : Value} {Q : Unit → Shared → Prop} (hb : refsVE bm = true) (hC : hh.get? C = some (ErrObj nm qn C N bs bm sn sub ab col dc k0 k1 k2 k3 k5)) (fin : Q () ⟨hh, gg, dd, tk, oo⟩) :
    wpAny M A (checkBuiltinCall "ValueError.__new__" ⟨[.ref C], [(name, v)]⟩) Q E ⟨hh, gg, dd, tk, oo⟩ := by
  have F := F.excBase_ValueError
  have isVE : (Value.ref C :: bm).contains (.type "ValueError") = true := by rw [List.contains_cons, mro_ve hb]; rfl
  simp only [checkBuiltinCall, F.newKind, F.newSplit, F.newRow]
  repeat (first | refine wpAny_loadPart_at hC ?_ | (refine wpAny_isSubtype_exc hC ?_; rw [isVE]) | refine wpAny_staticBase_exc hC ?_ | refine wpAny_madeBy_exc hC ?_ | simp only [bne_self_eq_false, Bool.false_eq_true, if_false] | wp_step)
  exact fin
end
section
variable {prog : Program} {w : World} {A : Around} {E : Value → Shared → Prop} {R : Result → Shared → Prop} {hh : Heap} {gg : Array GenState} {dd : Drawn} {tk : Nat} {oo : OsState}
variable {nm qn : Str} {C N : Addr} {bs bm : List Value} {sn : List Str} {sub : List Value} {ab : Bool} {col : Option Bool} {dc : Option Addr} {k0 k1 k2 k3 k5 : Option Value}
/-- the heap with a fresh error of the class at C behind it -/
abbrev withErr (hh : Heap) (C : Addr) : Heap := (hh.push (W.kdv_tup [])).push (excO C hh.objs.size)
theorem kwnew {name : Str} {v : Value} (hb : refsVE bm = true) (hC : hh.get? C = some (ErrObj nm qn C N bs bm sn sub ab col dc k0 k1 k2 k3 k5))
    (fin : R (.ok (.ret (.ref (hh.objs.size + 1)))) ⟨withErr hh C, gg, dd, tk, oo⟩) : codeAny (model prog w) A (.builtin "ValueError.__new__" ⟨[.ref C], [(name, v)]⟩) R ⟨hh, gg, dd, tk, oo⟩ := by
  have F := F.excBase_ValueError
  have ends := F.ends
  have isVE : (Value.ref C :: bm).contains (.type "ValueError") = true := by rw [List.contains_cons, mro_ve hb]; rfl
  have noA : (Value.ref C :: bm).contains (.type "AttributeError") = false := by rw [List.contains_cons, mro_ve hb]; rfl
  have noN : (Value.ref C :: bm).contains (.type "NameError") = false := by rw [List.contains_cons, mro_ve hb]; rfl
  have room : ([] : List Value).length ≤ sizeLine := Nat.zero_le _
  refine codeAny_builtinAt F.entry ?_
  unfold Builtin.«BaseException.__new__»
  refine PySem.wpAt_bind ?_
  show PySem.wpAt _ _ _ (stack >>= _) _ _ _
  refine PySem.wpAt_bind (PySem.wpAt_stack fun p below => PySem.wpAt_of_wpAny ?_)
  wp_walk
  refine PySem.wpAt_of_wpAny ?_
  rw [F.owner]
  repeat (first | with_reducible refine wpAny_madeHere_exc F.canon hC ?_ | with_reducible refine wpAny_loadPart_at hC ?_ | (with_reducible refine wpAny_isSubtype_exc hC ?_; first | rw [isVE] | rw [noA] | rw [noN]) | wp_step)
  show R _ _
  rw [Heap.size_push]
  exact fin
theorem kwtype {name : Str} {v : Value} {fI : Addr} {Q : Fin → Shared → Prop} (hb : refsVE bm = true) (hC : hh.get? C = some (ErrObj nm qn C N bs bm sn sub ab col dc k0 k1 k2 k3 k5))
    (hi : W.Looks (model prog w) hh (typeLookup (.ref C) "__init__") (some (.ref fI))) (hs : ∀ self, W.Looks (model prog w) hh (bindSpecial (.ref fI) self) (.ref fI, [self]))
    (fin : codeAny (model prog w) A (.call (.ref fI) ⟨[.ref (hh.objs.size + 1)], [(name, v)]⟩)
      (fun r s' => match r with | .ok (.ret u) => u = .none ∧ Q (.done (.ret (.ref (hh.objs.size + 1)))) s' | .ok _ => False | .error e => E e s') ⟨withErr hh C, gg, dd, tk, oo⟩) :
    wpAny (model prog w) A (Builtin.«type.__call__» ⟨[.ref C], [(name, v)]⟩) Q E ⟨hh, gg, dd, tk, oo⟩ := by
  repeat (first | with_reducible refine wpAny_loadPart_at hC ?_ | with_reducible refine wpAny_madeBy_exc hC ?_ | wp_step)
  refine codeAny_call_builtin_code (Code.quiet_builtin _ F.excBase_ValueError.quiet) (kwcheck hb hC ?_)
  refine kwnew hb hC ?_
  show wpAny _ _ _ _ _ _
  have old : ∀ b o, hh.get? b = some o → (withErr hh C).get? b = some o := fun b o e => Heap.get?_push_of_some _ (Heap.get?_push_of_some _ e)
  have atC := old _ _ hC
  have atE : (withErr hh C).get? (hh.objs.size + 1) = some (excO C hh.objs.size) := by heap_get
  have self_in : (Value.ref C :: bm).contains (.ref C) = true := by simp
  have lk := hi.keeps old
  have bd := (hs (.ref (hh.objs.size + 1))).keeps old
  unfold isInstance
  repeat (first | with_reducible refine wpAny_loadPart_at atE ?_ | (with_reducible refine wpAny_isSubtype_exc atC ?_; rw [self_in]) | wp_step)
  show wpAny _ _ (typeLookup (.ref C) _) _ _ _
  refine lk.at ?_
  refine wpAny_holding (wpAny_bind (bd.at ?_))
  refine wpAny_bind (wpAny_call (codeAny_mono fin fun r s' z => ?_))
  rcases r with e | (u | _ | _ | _) <;> first | exact z | exact z.elim | skip
  obtain ⟨rfl, z⟩ := z
  first
    | exact wpAny_pure (wpAny_pure z)
    | (wp_walk; exact z)
theorem kwcall {name : Str} {v : Value} {fI : Addr} (hb : refsVE bm = true) (hC : hh.get? C = some (ErrObj nm qn C N bs bm sn sub ab col dc k0 k1 k2 k3 k5))
    (hi : W.Looks (model prog w) hh (typeLookup (.ref C) "__init__") (some (.ref fI))) (hs : ∀ self, W.Looks (model prog w) hh (bindSpecial (.ref fI) self) (.ref fI, [self]))
    (fin : codeAny (model prog w) (A.under (.builtin "type.__call__" ⟨[.ref C], [(name, v)]⟩)) (.call (.ref fI) ⟨[.ref (hh.objs.size + 1)], [(name, v)]⟩) (W.InitBack (hh.objs.size + 1) R) ⟨withErr hh C, gg, dd, tk, oo⟩) :
    codeAny (model prog w) A (.call (.ref C) ⟨[], [(name, v)]⟩) R ⟨hh, gg, dd, tk, oo⟩ := by
  have f1 := tc_lookup
  have f2 := tc_bind (.ref C)
  have ty : (⟨hh, gg, dd, tk, oo⟩ : Shared).TypeIs (.ref C) "type" := ⟨_, hC, rfl⟩
  refine codeAny_of_tree ?_
  show wpAny _ _ (callAny (.ref C) _) _ _ _
  repeat (any_goals (first | assumption | with_reducible refine wpAny_loadPart_at hC ?_ | wp_step))
  refine ⟨rfl, ?_⟩
  refine codeAny_call_builtin_at (Code.quiet_builtin _ (by decide +kernel)) entry_typeCall (wpAny_check_type_call_sub hC (kwtype hb hC hi hs ?_))
  refine codeAny_mono fin fun r s' z => ?_
  rcases r with e | (u | _ | _ | _) <;> exact z
end
end EoM

set_option Elab.async false
set_option linter.all false
set_option maxRecDepth 100000
set_option maxHeartbeats 4000000
/-! Eo, part 2: errors with a field, made and kept. -/
namespace L2
namespace Eo
open PySem PySem.Spec PyProof.Rows
/-- the heap with an error of the class at C: its object at a, its dict at d -/
def errH (H : Hp) (a d C : Addr) (v : V) : Hp := upd (upd H d (exd d [(("value" : Str), v)])) a (exo a C (some d))
/-- what the written part says of a class of errors with a field -/
structure ErC (K : PySem.W.Frag) (C fI : Addr) : Prop where
  ox : OexC K C
  iC : PySem.W.findIn K (.ref C) "__init__" = some (some (.ref fI))
  tI : PySem.W.typeIn K (.ref fI) = some (.type "function")
  noV : PySem.W.findIn K (.ref C) "value" = some none
def spInit (C : Addr) : Sp := fun vs H Q _ => ∃ (a : Addr) (v : V), vs = [.ref a, v] ∧ H a = some (exo a C none) ∧ ∀ d, H d = none → d ≠ a → Q .non (errH H a d C v)
section
variable {X : Cx} {pins : List (Addr × Obj)} {σ : St} {H : Hp} {s : Shared} {C fI : Addr} {fd : FuncData} {ps : List Str} {k : Nat} {Q : VK}
theorem err_end {hp : Heap} {g : Array GenState} {dr : Drawn} {tk : Nat} {os : OsState} {us : List Value} {kw : List (Str × Value)} {us' : List Value} {v : V}
    (F1 : FnOk X.prog X.w X.K X.mg X.base CX0 k fI fd ps (spInit C)) (hr : Room (k + 1) X.A) (I : Inv X pins σ H ⟨hp, g, dr, tk, os⟩)
    (atE : ((hp.push (PySem.W.kdv_tup us)).push (PySem.HandSPX.excO C hp.objs.size)).get? (hp.objs.size + 1) = some (PySem.HandSPX.excO C hp.objs.size))
    (hb : ∀ s' : Shared, X.K.In s'.heap → BindsTo s' fd ⟨.ref (hp.objs.size + 1) :: us, kw⟩ (ps.zip us')) (rv : Vals [V.ref (hp.objs.size + 1), v] us')
    (h : ∀ a d, H a = none → H d = none → d ≠ a → Q (.ref a) (errH H a d C v)) :
    codeAny (model X.prog X.w) (X.A.under (.builtin "type.__call__" ⟨.ref C :: us, kw⟩)) (.call (.ref fI) ⟨.ref (hp.objs.size + 1) :: us, kw⟩)
      (PySem.W.InitBack (hp.objs.size + 1) (fun r s' => match r with | .ok (.ret u) => EP X pins σ Q u s' | .ok _ => False | .error e => X.xe e s'))
      ⟨(hp.push (PySem.W.kdv_tup us)).push (PySem.HandSPX.excO C hp.objs.size), g, dr, tk, os⟩ := by
  have le : hp.objs.size ≤ hp.objs.size + 1 := Nat.le_succ _
  have fr : H (hp.objs.size + 1) = none := I.hok.fresh le
  have old : ∀ b o, hp.get? b = some o → ((hp.push (PySem.W.kdv_tup us)).push (PySem.HandSPX.excO C hp.objs.size)).get? b = some o := fun b o e => Heap.get?_push_of_some _ (Heap.get?_push_of_some _ e)
  have J : Inv X pins σ (upd H (hp.objs.size + 1) (exo (hp.objs.size + 1) C none)) ⟨(hp.push (PySem.W.kdv_tup us)).push (PySem.HandSPX.excO C hp.objs.size), g, dr, tk, os⟩ :=
    I.laid (t' := tk) (a := hp.objs.size + 1) (o := exo (hp.objs.size + 1) C none) old le (exo_ok atE)
  refine codeAny_mono (F1.run _ X.stack _ _ _ us' [V.ref (hp.objs.size + 1), v] (fun u H2 => u = .non ∧ Q (.ref (hp.objs.size + 1)) H2) (fun _ _ _ => False) (hr.make C us kw) (J.env0.make C us kw) (hb _ J.kIn) rv ?_) fun r s' z => ?_
  · refine ⟨_, v, rfl, upd_same, fun d nd ne => ⟨rfl, ?_⟩⟩
    have nd' : H d = none := by
      rw [upd_ne ne] at nd
      exact nd
    have e : errH (upd H (hp.objs.size + 1) (exo (hp.objs.size + 1) C none)) (hp.objs.size + 1) d C v = errH H (hp.objs.size + 1) d C v := by
      funext b
      unfold errH upd
      by_cases q : b = hp.objs.size + 1
      · simp [q]
      · simp [q]
    rw [e]
    exact h _ d fr nd' ne
  · cases r with
    | error e => exact False.elim z
    | ok fl =>
      cases fl with
      | ret u =>
        obtain ⟨v2, H2, J2, r2, e2, q2⟩ := J.after z
        subst e2
        exact ⟨r2, V.ref (hp.objs.size + 1), H2, J2, rfl, q2⟩
      | next => exact False.elim z
      | brk => exact False.elim z
      | cont => exact False.elim z
/-- C(..) with positional arguments, defaults behind them -/
theorem run_errP {us : List Value} {vs dvs : List V} {ds : List Value} {v : V} (T : ErC X.K C fI) (F1 : FnOk X.prog X.w X.K X.mg X.base CX0 k fI fd ps (spInit C)) (hr : Room (k + 1) X.A) (hb : Binds X.K fd ps ds) (hd : Vals dvs ds)
    (I : Inv X pins σ H s) (r : Vals vs us) (hv : vs ++ dvs = [v]) (hl : ps.length = 2) (h : ∀ a d, H a = none → H d = none → d ≠ a → Q (.ref a) (errH H a d C v)) :
    wpAny (model X.prog X.w) X.A (call (.ref C) us) (EP X pins σ Q) X.xe s := by
  obtain ⟨nm, q, N, bs, bm, sn, sub, ab, col, dc, k0, k1, k2, k3, k5, hC, hbm⟩ := T.ox.cls
  obtain ⟨hp, g, dr, tk, os⟩ := s
  have at1 : ((hp.push (PySem.W.kdv_tup us)).push (PySem.HandSPX.excO C hp.objs.size)).get? (hp.objs.size + 1) = some (PySem.HandSPX.excO C hp.objs.size) := by heap_get
  have r2 : Vals [V.ref (hp.objs.size + 1), v] (Value.ref (hp.objs.size + 1) :: (us ++ ds)) := .cons rfl (by rw [← hv]; exact r.append hd)
  have len2 : (Value.ref (hp.objs.size + 1) :: us ++ ds).length = ps.length := by
    rw [hl]
    exact r2.length.symm
  have lu : us.length ≤ sizeLine := by
    have z := r2.length
    simp only [List.length_cons, List.length_append, List.length_nil] at z
    have z2 : us.length ≤ 1 := by omega
    exact Nat.le_trans z2 (by rw [sizeLine_eq]; decide)
  exact wpAny_call (PySem.HandSPX.call_own F.excBase_ValueError (EoM.mro_ve hbm) (I.kIn _ _ hC) (PySem.W.looks_findIn I.kIn T.iC) (fun self => PySem.W.bind_fn I.kIn self T.tI) lu
    (codeAny_mono (err_end (us := us) (kw := []) F1 hr I at1 (fun s' X' => hb s' _ X' len2) r2 h) fun r s' z => by
      rcases r with e | (u | _ | _ | _) <;> exact z))
/-- C(value=..) -/
theorem run_errK {u : Value} {v : V} {g2 : List Value → List Value → List Value} {gV : List V → List V → List V} (T : ErC X.K C fI) (F1 : FnOk X.prog X.w X.K X.mg X.base CX0 k fI fd ps (spInit C)) (hr : Room (k + 1) X.A) (hb : KBn X.K fd ps 1 ["value"] g2 gV)
    (I : Inv X pins σ H s) (r : RelV v u) (hg : ∀ x y, gV [x] [y] = [x, y]) (h : ∀ a d, H a = none → H d = none → d ≠ a → Q (.ref a) (errH H a d C v)) :
    wpAny (model X.prog X.w) X.A (call (.ref C) [] [(("value" : Str), u)]) (EP X pins σ Q) X.xe s := by
  obtain ⟨nm, q, N, bs, bm, sn, sub, ab, col, dc, k0, k1, k2, k3, k5, hC, hbm⟩ := T.ox.cls
  obtain ⟨hp, g, dr, tk, os⟩ := s
  have at1 : ((hp.push (PySem.W.kdv_tup [])).push (PySem.HandSPX.excO C hp.objs.size)).get? (hp.objs.size + 1) = some (PySem.HandSPX.excO C hp.objs.size) := by heap_get
  have r2 : Vals [V.ref (hp.objs.size + 1), v] (g2 [Value.ref (hp.objs.size + 1)] [u]) := by
    have z := hb.rel (vs := [V.ref (hp.objs.size + 1)]) (us := [Value.ref (hp.objs.size + 1)]) (zs := [v]) (ws := [u]) (.cons rfl .nil) (.cons r .nil)
    rw [hg] at z
    exact z
  exact wpAny_call (EoM.kwcall hbm (I.kIn _ _ hC) (PySem.W.looks_findIn I.kIn T.iC) (fun self => PySem.W.bind_fn I.kIn self T.tI)
    (codeAny_mono (err_end (us := []) (kw := [(("value" : Str), u)]) F1 hr I at1 (fun s' X' => hb.to s' [_] [u] X' rfl rfl) r2 h) fun r s' z => by
      rcases r with e | (u | _ | _ | _) <;> exact z))
end
/-! ### the three calls as expressions -/
/-- what is wanted of a list of one argument -/
def one1 (F : V → Hp → Prop) : List V → Hp → Prop
  | [v], H => F v H
  | _, _ => False
theorem one1_of {F : V → Hp → Prop} : ∀ {vs : List V} {H : Hp}, one1 F vs H → ∃ v, vs = [v] ∧ F v H
  | [v], _, h => ⟨v, rfl, h⟩
  | [], _, h => h.elim
  | _ :: _ :: _, _, h => h.elim
def tErr (C : Addr) (te : TE) : TE := fun σ H Q => te σ H fun v H1 => ∀ a d, H1 a = none → H1 d = none → d ≠ a → Q (.ref a) (errH H1 a d C v)
def tErr0 (C : Addr) : TE := fun _ H Q => ∀ a d, H a = none → H d = none → d ≠ a → Q (.ref a) (errH H a d C .non)
section
variable {X : Cx} {C fI : Addr} {fd : FuncData} {ps : List Str} {k : Nat} {x : Str} {p pos kp : Pos} {e : Expr} {te : TE} {ds : List Value}
theorem pe_errP (T : ErC X.K C fI) (F1 : FnOk X.prog X.w X.K X.mg X.base CX0 k fI fd ps (spInit C)) (hr : Room (k + 1) X.A) (hb : Binds X.K fd ps []) (hl : ps.length = 2) (hg : Gl X x) (hm : X.mg x = some (.ref C)) (he : PE X e te)
    (hdb : (x == ("__debug__" : Str)) = false := by decide) (hs : starEach [e] X.env = (false, eval e X.env) :: starEach [] X.env := by rfl) (hpl : (backTo pos (starEach [] X.env)).any (·.1) = false := by rfl) :
    PE X (.Call (.Name x p) [e] [] pos) (tErr C te) := by
  refine ⟨fun pins s σ H Q I h => ?_⟩
  refine wpAny_Call_Name_kw (ld_glob I hg hm ?_ hdb)
  refine PySem.W.callWith_K (h₀ := X.base) I.ok.mod.kin T.ox.kC (thn ((pa_cons he pa_nil hs).run pos pins s σ H (one1 fun v H1 => ∀ a d, H1 a = none → H1 d = none → d ≠ a → Q (.ref a) (errH H1 a d C v)) I h) fun us s1 ⟨vs, H1, I1, r, q⟩ => ⟨I1.kIn, ?_⟩) hs hpl
  obtain ⟨v, rfl, q⟩ := one1_of q
  exact run_errP (dvs := []) T F1 hr hb .nil I1 r (List.append_nil _) hl q
theorem pe_err0 (T : ErC X.K C fI) (F1 : FnOk X.prog X.w X.K X.mg X.base CX0 k fI fd ps (spInit C)) (hr : Room (k + 1) X.A) (hb : Binds X.K fd ps ds) (hd : Vals [V.non] ds) (hl : ps.length = 2) (hg : Gl X x) (hm : X.mg x = some (.ref C))
    (hdb : (x == ("__debug__" : Str)) = false := by decide) : PE X (.Call (.Name x p) [] [] pos) (tErr0 C) := by
  refine ⟨fun pins s σ H Q I h => ?_⟩
  refine wpAny_Call_Name_kw (ld_glob I hg hm ?_ hdb)
  exact PySem.W.callWith_K0 I.kIn T.ox.kC (run_errP (us := []) (vs := []) T F1 hr hb hd I .nil rfl hl h)
theorem pe_errK {g2 : List Value → List Value → List Value} {gV : List V → List V → List V} (T : ErC X.K C fI) (F1 : FnOk X.prog X.w X.K X.mg X.base CX0 k fI fd ps (spInit C)) (hr : Room (k + 1) X.A) (hb : KBn X.K fd ps 1 ["value"] g2 gV)
    (hgV : ∀ x y, gV [x] [y] = [x, y]) (hg : Gl X x) (hm : X.mg x = some (.ref C)) (he : PE X e te) (hdb : (x == ("__debug__" : Str)) = false := by decide) :
    PE X (.Call (.Name x p) [] [⟨some "value", e, kp⟩] pos) (tErr C te) := by
  refine ⟨fun pins s σ H Q I h => ?_⟩
  refine wpAny_Call_Name_kw (ld_glob I hg hm ?_ hdb)
  refine PySem.W.callWith_KW0 (h₀ := X.base) I.ok.mod.kin T.ox.kC (by rfl) (thn ((pk_cons he pk_nil).run pos pins s σ H (one1 fun v H1 => ∀ a d, H1 a = none → H1 d = none → d ≠ a → Q (.ref a) (errH H1 a d C v)) I h) fun us s1 ⟨vs, H1, I1, r, q⟩ => ⟨I1.kIn, ?_⟩) (by rfl)
  obtain ⟨v, rfl, q⟩ := one1_of q
  cases r with
  | cons r1 r2 =>
    cases r2
    exact run_errK T F1 hr hb I1 r1 hgV q
end
end Eo
end L2

set_option Elab.async false
set_option linter.all false
set_option maxRecDepth 100000
set_option maxHeartbeats 4000000
/-! Eo, part 3: isinstance of errors that are kept, with a dict of their own or without; their fields. -/
namespace EoM
open PySem PySem.Spec PySem.Calls PyProof.Rows PySem.W
section
variable {prog : Program} {w : World} {A : Around} {E : Value → Shared → Prop} {s : Shared} {K : Frag} {x C : Addr} {ox : Obj} {od : Option Obj}
/-- what the written part says of a class of errors, so that its objects are asked rightly -/
structure ErA (K : Frag) (C : Addr) : Prop where
  ga : findIn K (.ref C) "__getattribute__" = some (some (.builtin "BaseException.__getattribute__"))
  gt : findIn K (.ref C) "__getattr__" = some none
  sub : subIn K (.ref C) (.type "BaseException") = some true
  dct : hasDictIn K C = true
  cl : findIn K (.ref C) "__class__" = some (some (.builtin "object.__class__"))
  ob : mroIn K C (.type "object") = some true
theorem cls_get : specialIn K (.builtin "object.__class__") "__get__" = some (some (.builtin "getset_descriptor.__get__")) := by first | rfl | kernel_rfl
theorem cls_takes : takesIn K (.builtin "object.__class__") = some true := by first | rfl | kernel_rfl
theorem cls_found (T : ErA K C) : findObj K C od "__class__" = some (.bind (.builtin "getset_descriptor.__get__") (.builtin "object.__class__")) := by
  obtain ⟨cd, hc, _⟩ := any_some T.dct
  unfold findObj
  rw [hc, Option.bind_some, T.cl, Option.bind_some]
  simp [cls_get, cls_takes]
theorem class_of {Q : Option Value → Shared → Prop} (T : ErA K C) (X : K.In s.heap) (I : InstAt s.heap x ox C od) (fin : Q (some (.ref C)) { s with toks := s.toks + 1 }) : wpAny (model prog w) A (getAttr? (.ref x) "__class__") Q E s := by
  have found := cls_found (od := od) T
  obtain ⟨hp, g, d, t, os⟩ := s
  have ty := I.type (M := model prog w)
  have l1 := looks_findIn (M := model prog w) X T.ga
  have l2 := looks_findIn (M := model prog w) X T.gt
  have l3 := looks_find (M := model prog w) X I found
  have isB : Looks (model prog w) hp (isInstance (.ref x) (.type "BaseException")) true := ty.andThen (looks_subIn X T.sub)
  have n0 : (false && onTheHeap (Value.builtin "BaseException.__getattribute__")) = false := rfl
  have n2 : (Value.builtin "BaseException.__getattribute__" == Value.builtin "object.__getattribute__") = false := by decide +kernel
  have n1 : (onTheHeap (Value.ref C) && Value.builtin "BaseException.__getattribute__" == Value.builtin "object.__getattribute__") = false := by rw [n2]; rfl
  unfold getAttr? getAttrBy? getAttrBy
  refine wpAny_bind (wpAny_mkText (wpAny_bind (wpAny_attempt (wpAny_holding (wpAny_bind (ty.at (wpAny_bind (l1.at ?_))))))))
  show wpAny _ _ (if (onTheHeap (Value.ref C) && Value.builtin "BaseException.__getattribute__" == Value.builtin "object.__getattribute__") = true then _ else _) _ _ _
  rw [n1, if_neg Bool.false_ne_true]
  unfold getAttrByItsOwn hookBefore
  refine wpAny_bind ?_
  rw [if_pos (show onTheHeap (Value.ref C) = true from rfl)]
  refine l2.at ?_
  refine wpAny_bind (wpAny_attempt (wpAny_holding ?_))
  unfold callGetattribute
  rw [n0, if_neg Bool.false_ne_true]
  unfold boundAndCalled
  rw [PySem.F.excAttr_ValueError.ga.bind (.ref x)]
  refine wpAny_bind (wpAny_pure ?_)
  show wpAny _ _ (call (.builtin "BaseException.__getattribute__") [.ref x, .str "__class__" t]) _ _ _
  refine wpAny_call (codeAny_call_builtin PySem.F.excAttr_ValueError.ga.plain PySem.F.entry_bexc_ga ?_)
  refine @check_slot (model prog w) _ _ ⟨hp, g, d, t + 1, os⟩ "BaseException.__getattribute__" "BaseException" "__getattribute__" (.ref x) [.str "__class__" t] [] _ (by decide +kernel) (by decide +kernel) isB (PySem.F.args_bexc_ga (.ref x) (.str "__class__" t)) ?_
  unfold Builtin.«object.__getattribute__»
  refine wpAny_bind (wpAny_of_eq (a := ((Value.ref x : Value), [Value.str "__class__" t])) (by first | rfl | (simp only [slotArgs]; rfl)) ?_)
  refine wpAny_bind (wpAny_pure (wpAny_bind (ty.at (wpAny_bind (l3.at ?_)))))
  show wpAny _ _ (holding [Value.builtin "object.__class__"] (call (.builtin "getset_descriptor.__get__") [.builtin "object.__class__", .ref x, .ref C]) >>= ret) _ _ _
  refine wpAny_bind (wpAny_holding (wpAny_call (class_get (s := ⟨hp, g, d, t + 1, os⟩) (ox := ox) (od := od) X I T.ob ?_)))
  refine wpAny_pure ?_
  show wpAny _ _ (handedOut (.ref C)) _ _ _
  rw [handedOut_of (v := .ref C) rfl]
  first
    | exact wpAny_pure (wpAny_pure fin)
    | exact wpAny_pure fin
    | exact wpAny_pure (wpAny_bind (wpAny_pure (wpAny_pure fin)))
theorem kit_err (T : ErA K C) : KitX K (.ref x) (.ref C) (fun h => InstAt h x ox C od) where
  ty := fun _ _ _ I => I.type
  it := fun _ _ X _ => by
    obtain ⟨cd, hc, _⟩ := any_some T.dct
    unfold clsIn at hc
    split at hc
    · rename_i c' d' cd' sl' ho
      intro A' Q' E' s' k q
      unfold isType loadHead
      exact wpAny_bind (wpAny_loadPart (k _ _ (X _ _ ho)) (wpAny_pure q))
    · cases hc
  ne := fun h tp dd its n sl X htp => by
    obtain ⟨cd, hc, _⟩ := any_some T.dct
    refine Bool.eq_false_iff.mpr fun q => ?_
    have e : C = tp := Value.ref.inj (beq_iff_eq.mp q)
    subst e
    unfold clsIn at hc
    split at hc
    · rename_i c' d' cd' sl' ho
      have z := (X _ _ ho).symm.trans htp
      cases z
    · cases hc
  ca := fun X I k => class_of T X I k
end
end EoM
namespace L2
namespace Eo
open PySem PySem.Spec PyProof.Rows
/-- at a: an error of the class at C, with a field or bare -/
def ErrAt (H : Hp) (a C : Addr) : Prop := (∃ d v, H a = some (exo a C (some d)) ∧ H d = some (exd d [(("value" : Str), v)])) ∨ H a = some (ExO (.ref C) a)
theorem inst_of {P : Program} {w : World} {H : Hp} {h : Heap} {a C : Addr} (ok : HOk P w H h) (e : ErrAt H a C) : ∃ ox od, PySem.W.InstAt h a ox C od := by
  rcases e with ⟨d, v, ea, ed⟩ | ea
  · obtain ⟨t1, ho⟩ := exo_at ok ea
    obtain ⟨mA, ⟨oD, _, _, hd, _⟩, _⟩ := exd_at ok ed
    exact ⟨_, some oD, ho, rfl, rfl, hd⟩
  · obtain ⟨⟨oe, vs, ho, ⟨hz1, hz2⟩, hdt, _⟩, _, _⟩ := ok a _ ea
    obtain ⟨oc, odd, oda, osl⟩ := oe
    dsimp only at hz1 hz2 hdt
    subst hz1 hz2 hdt
    exact ⟨_, none, ho, rfl, rfl, trivial⟩
/-- isinstance(e, c) of such an error -/
def rIsErr (K : PySem.W.Frag) : List V → Hp → VK → Prop := fun xs H Q => ∃ (a C : Addr) (c : V) (cv : Value) (b : Bool), xs = [.ref a, c] ∧ EoM.ErA K C ∧ ErrAt H a C ∧ ClsV c cv ∧ PySem.W.kitOne K (.ref C) cv = some b ∧ Q (.bl b) H
theorem call_isErr {X : Cx} : CallR X (.builtin "isinstance") (rIsErr X.K) := by
  intro pins s σ H xs us Q I r h
  obtain ⟨a, C, c, cv, b, rfl, T, ea, k, e, q⟩ := h
  obtain ⟨u1, u2, rfl, r1, r2⟩ := vals2 r
  have e2 := k.eq r2
  subst e2
  cases (show u1 = Value.ref a from r1)
  obtain ⟨ox, od, J⟩ := inst_of I.hok ea
  exact PySem.W.kia_one (EoM.kit_err T) I.kIn J e (fun z => nomatch z) fun tk => ⟨.bl b, H, I.tok tk, rfl, q⟩
/-- e.value -/
def tVal (K : PySem.W.Frag) (te : TE) : TE := fun σ H Q => te σ H fun x H1 => ∃ (a C d : Addr) (v : V), x = .ref a ∧ EoM.ErA K C ∧ PySem.W.findIn K (.ref C) "value" = some none ∧ H1 a = some (exo a C (some d)) ∧ H1 d = some (exd d [(("value" : Str), v)]) ∧ Q v H1
theorem pe_val {X : Cx} {e : Expr} {te : TE} {pos : Pos} (he : PE X e te) (hb : attributeBase e "value" X.env (eval e X.env) = eval e X.env := by rfl) : PE X (.Attribute e "value" pos) (tVal X.K te) := by
  refine ⟨fun pins s σ H Q I h => ?_⟩
  refine attr_of hb (thn (he.run pins s σ H _ I h) fun u s1 hh => ?_)
  obtain ⟨x, H1, I1, rx, a, C, d, v, rfl, T, noV, ea, ed, q⟩ := hh
  obtain rfl : u = Value.ref a := rx
  obtain ⟨t1, ho⟩ := exo_at I1.hok ea
  obtain ⟨mA, hns, rel⟩ := exd_at I1.hok ed
  obtain ⟨oD, hd, hl⟩ := lookIn_ns hns
  have l : List.lookup ("value" : Str) [(("value" : Str), v)] = some v := by simp [List.lookup]
  obtain ⟨u, hu, ru⟩ := RelO.some_of (v := v) (o := mA "value") (by rw [← l]; exact rel "value")
  have J : PySem.W.InstAt s1.heap a _ C (some oD) := ⟨ho, rfl, rfl, hd⟩
  exact PySem.HandSPX.exc_get I1.kIn J T.ga T.gt T.sub (PySem.W.findObj_own T.dct noV rfl (by rw [hl, hu])) (handed_of ru) ⟨v, H1, I1.tok _, ru, q⟩
end Eo
end L2

set_option Elab.async false
set_option linter.all false
set_option maxRecDepth 100000
set_option maxHeartbeats 4000000
/-! Vb, part 45: errors raised; the doors of prime and vectors. -/
namespace L2
namespace Vb
open PySem PySem.Spec PyProof.Rows
open Eo (ErC spInit errH)
abbrev rowP (xs : List Int) : PyData := .list (xs.map PyData.int)
abbrev matP (T : List (List Int)) : PyData := .list (T.map rowP)
/-- what is wished where an error of the class at C with the field v leaves -/
def Err (H : Hp) (C : Addr) (v : V) (E : XK) : Prop := ∀ (dd : Addr) (H' : Hp), Same H H' → H dd = none → H' dd = some (.xd [(("value" : Str), v)]) → E (.ref C) (some dd) H'
theorem Err.up {H H1 : Hp} {C : Addr} {v : V} {E : XK} (h : Err H C v E) (s : Same H H1) : Err H1 C v E := fun dd H' s' n e => h dd H' (same_trans s s') (s.free n) e
/-- a class of errors with a field: called, raised -/
structure Bad (P : Program) (w : World) (K : PySem.W.Frag) (mg : Str → Option Value) (base : Heap) (x : Str) (C : Addr) : Prop where
  gC : mg x = some (.ref C)
  ex : ∃ fI fd, ErC K C fI ∧ FnOk P w K mg base CX0 1 fI fd ["self", "value"] (spInit C) ∧ Binds K fd ["self", "value"] []
theorem raise_heap {H : Hp} {a d C : Addr} {v : V} (na : H a = none) (nd : H d = none) (ne : d ≠ a) : Same H (upd (del (errH (upd H a (exo a C none)) a d C v) a) d (.xd [(("value" : Str), v)])) := fun b o e => by
  have n1 : b ≠ a := ne_of_none e na
  have n2 : b ≠ d := ne_of_none e nd
  rw [upd_ne n2, del_ne n1]
  unfold errH
  rw [upd_ne n1, upd_ne n2, upd_ne n1]
  exact e
section
variable {X : Cx}
/-- raise C(x), x in slot i -/
def tRaiseN (C : Addr) (W : WX) (i : Nat) : TS := fun _ σ H => ∃ v, σ[i]? = some (some v) ∧ ∀ (dd : Addr) (H' : Hp), Same H H' → H dd = none → H' dd = some (.xd [(("value" : Str), v)]) → W (.ref C) (some dd) σ H'
theorem ps_raiseN {x : Str} {C : Addr} {e : Expr} {i : Nat} {W : WX} {p pos pos2 : Pos} (hc : X.calm = true) (B : Bad X.prog X.w X.K X.mg X.base x C) (hr : Room 2 X.A) (tk : Takes X W) (hg : Gl X x) (he : PE X e (tVar i))
    (hdb : (x == ("__debug__" : Str)) = false := by decide) (hs : starEach (e :: []) X.env = (false, eval e X.env) :: starEach [] X.env := by rfl) (hpl : (backTo pos (starEach [] X.env)).any (·.1) = false := by rfl) :
    PS X (.Raise (some (.Call (.Name x p) [e] [] pos)) none pos2) (tRaiseN C W i) := by
  obtain ⟨fI, fd, T, F1, b1⟩ := B.ex
  have R := ps_raise (pos := pos2) hc tk (pmk_oex (p := p) (CX := CX0) (dvs := []) T.ox T.iC T.tI F1 hr b1 .nil pass0 hg B.gC (pa_cons he pa_nil hs) hdb hs hpl)
  refine ⟨fun pins s σ H D I h => R.run pins s σ H D I ?_⟩
  obtain ⟨v, hv, q⟩ := h
  refine ⟨v, hv, ?_⟩
  refine ⟨by show 1 ≤ 1000; decide, fun a na => ?_⟩
  refine ⟨a, v, rfl, upd_same, fun d nd ne => ⟨rfl, d, [(("value" : Str), v)], ?_, ?_, ?_, ?_⟩⟩
  · unfold errH
    rw [upd_same]
  · unfold errH
    rw [upd_ne ne, upd_same]
  · rw [upd_ne ne] at nd
    exact nd
  · rw [upd_ne ne] at nd
    exact q d _ (raise_heap na nd ne) nd upd_same
end
end Vb
end L2

set_option Elab.async false
set_option linter.all false
set_option maxRecDepth 100000
set_option maxHeartbeats 4000000
/-! Vb, part 46: the doors of prime, vectors, questions. -/
namespace L2
namespace Vb
open PySem PySem.Spec PyProof.Rows
abbrev sReqQ : Stmt := topS 39
abbrev sReqB : Stmt := topS 45
def primD : PyData → Bool
  | .int i => decide (2 ≤ i) && (decide (i ≤ 65537) && primI i)
  | _ => false
/-- nothing is asked of the data -/
def okP : PyData → Bool := fun _ => true
def intD : PyData → Int
  | .int i => i
  | _ => 0
theorem primD_int {d : PyData} (h : primD d = true) : d = .int (intD d) ∧ 2 ≤ intD d ∧ intD d ≤ 65537 := by
  cases d with
  | int i =>
    obtain ⟨a, z⟩ := He.ba h
    obtain ⟨b, _⟩ := He.ba z
    exact ⟨rfl, of_decide_eq_true a, of_decide_eq_true b⟩
  | _ => cases h
section
variable {P : Program} {w : World} {K : PySem.W.Frag} {mg : Str → Option Value} {base : Heap}
def spPrimeD : Sp := fun vs H Q _ => ∃ (v : V) (d : PyData) (n : Nat), vs = [v] ∧ Sho n H v d ∧ okP d = true ∧ ∀ H', Same H H' → Q (.bl (primD d)) H'
theorem ok_primeD {f : Addr} {fd : FuncData} (F : Fun K "is_prime" "is_prime" sPrime f fd) (g : PrimG K mg) :
    FnOk P w K mg base CX0 1 f fd ["value"] spPrimeD := by
  obtain ⟨gT, gI, gG, ⟨sa, gS, hS⟩, gP, gC⟩ := g
  refine F.ok scPrime (fun vs H Q E h => ?_) (fun cdv A outer s H vs Q E hr h => ?_)
  · obtain ⟨v, d, n, rfl, _⟩ := h
    rfl
  · obtain ⟨v, d, n, rfl, sh, ok, want⟩ := h
    refine ⟨_, pss_cons (ps_if (PW.pt (pw_or (pt_cmpR op_isNotTy (pe_typeD rfl gT (pv 0)) (pe_bltn rfl gI boot_int rel_int) (nomark _)) (pw_or1 (pt_not (pt_chain op_le op_le pe_int (pv 0) (pe_gint rfl gG))))))
        (pss_one (ps_ret pe_bl)) pss_nil)
      (pss_one (ps_ret (pe_or (pe_cmpR op_in_seq (pv 0) (pe_glob (v := .ref sa) rfl gS rfl (by decide)) (by rfl)) (pe_one (pe_cmpR op_eq (pe_callImp cr_gcd rfl gC (pa_cons (pv 0) (pa_cons (pe_gint rfl gP) pa_nil))) pe_int (nomark _)))))), ?_⟩
    refine ⟨_, rfl, _, sh.ty, _, _, rfl, rfl, _, rfl, ?_⟩
    cases d with
    | int p =>
      obtain rfl := sh.ofInt
      refine iteF ?_
      refine ⟨_, rfl, _, _, rfl, rfl, _, rfl, ?_⟩
      by_cases p2 : 2 ≤ p
      · rw [decide_eq_true p2]
        refine iteT ⟨_, _, rfl, rfl, _, rfl, ?_⟩
        by_cases p6 : p ≤ 65537
        · rw [decide_eq_true p6]
          refine iteF ?_
          have e : primD (.int p) = primI p := by
            show (decide (2 ≤ p) && (decide (p ≤ 65537) && _)) = _
            rw [decide_eq_true p2, decide_eq_true p6]
            rfl
          rw [e] at want
          refine ⟨_, rfl, sa, _, rfl, .inr (hS _), rfl, small_flat, _, rfl, ?_⟩
          unfold primI at want
          cases e2 : inV (.int p) (SMALL_PRIMES_L.map V.int) with
          | true =>
            rw [e2] at want
            exact iteT (want H same_rfl)
          | false =>
            rw [e2, Bool.false_or] at want
            refine iteF ⟨_, rfl, p, smallProduct, rfl, rfl, ?_⟩
            have z2 : decide (V.int ((p.natAbs.gcd smallProduct.natAbs : Nat) : Int) = V.int 1) = decide (((p.natAbs.gcd smallProduct.natAbs : Nat) : Int) = 1) := by
              by_cases q : ((p.natAbs.gcd smallProduct.natAbs : Nat) : Int) = 1
              · rw [decide_eq_true q, decide_eq_true (congrArg V.int q)]
              · rw [decide_eq_false q, decide_eq_false fun r => q (V.int.inj r)]
            rw [z2]
            exact want H same_rfl
        · rw [decide_eq_false p6]
          have e : primD (.int p) = false := by
            show (decide (2 ≤ p) && (decide (p ≤ 65537) && _)) = _
            rw [decide_eq_false p6, Bool.false_and, Bool.and_false]
          rw [e] at want
          exact iteT (want H same_rfl)
      · rw [decide_eq_false p2]
        have e : primD (.int p) = false := by
          show (decide (2 ≤ p) && (decide (p ≤ 65537) && _)) = _
          rw [decide_eq_false p2, Bool.false_and]
        rw [e] at want
        exact iteF ⟨_, rfl, iteT (want H same_rfl)⟩
    | none => exact iteT (want H same_rfl)
    | bool b => exact iteT (want H same_rfl)
    | str b => exact iteT (want H same_rfl)
    | list b => exact iteT (want H same_rfl)
    | tuple b => exact iteT (want H same_rfl)
    | dict b => exact iteT (want H same_rfl)
def spReqPX (CP : Addr) : Sp := fun vs H Q E => ∃ (v : V) (d : PyData) (n : Nat), vs = [v] ∧ Sho n H v d ∧ okP d = true ∧ (primD d = true → ∀ H', Same H H' → Q .non H') ∧ (primD d = false → Err H CP v E)
theorem ok_reqPX {CP f fP : Addr} {fd fdP : FuncData} (BP : Bad P w K mg base "InvalidPrime" CP) (F : Fun K "require_prime" "require_prime" sReqP f fd) (FP : Fun K "is_prime" "is_prime" sPrime fP fdP) (GP : FnOk P w K mg base CX0 1 fP fdP ["value"] spPrimeD) (gP : mg "is_prime" = some (.ref fP)) :
    FnOk P w K mg base (L2.CX P w) 3 f fd ["prime"] (spReqPX CP) := by
  have bP : Binds K fdP ["value"] [] := FP.binds fun _ _ _ _ _ _ us hl => match us, hl with | [_], _ => rfl
  refine F.okX scReqP (fun vs H Q E h => ?_) (fun cdv A outer s H vs Q E hr h => ?_)
  · obtain ⟨v, d, n, rfl, _⟩ := h
    rfl
  · obtain ⟨v, d, n, rfl, sh, ok, yes, no⟩ := h
    refine ⟨_, pss_one (ps_if (pt_not (pt_val (pe_call GP (hr.mono (by decide)) rfl gP FP.kp bP .nil pass0 (pa_cons (pv 0) pa_nil)))) (pss_one (ps_raiseN rfl BP hr (takes_of rfl rfl rfl rfl) rfl (pv 0))) pss_nil), ?_⟩
    refine ⟨_, rfl, v, d, n, rfl, sh, ok, fun H' sm => ⟨_, rfl, ?_⟩⟩
    cases e : primD d with
    | true => exact iteF (yes e H' sm)
    | false =>
      refine iteT ⟨_, rfl, fun dd H2 s2 nd hd => ?_⟩
      exact no e dd H2 (same_trans sm s2) (sm.free nd) hd
def spReqVX (CV : Addr) : Sp := fun vs H Q E => ∃ (p : Int) (v : V) (d : PyData) (n : Nat), vs = [.int p, v] ∧ Sho n H v d ∧ Sm2 d ∧ (vecsD p d = true → ∀ H', Same H H' → Q .non H') ∧ (vecsD p d = false → Err H CV v E)
theorem ok_reqVX {CV f fV : Addr} {fd fdV : FuncData} (BV : Bad P w K mg base "InvalidVectors" CV) (F : Fun K "require_vectors" "require_vectors" sReqV f fd) (FV : Fun K "is_vectors" "is_vectors" sVectors fV fdV) (GV : FnOk P w K mg base CX0 4 fV fdV ["prime", "value"] spVecsD) (gV : mg "is_vectors" = some (.ref fV)) :
    FnOk P w K mg base (L2.CX P w) 5 f fd ["prime", "vectors"] (spReqVX CV) := by
  have bV : Binds K fdV ["prime", "value"] [] := FV.binds fun _ _ _ _ _ _ us hl => match us, hl with | [_, _], _ => rfl
  refine F.okX scReqV (fun vs H Q E h => ?_) (fun cdv A outer s H vs Q E hr h => ?_)
  · obtain ⟨p, v, d, n, rfl, _⟩ := h
    rfl
  · obtain ⟨p, v, d, n, rfl, sh, sz, yes, no⟩ := h
    refine ⟨_, pss_one (ps_if (pt_not (pt_val (pe_call GV hr rfl gV FV.kp bV .nil pass0 (pa_cons (pv 0) (pa_cons (pv 1) pa_nil))))) (pss_one (ps_raiseN rfl BV (hr.mono (by decide)) (takes_of rfl rfl rfl rfl) rfl (pv 1))) pss_nil), ?_⟩
    refine ⟨_, rfl, _, rfl, p, v, d, n, rfl, sh, sz, fun H' sm => ⟨_, rfl, ?_⟩⟩
    cases e : vecsD p d with
    | true => exact iteF (yes e H' sm)
    | false =>
      refine iteT ⟨_, rfl, fun dd H2 s2 nd hd => ?_⟩
      exact no e dd H2 (same_trans sm s2) (sm.free nd) hd
def someD (p : Int) (d : PyData) : Bool := vecsD p d && decide (lenD d ≠ 0)
def spReqSX (CV : Addr) : Sp := fun vs H Q E => ∃ (p : Int) (v : V) (d : PyData) (n : Nat), vs = [.int p, v] ∧ Sho n H v d ∧ Sm2 d ∧ (someD p d = true → ∀ H', Same H H' → Q .non H') ∧ (someD p d = false → Err H CV v E)
theorem vecsD_list {p : Int} {d : PyData} (h : vecsD p d = true) : ∃ ds, d = .list ds := by
  cases d with
  | list ds => exact ⟨ds, rfl⟩
  | _ => cases h
theorem ok_reqSX {CV f fV : Addr} {fd fdV : FuncData} (BV : Bad P w K mg base "InvalidVectors" CV) (F : Fun K "require_some_vectors" "require_some_vectors" sReqS f fd) (FV : Fun K "is_vectors" "is_vectors" sVectors fV fdV) (GV : FnOk P w K mg base CX0 4 fV fdV ["prime", "value"] spVecsD) (gV : mg "is_vectors" = some (.ref fV)) :
    FnOk P w K mg base (L2.CX P w) 5 f fd ["prime", "vectors"] (spReqSX CV) := by
  have bV : Binds K fdV ["prime", "value"] [] := FV.binds fun _ _ _ _ _ _ us hl => match us, hl with | [_, _], _ => rfl
  refine F.okX scReqS (fun vs H Q E h => ?_) (fun cdv A outer s H vs Q E hr h => ?_)
  · obtain ⟨p, v, d, n, rfl, _⟩ := h
    rfl
  · obtain ⟨p, v, d, n, rfl, sh, sz, yes, no⟩ := h
    refine ⟨_, pss_one (ps_if (PW.pt (pw_or (pt_not (pt_val (pe_call GV hr rfl gV FV.kp bV .nil pass0 (pa_cons (pv 0) (pa_cons (pv 1) pa_nil))))) (pw_or1 (pt_not (pt_truth (pv 1) (by intro _; rfl)))))) (pss_one (ps_raiseN rfl BV (hr.mono (by decide)) (takes_of rfl rfl rfl rfl) rfl (pv 1))) pss_nil), ?_⟩
    refine ⟨_, rfl, _, rfl, p, v, d, n, rfl, sh, sz, fun H' sm => ⟨_, rfl, ?_⟩⟩
    cases e : vecsD p d with
    | false =>
      have z : someD p d = false := by
        unfold someD
        rw [e]
        rfl
      refine iteT ⟨_, rfl, fun dd H2 s2 nd hd => ?_⟩
      exact no z dd H2 (same_trans sm s2) (sm.free nd) hd
    | true =>
      obtain ⟨ds, rfl⟩ := vecsD_list e
      obtain ⟨m, b, xs, rfl, rfl, hb, prs⟩ := sh.ofList
      have lx := paired_len prs
      refine iteF ?_
      refine ⟨_, rfl, !xs.isEmpty, .inl ⟨_, SqL.of (sm _ _ hb), rfl⟩, ?_⟩
      cases xs with
      | nil =>
        have z : someD p (.list ds) = false := by
          unfold someD
          rw [e, decide_eq_false]
          · rfl
          · show ¬ (ds.length ≠ 0)
            have : (0 : Nat) = ds.length := lx
            omega
        refine iteT ⟨_, rfl, fun dd H2 s2 nd hd => ?_⟩
        exact no z dd H2 (same_trans sm s2) (sm.free nd) hd
      | cons x xs =>
        have z : someD p (.list ds) = true := by
          unfold someD
          rw [e, decide_eq_true]
          · rfl
          · show ds.length ≠ 0
            have : xs.length + 1 = ds.length := lx
            omega
        exact iteF (yes z H' sm)
/-- what is wrong with a question, if anything: the class, the argument -/
def fitD : PyData → PyData → Bool
  | .list (e :: _), x => decide (lenD x = lenD e)
  | _, _ => true
def verQ (du dv dx : PyData) : Option (Nat × Nat) :=
  if primD du = false then some (0, 0) else if vecsD (intD du) dv = false then some (2, 1) else if (vecD (intD du) dx && fitD dv dx) = false then some (2, 2) else none
def verB (du da db dw : PyData) : Option (Nat × Nat) :=
  if primD du = false then some (0, 0) else if someD (intD du) da = false then some (2, 1) else if someD (intD du) db = false then some (2, 2) else
    if vecsOfD (intD du) (lenD da) (lenD (match db with | .list (e :: _) => e | _ => .none)) dw = false then some (2, 3) else none
/-- by what is wrong -/
def Told (CP CN CV : Addr) (H : Hp) (vs : List V) (E : XK) (yes : Prop) : Option (Nat × Nat) → Prop
  | none => yes
  | some (0, i) => Err H CP (vs.getD i .non) E
  | some (1, i) => Err H CN (vs.getD i .non) E
  | some (_ + 2, i) => Err H CV (vs.getD i .non) E
theorem sho_prim {n : Nat} {H : Hp} {u : V} {du : PyData} (sh : Sho n H u du) (h : primD du = true) : u = .int (intD du) := by
  have e := (primD_int h).1
  rw [e] at sh
  exact sh.ofInt
def spReqQX (CP CN CV : Addr) : Sp := fun vs H Q E => ∃ (u v x : V) (du dv dx : PyData) (n : Nat), vs = [u, v, x] ∧ Sho n H u du ∧ Sho n H v dv ∧ Sho n H x dx ∧ okP du = true ∧ Sm2 dv ∧ Sm1 dx ∧ Told CP CN CV H [u, v, x] E (∀ H', Same H H' → Q .non H') (verQ du dv dx)
theorem scReqQ : FnScope ["prime", "vectors", "wanted"] ["prime", "vectors", "wanted"] (defScope sReqQ) := ⟨rfl, rfl, rfl, by decide +kernel, rfl, by decide +kernel, by decide +kernel⟩
theorem ok_reqQX {CP CN CV f fP fV fW : Addr} {fd fdP fdV fdW : FuncData} (BV : Bad P w K mg base "InvalidVectors" CV) (F : Fun K "require_question" "require_question" sReqQ f fd)
    (FP : Fun K "require_prime" "require_prime" sReqP fP fdP) (GP : FnOk P w K mg base (L2.CX P w) 3 fP fdP ["prime"] (spReqPX CP)) (gP : mg "require_prime" = some (.ref fP))
    (FV : Fun K "require_vectors" "require_vectors" sReqV fV fdV) (GV : FnOk P w K mg base (L2.CX P w) 5 fV fdV ["prime", "vectors"] (spReqVX CV)) (gV : mg "require_vectors" = some (.ref fV))
    (FW : Fun K "is_vector" "is_vector" sVector fW fdW) (GW : FnOk P w K mg base CX0 3 fW fdW ["prime", "value"] spVecD) (gW : mg "is_vector" = some (.ref fW)) (gN : mg "len" = none) :
    FnOk P w K mg base (L2.CX P w) 6 f fd ["prime", "vectors", "wanted"] (spReqQX CP CN CV) := by
  have bP : Binds K fdP ["prime"] [] := FP.binds fun _ _ _ _ _ _ us hl => match us, hl with | [_], _ => rfl
  have bV : Binds K fdV ["prime", "vectors"] [] := FV.binds fun _ _ _ _ _ _ us hl => match us, hl with | [_, _], _ => rfl
  have bW : Binds K fdW ["prime", "value"] [] := FW.binds fun _ _ _ _ _ _ us hl => match us, hl with | [_, _], _ => rfl
  refine F.okX scReqQ (fun vs H Q E h => ?_) (fun cdv A outer s H vs Q E hr h => ?_)
  · obtain ⟨u, v, x, du, dv, dx, n, rfl, _⟩ := h
    rfl
  · obtain ⟨u, v, x, du, dv, dx, n, rfl, su, sv, sx, ok, z2, z1, told⟩ := h
    refine ⟨_, pss_cons (ps_expr (pe_call GP (hr.mono (by decide)) rfl gP FP.kp bP .nil (passes_call (E := E) (takes_of rfl rfl rfl rfl) fun _ _ _ _ h => h) (pa_cons (pv 0) pa_nil)))
      (pss_cons (ps_expr (pe_call GV hr rfl gV FV.kp bV .nil (passes_call (E := E) (takes_of rfl rfl rfl rfl) fun _ _ _ _ h => h) (pa_cons (pv 0) (pa_cons (pv 1) pa_nil))))
      (pss_one (ps_if (PW.pt (pw_or (pt_not (pt_val (pe_call GW (hr.mono (by decide)) rfl gW FW.kp bW .nil pass0 (pa_cons (pv 0) (pa_cons (pv 2) pa_nil))))) (pw_or1 (PW.pt (pw_and (pt_truth (pv 1) (by intro _; rfl)) (pw_and1 (pt_cmpR op_ne (pe_callB call_len_seq (by rfl) gN PySem.boot_len (pa_cons (pv 2) pa_nil)) (pe_callB call_len_seq (by rfl) gN PySem.boot_len (pa_cons (pe_ix ix_list (pv 1) pe_int (fun _ _ => rfl)) pa_nil)) (nomark _))))))))
          (pss_one (ps_raiseN rfl BV (hr.mono (by decide)) (takes_of rfl rfl rfl rfl) rfl (pv 2))) pss_nil))), ?_⟩
    unfold verQ at told
    refine ⟨_, rfl, u, du, n, rfl, su, ok, fun ep H1 s1 => ?_, fun ep => ?_⟩
    · rw [if_neg (by rw [ep]; exact Bool.noConfusion)] at told
      obtain rfl := sho_prim su ep
      refine ⟨_, rfl, _, rfl, intD du, v, dv, n, rfl, sv.up s1, z2, fun ev H2 s2 => ?_, fun ev => ?_⟩
      · rw [if_neg (by rw [ev]; exact Bool.noConfusion)] at told
        have s12 := same_trans s1 s2
        refine ⟨_, rfl, _, rfl, intD du, x, dx, n, rfl, sx.up s12, z1, fun H3 s3 => ⟨_, rfl, ?_⟩⟩
        have s13 := same_trans s12 s3
        cases ew : vecD (intD du) dx with
        | false =>
          rw [ew, if_pos (by rfl)] at told
          refine iteT ⟨_, rfl, fun dd H4 s4 nd hd => ?_⟩
          exact (Err.up (show Err H CV x E from told) s13) dd H4 s4 nd hd
        | true =>
          refine iteF ?_
          obtain ⟨ds, rfl⟩ := vecsD_list ev
          obtain ⟨m, b, xs, en, ev2, hb, prs⟩ := sv.ofList
          have lx := paired_len prs
          obtain ⟨c, zs, ec, hc, lc⟩ := sho_vec sx ew
          subst ev2
          subst ec
          refine ⟨_, rfl, !xs.isEmpty, .inl ⟨_, SqL.of (s13 _ _ hb), rfl⟩, ?_⟩
          rw [ew, Bool.true_and] at told
          cases xs with
          | nil =>
            cases ds with
            | cons d ds => cases lx
            | nil =>
              rw [if_neg (show ¬ (fitD (.list []) dx = false) from by show ¬ (true = false); exact Bool.noConfusion)] at told
              exact iteF (told H3 s13)
          | cons y xs =>
            cases ds with
            | nil => cases lx
            | cons d ds =>
              cases prs with
              | cons py prs =>
                have vd : vecD (intD du) d = true := by
                  have q := (He.ba ev).1
                  exact (He.ba q).1
                obtain ⟨c0, zs0, rfl, hc0, lc0⟩ := sho_vec py vd
                refine iteT ?_
                refine ⟨_, rfl, c, _, rfl, .inl (SqL.of (s13 _ _ hc)), _, rfl, b, _, 0, _, rfl, rfl, SqL.of (s13 _ _ hb), atI_nat (j := 0) rfl, c0, _, rfl, .inl (SqL.of (s13 _ _ hc0)), rfl, _, rfl, ?_⟩
                have el : (!decide (V.int (zs.length : Int) = V.int (zs0.length : Int))) = !fitD (.list (d :: ds)) dx := by
                  show _ = !decide (lenD dx = lenD d)
                  rw [lc, lc0]
                  by_cases q : lenD dx = lenD d
                  · rw [q, decide_eq_true rfl, decide_eq_true rfl]
                  · rw [decide_eq_false q, decide_eq_false fun r => q (by have := V.int.inj r; omega)]
                rw [el]
                cases ef : fitD (.list (d :: ds)) dx with
                | true =>
                  rw [ef, if_neg (by exact Bool.noConfusion)] at told
                  exact iteF (told H3 s13)
                | false =>
                  rw [ef, if_pos rfl] at told
                  refine iteT ⟨_, rfl, fun dd H4 s4 nd hd => ?_⟩
                  exact (Err.up (show Err H CV (.ref c) E from told) s13) dd H4 s4 nd hd
      · rw [if_pos ev] at told
        exact Err.up (show Err H CV v E from told) s1
    · rw [if_pos ep] at told
      exact told
def headD : PyData → PyData
  | .list (e :: _) => e
  | _ => .none
def spReqBX (CP CN CV : Addr) : Sp := fun vs H Q E => ∃ (u v y x : V) (du dv dy dx : PyData) (n : Nat), vs = [u, v, y, x] ∧ Sho n H u du ∧ Sho n H v dv ∧ Sho n H y dy ∧ Sho n H x dx ∧ okP du = true ∧ Sm2 dv ∧ Sm2 dy ∧ Sm2 dx ∧ Told CP CN CV H [u, v, y, x] E (∀ H', Same H H' → Q .non H') (verB du dv dy dx)
theorem scReqB : FnScope ["prime", "first", "second", "wanted"] ["prime", "first", "second", "wanted"] (defScope sReqB) := ⟨rfl, rfl, rfl, by decide +kernel, rfl, by decide +kernel, by decide +kernel⟩
theorem ok_reqBX {CP CN CV f fP fV fW : Addr} {fd fdP fdV fdW : FuncData} (BV : Bad P w K mg base "InvalidVectors" CV) (F : Fun K "require_between" "require_between" sReqB f fd)
    (FP : Fun K "require_prime" "require_prime" sReqP fP fdP) (GP : FnOk P w K mg base (L2.CX P w) 3 fP fdP ["prime"] (spReqPX CP)) (gP : mg "require_prime" = some (.ref fP))
    (FV : Fun K "require_some_vectors" "require_some_vectors" sReqS fV fdV) (GV : FnOk P w K mg base (L2.CX P w) 5 fV fdV ["prime", "vectors"] (spReqSX CV)) (gV : mg "require_some_vectors" = some (.ref fV))
    (FW : Fun K "is_vectors_of" "is_vectors_of" sVectorsOf fW fdW) (GW : FnOk P w K mg base CX0 5 fW fdW ["prime", "value", "many", "length"] spVecsOfD) (gW : mg "is_vectors_of" = some (.ref fW)) (gN : mg "len" = none) :
    FnOk P w K mg base (L2.CX P w) 6 f fd ["prime", "first", "second", "wanted"] (spReqBX CP CN CV) := by
  have bP : Binds K fdP ["prime"] [] := FP.binds fun _ _ _ _ _ _ us hl => match us, hl with | [_], _ => rfl
  have bV : Binds K fdV ["prime", "vectors"] [] := FV.binds fun _ _ _ _ _ _ us hl => match us, hl with | [_, _], _ => rfl
  have bW : Binds K fdW ["prime", "value", "many", "length"] [] := FW.binds fun _ _ _ _ _ _ us hl => match us, hl with | [_, _, _, _], _ => rfl
  refine F.okX scReqB (fun vs H Q E h => ?_) (fun cdv A outer s H vs Q E hr h => ?_)
  · obtain ⟨u, v, y, x, du, dv, dy, dx, n, rfl, _⟩ := h
    rfl
  · obtain ⟨u, v, y, x, du, dv, dy, dx, n, rfl, su, sv, sy, sx, ok, z2, zy, zx, told⟩ := h
    refine ⟨_, pss_cons (ps_expr (pe_call GP (hr.mono (by decide)) rfl gP FP.kp bP .nil (passes_call (E := E) (takes_of rfl rfl rfl rfl) fun _ _ _ _ h => h) (pa_cons (pv 0) pa_nil)))
      (pss_cons (ps_expr (pe_call GV hr rfl gV FV.kp bV .nil (passes_call (E := E) (takes_of rfl rfl rfl rfl) fun _ _ _ _ h => h) (pa_cons (pv 0) (pa_cons (pv 1) pa_nil))))
      (pss_cons (ps_expr (pe_call GV hr rfl gV FV.kp bV .nil (passes_call (E := E) (takes_of rfl rfl rfl rfl) fun _ _ _ _ h => h) (pa_cons (pv 0) (pa_cons (pv 2) pa_nil))))
      (pss_one (ps_if (pt_not (pt_val (pe_call GW hr rfl gW FW.kp bW .nil pass0 (pa_cons (pv 0) (pa_cons (pv 3) (pa_cons (pe_callB call_len_seq (by rfl) gN PySem.boot_len (pa_cons (pv 1) pa_nil)) (pa_cons (pe_callB call_len_seq (by rfl) gN PySem.boot_len (pa_cons (pe_ix ix_list (pv 2) pe_int (fun _ _ => rfl)) pa_nil)) pa_nil)))))))
          (pss_one (ps_raiseN rfl BV (hr.mono (by decide)) (takes_of rfl rfl rfl rfl) rfl (pv 3))) pss_nil)))), ?_⟩
    unfold verB at told
    refine ⟨_, rfl, u, du, n, rfl, su, ok, fun ep H1 s1 => ?_, fun ep => ?_⟩
    · rw [if_neg (by rw [ep]; exact Bool.noConfusion)] at told
      obtain rfl := sho_prim su ep
      refine ⟨_, rfl, _, rfl, intD du, v, dv, n, rfl, sv.up s1, z2, fun ev H2 s2 => ?_, fun ev => ?_⟩
      · rw [if_neg (by rw [ev]; exact Bool.noConfusion)] at told
        have s12 := same_trans s1 s2
        refine ⟨_, rfl, _, rfl, intD du, y, dy, n, rfl, sy.up s12, zy, fun ey H3 s3 => ?_, fun ey => ?_⟩
        · rw [if_neg (by rw [ey]; exact Bool.noConfusion)] at told
          have s13 := same_trans s12 s3
          obtain ⟨ev1, ev2⟩ := He.ba ev
          obtain ⟨ey1, ey2⟩ := He.ba ey
          obtain ⟨ds, rfl⟩ := vecsD_list ev1
          obtain ⟨es, rfl⟩ := vecsD_list ey1
          obtain ⟨m, b, xs, en, rfl, hb, prs⟩ := sv.ofList
          obtain ⟨m2, b2, ys, en2, rfl, hb2, prs2⟩ := sy.ofList
          have lx := paired_len prs
          have ly := paired_len prs2
          cases es with
          | nil => exact absurd rfl (of_decide_eq_true ey2)
          | cons e es =>
            cases prs2 with
            | @cons y0 _ ys _ py prs2 =>
              have vd : vecD (intD du) e = true := by
                have q := (He.ba ey1).1
                exact (He.ba q).1
              obtain ⟨c0, zs0, rfl, hc0, lc0⟩ := sho_vec py vd
              refine ⟨_, rfl, _, rfl, _, rfl, b, _, rfl, .inl (SqL.of (s13 _ _ hb)), _, rfl, b2, _, 0, _, rfl, rfl, SqL.of (s13 _ _ hb2), atI_nat (j := 0) rfl, c0, _, rfl, .inl (SqL.of (s13 _ _ hc0)), ?_⟩
              refine ⟨intD du, x, dx, n, ds.length, lenD e, by rw [lx, lc0]; rfl, sx.up s13, zx, fun H4 s4 => ⟨_, rfl, ?_⟩⟩
              have s14 := same_trans s13 s4
              have told : Told CP CN CV H [V.int (intD du), V.ref b, V.ref b2, x] E (∀ H', Same H H' → Q .non H') (if vecsOfD (intD du) ds.length (lenD e) dx = false then some (2, 3) else none) := told
              cases ew : vecsOfD (intD du) ds.length (lenD e) dx with
              | true =>
                rw [ew, if_neg (by exact Bool.noConfusion)] at told
                exact iteF (told H4 s14)
              | false =>
                rw [ew, if_pos rfl] at told
                refine iteT ⟨_, rfl, fun dd H5 s5 nd hd => ?_⟩
                exact (Err.up (show Err H CV x E from told) s14) dd H5 s5 nd hd
        · rw [if_pos ey] at told
          exact Err.up (show Err H CV y E from told) s12
      · rw [if_pos ev] at told
        exact Err.up (show Err H CV v E from told) s1
    · rw [if_pos ep] at told
      exact told
end
end Vb
end L2

set_option Elab.async false
set_option linter.all false
set_option maxRecDepth 100000
set_option maxHeartbeats 4000000
/-! Vb, part 47: questions of sums. -/
namespace L2
namespace Vb
open PySem PySem.Spec PyProof.Rows
open LinA (Meets colsA colA)
abbrev sFactors : Stmt := topS 30
abbrev sSolved : Stmt := topS 40
abbrev sBarred : Stmt := topS 42
abbrev sNoth : Stmt := topS 44
theorem ints_of {p : Int} {n : Nat} {H : Hp} : ∀ {ds : List PyData} {vs : List V}, Paired (Sho n H) vs ds → ds.all (numD p) = true → ∃ xs : List Int, ds = xs.map PyData.int ∧ vs = xs.map V.int ∧ ∀ x ∈ xs, 0 ≤ x ∧ x < p := by
  intro ds vs h
  induction h with
  | nil => exact fun _ => ⟨[], rfl, rfl, fun x m => nomatch m⟩
  | @cons v d vs ds r _ ih =>
    intro a
    obtain ⟨a1, a2⟩ := He.ba a
    obtain ⟨xs, rfl, rfl, hx⟩ := ih a2
    cases d with
    | int i =>
      obtain rfl := r.ofInt
      obtain ⟨b1, b2⟩ := He.ba a1
      refine ⟨i :: xs, rfl, rfl, fun x m => ?_⟩
      rcases List.mem_cons.mp m with q | q
      · rw [q]
        exact ⟨of_decide_eq_true b1, of_decide_eq_true b2⟩
      · exact hx x q
    | _ => cases a1
theorem vec_of {p : Int} {n : Nat} {H : Hp} {v : V} {d : PyData} (sh : Sho n H v d) (h : vecD p d = true) : ∃ b xs, v = .ref b ∧ Rw H b xs ∧ d = rowP xs ∧ Vc p xs.length xs := by
  obtain ⟨ds, rfl⟩ := vecD_list h
  obtain ⟨m, b, vs, _, rfl, hb, prs⟩ := sh.ofList
  obtain ⟨xs, rfl, rfl, hx⟩ := ints_of prs h
  exact ⟨b, xs, rfl, hb, rfl, rfl, hx⟩
theorem rows_of {p : Int} {n : Nat} {H : Hp} : ∀ {ds : List PyData} {vs : List V}, Paired (Sho n H) vs ds → ds.all (vecD p) = true → ∃ (as : List Addr) (T : List (List Int)), vs = as.map V.ref ∧ Rws H as T ∧ ds = T.map rowP ∧ ∀ xs ∈ T, ∀ x ∈ xs, 0 ≤ x ∧ x < p := by
  intro ds vs h
  induction h with
  | nil => exact fun _ => ⟨[], [], rfl, .nil, rfl, fun x m => nomatch m⟩
  | @cons v d vs ds r _ ih =>
    intro a
    obtain ⟨a1, a2⟩ := He.ba a
    obtain ⟨as, T, rfl, hT, rfl, hx⟩ := ih a2
    obtain ⟨b, xs, rfl, hb, rfl, hv⟩ := vec_of r a1
    refine ⟨b :: as, xs :: T, rfl, .cons hb hT, rfl, fun ys m => ?_⟩
    rcases List.mem_cons.mp m with q | q
    · rw [q]
      exact hv.2
    · exact hx ys q
theorem even_rows {T : List (List Int)} (h : evenD (T.map rowP) = true) : ∀ xs ∈ T, xs.length = (T.getD 0 []).length := fun xs m => by
  cases T with
  | nil => cases m
  | cons y T =>
    have z := List.all_eq_true.mp h (rowP xs) (List.mem_map_of_mem m)
    have z2 := of_decide_eq_true z
    have l : ∀ ys : List Int, lenD (rowP ys) = ys.length := fun ys => List.length_map ..
    rw [l, l] at z2
    exact z2
theorem vecs_of {p : Int} {n : Nat} {H : Hp} {v : V} {d : PyData} (sh : Sho n H v d) (h : vecsD p d = true) : ∃ (m : Addr) (as : List Addr) (T : List (List Int)), v = .ref m ∧ H m = some (.lst (as.map V.ref)) ∧ Rws H as T ∧ d = matP T ∧ ∀ xs ∈ T, Vc p (T.getD 0 []).length xs := by
  obtain ⟨ds, rfl⟩ := vecsD_list h
  obtain ⟨k, m, vs, _, rfl, hm, prs⟩ := sh.ofList
  obtain ⟨h1, h2⟩ := He.ba h
  obtain ⟨as, T, rfl, hT, rfl, hx⟩ := rows_of prs h1
  exact ⟨m, as, T, rfl, hm, hT, rfl, fun xs mx => ⟨even_rows h2 xs mx, hx xs mx⟩⟩
theorem len_row (xs : List Int) : lenD (rowP xs) = xs.length := List.length_map ..
theorem len_mat (T : List (List Int)) : lenD (matP T) = T.length := List.length_map ..
theorem sm_row {xs : List Int} (h : Sm1 (rowP xs)) : xs.length ≤ 900 := by
  have z := h _ rfl
  rw [List.length_map] at z
  exact z
theorem sm_mat {T : List (List Int)} (h : Sm2 (matP T)) : T.length ≤ 900 ∧ ∀ xs ∈ T, xs.length ≤ 900 := by
  obtain ⟨z, k⟩ := h _ rfl
  rw [List.length_map] at z
  exact ⟨z, fun xs m => sm_row (k _ (List.mem_map_of_mem m))⟩
/-- the numbers of a question that is let -/
theorem quest_of {n : Nat} {H : Hp} {u v x : V} {du dv dx : PyData} (su : Sho n H u du) (sv : Sho n H v dv) (sx : Sho n H x dx) (h : verQ du dv dx = none) : primD du = true ∧ u = .int (intD du) ∧
    ∃ (m b : Addr) (as : List Addr) (T : List (List Int)) (xs : List Int), v = .ref m ∧ x = .ref b ∧ H m = some (.lst (as.map V.ref)) ∧ Rws H as T ∧ dv = matP T ∧ Rw H b xs ∧ dx = rowP xs ∧ Vc (intD du) xs.length xs ∧ ∀ r ∈ T, Vc (intD du) xs.length r := by
  unfold verQ at h
  by_cases ep : primD du = false
  · rw [if_pos ep] at h
    cases h
  rw [if_neg ep] at h
  by_cases ev : vecsD (intD du) dv = false
  · rw [if_pos ev] at h
    cases h
  rw [if_neg ev] at h
  by_cases ex : (vecD (intD du) dx && fitD dv dx) = false
  · rw [if_pos ex] at h
    cases h
  have ep : primD du = true := by simpa using ep
  have ev : vecsD (intD du) dv = true := by simpa using ev
  have ex : (vecD (intD du) dx && fitD dv dx) = true := by simpa using ex
  obtain ⟨ex1, ef⟩ := He.ba ex
  obtain ⟨m, as, T, rfl, hm, hT, rfl, hv⟩ := vecs_of sv ev
  obtain ⟨b, xs, rfl, hb, rfl, hx⟩ := vec_of sx ex1
  refine ⟨ep, sho_prim su ep, m, b, as, T, xs, rfl, rfl, hm, hT, rfl, hb, rfl, hx, fun r mr => ?_⟩
  have z := hv r mr
  cases T with
  | nil => cases mr
  | cons y T =>
    have e : lenD (rowP xs) = lenD (rowP y) := of_decide_eq_true ef
    rw [len_row, len_row] at e
    rw [e]
    exact z
def goodD (du : PyData) : Prop := primD du = true → intD du ∈ goods
def natD (du : PyData) : Nat := (intD du).toNat
theorem nat_of {du : PyData} (h : primD du = true) : ((natD du : Nat) : Int) = intD du := Int.toNat_of_nonneg (by have := (primD_int h).2.1; omega)
theorem good_of {du : PyData} (h : primD du = true) (g : goodD du) : 2 ≤ natD du ∧ natD du ≤ 65537 ∧ Prm (natD du) := good_prm (by rw [nat_of h]; exact g h)
section
variable {P : Program} {w : World} {K : PySem.W.Frag} {mg : Str → Option Value} {base : Heap}
def spFactors : Sp := fun vs H Q _ => ∃ (p : Nat) (m b : Addr) (L : Nat) (as : List Addr) (T : List (List Int)) (xs : List Int), vs = [.int (p : Int), .ref m, .ref b] ∧ 2 ≤ p ∧ p ≤ 65537 ∧ Prm p ∧ H m = some (.lst (as.map V.ref)) ∧ Rws H as T ∧ (∀ xs ∈ T, Vc (p : Int) L xs) ∧ Rw H b xs ∧ Vc (p : Int) L xs ∧ L ≤ 1000 ∧ T.length < 1000 ∧
  ∀ (H' : Hp) (v : V) (r : Option (List Int)), Same H H' → OptRw H H' v r → Meets p T.length (colsA T L) xs r → Q v H'
theorem OptRw.back {H H1 H2 : Hp} {v : V} {r : Option (List Int)} (h : OptRw H1 H2 v r) (s : Same H H1) : OptRw H H2 v r := by
  cases r with
  | none => exact h
  | some x =>
    obtain ⟨d, e, n, q⟩ := h
    exact ⟨d, e, s.free n, q⟩
theorem scFactors : FnScope ["prime", "vectors", "wanted"] ["prime", "vectors", "wanted"] (defScope sFactors) := ⟨rfl, rfl, rfl, by decide +kernel, rfl, by decide +kernel, by decide +kernel⟩
theorem ok_factors {f fM fC : Addr} {fd fdM fdC : FuncData} (F : Fun K "factors_for" "factors_for" sFactors f fd) (FM : Fun K "meeting" "meeting" sMeet fM fdM) (GM : FnOk P w K mg base CX0 4 fM fdM ["prime", "vectors", "aims", "length"] spMeet) (gM : mg "meeting" = some (.ref fM))
    (FC : Fun K "columns_of" "columns_of" sCols fC fdC) (GC : FnOk P w K mg base CX0 1 fC fdC ["vectors", "length"] spCols) (gC : mg "columns_of" = some (.ref fC)) (gN : mg "len" = none) :
    FnOk P w K mg base CX0 5 f fd ["prime", "vectors", "wanted"] spFactors := by
  have bM : Binds K fdM ["prime", "vectors", "aims", "length"] [] := FM.binds fun _ _ _ _ _ _ us hl => match us, hl with | [_, _, _, _], _ => rfl
  have bC : Binds K fdC ["vectors", "length"] [] := FC.binds fun _ _ _ _ _ _ us hl => match us, hl with | [_, _], _ => rfl
  refine F.ok scFactors (fun vs H Q E h => ?_) (fun cdv A outer s0 H vs Q E hr h => ?_)
  · obtain ⟨p, m, b, L, as, T, xs, rfl, _⟩ := h
    rfl
  · obtain ⟨p, m, b, L, as, T, xs, rfl, p2, p6, pr, hm, hT, hv, hb, hx, hL, tL, want⟩ := h
    refine ⟨_, pss_one (ps_ret (pe_call GM hr rfl gM FM.kp bM .nil pass0 (pa_cons (pv 0) (pa_cons (pe_call GC (hr.mono (by decide)) rfl gC FC.kp bC .nil pass0 (pa_cons (pv 1) (pa_cons (pe_callB call_len_seq (by rfl) gN PySem.boot_len (pa_cons (pv 2) pa_nil)) pa_nil))) (pa_cons (pv 2) (pa_cons (pe_callB call_len_seq (by rfl) gN PySem.boot_len (pa_cons (pv 1) pa_nil)) pa_nil)))))), ?_⟩
    have hb' : H b = some (.lst (xs.map V.int)) := hb
    refine ⟨_, rfl, _, rfl, _, rfl, b, _, rfl, .inl (SqL.of hb'), m, L, as, T, (p : Int), by rw [List.length_map, hx.1]; rfl, hm, hT, hv, hL, by omega, fun H1 d cs s1 nd hd hcs => ?_⟩
    refine ⟨_, rfl, _, rfl, m, _, rfl, .inl (SqL.of (s1 _ _ hm)), ?_⟩
    refine ⟨p, d, b, T.length, cs, colsA T L, xs, by rw [List.length_map, hT.len]; rfl, p2, p6, pr, hd, hcs, LinA.colsA_vec (by omega) hv, s1 _ _ hb, ?_, tL, by rw [LinA.colsA_len]; exact hL, fun H2 v r s2 o k => ?_⟩
    · rw [LinA.colsA_len]
      exact hx
    · exact want H2 v r (same_trans s1 s2) (o.back s1) k
/-- solved -/
def spSolved (CP CN CV : Addr) : Sp := fun vs H Q E => ∃ (u v x : V) (du dv dx : PyData) (n : Nat), vs = [u, v, x] ∧ Sho n H u du ∧ Sho n H v dv ∧ Sho n H x dx ∧ okP du = true ∧ goodD du ∧ Sm2 dv ∧ Sm1 dx ∧
  Told CP CN CV H [u, v, x] E (∀ (T : List (List Int)) (xs : List Int), dv = matP T → dx = rowP xs → (∀ r ∈ T, Vc (intD du) xs.length r) → Vc (intD du) xs.length xs → ∀ (H' : Hp) (v : V) (r : Option (List Int)), Same H H' → OptRw H H' v r → Meets (natD du) T.length (colsA T xs.length) xs r → Q v H') (verQ du dv dx)
theorem scSolved : FnScope ["prime", "vectors", "wanted"] ["prime", "vectors", "wanted"] (defScope sSolved) := ⟨rfl, rfl, rfl, by decide +kernel, rfl, by decide +kernel, by decide +kernel⟩
theorem told_up {CP CN CV : Addr} {H : Hp} {vs : List V} {E : XK} {A B : Prop} {r : Option (Nat × Nat)} (h : Told CP CN CV H vs E A r) (k : r = none → A → B) : Told CP CN CV H vs E B r := by
  match r, h with
  | none, h => exact k rfl h
  | some (0, i), h => exact h
  | some (1, i), h => exact h
  | some (_ + 2, i), h => exact h
theorem ok_solved {CP CN CV f fQ fF : Addr} {fd fdQ fdF : FuncData} (F : Fun K "solved" "solved" sSolved f fd)
    (FQ : Fun K "require_question" "require_question" sReqQ fQ fdQ) (GQ : FnOk P w K mg base (L2.CX P w) 6 fQ fdQ ["prime", "vectors", "wanted"] (spReqQX CP CN CV)) (gQ : mg "require_question" = some (.ref fQ))
    (FF : Fun K "factors_for" "factors_for" sFactors fF fdF) (GF : FnOk P w K mg base CX0 5 fF fdF ["prime", "vectors", "wanted"] spFactors) (gF : mg "factors_for" = some (.ref fF)) :
    FnOk P w K mg base (L2.CX P w) 7 f fd ["prime", "vectors", "wanted"] (spSolved CP CN CV) := by
  have bQ : Binds K fdQ ["prime", "vectors", "wanted"] [] := FQ.binds fun _ _ _ _ _ _ us hl => match us, hl with | [_, _, _], _ => rfl
  have bF : Binds K fdF ["prime", "vectors", "wanted"] [] := FF.binds fun _ _ _ _ _ _ us hl => match us, hl with | [_, _, _], _ => rfl
  refine F.okX scSolved (fun vs H Q E h => ?_) (fun cdv A outer s0 H vs Q E hr h => ?_)
  · obtain ⟨u, v, x, du, dv, dx, n, rfl, _⟩ := h
    rfl
  · obtain ⟨u, v, x, du, dv, dx, n, rfl, su, sv, sx, ok, gd, z2, z1, told⟩ := h
    refine ⟨_, pss_cons (ps_expr (pe_call GQ hr rfl gQ FQ.kp bQ .nil (passes_call (E := E) (takes_of rfl rfl rfl rfl) fun _ _ _ _ h => h) (pa_cons (pv 0) (pa_cons (pv 1) (pa_cons (pv 2) pa_nil)))))
      (pss_one (ps_ret (pe_call GF (hr.mono (by decide)) rfl gF FF.kp bF .nil pass0 (pa_cons (pv 0) (pa_cons (pv 1) (pa_cons (pv 2) pa_nil)))))), ?_⟩
    refine ⟨_, rfl, _, rfl, _, rfl, u, v, x, du, dv, dx, n, rfl, su, sv, sx, ok, z2, z1, told_up told fun e want H1 s1 => ?_⟩
    obtain ⟨ep, eu, m, b, as, T, xs, rfl, rfl, hm, hT, rfl, hb, rfl, hx, hv⟩ := quest_of su sv sx e
    obtain ⟨p2, p6, pr⟩ := good_of ep gd
    have en := nat_of ep
    obtain ⟨zT, zr⟩ := sm_mat z2
    have zx := sm_row z1
    refine ⟨_, rfl, _, rfl, _, rfl, natD du, m, b, xs.length, as, T, xs, by rw [eu, en]; rfl, p2, p6, pr, s1 _ _ hm, rws_up hT s1, (by rw [en]; exact hv), s1 _ _ hb, (by rw [en]; exact hx), by omega, by omega, fun H2 v r s2 o k => ?_⟩
    exact want T xs rfl rfl hv hx H2 v r (same_trans s1 s2) (o.back s1) k
end
end Vb
end L2

set_option Elab.async false
set_option linter.all false
set_option maxRecDepth 100000
set_option maxHeartbeats 4000000
/-! Vb, part 18: == of lists of numbers, of lists of such. -/
namespace L2
namespace Vb
open PySem PySem.Spec PyProof.Rows
theorem lay_ints : ∀ xs : List Int, PyData.canLayAll0 (xs.map PyData.int) = true
  | [] => rfl
  | x :: xs => by
    rw [List.map_cons, PyData.canLayAll0, lay_ints xs]
    rfl
theorem dep_ints : ∀ xs : List Int, PyData.depthAll (xs.map PyData.int) = 0
  | [] => rfl
  | x :: xs => by
    rw [List.map_cons, PyData.depthAll, dep_ints xs]
    rfl
theorem lay_rows : ∀ T : List (List Int), PyData.canLayAll0 (T.map rowP) = true
  | [] => rfl
  | x :: T => by
    rw [List.map_cons, PyData.canLayAll0, lay_rows T]
    show (PyData.canLay0 (.list (x.map PyData.int)) && true) = true
    rw [PyData.canLay0, lay_ints]
    rfl
theorem dep_rows : ∀ T : List (List Int), PyData.depthAll (T.map rowP) ≤ 1
  | [] => Nat.zero_le _
  | x :: T => by
    rw [List.map_cons, PyData.depthAll]
    refine Nat.max_le.mpr ⟨?_, dep_rows T⟩
    show PyData.depth (.list (x.map PyData.int)) ≤ 1
    rw [PyData.depth, dep_ints]
    exact Nat.le_refl _
theorem shaped_row (xs : List Int) : SeqAt.shaped (rowP xs) = true := by
  unfold SeqAt.shaped
  refine Bool.and_eq_true_iff.mpr ⟨?_, decide_eq_true ?_⟩
  · show PyData.canLay0 (.list (xs.map PyData.int)) = true
    rw [PyData.canLay0, lay_ints]
  · show PyData.depth (.list (xs.map PyData.int)) ≤ 64
    rw [PyData.depth, dep_ints]
    decide
theorem shaped_mat (T : List (List Int)) : SeqAt.shaped (matP T) = true := by
  unfold SeqAt.shaped
  refine Bool.and_eq_true_iff.mpr ⟨?_, decide_eq_true ?_⟩
  · show PyData.canLay0 (.list (T.map rowP)) = true
    rw [PyData.canLay0, lay_rows]
  · show PyData.depth (.list (T.map rowP)) ≤ 64
    rw [PyData.depth]
    have := dep_rows T
    omega
theorem eqv_row (xs ys : List Int) : PyData.eqv (rowP xs) (rowP ys) = decide (xs = ys) := PySem.W.Datum.eqv (α := List Int) xs ys
theorem eqv_mat (S T : List (List Int)) : PyData.eqv (matP S) (matP T) = decide (S = T) := PySem.W.Datum.eqv (α := List (List Int)) S T
theorem dpa_ints {K : PySem.W.Frag} {H : Hp} : ∀ xs : List Int, DpAll K H (xs.map V.int) (xs.map PyData.int)
  | [] => .nil
  | x :: xs => .cons (.int x) (dpa_ints xs)
theorem dp_row {K : PySem.W.Frag} {H : Hp} {a : Addr} {xs : List Int} (h : Rw H a xs) : Dp K H (.ref a) (rowP xs) := .lst (SqL.of (show H a = some (.lst (xs.map V.int)) from h)) (dpa_ints xs)
theorem dpa_rows {K : PySem.W.Frag} {H : Hp} {as : List Addr} {T : List (List Int)} (h : Rws H as T) : DpAll K H (as.map V.ref) (T.map rowP) := by
  induction h with
  | nil => exact .nil
  | cons r _ ih => exact .cons (dp_row r) ih
theorem dp_mat {K : PySem.W.Frag} {H : Hp} {a : Addr} {as : List Addr} {T : List (List Int)} (h : H a = some (.lst (as.map V.ref))) (hT : Rws H as T) : Dp K H (.ref a) (matP T) := .lst (SqL.of h) (dpa_rows hT)
section
variable {K : PySem.W.Frag} {H : Hp} {a b : Addr} {xs ys : List Int} {as bs : List Addr} {S T : List (List Int)} {Q : VK}
theorem eq_row (h : Rw H a xs) (k : Rw H b ys) (q : Q (.bl (decide (xs = ys))) H) : rEqD K (.ref a) (.ref b) H Q := ⟨_, _, dp_row h, dp_row k, shaped_row xs, shaped_row ys, by rw [eqv_row]; exact q⟩
theorem ne_row (h : Rw H a xs) (k : Rw H b ys) (q : Q (.bl (!decide (xs = ys))) H) : rNeD K (.ref a) (.ref b) H Q := ⟨_, _, dp_row h, dp_row k, shaped_row xs, shaped_row ys, by rw [eqv_row]; exact q⟩
theorem eq_mat (h : H a = some (.lst (as.map V.ref))) (hS : Rws H as S) (k : H b = some (.lst (bs.map V.ref))) (hT : Rws H bs T) (q : Q (.bl (decide (S = T))) H) : rEqD K (.ref a) (.ref b) H Q :=
  ⟨_, _, dp_mat h hS, dp_mat k hT, shaped_mat S, shaped_mat T, by rw [eqv_mat]; exact q⟩
theorem ne_mat (h : H a = some (.lst (as.map V.ref))) (hS : Rws H as S) (k : H b = some (.lst (bs.map V.ref))) (hT : Rws H bs T) (q : Q (.bl (!decide (S = T))) H) : rNeD K (.ref a) (.ref b) H Q :=
  ⟨_, _, dp_mat h hS, dp_mat k hT, shaped_mat S, shaped_mat T, by rw [eqv_mat]; exact q⟩
end
end Vb
end L2

set_option Elab.async false
set_option linter.all false
set_option maxRecDepth 100000
set_option maxHeartbeats 4000000
/-! Vb, part 48: barred, nothings, the judges of questions. -/
namespace L2
namespace Vb
open PySem PySem.Spec PyProof.Rows
open LinA (Meets colsA colA bars)
abbrev sIsSol : Stmt := topS 41
abbrev sIsBar : Stmt := topS 43
def numsD : PyData → List Int
  | .list ds => ds.map intD
  | _ => []
theorem nums_row (xs : List Int) : numsD (rowP xs) = xs := by
  show (xs.map PyData.int).map intD = xs
  rw [List.map_map]
  exact List.map_id xs
def isSol (p : Int) (T : List (List Int)) (xs : List Int) (d : PyData) : Bool := vecOfD p T.length d && decide (addZ p T (numsD d) xs.length = xs)
def isBar (p : Int) (T : List (List Int)) (xs : List Int) (d : PyData) : Bool := vecOfD p xs.length d && (decide (dotZ xs (numsD d) % p = 1) && T.all fun r => decide (dotZ r (numsD d) % p = 0))
theorem vecOf_of {p : Int} {n L : Nat} {H : Hp} {v : V} {d : PyData} (sh : Sho n H v d) (h : vecOfD p L d = true) : ∃ b ys, v = .ref b ∧ Rw H b ys ∧ d = rowP ys ∧ Vc p L ys := by
  obtain ⟨h1, h2⟩ := He.ba h
  obtain ⟨b, ys, rfl, hb, rfl, hy⟩ := vec_of sh h1
  have e : lenD (rowP ys) = L := of_decide_eq_true h2
  rw [len_row] at e
  exact ⟨b, ys, rfl, hb, rfl, e, hy.2⟩
section
variable {P : Program} {w : World} {K : PySem.W.Frag} {mg : Str → Option Value} {base : Heap}
/-- barred -/
def spBarred (CP CN CV : Addr) : Sp := fun vs H Q E => ∃ (u v x : V) (du dv dx : PyData) (n : Nat), vs = [u, v, x] ∧ Sho n H u du ∧ Sho n H v dv ∧ Sho n H x dx ∧ okP du = true ∧ goodD du ∧ Sm2 dv ∧ Sm1 dx ∧
  Told CP CN CV H [u, v, x] E (∀ (T : List (List Int)) (xs : List Int), dv = matP T → dx = rowP xs → (∀ r ∈ T, Vc (intD du) xs.length r) → Vc (intD du) xs.length xs → ∀ (H' : Hp) (v : V) (r : Option (List Int)), Same H H' → OptRw H H' v r → Meets (natD du) xs.length (T ++ [xs]) (bars T.length) r → Q v H') (verQ du dv dx)
theorem scBarred : FnScope ["prime", "vectors", "wanted"] ["prime", "vectors", "wanted"] (defScope sBarred) := ⟨rfl, rfl, rfl, by decide +kernel, rfl, by decide +kernel, by decide +kernel⟩
theorem ok_barred {CP CN CV f fQ fM : Addr} {fd fdQ fdM : FuncData} (F : Fun K "barred" "barred" sBarred f fd)
    (FQ : Fun K "require_question" "require_question" sReqQ fQ fdQ) (GQ : FnOk P w K mg base (L2.CX P w) 6 fQ fdQ ["prime", "vectors", "wanted"] (spReqQX CP CN CV)) (gQ : mg "require_question" = some (.ref fQ))
    (FM : Fun K "meeting" "meeting" sMeet fM fdM) (GM : FnOk P w K mg base CX0 4 fM fdM ["prime", "vectors", "aims", "length"] spMeet) (gM : mg "meeting" = some (.ref fM)) (gN : mg "len" = none) :
    FnOk P w K mg base (L2.CX P w) 7 f fd ["prime", "vectors", "wanted"] (spBarred CP CN CV) := by
  have bQ : Binds K fdQ ["prime", "vectors", "wanted"] [] := FQ.binds fun _ _ _ _ _ _ us hl => match us, hl with | [_, _, _], _ => rfl
  have bM : Binds K fdM ["prime", "vectors", "aims", "length"] [] := FM.binds fun _ _ _ _ _ _ us hl => match us, hl with | [_, _, _, _], _ => rfl
  refine F.okX scBarred (fun vs H Q E h => ?_) (fun cdv A outer s0 H vs Q E hr h => ?_)
  · obtain ⟨u, v, x, du, dv, dx, n, rfl, _⟩ := h
    rfl
  · obtain ⟨u, v, x, du, dv, dx, n, rfl, su, sv, sx, ok, gd, z2, z1, told⟩ := h
    refine ⟨_, pss_cons (ps_expr (pe_call GQ hr rfl gQ FQ.kp bQ .nil (passes_call (E := E) (takes_of rfl rfl rfl rfl) fun _ _ _ _ h => h) (pa_cons (pv 0) (pa_cons (pv 1) (pa_cons (pv 2) pa_nil)))))
      (pss_one (ps_ret (pe_call GM (hr.mono (by decide)) rfl gM FM.kp bM .nil pass0 (pa_cons (pv 0) (pa_cons (pe_op op_cat (pv 1) (pe_lst (pa_cons (pv 2) pa_nil))) (pa_cons (pe_op op_cat (pe_op op_rep (pe_lst (pa_cons pe_int pa_nil)) (pe_callB call_len_seq (by rfl) gN PySem.boot_len (pa_cons (pv 1) pa_nil))) (pe_lst (pa_cons pe_int pa_nil))) (pa_cons (pe_callB call_len_seq (by rfl) gN PySem.boot_len (pa_cons (pv 2) pa_nil)) pa_nil))))))), ?_⟩
    refine ⟨_, rfl, _, rfl, _, rfl, u, v, x, du, dv, dx, n, rfl, su, sv, sx, ok, z2, z1, told_up told fun e want H1 s1 => ?_⟩
    obtain ⟨ep, eu, m, b, as, T, xs, rfl, rfl, hm, hT, rfl, hb, rfl, hx, hv⟩ := quest_of su sv sx e
    obtain ⟨p2, p6, pr⟩ := good_of ep gd
    have en := nat_of ep
    obtain ⟨zT, zr⟩ := sm_mat z2
    have zx := sm_row z1
    have lT := hT.len
    have hm1 := s1 _ _ hm
    refine ⟨_, rfl, _, rfl, _, rfl, by show 1 ≤ sizeLine; decide, fun q hq => ?_⟩
    have t1 := same_new (o := .lst [V.ref b]) hq
    refine ⟨m, q, _, _, rfl, rfl, t1 _ _ hm1, upd_same, by rw [List.length_map, sizeLine_eq]; show as.length + 1 ≤ 16777216; omega, fun l hl => ?_⟩
    have t2 := same_new (o := .lst (as.map V.ref ++ [V.ref b])) hl
    refine ⟨by show 1 ≤ sizeLine; decide, fun z hz => ?_⟩
    have t3 := same_new (o := .lst [V.int 0]) hz
    have s13 := same_trans s1 (same_trans t1 (same_trans t2 t3))
    refine ⟨_, rfl, m, _, rfl, .inl (SqL.of (s13 _ _ hm)), z, ((as.map V.ref).length : Int), [V.int 0], rfl, rfl, upd_same, by omega, by rw [List.length_map]; omega, by rw [Int.toNat_natCast, List.length_map, sizeLine_eq]; show 1 * as.length ≤ 16777216; omega, fun c hc => ?_⟩
    rw [rep_zeros]
    have t4 := same_new (o := .lst ((List.replicate (as.map V.ref).length (0 : Int)).map V.int)) hc
    refine ⟨by show 1 ≤ sizeLine; decide, fun o ho => ?_⟩
    have t5 := same_new (o := .lst [V.int 1]) ho
    refine ⟨c, o, _, _, rfl, rfl, t5 _ _ upd_same, upd_same, by rw [List.length_map, List.length_replicate, List.length_map, sizeLine_eq]; show as.length + 1 ≤ 16777216; omega, fun a ha => ?_⟩
    have t6 := same_new (o := .lst ((List.replicate (as.map V.ref).length (0 : Int)).map V.int ++ [V.int 1])) ha
    have s25 := same_trans t3 (same_trans t4 (same_trans t5 t6))
    have s16 := same_trans s1 (same_trans t1 (same_trans t2 s25))
    refine ⟨_, rfl, b, _, rfl, .inl (SqL.of (s16 _ _ hb)), ?_⟩
    have vv : ∀ r ∈ T ++ [xs], Vc ((natD du : Nat) : Int) xs.length r := fun r mr => by
      rw [en]
      rcases List.mem_append.mp mr with q | q
      · exact hv r q
      · rw [List.mem_singleton.mp q]
        exact hx
    have vb := LinA.bars_vec p2 T.length
    refine ⟨natD du, l, a, xs.length, as ++ [b], T ++ [xs], bars T.length, by rw [eu, en, List.length_map]; rfl, p2, p6, pr, ?_, ?_, vv, ?_, ?_, by omega, by rw [List.length_append]; show T.length + 1 ≤ 1000; omega, fun H2 v r s2 o k => ?_⟩
    · rw [List.map_append]
      exact s25 _ _ upd_same
    · exact paired_snoc (rws_up hT s16) (s16 _ _ hb)
    · show upd _ a _ a = some (.lst ((bars T.length).map V.int))
      rw [upd_same, List.length_map, lT]
      unfold bars
      rw [List.map_append]
      rfl
    · rw [List.length_append]
      exact vb
    · exact want T xs rfl rfl hv hx H2 v r (same_trans s16 s2) (o.back s16) k
/-- nothings -/
def spNoth (CP CN CV : Addr) : Sp := fun vs H Q E => ∃ (u v : V) (du dv : PyData) (n : Nat), vs = [u, v] ∧ Sho n H u du ∧ Sho n H v dv ∧ okP du = true ∧ goodD du ∧ Sm2 dv ∧ (primD du = false → Err H CP u E) ∧ (primD du = true → vecsD (intD du) dv = false → Err H CV v E) ∧
  (primD du = true → vecsD (intD du) dv = true → ∀ (T : List (List Int)), dv = matP T → (∀ r ∈ T, Vc (intD du) (T.getD 0 []).length r) → ∀ (H' : Hp) (d : Addr) (bs : List Addr) (B : List (List Int)), Crossed H (natD du) T.length (colsA T (T.getD 0 []).length) H' d bs B → Q (.ref d) H')
theorem scNoth : FnScope ["prime", "vectors", "length"] ["prime", "vectors"] (defScope sNoth) := ⟨rfl, rfl, rfl, by decide +kernel, rfl, by decide +kernel, by decide +kernel⟩
theorem Crossed.back {H H1 H2 : Hp} {p L : Nat} {T : List (List Int)} {d : Addr} {bs : List Addr} {B : List (List Int)} (h : Crossed H1 p L T H2 d bs B) (s : Same H H1) : Crossed H p L T H2 d bs B := by
  obtain ⟨h1, h2, h3, h4, h5, h6⟩ := h
  exact ⟨same_trans s h1, s.free h2, h3, h4, fun b m => s.free (h5 b m), h6⟩
theorem ok_noth {CP CN CV f fP fV fX fC : Addr} {fd fdP fdV fdX fdC : FuncData} (F : Fun K "nothings" "nothings" sNoth f fd)
    (FP : Fun K "require_prime" "require_prime" sReqP fP fdP) (GP : FnOk P w K mg base (L2.CX P w) 3 fP fdP ["prime"] (spReqPX CP)) (gP : mg "require_prime" = some (.ref fP))
    (FV : Fun K "require_vectors" "require_vectors" sReqV fV fdV) (GV : FnOk P w K mg base (L2.CX P w) 5 fV fdV ["prime", "vectors"] (spReqVX CV)) (gV : mg "require_vectors" = some (.ref fV))
    (FX : Fun K "crossing" "crossing" sCross fX fdX) (GX : FnOk P w K mg base CX0 5 fX fdX ["prime", "vectors", "length"] spCross) (gX : mg "crossing" = some (.ref fX))
    (FC : Fun K "columns_of" "columns_of" sCols fC fdC) (GC : FnOk P w K mg base CX0 1 fC fdC ["vectors", "length"] spCols) (gC : mg "columns_of" = some (.ref fC)) (gN : mg "len" = none) :
    FnOk P w K mg base (L2.CX P w) 6 f fd ["prime", "vectors"] (spNoth CP CN CV) := by
  have bP : Binds K fdP ["prime"] [] := FP.binds fun _ _ _ _ _ _ us hl => match us, hl with | [_], _ => rfl
  have bV : Binds K fdV ["prime", "vectors"] [] := FV.binds fun _ _ _ _ _ _ us hl => match us, hl with | [_, _], _ => rfl
  have bX : Binds K fdX ["prime", "vectors", "length"] [] := FX.binds fun _ _ _ _ _ _ us hl => match us, hl with | [_, _, _], _ => rfl
  have bC : Binds K fdC ["vectors", "length"] [] := FC.binds fun _ _ _ _ _ _ us hl => match us, hl with | [_, _], _ => rfl
  refine F.okX scNoth (fun vs H Q E h => ?_) (fun cdv A outer s0 H vs Q E hr h => ?_)
  · obtain ⟨u, v, du, dv, n, rfl, _⟩ := h
    rfl
  · obtain ⟨u, v, du, dv, n, rfl, su, sv, ok, gd, z2, noP, noV, want⟩ := h
    refine ⟨_, pss_cons (ps_expr (pe_call GP (hr.mono (by decide)) rfl gP FP.kp bP .nil (passes_call (E := E) (takes_of rfl rfl rfl rfl) fun _ _ _ _ h => h) (pa_cons (pv 0) pa_nil)))
      (pss_cons (ps_expr (pe_call GV hr rfl gV FV.kp bV .nil (passes_call (E := E) (takes_of rfl rfl rfl rfl) fun _ _ _ _ h => h) (pa_cons (pv 0) (pa_cons (pv 1) pa_nil))))
      (pss_cons (ps_set (i := 2) scNoth.nd rfl (Or.inl rfl) (pe_ifExp (pt_truth (pv 1) (by intro _; rfl)) (pe_callB call_len_seq (by rfl) gN PySem.boot_len (pa_cons (pe_ix ix_list (pv 1) pe_int (fun _ _ => rfl)) pa_nil)) pe_int))
      (pss_one (ps_ret (pe_call GX hr rfl gX FX.kp bX .nil pass0 (pa_cons (pv 0) (pa_cons (pe_call GC (hr.mono (by decide)) rfl gC FC.kp bC .nil pass0 (pa_cons (pv 1) (pa_cons (pv 2) pa_nil))) (pa_cons (pe_callB call_len_seq (by rfl) gN PySem.boot_len (pa_cons (pv 1) pa_nil)) pa_nil)))))))), ?_⟩
    refine ⟨_, rfl, u, du, n, rfl, su, ok, fun ep H1 s1 => ?_, noP⟩
    obtain rfl := sho_prim su ep
    refine ⟨_, rfl, _, rfl, intD du, v, dv, n, rfl, sv.up s1, z2, fun ev H2 s2 => ?_, fun ev => (noV ep ev).up s1⟩
    have s12 := same_trans s1 s2
    obtain ⟨m, as, T, rfl, hm, hT, rfl, hv⟩ := vecs_of sv ev
    obtain ⟨p2, p6, pr⟩ := good_of ep gd
    have en := nat_of ep
    obtain ⟨zT, zr⟩ := sm_mat z2
    have lT := hT.len
    have L9 : (T.getD 0 []).length ≤ 900 := by
      cases T with
      | nil => exact Nat.zero_le _
      | cons x T => exact zr x List.mem_cons_self
    obtain ⟨L, eL⟩ : ∃ L, L = (T.getD 0 []).length := ⟨_, rfl⟩
    have hvn : ∀ xs ∈ T, Vc ((natD du : Nat) : Int) L xs := by
      rw [en, eL]
      exact hv
    cases as with
    | nil =>
      have eT : T = [] := by
        cases T with
        | nil => rfl
        | cons _ _ => cases lT
      have e0 : L = 0 := by rw [eL, eT]; rfl
      refine ⟨_, rfl, false, .inl ⟨_, SqL.of (s12 _ _ hm), rfl⟩, iteF ?_⟩
      have z0 : (V.int 0) = V.int (L : Int) := by rw [e0]; rfl
      refine ⟨_, rfl, _, rfl, _, rfl, m, L, [], T, intD du, by rw [← z0]; rfl, s12 _ _ hm, rws_up hT s12, (by rw [eL]; exact hv), by omega, by omega, fun H3 d cs s3 nd hd hcs => ?_⟩
      refine ⟨_, rfl, m, _, rfl, .inl (SqL.of (s3 _ _ (s12 _ _ hm))), ?_⟩
      refine ⟨natD du, d, T.length, cs, colsA T L, by rw [en, List.length_map, lT]; rfl, p2, p6, pr, hd, hcs, LinA.colsA_vec (by omega) hvn, by omega, by rw [LinA.colsA_len]; omega, fun H4 d2 bs B cr => ?_⟩
      have s13 := same_trans s12 s3
      rw [eL] at cr
      exact want ep ev T rfl hv H4 d2 bs B (cr.back s13)
    | cons a0 as =>
      cases T with
      | nil => cases lT
      | cons x T =>
        have hx0 : Rw H a0 x := by
          cases hT with
          | cons r _ => exact r
        have ex : L = x.length := eL
        have hx2 : H2 a0 = some (.lst (x.map V.int)) := s12 _ _ hx0
        refine ⟨_, rfl, true, .inl ⟨_, SqL.of (s12 _ _ hm), rfl⟩, iteT ?_⟩
        refine ⟨_, rfl, m, _, 0, _, rfl, rfl, SqL.of (s12 _ _ hm), atI_nat (j := 0) rfl, a0, _, rfl, .inl (SqL.of hx2), ?_⟩
        refine ⟨_, rfl, _, rfl, _, rfl, m, L, a0 :: as, x :: T, intD du, by rw [List.length_map, ← ex]; rfl, s12 _ _ hm, rws_up hT s12, (by rw [eL]; exact hv), by omega, by omega, fun H3 d cs s3 nd hd hcs => ?_⟩
        refine ⟨_, rfl, m, _, rfl, .inl (SqL.of (s3 _ _ (s12 _ _ hm))), ?_⟩
        refine ⟨natD du, d, (x :: T).length, cs, colsA (x :: T) L, by rw [en, List.length_map, lT]; rfl, p2, p6, pr, hd, hcs, LinA.colsA_vec (by omega) hvn, by omega, by rw [LinA.colsA_len]; omega, fun H4 d2 bs B cr => ?_⟩
        have s13 := same_trans s12 s3
        rw [eL] at cr
        exact want ep ev (x :: T) rfl hv H4 d2 bs B (cr.back s13)
end
end Vb
end L2

set_option Elab.async false
set_option linter.all false
set_option maxRecDepth 100000
set_option maxHeartbeats 4000000
/-! Vb, part 49: is_solved, is_barred. -/
namespace L2
namespace Vb
open PySem PySem.Spec PyProof.Rows
theorem any_dots {p : Int} {T : List (List Int)} {ys : List Int} : (!((T.map fun r => dotZ r ys % p).any fun n => decide (n ≠ 0))) = T.all fun r => decide (dotZ r ys % p = 0) := by
  induction T with
  | nil => rfl
  | cons r T ih =>
    rw [List.map_cons, List.any_cons, List.all_cons, ← ih]
    by_cases h : dotZ r ys % p = 0
    · rw [decide_eq_true h, decide_eq_false (by simpa using h), Bool.false_or, Bool.true_and]
    · rw [decide_eq_false h, decide_eq_true (by simpa using h)]
      rfl
section
variable {P : Program} {w : World} {K : PySem.W.Frag} {mg : Str → Option Value} {base : Heap}
/-- a judge of questions -/
def spJudge (J : Int → List (List Int) → List Int → PyData → Bool) (CP CN CV : Addr) : Sp := fun vs H Q E => ∃ (u v x y : V) (du dv dx dy : PyData) (n : Nat), vs = [u, v, x, y] ∧ Sho n H u du ∧ Sho n H v dv ∧ Sho n H x dx ∧ Sho n H y dy ∧ okP du = true ∧ goodD du ∧ Sm2 dv ∧ Sm1 dx ∧ Sm1 dy ∧
  Told CP CN CV H [u, v, x] E (∀ (T : List (List Int)) (xs : List Int), dv = matP T → dx = rowP xs → (∀ r ∈ T, Vc (intD du) xs.length r) → Vc (intD du) xs.length xs → ∀ (H' : Hp), Same H H' → Q (.bl (J (intD du) T xs dy)) H') (verQ du dv dx)
theorem scIsSol : FnScope ["prime", "vectors", "wanted", "value"] ["prime", "vectors", "wanted", "value"] (defScope sIsSol) := ⟨rfl, rfl, rfl, by decide +kernel, rfl, by decide +kernel, by decide +kernel⟩
theorem ok_isSol {CP CN CV f fQ fW fA : Addr} {fd fdQ fdW fdA : FuncData} (F : Fun K "is_solved" "is_solved" sIsSol f fd)
    (FQ : Fun K "require_question" "require_question" sReqQ fQ fdQ) (GQ : FnOk P w K mg base (L2.CX P w) 6 fQ fdQ ["prime", "vectors", "wanted"] (spReqQX CP CN CV)) (gQ : mg "require_question" = some (.ref fQ))
    (FW : Fun K "is_vector_of" "is_vector_of" sVectorOf fW fdW) (GW : FnOk P w K mg base CX0 4 fW fdW ["prime", "value", "length"] spVecOfD) (gW : mg "is_vector_of" = some (.ref fW))
    (FA : Fun K "added_up" "added_up" sAdd fA fdA) (GA : FnOk P w K mg base CX0 2 fA fdA ["prime", "vectors", "factors", "length"] spAdd) (gA : mg "added_up" = some (.ref fA)) (gN : mg "len" = none) :
    FnOk P w K mg base (L2.CX P w) 7 f fd ["prime", "vectors", "wanted", "value"] (spJudge isSol CP CN CV) := by
  have bQ : Binds K fdQ ["prime", "vectors", "wanted"] [] := FQ.binds fun _ _ _ _ _ _ us hl => match us, hl with | [_, _, _], _ => rfl
  have bW : Binds K fdW ["prime", "value", "length"] [] := FW.binds fun _ _ _ _ _ _ us hl => match us, hl with | [_, _, _], _ => rfl
  have bA : Binds K fdA ["prime", "vectors", "factors", "length"] [] := FA.binds fun _ _ _ _ _ _ us hl => match us, hl with | [_, _, _, _], _ => rfl
  refine F.okX scIsSol (fun vs H Q E h => ?_) (fun cdv A outer s0 H vs Q E hr h => ?_)
  · obtain ⟨u, v, x, y, du, dv, dx, dy, n, rfl, _⟩ := h
    rfl
  · obtain ⟨u, v, x, y, du, dv, dx, dy, n, rfl, su, sv, sx, sy, ok, gd, z2, z1, zy, told⟩ := h
    refine ⟨_, pss_cons (ps_expr (pe_call GQ hr rfl gQ FQ.kp bQ .nil (passes_call (E := E) (takes_of rfl rfl rfl rfl) fun _ _ _ _ h => h) (pa_cons (pv 0) (pa_cons (pv 1) (pa_cons (pv 2) pa_nil)))))
      (pss_cons (ps_if (pt_not (pt_val (pe_call GW (hr.mono (by decide)) rfl gW FW.kp bW .nil pass0 (pa_cons (pv 0) (pa_cons (pv 3) (pa_cons (pe_callB call_len_seq (by rfl) gN PySem.boot_len (pa_cons (pv 1) pa_nil)) pa_nil)))))) (pss_one (ps_ret pe_bl)) pss_nil)
      (pss_one (ps_ret (pe_cmpR (op_eqD hr.units) (pe_call GA (hr.mono (by decide)) rfl gA FA.kp bA .nil pass0 (pa_cons (pv 0) (pa_cons (pv 1) (pa_cons (pv 3) (pa_cons (pe_callB call_len_seq (by rfl) gN PySem.boot_len (pa_cons (pv 2) pa_nil)) pa_nil))))) (pv 2) (nomark _))))), ?_⟩
    refine ⟨_, rfl, _, rfl, _, rfl, u, v, x, du, dv, dx, n, rfl, su, sv, sx, ok, z2, z1, told_up told fun e want H1 s1 => ?_⟩
    obtain ⟨ep, eu, m, b, as, T, xs, rfl, rfl, hm, hT, rfl, hb, rfl, hx, hv⟩ := quest_of su sv sx e
    obtain ⟨p2, p6, pr⟩ := good_of ep gd
    have en := nat_of ep
    obtain ⟨zT, zr⟩ := sm_mat z2
    have zx := sm_row z1
    have lT := hT.len
    refine ⟨_, rfl, _, rfl, _, rfl, m, _, rfl, .inl (SqL.of (s1 _ _ hm)), intD du, y, dy, n, T.length, by rw [eu, List.length_map, lT]; rfl, sy.up s1, zy, fun H2 s2 => ⟨_, rfl, ?_⟩⟩
    have s12 := same_trans s1 s2
    cases ew : vecOfD (intD du) T.length dy with
    | false =>
      have z : isSol (intD du) T xs dy = false := by
        unfold isSol
        rw [ew]
        rfl
      have q := want T xs rfl rfl hv hx H2 s12
      rw [z] at q
      exact iteT q
    | true =>
      obtain ⟨c, ys, rfl, hc, rfl, hy⟩ := vecOf_of sy ew
      refine iteF ?_
      have hb2 : H2 b = some (.lst (xs.map V.int)) := s12 _ _ hb
      refine ⟨_, rfl, _, rfl, _, rfl, _, rfl, b, _, rfl, .inl (SqL.of hb2), ?_⟩
      refine ⟨intD du, m, c, xs.length, as, T, ys, by rw [eu, List.length_map]; rfl, (primD_int ep).2.1, (primD_int ep).2.2, s12 _ _ hm, rws_up hT s12, hv, s12 _ _ hc, hy, by omega, by omega, fun H3 d s3 nd hd => ?_⟩
      refine ⟨_, rfl, ?_⟩
      refine eq_row hd (same_trans s12 s3 _ _ hb) ?_
      have q := want T xs rfl rfl hv hx H3 (same_trans s12 s3)
      have z : isSol (intD du) T xs (rowP ys) = decide (addZ (intD du) T ys xs.length = xs) := by
        unfold isSol
        rw [ew, nums_row]
        rfl
      rw [z] at q
      exact q
theorem scIsBar : FnScope ["prime", "vectors", "wanted", "value", "vector"] ["prime", "vectors", "wanted", "value"] (defScope sIsBar) := ⟨rfl, rfl, rfl, by decide +kernel, rfl, by decide +kernel, by decide +kernel⟩
theorem ok_isBar {CP CN CV f fQ fW fA : Addr} {fd fdQ fdW fdA : FuncData} (F : Fun K "is_barred" "is_barred" sIsBar f fd)
    (FQ : Fun K "require_question" "require_question" sReqQ fQ fdQ) (GQ : FnOk P w K mg base (L2.CX P w) 6 fQ fdQ ["prime", "vectors", "wanted"] (spReqQX CP CN CV)) (gQ : mg "require_question" = some (.ref fQ))
    (FW : Fun K "is_vector_of" "is_vector_of" sVectorOf fW fdW) (GW : FnOk P w K mg base CX0 4 fW fdW ["prime", "value", "length"] spVecOfD) (gW : mg "is_vector_of" = some (.ref fW))
    (FA : Fun K "product_of" "product_of" sProd fA fdA) (GA : FnOk P w K mg base CX0 1 fA fdA ["prime", "one", "other"] spProd) (gA : mg "product_of" = some (.ref fA)) (gN : mg "len" = none) (gY : mg "any" = none) :
    FnOk P w K mg base (L2.CX P w) 7 f fd ["prime", "vectors", "wanted", "value"] (spJudge isBar CP CN CV) := by
  have bQ : Binds K fdQ ["prime", "vectors", "wanted"] [] := FQ.binds fun _ _ _ _ _ _ us hl => match us, hl with | [_, _, _], _ => rfl
  have bW : Binds K fdW ["prime", "value", "length"] [] := FW.binds fun _ _ _ _ _ _ us hl => match us, hl with | [_, _, _], _ => rfl
  have bA : Binds K fdA ["prime", "one", "other"] [] := FA.binds fun _ _ _ _ _ _ us hl => match us, hl with | [_, _, _], _ => rfl
  refine F.okX scIsBar (fun vs H Q E h => ?_) (fun cdv A outer s0 H vs Q E hr h => ?_)
  · obtain ⟨u, v, x, y, du, dv, dx, dy, n, rfl, _⟩ := h
    rfl
  · obtain ⟨u, v, x, y, du, dv, dx, dy, n, rfl, su, sv, sx, sy, ok, gd, z2, z1, zy, told⟩ := h
    refine ⟨_, pss_cons (ps_expr (pe_call GQ hr rfl gQ FQ.kp bQ .nil (passes_call (E := E) (takes_of rfl rfl rfl rfl) fun _ _ _ _ h => h) (pa_cons (pv 0) (pa_cons (pv 1) (pa_cons (pv 2) pa_nil)))))
      (pss_cons (ps_if (PW.pt (pw_or (pt_not (pt_val (pe_call GW (hr.mono (by decide)) rfl gW FW.kp bW .nil pass0 (pa_cons (pv 0) (pa_cons (pv 3) (pa_cons (pe_callB call_len_seq (by rfl) gN PySem.boot_len (pa_cons (pv 2) pa_nil)) pa_nil)))))) (pw_or1 (pt_cmpR op_ne (pe_call GA (hr.mono (by decide)) rfl gA FA.kp bA .nil pass0 (pa_cons (pv 0) (pa_cons (pv 2) (pa_cons (pv 3) pa_nil)))) pe_int (nomark _))))) (pss_one (ps_ret pe_bl)) pss_nil)
      (pss_one (ps_ret (pe_not (pe_callB (cr_anyI rfl) (by rfl) gY boot_any' (pa_cons (pe_lc (own := [("vector", 4)]) (g := gName 4) (tt := tYes) rfl scIsBar.nd (pi_list (pv 1)) (blkOk_by (N := ["prime", "vectors", "wanted", "value", "vector"]) (sc := defScope sIsBar) (by decide +kernel))
        (fun _ _ _ _ _ => pg_name (i := 4) scIsBar.nd rfl (Or.inl rfl)) (fun _ _ _ _ _ => pts_nil) (fun _ _ _ _ _ => pe_call GA (hr.mono (by decide)) rfl gA FA.kp bA .nil pass0 (pa_cons (pv 0) (pa_cons (pv 4) (pa_cons (pv 3) pa_nil))))) pa_nil)))))), ?_⟩
    refine ⟨_, rfl, _, rfl, _, rfl, u, v, x, du, dv, dx, n, rfl, su, sv, sx, ok, z2, z1, told_up told fun e want H1 s1 => ?_⟩
    obtain ⟨ep, eu, m, b, as, T, xs, rfl, rfl, hm, hT, rfl, hb, rfl, hx, hv⟩ := quest_of su sv sx e
    obtain ⟨p2, p6, pr⟩ := good_of ep gd
    have en := nat_of ep
    obtain ⟨zT, zr⟩ := sm_mat z2
    have zx := sm_row z1
    have lT := hT.len
    have hb1 : H1 b = some (.lst (xs.map V.int)) := s1 _ _ hb
    refine ⟨_, rfl, _, rfl, _, rfl, b, _, rfl, .inl (SqL.of hb1), intD du, y, dy, n, xs.length, by rw [eu, List.length_map]; rfl, sy.up s1, zy, fun H2 s2 => ⟨_, rfl, ?_⟩⟩
    have s12 := same_trans s1 s2
    cases ew : vecOfD (intD du) xs.length dy with
    | false =>
      have z : isBar (intD du) T xs dy = false := by
        unfold isBar
        rw [ew]
        rfl
      have q := want T xs rfl rfl hv hx H2 s12
      rw [z] at q
      exact iteT q
    | true =>
      obtain ⟨c, ys, rfl, hc, rfl, hy⟩ := vecOf_of sy ew
      refine iteF ?_
      refine ⟨_, rfl, _, rfl, _, rfl, intD du, b, c, xs, ys, xs.length, by rw [eu]; rfl, (primD_int ep).2.1, (primD_int ep).2.2, s12 _ _ hb, s12 _ _ hc, hx, hy, by omega, fun H3 s3 => ?_⟩
      have s13 := same_trans s12 s3
      have e1 : decide (V.int (dotZ xs ys % intD du) = V.int 1) = decide (dotZ xs ys % intD du = 1) := by
        by_cases q : dotZ xs ys % intD du = 1
        · rw [decide_eq_true q, q]
          rfl
        · rw [decide_eq_false q, decide_eq_false fun r => q (V.int.inj r)]
      have zz : isBar (intD du) T xs (rowP ys) = (decide (dotZ xs ys % intD du = 1) && T.all fun r => decide (dotZ r ys % intD du = 0)) := by
        unfold isBar
        rw [ew, nums_row]
        rfl
      refine ⟨rfl, _, rfl, ?_⟩
      rw [e1]
      by_cases q1 : dotZ xs ys % intD du = 1
      · rw [decide_eq_true q1] at zz ⊢
        refine iteF ?_
        refine ⟨_, rfl, m, rfl, ⟨_, SqL.of (s13 _ _ hm)⟩, ?_⟩
        intro D hD
        refine lc_list (GrowI H3 D (T.map fun r => dotZ r ys % intD du)) (GrowI.start hD) (fun i H' _ z => SqL.of (z.1 _ _ (s13 _ _ hm))) ?_ ?_
        · rintro k z H' hz g
          obtain ⟨a, r, rfl, ha, mr, ht, _⟩ := rws_at hT hz
          have s14 := same_trans s13 g.1
          have kl := (List.getElem?_eq_some_iff.mp ht).1
          refine ⟨rfl, tyes ?_⟩
          refine ⟨_, rfl, _, rfl, _, rfl, intD du, a, c, r, ys, xs.length, by rw [eu]; rfl, (primD_int ep).2.1, (primD_int ep).2.2, s14 _ _ ha, s14 _ _ hc, hv r mr, hy, by omega, fun H5 s5 => ?_⟩
          obtain ⟨acc, k1, k2, k3⟩ := g.step (x := dotZ r ys % intD du) hD s5 (by rw [List.getElem?_map, ht]; rfl)
          exact ⟨acc, k1, size_ok (by omega), k3⟩
        · intro H4 g
          obtain ⟨s4, hD4⟩ := g.done (by rw [List.length_map, List.length_map, lT]; exact Nat.le_refl _)
          refine ⟨D, _, rfl, SqL.of hD4, _, rfl, ?_⟩
          have q := want T xs rfl rfl hv hx H4 (same_trans s13 s4)
          rw [zz, Bool.true_and] at q
          rw [any_dots]
          exact q
      · rw [decide_eq_false q1] at zz ⊢
        have q := want T xs rfl rfl hv hx H3 s13
        rw [zz] at q
        exact iteT q
end
end Vb
end L2

set_option Elab.async false
set_option linter.all false
set_option maxRecDepth 100000
set_option maxHeartbeats 4000000
/-! Vb, part 50: between. -/
namespace L2
namespace Vb
open PySem PySem.Spec PyProof.Rows
open LinA (Meets colsA colA LCond RCond Mids)
abbrev sBetw : Stmt := topS 46
theorem verB_of {du da db dw : PyData} (h : verB du da db dw = none) : primD du = true ∧ someD (intD du) da = true ∧ someD (intD du) db = true ∧ vecsOfD (intD du) (lenD da) (lenD (headD db)) dw = true := by
  unfold verB at h
  by_cases ep : primD du = false
  · rw [if_pos ep] at h
    cases h
  rw [if_neg ep] at h
  by_cases ev : someD (intD du) da = false
  · rw [if_pos ev] at h
    cases h
  rw [if_neg ev] at h
  by_cases ey : someD (intD du) db = false
  · rw [if_pos ey] at h
    cases h
  rw [if_neg ey] at h
  refine ⟨by simpa using ep, by simpa using ev, by simpa using ey, ?_⟩
  cases db with
  | list es =>
    cases es with
    | nil =>
      show vecsOfD _ _ (lenD .none) dw = true
      cases q : vecsOfD (intD du) (lenD da) (lenD .none) dw with
      | true => rfl
      | false =>
        have h2 : (if vecsOfD (intD du) (lenD da) (lenD .none) dw = false then some (2, 3) else none) = none := h
        rw [q, if_pos rfl] at h2
        cases h2
    | cons e es =>
      show vecsOfD _ _ (lenD e) dw = true
      cases q : vecsOfD (intD du) (lenD da) (lenD e) dw with
      | true => rfl
      | false =>
        have h2 : (if vecsOfD (intD du) (lenD da) (lenD e) dw = false then some (2, 3) else none) = none := h
        rw [q, if_pos rfl] at h2
        cases h2
  | _ =>
    simp only [someD, vecsD, Bool.false_and] at ey
    exact absurd trivial ey
def wide (T : List (List Int)) : Nat := (T.getD 0 []).length
/-- vectors of their number and width -/
theorem vecsOf_of {p : Int} {n m L : Nat} {H : Hp} {v : V} {d : PyData} (sh : Sho n H v d) (h : vecsOfD p m L d = true) : ∃ (a : Addr) (as : List Addr) (T : List (List Int)), v = .ref a ∧ H a = some (.lst (as.map V.ref)) ∧ Rws H as T ∧ d = matP T ∧ T.length = m ∧ ∀ xs ∈ T, Vc p L xs := by
  cases d with
  | list ds =>
    obtain ⟨h1, h2⟩ := He.ba h
    obtain ⟨k, a, vs, _, rfl, ha, prs⟩ := sh.ofList
    have av : ds.all (vecD p) = true := List.all_eq_true.mpr fun x m => (He.ba (List.all_eq_true.mp h2 x m)).1
    obtain ⟨as, T, rfl, hT, rfl, hx⟩ := rows_of prs av
    refine ⟨a, as, T, rfl, ha, hT, rfl, ?_, fun xs mx => ⟨?_, hx xs mx⟩⟩
    · have z := of_decide_eq_true h1
      rw [List.length_map] at z
      exact z
    · have z := (He.ba (List.all_eq_true.mp h2 (rowP xs) (List.mem_map_of_mem mx))).2
      have z2 : lenD (rowP xs) = L := of_decide_eq_true z
      rw [len_row] at z2
      exact z2
  | _ => cases h
/-- the numbers of a question of between that is let -/
structure Btw (H : Hp) (p : Int) (v y x : V) (dv dy dx : PyData) (a b c : Addr) (as bs cs : List Addr) (F S W : List (List Int)) : Prop where
  ev : v = .ref a
  ey : y = .ref b
  ex : x = .ref c
  ha : H a = some (.lst (as.map V.ref))
  hb : H b = some (.lst (bs.map V.ref))
  hc : H c = some (.lst (cs.map V.ref))
  hF : Rws H as F
  hS : Rws H bs S
  hW : Rws H cs W
  dF : dv = matP F
  dS : dy = matP S
  dW : dx = matP W
  vF : ∀ r ∈ F, Vc p (wide F) r
  vS : ∀ r ∈ S, Vc p (wide S) r
  vW : ∀ r ∈ W, Vc p (wide S) r
  nF : F ≠ []
  nS : S ≠ []
  lW : W.length = F.length
theorem betw_of {n : Nat} {H : Hp} {u v y x : V} {du dv dy dx : PyData} (su : Sho n H u du) (sv : Sho n H v dv) (sy : Sho n H y dy) (sx : Sho n H x dx) (h : verB du dv dy dx = none) : primD du = true ∧ u = .int (intD du) ∧
    ∃ a b c as bs cs F S W, Btw H (intD du) v y x dv dy dx a b c as bs cs F S W := by
  obtain ⟨ep, ev, ey, ew⟩ := verB_of h
  obtain ⟨ev1, ev2⟩ := He.ba ev
  obtain ⟨ey1, ey2⟩ := He.ba ey
  obtain ⟨a, as, F, rfl, ha, hF, rfl, vF⟩ := vecs_of sv ev1
  obtain ⟨b, bs, S, rfl, hb, hS, rfl, vS⟩ := vecs_of sy ey1
  obtain ⟨c, cs, W, rfl, hc, hW, rfl, lW, vW⟩ := vecsOf_of sx ew
  have nF : F ≠ [] := fun e => by
    rw [e] at ev2
    exact absurd rfl (of_decide_eq_true ev2)
  have nS : S ≠ [] := fun e => by
    rw [e] at ey2
    exact absurd rfl (of_decide_eq_true ey2)
  have e1 : lenD (headD (matP S)) = wide S := by
    cases S with
    | nil => exact absurd rfl nS
    | cons s S => exact len_row s
  rw [e1] at vW
  rw [len_mat] at lW
  exact ⟨ep, sho_prim su ep, a, b, c, as, bs, cs, F, S, W, rfl, rfl, rfl, ha, hb, hc, hF, hS, hW, rfl, rfl, rfl, vF, vS, vW, nF, nS, lW⟩
/-- what between tells -/
def BetwR (p n o : Nat) (F S W : List (List Int)) : Option (List (List Int)) → Prop
  | none => ¬ (LCond p n o F W ∧ RCond p o S W)
  | some M => ∃ xs, Mids p n o F W xs ∧ M.length = n ∧ ∀ r x, M[r]? = some x → Meets p S.length (colsA S o) (colA xs r) (some x)
def OptMat (H H' : Hp) (v : V) : Option (List (List Int)) → Prop
  | none => v = .non
  | some M => ∃ d ds, v = .ref d ∧ H d = none ∧ H' d = some (.lst (ds.map V.ref)) ∧ Rws H' ds M ∧ ∀ b ∈ ds, H b = none
/-- a new list of answers, the first k -/
def GrowO (H : Hp) (D : Addr) (R : Nat → Option (List Int) → Prop) (k : Nat) (H' : Hp) : Prop := Same H H' ∧ ∃ (vs : List V) (rs : List (Option (List Int))), vs.length = k ∧ H' D = some (.lst vs) ∧ Paired (OptRw H H') vs rs ∧ (∀ i r, rs[i]? = some r → R i r) ∧ ∀ v ∈ vs, v ≠ .ref D
theorem OptRw.up {H H1 H2 : Hp} {v : V} {r : Option (List Int)} (h : OptRw H H1 v r) (s : ∀ d, v = .ref d → ∀ o, H1 d = some o → H2 d = some o) : OptRw H H2 v r := by
  cases r with
  | none => exact h
  | some x =>
    obtain ⟨d, e, n, q⟩ := h
    exact ⟨d, e, n, s d e _ q⟩
theorem GrowO.start {H : Hp} {D : Addr} {R : Nat → Option (List Int) → Prop} (h : H D = none) : GrowO H D R 0 (upd H D (.lst [])) := ⟨same_new h, [], [], rfl, upd_same, .nil, fun i r e => (by cases e), fun v m => nomatch m⟩
theorem paired_snocR {α β : Type} {R : α → β → Prop} {as : List α} {bs : List β} {a : α} {b : β} (h : Paired R as bs) (r : R a b) : Paired R (as ++ [a]) (bs ++ [b]) := paired_snoc h r
theorem paired_mem {α β : Type} {R Q : α → β → Prop} {as : List α} {bs : List β} (h : Paired R as bs) (k : ∀ a ∈ as, ∀ b, R a b → Q a b) : Paired Q as bs := by
  induction h with
  | nil => exact .nil
  | cons r _ ih => exact .cons (k _ List.mem_cons_self _ r) (ih fun a m b => k a (List.mem_cons_of_mem _ m) b)
theorem GrowO.step {H H1 H2 : Hp} {D : Addr} {R : Nat → Option (List Int) → Prop} {k : Nat} {v : V} {r : Option (List Int)} (hD : H D = none) (g : GrowO H D R k H1) (s : Same H1 H2) (o : OptRw H1 H2 v r) (hr : R k r) :
    ∃ acc, H2 D = some (.lst acc) ∧ acc.length = k ∧ GrowO H D R (k + 1) (upd H2 D (.lst (acc ++ [v]))) := by
  obtain ⟨sm, vs, rs, lv, h1, h2, h3, h4⟩ := g
  have lr := paired_len h2
  have nv : v ≠ .ref D := fun e => by
    cases r with
    | none =>
      rw [show v = .non from o] at e
      cases e
    | some x =>
      obtain ⟨d, e2, n, _⟩ := o
      rw [e2] at e
      cases e
      rw [h1] at n
      cases n
  have st : ∀ w : V, w ≠ .ref D → ∀ d, w = .ref d → ∀ o, H2 d = some o → upd H2 D (.lst (vs ++ [v])) d = some o := fun w nw d e o h => by
    have n : d ≠ D := fun q => nw (by rw [e, q])
    exact (upd_ne n).trans h
  refine ⟨vs, s _ _ h1, lv, same_set (same_trans sm s) hD, vs ++ [v], rs ++ [r], by rw [List.length_append, lv]; rfl, upd_same, ?_, fun i r' e => ?_, fun w m => ?_⟩
  · refine paired_snoc (paired_mem h2 fun a m b z => (z.up fun d _ o h => s _ _ h).up (st a (h4 a m))) (((o.back sm)).up (st v nv))
  · by_cases q : i < rs.length
    · rw [List.getElem?_append_left q] at e
      exact h3 i r' e
    · have q2 : i = rs.length := by
        have z := (List.getElem?_eq_some_iff.mp e).1
        rw [List.length_append] at z
        have : i < rs.length + 1 := z
        omega
      rw [q2, List.getElem?_append_right (Nat.le_refl _), Nat.sub_self] at e
      cases e
      rw [q2, ← lr, lv]
      exact hr
  · rcases List.mem_append.mp m with q | q
    · exact h4 w q
    · rw [List.mem_singleton.mp q]
      exact nv
/-- all of them are vectors -/
theorem opt_all {H H' : Hp} : ∀ {vs : List V} {rs : List (Option (List Int))}, Paired (OptRw H H') vs rs → (∀ r ∈ rs, r ≠ none) → ∃ (ds : List Addr) (T : List (List Int)), vs = ds.map V.ref ∧ rs = T.map some ∧ Rws H' ds T ∧ ∀ b ∈ ds, H b = none := by
  intro vs rs h
  induction h with
  | nil => exact fun _ => ⟨[], [], rfl, rfl, .nil, fun b m => nomatch m⟩
  | @cons v r vs rs o _ ih =>
    intro a
    obtain ⟨ds, T, rfl, rfl, hT, fr⟩ := ih fun r m => a r (List.mem_cons_of_mem _ m)
    cases r with
    | none => exact absurd rfl (a _ List.mem_cons_self)
    | some x =>
      obtain ⟨d, rfl, n, q⟩ := o
      refine ⟨d :: ds, x :: T, rfl, rfl, .cons q hT, fun b m => ?_⟩
      rcases List.mem_cons.mp m with z | z
      · rw [z]
        exact n
      · exact fr b z
theorem opt_none {H H' : Hp} {vs : List V} {rs : List (Option (List Int))} (h : Paired (OptRw H H') vs rs) : (vs.map fun v => decide (v = .non)) = rs.map Option.isNone := by
  induction h with
  | nil => rfl
  | @cons v r vs rs o _ ih =>
    rw [List.map_cons, List.map_cons, ih]
    cases r with
    | none =>
      rw [show v = .non from o]
      rfl
    | some x =>
      obtain ⟨d, rfl, _, _⟩ := o
      rfl
section
variable {P : Program} {w : World} {K : PySem.W.Frag} {mg : Str → Option Value} {base : Heap}
/-- a question of between, and what is wished where it is let -/
def spB (A : Hp → VK → Int → List (List Int) → List (List Int) → List (List Int) → Prop) (CP CN CV : Addr) : Sp := fun vs H Q E => ∃ (u v y x : V) (du dv dy dx : PyData) (n : Nat), vs = [u, v, y, x] ∧ Sho n H u du ∧ Sho n H v dv ∧ Sho n H y dy ∧ Sho n H x dx ∧ okP du = true ∧ goodD du ∧ Sm2 dv ∧ Sm2 dy ∧ Sm2 dx ∧
  Told CP CN CV H [u, v, y, x] E (∀ (F S W : List (List Int)), dv = matP F → dy = matP S → dx = matP W → A H Q (intD du) F S W) (verB du dv dy dx)
def aBetw : Hp → VK → Int → List (List Int) → List (List Int) → List (List Int) → Prop := fun H Q p F S W => ∀ (H' : Hp) (v : V) (r : Option (List (List Int))), Same H H' → OptMat H H' v r → BetwR p.toNat (wide F) (wide S) F S W r → Q v H'
abbrev sMid : Stmt := topS 31
abbrev nMid : List Str := ["prime", "first", "second", "wanted", "inner", "outer", "columns", "found", "column", "vector"]
theorem scMid : FnScope nMid ["prime", "first", "second", "wanted", "inner", "outer"] (defScope sMid) := ⟨rfl, rfl, rfl, by decide +kernel, rfl, by decide +kernel, by decide +kernel⟩
theorem sm_wide {T : List (List Int)} (h : Sm2 (matP T)) : wide T ≤ 900 := by
  obtain ⟨_, k⟩ := sm_mat h
  cases T with
  | nil => exact Nat.zero_le _
  | cons x T => exact k x List.mem_cons_self
theorem wide_at {H : Hp} {as : List Addr} {T : List (List Int)} (h : Rws H as T) (n : T ≠ []) : ∃ b x, (as.map V.ref)[0]? = some (V.ref b) ∧ Rw H b x ∧ x.length = wide T := by
  cases h with
  | nil => exact absurd rfl n
  | @cons a x as T r t => exact ⟨a, x, rfl, r, rfl⟩
theorem any_map_none (rs : List (Option (List Int))) : (rs.map Option.isNone).any id = rs.any Option.isNone := by
  rw [List.any_map]
  rfl
def spMid : Sp := fun vs H Q _ => ∃ (p : Nat) (a b c : Addr) (n L : Nat) (as bs cs : List Addr) (F1 S W : List (List Int)), vs = [.int (p : Int), .ref a, .ref b, .ref c, .int (n : Int), .int (L : Int)] ∧ 2 ≤ p ∧ p ≤ 65537 ∧ Prm p ∧
  H a = some (.lst (as.map V.ref)) ∧ Rws H as F1 ∧ H b = some (.lst (bs.map V.ref)) ∧ Rws H bs S ∧ H c = some (.lst (cs.map V.ref)) ∧ Rws H cs W ∧ (∀ r ∈ F1, Vc (p : Int) n r) ∧ (∀ r ∈ S, Vc (p : Int) L r) ∧ (∀ r ∈ W, Vc (p : Int) L r) ∧
  W.length = F1.length ∧ F1.length ≤ 900 ∧ S.length ≤ 900 ∧ n ≤ 900 ∧ L ≤ 900 ∧
  ∀ (H' : Hp) (v : V) (r : Option (List (List Int))), Same H H' → OptMat H H' v r → BetwR p n L F1 S W r → Q v H'
theorem ok_mid {f fM fF fC : Addr} {fd fdM fdF fdC : FuncData} (F : Fun K "middle_of" "middle_of" sMid f fd)
    (FM : Fun K "meeting" "meeting" sMeet fM fdM) (GM : FnOk P w K mg base CX0 4 fM fdM ["prime", "vectors", "aims", "length"] spMeet) (gM : mg "meeting" = some (.ref fM))
    (FF : Fun K "factors_for" "factors_for" sFactors fF fdF) (GF : FnOk P w K mg base CX0 5 fF fdF ["prime", "vectors", "wanted"] spFactors) (gF : mg "factors_for" = some (.ref fF))
    (FC : Fun K "columns_of" "columns_of" sCols fC fdC) (GC : FnOk P w K mg base CX0 1 fC fdC ["vectors", "length"] spCols) (gC : mg "columns_of" = some (.ref fC)) (gA : mg "any" = none) :
    FnOk P w K mg base CX0 6 f fd ["prime", "first", "second", "wanted", "inner", "outer"] spMid := by
  have bM : Binds K fdM ["prime", "vectors", "aims", "length"] [] := FM.binds fun _ _ _ _ _ _ us hl => match us, hl with | [_, _, _, _], _ => rfl
  have bF : Binds K fdF ["prime", "vectors", "wanted"] [] := FF.binds fun _ _ _ _ _ _ us hl => match us, hl with | [_, _, _], _ => rfl
  have bC : Binds K fdC ["vectors", "length"] [] := FC.binds fun _ _ _ _ _ _ us hl => match us, hl with | [_, _], _ => rfl
  refine F.ok scMid (fun vs H Q E h => ?_) (fun cdv A outer s0 H vs Q E hr h => ?_)
  · obtain ⟨p, a, b, c, n, L, as, bs, cs, F1, S, W, rfl, _⟩ := h
    rfl
  · obtain ⟨p, a, b, c, n, L, as, bs, cs, F1, S, W, rfl, p2, p6, pr, ha, hF, hb, hS, hc, hW, vFn, vSn, vWn, lW, zF, zS, zn, zL, want⟩ := h
    haveI : NeZero p := ⟨by omega⟩
    refine ⟨_, (pss_cons (ps_setLc (i := 6) (own := [("column", 8)]) (g := (gName 8)) (tt := tYes) rfl scMid.nd rfl rfl (sw_true rfl rfl rfl (by decide +kernel)) (pi_list (pe_call GC (hr.mono (by decide)) rfl gC FC.kp bC .nil pass0 (pa_cons (pv 3) (pa_cons (pv 5) pa_nil)))) (blkOk_by (N := nMid) (sc := defScope sMid) (by decide +kernel)) (fun _ _ _ _ _ => pg_name (i := 8) scMid.nd rfl (Or.inl rfl)) (fun _ _ _ _ _ => pts_nil) (fun _ _ _ _ _ => (pe_call GM (hr.mono (by decide)) rfl gM FM.kp bM .nil pass0 (pa_cons (pv 0) (pa_cons (pv 1) (pa_cons (pv 8) (pa_cons (pv 4) pa_nil)))))))
      (pss_cons (ps_if (pt_val (pe_callB (cr_any rfl) (by rfl) gA boot_any' (pa_cons (pe_lc (own := [("column", 8)]) (g := (gName 8)) (tt := tYes) rfl scMid.nd (pi_list (pv 6)) (blkOk_by (N := nMid) (sc := defScope sMid) (by decide +kernel)) (fun _ _ _ _ _ => pg_name (i := 8) scMid.nd rfl (Or.inl rfl)) (fun _ _ _ _ _ => pts_nil) (fun _ _ _ _ _ => (pe_cmpR op_isN (pv 8) pe_non (nomark _)))) pa_nil)))
        (pss_one (ps_ret pe_non))
        pss_nil)
      (pss_cons (ps_setLc (i := 7) (own := [("vector", 9)]) (g := (gName 9)) (tt := tYes) rfl scMid.nd rfl rfl (sw_true rfl rfl rfl (by decide +kernel)) (pi_list (pe_call GC (hr.mono (by decide)) rfl gC FC.kp bC .nil pass0 (pa_cons (pv 6) (pa_cons (pv 4) pa_nil)))) (blkOk_by (N := nMid) (sc := defScope sMid) (by decide +kernel)) (fun _ _ _ _ _ => pg_name (i := 9) scMid.nd rfl (Or.inl rfl)) (fun _ _ _ _ _ => pts_nil) (fun _ _ _ _ _ => (pe_call GF hr rfl gF FF.kp bF .nil pass0 (pa_cons (pv 0) (pa_cons (pv 2) (pa_cons (pv 9) pa_nil))))))
      (pss_cons (ps_if (pt_val (pe_callB (cr_any rfl) (by rfl) gA boot_any' (pa_cons (pe_lc (own := [("vector", 9)]) (g := (gName 9)) (tt := tYes) rfl scMid.nd (pi_list (pv 7)) (blkOk_by (N := nMid) (sc := defScope sMid) (by decide +kernel)) (fun _ _ _ _ _ => pg_name (i := 9) scMid.nd rfl (Or.inl rfl)) (fun _ _ _ _ _ => pts_nil) (fun _ _ _ _ _ => (pe_cmpR op_isN (pv 9) pe_non (nomark _)))) pa_nil)))
        (pss_one (ps_ret pe_non))
        pss_nil)
      (pss_one (ps_ret (pv 7))))))), ?_⟩
    refine ⟨_, rfl, _, rfl, c, L, cs, W, (p : Int), rfl, hc, hW, vWn, by omega, by omega, fun H3 d cc s3 nd hd hcc => ?_⟩
    have s13 := s3
    refine ⟨d, rfl, ⟨_, SqL.of hd⟩, ?_⟩
    intro D hD
    refine lc_list (GrowO H3 D fun i r => Meets (p) (n) F1 (colA W i) r) (GrowO.start hD) (fun i H' _ z => SqL.of (z.1 _ _ hd)) ?_ ?_
    · rintro k z H4 hz g
      obtain ⟨q, r, rfl, hq, mr, hk, _⟩ := rws_at hcc hz
      have kS : k < L := by
        have z := (List.getElem?_eq_some_iff.mp hk).1
        rw [List.length_map, List.length_range] at z
        exact z
      have er : r = colA W k := by
        rw [List.getElem?_map, List.getElem?_range kS] at hk
        exact (Option.some.inj hk).symm
      subst er
      have s14 := same_trans s13 g.1
      have vcol : Vc (p : Int) F1.length (colA W k) := by
        have z := LinA.colA_vec (p := p) (c := k) (by omega) vWn
        rw [lW] at z
        exact z
      refine ⟨rfl, tyes ?_⟩
      refine ⟨_, rfl, _, rfl, _, rfl, _, rfl, p, a, q, n, as, F1, colA W k, rfl, p2, p6, pr, s14 _ _ ha, rws_up hF s14, vFn, g.1 _ _ hq, vcol, by omega, by omega, fun H5 v5 r5 s5 o5 k5 => ?_⟩
      obtain ⟨acc, k1, k2, k3⟩ := g.step hD s5 o5 k5
      exact ⟨acc, k1, by rw [k2]; exact size_ok (by omega), k3⟩
    · intro H4 g
      have lc : (cc.map V.ref).length = L := by rw [List.length_map, hcc.len, List.length_map, List.length_range]
      rw [lc] at g
      obtain ⟨s4, vs, rs, lv, hD4, hvs, hrs, _⟩ := g
      have s14 := same_trans s13 s4
      have lr := paired_len hvs
      -- is one none?
      refine ⟨_, rfl, D, rfl, ⟨_, SqL.of hD4⟩, ?_⟩
      intro D2 hD2
      refine lc_list (GrowB H4 D2 (vs.map fun v => decide (v = .non))) (GrowB.start hD2) (fun i H' _ z => SqL.of (z.1 _ _ hD4)) ?_ ?_
      · rintro k z H5 hz g2
        obtain ⟨acc, k1, k2, k3⟩ := g2.step (x := decide (z = .non)) hD2 same_rfl (by rw [List.getElem?_map, hz]; rfl)
        have kl := (List.getElem?_eq_some_iff.mp hz).1
        refine ⟨rfl, tyes ?_⟩
        exact ⟨_, rfl, rfl, acc, k1, size_ok (by omega), k3⟩
      · intro H5 g2
        obtain ⟨s5, hD5⟩ := g2.done (by rw [List.length_map]; exact Nat.le_refl _)
        rw [opt_none hvs] at hD5
        have s15 := same_trans s14 s5
        refine ⟨D2, _, rfl, SqL.of hD5, _, rfl, ?_⟩
        rw [any_map_none]
        cases ea : rs.any Option.isNone with
        | true =>
          refine iteT (want H5 .non none s15 rfl ?_)
          obtain ⟨r, mr, er⟩ := List.any_eq_true.mp ea
          obtain ⟨i, hi, ei⟩ := List.mem_iff_getElem.mp mr
          rintro ⟨hL, _⟩
          have z := hrs i r (by rw [List.getElem?_eq_getElem hi, ei])
          have er2 : r = none := by simpa using er
          rw [er2] at z
          exact LinA.mid_some pr p2 vFn vWn lW hL (by omega) z
        | false =>
          refine iteF ?_
          have nn : ∀ r ∈ rs, r ≠ none := fun r mr e => by
            have z := List.any_eq_false.mp ea r mr
            rw [e] at z
            exact z rfl
          obtain ⟨ds, X, rfl, rfl, hX, _⟩ := opt_all hvs nn
          have lX : X.length = L := by rw [← lv, lr, List.length_map]
          have mids : Mids (p) (n) (L) F1 W X := ⟨lX, fun i x e => hrs i (some x) (by rw [List.getElem?_map, e]; rfl)⟩
          have vX : ∀ x ∈ X, Vc (p : Int) (n) x := fun x mx => by
            obtain ⟨i, hi, e⟩ := List.mem_iff_getElem.mp mx
            have z := (mids.2 i X[i] (List.getElem?_eq_getElem hi)).1.1
            rw [e] at z
            exact z
          have hX5 := rws_up hX s5
          -- the rows
          refine ⟨_, rfl, _, rfl, D, n, ds, X, (p : Int), rfl, s5 _ _ hD4, hX5, vX, by omega, by omega, fun H6 d6 rr s6 nd6 hd6 hrr => ?_⟩
          have s16 := same_trans s15 s6
          refine ⟨d6, rfl, ⟨_, SqL.of hd6⟩, ?_⟩
          intro D7 hD7
          refine lc_list (GrowO H6 D7 fun i r => Meets (p) S.length (colsA S (L)) (colA X i) r) (GrowO.start hD7) (fun i H' _ z => SqL.of (z.1 _ _ hd6)) ?_ ?_
          · rintro k z H7 hz g
            obtain ⟨q, r, rfl, hq, mr, hk, _⟩ := rws_at hrr hz
            have kS : k < n := by
              have z := (List.getElem?_eq_some_iff.mp hk).1
              rw [List.length_map, List.length_range] at z
              exact z
            have er : r = colA X k := by
              rw [List.getElem?_map, List.getElem?_range kS] at hk
              exact (Option.some.inj hk).symm
            subst er
            have s17 := same_trans s16 g.1
            have vcol : Vc (p : Int) (L) (colA X k) := by
              have z := LinA.colA_vec (p := p) (c := k) (by omega) vX
              rw [lX] at z
              exact z
            refine ⟨rfl, tyes ?_⟩
            refine ⟨_, rfl, _, rfl, _, rfl, p, b, q, L, bs, S, colA X k, rfl, p2, p6, pr, s17 _ _ hb, rws_up hS s17, vSn, g.1 _ _ hq, vcol, by omega, by omega, fun H8 v8 r8 s8 o8 k8 => ?_⟩
            obtain ⟨acc, k1, k2, k3⟩ := g.step hD7 s8 o8 k8
            exact ⟨acc, k1, by rw [k2]; exact size_ok (by omega), k3⟩
          · intro H7 g
            have lc7 : (rr.map V.ref).length = n := by rw [List.length_map, hrr.len, List.length_map, List.length_range]
            rw [lc7] at g
            obtain ⟨s7, ws, qs, lw, hD8, hws, hqs, _⟩ := g
            have s17 := same_trans s16 s7
            have lq := paired_len hws
            refine ⟨_, rfl, D7, rfl, ⟨_, SqL.of hD8⟩, ?_⟩
            intro D9 hD9
            refine lc_list (GrowB H7 D9 (ws.map fun v => decide (v = .non))) (GrowB.start hD9) (fun i H' _ z => SqL.of (z.1 _ _ hD8)) ?_ ?_
            · rintro k z H8 hz g2
              obtain ⟨acc, k1, k2, k3⟩ := g2.step (x := decide (z = .non)) hD9 same_rfl (by rw [List.getElem?_map, hz]; rfl)
              have kl := (List.getElem?_eq_some_iff.mp hz).1
              refine ⟨rfl, tyes ?_⟩
              exact ⟨_, rfl, rfl, acc, k1, size_ok (by omega), k3⟩
            · intro H8 g2
              obtain ⟨s8, hD8'⟩ := g2.done (by rw [List.length_map]; exact Nat.le_refl _)
              rw [opt_none hws] at hD8'
              have s18 := same_trans s17 s8
              refine ⟨D9, _, rfl, SqL.of hD8', _, rfl, ?_⟩
              rw [any_map_none]
              cases eb : qs.any Option.isNone with
              | true =>
                refine iteT (want H8 .non none s18 rfl ?_)
                obtain ⟨r, mr, er⟩ := List.any_eq_true.mp eb
                obtain ⟨i, hi, ei⟩ := List.mem_iff_getElem.mp mr
                rintro ⟨_, hR⟩
                have z := hqs i r (by rw [List.getElem?_eq_getElem hi, ei])
                have er2 : r = none := by simpa using er
                rw [er2] at z
                have hi2 : i < n := by omega
                have vcol : LinA.Vec (p) (L) (colA X i) := by
                  have z := LinA.colA_vec (p := p) (c := i) (by omega) vX
                  rw [lX] at z
                  exact z
                exact ((LinA.solve_iff p2 vSn vcol z).1.mp rfl) (LinA.mid_span pr p2 vFn vSn vWn lW hR mids hi2)
              | false =>
                refine iteF ?_
                have nn : ∀ r ∈ qs, r ≠ none := fun r mr e => by
                  have z := List.any_eq_false.mp eb r mr
                  rw [e] at z
                  exact z rfl
                obtain ⟨es, M, rfl, rfl, hM, frM⟩ := opt_all hws nn
                refine ⟨_, rfl, want H8 (.ref D7) (some M) s18 ⟨D7, es, rfl, s16.free hD7, s8 _ _ hD8, rws_up hM s8, fun b mb => s16.free (frM b mb)⟩ ⟨X, mids, ?_, fun r x e => hqs r (some x) (by rw [List.getElem?_map, e]; rfl)⟩⟩
                rw [← lw, lq, List.length_map]
theorem optmat_up {H H1 H2 : Hp} {v : V} {r : Option (List (List Int))} (s : Same H H1) (h : OptMat H1 H2 v r) : OptMat H H2 v r := by
  cases r with
  | none => exact h
  | some M =>
    obtain ⟨d, ds, e, n, h1, h2, fr⟩ := h
    exact ⟨d, ds, e, s.free n, h1, h2, fun b m => s.free (fr b m)⟩
abbrev nBetw : List Str := ["prime", "first", "second", "wanted"]
theorem scBetw : FnScope nBetw ["prime", "first", "second", "wanted"] (defScope sBetw) := ⟨rfl, rfl, rfl, by decide +kernel, rfl, by decide +kernel, by decide +kernel⟩
theorem ok_betw {CP CN CV f fQ fM : Addr} {fd fdQ fdM : FuncData} (F : Fun K "between" "between" sBetw f fd)
    (FQ : Fun K "require_between" "require_between" sReqB fQ fdQ) (GQ : FnOk P w K mg base (L2.CX P w) 6 fQ fdQ ["prime", "first", "second", "wanted"] (spReqBX CP CN CV)) (gQ : mg "require_between" = some (.ref fQ))
    (FM : Fun K "middle_of" "middle_of" sMid fM fdM) (GM : FnOk P w K mg base CX0 6 fM fdM ["prime", "first", "second", "wanted", "inner", "outer"] spMid) (gM : mg "middle_of" = some (.ref fM)) (gN : mg "len" = none) :
    FnOk P w K mg base (L2.CX P w) 7 f fd ["prime", "first", "second", "wanted"] (spB aBetw CP CN CV) := by
  have bQ : Binds K fdQ ["prime", "first", "second", "wanted"] [] := FQ.binds fun _ _ _ _ _ _ us hl => match us, hl with | [_, _, _, _], _ => rfl
  have bM : Binds K fdM ["prime", "first", "second", "wanted", "inner", "outer"] [] := FM.binds fun _ _ _ _ _ _ us hl => match us, hl with | [_, _, _, _, _, _], _ => rfl
  refine F.okX scBetw (fun vs H Q E h => ?_) (fun cdv A outer s0 H vs Q E hr h => ?_)
  · obtain ⟨u, v, y, x, du, dv, dy, dx, n, rfl, _⟩ := h
    rfl
  · obtain ⟨u, v, y, x, du, dv, dy, dx, n, rfl, su, sv, sy, sx, ok, gd, z1, z2, z3, told⟩ := h
    refine ⟨_, pss_cons (ps_expr (pe_call GQ hr rfl gQ FQ.kp bQ .nil (passes_call (E := E) (takes_of rfl rfl rfl rfl) fun _ _ _ _ h => h) (pa_cons (pv 0) (pa_cons (pv 1) (pa_cons (pv 2) (pa_cons (pv 3) pa_nil))))))
      (pss_one (ps_ret (pe_call GM hr rfl gM FM.kp bM .nil pass0 (pa_cons (pv 0) (pa_cons (pv 1) (pa_cons (pv 2) (pa_cons (pv 3) (pa_cons (pe_callB call_len_seq (by rfl) gN PySem.boot_len (pa_cons (pe_ix ix_list (pv 1) pe_int (fun _ _ => rfl)) pa_nil)) (pa_cons (pe_callB call_len_seq (by rfl) gN PySem.boot_len (pa_cons (pe_ix ix_list (pv 2) pe_int (fun _ _ => rfl)) pa_nil)) pa_nil))))))))), ?_⟩
    refine ⟨_, rfl, _, rfl, _, rfl, _, rfl, u, v, y, x, du, dv, dy, dx, n, rfl, su, sv, sy, sx, ok, z1, z2, z3, told_up told fun e want H1 s1 => ?_⟩
    obtain ⟨ep, eu, a, b, c, as, bs, cs, F', S, W, B⟩ := betw_of su sv sy sx e
    obtain ⟨rfl, rfl, rfl, ha, hb, hc, hF, hS, hW, rfl, rfl, rfl, vF, vS, vW, nF, nS, lW⟩ := B
    obtain ⟨p2, p6, pr⟩ := good_of ep gd
    have en := nat_of ep
    have fin := want F' S W rfl rfl rfl
    obtain ⟨zF, _⟩ := sm_mat z1
    obtain ⟨zS, _⟩ := sm_mat z2
    have wF := sm_wide z1
    have wS := sm_wide z2
    obtain ⟨b0, x0, g0, hb0, l0⟩ := wide_at hF nF
    obtain ⟨b1, x1, g1, hb1, l1⟩ := wide_at hS nS
    have hb0' : H1 b0 = some (.lst (x0.map V.int)) := s1 _ _ hb0
    have hb1' : H1 b1 = some (.lst (x1.map V.int)) := s1 _ _ hb1
    refine ⟨_, rfl, _, rfl, _, rfl, _, rfl, _, rfl, a, _, 0, _, rfl, rfl, SqL.of (s1 _ _ ha), atI_nat (j := 0) g0, b0, _, rfl, .inl (SqL.of hb0'), _, rfl, b, _, 0, _, rfl, rfl, SqL.of (s1 _ _ hb), atI_nat (j := 0) g1, b1, _, rfl, .inl (SqL.of hb1'), ?_⟩
    refine ⟨natD du, a, b, c, wide F', wide S, as, bs, cs, F', S, W, ?_, p2, p6, pr, s1 _ _ ha, rws_up hF s1, s1 _ _ hb, rws_up hS s1, s1 _ _ hc, rws_up hW s1, by rw [en]; exact vF, by rw [en]; exact vS, by rw [en]; exact vW, lW, zF, zS, wF, wS, fun H2 v r s2 om br => ?_⟩
    · rw [List.length_map, List.length_map, l0, l1, en, eu]
      rfl
    · exact fin H2 v r (same_trans s1 s2) (optmat_up s1 om) br
end
end Vb
end L2

set_option Elab.async false
set_option linter.all false
set_option maxRecDepth 100000
set_option maxHeartbeats 4000000
/-! Vb, part 51: barred_between. -/
namespace L2
namespace Vb
open PySem PySem.Spec PyProof.Rows
open LinA (Meets colsA colA LCond RCond Mids Ker dotA)
abbrev sBarB : Stmt := topS 48
def BarR (H H' : Hp) (v : V) (p : Nat) (F S W : List (List Int)) : Prop := (v = .non ∧ LCond p (wide F) (wide S) F W ∧ RCond p (wide S) S W) ∨
  (∃ t d u, v = .ref t ∧ H t = none ∧ H' t = some (.tup [.str "first", .ref d]) ∧ H d = none ∧ Rw H' d u ∧ Ker p F.length (colsA F (wide F)) u ∧ ∃ c, c < wide S ∧ dotA u (colA W c) % (p : Int) ≠ 0) ∨
  (∃ t d z, v = .ref t ∧ H t = none ∧ H' t = some (.tup [.str "second", .ref d]) ∧ H d = none ∧ Rw H' d z ∧ Ker p (wide S) S z ∧ ∃ w, w ∈ W ∧ dotA w z % (p : Int) ≠ 0)
def aBarB : Hp → VK → Int → List (List Int) → List (List Int) → List (List Int) → Prop := fun H Q p F S W => ∀ (H' : Hp) (v : V), Same H H' → BarR H H' v p.toNat F S W → Q v H'
abbrev nBarB : List Str := ["prime", "first", "second", "wanted", "inner", "outer", "factors", "vector", "row"]
theorem any_add {p : Int} {W : List (List Int)} {u : List Int} {o : Nat} : ((addZ p W u o).any fun n => decide (n ≠ 0)) = true ↔ ∃ c, c < o ∧ dotA u (colA W c) % p ≠ 0 := by
  unfold addZ
  rw [List.any_map, List.any_eq_true]
  constructor
  · rintro ⟨c, mc, h⟩
    exact ⟨c, List.mem_range.mp mc, of_decide_eq_true h⟩
  · rintro ⟨c, hc, h⟩
    exact ⟨c, List.mem_range.mpr hc, decide_eq_true h⟩
theorem any_dot {p : Int} {W : List (List Int)} {z : List Int} : ((W.map fun r => dotZ r z % p).any fun n => decide (n ≠ 0)) = true ↔ ∃ w, w ∈ W ∧ dotA w z % p ≠ 0 := by
  rw [List.any_map, List.any_eq_true]
  constructor
  · rintro ⟨c, mc, h⟩
    exact ⟨c, mc, of_decide_eq_true h⟩
  · rintro ⟨c, hc, h⟩
    exact ⟨c, hc, decide_eq_true h⟩
section
variable {P : Program} {w : World} {K : PySem.W.Frag} {mg : Str → Option Value} {base : Heap}
theorem scBarB : FnScope nBarB ["prime", "first", "second", "wanted"] (defScope sBarB) := ⟨rfl, rfl, rfl, by decide +kernel, rfl, by decide +kernel, by decide +kernel⟩
theorem ok_barB {CP CN CV f fQ fX fA fP fC : Addr} {fd fdQ fdX fdA fdP fdC : FuncData} (F : Fun K "barred_between" "barred_between" sBarB f fd)
    (FQ : Fun K "require_between" "require_between" sReqB fQ fdQ) (GQ : FnOk P w K mg base (L2.CX P w) 6 fQ fdQ ["prime", "first", "second", "wanted"] (spReqBX CP CN CV)) (gQ : mg "require_between" = some (.ref fQ))
    (FX : Fun K "crossing" "crossing" sCross fX fdX) (GX : FnOk P w K mg base CX0 5 fX fdX ["prime", "vectors", "length"] spCross) (gX : mg "crossing" = some (.ref fX))
    (FA : Fun K "added_up" "added_up" sAdd fA fdA) (GA : FnOk P w K mg base CX0 2 fA fdA ["prime", "vectors", "factors", "length"] spAdd) (gA : mg "added_up" = some (.ref fA))
    (FP : Fun K "product_of" "product_of" sProd fP fdP) (GP : FnOk P w K mg base CX0 1 fP fdP ["prime", "one", "other"] spProd) (gP : mg "product_of" = some (.ref fP))
    (FC : Fun K "columns_of" "columns_of" sCols fC fdC) (GC : FnOk P w K mg base CX0 1 fC fdC ["vectors", "length"] spCols) (gC : mg "columns_of" = some (.ref fC)) (gN : mg "len" = none) (gY : mg "any" = none) :
    FnOk P w K mg base (L2.CX P w) 7 f fd ["prime", "first", "second", "wanted"] (spB aBarB CP CN CV) := by
  have bQ : Binds K fdQ ["prime", "first", "second", "wanted"] [] := FQ.binds fun _ _ _ _ _ _ us hl => match us, hl with | [_, _, _, _], _ => rfl
  have bX : Binds K fdX ["prime", "vectors", "length"] [] := FX.binds fun _ _ _ _ _ _ us hl => match us, hl with | [_, _, _], _ => rfl
  have bA : Binds K fdA ["prime", "vectors", "factors", "length"] [] := FA.binds fun _ _ _ _ _ _ us hl => match us, hl with | [_, _, _, _], _ => rfl
  have bP : Binds K fdP ["prime", "one", "other"] [] := FP.binds fun _ _ _ _ _ _ us hl => match us, hl with | [_, _, _], _ => rfl
  have bC : Binds K fdC ["vectors", "length"] [] := FC.binds fun _ _ _ _ _ _ us hl => match us, hl with | [_, _], _ => rfl
  refine F.okX scBarB (fun vs H Q E h => ?_) (fun cdv A outer s0 H vs Q E hr h => ?_)
  · obtain ⟨u, v, y, x, du, dv, dy, dx, n, rfl, _⟩ := h
    rfl
  · obtain ⟨u, v, y, x, du, dv, dy, dx, n, rfl, su, sv, sy, sx, ok, gd, z1, z2, z3, told⟩ := h
    refine ⟨_, pss_cons (ps_expr (pe_call GQ hr rfl gQ FQ.kp bQ .nil (passes_call (E := E) (takes_of rfl rfl rfl rfl) fun _ _ _ _ h => h) (pa_cons (pv 0) (pa_cons (pv 1) (pa_cons (pv 2) (pa_cons (pv 3) pa_nil))))))
      (pss_cons (ps_par (i := 4) (j := 5) (by rfl) scBarB.nd rfl rfl (by decide) rfl rfl (pa_cons (pe_callB call_len_seq (by rfl) gN PySem.boot_len (pa_cons (pe_ix ix_list (pv 1) pe_int (fun _ _ => rfl)) pa_nil)) (pa_cons (pe_callB call_len_seq (by rfl) gN PySem.boot_len (pa_cons (pe_ix ix_list (pv 2) pe_int (fun _ _ => rfl)) pa_nil)) pa_nil)) (by rfl))
      (pss_cons (ps_for (passes_of rfl) rfl (pi_list (pe_call GX (hr.mono (by decide)) rfl gX FX.kp bX .nil pass0 (pa_cons (pv 0) (pa_cons (pe_call GC (hr.mono (by decide)) rfl gC FC.kp bC .nil pass0 (pa_cons (pv 1) (pa_cons (pv 4) pa_nil))) (pa_cons (pe_callB call_len_seq (by rfl) gN PySem.boot_len (pa_cons (pv 1) pa_nil)) pa_nil))))) (pg_name (i := 6) scBarB.nd rfl (Or.inl rfl))
          (pss_one (ps_if (pt_val (pe_callB (cr_anyI rfl) (by rfl) gY boot_any' (pa_cons (pe_call GA (hr.mono (by decide)) rfl gA FA.kp bA .nil pass0 (pa_cons (pv 0) (pa_cons (pv 3) (pa_cons (pv 6) (pa_cons (pv 5) pa_nil))))) pa_nil))) (pss_one (ps_ret (pe_tup (pa_cons pe_str (pa_cons (pv 6) pa_nil))))) pss_nil)))
      (pss_cons (ps_for (passes_of rfl) rfl (pi_list (pe_call GX (hr.mono (by decide)) rfl gX FX.kp bX .nil pass0 (pa_cons (pv 0) (pa_cons (pv 2) (pa_cons (pv 5) pa_nil))))) (pg_name (i := 7) scBarB.nd rfl (Or.inr rfl))
          (pss_one (ps_if (pt_val (pe_callB (cr_anyI rfl) (by rfl) gY boot_any' (pa_cons (pe_lc (own := [("row", 8)]) (g := gName 8) (tt := tYes) rfl scBarB.nd (pi_list (pv 3)) (blkOk_by (N := nBarB) (sc := defScope sBarB) (by decide +kernel))
              (fun _ _ _ _ _ => pg_name (i := 8) scBarB.nd rfl (Or.inl rfl)) (fun _ _ _ _ _ => pts_nil) (fun _ _ _ _ _ => pe_call GP (hr.mono (by decide)) rfl gP FP.kp bP .nil pass0 (pa_cons (pv 0) (pa_cons (pv 8) (pa_cons (pv 7) pa_nil))))) pa_nil))) (pss_one (ps_ret (pe_tup (pa_cons pe_str (pa_cons (pv 7) pa_nil))))) pss_nil)))
      (pss_one (ps_ret pe_non))))), ?_⟩
    refine ⟨_, rfl, _, rfl, _, rfl, _, rfl, u, v, y, x, du, dv, dy, dx, n, rfl, su, sv, sy, sx, ok, z1, z2, z3, told_up told fun e want H1 s1 => ?_⟩
    obtain ⟨ep, eu, a, b, c, as, bs, cs, F', S, W, B⟩ := betw_of su sv sy sx e
    obtain ⟨rfl, rfl, rfl, ha, hb, hc, hF, hS, hW, rfl, rfl, rfl, vF, vS, vW, nF, nS, lW⟩ := B
    obtain ⟨p2, p6, pr⟩ := good_of ep gd
    haveI : NeZero (natD du) := ⟨by omega⟩
    have en := nat_of ep
    have fin := want F' S W rfl rfl rfl
    obtain ⟨zF, _⟩ := sm_mat z1
    obtain ⟨zS, _⟩ := sm_mat z2
    obtain ⟨zW, _⟩ := sm_mat z3
    have wF := sm_wide z1
    have wS := sm_wide z2
    obtain ⟨b0, x0, g0, hb0, l0⟩ := wide_at hF nF
    obtain ⟨b1, x1, g1, hb1, l1⟩ := wide_at hS nS
    have hb0' : H1 b0 = some (.lst (x0.map V.int)) := s1 _ _ hb0
    have hb1' : H1 b1 = some (.lst (x1.map V.int)) := s1 _ _ hb1
    have vFn : ∀ r ∈ F', Vc ((natD du : Nat) : Int) (wide F') r := by rw [en]; exact vF
    have vSn : ∀ r ∈ S, Vc ((natD du : Nat) : Int) (wide S) r := by rw [en]; exact vS
    have vWn : ∀ r ∈ W, Vc ((natD du : Nat) : Int) (wide S) r := by rw [en]; exact vW
    have lF := hF.len
    refine ⟨_, rfl, a, _, 0, _, rfl, rfl, SqL.of (s1 _ _ ha), atI_nat (j := 0) g0, b0, _, rfl, .inl (SqL.of hb0'), _, rfl, b, _, 0, _, rfl, rfl, SqL.of (s1 _ _ hb), atI_nat (j := 0) g1, b1, _, rfl, .inl (SqL.of hb1'), ?_⟩
    have en0 : V.int ((x0.map V.int).length : Int) = V.int ((wide F' : Nat) : Int) := by rw [List.length_map, l0]
    have en1 : V.int ((x1.map V.int).length : Int) = V.int ((wide S : Nat) : Int) := by rw [List.length_map, l1]
    rw [en0, en1]
    refine ⟨_, _, rfl, ?_⟩
    -- the left side
    refine ⟨_, rfl, _, rfl, _, rfl, a, wide F', as, F', intD du, rfl, s1 _ _ ha, rws_up hF s1, vF, by omega, by omega, fun H2 d2 cc s2 nd2 hd2 hcc => ?_⟩
    have s12 := same_trans s1 s2
    refine ⟨_, rfl, a, _, rfl, .inl (SqL.of (s12 _ _ ha)), ?_⟩
    refine ⟨natD du, d2, F'.length, cc, colsA F' (wide F'), by rw [eu, en, List.length_map, lF]; rfl, p2, p6, pr, hd2, hcc, LinA.colsA_vec (by omega) vFn, by omega, by rw [LinA.colsA_len]; omega, fun H3 d3 fs B3 cr => ?_⟩
    obtain ⟨s3, nd3, hd3, hB3, fr3, lB3, FF, tt, bas3, ker3⟩ := cr
    have s13 := same_trans s12 s3
    have vB3 : ∀ r ∈ B3, Vc ((natD du : Nat) : Int) F'.length r := bas3.vec
    have kB3 : ∀ r ∈ B3, Ker (natD du) F'.length (colsA F' (wide F')) r := fun r mr => (ker3 r).mp ((bas3.same r).mp (LinA.inS_mem bas3.vec mr))
    refine ⟨d3, rfl, ⟨_, SqL.of hd3⟩, ?_⟩
    refine for_list (xs := fs.map V.ref) (fun k σ H' => (∃ w1 w2 w3, σ = [some u, some (.ref a), some (.ref b), some (.ref c), some (.int ((wide F' : Nat) : Int)), some (.int ((wide S : Nat) : Int)), w1, w2, w3]) ∧ Same H3 H' ∧ ∀ r ∈ B3.take k, ∀ c, c < wide S → dotA r (colA W c) % ((natD du : Nat) : Int) = 0)
      ⟨⟨_, _, _, rfl⟩, same_rfl, fun r m => (by rw [List.take_zero] at m; cases m)⟩ (fun k σ H' _ z => SqL.of (z.2.1 _ _ hd3)) ?_ ?_
    · rintro k z σ H4 hz ⟨⟨w1, w2, w3, rfl⟩, s4, acc⟩
      obtain ⟨q, r, rfl, hq, mr, hk, _⟩ := rws_at hB3 hz
      have s14 := same_trans s13 s4
      have hW4 := rws_up hW s14
      refine ⟨_, rfl, _, rfl, _, rfl, _, rfl, ((natD du : Nat) : Int), c, q, wide S, cs, W, r, by rw [eu, en]; rfl, by omega, by omega, s14 _ _ hc, hW4, vWn, s4 _ _ hq, by rw [lW]; exact vB3 r mr, by omega, by omega, fun H5 d5 s5 nd5 hd5 => ?_⟩
      refine ⟨d5, _, rfl, SqL.of hd5, _, rfl, ?_⟩
      have s15 := same_trans s14 s5
      cases ea : (addZ ((natD du : Nat) : Int) W r (wide S)).any fun n => decide (n ≠ 0) with
      | true =>
        refine iteT ⟨_, rfl, by show 2 ≤ sizeLine; decide, fun t ht => ?_⟩
        have t5 := same_new (o := .tup [V.str "first", V.ref q]) ht
        refine fin _ (.ref t) (same_trans s15 t5) (.inr (.inl ⟨t, q, r, rfl, s15.free ht, upd_same, ?_, t5 _ _ (s5 _ _ (s4 _ _ hq)), kB3 r mr, any_add.mp ea⟩))
        exact s12.free (fr3 q (by
          obtain ⟨i, hi, e⟩ := List.mem_iff_getElem.mp (List.mem_of_getElem? hz)
          rw [List.getElem_map] at e
          have e2 : fs[i]'(by rw [List.length_map] at hi; exact hi) = q := V.ref.inj e
          rw [← e2]
          exact List.getElem_mem _))
      | false =>
        refine iteF ⟨⟨_, _, _, rfl⟩, same_trans s4 s5, fun r' m => ?_⟩
        rw [List.take_succ, hk] at m
        rcases List.mem_append.mp m with q | q
        · exact acc r' q
        · rw [List.mem_singleton.mp q]
          intro c hc
          refine Classical.byContradiction fun no => ?_
          have z := any_add.mpr ⟨c, hc, no⟩
          rw [ea] at z
          cases z
    · rintro σ H4 ⟨⟨w1, w2, w3, rfl⟩, s4, acc⟩
      have s14 := same_trans s13 s4
      rw [List.take_of_length_le (by rw [List.length_map, hB3.len]; exact Nat.le_refl _)] at acc
      have hL : LCond (natD du) (wide F') (wide S) F' W := LinA.left_basis (B := B3) (T := FF) p2 vWn lW (fun xs => (bas3.same xs).trans (ker3 xs)) bas3.vec acc
      -- the right side
      refine ⟨_, rfl, _, rfl, _, rfl, natD du, b, wide S, bs, S, by rw [eu, en]; rfl, p2, p6, pr, s14 _ _ hb, rws_up hS s14, vSn, by omega, by omega, fun H5 d5 gs B5 cr => ?_⟩
      obtain ⟨s5, nd5, hd5, hB5, fr5, lB5, FF5, tt5, bas5, ker5⟩ := cr
      have s15 := same_trans s14 s5
      have vB5 : ∀ r ∈ B5, Vc ((natD du : Nat) : Int) (wide S) r := bas5.vec
      have kB5 : ∀ r ∈ B5, Ker (natD du) (wide S) S r := fun r mr => (ker5 r).mp ((bas5.same r).mp (LinA.inS_mem bas5.vec mr))
      refine ⟨d5, rfl, ⟨_, SqL.of hd5⟩, ?_⟩
      refine for_list (xs := gs.map V.ref) (fun k σ H' => (∃ w1 w2 w3, σ = [some u, some (.ref a), some (.ref b), some (.ref c), some (.int ((wide F' : Nat) : Int)), some (.int ((wide S : Nat) : Int)), w1, w2, w3]) ∧ Same H5 H' ∧ ∀ r ∈ B5.take k, ∀ w ∈ W, dotA w r % ((natD du : Nat) : Int) = 0)
        ⟨⟨_, _, _, rfl⟩, same_rfl, fun r m => (by rw [List.take_zero] at m; cases m)⟩ (fun k σ H' _ z => SqL.of (z.2.1 _ _ hd5)) ?_ ?_
      · rintro k z σ H6 hz ⟨⟨w1, w2, w3, rfl⟩, s6, acc5⟩
        obtain ⟨q, r, rfl, hq, mr, hk, hg⟩ := rws_at hB5 hz
        have s16 := same_trans s15 s6
        have hq6 := s6 _ _ hq
        refine ⟨_, rfl, c, rfl, ⟨_, SqL.of (s16 _ _ hc)⟩, ?_⟩
        intro D hD
        refine lc_list (GrowI H6 D (W.map fun w => dotZ w r % ((natD du : Nat) : Int))) (GrowI.start hD) (fun i H' _ z => SqL.of (z.1 _ _ (s16 _ _ hc))) ?_ ?_
        · rintro i z H7 hz7 g
          obtain ⟨q7, w7, rfl, hq7, mw7, hk7, _⟩ := rws_at hW hz7
          have s17 := same_trans s16 g.1
          have kl := (List.getElem?_eq_some_iff.mp hk7).1
          refine ⟨rfl, tyes ?_⟩
          refine ⟨_, rfl, _, rfl, _, rfl, ((natD du : Nat) : Int), q7, q, w7, r, wide S, by rw [eu, en]; rfl, by omega, by omega, s17 _ _ hq7, g.1 _ _ hq6, vWn w7 mw7, vB5 r mr, by omega, fun H8 s8 => ?_⟩
          obtain ⟨acc, k1, k2, k3⟩ := g.step (x := dotZ w7 r % ((natD du : Nat) : Int)) hD s8 (by rw [List.getElem?_map, hk7]; rfl)
          exact ⟨acc, k1, size_ok (by omega), k3⟩
        · intro H7 g
          obtain ⟨s7, hD7⟩ := g.done (by rw [List.length_map, List.length_map, hW.len]; exact Nat.le_refl _)
          have s17 := same_trans s16 s7
          refine ⟨D, _, rfl, SqL.of hD7, _, rfl, ?_⟩
          cases ea : (W.map fun w => dotZ w r % ((natD du : Nat) : Int)).any fun n => decide (n ≠ 0) with
          | true =>
            refine iteT ⟨_, rfl, by show 2 ≤ sizeLine; decide, fun t ht => ?_⟩
            have t5 := same_new (o := .tup [V.str "second", V.ref q]) ht
            exact fin _ (.ref t) (same_trans s17 t5) (.inr (.inr ⟨t, q, r, rfl, s17.free ht, upd_same, s14.free (fr5 q (List.mem_of_getElem? hg)), t5 _ _ (s7 _ _ hq6), kB5 r mr, any_dot.mp ea⟩))
          | false =>
            refine iteF ⟨⟨_, _, _, rfl⟩, same_trans s6 s7, fun r' m => ?_⟩
            rw [List.take_succ, hk] at m
            rcases List.mem_append.mp m with q | q
            · exact acc5 r' q
            · rw [List.mem_singleton.mp q]
              intro w hw
              refine Classical.byContradiction fun no => ?_
              have z := any_dot.mpr ⟨w, hw, no⟩
              rw [ea] at z
              cases z
      · rintro σ H6 ⟨⟨w1, w2, w3, rfl⟩, s6, acc5⟩
        rw [List.take_of_length_le (by rw [List.length_map, hB5.len]; exact Nat.le_refl _)] at acc5
        have hR : RCond (natD du) (wide S) S W := LinA.right_basis (B := B5) p2 vWn (fun xs => (bas5.same xs).trans (ker5 xs)) bas5.vec acc5
        exact fin H6 .non (same_trans s15 s6) (.inl ⟨rfl, hL, hR⟩)
end
end Vb
end L2

set_option Elab.async false
set_option linter.all false
set_option maxRecDepth 100000
set_option maxHeartbeats 4000000
/-! Vb, part 52: is_between; is_barred_between of what is no tuple. -/
namespace L2
namespace Vb
open PySem PySem.Spec PyProof.Rows
abbrev sIsBet : Stmt := topS 47
abbrev sIsBarB : Stmt := topS 49
theorem boot_tuple : bootBuiltins ("tuple" : Str) = some (.type "tuple") := by decide +kernel
theorem rel_tuple : RelV (.ty "tuple") (.type "tuple") := rfl
def matN : PyData → List (List Int)
  | .list ds => ds.map numsD
  | _ => []
theorem matN_mat (T : List (List Int)) : matN (matP T) = T := by
  show (T.map rowP).map numsD = T
  rw [List.map_map]
  have e : (numsD ∘ rowP) = id := by
    funext xs
    exact nums_row xs
  rw [e, List.map_id]
/-- the first ones, led over the middle ones and the second ones -/
def comesZ (p : Int) (F S M : List (List Int)) : List (List Int) := F.map fun r => addZ p S (addZ p M r S.length) (wide S)
def isBet (p : Int) (F S W : List (List Int)) (d : PyData) : Bool := vecsOfD p (wide F) S.length d && decide (comesZ p F S (matN d) = W)
section
variable {P : Program} {w : World} {K : PySem.W.Frag} {mg : Str → Option Value} {base : Heap}
/-- a judge of between -/
def spBJ (J : Int → List (List Int) → List (List Int) → List (List Int) → PyData → Bool) (C : PyData → Prop) (CP CN CV : Addr) : Sp := fun vs H Q E => ∃ (u v y x t : V) (du dv dy dx dt : PyData) (n : Nat), vs = [u, v, y, x, t] ∧ Sho n H u du ∧ Sho n H v dv ∧ Sho n H y dy ∧ Sho n H x dx ∧ Sho n H t dt ∧ okP du = true ∧ goodD du ∧ Sm2 dv ∧ Sm2 dy ∧ Sm2 dx ∧ Sm2 dt ∧ (verB du dv dy dx = none → C dt) ∧
  Told CP CN CV H [u, v, y, x] E (∀ (F S W : List (List Int)), dv = matP F → dy = matP S → dx = matP W → ∀ H', Same H H' → Q (.bl (J (intD du) F S W dt)) H') (verB du dv dy dx)
abbrev nIsBet : List Str := ["prime", "first", "second", "wanted", "value", "middle", "vector"]
theorem scIsBet : FnScope nIsBet ["prime", "first", "second", "wanted", "value"] (defScope sIsBet) := ⟨rfl, rfl, rfl, by decide +kernel, rfl, by decide +kernel, by decide +kernel⟩
theorem ok_isBet {CP CN CV f fQ fW fA : Addr} {fd fdQ fdW fdA : FuncData} (F : Fun K "is_between" "is_between" sIsBet f fd)
    (FQ : Fun K "require_between" "require_between" sReqB fQ fdQ) (GQ : FnOk P w K mg base (L2.CX P w) 6 fQ fdQ ["prime", "first", "second", "wanted"] (spReqBX CP CN CV)) (gQ : mg "require_between" = some (.ref fQ))
    (FW : Fun K "is_vectors_of" "is_vectors_of" sVectorsOf fW fdW) (GW : FnOk P w K mg base CX0 5 fW fdW ["prime", "value", "many", "length"] spVecsOfD) (gW : mg "is_vectors_of" = some (.ref fW))
    (FA : Fun K "added_up" "added_up" sAdd fA fdA) (GA : FnOk P w K mg base CX0 2 fA fdA ["prime", "vectors", "factors", "length"] spAdd) (gA : mg "added_up" = some (.ref fA)) (gN : mg "len" = none) :
    FnOk P w K mg base (L2.CX P w) 7 f fd ["prime", "first", "second", "wanted", "value"] (spBJ isBet (fun _ => True) CP CN CV) := by
  have bQ : Binds K fdQ ["prime", "first", "second", "wanted"] [] := FQ.binds fun _ _ _ _ _ _ us hl => match us, hl with | [_, _, _, _], _ => rfl
  have bW : Binds K fdW ["prime", "value", "many", "length"] [] := FW.binds fun _ _ _ _ _ _ us hl => match us, hl with | [_, _, _, _], _ => rfl
  have bA : Binds K fdA ["prime", "vectors", "factors", "length"] [] := FA.binds fun _ _ _ _ _ _ us hl => match us, hl with | [_, _, _, _], _ => rfl
  refine F.okX scIsBet (fun vs H Q E h => ?_) (fun cdv A outer s0 H vs Q E hr h => ?_)
  · obtain ⟨u, v, y, x, t, du, dv, dy, dx, dt, n, rfl, _⟩ := h
    rfl
  · obtain ⟨u, v, y, x, t, du, dv, dy, dx, dt, n, rfl, su, sv, sy, sx, st, ok, gd, z1, z2, z3, zt, _, told⟩ := h
    refine ⟨_, pss_cons (ps_expr (pe_call GQ hr rfl gQ FQ.kp bQ .nil (passes_call (E := E) (takes_of rfl rfl rfl rfl) fun _ _ _ _ h => h) (pa_cons (pv 0) (pa_cons (pv 1) (pa_cons (pv 2) (pa_cons (pv 3) pa_nil))))))
      (pss_cons (ps_if (pt_not (pt_val (pe_call GW (hr.mono (by decide)) rfl gW FW.kp bW .nil pass0 (pa_cons (pv 0) (pa_cons (pv 4) (pa_cons (pe_callB call_len_seq (by rfl) gN PySem.boot_len (pa_cons (pe_ix ix_list (pv 1) pe_int (fun _ _ => rfl)) pa_nil)) (pa_cons (pe_callB call_len_seq (by rfl) gN PySem.boot_len (pa_cons (pv 2) pa_nil)) pa_nil))))))) (pss_one (ps_ret pe_bl)) pss_nil)
      (pss_cons (ps_setLc (i := 5) (own := [("vector", 6)]) (g := gName 6) (tt := tYes) (te := tCall spAdd [] E0 (tCons (tVar 0) (tCons (tVar 4) (tCons (tVar 6) (tCons (tCB (rLenQ K) (tCons (tVar 2) tNil)) tNil))))) rfl scIsBet.nd rfl rfl (sw_true rfl rfl rfl (by decide +kernel)) (pi_list (pv 1)) (blkOk_by (N := nIsBet) (sc := defScope sIsBet) (by decide +kernel))
          (fun _ _ _ _ _ => pg_name (i := 6) scIsBet.nd rfl (Or.inl rfl)) (fun _ _ _ _ _ => pts_nil) (fun _ _ _ _ _ => pe_call GA (hr.mono (by decide)) rfl gA FA.kp bA .nil pass0 (pa_cons (pv 0) (pa_cons (pv 4) (pa_cons (pv 6) (pa_cons (pe_callB call_len_seq (by rfl) gN PySem.boot_len (pa_cons (pv 2) pa_nil)) pa_nil))))))
      (pss_one (ps_ret (pe_cmpR (op_eqD hr.units) (pe_lc (own := [("vector", 6)]) (g := gName 6) (tt := tYes) (te := tCall spAdd [] E0 (tCons (tVar 0) (tCons (tVar 2) (tCons (tVar 6) (tCons (tCB (rLenQ K) (tCons (tOp (rIxL K) (tVar 2) (tC (.int 0))) tNil)) tNil))))) rfl scIsBet.nd (pi_list (pv 5)) (blkOk_by (N := nIsBet) (sc := defScope sIsBet) (by decide +kernel))
          (fun _ _ _ _ _ => pg_name (i := 6) scIsBet.nd rfl (Or.inl rfl)) (fun _ _ _ _ _ => pts_nil) (fun _ _ _ _ _ => pe_call GA (hr.mono (by decide)) rfl gA FA.kp bA .nil pass0 (pa_cons (pv 0) (pa_cons (pv 2) (pa_cons (pv 6) (pa_cons (pe_callB call_len_seq (by rfl) gN PySem.boot_len (pa_cons (pe_ix ix_list (pv 2) pe_int (fun _ _ => rfl)) pa_nil)) pa_nil)))))) (pv 3) (nomark _)))))), ?_⟩
    refine ⟨_, rfl, _, rfl, _, rfl, _, rfl, u, v, y, x, du, dv, dy, dx, n, rfl, su, sv, sy, sx, ok, z1, z2, z3, told_up told fun e want H1 s1 => ?_⟩
    obtain ⟨ep, eu, a, b, c, as, bs, cs, F', S, W, B⟩ := betw_of su sv sy sx e
    obtain ⟨rfl, rfl, rfl, ha, hb, hc, hF, hS, hW, rfl, rfl, rfl, vF, vS, vW, nF, nS, lW⟩ := B
    obtain ⟨_, p2, p6⟩ := primD_int ep
    have fin := want F' S W rfl rfl rfl
    obtain ⟨zF, _⟩ := sm_mat z1
    obtain ⟨zS, _⟩ := sm_mat z2
    have wF := sm_wide z1
    have wS := sm_wide z2
    obtain ⟨b0, x0, g0, hb0, l0⟩ := wide_at hF nF
    have hb0' : H1 b0 = some (.lst (x0.map V.int)) := s1 _ _ hb0
    have lS := hS.len
    refine ⟨_, rfl, _, rfl, _, rfl, a, _, 0, _, rfl, rfl, SqL.of (s1 _ _ ha), atI_nat (j := 0) g0, b0, _, rfl, .inl (SqL.of hb0'), _, rfl, b, _, rfl, .inl (SqL.of (s1 _ _ hb)), ?_⟩
    refine ⟨intD du, t, dt, n, wide F', S.length, by rw [eu, List.length_map, l0, List.length_map, lS]; rfl, st.up s1, zt, fun H2 s2 => ⟨_, rfl, ?_⟩⟩
    have s12 := same_trans s1 s2
    cases ew : vecsOfD (intD du) (wide F') S.length dt with
    | false =>
      have z : isBet (intD du) F' S W dt = false := by
        unfold isBet
        rw [ew]
        rfl
      have q := fin H2 s12
      rw [z] at q
      exact iteT q
    | true =>
      obtain ⟨g, gs, M, rfl, hg, hM, rfl, lM, vM⟩ := vecsOf_of st ew
      obtain ⟨zM, _⟩ := sm_mat zt
      refine iteF ?_
      refine ⟨_, rfl, a, rfl, ⟨_, SqL.of (s12 _ _ ha)⟩, ?_⟩
      intro D hD
      have lmid : (F'.map fun r => addZ (intD du) M r S.length).length = F'.length := List.length_map ..
      refine lc_list (Grow H2 D (F'.map fun r => addZ (intD du) M r S.length)) (Grow.start hD) (fun i H' _ z => SqL.of (z.1 _ _ (s12 _ _ ha))) ?_ ?_
      · rintro k z H3 hz gr
        obtain ⟨q, r, rfl, hq, mr, hk, _⟩ := rws_at hF hz
        have s13 := same_trans s12 gr.1
        have kl := (List.getElem?_eq_some_iff.mp hk).1
        refine ⟨rfl, tyes ?_⟩
        refine ⟨_, rfl, _, rfl, _, rfl, _, rfl, b, _, rfl, .inl (SqL.of (s13 _ _ hb)), ?_⟩
        refine ⟨intD du, g, q, S.length, gs, M, r, by rw [eu, List.length_map, lS]; rfl, p2, p6, s13 _ _ hg, rws_up hM s13, vM, s13 _ _ hq, by rw [lM]; exact vF r mr, by omega, by omega, fun H4 d s4 nd hd => ?_⟩
        obtain ⟨acc, k1, k2, k3⟩ := gr.step hD s4 nd hd (by rw [List.getElem?_map, hk]; rfl)
        exact ⟨acc, k1, by rw [k2]; exact size_ok (by omega), k3⟩
      · intro H3 gr
        obtain ⟨s3, ms, hD3, hms, _, lms⟩ := gr.done (by rw [List.length_map, List.length_map, hF.len]; exact Nat.le_refl _)
        have s13 := same_trans s12 s3
        refine ⟨_, rfl, D, rfl, ⟨_, SqL.of hD3⟩, ?_⟩
        intro D4 hD4
        obtain ⟨b1, x1, g1, hb1, l1⟩ := wide_at hS nS
        have lc2 : ((F'.map fun r => addZ (intD du) M r S.length).map fun r => addZ (intD du) S r (wide S)) = comesZ (intD du) F' S M := by
          unfold comesZ
          rw [List.map_map]
          rfl
        refine lc_list (Grow H3 D4 (comesZ (intD du) F' S M)) (Grow.start hD4) (fun i H' _ z => SqL.of (z.1 _ _ hD3)) ?_ ?_
        · rintro k z H5 hz gr5
          obtain ⟨q, r, rfl, hq, mr, hk, _⟩ := rws_at hms hz
          have s15 := same_trans s13 gr5.1
          have kl := (List.getElem?_eq_some_iff.mp hk).1
          have hb1' : H5 b1 = some (.lst (x1.map V.int)) := s15 _ _ hb1
          have vr : Vc (intD du) S.length r := by
            obtain ⟨r0, _, rfl⟩ := List.mem_map.mp mr
            refine ⟨by unfold addZ; rw [List.length_map, List.length_range], fun x mx => ?_⟩
            unfold addZ at mx
            obtain ⟨c0, _, rfl⟩ := List.mem_map.mp mx
            exact ⟨Int.emod_nonneg _ (by omega), Int.emod_lt_of_pos _ (by omega)⟩
          refine ⟨rfl, tyes ?_⟩
          refine ⟨_, rfl, _, rfl, _, rfl, _, rfl, b, _, 0, _, rfl, rfl, SqL.of (s15 _ _ hb), atI_nat (j := 0) g1, b1, _, rfl, .inl (SqL.of hb1'), ?_⟩
          refine ⟨intD du, b, q, wide S, bs, S, r, by rw [eu, List.length_map, l1]; rfl, p2, p6, s15 _ _ hb, rws_up hS s15, vS, gr5.1 _ _ hq, vr, by omega, by omega, fun H6 d s6 nd hd => ?_⟩
          obtain ⟨acc, k1, k2, k3⟩ := gr5.step hD4 s6 nd hd (by rw [← lc2, List.getElem?_map, hk]; rfl)
          exact ⟨acc, k1, by rw [k2]; exact size_ok (by omega), k3⟩
        · intro H5 gr5
          have lcm : (comesZ (intD du) F' S M).length ≤ (ms.map V.ref).length := by
            unfold comesZ
            rw [List.length_map, List.length_map, lms, List.length_map]
            exact Nat.le_refl _
          obtain ⟨s5, ns, hD5, hns, _, _⟩ := gr5.done lcm
          have s15 := same_trans s13 s5
          refine ⟨_, rfl, ?_⟩
          refine eq_mat hD5 hns (s15 _ _ hc) (rws_up hW s15) ?_
          have q := fin H5 s15
          have z : isBet (intD du) F' S W (matP M) = decide (comesZ (intD du) F' S M = W) := by
            unfold isBet
            rw [ew, matN_mat]
            rfl
          rw [z] at q
          exact q
/-- is_barred_between of what is no tuple -/
theorem scIsBarB : FnScope ["prime", "first", "second", "wanted", "value", "side", "paper", "inner", "outer", "held", "vector"] ["prime", "first", "second", "wanted", "value"] (defScope sIsBarB) := ⟨rfl, rfl, rfl, by decide +kernel, rfl, by decide +kernel, by decide +kernel⟩
theorem ok_isBarB0 {CP CN CV f fQ : Addr} {fd fdQ : FuncData} (F : Fun K "is_barred_between" "is_barred_between" sIsBarB f fd)
    (FQ : Fun K "require_between" "require_between" sReqB fQ fdQ) (GQ : FnOk P w K mg base (L2.CX P w) 6 fQ fdQ ["prime", "first", "second", "wanted"] (spReqBX CP CN CV)) (gQ : mg "require_between" = some (.ref fQ)) (gT : mg "type" = none) (gU : mg "tuple" = none) (gN : mg "len" = none) :
    FnOk P w K mg base (L2.CX P w) 7 f fd ["prime", "first", "second", "wanted", "value"] (spBJ (fun _ _ _ _ _ => false) (fun d => tyD d ≠ "tuple") CP CN CV) := by
  have bQ : Binds K fdQ ["prime", "first", "second", "wanted"] [] := FQ.binds fun _ _ _ _ _ _ us hl => match us, hl with | [_, _, _, _], _ => rfl
  refine F.okX scIsBarB (fun vs H Q E h => ?_) (fun cdv A outer s0 H vs Q E hr h => ?_)
  · obtain ⟨u, v, y, x, t, du, dv, dy, dx, dt, n, rfl, _⟩ := h
    rfl
  · obtain ⟨u, v, y, x, t, du, dv, dy, dx, dt, n, rfl, su, sv, sy, sx, st, ok, gd, z1, z2, z3, zt, cd, told⟩ := h
    refine ⟨_, pss_cons (ps_expr (pe_call GQ hr rfl gQ FQ.kp bQ .nil (passes_call (E := E) (takes_of rfl rfl rfl rfl) fun _ _ _ _ h => h) (pa_cons (pv 0) (pa_cons (pv 1) (pa_cons (pv 2) (pa_cons (pv 3) pa_nil))))))
      (pss_cons (ps_if (PW.pt (pw_or (pt_cmpR op_isNotTy (pe_typeD rfl gT (pv 4)) (pe_bltn rfl gU boot_tuple rel_tuple) (nomark _)) (pw_or1 (pt_cmpR op_ne (pe_callB call_len_seq (by rfl) gN PySem.boot_len (pa_cons (pv 4) pa_nil)) pe_int (nomark _))))) (pss_one (ps_ret pe_bl)) pss_nil)
      pss_never), ?_⟩
    refine ⟨_, rfl, _, rfl, _, rfl, _, rfl, u, v, y, x, du, dv, dy, dx, n, rfl, su, sv, sy, sx, ok, z1, z2, z3, told_up told fun e want H1 s1 => ?_⟩
    obtain ⟨ep, eu, a, b, c, as, bs, cs, F', S, W, B⟩ := betw_of su sv sy sx e
    obtain ⟨rfl, rfl, rfl, ha, hb, hc, hF, hS, hW, rfl, rfl, rfl, vF, vS, vW, nF, nS, lW⟩ := B
    refine ⟨_, rfl, _, (st.up s1).ty, _, _, rfl, rfl, _, rfl, ?_⟩
    rw [decide_eq_false (cd e)]
    exact iteT (want F' S W rfl rfl rfl H1 s1)
end
end Vb
end L2

set_option Elab.async false
set_option linter.all false
set_option maxRecDepth 100000
set_option maxHeartbeats 4000000
/-! Vb, part 60: the doors inverse, combined, reduced, rank with their errors. -/
namespace L2
namespace Vb
open PySem PySem.Spec PyProof.Rows
def verI (du dn : PyData) : Option (Nat × Nat) := if primD du = false then some (0, 0) else if facD (intD du) dn = false then some (1, 1) else none
def verV (du dv : PyData) : Option (Nat × Nat) := if primD du = false then some (0, 0) else if vecsD (intD du) dv = false then some (2, 1) else none
def verC (du dv df : PyData) : Option (Nat × Nat) := if primD du = false then some (0, 0) else if someD (intD du) dv = false then some (2, 1) else if vecOfD (intD du) (lenD dv) df = false then some (2, 2) else none
theorem facD_int {p : Int} {d : PyData} (h : facD p d = true) : d = .int (intD d) ∧ 0 < intD d ∧ intD d < p := by
  cases d with
  | int i =>
    obtain ⟨h1, h2⟩ := He.ba (show ((decide (0 ≤ i) && decide (i < p)) && decide (0 < i)) = true from h)
    obtain ⟨a, b⟩ := He.ba h1
    exact ⟨rfl, of_decide_eq_true h2, of_decide_eq_true b⟩
  | _ => cases h
section
variable {P : Program} {w : World} {K : PySem.W.Frag} {mg : Str → Option Value} {base : Heap}
def spInvX (CP CN CV : Addr) : Sp := fun vs H Q E => ∃ (u v : V) (du dv : PyData) (n : Nat), vs = [u, v] ∧ Sho n H u du ∧ Sho n H v dv ∧ okP du = true ∧ goodD du ∧
  Told CP CN CV H [u, v] E (∀ H', Same H H' → Q (.int ((((intD dv).toNat ^ (natD du - 2) % natD du : Nat)) : Int)) H') (verI du dv)
theorem ok_invX {CP CN CV f fP fF fI : Addr} {fd fdP fdF fdI : FuncData} (BN : Bad P w K mg base "InvalidNumber" CN) (F : Fun K "inverse" "inverse" sInv f fd)
    (FP : Fun K "require_prime" "require_prime" sReqP fP fdP) (GP : FnOk P w K mg base (L2.CX P w) 3 fP fdP ["prime"] (spReqPX CP)) (gP : mg "require_prime" = some (.ref fP))
    (FF : Fun K "is_factor" "is_factor" sFactor fF fdF) (GF : FnOk P w K mg base CX0 3 fF fdF ["prime", "value"] spFacD) (gF : mg "is_factor" = some (.ref fF))
    (FI : Fun K "inverse_of" "inverse_of" sInvOf fI fdI) (GI : FnOk P w K mg base CX0 1 fI fdI ["prime", "number"] spInvOf) (gI : mg "inverse_of" = some (.ref fI)) :
    FnOk P w K mg base (L2.CX P w) 4 f fd ["prime", "number"] (spInvX CP CN CV) := by
  have bP : Binds K fdP ["prime"] [] := FP.binds fun _ _ _ _ _ _ us hl => match us, hl with | [_], _ => rfl
  have bF : Binds K fdF ["prime", "value"] [] := FF.binds fun _ _ _ _ _ _ us hl => match us, hl with | [_, _], _ => rfl
  have bI : Binds K fdI ["prime", "number"] [] := FI.binds fun _ _ _ _ _ _ us hl => match us, hl with | [_, _], _ => rfl
  refine F.okX scInv (fun vs H Q E h => ?_) (fun cdv A outer s0 H vs Q E hr h => ?_)
  · obtain ⟨u, v, du, dv, n, rfl, _⟩ := h
    rfl
  · obtain ⟨u, v, du, dv, n, rfl, su, sv, ok, gd, told⟩ := h
    refine ⟨_, pss_cons (ps_expr (pe_call GP hr rfl gP FP.kp bP .nil (passes_call (E := E) (takes_of rfl rfl rfl rfl) fun _ _ _ _ h => h) (pa_cons (pv 0) pa_nil)))
      (pss_cons (ps_if (pt_not (pt_val (pe_call GF hr rfl gF FF.kp bF .nil pass0 (pa_cons (pv 0) (pa_cons (pv 1) pa_nil))))) (pss_one (ps_raiseN rfl BN (hr.mono (by decide)) (takes_of rfl rfl rfl rfl) rfl (pv 1))) pss_nil)
      (pss_one (ps_ret (pe_call GI (hr.mono (by decide)) rfl gI FI.kp bI .nil pass0 (pa_cons (pv 0) (pa_cons (pv 1) pa_nil)))))), ?_⟩
    unfold verI at told
    refine ⟨_, rfl, u, du, n, rfl, su, ok, fun ep H1 s1 => ?_, fun ep => ?_⟩
    · rw [if_neg (by rw [ep]; exact Bool.noConfusion)] at told
      obtain rfl := sho_prim su ep
      obtain ⟨p2, p6, pr⟩ := good_of ep gd
      have en := nat_of ep
      refine ⟨_, rfl, _, rfl, intD du, v, dv, n, rfl, sv.up s1, _, rfl, ?_⟩
      cases ef : facD (intD du) dv with
      | false =>
        rw [if_pos ef] at told
        refine iteT ⟨_, rfl, fun dd H4 s4 nd hd => ?_⟩
        exact (Err.up (show Err H CN v E from told) s1) dd H4 s4 nd hd
      | true =>
        rw [if_neg (by rw [ef]; exact Bool.noConfusion)] at told
        refine iteF ?_
        obtain ⟨e1, e2, e3⟩ := facD_int ef
        rw [e1] at sv
        obtain rfl := sv.ofInt
        have e4 : ((intD dv).toNat : Int) = intD dv := Int.toNat_of_nonneg (by omega)
        exact ⟨_, rfl, _, rfl, natD du, (intD dv).toNat, by rw [en, e4]; rfl, p2, p6, pr, by omega, by omega, fun H2 s2 => told H2 (same_trans s1 s2)⟩
    · rw [if_pos ep] at told
      exact told
def spCombX (CP CN CV : Addr) : Sp := fun vs H Q E => ∃ (u v x : V) (du dv dx : PyData) (n : Nat), vs = [u, v, x] ∧ Sho n H u du ∧ Sho n H v dv ∧ Sho n H x dx ∧ okP du = true ∧ goodD du ∧ Sm2 dv ∧ Sm1 dx ∧
  Told CP CN CV H [u, v, x] E (∀ (T : List (List Int)) (fs : List Int), dv = matP T → dx = rowP fs → Vc (intD du) T.length fs → ∀ (H' : Hp) (d : Addr), Same H H' → H d = none → Rw H' d (addZ (intD du) T fs (T.getD 0 []).length) → Q (.ref d) H') (verC du dv dx)
theorem ok_combX {CP CN CV f fP fS fO fA : Addr} {fd fdP fdS fdO fdA : FuncData} (BV : Bad P w K mg base "InvalidVectors" CV) (F : Fun K "combined" "combined" sComb f fd)
    (FP : Fun K "require_prime" "require_prime" sReqP fP fdP) (GP : FnOk P w K mg base (L2.CX P w) 3 fP fdP ["prime"] (spReqPX CP)) (gP : mg "require_prime" = some (.ref fP))
    (FS : Fun K "require_some_vectors" "require_some_vectors" sReqS fS fdS) (GS : FnOk P w K mg base (L2.CX P w) 5 fS fdS ["prime", "vectors"] (spReqSX CV)) (gS : mg "require_some_vectors" = some (.ref fS))
    (FO : Fun K "is_vector_of" "is_vector_of" sVectorOf fO fdO) (GO : FnOk P w K mg base CX0 4 fO fdO ["prime", "value", "length"] spVecOfD) (gO : mg "is_vector_of" = some (.ref fO))
    (FA : Fun K "added_up" "added_up" sAdd fA fdA) (GA : FnOk P w K mg base CX0 1 fA fdA ["prime", "vectors", "factors", "length"] spAdd) (gA : mg "added_up" = some (.ref fA)) (gN : mg "len" = none) :
    FnOk P w K mg base (L2.CX P w) 6 f fd ["prime", "vectors", "factors"] (spCombX CP CN CV) := by
  have bP : Binds K fdP ["prime"] [] := FP.binds fun _ _ _ _ _ _ us hl => match us, hl with | [_], _ => rfl
  have bS : Binds K fdS ["prime", "vectors"] [] := FS.binds fun _ _ _ _ _ _ us hl => match us, hl with | [_, _], _ => rfl
  have bO : Binds K fdO ["prime", "value", "length"] [] := FO.binds fun _ _ _ _ _ _ us hl => match us, hl with | [_, _, _], _ => rfl
  have bA : Binds K fdA ["prime", "vectors", "factors", "length"] [] := FA.binds fun _ _ _ _ _ _ us hl => match us, hl with | [_, _, _, _], _ => rfl
  refine F.okX scComb (fun vs H Q E h => ?_) (fun cdv A outer s0 H vs Q E hr h => ?_)
  · obtain ⟨u, v, x, du, dv, dx, n, rfl, _⟩ := h
    rfl
  · obtain ⟨u, v, x, du, dv, dx, n, rfl, su, sv, sx, ok, gd, z2, z1, told⟩ := h
    refine ⟨_, pss_cons (ps_expr (pe_call GP (hr.mono (by decide)) rfl gP FP.kp bP .nil (passes_call (E := E) (takes_of rfl rfl rfl rfl) fun _ _ _ _ h => h) (pa_cons (pv 0) pa_nil)))
      (pss_cons (ps_expr (pe_call GS hr rfl gS FS.kp bS .nil (passes_call (E := E) (takes_of rfl rfl rfl rfl) fun _ _ _ _ h => h) (pa_cons (pv 0) (pa_cons (pv 1) pa_nil))))
      (pss_cons (ps_if (pt_not (pt_val (pe_call GO (hr.mono (by decide)) rfl gO FO.kp bO .nil pass0 (pa_cons (pv 0) (pa_cons (pv 2) (pa_cons (pe_callB call_len_seq (by rfl) gN PySem.boot_len (pa_cons (pv 1) pa_nil)) pa_nil)))))) (pss_one (ps_raiseN rfl BV (hr.mono (by decide)) (takes_of rfl rfl rfl rfl) rfl (pv 2))) pss_nil)
      (pss_one (ps_ret (pe_call GA (hr.mono (by decide)) rfl gA FA.kp bA .nil pass0 (pa_cons (pv 0) (pa_cons (pv 1) (pa_cons (pv 2) (pa_cons (pe_callB call_len_seq (by rfl) gN PySem.boot_len (pa_cons (pe_ix ix_list (pv 1) pe_int (fun _ _ => rfl)) pa_nil)) pa_nil)))))))) ), ?_⟩
    unfold verC at told
    refine ⟨_, rfl, u, du, n, rfl, su, ok, fun ep H1 s1 => ?_, fun ep => ?_⟩
    · rw [if_neg (by rw [ep]; exact Bool.noConfusion)] at told
      obtain rfl := sho_prim su ep
      obtain ⟨p2, p6, pr⟩ := good_of ep gd
      have en := nat_of ep
      refine ⟨_, rfl, _, rfl, intD du, v, dv, n, rfl, sv.up s1, z2, fun ev H2 s2 => ?_, fun ev => ?_⟩
      · rw [if_neg (by rw [ev]; exact Bool.noConfusion)] at told
        have s12 := same_trans s1 s2
        obtain ⟨ev1, ev2⟩ := He.ba ev
        obtain ⟨m, as, T, rfl, hm, hT, rfl, hv⟩ := vecs_of sv ev1
        obtain ⟨zT, zr⟩ := sm_mat z2
        have lT := hT.len
        refine ⟨_, rfl, _, rfl, _, rfl, m, _, rfl, .inl (SqL.of (s12 _ _ hm)), intD du, x, dx, n, T.length, by rw [List.length_map, lT]; rfl, sx.up s12, z1, fun H3 s3 => ⟨_, rfl, ?_⟩⟩
        have s13 := same_trans s12 s3
        rw [len_mat] at told
        cases ew : vecOfD (intD du) T.length dx with
        | false =>
          rw [if_pos ew] at told
          refine iteT ⟨_, rfl, fun dd H4 s4 nd hd => ?_⟩
          exact (Err.up (show Err H CV x E from told) s13) dd H4 s4 nd hd
        | true =>
          rw [if_neg (by rw [ew]; exact Bool.noConfusion)] at told
          refine iteF ?_
          obtain ⟨b, fs, rfl, hb, rfl, hf⟩ := vecOf_of sx ew
          have n0 : T ≠ [] := fun e => by
            rw [e] at ev2
            exact absurd rfl (of_decide_eq_true ev2)
          obtain ⟨b0, x0, e0, hb0, l0⟩ := wide_at hT n0
          have hb0' : H3 b0 = some (.lst (x0.map V.int)) := s13 _ _ hb0
          have L9 := sm_wide z2
          refine ⟨_, rfl, _, rfl, _, rfl, _, rfl, m, _, 0, _, rfl, rfl, SqL.of (s13 _ _ hm), atI_nat (j := 0) e0, b0, _, rfl, .inl (SqL.of hb0'), intD du, m, b, wide T, as, T, fs, by rw [List.length_map, l0]; rfl, by omega, by omega, s13 _ _ hm, rws_up hT s13, hv, s13 _ _ hb, hf, by omega, by omega, fun H4 d s4 nd hd => ?_⟩
          exact told T fs rfl rfl hf H4 d (same_trans s13 s4) (s13.free nd) hd
      · rw [if_pos ev] at told
        exact Err.up (show Err H CV v E from told) s1
    · rw [if_pos ep] at told
      exact told
def spRedX (CP CN CV : Addr) : Sp := fun vs H Q E => ∃ (u v : V) (du dv : PyData) (n : Nat), vs = [u, v] ∧ Sho n H u du ∧ Sho n H v dv ∧ okP du = true ∧ goodD du ∧ Sm2 dv ∧
  Told CP CN CV H [u, v] E (∀ (T : List (List Int)), dv = matP T → (∀ r ∈ T, Vc (intD du) (T.getD 0 []).length r) → ∀ (H' : Hp) (d : Addr) (bs : List Addr) (B : List (List Int)) (t : List Nat), Reds H (natD du) (T.getD 0 []).length T H' d bs B t → Q (.ref d) H') (verV du dv)
theorem ok_redX {CP CN CV f fP fV fB : Addr} {fd fdP fdV fdB : FuncData} (F : Fun K "reduced" "reduced" sRed f fd)
    (FP : Fun K "require_prime" "require_prime" sReqP fP fdP) (GP : FnOk P w K mg base (L2.CX P w) 3 fP fdP ["prime"] (spReqPX CP)) (gP : mg "require_prime" = some (.ref fP))
    (FV : Fun K "require_vectors" "require_vectors" sReqV fV fdV) (GV : FnOk P w K mg base (L2.CX P w) 5 fV fdV ["prime", "vectors"] (spReqVX CV)) (gV : mg "require_vectors" = some (.ref fV))
    (FB : Fun K "basis_of" "basis_of" sBas fB fdB) (GB : FnOk P w K mg base CX0 4 fB fdB ["prime", "vectors"] spBas) (gB : mg "basis_of" = some (.ref fB)) :
    FnOk P w K mg base (L2.CX P w) 6 f fd ["prime", "vectors"] (spRedX CP CN CV) := by
  have bP : Binds K fdP ["prime"] [] := FP.binds fun _ _ _ _ _ _ us hl => match us, hl with | [_], _ => rfl
  have bV : Binds K fdV ["prime", "vectors"] [] := FV.binds fun _ _ _ _ _ _ us hl => match us, hl with | [_, _], _ => rfl
  have bB : Binds K fdB ["prime", "vectors"] [] := FB.binds fun _ _ _ _ _ _ us hl => match us, hl with | [_, _], _ => rfl
  refine F.okX scRed (fun vs H Q E h => ?_) (fun cdv A outer s0 H vs Q E hr h => ?_)
  · obtain ⟨u, v, du, dv, n, rfl, _⟩ := h
    rfl
  · obtain ⟨u, v, du, dv, n, rfl, su, sv, ok, gd, z2, told⟩ := h
    refine ⟨_, pss_cons (ps_expr (pe_call GP (hr.mono (by decide)) rfl gP FP.kp bP .nil (passes_call (E := E) (takes_of rfl rfl rfl rfl) fun _ _ _ _ h => h) (pa_cons (pv 0) pa_nil)))
      (pss_cons (ps_expr (pe_call GV hr rfl gV FV.kp bV .nil (passes_call (E := E) (takes_of rfl rfl rfl rfl) fun _ _ _ _ h => h) (pa_cons (pv 0) (pa_cons (pv 1) pa_nil))))
      (pss_one (ps_ret (pe_call GB (hr.mono (by decide)) rfl gB FB.kp bB .nil pass0 (pa_cons (pv 0) (pa_cons (pv 1) pa_nil)))))), ?_⟩
    unfold verV at told
    refine ⟨_, rfl, u, du, n, rfl, su, ok, fun ep H1 s1 => ?_, fun ep => ?_⟩
    · rw [if_neg (by rw [ep]; exact Bool.noConfusion)] at told
      obtain rfl := sho_prim su ep
      obtain ⟨p2, p6, pr⟩ := good_of ep gd
      have en := nat_of ep
      refine ⟨_, rfl, _, rfl, intD du, v, dv, n, rfl, sv.up s1, z2, fun ev H2 s2 => ?_, fun ev => ?_⟩
      · rw [if_neg (by rw [ev]; exact Bool.noConfusion)] at told
        have s12 := same_trans s1 s2
        obtain ⟨m, as, T, rfl, hm, hT, rfl, hv⟩ := vecs_of sv ev
        obtain ⟨zT, zr⟩ := sm_mat z2
        have L9 := sm_wide z2
        have eL : wide T = (T.getD 0 []).length := rfl
        refine ⟨_, rfl, _, rfl, natD du, m, (T.getD 0 []).length, as, T, by rw [en]; rfl, p2, p6, pr, s12 _ _ hm, rws_up hT s12, (by rw [en]; exact hv), by omega, by omega, fun H3 d bs B t r => ?_⟩
        obtain ⟨r1, r2, r3, r4, r5, r6, r7⟩ := r
        exact told T rfl hv H3 d bs B t ⟨same_trans s12 r1, s12.free r2, r3, r4, fun b mb => s12.free (r5 b mb), r6, r7⟩
      · rw [if_pos ev] at told
        exact Err.up (show Err H CV v E from told) s1
    · rw [if_pos ep] at told
      exact told
def spRankX (CP CN CV : Addr) : Sp := fun vs H Q E => ∃ (u v : V) (du dv : PyData) (n : Nat), vs = [u, v] ∧ Sho n H u du ∧ Sho n H v dv ∧ okP du = true ∧ goodD du ∧ Sm2 dv ∧
  Told CP CN CV H [u, v] E (∀ (T : List (List Int)), dv = matP T → (∀ r ∈ T, Vc (intD du) (T.getD 0 []).length r) → ∀ (H' : Hp) (B : List (List Int)) (t : List Nat), Same H H' → LinA.Bas (natD du) (T.getD 0 []).length T B t → Q (.int (B.length : Int)) H') (verV du dv)
theorem ok_rankX {CP CN CV f fR : Addr} {fd fdR : FuncData} (F : Fun K "rank" "rank" sRank f fd) (FR : Fun K "reduced" "reduced" sRed fR fdR) (GR : FnOk P w K mg base (L2.CX P w) 6 fR fdR ["prime", "vectors"] (spRedX CP CN CV)) (gR : mg "reduced" = some (.ref fR)) (gN : mg "len" = none) :
    FnOk P w K mg base (L2.CX P w) 7 f fd ["prime", "vectors"] (spRankX CP CN CV) := by
  have bR : Binds K fdR ["prime", "vectors"] [] := FR.binds fun _ _ _ _ _ _ us hl => match us, hl with | [_, _], _ => rfl
  refine F.okX scRank (fun vs H Q E h => ?_) (fun cdv A outer s0 H vs Q E hr h => ?_)
  · obtain ⟨u, v, du, dv, n, rfl, _⟩ := h
    rfl
  · obtain ⟨u, v, du, dv, n, rfl, su, sv, ok, gd, z2, told⟩ := h
    refine ⟨_, pss_one (ps_ret (pe_callB call_len_seq (by rfl) gN PySem.boot_len (pa_cons (pe_call GR hr rfl gR FR.kp bR .nil (passes_call (E := E) (takes_of rfl rfl rfl rfl) fun _ _ _ _ h => h) (pa_cons (pv 0) (pa_cons (pv 1) pa_nil))) pa_nil))), ?_⟩
    refine ⟨_, rfl, _, rfl, u, v, du, dv, n, rfl, su, sv, ok, gd, z2, told_up told fun e want T e1 hv H' d bs B t r => ?_⟩
    obtain ⟨r1, r2, r3, r4, r5, r6, r7⟩ := r
    refine ⟨d, _, rfl, .inl (SqL.of r3), ?_⟩
    rw [List.length_map, r4.len]
    exact want T e1 hv H' B t r1 r6
end
end Vb
end L2

set_option Elab.async false
set_option linter.all false
set_option maxRecDepth 100000
set_option maxHeartbeats 4000000
/-! Vb, part 61: a caught error that is kept behind its suite. -/
namespace L2
namespace Vb
open PySem PySem.Spec PyProof.Rows
/-- at a: an error that was raised, its class, its dict -/
def exk (a : Addr) (cls : Value) (d : Option Addr) : HO := .ext fun h => ∃ (oe : Obj) (vs : Array Value), h.get? a = some oe ∧ Zc cls d oe ∧ oe.data = .fields vs
theorem exk_ok {P : Program} {w : World} {H : Hp} {h : Heap} {a : Addr} {cls : Value} {d : Option Addr} {oe : Obj} {vs : Array Value} (e : h.get? a = some oe) (z : Zc cls d oe) (hd : oe.data = .fields vs) : ObjOk P w H h a (exk a cls d) :=
  ⟨⟨oe, vs, e, z, hd⟩, ⟨_, e⟩, fun h1 h2 q k => by
    obtain ⟨o, v, e, q⟩ := q
    exact ⟨o, v, k _ e, q⟩⟩
section
variable {X : Cx} {pins : List (Addr × Obj)} {σ : St} {H : Hp} {s : Shared}
/-- an object that is new since the def was entered, and not tracked, is tracked -/
theorem track {a : Addr} {o : HO} (I : Inv X pins σ H s) (na : H a = none) (h0 : X.s_0.heap.get? a = none) (nL : a ≠ X.env.locals) (nc : ∀ v, ¬ s.heap.IsCell a v) (np : ∀ p ∈ X.pn ++ pins, p.1 ≠ a) (new : ObjOk X.prog X.w (upd H a o) s.heap a o) : Inv X pins σ (upd H a o) s := by
  have ne0 : ∀ b u, X.s_0.heap.get? b = some u → b ≠ a := fun b u e z => by
    rw [z, h0] at e
    cases e
  have neH : ∀ b u, H b = some u → b ≠ a := fun b u e z => by
    rw [z, na] at e
    cases e
  have up : ∀ b u, H b = some u → upd H a o b = some u := fun b u e => by
    rw [upd_ne (neH b u e)]
    exact e
  refine ⟨I.ok, I.os, I.bare, ⟨I.base.keep, I.base.slot, fun b u e n hx => ?_, I.base.there, fun b xs e => up _ _ (I.base.tups b xs e), fun b ob u e => up _ _ (I.base.frzs b ob u e), fun b ps e => ?_⟩, I.loc, I.cell, ?_, fun x c e => ?_, fun p hp => ?_, fun b u e => ?_, I.len⟩
  · rw [upd_ne (ne0 b u e)]
    exact I.base.free b u e n hx
  · obtain ⟨m, q⟩ := I.base.tbls b ps e
    exact ⟨m, up _ _ q⟩
  · rw [upd_ne (Ne.symm nL)]
    exact I.free
  · have z : c ≠ a := fun z => by
      obtain ⟨v, q⟩ := I.cell x c e
      rw [z] at q
      exact nc v q
    rw [upd_ne z]
    exact I.freeC x c e
  · obtain ⟨e, n, r⟩ := I.pin p hp
    exact ⟨e, by rw [upd_ne (np p hp)]; exact n, r⟩
  · by_cases hb : b = a
    · subst hb
      rw [upd_same] at e
      cases e
      exact new
    · rw [upd_ne hb] at e
      exact (I.hok b u e).stay (fun _ _ _ q => q) (fun c q => up _ _ q) fun c xs q => up _ _ q
end
/-! a try whose only handler keeps the error: the body ends at its end, or raises what the clause takes; the suite ends at its end -/
/-- ends at the end alone -/
def endN (N : St → Hp → Prop) : Ends := { nx := N, rt := fun _ _ => False, bk := fun _ _ => False, ct := fun _ _ => False }
/-- what is wished of an error of the body: the clause takes it, and the suite, with it in slot i, comes to N, where it stands tracked -/
def wKeep (K : PySem.W.Frag) (c : Value) (i : Nat) (ts : Addr → Value → Option Addr → TS) (N : St → Hp → Prop) : WX := fun cls d σ H =>
  PySem.W.exmOne K cls c = some true ∧ ∀ e, H e = none → ts e cls d (endN fun σ2 H2 => N (σ2.set i none) (upd H2 e (exk e cls d))) (σ.set i (some (.ref e))) H
/-- an object with fields is no frame -/
theorem off_frames {B g : Heap} {l : List Env} {e : Addr} {o : Obj} {fs : Array Value} (ff : g.FunFrames B l) (at_ : g.get? e = some o) (hd : o.data = .fields fs) : e ∉ frs l := fun mem => by
  obtain ⟨_, o2, at2, no⟩ := ff.mem mem
  have same : o2 = o := Option.some.inj (at2.symm.trans at_)
  exact no fs (same ▸ hd)
/-- what the ground does not hold was not there when the def was entered, and is no pin -/
theorem stranger {X : Cx} {pins : List (Addr × Obj)} {σ : St} {H : Hp} {sI : Shared} {B : Heap} {e : Addr} (J : Inv X pins σ H sI) (hx : X.ex = []) (ground : ∀ b o, sI.heap.get? b = some o → b ∉ frs X.stack → B.get? b = some o) (nB : B.get? e = none) (nf : e ∉ frs X.stack) :
    X.s_0.heap.get? e = none ∧ ∀ p ∈ X.pn ++ pins, p.1 ≠ e := by
  have gone : ∀ o, sI.heap.get? e ≠ some o := fun o q => nomatch nB.symm.trans (ground e o q nf)
  refine ⟨Option.eq_none_iff_forall_ne_some.mpr fun o q => ?_, fun p hp q => gone p.2 (q ▸ (J.pin p hp).1)⟩
  obtain ⟨o2, q2⟩ := J.base.there e o q (hx ▸ List.not_mem_nil)
  exact gone o2 q2
section
variable {X : Cx} {x n : Str} {c : Value} {i : Nat} {body suite : List Stmt} {b₀ : Stmt} {np pos pos' : Pos} {tb : WX → TS} {ts : Addr → Value → Option Addr → TS} {pins : List (Addr × Obj)} {D : Ends}
/-- the raised error comes to the handler -/
theorem keep_catch {xe : Value → Shared → Prop} {u : Value} {s' : Shared} (ok : X.Ok) (hx : X.ex = []) (hs : X.stack = X.env :: X.outer) (hf : X.env.frame = some X.env.locals) (hN : X.N.Nodup) (hi : X.N[i]? = some n) (hln : X.env.kindOf n = some .local) (hc : Names X x c)
    (hsu : ∀ (a : Addr) (oe : Obj) (cls : Value) (d : Option Addr) (pn : List (Addr × Obj)), Zc cls d oe → (∃ vs, oe.data = .fields vs) → PSs (X.suite a ((a, oe) :: pn)) (b₀ :: suite) (ts a cls d))
    (thrown : L2.XE (X.tr (X.pn ++ pins) xe) (wKeep X.K c i ts D.nx) u s') :
    wpAny (model X.prog X.w) X.A (noteFrame u X.env) (fun _ t1 => wpAny (model X.prog X.w) X.A (setFlight u none) (fun _ t2 => wpAny (model X.prog X.w) X.A (handleBy u X.env [.ExceptHandler (some (.Name x np)) (some n) (b₀ :: suite) pos']) (SP X pins D) X.xe t2) X.xe t1) X.xe s' := by
  obtain ⟨e, B, sI, more, τ, G, cls, d, eu, J0, ground, up0, sky, nG, eos, bare, takes, go⟩ := thrown
  subst eu
  have J := J0.ofTry ok
  have inFrames : X.A.frames = some (X.env :: X.outer) := by
    rw [← hs]
    exact ok.frames
  have sky : Sky B (X.env :: X.outer) e (Zc cls d) X.env.locals s'.heap := by
    rw [← hs]
    exact sky
  refine Sky.land Zc.steady inFrames hf sky fun g1 fl1 up1 => ?_
  have J1 : Inv X pins τ G { s' with heap := g1 } := J.landed ground fl1.1 (up0.trans up1) eos bare
  obtain ⟨o1, fs1, at1, z1, hd1⟩ := fl1.there
  have noFrame : e ∉ frs (X.env :: X.outer) := off_frames fl1.2.2.1 at1 hd1
  have noLoc : e ≠ X.env.locals := fun q => noFrame (List.mem_filterMap.mpr ⟨X.env, List.mem_cons_self, hf.trans (congrArg some q.symm)⟩)
  have noFs : e ∉ X.fs := fun mem => by
    obtain ⟨v, hv, q⟩ := List.mem_filterMap.mp mem
    exact noFrame (List.mem_filterMap.mpr ⟨v, List.mem_cons_of_mem _ hv, q⟩)
  obtain ⟨atStart, noPin⟩ := stranger J hx ground fl1.2.1 (hs ▸ noFrame)
  have looks : PySem.W.Looks (model X.prog X.w) g1 (typeOf (.ref e)) cls := fun _ _ _ _ k q => wpAny_typeOf_ref (k _ _ at1) (z1.1 ▸ q)
  have fits := PySem.W.exm_one (M := model X.prog X.w) J1.kIn looks takes
  have inSuite := J1.suite at1 hd1 nG noLoc noFs
  refine wpAny_handleBy_cons (codeAny_handlers_test ?_) (fun q => nomatch q)
  have name : ∀ {R Z : Value → Shared → Prop}, R c { s' with heap := g1 } → wpAny (model X.prog X.w) (X.A.mark (some (.ref e))) (eval (.Name x np) X.env) R Z { s' with heap := g1 } := fun {R Z} r => by
    obtain ⟨hg, hdb, hm | ⟨hm, hv, hn⟩⟩ := hc
    · exact ld_glob (X := X.suite e ((e, o1) :: (X.pn ++ pins))) inSuite hg hm r hdb
    · exact ld_blt (X := X.suite e ((e, o1) :: (X.pn ++ pins))) inSuite hg hm hv r hn hdb
  refine name (fits.here (codeAny_handlers_suite_as (HandSPX.lands_againZ fl1 fun g2 fl2 up2 => ?_)))
  obtain ⟨o2, fs2, at2, z2, hd2⟩ := fl2.there
  have J2 : Inv X pins τ G { s' with heap := g2 } := J.landed ground fl2.1 ((up0.trans up1).trans up2) eos bare
  refine store_ok (X := X.suite e ((e, o2) :: (X.pn ++ pins))) (v := .ref e) (J2.suite at2 hd2 nG noLoc noFs) hN hi (.inl hln) rfl (fun t5 S5 => ?_) (.inr hln)
  refine wpAny_mono ((hsu e o2 cls d (X.pn ++ pins) z2 ⟨_, hd2⟩).run [] t5 _ G _ S5 (go e nG)) (fun fl t6 out => ?_) fun _ _ q => q.elim
  match fl, out with
  | .next, ⟨σ6, H6, S6, q6⟩ =>
    obtain ⟨at6, n6, _⟩ := S6.pin (e, o2) (List.mem_append_left _ List.mem_cons_self)
    have at6 : t6.heap.get? e = some o2 := at6
    have noCell : ∀ v, ¬ t6.heap.IsCell e v := fun v ⟨o7, at7, hd7⟩ => by
      have same : o7 = o2 := Option.some.inj (at7.symm.trans at6)
      rw [same, hd2] at hd7
      cases hd7
    exact gone_ok (track (o := exk e cls d) (S6.unsuite ok) n6 atStart noLoc noCell noPin (exk_ok at6 z2 hd2)) hN hi hln fun t7 J7 => ⟨_, _, J7, q6⟩
  | .brk, ⟨_, _, _, q⟩ => exact q.elim
  | .cont, ⟨_, _, _, q⟩ => exact q.elim
  | .ret _, ⟨_, _, _, _, _, q⟩ => exact q.elim
theorem ps_try_keep (hx : X.ex = []) (hs : X.stack = X.env :: X.outer) (hf : X.env.frame = some X.env.locals) (hN : X.N.Nodup) (hi : X.N[i]? = some n) (hln : X.env.kindOf n = some .local) (hc : Names X x c)
    (hb : ∀ (W : WX) (pn : List (Addr × Obj)) (xe : Value → Shared → Prop), Takes (X.tr pn xe) W → PassesOwn (model X.prog X.w) X.A X.env xe → PSs (X.tr pn xe) body (tb W))
    (hsu : ∀ (a : Addr) (oe : Obj) (cls : Value) (d : Option Addr) (pn : List (Addr × Obj)), Zc cls d oe → (∃ vs, oe.data = .fields vs) → PSs (X.suite a ((a, oe) :: pn)) (b₀ :: suite) (ts a cls d)) :
    PS X (.Try body [.ExceptHandler (some (.Name x np)) (some n) (b₀ :: suite) pos'] [] [] pos) (fun D σ H => tb (wKeep X.K c i ts D.nx) (endN D.nx) σ H) := by
  refine ⟨fun pins s σ H D I go => wpAny_Try_except ?_⟩
  have ok := I.ok
  refine wpAny_mono ((hb (wKeep X.K c i ts D.nx) (X.pn ++ pins) _ (fun u s' thrown => keep_catch (pins := pins) (D := D) ok hx hs hf hN hi hln hc hsu thrown) PassesOwn.looking).run [] s σ H _ (I.toTry _) go) (fun fl s1 out => ?_) fun _ _ q => q
  match fl, out with
  | .next, ⟨σ1, H1, J1, q1⟩ => exact wpAny_execs_nil ⟨σ1, H1, J1.ofTry ok, q1⟩
  | .brk, ⟨_, _, _, q⟩ => exact q.elim
  | .cont, ⟨_, _, _, q⟩ => exact q.elim
  | .ret _, ⟨_, _, _, _, _, q⟩ => exact q.elim
end
section
/-- the kept error: an instance of the class at C, with a field -/
def KeptAt (H : Hp) (a C : Addr) (v : V) : Prop := ∃ d, H a = some (exk a (.ref C) (some d)) ∧ H d = some (.xd [(("value" : Str), v)])
theorem kept_at {P : Program} {w : World} {H : Hp} {h : Heap} {a C : Addr} {v : V} (ok : HOk P w H h) (e : KeptAt H a C v) : ∃ (ox od : Obj) (mA : Str → Option Value), PySem.W.InstAt h a ox C (some od) ∧ (∀ f, PySem.W.lookIn f od = some (mA f)) ∧ ∀ f, RelO (List.lookup f [(("value" : Str), v)]) (mA f) := by
  obtain ⟨d, ea, ed⟩ := e
  obtain ⟨⟨oe, vs, ho, ⟨hz1, hz2⟩, hdt⟩, _, _⟩ := ok a _ ea
  have hx : ObjOk P w H h d (.xd [(("value" : Str), v)]) := ok d _ ed
  obtain ⟨mA, hns, rel⟩ := hx
  obtain ⟨oD, hd, hl⟩ := lookIn_ns hns
  exact ⟨oe, oD, mA, ⟨ho, hz1, by unfold PySem.W.notCls; rw [hdt] <;> rfl, by rw [hz2]; exact hd⟩, hl, rel⟩
/-- isinstance(e, c) of a kept error -/
def rIsKept (K : PySem.W.Frag) : List V → Hp → VK → Prop := fun xs H Q => ∃ (a C : Addr) (x c : V) (cv : Value) (b : Bool), xs = [.ref a, c] ∧ EoM.ErA K C ∧ KeptAt H a C x ∧ ClsV c cv ∧ PySem.W.kitOne K (.ref C) cv = some b ∧ Q (.bl b) H
theorem call_isKept {X : Cx} : CallR X (.builtin "isinstance") (rIsKept X.K) := by
  intro pins s σ H xs us Q I r h
  obtain ⟨a, C, x, c, cv, b, rfl, T, ea, k, e, q⟩ := h
  obtain ⟨u1, u2, rfl, r1, r2⟩ := vals2 r
  have e2 := k.eq r2
  subst e2
  cases (show u1 = Value.ref a from r1)
  obtain ⟨ox, od, mA, J, _⟩ := kept_at I.hok ea
  exact PySem.W.kia_one (EoM.kit_err T) I.kIn J e (fun z => nomatch z) fun tk => ⟨.bl b, H, I.tok tk, rfl, q⟩
/-- e.value of a kept error -/
def tValK (K : PySem.W.Frag) (te : TE) : TE := fun σ H Q => te σ H fun x H1 => ∃ (a C : Addr) (v : V), x = .ref a ∧ EoM.ErA K C ∧ PySem.W.findIn K (.ref C) "value" = some none ∧ KeptAt H1 a C v ∧ Q v H1
theorem pe_valK {X : Cx} {e : Expr} {te : TE} {pos : Pos} (he : PE X e te) (hb : attributeBase e "value" X.env (eval e X.env) = eval e X.env := by rfl) : PE X (.Attribute e "value" pos) (tValK X.K te) := by
  refine ⟨fun pins s σ H Q I h => ?_⟩
  refine attr_of hb (thn (he.run pins s σ H _ I h) fun u s1 hh => ?_)
  obtain ⟨x, H1, I1, rx, a, C, v, rfl, T, noV, ea, q⟩ := hh
  obtain rfl : u = Value.ref a := rx
  obtain ⟨ox, od, mA, J, hl, rel⟩ := kept_at I1.hok ea
  have l : List.lookup ("value" : Str) [(("value" : Str), v)] = some v := by simp [List.lookup]
  obtain ⟨u, hu, ru⟩ := RelO.some_of (v := v) (o := mA "value") (by rw [← l]; exact rel "value")
  exact PySem.HandSPX.exc_get I1.kIn J T.ga T.gt T.sub (PySem.W.findObj_own T.dct noV rfl (by rw [hl, hu])) (handed_of ru) ⟨v, H1, I1.tok _, ru, q⟩
end
/-! ### a callee that is an expression -/
/-- f(e, ..), f an expression that gives one of some defs -/
def tCallE (L : List (Addr × Sp)) (E : XK) (tf : TE) (t : TA) : TE := fun σ H Q => tf σ H fun x H0 => ∃ f sp, x = .ref f ∧ (f, sp) ∈ L ∧ t σ H0 fun vs H1 => sp vs H1 Q E
section
variable {X : Cx} {CX : CXT} {k : Nat} {L : List (Addr × Sp)} {E : XK} {fe e : Expr} {es : List Expr} {tf : TE} {t : TA} {pos : Pos}
theorem pe_callE (F : ∀ p ∈ L, FnR X.prog X.w X.K X.mg X.base CX k p.1 p.2 ∧ PySem.W.keepIn X.K (.ref p.1) = true) (hr : Room k X.A) (hx : Passes CX X E) (hf : PE X fe tf) (ha : PA X (e :: es) t)
    (ht : eval (.Call fe (e :: es) [] pos) X.env = (do callWith pos (← eval fe X.env) [] (backTo pos (starEach (e :: es) X.env)) (backToKw pos (keywordEach [] X.env))) := by rfl)
    (he : starEach (e :: es) X.env = (false, eval e X.env) :: starEach es X.env := by rfl) (hpl : (backTo pos (starEach es X.env)).any (·.1) = false := by rfl) : PE X (.Call fe (e :: es) [] pos) (tCallE L E tf t) := by
  refine ⟨fun pins s σ H Q I h => ?_⟩
  refine Call_ (thn (hf.run pins s σ H _ I h) fun u s1 ⟨x, H0, I0, rx, f, sp, ex, mem, q⟩ => ?_) ht
  subst ex
  obtain rfl : u = Value.ref f := rx
  obtain ⟨F1, hk⟩ := F _ mem
  refine PySem.W.callWith_K (h₀ := X.base) I0.ok.mod.kin hk (thn (ha.run pos pins s1 σ H0 _ I0 q) fun us s2 ⟨vs, H1, I1, r, q1⟩ => ⟨I1.kIn, ?_⟩) he hpl
  exact wpAny_call (run_fnR F1 hr hx I1 r q1)
end
end Vb
end L2

set_option Elab.async false
set_option linter.all false
set_option maxRecDepth 100000
set_option maxHeartbeats 8000000
/-! Vb, part 63: the doors, called by their number. -/
namespace L2
namespace Vb
open PySem PySem.Spec PyProof.Rows
abbrev sCalled : Stmt := topS 56
def verK (k : Nat) (d0 d1 d2 d3 : PyData) : Option (Nat × Nat) := if k = 0 then verI d0 d1 else if k < 4 then verV d0 d1 else if k = 4 then verC d0 d1 d2 else if k < 9 then verQ d0 d1 d2 else verB d0 d1 d2 d3
theorem sm21 {d : PyData} (h : Sm2 d) : Sm1 d := fun ds e => (h ds e).1
theorem told_heap {CP CN CV : Addr} {H H1 : Hp} {vs : List V} {E : XK} {A : Prop} {r : Option (Nat × Nat)} (s : Same H H1) (h : Told CP CN CV H vs E A r) : Told CP CN CV H1 vs E A r := by
  match r, h with
  | none, h => exact h
  | some (0, i), h => exact Err.up (show Err H CP _ E from h) s
  | some (1, i), h => exact Err.up (show Err H CN _ E from h) s
  | some (_ + 2, i), h => exact Err.up (show Err H CV _ E from h) s
section
variable {CP CN CV : Addr} {H : Hp} {E : XK} {A : Prop} {u v x y : V} {du dv dx dy : PyData}
theorem told_I (h : Told CP CN CV H [u, v, x, y] E A (verI du dv)) : Told CP CN CV H [u, v] E A (verI du dv) := by
  unfold verI at h ⊢
  split
  · rename_i z
    rw [if_pos z] at h
    exact h
  · rename_i z
    rw [if_neg z] at h
    split
    · rename_i z
      rw [if_pos z] at h
      exact h
    · rename_i z
      rw [if_neg z] at h
      exact h
theorem told_V (h : Told CP CN CV H [u, v, x, y] E A (verV du dv)) : Told CP CN CV H [u, v] E A (verV du dv) := by
  unfold verV at h ⊢
  split
  · rename_i z
    rw [if_pos z] at h
    exact h
  · rename_i z
    rw [if_neg z] at h
    split
    · rename_i z
      rw [if_pos z] at h
      exact h
    · rename_i z
      rw [if_neg z] at h
      exact h
theorem told_C (h : Told CP CN CV H [u, v, x, y] E A (verC du dv dx)) : Told CP CN CV H [u, v, x] E A (verC du dv dx) := by
  unfold verC at h ⊢
  split
  · rename_i z
    rw [if_pos z] at h
    exact h
  · rename_i z
    rw [if_neg z] at h
    split
    · rename_i z
      rw [if_pos z] at h
      exact h
    · rename_i z
      rw [if_neg z] at h
      split
      · rename_i z
        rw [if_pos z] at h
        exact h
      · rename_i z
        rw [if_neg z] at h
        exact h
theorem told_Q (h : Told CP CN CV H [u, v, x, y] E A (verQ du dv dx)) : Told CP CN CV H [u, v, x] E A (verQ du dv dx) := by
  unfold verQ at h ⊢
  split
  · rename_i z
    rw [if_pos z] at h
    exact h
  · rename_i z
    rw [if_neg z] at h
    split
    · rename_i z
      rw [if_pos z] at h
      exact h
    · rename_i z
      rw [if_neg z] at h
      split
      · rename_i z
        rw [if_pos z] at h
        exact h
      · rename_i z
        rw [if_neg z] at h
        exact h
theorem told_noP (h : Told CP CN CV H [u, v] E False (verV du dv)) (e : primD du = false) : Err H CP u E := by
  unfold verV at h
  rw [if_pos e] at h
  exact h
theorem told_noV (h : Told CP CN CV H [u, v] E False (verV du dv)) (e : primD du = true) (e2 : vecsD (intD du) dv = false) : Err H CV v E := by
  unfold verV at h
  rw [if_neg (by rw [e]; exact Bool.noConfusion), if_pos e2] at h
  exact h
theorem told_no (h : Told CP CN CV H [u, v] E False (verV du dv)) (e : primD du = true) (e2 : vecsD (intD du) dv = true) : False := by
  unfold verV at h
  rw [if_neg (by rw [e]; exact Bool.noConfusion), if_neg (by rw [e2]; exact Bool.noConfusion)] at h
  exact h
end
section
variable (P : Program) (w : World) (K : PySem.W.Frag) (mg : Str → Option Value) (base : Heap)
/-- the door of that name -/
def DoorR (x : Str) (sp : Sp) : Prop := ∃ f, mg x = some (.ref f) ∧ PySem.W.keepIn K (.ref f) = true ∧ FnR P w K mg base (L2.CX P w) 7 f sp
end
section
variable {P : Program} {w : World} {K : PySem.W.Frag} {mg : Str → Option Value} {base : Heap}
theorem door_of {x : Str} {st : Stmt} {f : Addr} {fd : FuncData} {k : Nat} {ps : List Str} {sp : Sp} (F : Fun K x x st f fd) (G : FnOk P w K mg base (L2.CX P w) k f fd ps sp) (g : mg x = some (.ref f)) (hk : k ≤ 7) (b : Binds K fd ps []) : DoorR P w K mg base x sp :=
  ⟨f, g, F.kp, ((FnOk.raw G b .nil).imp fun vs H Q E h => by rw [List.append_nil]; exact h).mono hk⟩
/-- all of them -/
structure Doors (P : Program) (w : World) (K : PySem.W.Frag) (mg : Str → Option Value) (base : Heap) (CP CN CV : Addr) : Prop where
  d0 : DoorR P w K mg base "inverse" (spInvX CP CN CV)
  d1 : DoorR P w K mg base "reduced" (spRedX CP CN CV)
  d2 : DoorR P w K mg base "rank" (spRankX CP CN CV)
  d3 : DoorR P w K mg base "nothings" (spNoth CP CN CV)
  d4 : DoorR P w K mg base "combined" (spCombX CP CN CV)
  d5 : DoorR P w K mg base "solved" (spSolved CP CN CV)
  d6 : DoorR P w K mg base "barred" (spBarred CP CN CV)
  d7 : DoorR P w K mg base "is_solved" (spJudge isSol CP CN CV)
  d8 : DoorR P w K mg base "is_barred" (spJudge isBar CP CN CV)
  d9 : DoorR P w K mg base "between" (spB aBetw CP CN CV)
  d10 : DoorR P w K mg base "barred_between" (spB aBarB CP CN CV)
  d11 : DoorR P w K mg base "is_between" (spBJ isBet (fun _ => True) CP CN CV)
  d12 : DoorR P w K mg base "is_barred_between" (spBJ (fun _ _ _ _ _ => false) (fun d => tyD d ≠ "tuple") CP CN CV)
/-- a door called with what it does not let -/
def spCalled (CP CN CV : Addr) : Sp := fun as H Q E => ∃ (k : Nat) (g : Addr) (vs : List V) (u v x y : V) (du dv dx dy : PyData) (n : Nat), as = [.int (k : Int), .ref g] ∧ k ≤ 12 ∧ H g = some (.lst vs) ∧ vs[0]? = some u ∧ vs[1]? = some v ∧ (4 ≤ k → vs[2]? = some x) ∧ (9 ≤ k → vs[3]? = some y) ∧
  Sho n H u du ∧ Sho n H v dv ∧ Sho n H x dx ∧ Sho n H y dy ∧ goodD du ∧ Sm2 dv ∧ Sm2 dx ∧ Sm2 dy ∧ Told CP CN CV H [u, v, x, y] E False (verK k du dv dx dy)
theorem scCalled : FnScope ["_law_door", "_law_given"] ["_law_door", "_law_given"] (defScope sCalled) := ⟨rfl, rfl, rfl, by decide +kernel, rfl, by decide +kernel, by decide +kernel⟩
theorem sm_none : Sm2 .none := fun ds e => nomatch e
theorem ok_called {CP CN CV f : Addr} {fd : FuncData} (F : Fun K "_law_called" "_law_called" sCalled f fd) (D : Doors P w K mg base CP CN CV) : FnOk P w K mg base (L2.CX P w) 8 f fd ["_law_door", "_law_given"] (spCalled CP CN CV) := by
  obtain ⟨f0, g0, k0, r0⟩ := D.d0
  obtain ⟨f1, g1, k1, r1⟩ := D.d1
  obtain ⟨f2, g2, k2, r2⟩ := D.d2
  obtain ⟨f3, g3, k3, r3⟩ := D.d3
  obtain ⟨f4, g4, k4, r4⟩ := D.d4
  obtain ⟨f5, g5, k5, r5⟩ := D.d5
  obtain ⟨f6, g6, k6, r6⟩ := D.d6
  obtain ⟨f7, g7, k7, r7⟩ := D.d7
  obtain ⟨f8, g8, k8, r8⟩ := D.d8
  obtain ⟨f9, g9, k9, r9⟩ := D.d9
  obtain ⟨f10, g10, k10, r10⟩ := D.d10
  obtain ⟨f11, g11, k11, r11⟩ := D.d11
  obtain ⟨f12, g12, k12, r12⟩ := D.d12
  refine F.okX scCalled (fun vs H Q E h => ?_) (fun cdv A outer s0 H as Q E hr h => ?_)
  · obtain ⟨k, g, vs, u, v, x, y, du, dv, dx, dy, n, rfl, _⟩ := h
    rfl
  · obtain ⟨k, g, vs, u, v, x, y, du, dv, dx, dy, n, rfl, k12', hg, h0, h1, h2, h3, su, sv, sx, sy, gd, zv, zx, zy, told⟩ := h
    refine ⟨_, pss_cons (ps_if (pt_cmpR op_lt (pv 0) pe_int (nomark _)) (pss_one (ps_ret
          (pe_callE (CX := L2.CX P w) (k := 7) (E := E) (L := [(f0, spInvX CP CN CV), (f1, spRedX CP CN CV), (f2, spRankX CP CN CV), (f3, spNoth CP CN CV)]) (List.forall_mem_cons.mpr ⟨⟨r0, k0⟩, List.forall_mem_cons.mpr ⟨⟨r1, k1⟩, List.forall_mem_cons.mpr ⟨⟨r2, k2⟩, List.forall_mem_cons.mpr ⟨⟨r3, k3⟩, fun _ h => nomatch h⟩⟩⟩⟩) hr (passes_call (E := E) (takes_of rfl rfl rfl rfl) fun _ _ _ _ h => h)
            (pe_ix ix_list (pe_lst (pa_cons (pe_glob (v := .ref f0) rfl g0 rfl (by decide)) (pa_cons (pe_glob (v := .ref f1) rfl g1 rfl (by decide)) (pa_cons (pe_glob (v := .ref f2) rfl g2 rfl (by decide)) (pa_cons (pe_glob (v := .ref f3) rfl g3 rfl (by decide)) pa_nil))))) (pv 0) (fun _ _ => rfl))
            (pa_cons (pe_ix ix_list (pv 1) pe_int (fun _ _ => rfl)) (pa_cons (pe_ix ix_list (pv 1) pe_int (fun _ _ => rfl)) pa_nil))))) pss_nil)
      (pss_cons (ps_if (pt_cmpR op_lt (pv 0) pe_int (nomark _)) (pss_one (ps_ret
          (pe_callE (CX := L2.CX P w) (k := 7) (E := E) (L := [(f4, spCombX CP CN CV), (f5, spSolved CP CN CV), (f6, spBarred CP CN CV)]) (List.forall_mem_cons.mpr ⟨⟨r4, k4⟩, List.forall_mem_cons.mpr ⟨⟨r5, k5⟩, List.forall_mem_cons.mpr ⟨⟨r6, k6⟩, fun _ h => nomatch h⟩⟩⟩) hr (passes_call (E := E) (takes_of rfl rfl rfl rfl) fun _ _ _ _ h => h)
            (pe_ix ix_list (pe_lst (pa_cons (pe_glob (v := .ref f4) rfl g4 rfl (by decide)) (pa_cons (pe_glob (v := .ref f5) rfl g5 rfl (by decide)) (pa_cons (pe_glob (v := .ref f6) rfl g6 rfl (by decide)) pa_nil)))) (pe_op op_sub (pv 0) pe_int) (fun _ _ => rfl))
            (pa_cons (pe_ix ix_list (pv 1) pe_int (fun _ _ => rfl)) (pa_cons (pe_ix ix_list (pv 1) pe_int (fun _ _ => rfl)) (pa_cons (pe_ix ix_list (pv 1) pe_int (fun _ _ => rfl)) pa_nil)))))) pss_nil)
      (pss_cons (ps_if (pt_cmpR op_lt (pv 0) pe_int (nomark _)) (pss_one (ps_ret
          (pe_callE (CX := L2.CX P w) (k := 7) (E := E) (L := [(f7, spJudge isSol CP CN CV), (f8, spJudge isBar CP CN CV)]) (List.forall_mem_cons.mpr ⟨⟨r7, k7⟩, List.forall_mem_cons.mpr ⟨⟨r8, k8⟩, fun _ h => nomatch h⟩⟩) hr (passes_call (E := E) (takes_of rfl rfl rfl rfl) fun _ _ _ _ h => h)
            (pe_ix ix_list (pe_lst (pa_cons (pe_glob (v := .ref f7) rfl g7 rfl (by decide)) (pa_cons (pe_glob (v := .ref f8) rfl g8 rfl (by decide)) pa_nil))) (pe_op op_sub (pv 0) pe_int) (fun _ _ => rfl))
            (pa_cons (pe_ix ix_list (pv 1) pe_int (fun _ _ => rfl)) (pa_cons (pe_ix ix_list (pv 1) pe_int (fun _ _ => rfl)) (pa_cons (pe_ix ix_list (pv 1) pe_int (fun _ _ => rfl)) (pa_cons pe_non pa_nil))))))) pss_nil)
      (pss_cons (ps_if (pt_cmpR op_lt (pv 0) pe_int (nomark _)) (pss_one (ps_ret
          (pe_callE (CX := L2.CX P w) (k := 7) (E := E) (L := [(f9, spB aBetw CP CN CV), (f10, spB aBarB CP CN CV)]) (List.forall_mem_cons.mpr ⟨⟨r9, k9⟩, List.forall_mem_cons.mpr ⟨⟨r10, k10⟩, fun _ h => nomatch h⟩⟩) hr (passes_call (E := E) (takes_of rfl rfl rfl rfl) fun _ _ _ _ h => h)
            (pe_ix ix_list (pe_lst (pa_cons (pe_glob (v := .ref f9) rfl g9 rfl (by decide)) (pa_cons (pe_glob (v := .ref f10) rfl g10 rfl (by decide)) pa_nil))) (pe_op op_sub (pv 0) pe_int) (fun _ _ => rfl))
            (pa_cons (pe_ix ix_list (pv 1) pe_int (fun _ _ => rfl)) (pa_cons (pe_ix ix_list (pv 1) pe_int (fun _ _ => rfl)) (pa_cons (pe_ix ix_list (pv 1) pe_int (fun _ _ => rfl)) (pa_cons (pe_ix ix_list (pv 1) pe_int (fun _ _ => rfl)) pa_nil))))))) pss_nil)
      (pss_one (ps_ret
          (pe_callE (CX := L2.CX P w) (k := 7) (E := E) (L := [(f11, spBJ isBet (fun _ => True) CP CN CV), (f12, spBJ (fun _ _ _ _ _ => false) (fun d => tyD d ≠ "tuple") CP CN CV)]) (List.forall_mem_cons.mpr ⟨⟨r11, k11⟩, List.forall_mem_cons.mpr ⟨⟨r12, k12⟩, fun _ h => nomatch h⟩⟩) hr (passes_call (E := E) (takes_of rfl rfl rfl rfl) fun _ _ _ _ h => h)
            (pe_ix ix_list (pe_lst (pa_cons (pe_glob (v := .ref f11) rfl g11 rfl (by decide)) (pa_cons (pe_glob (v := .ref f12) rfl g12 rfl (by decide)) pa_nil))) (pe_op op_sub (pv 0) pe_int) (fun _ _ => rfl))
            (pa_cons (pe_ix ix_list (pv 1) pe_int (fun _ _ => rfl)) (pa_cons (pe_ix ix_list (pv 1) pe_int (fun _ _ => rfl)) (pa_cons (pe_ix ix_list (pv 1) pe_int (fun _ _ => rfl)) (pa_cons (pe_ix ix_list (pv 1) pe_int (fun _ _ => rfl)) (pa_cons pe_non pa_nil))))))))))), ?_⟩
    refine ⟨_, rfl, _, _, rfl, rfl, _, rfl, ?_⟩
    unfold verK at told
    by_cases q4 : k < 4
    · rw [decide_eq_true (show (k : Int) < 4 by omega)]
      refine iteT ⟨by show 4 ≤ sizeLine; decide, fun l hl => ?_⟩
      have s := same_new (o := .lst [V.ref f0, V.ref f1, V.ref f2, V.ref f3]) hl
      generalize eH : upd H l (HO.lst [V.ref f0, V.ref f1, V.ref f2, V.ref f3]) = H1 at s ⊢
      have hl1 : H1 l = some (.lst [V.ref f0, V.ref f1, V.ref f2, V.ref f3]) := by rw [← eH]; exact upd_same
      have told := told_heap s told
      have hg := s _ _ hg
      have su := su.up s
      have sv := sv.up s
      obtain rfl | rfl | rfl | rfl : k = 0 ∨ k = 1 ∨ k = 2 ∨ k = 3 := by omega
      · refine ⟨_, rfl, l, _, _, _, rfl, rfl, SqL.of hl1, atI_nat (j := 0) rfl, f0, _, rfl, .head _, ?_⟩
        refine ⟨_, rfl, g, _, 0, _, rfl, rfl, SqL.of hg, atI_nat (j := 0) h0, _, rfl, g, _, 1, _, rfl, rfl, SqL.of hg, atI_nat (j := 1) h1, ?_⟩
        exact ⟨u, v, du, dv, n, rfl, su, sv, rfl, gd, told_up (told_I told) fun _ h => h.elim⟩
      · refine ⟨_, rfl, l, _, _, _, rfl, rfl, SqL.of hl1, atI_nat (j := 1) rfl, f1, _, rfl, .tail _ (.head _), ?_⟩
        refine ⟨_, rfl, g, _, 0, _, rfl, rfl, SqL.of hg, atI_nat (j := 0) h0, _, rfl, g, _, 1, _, rfl, rfl, SqL.of hg, atI_nat (j := 1) h1, ?_⟩
        exact ⟨u, v, du, dv, n, rfl, su, sv, rfl, gd, zv, told_up (told_V told) fun _ h => h.elim⟩
      · refine ⟨_, rfl, l, _, _, _, rfl, rfl, SqL.of hl1, atI_nat (j := 2) rfl, f2, _, rfl, .tail _ (.tail _ (.head _)), ?_⟩
        refine ⟨_, rfl, g, _, 0, _, rfl, rfl, SqL.of hg, atI_nat (j := 0) h0, _, rfl, g, _, 1, _, rfl, rfl, SqL.of hg, atI_nat (j := 1) h1, ?_⟩
        exact ⟨u, v, du, dv, n, rfl, su, sv, rfl, gd, zv, told_up (told_V told) fun _ h => h.elim⟩
      · refine ⟨_, rfl, l, _, _, _, rfl, rfl, SqL.of hl1, atI_nat (j := 3) rfl, f3, _, rfl, .tail _ (.tail _ (.tail _ (.head _))), ?_⟩
        refine ⟨_, rfl, g, _, 0, _, rfl, rfl, SqL.of hg, atI_nat (j := 0) h0, _, rfl, g, _, 1, _, rfl, rfl, SqL.of hg, atI_nat (j := 1) h1, ?_⟩
        have tv := told_V told
        exact ⟨u, v, du, dv, n, rfl, su, sv, rfl, gd, zv, told_noP tv, told_noV tv, fun e1 e2 => (told_no tv e1 e2).elim⟩
    rw [decide_eq_false (show ¬ (k : Int) < 4 by omega)]
    refine iteF ⟨_, rfl, _, _, rfl, rfl, _, rfl, ?_⟩
    have hx2 := h2 (by omega)
    clear h2
    by_cases q7 : k < 7
    · rw [decide_eq_true (show (k : Int) < 7 by omega)]
      refine iteT ⟨by show 3 ≤ sizeLine; decide, fun l hl => ?_⟩
      have s := same_new (o := .lst [V.ref f4, V.ref f5, V.ref f6]) hl
      generalize eH : upd H l (HO.lst [V.ref f4, V.ref f5, V.ref f6]) = H1 at s ⊢
      have hl1 : H1 l = some (.lst [V.ref f4, V.ref f5, V.ref f6]) := by rw [← eH]; exact upd_same
      have told := told_heap s told
      have hg := s _ _ hg
      have su := su.up s
      have sv := sv.up s
      have sx := sx.up s
      obtain rfl | rfl | rfl : k = 4 ∨ k = 5 ∨ k = 6 := by omega
      · refine ⟨_, rfl, _, _, rfl, rfl, l, _, _, _, rfl, rfl, SqL.of hl1, atI_nat (j := 0) rfl, f4, _, rfl, .head _, ?_⟩
        refine ⟨_, rfl, g, _, 0, _, rfl, rfl, SqL.of hg, atI_nat (j := 0) h0, _, rfl, g, _, 1, _, rfl, rfl, SqL.of hg, atI_nat (j := 1) h1, _, rfl, g, _, 2, _, rfl, rfl, SqL.of hg, atI_nat (j := 2) hx2, ?_⟩
        exact ⟨u, v, x, du, dv, dx, n, rfl, su, sv, sx, rfl, gd, zv, sm21 zx, told_up (told_C told) fun _ h => h.elim⟩
      · refine ⟨_, rfl, _, _, rfl, rfl, l, _, _, _, rfl, rfl, SqL.of hl1, atI_nat (j := 1) rfl, f5, _, rfl, .tail _ (.head _), ?_⟩
        refine ⟨_, rfl, g, _, 0, _, rfl, rfl, SqL.of hg, atI_nat (j := 0) h0, _, rfl, g, _, 1, _, rfl, rfl, SqL.of hg, atI_nat (j := 1) h1, _, rfl, g, _, 2, _, rfl, rfl, SqL.of hg, atI_nat (j := 2) hx2, ?_⟩
        exact ⟨u, v, x, du, dv, dx, n, rfl, su, sv, sx, rfl, gd, zv, sm21 zx, told_up (told_Q told) fun _ h => h.elim⟩
      · refine ⟨_, rfl, _, _, rfl, rfl, l, _, _, _, rfl, rfl, SqL.of hl1, atI_nat (j := 2) rfl, f6, _, rfl, .tail _ (.tail _ (.head _)), ?_⟩
        refine ⟨_, rfl, g, _, 0, _, rfl, rfl, SqL.of hg, atI_nat (j := 0) h0, _, rfl, g, _, 1, _, rfl, rfl, SqL.of hg, atI_nat (j := 1) h1, _, rfl, g, _, 2, _, rfl, rfl, SqL.of hg, atI_nat (j := 2) hx2, ?_⟩
        exact ⟨u, v, x, du, dv, dx, n, rfl, su, sv, sx, rfl, gd, zv, sm21 zx, told_up (told_Q told) fun _ h => h.elim⟩
    rw [decide_eq_false (show ¬ (k : Int) < 7 by omega)]
    refine iteF ⟨_, rfl, _, _, rfl, rfl, _, rfl, ?_⟩
    by_cases q9 : k < 9
    · rw [decide_eq_true (show (k : Int) < 9 by omega)]
      refine iteT ⟨by show 2 ≤ sizeLine; decide, fun l hl => ?_⟩
      have s := same_new (o := .lst [V.ref f7, V.ref f8]) hl
      generalize eH : upd H l (HO.lst [V.ref f7, V.ref f8]) = H1 at s ⊢
      have hl1 : H1 l = some (.lst [V.ref f7, V.ref f8]) := by rw [← eH]; exact upd_same
      have told := told_heap s told
      have hg := s _ _ hg
      have su := su.up s
      have sv := sv.up s
      have sx := sx.up s
      obtain rfl | rfl : k = 7 ∨ k = 8 := by omega
      · refine ⟨_, rfl, _, _, rfl, rfl, l, _, _, _, rfl, rfl, SqL.of hl1, atI_nat (j := 0) rfl, f7, _, rfl, .head _, ?_⟩
        refine ⟨_, rfl, g, _, 0, _, rfl, rfl, SqL.of hg, atI_nat (j := 0) h0, _, rfl, g, _, 1, _, rfl, rfl, SqL.of hg, atI_nat (j := 1) h1, _, rfl, g, _, 2, _, rfl, rfl, SqL.of hg, atI_nat (j := 2) hx2, ?_⟩
        exact ⟨u, v, x, .non, du, dv, dx, .none, n, rfl, su, sv, sx, Sho.non, rfl, gd, zv, sm21 zx, sm21 sm_none, told_up (told_Q told) fun _ h => h.elim⟩
      · refine ⟨_, rfl, _, _, rfl, rfl, l, _, _, _, rfl, rfl, SqL.of hl1, atI_nat (j := 1) rfl, f8, _, rfl, .tail _ (.head _), ?_⟩
        refine ⟨_, rfl, g, _, 0, _, rfl, rfl, SqL.of hg, atI_nat (j := 0) h0, _, rfl, g, _, 1, _, rfl, rfl, SqL.of hg, atI_nat (j := 1) h1, _, rfl, g, _, 2, _, rfl, rfl, SqL.of hg, atI_nat (j := 2) hx2, ?_⟩
        exact ⟨u, v, x, .non, du, dv, dx, .none, n, rfl, su, sv, sx, Sho.non, rfl, gd, zv, sm21 zx, sm21 sm_none, told_up (told_Q told) fun _ h => h.elim⟩
    rw [decide_eq_false (show ¬ (k : Int) < 9 by omega)]
    refine iteF ⟨_, rfl, _, _, rfl, rfl, _, rfl, ?_⟩
    have hx3 := h3 (by omega)
    clear h3
    by_cases q11 : k < 11
    · rw [decide_eq_true (show (k : Int) < 11 by omega)]
      refine iteT ⟨by show 2 ≤ sizeLine; decide, fun l hl => ?_⟩
      have s := same_new (o := .lst [V.ref f9, V.ref f10]) hl
      generalize eH : upd H l (HO.lst [V.ref f9, V.ref f10]) = H1 at s ⊢
      have hl1 : H1 l = some (.lst [V.ref f9, V.ref f10]) := by rw [← eH]; exact upd_same
      have told := told_heap s told
      have hg := s _ _ hg
      have su := su.up s
      have sv := sv.up s
      have sx := sx.up s
      have sy := sy.up s
      obtain rfl | rfl : k = 9 ∨ k = 10 := by omega
      · refine ⟨_, rfl, _, _, rfl, rfl, l, _, _, _, rfl, rfl, SqL.of hl1, atI_nat (j := 0) rfl, f9, _, rfl, .head _, ?_⟩
        refine ⟨_, rfl, g, _, 0, _, rfl, rfl, SqL.of hg, atI_nat (j := 0) h0, _, rfl, g, _, 1, _, rfl, rfl, SqL.of hg, atI_nat (j := 1) h1, _, rfl, g, _, 2, _, rfl, rfl, SqL.of hg, atI_nat (j := 2) hx2, _, rfl, g, _, 3, _, rfl, rfl, SqL.of hg, atI_nat (j := 3) hx3, ?_⟩
        exact ⟨u, v, x, y, du, dv, dx, dy, n, rfl, su, sv, sx, sy, rfl, gd, zv, zx, zy, told_up told fun _ h => h.elim⟩
      · refine ⟨_, rfl, _, _, rfl, rfl, l, _, _, _, rfl, rfl, SqL.of hl1, atI_nat (j := 1) rfl, f10, _, rfl, .tail _ (.head _), ?_⟩
        refine ⟨_, rfl, g, _, 0, _, rfl, rfl, SqL.of hg, atI_nat (j := 0) h0, _, rfl, g, _, 1, _, rfl, rfl, SqL.of hg, atI_nat (j := 1) h1, _, rfl, g, _, 2, _, rfl, rfl, SqL.of hg, atI_nat (j := 2) hx2, _, rfl, g, _, 3, _, rfl, rfl, SqL.of hg, atI_nat (j := 3) hx3, ?_⟩
        exact ⟨u, v, x, y, du, dv, dx, dy, n, rfl, su, sv, sx, sy, rfl, gd, zv, zx, zy, told_up told fun _ h => h.elim⟩
    rw [decide_eq_false (show ¬ (k : Int) < 11 by omega)]
    refine iteF ⟨by show 2 ≤ sizeLine; decide, fun l hl => ?_⟩
    have s := same_new (o := .lst [V.ref f11, V.ref f12]) hl
    generalize eH : upd H l (HO.lst [V.ref f11, V.ref f12]) = H1 at s ⊢
    have hl1 : H1 l = some (.lst [V.ref f11, V.ref f12]) := by rw [← eH]; exact upd_same
    have told := told_heap s told
    have hg := s _ _ hg
    have su := su.up s
    have sv := sv.up s
    have sx := sx.up s
    have sy := sy.up s
    obtain rfl | rfl : k = 11 ∨ k = 12 := by omega
    · refine ⟨_, rfl, _, _, rfl, rfl, l, _, _, _, rfl, rfl, SqL.of hl1, atI_nat (j := 0) rfl, f11, _, rfl, .head _, ?_⟩
      refine ⟨_, rfl, g, _, 0, _, rfl, rfl, SqL.of hg, atI_nat (j := 0) h0, _, rfl, g, _, 1, _, rfl, rfl, SqL.of hg, atI_nat (j := 1) h1, _, rfl, g, _, 2, _, rfl, rfl, SqL.of hg, atI_nat (j := 2) hx2, _, rfl, g, _, 3, _, rfl, rfl, SqL.of hg, atI_nat (j := 3) hx3, ?_⟩
      exact ⟨u, v, x, y, .non, du, dv, dx, dy, .none, n, rfl, su, sv, sx, sy, Sho.non, rfl, gd, zv, zx, zy, sm_none, fun _ => trivial, told_up told fun _ h => h.elim⟩
    · refine ⟨_, rfl, _, _, rfl, rfl, l, _, _, _, rfl, rfl, SqL.of hl1, atI_nat (j := 1) rfl, f12, _, rfl, .tail _ (.head _), ?_⟩
      refine ⟨_, rfl, g, _, 0, _, rfl, rfl, SqL.of hg, atI_nat (j := 0) h0, _, rfl, g, _, 1, _, rfl, rfl, SqL.of hg, atI_nat (j := 1) h1, _, rfl, g, _, 2, _, rfl, rfl, SqL.of hg, atI_nat (j := 2) hx2, _, rfl, g, _, 3, _, rfl, rfl, SqL.of hg, atI_nat (j := 3) hx3, ?_⟩
      exact ⟨u, v, x, y, .non, du, dv, dx, dy, .none, n, rfl, su, sv, sx, sy, Sho.non, rfl, gd, zv, zx, zy, sm_none, fun _ => by show ("NoneType" : String) ≠ "tuple"; decide, told_up told fun _ h => h.elim⟩
end
end Vb
end L2

set_option Elab.async false
set_option linter.all false
set_option maxRecDepth 100000
set_option maxHeartbeats 8000000
/-! Vb, part 64: a door called once: what is caught. -/
namespace L2
namespace Vb
open PySem PySem.Spec PyProof.Rows
abbrev sOnce : Stmt := topS 57
abbrev nOnce : List Str := ["_law_door", "_law_given", "_law_caught", "error", "_law_some"]
theorem scOnce : FnScope nOnce ["_law_door", "_law_given"] (defScope sOnce) := ⟨rfl, rfl, rfl, by decide +kernel, rfl, by decide +kernel, by decide +kernel⟩
section
variable {X : Cx}
/-- .count of flat items -/
def rCntF (K : PySem.W.Frag) : V → List V → Hp → VK → Prop := fun x xs H Q => ∃ (p : Addr) (ys : List V) (y : V), x = .ref p ∧ xs = [y] ∧ SqL K H p ys ∧ flatV y = true ∧ ys.all flatV = true ∧ Q (.int (ys.countP (fun z => eqV z y) : Nat)) H
theorem countP_eqU {x : V} : ∀ {xs : List V} {us : List Value}, Vals xs us → xs.all flatV = true → us.countP (eqU x) = xs.countP fun y => eqV y x
  | _, _, .nil, _ => rfl
  | y :: xs, u :: us, .cons r t, f => by
    rw [List.all_cons, Bool.and_eq_true] at f
    have ih := countP_eqU (x := x) t f.2
    rw [List.countP_cons, List.countP_cons, ih, eqU_of r f.1]
theorem mt_countF : MtR X "list.count" (rCntF X.K) := by
  intro pins s σ H x xs v us Q I rx rxs h
  obtain ⟨p, ys, y, rfl, rfl, hs, fy, fys, q⟩ := h
  cases rx
  obtain ⟨uy, rfl, ry⟩ := rxs.one
  obtain ⟨its, rv, ⟨⟨cls, dd, data, sl⟩, n, ho, hc, hdn, hd⟩, hlen⟩ := I.list hs
  simp only at hc hd
  subst hc hd
  refine call_meets PySem.F.slot_list_count ⟨_, ho, rfl⟩ PySem.F.entry_list_count (PySem.F.args_list_count_2 _ _)
    (SeqAt.list_countAt p its.toArray n dd sl uy (eqU y)) ⟨ho, fun u' hu' => mem_eqAt ry fy rv fys u' (by simpa using hu'), ?_⟩
  refine ⟨.int (ys.countP (fun z => eqV z y) : Nat), H, I.tok _, ⟨s.toks, ?_⟩, q⟩
  show Value.int ((its.toArray.toList.countP (eqU y) : Nat) : Int) s.toks = _
  rw [List.toList_toArray, countP_eqU rv fys]
end
def clsI (CP CN CV : Addr) : Nat → Addr
  | 0 => CP
  | 1 => CN
  | _ => CV
def wordI : Nat → Str
  | 0 => "prime"
  | 1 => "number"
  | _ => "vectors"
theorem told_of {CP CN CV : Addr} {H : Hp} {vs : List V} {E : XK} {A : Prop} {c i : Nat} (h : Err H (clsI CP CN CV c) (vs.getD i .non) E) : Told CP CN CV H vs E A (some (c, i)) := by
  match c, h with
  | 0, h => exact h
  | 1, h => exact h
  | _ + 2, h => exact h
/-- what the written part says of the classes -/
structure Kinds (K : PySem.W.Frag) (mg : Str → Option Value) (CS CP CN CV : Addr) : Prop where
  gS : mg "StopError" = some (.ref CS)
  gP : mg "InvalidPrime" = some (.ref CP)
  gN : mg "InvalidNumber" = some (.ref CN)
  gV : mg "InvalidVectors" = some (.ref CV)
  A : ∀ c, c < 3 → EoM.ErA K (clsI CP CN CV c)
  noV : ∀ c, c < 3 → PySem.W.findIn K (.ref (clsI CP CN CV c)) "value" = some none
  ve : ∀ c, c < 3 → PySem.W.kitOne K (.ref (clsI CP CN CV c)) (.type "ValueError") = some true
  ex : ∀ c, c < 3 → PySem.W.exmOne K (.ref (clsI CP CN CV c)) (.ref CS) = some true
  kit : ∀ c d, c < 3 → d < 3 → PySem.W.kitOne K (.ref (clsI CP CN CV c)) (.ref (clsI CP CN CV d)) = some (decide (c = d))
/-- what a door is asked with -/
def AskP (H : Hp) (k : Nat) (g : Addr) (vs : List V) (u v x y : V) (du dv dx dy : PyData) : Prop :=
  k ≤ 12 ∧ H g = some (.lst vs) ∧ vs[0]? = some u ∧ vs[1]? = some v ∧ (4 ≤ k → vs[2]? = some x) ∧ (9 ≤ k → vs[3]? = some y) ∧
  ∃ n, Sho n H u du ∧ Sho n H v dv ∧ Sho n H x dx ∧ Sho n H y dy ∧ goodD du ∧ Sm2 dv ∧ Sm2 dx ∧ Sm2 dy
theorem AskP.up {H H' : Hp} {k : Nat} {g : Addr} {vs : List V} {u v x y : V} {du dv dx dy : PyData} (h : AskP H k g vs u v x y du dv dx dy) (s : Same H H') : AskP H' k g vs u v x y du dv dx dy := by
  obtain ⟨h1, h2, h3, h4, h5, h6, n, su, sv, sx, sy, r⟩ := h
  exact ⟨h1, s _ _ h2, h3, h4, h5, h6, n, su.up s, sv.up s, sx.up s, sy.up s, r⟩
def spOnce : Sp := fun as H Q E => ∃ (k : Nat) (g : Addr) (vs : List V) (u v x y : V) (du dv dx dy : PyData) (c i : Nat), as = [.int (k : Int), .ref g] ∧ AskP H k g vs u v x y du dv dx dy ∧ verK k du dv dx dy = some (c, i) ∧ c < 3 ∧
  ∀ (H' : Hp) (r : Addr), Same H H' → H r = none → H' r = some (.lst [.str (wordI c), [u, v, x, y].getD i .non]) → Q (.ref r) H'
section
variable {P : Program} {w : World} {K : PySem.W.Frag} {mg : Str → Option Value} {base : Heap}
theorem ok_once {CS CP CN CV f fC : Addr} {fd fdC : FuncData} (F : Fun K "_law_once" "_law_once" sOnce f fd) (T : Kinds K mg CS CP CN CV) (FC : Fun K "_law_called" "_law_called" sCalled fC fdC) (GC : FnOk P w K mg base (L2.CX P w) 8 fC fdC ["_law_door", "_law_given"] (spCalled CP CN CV)) (gC : mg "_law_called" = some (.ref fC))
    (gI : mg "isinstance" = none) (gE : mg "ValueError" = none) : FnOk P w K mg base CX0 9 f fd ["_law_door", "_law_given"] spOnce := by
  have bC : Binds K fdC ["_law_door", "_law_given"] [] := FC.binds fun _ _ _ _ _ _ us hl => match us, hl with | [_, _], _ => rfl
  refine F.ok scOnce (fun vs H Q E h => ?_) (fun cdv A outer s0 H as Q E hr h => ?_)
  · obtain ⟨k, g, vs, u, v, x, y, du, dv, dx, dy, c, i, rfl, _⟩ := h
    rfl
  · obtain ⟨k, g, vs, u, v, x, y, du, dv, dx, dy, c, i, rfl, ask, ver, c3, want⟩ := h
    obtain ⟨k12, hg, h0, h1, h2, h3, n, su, sv, sx, sy, gd, z1, z2, z3⟩ := ask
    refine ⟨_, (pss_cons (ps_set (i := 2) scOnce.nd rfl (Or.inl rfl) pe_non)
      (pss_cons (ps_try_keep (i := 3) rfl rfl rfl scOnce.nd rfl rfl ⟨rfl, by decide, .inl T.gS⟩ (fun W pn xe tk _ => pss_one (ps_expr (pe_callS GC hr rfl gC FC.kp bC (fun σ => passAt tk σ) (pa_cons (pv 0) (pa_cons (pv 1) pa_nil)))))
        (fun a oe cls d pn hz hf => pss_one (ps_set (i := 2) scOnce.nd rfl (Or.inl rfl) (pv 3))))
      (pss_cons (ps_if (pt_cmpR op_isN (pv 2) pe_non (nomark _))
        (pss_one (ps_ret (pe_lst (pa_cons pe_str (pa_cons pe_non pa_nil)))))
        pss_nil)
      (pss_cons (ps_set (i := 4) scOnce.nd rfl (Or.inl rfl) (pe_lst (pa_cons (pe_callB call_isKept (by rfl) gI boot_isinstance (pa_cons (pv 2) (pa_cons (pe_glob (v := .ref CP) rfl T.gP rfl (by decide)) pa_nil))) (pa_cons (pe_callB call_isKept (by rfl) gI boot_isinstance (pa_cons (pv 2) (pa_cons (pe_glob (v := .ref CN) rfl T.gN rfl (by decide)) pa_nil))) (pa_cons (pe_callB call_isKept (by rfl) gI boot_isinstance (pa_cons (pv 2) (pa_cons (pe_glob (v := .ref CV) rfl T.gV rfl (by decide)) pa_nil))) pa_nil)))))
      (pss_cons (ps_if (PW.pt (pw_or (pt_cmpR op_ne (pe_bm PySem.F.plainAttrs_list PySem.F.slot_list_count PySem.F.type_list_count mt_countF (pv 4) (pa_cons pe_bl pa_nil)) pe_int (nomark _)) (pw_or1 (pt_not (pt_val (pe_callB call_isKept (by rfl) gI boot_isinstance (pa_cons (pv 2) (pa_cons (pe_bltn (v := .ty "ValueError") (by rfl) gE (by decide +kernel) rfl) pa_nil))))))))
        (pss_one (ps_ret (pe_lst (pa_cons pe_str (pa_cons pe_non pa_nil)))))
        pss_nil)
      (pss_one (ps_ret (pe_lst (pa_cons (pe_ix ix_list (pe_lst (pa_cons pe_str (pa_cons pe_str (pa_cons pe_str pa_nil)))) (pe_bm PySem.F.plainAttrs_list PySem.F.slot_list_index PySem.F.type_list_index mt_index (pv 4) (pa_cons pe_bl pa_nil)) (fun _ _ => rfl)) (pa_cons (pe_valK (pv 2)) pa_nil)))))))))), ?_⟩
    refine ⟨_, rfl, _, rfl, k, g, vs, u, v, x, y, du, dv, dx, dy, n, rfl, k12, hg, h0, h1, h2, h3, su, sv, sx, sy, gd, z1, z2, z3, ?_⟩
    rw [ver]
    refine told_of fun dd H1 s1 nd hd => ⟨T.ex c c3, fun a ha => ?_⟩
    have s2 := same_new (o := exk a (.ref (clsI CP CN CV c)) (some dd)) ha
    refine ⟨_, rfl, ?_⟩
    have kept : ∀ {H' : Hp}, Same (upd H1 a (exk a (.ref (clsI CP CN CV c)) (some dd))) H' → KeptAt H' a (clsI CP CN CV c) ([u, v, x, y].getD i .non) := fun sm => ⟨dd, sm _ _ upd_same, sm _ _ (s2 _ _ hd)⟩
    refine ⟨_, rfl, rfl, _, rfl, ?_⟩
    rw [decide_eq_false (show ¬ V.ref a = V.non from fun e => by cases e)]
    refine iteF ?_
    generalize eH : upd H1 a (exk a (.ref (clsI CP CN CV c)) (some dd)) = H2 at s2 kept ⊢
    refine ⟨_, rfl, a, _, _, _, _, _, rfl, T.A c c3, kept same_rfl, ClsV.own _, T.kit c 0 c3 (by decide), ?_⟩
    refine ⟨_, rfl, a, _, _, _, _, _, rfl, T.A c c3, kept same_rfl, ClsV.own _, T.kit c 1 c3 (by decide), ?_⟩
    refine ⟨_, rfl, a, _, _, _, _, _, rfl, T.A c c3, kept same_rfl, ClsV.own _, T.kit c 2 c3 (by decide), ?_⟩
    refine ⟨by show 3 ≤ sizeLine; decide, fun l hl => ?_⟩
    have s3 := same_new (o := .lst [V.bl (decide (c = 0)), V.bl (decide (c = 1)), V.bl (decide (c = 2))]) hl
    generalize eL : upd H2 l (HO.lst [V.bl (decide (c = 0)), V.bl (decide (c = 1)), V.bl (decide (c = 2))]) = H3 at s3 ⊢
    have hl3 : H3 l = some (.lst [V.bl (decide (c = 0)), V.bl (decide (c = 1)), V.bl (decide (c = 2))]) := by rw [← eL]; exact upd_same
    refine ⟨_, rfl, .inl ⟨rfl, _, SqL.of hl3⟩, l, _, V.bl true, rfl, rfl, SqL.of hl3, rfl, rfl, rfl, _, rfl, ?_⟩
    have one : (!decide (V.int (([V.bl (decide (c = 0)), V.bl (decide (c = 1)), V.bl (decide (c = 2))].countP (fun z => eqV z (V.bl true)) : Nat) : Int) = V.int 1)) = false := by
      obtain rfl | rfl | rfl : c = 0 ∨ c = 1 ∨ c = 2 := by omega
      · rfl
      · rfl
      · rfl
    rw [one]
    refine iteF ?_
    refine ⟨_, rfl, a, _, _, _, _, _, rfl, T.A c c3, kept s3, ClsV.ty _, T.ve c c3, _, rfl, iteF ?_⟩
    refine ⟨by show 3 ≤ sizeLine; decide, fun m hm => ?_⟩
    have s4 := same_new (o := .lst [V.str "prime", V.str "number", V.str "vectors"]) hm
    generalize eM : upd H3 m (HO.lst [V.str "prime", V.str "number", V.str "vectors"]) = H4 at s4 ⊢
    have hm4 : H4 m = some (.lst [V.str "prime", V.str "number", V.str "vectors"]) := by rw [← eM]; exact upd_same
    have hl4 := s4 _ _ hl3
    have sAll : Same H H4 := same_trans s1 (same_trans s2 (same_trans s3 s4))
    have last : ∀ (H' : Hp) (r : Addr), Same H4 H' → H4 r = none → H' r = some (.lst [.str (wordI c), [u, v, x, y].getD i .non]) → Q (.ref r) H' := fun H' r sm nr e => want H' r (same_trans sAll sm) (sAll.free nr) e
    refine ⟨_, rfl, .inl ⟨rfl, _, SqL.of hl4⟩, l, _, V.bl true, c, V.bl true, rfl, rfl, SqL.of hl4, rfl, rfl, ?_, rfl, ?_, ?_⟩
    · obtain rfl | rfl | rfl : c = 0 ∨ c = 1 ∨ c = 2 := by omega
      · rfl
      · rfl
      · rfl
    · intro j z hj hz
      obtain rfl | rfl | rfl : c = 0 ∨ c = 1 ∨ c = 2 := by omega
      · omega
      · obtain rfl : j = 0 := by omega
        cases hz
        rfl
      · obtain rfl | rfl : j = 0 ∨ j = 1 := by omega
        · cases hz
          rfl
        · cases hz
          rfl
    · refine ⟨m, _, _, V.str (wordI c), rfl, rfl, SqL.of hm4, atI_nat (j := c) ?_, ?_⟩
      · obtain rfl | rfl | rfl : c = 0 ∨ c = 1 ∨ c = 2 := by omega
        · rfl
        · rfl
        · rfl
      · refine ⟨_, rfl, a, _, _, rfl, T.A c c3, T.noV c c3, kept (same_trans s3 s4), by show 2 ≤ sizeLine; decide, fun r hr => ?_⟩
        exact last _ r (same_new hr) hr upd_same
end
end Vb
end L2

set_option Elab.async false
set_option linter.all false
set_option maxRecDepth 100000
set_option maxHeartbeats 8000000
/-! Vb, part 65: a door called twice. -/
namespace L2
namespace Vb
open PySem PySem.Spec PyProof.Rows
abbrev sHeard : Stmt := topS 58
abbrev nHeard : List Str := ["_law_door", "_law_given", "_law_told"]
theorem scHeard : FnScope nHeard ["_law_door", "_law_given"] (defScope sHeard) := ⟨rfl, rfl, rfl, by decide +kernel, rfl, by decide +kernel, by decide +kernel⟩
theorem flat_self {v : V} {d : PyData} (h : Flat v d) : flatV v = true := by
  rcases h with ⟨rfl, _⟩ | ⟨b, rfl, _⟩ | ⟨i, rfl, _⟩ | ⟨x, rfl, _⟩ <;> rfl
theorem Sho.eqS {n : Nat} {H : Hp} {v : V} {d : PyData} (h : Sho n H v d) : EqS v v true := by
  refine .inl ⟨rfl, ?_, rfl⟩
  cases n with
  | zero => exact .inl (flat_self h)
  | succ n =>
    rcases h with h | ⟨a, _, _, e, _⟩ | ⟨a, _, _, e, _⟩ | ⟨a, e, _⟩
    · exact .inl (flat_self h)
    · exact .inr ⟨a, e⟩
    · exact .inr ⟨a, e⟩
    · exact .inr ⟨a, e⟩
theorem eqS_str (x : Str) : EqS (.str x) (.str x) true := .inl ⟨rfl, .inl rfl, rfl⟩
theorem eqS_four {H : Hp} {k : Nat} {g : Addr} {vs : List V} {u v x y : V} {du dv dx dy : PyData} (h : AskP H k g vs u v x y du dv dx dy) (i : Nat) : EqS ([u, v, x, y].getD i .non) ([u, v, x, y].getD i .non) true := by
  obtain ⟨_, _, _, _, _, _, n, su, sv, sx, sy, _⟩ := h
  match i with
  | 0 => exact su.eqS
  | 1 => exact sv.eqS
  | 2 => exact sx.eqS
  | 3 => exact sy.eqS
  | _ + 4 => exact .inl ⟨rfl, .inl rfl, rfl⟩
section
variable {P : Program} {w : World} {K : PySem.W.Frag} {mg : Str → Option Value} {base : Heap}
theorem ok_heard {f fO : Addr} {fd fdO : FuncData} (F : Fun K "_law_heard" "_law_heard" sHeard f fd) (FO : Fun K "_law_once" "_law_once" sOnce fO fdO) (GO : FnOk P w K mg base CX0 9 fO fdO ["_law_door", "_law_given"] spOnce) (gO : mg "_law_once" = some (.ref fO)) :
    FnOk P w K mg base CX0 10 f fd ["_law_door", "_law_given"] spOnce := by
  have bO : Binds K fdO ["_law_door", "_law_given"] [] := FO.binds fun _ _ _ _ _ _ us hl => match us, hl with | [_, _], _ => rfl
  refine F.ok scHeard (fun vs H Q E h => ?_) (fun cdv A outer s0 H as Q E hr h => ?_)
  · obtain ⟨k, g, vs, u, v, x, y, du, dv, dx, dy, c, i, rfl, _⟩ := h
    rfl
  · obtain ⟨k, g, vs, u, v, x, y, du, dv, dx, dy, c, i, rfl, ask, ver, c3, want⟩ := h
    refine ⟨_, pss_cons (ps_set (i := 2) scHeard.nd rfl (Or.inl rfl) (pe_call GO hr rfl gO FO.kp bO .nil pass0 (pa_cons (pv 0) (pa_cons (pv 1) pa_nil))))
      (pss_one (ps_ret (pe_ifExp (pt_cmpR (op_eqL (Nat.lt_of_le_of_lt (Nat.le_add_right _ _) hr.units)) (pe_call GO hr rfl gO FO.kp bO .nil pass0 (pa_cons (pv 0) (pa_cons (pv 1) pa_nil))) (pv 2) (nomark _)) (pv 2) (pe_lst (pa_cons pe_str (pa_cons pe_non pa_nil)))))), ?_⟩
    refine ⟨_, rfl, _, rfl, k, g, vs, u, v, x, y, du, dv, dx, dy, c, i, rfl, ask, ver, c3, fun H1 r1 s1 n1 e1 => ?_⟩
    refine ⟨_, rfl, _, rfl, k, g, vs, u, v, x, y, du, dv, dx, dy, c, i, rfl, ask.up s1, ver, c3, fun H2 r2 s2 n2 e2 => ?_⟩
    have e1' := s2 _ _ e1
    refine ⟨_, rfl, r2, r1, _, _, _, _, true, true, rfl, rfl, e2, e1', eqS_str _, eqS_four ask i, _, rfl, ?_⟩
    refine iteT ⟨_, rfl, ?_⟩
    exact want H2 r1 (same_trans s1 s2) n1 e1'
end
end Vb
end L2

set_option Elab.async false
set_option linter.all false
set_option maxRecDepth 100000
set_option maxHeartbeats 4000000
/-! Vb, part 16: the draws. -/
namespace L2
namespace Vb
open PySem PySem.Spec PyProof.Rows
abbrev sPurse : Stmt := topS 51
abbrev sMixed : Stmt := topS 52
abbrev sDraw : Stmt := topS 53
abbrev sPurses : Stmt := topS 54
/-- the purse at a: what is left, the seed, the turns so far, its number -/
def Purse (H : Hp) (a : Addr) (p q t i : Int) : Prop := H a = some (.lst [.int p, .int q, .int t, .int i])
abbrev pursed (H : Hp) (a : Addr) (p q t i : Int) : Hp := upd H a (.lst [.int p, .int q, .int t, .int i])
def spMixed : Sp := fun vs H Q _ => ∃ q t i : Int, vs = [.int q, .int t, .int i] ∧ 0 ≤ t ∧ t < 1000000000000 ∧ ∀ n : Int, Q (.int n) H
section
variable {P : Program} {w : World} {K : PySem.W.Frag} {mg : Str → Option Value} {base : Heap}
theorem scMixed : FnScope ["_law_seed", "_law_turn", "_law_at", "_law_mixed_here"] ["_law_seed", "_law_turn", "_law_at"] (defScope sMixed) := ⟨rfl, rfl, rfl, by decide +kernel, rfl, by decide +kernel, by decide +kernel⟩
theorem ok_mixed {f : Addr} {fd : FuncData} (F : Fun K "_law_mixed" "_law_mixed" sMixed f fd) : FnOk P w K mg base CX0 1 f fd ["_law_seed", "_law_turn", "_law_at"] spMixed := by
  refine F.ok scMixed (fun vs H Q E h => ?_) (fun cdv A outer s H vs Q E hr h => ?_)
  · obtain ⟨q, t, i, rfl, _⟩ := h
    rfl
  · obtain ⟨q, t, i, rfl, t0, t1, want⟩ := h
    refine ⟨_, pss_cons (ps_set (i := 3) scMixed.nd rfl (Or.inl rfl) (pe_op op_add (pe_op op_mul (pv 0) pe_int) (pe_op op_mul (pe_op op_mul pe_int (pv 1)) (pv 1))))
      (pss_cons (ps_set (i := 3) scMixed.nd rfl (Or.inl rfl) (pe_op op_mod (pe_op op_add (pe_op op_add (pv 3) (pe_op op_mul pe_int (pv 2))) (pv 1)) pe_int))
      (pss_cons (ps_set (i := 3) scMixed.nd rfl (Or.inl rfl) (pe_op op_mod (pe_op op_add (pe_op op_mul (pv 3) (pv 3)) pe_int) pe_int))
      (pss_one (ps_ret (pe_op op_mod (pe_op op_mul (pv 3) pe_int) pe_int))))), ?_⟩
    refine ⟨_, rfl, _, _, rfl, rfl, .inr ⟨by decide, by decide⟩, _, rfl, _, _, rfl, rfl, .inl ⟨by decide, by decide⟩, _, rfl, _, _, rfl, rfl, .inr ⟨by omega, by omega⟩, _, _, rfl, rfl, ?_⟩
    refine ⟨_, rfl, _, rfl, _, _, rfl, rfl, .inl ⟨by decide, by decide⟩, _, _, rfl, rfl, _, rfl, _, _, rfl, rfl, _, _, rfl, rfl, (by show (0 : Int) < 2147483647; decide), ?_⟩
    refine ⟨_, rfl, _, rfl, _, _, rfl, rfl, .inl ⟨?_, ?_⟩, _, _, rfl, rfl, _, _, rfl, rfl, (by show (0 : Int) < 2147483629; decide), ?_⟩
    · have z := Int.emod_nonneg (q * 69069 + 104729 * t * t + 7919 * i + t) (show (2147483647 : Int) ≠ 0 by decide)
      omega
    · have z := Int.emod_lt_of_pos (q * 69069 + 104729 * t * t + 7919 * i + t) (show (0 : Int) < 2147483647 by decide)
      omega
    refine ⟨_, rfl, _, _, rfl, rfl, .inr ⟨by decide, by decide⟩, _, _, rfl, rfl, (by show (0 : Int) < 2147483587; decide), ?_⟩
    exact want _
/-- a purse with at most n turns -/
def Pur (H : Hp) (a : Addr) (n : Nat) : Prop := ∃ p q t i, Purse H a p q t i ∧ 0 ≤ t ∧ t ≤ (n : Int)
theorem Pur.mono {H : Hp} {a : Addr} {n m : Nat} (h : Pur H a n) (l : n ≤ m) : Pur H a m := by
  obtain ⟨p, q, t, i, e, t0, t1⟩ := h
  exact ⟨p, q, t, i, e, t0, by omega⟩
theorem Pur.same {H H' : Hp} {a : Addr} {n : Nat} (h : Pur H a n) (s : Same H H') : Pur H' a n := by
  obtain ⟨p, q, t, i, e, t0, t1⟩ := h
  exact ⟨p, q, t, i, s _ _ e, t0, t1⟩
theorem Pur.but {H H' : Hp} {a m : Addr} {n : Nat} (h : Pur H a n) (s : But m H H') (ne : a ≠ m) : Pur H' a n := by
  obtain ⟨p, q, t, i, e, t0, t1⟩ := h
  exact ⟨p, q, t, i, s _ ne _ e, t0, t1⟩
theorem Pur.ne {H : Hp} {a b : Addr} {n : Nat} (h : Pur H a n) (e : H b = none) : a ≠ b := by
  obtain ⟨p, q, t, i, e2, _⟩ := h
  exact ne_of_none e2 e
/-- a draw below `many`: what the purse holds behind it, and what is drawn -/
def spDraw : Sp := fun vs H Q _ => ∃ (a : Addr) (m : Int) (n : Nat), vs = [.ref a, .int m] ∧ 0 < m ∧ m < 100000 ∧ Pur H a n ∧ n ≤ 1000000 ∧
  ∀ (H' : Hp) (d : Int), 0 ≤ d → d < m → But a H H' → Pur H' a (n + 1) → Q (.int d) H'
theorem bits28 {m : Int} (h0 : 0 < m) (h1 : m < 100000) : (1 + ((Builtin.Int.intBits m : Nat) : Int) / 28).toNat = 1 := by
  have e : Builtin.Int.intBits m ≤ 17 := PyProof.Rows.intBits_le (k := 17) (by omega)
  omega
theorem at4 {p q t i : Int} : atI [V.int p, V.int q, V.int t, V.int i] 0 = some (.int p) ∧ atI [V.int p, V.int q, V.int t, V.int i] 1 = some (.int q) ∧ atI [V.int p, V.int q, V.int t, V.int i] 2 = some (.int t) ∧ atI [V.int p, V.int q, V.int t, V.int i] 3 = some (.int i) := ⟨rfl, rfl, rfl, rfl⟩
theorem scDraw : FnScope ["_law_purse_here", "_law_many", "_law_drawn", "_law_found", "_law_piece"] ["_law_purse_here", "_law_many"] (defScope sDraw) := ⟨rfl, rfl, rfl, by decide +kernel, rfl, by decide +kernel, by decide +kernel⟩
theorem ok_draw {f fM : Addr} {fd fdM : FuncData} (F : Fun K "_law_draw" "_law_draw" sDraw f fd) (FM : Fun K "_law_mixed" "_law_mixed" sMixed fM fdM) (gM : mg "_law_mixed" = some (.ref fM)) (gR : mg "range" = none) :
    FnOk P w K mg base CX0 2 f fd ["_law_purse_here", "_law_many"] spDraw := by
  have GM : FnOk P w K mg base CX0 1 fM fdM ["_law_seed", "_law_turn", "_law_at"] spMixed := ok_mixed FM
  have bM : Binds K fdM ["_law_seed", "_law_turn", "_law_at"] [] := FM.binds fun _ _ _ _ _ _ us hl => match us, hl with | [_, _, _], _ => rfl
  refine F.ok scDraw (fun vs H Q E h => ?_) (fun cdv A outer s H vs Q E hr h => ?_)
  · obtain ⟨a, m, n, rfl, _⟩ := h
    rfl
  · obtain ⟨a, m, n, rfl, m0, m1, ⟨p, q, t, i, hp, t0, t2⟩, n1, want1⟩ := h
    have t1 : t < 100000000 := by omega
    have want : ∀ p' t' d : Int, 0 ≤ d → d < m → t ≤ t' → t' ≤ t + 1 → Q (.int d) (pursed H a p' q t' i) := fun p' t' d d0 d1 e0 e1 => want1 _ d d0 d1 but_upd ⟨p', q, t', i, upd_same, by omega, by omega⟩
    have hp : H a = some (.lst [.int p, .int q, .int t, .int i]) := hp
    refine ⟨_, pss_cons (ps_if (pt_cmpR op_gt (pe_ix ix_list (pv 0) pe_int (fun _ _ => rfl)) pe_int (nomark _))
        (pss_cons (ps_set (i := 2) scDraw.nd rfl (Or.inl rfl) (pe_op op_mod (pe_ix ix_list (pv 0) pe_int (fun _ _ => rfl)) (pv 1)))
        (pss_cons (ps_asg (pe_op op_fdivW (pe_ix ix_list (pv 0) pe_int (fun _ _ => rfl)) (pv 1)) (pg_sub (pv 0) pe_int set_list))
        (pss_one (ps_ret (pv 2))))) pss_nil)
      (pss_cons (ps_set (i := 3) scDraw.nd rfl (Or.inl rfl) pe_int)
      (pss_cons (ps_for PassesOwn.never rfl (pi_range1 rfl gR (pa_cons (pe_op op_add pe_int (pe_op op_fdiv (pe_bits (pv 1)) pe_int)) pa_nil)) (pg_name (i := 4) scDraw.nd rfl (Or.inl rfl))
        (pss_cons (ps_asg (pe_op op_add (pe_ix ix_list (pv 0) pe_int (fun _ _ => rfl)) pe_int) (pg_sub (pv 0) pe_int set_list))
        (pss_one (ps_set (i := 3) scDraw.nd rfl (Or.inl rfl) (pe_op op_add (pe_op op_mul (pv 3) pe_int)
          (pe_call GM (hr.mono (by decide)) rfl gM FM.kp bM .nil pass0 (pa_cons (pe_ix ix_list (pv 0) pe_int (fun _ _ => rfl)) (pa_cons (pe_ix ix_list (pv 0) pe_int (fun _ _ => rfl)) (pa_cons (pe_ix ix_list (pv 0) pe_int (fun _ _ => rfl)) pa_nil))))))))
      ) (pss_one (ps_ret (pe_op op_mod (pv 3) (pv 1)))))), ?_⟩
    refine ⟨_, rfl, _, _, _, _, rfl, rfl, SqL.of hp, at4.1, _, _, rfl, rfl, _, rfl, ite2 (fun _ => ?_) (fun _ => ?_)⟩
    · refine ⟨_, rfl, _, _, _, _, rfl, rfl, SqL.of hp, at4.1, _, rfl, _, _, rfl, rfl, m0, ?_⟩
      refine ⟨_, rfl, _, _, _, _, rfl, rfl, SqL.of hp, at4.1, _, rfl, _, _, rfl, rfl, wide_div (b := 17) m0 (by omega) (by decide) (by decide), ?_⟩
      refine ⟨_, rfl, _, _, _, 0, rfl, rfl, hp, rfl, ?_⟩
      refine ⟨_, rfl, ?_⟩
      exact want _ t _ (Int.emod_nonneg _ (by omega)) (Int.emod_lt_of_pos _ m0) (Int.le_refl _) (by omega)
    · refine ⟨_, rfl, _, rfl, _, _, rfl, rfl, ⟨by decide, by decide⟩, _, _, rfl, rfl, _, rfl, ?_, ?_, ?_⟩
      · have z : (0 : Int) ≤ ((Builtin.Int.intBits m : Nat) : Int) := Int.natCast_nonneg _
        omega
      · have e : Builtin.Int.intBits m ≤ 17 := PyProof.Rows.intBits_le (k := 17) (by omega)
        omega
      rw [bits28 m0 m1]
      refine for_range (lo := 0) (n := 1) (fun k σ H' => (k = 0 ∧ σ = [some (.ref a), some (.int m), none, some (.int 0), none] ∧ H' = H) ∨ (k = 1 ∧ ∃ (n : Int) (v : Option V), σ = [some (.ref a), some (.int m), none, some (.int n), v] ∧ H' = pursed H a p q (t + 1) i)) (.inl ⟨rfl, rfl, rfl⟩) ?_ ?_
      · rintro k σ H' hk (⟨rfl, rfl, rfl⟩ | ⟨rfl, _⟩)
        · refine ⟨_, rfl, _, _, _, _, rfl, rfl, SqL.of hp, at4.2.2.1, _, _, rfl, rfl, ?_⟩
          refine ⟨_, rfl, _, _, _, 2, rfl, rfl, hp, rfl, ?_⟩
          have hp2 : pursed H' a p q (t + 1) i a = some (.lst [.int p, .int q, .int (t + 1), .int i]) := upd_same
          refine ⟨_, rfl, _, _, rfl, rfl, .inr ⟨by decide, by decide⟩, _, rfl, _, _, _, _, rfl, rfl, SqL.of hp2, at4.2.1, _, rfl, _, _, _, _, rfl, rfl, SqL.of hp2, at4.2.2.1, _, rfl, _, _, _, _, rfl, rfl, SqL.of hp2, at4.2.2.2, ?_⟩
          refine ⟨_, _, _, rfl, by omega, by omega, fun n => ⟨_, _, rfl, rfl, ?_⟩⟩
          exact .inr ⟨rfl, _, _, rfl, rfl⟩
        · omega
      · rintro σ H' (⟨z, _⟩ | ⟨_, n, v, rfl, rfl⟩)
        · omega
        · refine ⟨_, rfl, _, rfl, _, _, rfl, rfl, m0, ?_⟩
          exact want _ _ _ (Int.emod_nonneg _ (by omega)) (Int.emod_lt_of_pos _ m0) (by omega) (Int.le_refl _)
end
/-- ten to the sixty, to the eight -/
def CPowT (i j : Int) : Prop := i = 10 ^ 60 ∧ j = 8
theorem op_powT {X : Cx} : OpR X (binaryOp .Pow) (rI CPowT fun i j => .int (i ^ j.toNat)) := opI fun i j t u s Q E hc q => by
  obtain ⟨rfl, rfl⟩ := hc
  exact PySem.AutoIntOps.pow_4 (by decide) (by decide) (by decide +kernel) (by decide +kernel) (by decide +kernel) q
theorem ten18 : (10 : Int) ^ (18 : Int).toNat = 1000000000000000000 := by decide +kernel
theorem cut_ints (ns : List Int) (lo hi : Option Int) : ∃ ms : List Int, cutV (ns.map V.int) lo hi = ms.map V.int := by
  refine ⟨(ns.drop (HT.sIx (ns.map V.int).length 0 lo)).take (HT.sIx (ns.map V.int).length (ns.map V.int).length hi - HT.sIx (ns.map V.int).length 0 lo), ?_⟩
  unfold cutV
  rw [List.map_take, List.map_drop]
def spPurse (K : PySem.W.Frag) : Sp := fun vs H Q _ => ∃ (s : Addr) (ns : List Int) (i : Int), vs = [.ref s, .int i] ∧ SqL K H s (ns.map V.int) ∧ ∀ (H' : Hp) (a : Addr) (p q : Int), Same H H' → H a = none → Purse H' a p q 0 i → Q (.ref a) H'
def spPurses (K : PySem.W.Frag) : Sp := fun vs H Q _ => ∃ (s : Addr) (ns : List Int) (few : Int), vs = [.ref s, .int few] ∧ SqL K H s (ns.map V.int) ∧ ns.length ≤ 63 ∧ 0 ≤ few ∧ few ≤ 100 ∧
  ∀ (H' : Hp) (l : Addr) (as : List Addr), Same H H' → H l = none → H' l = some (.lst (as.map V.ref)) → as.length ≤ 100 → as.Nodup → (∀ a ∈ as, H a = none ∧ a ≠ l ∧ ∃ p q i, Purse H' a p q 0 i) → Q (.ref l) H'
section
variable {P : Program} {w : World} {K : PySem.W.Frag} {mg : Str → Option Value} {base : Heap}
theorem scPurse : FnScope ["_law_script", "_law_at", "_law_seed"] ["_law_script", "_law_at"] (defScope sPurse) := ⟨rfl, rfl, rfl, by decide +kernel, rfl, by decide +kernel, by decide +kernel⟩
theorem ok_purse {f : Addr} {fd : FuncData} (F : Fun K "_law_purse" "_law_purse" sPurse f fd) (gS : mg "sum" = none) (gM : mg "max" = none) : FnOk P w K mg base CX0 1 f fd ["_law_script", "_law_at"] (spPurse K) := by
  refine F.ok scPurse (fun vs H Q E h => ?_) (fun cdv A outer s H vs Q E hr h => ?_)
  · obtain ⟨s, ns, i, rfl, _⟩ := h
    rfl
  · obtain ⟨sc, ns, i, rfl, hs, want⟩ := h
    refine ⟨_, pss_cons (ps_set (i := 2) scPurse.nd rfl (Or.inl rfl) (pe_callB (cr_sum rfl) (by rfl) gS boot_sum (pa_cons (pe_slice sl_list (pv 0) (po_some (pv 1)) (po_some (pe_op op_add (pv 1) pe_int))) pa_nil)))
      (pss_one (ps_ret (pe_lst (pa_cons (pe_op op_mod (pe_callB (call_max2 rfl) (by rfl) gM boot_max (pa_cons (pe_op op_sub (pv 2) (pe_op op_pow pe_int pe_int)) (pa_cons pe_int pa_nil))) (pe_op op_powT (pe_op op_pow pe_int pe_int) pe_int))
        (pa_cons (pe_op op_mod (pv 2) pe_int) (pa_cons pe_int (pa_cons (pv 1) pa_nil))))))), ?_⟩
    refine ⟨_, rfl, _, rfl, i, rfl, _, rfl, _, _, rfl, rfl, i + 1, rfl, sc, _, rfl, hs, fun c hc => ?_⟩
    obtain ⟨ms, em⟩ := cut_ints ns (some i) (some (i + 1))
    have hcm : upd H c (.lst (cutV (ns.map V.int) (some i) (some (i + 1)))) c = some (.lst (ms.map V.int)) := by
      rw [upd_same, em]
    refine ⟨c, ms, rfl, SqL.of hcm, ?_⟩
    refine ⟨_, rfl, _, _, rfl, rfl, ⟨by decide, by decide, by decide⟩, _, _, rfl, rfl, _, _, rfl, _, _, rfl, rfl, ⟨by decide, by decide, by decide⟩, _, _, rfl, rfl, ⟨by decide +kernel, rfl⟩, _, _, rfl, rfl, (by show (0 : Int) < (10 ^ Int.toNat 60) ^ Int.toNat 8; decide +kernel), ?_⟩
    refine ⟨_, rfl, _, _, rfl, rfl, (by show (0 : Int) < 2147483629; decide), _, rfl, (by show 4 ≤ sizeLine; decide), fun a ha => ?_⟩
    have nac : a ≠ c := fun z => by
      rw [z, upd_same] at ha
      cases ha
    have ha0 : H a = none := (upd_ne nac).symm.trans ha
    refine want _ a _ _ (fun b o e => ?_) ha0 upd_same
    rw [upd_ne (ne_of_none e ha0), upd_ne (ne_of_none e hc)]
    exact e
theorem scPurses : FnScope ["_law_script", "_law_few", "_law_at"] ["_law_script", "_law_few"] (defScope sPurses) := ⟨rfl, rfl, rfl, by decide +kernel, rfl, by decide +kernel, by decide +kernel⟩
theorem ok_purses {f fP : Addr} {fd fdP : FuncData} (F : Fun K "_law_purses" "_law_purses" sPurses f fd) (FP : Fun K "_law_purse" "_law_purse" sPurse fP fdP) (gP : mg "_law_purse" = some (.ref fP)) (gS : mg "sum" = none) (gX : mg "max" = none) (gN : mg "min" = none) (gR : mg "range" = none) (gL : mg "len" = none) :
    FnOk P w K mg base CX0 2 f fd ["_law_script", "_law_few"] (spPurses K) := by
  have GP : FnOk P w K mg base CX0 1 fP fdP ["_law_script", "_law_at"] (spPurse K) := ok_purse FP gS gX
  have bP : Binds K fdP ["_law_script", "_law_at"] [] := FP.binds fun _ _ _ _ _ _ us hl => match us, hl with | [_, _], _ => rfl
  refine F.ok scPurses (fun vs H Q E h => ?_) (fun cdv A outer s H vs Q E hr h => ?_)
  · obtain ⟨s, ns, few, rfl, _⟩ := h
    rfl
  · obtain ⟨sc, ns, few, rfl, hs, len63, few0, few1, want⟩ := h
    refine ⟨_, pss_one (ps_ret (pe_lc (own := [("_law_at", 2)]) (g := gName 2) (tt := tYes) rfl scPurses.nd
      (pi_range1 rfl gR (pa_cons (pe_callB (call_max2 rfl) (by rfl) gX boot_max (pa_cons pe_int (pa_cons (pe_callB (call_min2 rfl) (by rfl) gN boot_min (pa_cons (pv 1) (pa_cons (pe_callB call_len_seq (by rfl) gL PySem.boot_len (pa_cons (pv 0) pa_nil)) pa_nil))) pa_nil))) pa_nil))
      (blkOk_by (N := ["_law_script", "_law_few", "_law_at"]) (sc := defScope sPurses) (by decide +kernel)) (fun _ _ _ _ _ => pg_name (i := 2) scPurses.nd rfl (Or.inl rfl)) (fun _ _ _ _ _ => pts_nil)
      (fun _ _ _ _ _ => pe_call GP (hr.mono (by decide)) rfl gP FP.kp bP .nil pass0 (pa_cons (pv 0) (pa_cons (pv 2) pa_nil))))), ?_⟩
    refine ⟨_, rfl, _, rfl, sc, _, rfl, .inl hs, _, _, rfl, _, _, rfl, _, rfl, ?_, ?_, ?_⟩
    · rw [List.length_map]
      split <;> split <;> omega
    · rw [List.length_map]
      split <;> split <;> omega
    intro D hD
    obtain ⟨n, hn, n100⟩ : ∃ n : Nat, (if (if ((ns.map V.int).length : Int) < few then ((ns.map V.int).length : Int) else few) > 1 then (if ((ns.map V.int).length : Int) < few then ((ns.map V.int).length : Int) else few) else 1).toNat = n ∧ n ≤ 100 := ⟨_, rfl, by
      rw [List.length_map]
      split <;> split <;> omega⟩
    rw [hn]
    refine lc_range (lo := 0) (n := n) (fun k H' => Same H H' ∧ ∃ as : List Addr, as.length = k ∧ H' D = some (.lst (as.map V.ref)) ∧ as.Nodup ∧ ∀ a ∈ as, H a = none ∧ a ≠ D ∧ ∃ p q i, Purse H' a p q 0 i)
      ⟨fun b o e => by rw [upd_ne (ne_of_none e hD)]; exact e, [], rfl, upd_same, List.nodup_nil, fun a z => (List.not_mem_nil z).elim⟩ ?_ ?_
    · rintro k H' hk ⟨sm, as, la, hDl, nod, hall⟩
      refine ⟨rfl, tyes ?_⟩
      refine ⟨_, rfl, _, rfl, sc, ns, _, rfl, sm.seq hs, fun H2 a p q s2 na pu => ?_⟩
      have hD2 := s2 _ _ hDl
      have naD : a ≠ D := fun z => by
        rw [z, hDl] at na
        cases na
      refine ⟨_, hD2, by rw [List.length_map, la, sizeLine_eq]; omega, ?_⟩
      refine ⟨fun b o e => ?_, as ++ [a], by rw [List.length_append, la]; rfl, ?_, ?_, fun x hx => ?_⟩
      · rw [upd_ne (ne_of_none e hD)]
        exact s2 _ _ (sm _ _ e)
      · rw [upd_same, List.map_append]
        rfl
      · refine List.nodup_append.mpr ⟨nod, by simp, fun x mx y my e => ?_⟩
        rw [List.mem_singleton.mp my] at e
        obtain ⟨_, _, p1, q1, i1, pu1⟩ := hall x mx
        have z : H' x = some _ := pu1
        rw [e, na] at z
        cases z
      · rcases List.mem_append.mp hx with z | z
        · obtain ⟨e1, e2, p1, q1, i1, pu1⟩ := hall x z
          refine ⟨e1, e2, p1, q1, i1, ?_⟩
          unfold Purse
          rw [upd_ne e2]
          exact s2 _ _ pu1
        · rw [List.mem_singleton.mp z]
          refine ⟨sm.free na, naD, p, q, 0 + (k : Int), ?_⟩
          unfold Purse
          rw [upd_ne naD]
          exact pu
    · rintro H' ⟨sm, as, la, hDl, nod, hall⟩
      exact want H' D as sm hD hDl (by omega) nod hall
end
end Vb
end L2

set_option Elab.async false
set_option linter.all false
set_option maxRecDepth 100000
set_option maxHeartbeats 4000000
/-! Vb, part 62: drawn numbers. -/
namespace L2
namespace Vb
open PySem PySem.Spec PyProof.Rows
abbrev sNums : Stmt := topS 55
abbrev nNums : List Str := ["_law_purse_here", "_law_the_prime", "_law_many", "_law_turn"]
theorem but_new {m a : Addr} {H : Hp} {o : HO} (h : H a = none) : But m H (upd H a o) := but_same (same_new h)
theorem but_set {m a : Addr} {H H' : Hp} {o : HO} (x : But m H H') (n : a ≠ m) (h : H a = none) : But m H (upd H' a o) := fun b nb u e => by rw [upd_ne (ne_of_none e h)]; exact x b nb u e
theorem but_free {m b : Addr} {H H' : Hp} (x : But m H H') (n : b ≠ m) (h : H' b = none) : H b = none := by
  cases e : H b with
  | none => rfl
  | some o =>
    rw [x b n o e] at h
    cases h
theorem but_rws {m : Addr} {H H' : Hp} {as : List Addr} {T : List (List Int)} (x : But m H H') (h : Rws H as T) (n : ∀ b ∈ as, b ≠ m) : Rws H' as T := h.mono fun b mb o e => x b (n b mb) o e
section
variable {P : Program} {w : World} {K : PySem.W.Frag} {mg : Str → Option Value} {base : Heap}
def spNums : Sp := fun vs H Q _ => ∃ (a : Addr) (p n t : Nat), vs = [.ref a, .int (p : Int), .int (n : Int)] ∧ 0 < p ∧ p < 100000 ∧ n ≤ 100 ∧ Pur H a t ∧ t ≤ 1000 ∧
  ∀ (H' : Hp) (d : Addr) (xs : List Int), But a H H' → Pur H' a (t + n) → H d = none → Rw H' d xs → Vc (p : Int) n xs → Q (.ref d) H'
theorem scNums : FnScope nNums ["_law_purse_here", "_law_the_prime", "_law_many"] (defScope sNums) := ⟨rfl, rfl, rfl, by decide +kernel, rfl, by decide +kernel, by decide +kernel⟩
theorem ok_nums {f fD : Addr} {fd fdD : FuncData} (F : Fun K "_law_numbers" "_law_numbers" sNums f fd) (FD : Fun K "_law_draw" "_law_draw" sDraw fD fdD) (GD : FnOk P w K mg base CX0 2 fD fdD ["_law_purse_here", "_law_many"] spDraw) (gD : mg "_law_draw" = some (.ref fD)) (gR : mg "range" = none) :
    FnOk P w K mg base CX0 3 f fd ["_law_purse_here", "_law_the_prime", "_law_many"] spNums := by
  have bD : Binds K fdD ["_law_purse_here", "_law_many"] [] := FD.binds fun _ _ _ _ _ _ us hl => match us, hl with | [_, _], _ => rfl
  refine F.ok scNums (fun vs H Q E h => ?_) (fun cdv A outer s0 H vs Q E hr h => ?_)
  · obtain ⟨a, p, n, t, rfl, _⟩ := h
    rfl
  · obtain ⟨a, p, n, t, rfl, p0, p1, n1, hp, t1, want⟩ := h
    refine ⟨_, pss_one (ps_ret (pe_lc (own := [("_law_turn", 3)]) (g := gName 3) (tt := tYes) rfl scNums.nd (pi_range1 rfl gR (pa_cons (pv 2) pa_nil))
          (blkOk_by (N := nNums) (sc := defScope sNums) (by decide +kernel)) (fun _ _ _ _ _ => pg_name (i := 3) scNums.nd rfl (Or.inl rfl)) (fun _ _ _ _ _ => pts_nil)
          (fun _ _ _ _ _ => pe_call GD hr rfl gD FD.kp bD .nil pass0 (pa_cons (pv 0) (pa_cons (pv 1) pa_nil))))), ?_⟩
    refine ⟨_, rfl, (n : Int), rfl, by omega, by omega, ?_⟩
    intro D hD
    rw [Int.toNat_natCast]
    have naD : a ≠ D := hp.ne hD
    refine lc_range (lo := 0) (n := n) (fun k H' => But a H H' ∧ Pur H' a (t + k) ∧ ∃ xs : List Int, Rw H' D xs ∧ Vc (p : Int) k xs) ⟨but_new hD, hp.same (same_new hD), [], upd_same, rfl, fun x m => nomatch m⟩ ?_ ?_
    · rintro k H' hk ⟨bt, hp', xs, hx, vx⟩
      have hx' : H' D = some (.lst (xs.map V.int)) := hx
      refine ⟨rfl, tyes ?_⟩
      refine ⟨_, rfl, _, rfl, a, (p : Int), t + k, rfl, by omega, by omega, hp', by omega, fun H2 d d0 d1 b2 hp2 => ?_⟩
      refine ⟨_, b2 D (Ne.symm naD) _ hx', by rw [List.length_map, vx.1, sizeLine_eq]; omega, but_set (bt.trans b2) (Ne.symm naD) hD, ?_, xs ++ [d], ?_, by rw [List.length_append, vx.1]; rfl, fun x m => ?_⟩
      · obtain ⟨q1, q2, q3, q4, e, q5, q6⟩ := hp2
        exact ⟨q1, q2, q3, q4, (upd_ne naD).trans e, q5, by omega⟩
      · show upd H2 D _ D = _
        rw [upd_same, List.map_append]
        rfl
      · rcases List.mem_append.mp m with z | z
        · exact vx.2 x z
        · rw [List.mem_singleton.mp z]
          exact ⟨d0, d1⟩
    · rintro H' ⟨bt, hp', xs, hx, vx⟩
      exact want H' D xs bt hp' hD hx vx
end
end Vb
end L2

set_option Elab.async false
set_option linter.all false
set_option maxRecDepth 100000
set_option maxHeartbeats 8000000
/-! Vb, part 66: written data, laid. -/
namespace L2
namespace Vb
open PySem PySem.Spec PyProof.Rows
/-- the expression lays the data d (at most n deep), new things alone -/
def Lays (te : TE) (n : Nat) (σ : St) (H0 : Hp) (d : PyData) : Prop := ∀ (H : Hp) (Q : VK), Same H0 H → (∀ v H', Same H H' → Sho n H' v d → Q v H') → te σ H Q
def LaysA (ta : TA) (n : Nat) (σ : St) (H0 : Hp) (ds : List PyData) : Prop := ∀ (H : Hp) (Q : List V → Hp → Prop), Same H0 H → (∀ vs H', Same H H' → Paired (Sho n H') vs ds → Q vs H') → ta σ H Q
section
variable {n : Nat} {σ : St} {H0 : Hp}
theorem Sho.flat {H : Hp} {v : V} {d : PyData} (f : Flat v d) : Sho n H v d := by
  cases n with
  | zero => exact f
  | succ n => exact .inl f
theorem lays_c {v : V} {d : PyData} (f : Flat v d) : Lays (tC v) n σ H0 d := fun H Q s q => q v H same_rfl (Sho.flat f)
theorem lays_int (i : Int) : Lays (tC (.int i)) n σ H0 (.int i) := lays_c (.inr (.inr (.inl ⟨i, rfl, rfl⟩)))
theorem lays_bl (b : Bool) : Lays (tC (.bl b)) n σ H0 (.bool b) := lays_c (.inr (.inl ⟨b, rfl, rfl⟩))
theorem lays_non : Lays (tC .non) n σ H0 .none := lays_c (.inl ⟨rfl, rfl⟩)
theorem lays_str (x : Str) : Lays (tC (.str x)) n σ H0 (.str x) := lays_c (.inr (.inr (.inr ⟨x, rfl, rfl⟩)))
theorem lays_var {i : Nat} {v : V} {d : PyData} (e : σ[i]? = some (some v)) (f : Sho n H0 v d) : Lays (tVar i) n σ H0 d := fun H Q s q => ⟨v, e, q v H same_rfl (f.up s)⟩
theorem laysA_nil : LaysA tNil n σ H0 [] := fun H Q s q => q [] H same_rfl .nil
theorem laysA_cons {te : TE} {ta : TA} {d : PyData} {ds : List PyData} (h : Lays te n σ H0 d) (k : LaysA ta n σ H0 ds) : LaysA (tCons te ta) n σ H0 (d :: ds) := fun H Q s q =>
  h H _ s fun v H1 s1 e1 => k H1 _ (same_trans s s1) fun vs H2 s2 e2 => q (v :: vs) H2 (same_trans s1 s2) (.cons (e1.up s2) e2)
theorem lays_lst {ta : TA} {ds : List PyData} (h : LaysA ta n σ H0 ds) (l : ds.length ≤ 1000) : Lays (tLst ta) (n + 1) σ H0 (.list ds) := fun H Q s q =>
  h H _ s fun vs H1 s1 e1 => ⟨by rw [paired_len e1, sizeLine_eq]; omega, fun p hp => q _ _ (same_trans s1 (same_new hp)) (Sho.lst upd_same (L2.Paired.mapP e1 fun _ _ z => z.up (same_new hp)))⟩
theorem lays_tup {ta : TA} {ds : List PyData} (h : LaysA ta n σ H0 ds) (l : ds.length ≤ 1000) : Lays (tTup ta) (n + 1) σ H0 (.tuple ds) := fun H Q s q =>
  h H _ s fun vs H1 s1 e1 => ⟨by rw [paired_len e1, sizeLine_eq]; omega, fun p hp => q _ _ (same_trans s1 (same_new hp)) (Sho.tup upd_same (L2.Paired.mapP e1 fun _ _ z => z.up (same_new hp)))⟩
theorem lays_dct : Lays tDNewK (n + 1) σ H0 (.dict []) := fun H Q s q p hp => q _ _ (same_new hp) (Sho.dct upd_same)
theorem paired_app {α β : Type} {R : α → β → Prop} : ∀ {xs ys : List α} {as bs : List β}, Paired R xs as → Paired R ys bs → Paired R (xs ++ ys) (as ++ bs)
  | _, _, _, _, .nil, k => k
  | _, _, _, _, .cons r t, k => .cons r (paired_app t k)
theorem lays_cat {ta tb : TE} {xs ys : List PyData} (h : Lays ta (n + 1) σ H0 (.list xs)) (k : Lays tb (n + 1) σ H0 (.list ys)) (l : xs.length + ys.length ≤ 1000) : Lays (tOp rCat ta tb) (n + 1) σ H0 (.list (xs ++ ys)) := fun H Q s q =>
  h H _ s fun v H1 s1 e1 => k H1 _ (same_trans s s1) fun w H2 s2 e2 => by
    have e1 := e1.up s2
    obtain ⟨m1, a, us, q1, rfl, ha, p1⟩ := e1.ofList
    obtain ⟨m2, b, ws, q2, rfl, hb, p2⟩ := e2.ofList
    cases q1
    cases q2
    refine ⟨a, b, us, ws, rfl, rfl, ha, hb, by rw [paired_len p1, paired_len p2, sizeLine_eq]; omega, fun p hp => ?_⟩
    exact q _ _ (same_trans s1 (same_trans s2 (same_new hp))) (Sho.lst upd_same (paired_app (L2.Paired.mapP p1 fun _ _ z => z.up (same_new hp)) (L2.Paired.mapP p2 fun _ _ z => z.up (same_new hp))))
theorem paired_take {α β : Type} {R : α → β → Prop} : ∀ (k : Nat) {xs : List α} {as : List β}, Paired R xs as → Paired R (xs.take k) (as.take k)
  | 0, _, _, _ => .nil
  | k + 1, _, _, .nil => .nil
  | k + 1, _, _, .cons r t => .cons r (paired_take k t)
theorem paired_drop {α β : Type} {R : α → β → Prop} : ∀ (k : Nat) {xs : List α} {as : List β}, Paired R xs as → Paired R (xs.drop k) (as.drop k)
  | 0, _, _, h => h
  | k + 1, _, _, .nil => .nil
  | k + 1, _, _, .cons r t => paired_drop k t
theorem lays_take {K : PySem.W.Frag} {te : TE} {th : TO} {ds : List PyData} {k : Nat} (h : Lays te (n + 1) σ H0 (.list ds)) (hh : ∀ H R, R (some (k : Int)) H → th σ H R) {tl : TO} (hl : ∀ H R, R none H → tl σ H R) : Lays (tSl (rSlL K) te tl th) (n + 1) σ H0 (.list (ds.take k)) := fun H Q s q =>
  h H _ s fun v H1 s1 e1 => hl _ _ (hh _ _ (by
    obtain ⟨m1, a, us, q1, rfl, ha, p1⟩ := e1.ofList
    cases q1
    refine ⟨a, us, rfl, SqL.of ha, fun p hp => ?_⟩
    rw [cut_take]
    exact q _ _ (same_trans s1 (same_new hp)) (Sho.lst upd_same (paired_take k (L2.Paired.mapP p1 fun _ _ z => z.up (same_new hp))))))
theorem lays_drop {K : PySem.W.Frag} {te : TE} {th : TO} {ds : List PyData} {k : Nat} (h : Lays te (n + 1) σ H0 (.list ds)) {tl : TO} (hl : ∀ H R, R (some (k : Int)) H → tl σ H R) (hh : ∀ H R, R none H → th σ H R) : Lays (tSl (rSlL K) te tl th) (n + 1) σ H0 (.list (ds.drop k)) := fun H Q s q =>
  h H _ s fun v H1 s1 e1 => hl _ _ (hh _ _ (by
    obtain ⟨m1, a, us, q1, rfl, ha, p1⟩ := e1.ofList
    cases q1
    refine ⟨a, us, rfl, SqL.of ha, fun p hp => ?_⟩
    rw [cut_drop]
    exact q _ _ (same_trans s1 (same_new hp)) (Sho.lst upd_same (paired_drop k (L2.Paired.mapP p1 fun _ _ z => z.up (same_new hp))))))
def rTupOf (K : PySem.W.Frag) : List V → Hp → VK → Prop := fun xs H Q => ∃ p ys, xs = [.ref p] ∧ ((SqL K H p ys ∧ ∀ l, H l = none → Q (.ref l) (upd H l (.tup ys))) ∨ (SqT K H p ys ∧ Q (.ref p) H))
theorem lays_tupOf {K : PySem.W.Frag} {te : TE} {ds : List PyData} (h : Lays te (n + 1) σ H0 (.list ds)) : Lays (tCB (rTupOf K) (tCons te tNil)) (n + 1) σ H0 (.tuple ds) := fun H Q s q =>
  h H _ s fun v H1 s1 e1 => by
    obtain ⟨m1, a, us, q1, rfl, ha, p1⟩ := e1.ofList
    cases q1
    exact ⟨a, us, rfl, .inl ⟨SqL.of ha, fun p hp => q _ _ (same_trans s1 (same_new hp)) (Sho.tup upd_same (L2.Paired.mapP p1 fun _ _ z => z.up (same_new hp)))⟩⟩
theorem lays_pow {i j : Int} (h : 0 ≤ j ∧ j ≤ 1000000 ∧ i.natAbs < 2 ^ 64) : Lays (tOp (rI CPow fun i j => .int (i ^ j.toNat)) (tC (.int i)) (tC (.int j))) n σ H0 (.int (i ^ j.toNat)) := fun H Q s q => ⟨i, j, rfl, rfl, h, q _ H same_rfl (Sho.int _)⟩
end
/-! ### data of few and short things -/
def okL : Nat → PyData → Bool
  | _, .none => true
  | _, .bool _ => true
  | _, .int i => decide (i.natAbs < 100000)
  | _, .str x => decide ((reprText x).length ≤ 2000)
  | _, .dict kvs => kvs.isEmpty
  | n + 1, .list ds => decide (ds.length ≤ 10) && ds.all (okL n)
  | n + 1, .tuple ds => decide (ds.length ≤ 10) && ds.all (okL n)
  | 0, .list _ => false
  | 0, .tuple _ => false
def capL : Nat → Nat
  | 0 => 2000
  | n + 1 => 10 * capL n + 23
theorem cap_ge : ∀ n, 2000 ≤ capL n
  | 0 => Nat.le_refl _
  | n + 1 => by
    have := cap_ge n
    show 2000 ≤ 10 * capL n + 23
    omega
theorem log_abs {x : Int} (h : x.natAbs < 100000) : x.natAbs.log2 < 17 := by
  by_cases z : x.natAbs = 0
  · rw [z]
    decide
  · exact (Nat.log2_lt z).mpr (by omega)
def GoodL (n : Nat) (d : PyData) : Prop := d.showable = true ∧ d.shown.length ≤ capL n ∧ d.depth ≤ n + 1
theorem goodL_all {n : Nat} : ∀ ds : List PyData, (∀ d ∈ ds, GoodL n d) → PyData.showableAll ds = true ∧ ((PyData.shownAll ds).map (·.length)).sum ≤ capL n * ds.length ∧ (PyData.shownAll ds).length = ds.length ∧ PyData.depthAll ds ≤ n + 1
  | [], _ => ⟨rfl, Nat.le_refl _, rfl, Nat.zero_le _⟩
  | d :: ds, h => by
    obtain ⟨i1, i2, i3, i4⟩ := goodL_all ds fun x m => h x (List.mem_cons_of_mem _ m)
    obtain ⟨a, b, c⟩ := h d List.mem_cons_self
    refine ⟨?_, ?_, congrArg (· + 1) i3, ?_⟩
    · show (PyData.showable d && PyData.showableAll ds) = true
      rw [a, i1]
      rfl
    · show d.shown.length + ((PyData.shownAll ds).map (·.length)).sum ≤ capL n * (ds.length + 1)
      rw [Nat.mul_succ]
      omega
    · rw [PyData.depthAll]
      exact Nat.max_le.mpr ⟨c, i4⟩
theorem goodL : ∀ (n : Nat) (d : PyData), okL n d = true → GoodL n d
  | n, .none, _ => ⟨rfl, Nat.le_trans (by decide +kernel) (cap_ge n), by rw [PyData.depth]; exact Nat.zero_le _⟩
  | n, .bool b, _ => ⟨rfl, Nat.le_trans (by cases b <;> decide +kernel) (cap_ge n), by rw [PyData.depth]; exact Nat.zero_le _⟩
  | n, .int i, h => by
    have h : i.natAbs < 100000 := by
      cases n <;> exact of_decide_eq_true h
    have l := log_abs h
    exact ⟨decide_eq_true (by omega), Nat.le_trans (int_text_len_1921 (by omega)) (Nat.le_trans (by decide) (cap_ge n)), by rw [PyData.depth]; exact Nat.zero_le _⟩
  | n, .str x, h => by
    have h : (reprText x).length ≤ 2000 := by
      cases n <;> exact of_decide_eq_true h
    exact ⟨rfl, Nat.le_trans h (cap_ge n), by rw [PyData.depth]; exact Nat.zero_le _⟩
  | n, .dict kvs, h => by
    have e : kvs = [] := by
      have h : kvs.isEmpty = true := by
        cases n <;> exact h
      exact List.isEmpty_iff.mp h
    subst e
    exact ⟨rfl, Nat.le_trans (by decide +kernel) (cap_ge n), by
      rw [PyData.depth]
      show 0 + 1 ≤ n + 1
      omega⟩
  | 0, .list _, h => by cases h
  | 0, .tuple _, h => by cases h
  | n + 1, .list ds, h => by
    obtain ⟨h1, h2⟩ := He.ba h
    have h1 := of_decide_eq_true h1
    obtain ⟨k1, k2, k3, k4⟩ := goodL_all ds fun d m => goodL n d (List.all_eq_true.mp h2 d m)
    refine ⟨k1, ?_, by rw [PyData.depth]; omega⟩
    show (listText (PyData.shownAll ds)).length ≤ 10 * capL n + 23
    have z := listText_len_le (PyData.shownAll ds)
    have z2 : capL n * ds.length ≤ capL n * 10 := Nat.mul_le_mul_left _ h1
    rw [k3] at z
    omega
  | n + 1, .tuple ds, h => by
    obtain ⟨h1, h2⟩ := He.ba h
    have h1 := of_decide_eq_true h1
    obtain ⟨k1, k2, k3, k4⟩ := goodL_all ds fun d m => goodL n d (List.all_eq_true.mp h2 d m)
    refine ⟨k1, ?_, by rw [PyData.depth]; omega⟩
    show (tupleText (PyData.shownAll ds)).length ≤ 10 * capL n + 23
    have z := tupleText_len_le (PyData.shownAll ds)
    have z2 : capL n * ds.length ≤ capL n * 10 := Nat.mul_le_mul_left _ h1
    rw [k3] at z
    omega
theorem ok_rep {d : PyData} (h : okL 3 d = true) : d.showable = true ∧ d.depth ≤ 30 ∧ d.shown.length ≤ sizeLine := by
  obtain ⟨a, b, c⟩ := goodL 3 d h
  refine ⟨a, by omega, ?_⟩
  rw [sizeLine_eq]
  have : capL 3 = 2002553 := by decide
  omega
theorem ok_sm1 {n : Nat} {d : PyData} (h : okL n d = true) : Sm1 d := fun ds e => by
  subst e
  cases n with
  | zero => cases h
  | succ n =>
    have := of_decide_eq_true (He.ba h).1
    omega
theorem ok_sm2 {n : Nat} {d : PyData} (h : okL n d = true) : Sm2 d := fun ds e => by
  subst e
  cases n with
  | zero => cases h
  | succ n =>
    obtain ⟨h1, h2⟩ := He.ba h
    have := of_decide_eq_true h1
    exact ⟨by omega, fun e m => ok_sm1 (List.all_eq_true.mp h2 e m)⟩
end Vb
end L2

set_option Elab.async false
set_option linter.all false
set_option maxRecDepth 100000
set_option maxHeartbeats 8000000
/-! Vb, part 67: what are no vectors. -/
namespace L2
namespace Vb
open PySem PySem.Spec PyProof.Rows
abbrev sBadV : Stmt := topS 59
abbrev nBadV : List Str := ["_law_good", "_law_found", "_law_one"]
theorem scBadV : FnScope nBadV ["_law_good"] (defScope sBadV) := ⟨rfl, rfl, rfl, by decide +kernel, rfl, by decide +kernel, by decide +kernel⟩
theorem lays_neg {n : Nat} {σ : St} {H0 : Hp} (i : Int) : Lays (tUn (rU fun i => .int (-i)) (tC (.int i))) n σ H0 (.int (-i)) := fun H Q s q => ⟨i, rfl, q _ H same_rfl (Sho.int _)⟩
def badA : List PyData := [.none, .int 0, .bool true, .str "", .tuple [], .dict [], .list [.none], .list [.int 0], .list [.list [.int 1], .list [.int 1, .int 2]], .list [.list [.int 1, .int 2], .list [.int 1]], .list [.list [.int 5]], .list [.list [.int (-1)]], .list [.list [.bool true]], .list [.list [.str "1"]], .list [.list [.none]]]
def badB (r0 r1 : List Int) (gs : List PyData) : List PyData := [.tuple gs, .list (gs ++ [.none]), .list ([.none] ++ gs), .list [.tuple (r0.map .int), .tuple (r1.map .int)], .list [.list [.int 1, .int 2], .tuple [.int 1, .int 2]], .list [.list [.list [.int 1]]]]
def badC (gs : List PyData) : List PyData := [.list (((gs.take 1) ++ [.list [.int 1]]) ++ (gs.drop 1)), .list (((gs.take 1) ++ [.list [.int 1, .int 1, .int 1, .int 1]]) ++ (gs.drop 1))]
def badD (gs : List PyData) : List PyData := [.list (gs ++ [.list [.int 1]]), .list ([.list [.int 1]] ++ gs), .list (gs ++ [.list [.int 1, .int 5, .int 1]]), .list (gs ++ [.list [.int 1, .int 1, .none]]), .list [.list [.dict []]]]
def badVs (r0 r1 : List Int) : List PyData := ((badA ++ badB r0 r1 [rowP r0, rowP r1]) ++ badC [rowP r0, rowP r1]) ++ badD [rowP r0, rowP r1]
def badK (x : PyData) : Bool := okL 3 x && (!vecsD 5 x && !vecsOfD 5 2 2 x)
theorem badA_all : badA.all badK = true := by decide +kernel
theorem vD_list {p : Int} {ds : List PyData} : vecD p (.list ds) = ds.all (numD p) := rfl
theorem vD_none {p : Int} : vecD p .none = false := rfl
theorem vD_tup {p : Int} {ds : List PyData} : vecD p (.tuple ds) = false := rfl
theorem vD_dict {p : Int} {ds : List (PyData × PyData)} : vecD p (.dict ds) = false := rfl
theorem lD_list {ds : List PyData} : lenD (.list ds) = ds.length := rfl
theorem lD_none : lenD .none = 0 := rfl
section
variable {g0 g1 : PyData} (o0 : okL 2 g0 = true) (o1 : okL 2 g1 = true) (v0 : vecD 5 g0 = true) (v1 : vecD 5 g1 = true) (l0 : lenD g0 = 3) (l1 : lenD g1 = 3)
include o0 o1 v0 v1 l0 l1
theorem badC_all : (badC [g0, g1]).all badK = true := by
  simp [badC, badK, okL, vecsD, vD_list, vD_none, vD_tup, vD_dict, lD_list, lD_none, evenD, vecsOfD, vecOfD, numD, o0, o1, v0, v1, l0, l1]
theorem badD_all : (badD [g0, g1]).all badK = true := by
  simp [badD, badK, okL, vecsD, vD_list, vD_none, vD_tup, vD_dict, lD_list, lD_none, evenD, vecsOfD, vecOfD, numD, o0, o1, v0, v1, l0, l1]
theorem badB_all {r0 r1 : List Int} (t0 : okL 2 (.tuple (r0.map .int)) = true) (t1 : okL 2 (.tuple (r1.map .int)) = true) : (badB r0 r1 [g0, g1]).all badK = true := by
  simp [badB, badK, okL, vecsD, vD_list, vD_none, vD_tup, vD_dict, lD_list, lD_none, evenD, vecsOfD, vecOfD, numD, o0, o1, v0, v1, l0, l1] at t0 t1 ⊢
  exact ⟨t0, t1⟩
end
theorem row_okL {n : Nat} {r : List Int} (h : ∀ x ∈ r, 0 ≤ x ∧ x < 5) (l : r.length = 3) : okL (n + 1) (rowP r) = true ∧ okL (n + 1) (.tuple (r.map .int)) = true := by
  have z : (decide ((r.map PyData.int).length ≤ 10) && (r.map PyData.int).all (okL n)) = true := by
    rw [List.length_map, l, List.all_map]
    refine Bool.and_eq_true_iff.mpr ⟨by decide, List.all_eq_true.mpr fun x m => ?_⟩
    have := h x m
    have q : x.natAbs < 100000 := by omega
    cases n <;> exact decide_eq_true q
  exact ⟨z, z⟩
theorem row_vecD {r : List Int} (h : ∀ x ∈ r, 0 ≤ x ∧ x < 5) : vecD 5 (rowP r) = true := by
  show (r.map PyData.int).all (numD 5) = true
  rw [List.all_map]
  refine List.all_eq_true.mpr fun x m => ?_
  have := h x m
  show (decide (0 ≤ x) && decide (x < 5)) = true
  rw [decide_eq_true this.1, decide_eq_true this.2]
  rfl
theorem bad_all {r0 r1 : List Int} (h0 : Vc 5 3 r0) (h1 : Vc 5 3 r1) : (badVs r0 r1).all badK = true := by
  have a0 := row_okL (n := 1) h0.2 h0.1
  have a1 := row_okL (n := 1) h1.2 h1.1
  have b0 := row_vecD h0.2
  have b1 := row_vecD h1.2
  have c0 : lenD (rowP r0) = 3 := (len_row r0).trans h0.1
  have c1 : lenD (rowP r1) = 3 := (len_row r1).trans h1.1
  unfold badVs
  rw [List.all_append, List.all_append, List.all_append, badA_all, badB_all a0.1 a1.1 b0 b1 c0 c1 a0.2 a1.2, badC_all a0.1 a1.1 b0 b1 c0 c1, badD_all a0.1 a1.1 b0 b1 c0 c1]
  rfl
/-- tuples of numbers -/
def Tws (H : Hp) (as : List Addr) (T : List (List Int)) : Prop := Paired (fun a xs => H a = some (.tup (xs.map V.int))) as T
theorem Tws.mono {H H' : Hp} {as : List Addr} {T : List (List Int)} (h : Tws H as T) (k : ∀ b ∈ as, ∀ o, H b = some o → H' b = some o) : Tws H' as T := by
  induction h with
  | nil => exact .nil
  | cons p ps ih => exact .cons (k _ List.mem_cons_self _ p) (ih fun b m => k b (List.mem_cons_of_mem _ m))
theorem wipe_one {σ : St} {i : Nat} {v : Option V} : wipe ((wipe σ [i]).set i v) [i] = wipe σ [i] := by
  simp [wipe]
theorem var_one {σ : St} {i : Nat} {v : V} (h : i < σ.length) : ((wipe σ [i]).set i (some v))[i]? = some (some v) := by
  simp [wipe, h]
theorem lc_tups {K : PySem.W.Frag} {a D : Addr} {as : List Addr} {T : List (List Int)} {H1 : Hp} {i : Nat} {σ : St} {Qd : Hp → Prop} (hi : i < σ.length) (hm : H1 a = some (.lst (as.map V.ref))) (hT : Rws H1 as T) (hD : H1 D = none) (hl : T.length ≤ 1000)
    (q : ∀ (H' : Hp) (cs : List Addr), Same H1 H' → H' D = some (.lst (cs.map V.ref)) → Tws H' cs T → Qd H') :
    ∃ W : Nat → Nat → Hp → Prop, (∃ m, W 0 m (upd H1 D (.lst []))) ∧ ∀ j m H, W j m H →
      ((Itl K a).stop j H ∧ Qd H) ∨ ((Itl K a).go j H ∧ ∃ Nx : Hp → Prop, (∀ H', Nx H' → ∃ m', m' < m ∧ W (j + 1) m' H') ∧ ∀ x H', (Itl K a).yld j H x H' → gName i x (wipe σ [i]) H' fun σ2 H2 => wipe σ2 [i] = wipe σ [i] ∧ tYes σ2 H2 fun b H3 =>
        if b = true then tCB (rTupOf K) (tCons (tVar i) tNil) σ2 H3 fun y H4 => ∃ acc, H4 D = some (.lst acc) ∧ acc.length < sizeLine ∧ Nx (upd H4 D (.lst (acc ++ [y]))) else Nx H3) := by
  have la := hT.len
  refine lc_list (fun k H' => Same H1 H' ∧ ∃ cs : List Addr, cs.length = k ∧ H' D = some (.lst (cs.map V.ref)) ∧ Tws H' cs (T.take k) ∧ (∀ b ∈ cs, b ≠ D)) ⟨same_new hD, [], rfl, upd_same, .nil, fun b z => (List.not_mem_nil z).elim⟩ (fun j H2 _ z => SqL.of (z.1 _ _ hm)) ?_ ?_
  · rintro k x H' hx ⟨sm, cs, lc, hcl, hcs, nm⟩
    obtain ⟨b, xs, rfl, hb, mx, ht, _⟩ := rws_at hT hx
    have hb' : H' b = some (.lst (xs.map V.int)) := sm _ _ hb
    refine ⟨wipe_one, tyes ?_⟩
    refine ⟨_, var_one hi, b, _, rfl, .inl ⟨SqL.of hb', fun l hl => ?_⟩⟩
    have nl : D ≠ l := fun e => by
      rw [← e, hcl] at hl
      cases hl
    have kl : k < T.length := (List.getElem?_eq_some_iff.mp ht).1
    refine ⟨_, (upd_ne nl).trans hcl, by rw [List.length_map, sizeLine_eq]; omega, same_set (same_trans sm (same_new hl)) hD, cs ++ [l], by rw [List.length_append, lc]; rfl, ?_, ?_, fun d md => ?_⟩
    · rw [upd_same, List.map_append]
      rfl
    · rw [List.take_succ, ht]
      have st : ∀ d, d ≠ D → ∀ o, upd H' l (.tup (xs.map V.int)) d = some o → upd (upd H' l (.tup (xs.map V.int))) D (.lst (cs.map V.ref ++ [V.ref l])) d = some o := fun d ne o e => (upd_ne ne).trans e
      refine paired_snoc (Tws.mono (Tws.mono hcs fun d _ o e => same_new hl _ _ e) fun d md o e => st d (nm d md) o e) ?_
      exact st l (Ne.symm nl) _ upd_same
    · rcases List.mem_append.mp md with z | z
      · exact nm d z
      · rw [List.mem_singleton.mp z]
        exact Ne.symm nl
  · rintro H' ⟨sm, cs, lc, hcl, hcs, nm⟩
    rw [List.take_of_length_le (by rw [List.length_map, la]; exact Nat.le_refl _)] at hcs
    exact q H' cs sm hcl hcs
theorem tws_sho {n : Nat} {H : Hp} {cs : List Addr} {T : List (List Int)} (h : Tws H cs T) : Paired (Sho (n + 1) H) (cs.map V.ref) (T.map fun xs => PyData.tuple (xs.map .int)) := by
  induction h with
  | nil => exact .nil
  | cons p _ ih => exact .cons (Sho.tup p (Sho.ints _)) ih
def C0 (m a0 a1 : Addr) (r0 r1 : List Int) : St → Hp → Prop := fun σ H => σ[0]? = some (some (.ref m)) ∧ H m = some (.lst [.ref a0, .ref a1]) ∧ Rw H a0 r0 ∧ Rw H a1 r1 ∧ 2 < σ.length
def C1 (m a0 a1 : Addr) (r0 r1 : List Int) (ds : List PyData) : St → Hp → Prop := fun σ H => C0 m a0 a1 r0 r1 σ H ∧ ∃ v, σ[1]? = some (some v) ∧ Sho 5 H v (.list ds)
theorem C0.sho {m a0 a1 : Addr} {r0 r1 : List Int} {σ : St} {H : Hp} (c : C0 m a0 a1 r0 r1 σ H) {n : Nat} : Sho (n + 2) H (.ref m) (.list [rowP r0, rowP r1]) := Sho.lst c.2.1 (.cons (Sho.row c.2.2.1) (.cons (Sho.row c.2.2.2.1) .nil))
theorem C0.lc {K : PySem.W.Frag} {m a0 a1 : Addr} {r0 r1 : List Int} {σ : St} {H : Hp} (c : C0 m a0 a1 r0 r1 σ H) : Lays (tLc (iList K (tVar 0)) (gName 2) tYes (tCB (rTupOf K) (tCons (tVar 2) tNil)) [2]) 4 σ H (.list [.tuple (r0.map .int), .tuple (r1.map .int)]) := fun Hc Qc sc qc =>
  ⟨_, c.1, m, rfl, ⟨_, SqL.of (sc _ _ c.2.1)⟩, fun D hD => lc_tups (as := [a0, a1]) (T := [r0, r1]) (i := 2) c.2.2.2.2 (sc _ _ c.2.1) (.cons (sc _ _ c.2.2.1) (.cons (sc _ _ c.2.2.2.1) .nil)) hD (Nat.le_of_ble_eq_true rfl) fun H' cs s2 hc tw => qc (.ref D) H' s2 (Sho.lst hc (tws_sho tw))⟩
/-- an expression that lays data where C holds -/
def tDat (C : St → Hp → Prop) (n : Nat) (d : PyData) : TE := fun σ H Q => C σ H ∧ ∀ v H', Same H H' → Sho n H' v d → Q v H'
theorem pe_dat {X : Cx} {e : Expr} {te : TE} {C : St → Hp → Prop} {n : Nat} {d : PyData} (h : PE X e te) (L : ∀ σ H, C σ H → Lays te n σ H d) : PE X e (tDat C n d) := ⟨fun pins s σ H Q I k => h.run pins s σ H Q I (L σ H k.1 H Q same_rfl k.2)⟩
def badAB (r0 r1 : List Int) : List PyData := badA ++ badB r0 r1 [rowP r0, rowP r1]
def badAC (r0 r1 : List Int) : List PyData := badAB r0 r1 ++ badC [rowP r0, rowP r1]
theorem lays_A {σ : St} {H : Hp} : Lays (tLst (tCons (tC .non) (tCons (tC (.int 0)) (tCons (tC (.bl true)) (tCons (tC (.str "")) (tCons (tTup tNil) (tCons tDNewK (tCons (tLst (tCons (tC .non) tNil)) (tCons (tLst (tCons (tC (.int 0)) tNil)) (tCons (tLst (tCons (tLst (tCons (tC (.int 1)) tNil)) (tCons (tLst (tCons (tC (.int 1)) (tCons (tC (.int 2)) tNil))) tNil))) (tCons (tLst (tCons (tLst (tCons (tC (.int 1)) (tCons (tC (.int 2)) tNil))) (tCons (tLst (tCons (tC (.int 1)) tNil)) tNil))) (tCons (tLst (tCons (tLst (tCons (tC (.int 5)) tNil)) tNil)) (tCons (tLst (tCons (tLst (tCons (tUn (rU fun i => .int (-i)) (tC (.int 1))) tNil)) tNil)) (tCons (tLst (tCons (tLst (tCons (tC (.bl true)) tNil)) tNil)) (tCons (tLst (tCons (tLst (tCons (tC (.str "1")) tNil)) tNil)) (tCons (tLst (tCons (tLst (tCons (tC .non) tNil)) tNil)) tNil)))))))))))))))) 5 σ H (.list badA) := (lays_lst (laysA_cons lays_non (laysA_cons (lays_int _) (laysA_cons (lays_bl _) (laysA_cons (lays_str _) (laysA_cons (lays_tup laysA_nil (Nat.le_of_ble_eq_true rfl)) (laysA_cons lays_dct (laysA_cons (lays_lst (laysA_cons lays_non laysA_nil) (Nat.le_of_ble_eq_true rfl)) (laysA_cons (lays_lst (laysA_cons (lays_int _) laysA_nil) (Nat.le_of_ble_eq_true rfl)) (laysA_cons (lays_lst (laysA_cons (lays_lst (laysA_cons (lays_int _) laysA_nil) (Nat.le_of_ble_eq_true rfl)) (laysA_cons (lays_lst (laysA_cons (lays_int _) (laysA_cons (lays_int _) laysA_nil)) (Nat.le_of_ble_eq_true rfl)) laysA_nil)) (Nat.le_of_ble_eq_true rfl)) (laysA_cons (lays_lst (laysA_cons (lays_lst (laysA_cons (lays_int _) (laysA_cons (lays_int _) laysA_nil)) (Nat.le_of_ble_eq_true rfl)) (laysA_cons (lays_lst (laysA_cons (lays_int _) laysA_nil) (Nat.le_of_ble_eq_true rfl)) laysA_nil)) (Nat.le_of_ble_eq_true rfl)) (laysA_cons (lays_lst (laysA_cons (lays_lst (laysA_cons (lays_int _) laysA_nil) (Nat.le_of_ble_eq_true rfl)) laysA_nil) (Nat.le_of_ble_eq_true rfl)) (laysA_cons (lays_lst (laysA_cons (lays_lst (laysA_cons (lays_neg _) laysA_nil) (Nat.le_of_ble_eq_true rfl)) laysA_nil) (Nat.le_of_ble_eq_true rfl)) (laysA_cons (lays_lst (laysA_cons (lays_lst (laysA_cons (lays_bl _) laysA_nil) (Nat.le_of_ble_eq_true rfl)) laysA_nil) (Nat.le_of_ble_eq_true rfl)) (laysA_cons (lays_lst (laysA_cons (lays_lst (laysA_cons (lays_str _) laysA_nil) (Nat.le_of_ble_eq_true rfl)) laysA_nil) (Nat.le_of_ble_eq_true rfl)) (laysA_cons (lays_lst (laysA_cons (lays_lst (laysA_cons lays_non laysA_nil) (Nat.le_of_ble_eq_true rfl)) laysA_nil) (Nat.le_of_ble_eq_true rfl)) laysA_nil))))))))))))))) (Nat.le_of_ble_eq_true rfl))
section
variable {K : PySem.W.Frag} {m a0 a1 : Addr} {r0 r1 : List Int} {σ : St} {H : Hp}
theorem lays_B (c : C1 m a0 a1 r0 r1 badA σ H) : Lays (tOp rCat (tVar 1) (tLst (tCons (tCB (rTupOf K) (tCons (tVar 0) tNil)) (tCons (tOp rCat (tVar 0) (tLst (tCons (tC .non) tNil))) (tCons (tOp rCat (tLst (tCons (tC .non) tNil)) (tVar 0)) (tCons (tLc (iList K (tVar 0)) (gName 2) tYes (tCB (rTupOf K) (tCons (tVar 2) tNil)) [2]) (tCons (tLst (tCons (tLst (tCons (tC (.int 1)) (tCons (tC (.int 2)) tNil))) (tCons (tTup (tCons (tC (.int 1)) (tCons (tC (.int 2)) tNil))) tNil))) (tCons (tLst (tCons (tLst (tCons (tLst (tCons (tC (.int 1)) tNil)) tNil)) tNil)) tNil)))))))) 5 σ H (.list (badAB r0 r1)) := by
  obtain ⟨c, v, e, sf⟩ := c
  exact lays_cat (lays_var e sf) (lays_lst (laysA_cons (lays_tupOf (lays_var c.1 c.sho)) (laysA_cons (lays_cat (lays_var c.1 c.sho) (lays_lst (laysA_cons lays_non laysA_nil) (Nat.le_of_ble_eq_true rfl)) (Nat.le_of_ble_eq_true rfl)) (laysA_cons (lays_cat (lays_lst (laysA_cons lays_non laysA_nil) (Nat.le_of_ble_eq_true rfl)) (lays_var c.1 c.sho) (Nat.le_of_ble_eq_true rfl)) (laysA_cons c.lc (laysA_cons (lays_lst (laysA_cons (lays_lst (laysA_cons (lays_int _) (laysA_cons (lays_int _) laysA_nil)) (Nat.le_of_ble_eq_true rfl)) (laysA_cons (lays_tup (laysA_cons (lays_int _) (laysA_cons (lays_int _) laysA_nil)) (Nat.le_of_ble_eq_true rfl)) laysA_nil)) (Nat.le_of_ble_eq_true rfl)) (laysA_cons (lays_lst (laysA_cons (lays_lst (laysA_cons (lays_lst (laysA_cons (lays_int _) laysA_nil) (Nat.le_of_ble_eq_true rfl)) laysA_nil) (Nat.le_of_ble_eq_true rfl)) laysA_nil) (Nat.le_of_ble_eq_true rfl)) laysA_nil)))))) (Nat.le_of_ble_eq_true rfl)) (Nat.le_of_ble_eq_true rfl)
theorem lays_C (c : C1 m a0 a1 r0 r1 (badAB r0 r1) σ H) : Lays (tOp rCat (tVar 1) (tLst (tCons (tOp rCat (tOp rCat (tSl (rSlL K) (tVar 0) tNoPart (tPart (tC (.int 1)))) (tLst (tCons (tLst (tCons (tC (.int 1)) tNil)) tNil))) (tSl (rSlL K) (tVar 0) (tPart (tC (.int 1))) tNoPart)) (tCons (tOp rCat (tOp rCat (tSl (rSlL K) (tVar 0) tNoPart (tPart (tC (.int 1)))) (tLst (tCons (tLst (tCons (tC (.int 1)) (tCons (tC (.int 1)) (tCons (tC (.int 1)) (tCons (tC (.int 1)) tNil))))) tNil))) (tSl (rSlL K) (tVar 0) (tPart (tC (.int 1))) tNoPart)) tNil)))) 5 σ H (.list (badAC r0 r1)) := by
  obtain ⟨c, v, e, sf⟩ := c
  exact lays_cat (lays_var e sf) (lays_lst (laysA_cons (lays_cat (lays_cat (lays_take (k := 1) (lays_var c.1 c.sho) (fun _ _ h => ⟨_, rfl, h⟩) (fun _ _ h => h)) (lays_lst (laysA_cons (lays_lst (laysA_cons (lays_int _) laysA_nil) (Nat.le_of_ble_eq_true rfl)) laysA_nil) (Nat.le_of_ble_eq_true rfl)) (Nat.le_of_ble_eq_true rfl)) (lays_drop (k := 1) (lays_var c.1 c.sho) (fun _ _ h => ⟨_, rfl, h⟩) (fun _ _ h => h)) (Nat.le_of_ble_eq_true rfl)) (laysA_cons (lays_cat (lays_cat (lays_take (k := 1) (lays_var c.1 c.sho) (fun _ _ h => ⟨_, rfl, h⟩) (fun _ _ h => h)) (lays_lst (laysA_cons (lays_lst (laysA_cons (lays_int _) (laysA_cons (lays_int _) (laysA_cons (lays_int _) (laysA_cons (lays_int _) laysA_nil)))) (Nat.le_of_ble_eq_true rfl)) laysA_nil) (Nat.le_of_ble_eq_true rfl)) (Nat.le_of_ble_eq_true rfl)) (lays_drop (k := 1) (lays_var c.1 c.sho) (fun _ _ h => ⟨_, rfl, h⟩) (fun _ _ h => h)) (Nat.le_of_ble_eq_true rfl)) laysA_nil)) (Nat.le_of_ble_eq_true rfl)) (Nat.le_of_ble_eq_true rfl)
theorem lays_D (c : C1 m a0 a1 r0 r1 (badAC r0 r1) σ H) : Lays (tOp rCat (tVar 1) (tLst (tCons (tOp rCat (tVar 0) (tLst (tCons (tLst (tCons (tC (.int 1)) tNil)) tNil))) (tCons (tOp rCat (tLst (tCons (tLst (tCons (tC (.int 1)) tNil)) tNil)) (tVar 0)) (tCons (tOp rCat (tVar 0) (tLst (tCons (tLst (tCons (tC (.int 1)) (tCons (tC (.int 5)) (tCons (tC (.int 1)) tNil)))) tNil))) (tCons (tOp rCat (tVar 0) (tLst (tCons (tLst (tCons (tC (.int 1)) (tCons (tC (.int 1)) (tCons (tC .non) tNil)))) tNil))) (tCons (tLst (tCons (tLst (tCons tDNewK tNil)) tNil)) tNil))))))) 5 σ H (.list (badVs r0 r1)) := by
  obtain ⟨c, v, e, sf⟩ := c
  exact lays_cat (lays_var e sf) (lays_lst (laysA_cons (lays_cat (lays_var c.1 c.sho) (lays_lst (laysA_cons (lays_lst (laysA_cons (lays_int _) laysA_nil) (Nat.le_of_ble_eq_true rfl)) laysA_nil) (Nat.le_of_ble_eq_true rfl)) (Nat.le_of_ble_eq_true rfl)) (laysA_cons (lays_cat (lays_lst (laysA_cons (lays_lst (laysA_cons (lays_int _) laysA_nil) (Nat.le_of_ble_eq_true rfl)) laysA_nil) (Nat.le_of_ble_eq_true rfl)) (lays_var c.1 c.sho) (Nat.le_of_ble_eq_true rfl)) (laysA_cons (lays_cat (lays_var c.1 c.sho) (lays_lst (laysA_cons (lays_lst (laysA_cons (lays_int _) (laysA_cons (lays_int _) (laysA_cons (lays_int _) laysA_nil))) (Nat.le_of_ble_eq_true rfl)) laysA_nil) (Nat.le_of_ble_eq_true rfl)) (Nat.le_of_ble_eq_true rfl)) (laysA_cons (lays_cat (lays_var c.1 c.sho) (lays_lst (laysA_cons (lays_lst (laysA_cons (lays_int _) (laysA_cons (lays_int _) (laysA_cons lays_non laysA_nil))) (Nat.le_of_ble_eq_true rfl)) laysA_nil) (Nat.le_of_ble_eq_true rfl)) (Nat.le_of_ble_eq_true rfl)) (laysA_cons (lays_lst (laysA_cons (lays_lst (laysA_cons lays_dct laysA_nil) (Nat.le_of_ble_eq_true rfl)) laysA_nil) (Nat.le_of_ble_eq_true rfl)) laysA_nil))))) (Nat.le_of_ble_eq_true rfl)) (Nat.le_of_ble_eq_true rfl)
end
def spBadV : Sp := fun vs H Q _ => ∃ (m a0 a1 : Addr) (r0 r1 : List Int), vs = [.ref m] ∧ H m = some (.lst [.ref a0, .ref a1]) ∧ Rw H a0 r0 ∧ Rw H a1 r1 ∧ ∀ v H', Same H H' → Sho 5 H' v (.list (badVs r0 r1)) → Q v H'
section
variable {P : Program} {w : World} {K : PySem.W.Frag} {mg : Str → Option Value} {base : Heap}
theorem ok_badV {f : Addr} {fd : FuncData} (F : Fun K "_law_bad_vectors" "_law_bad_vectors" sBadV f fd) (gU : mg "tuple" = none) : FnOk P w K mg base CX0 1 f fd ["_law_good"] spBadV := by
  refine F.ok scBadV (fun vs H Q E h => ?_) (fun cdv A outer s0 H as Q E hr h => ?_)
  · obtain ⟨m, a0, a1, r0, r1, rfl, _⟩ := h
    rfl
  · obtain ⟨m, a0, a1, r0, r1, rfl, hm, h0, h1, want⟩ := h
    refine ⟨_, (pss_cons (ps_set (i := 1) scBadV.nd rfl (Or.inl rfl) (pe_dat (C := C0 m a0 a1 r0 r1) (n := 5) (d := .list badA) (pe_lst (pa_cons pe_non (pa_cons pe_int (pa_cons pe_bl (pa_cons pe_str (pa_cons (pe_tup pa_nil) (pa_cons pe_dnewK (pa_cons (pe_lst (pa_cons pe_non pa_nil)) (pa_cons (pe_lst (pa_cons pe_int pa_nil)) (pa_cons (pe_lst (pa_cons (pe_lst (pa_cons pe_int pa_nil)) (pa_cons (pe_lst (pa_cons pe_int (pa_cons pe_int pa_nil))) pa_nil))) (pa_cons (pe_lst (pa_cons (pe_lst (pa_cons pe_int (pa_cons pe_int pa_nil))) (pa_cons (pe_lst (pa_cons pe_int pa_nil)) pa_nil))) (pa_cons (pe_lst (pa_cons (pe_lst (pa_cons pe_int pa_nil)) pa_nil)) (pa_cons (pe_lst (pa_cons (pe_lst (pa_cons (pe_un un_neg pe_int) pa_nil)) pa_nil)) (pa_cons (pe_lst (pa_cons (pe_lst (pa_cons pe_bl pa_nil)) pa_nil)) (pa_cons (pe_lst (pa_cons (pe_lst (pa_cons pe_str pa_nil)) pa_nil)) (pa_cons (pe_lst (pa_cons (pe_lst (pa_cons pe_non pa_nil)) pa_nil)) pa_nil)))))))))))))))) (fun _ _ _ => lays_A))) (pss_cons (ps_set (i := 1) scBadV.nd rfl (Or.inl rfl) (pe_dat (C := C1 m a0 a1 r0 r1 badA) (n := 5) (d := .list (badAB r0 r1)) (pe_op op_cat (pv 1) (pe_lst (pa_cons (pe_callTy call_tuple_of (by rfl) gU boot_tuple (pa_cons (pv 0) pa_nil)) (pa_cons (pe_op op_cat (pv 0) (pe_lst (pa_cons pe_non pa_nil))) (pa_cons (pe_op op_cat (pe_lst (pa_cons pe_non pa_nil)) (pv 0)) (pa_cons (pe_lc (te := tCB (rTupOf K) (tCons (tVar 2) tNil)) (own := [("_law_one", 2)]) (g := (gName 2)) (tt := tYes) rfl scBadV.nd (pi_list (pv 0)) (blkOk_by (N := nBadV) (sc := defScope sBadV) (by decide +kernel)) (fun _ _ _ _ _ => pg_name (i := 2) scBadV.nd rfl (Or.inl rfl)) (fun _ _ _ _ _ => pts_nil) (fun _ _ _ _ _ => (pe_callTy call_tuple_of (by rfl) gU boot_tuple (pa_cons (pv 2) pa_nil)))) (pa_cons (pe_lst (pa_cons (pe_lst (pa_cons pe_int (pa_cons pe_int pa_nil))) (pa_cons (pe_tup (pa_cons pe_int (pa_cons pe_int pa_nil))) pa_nil))) (pa_cons (pe_lst (pa_cons (pe_lst (pa_cons (pe_lst (pa_cons pe_int pa_nil)) pa_nil)) pa_nil)) pa_nil)))))))) (fun _ _ c => lays_B c))) (pss_cons (ps_set (i := 1) scBadV.nd rfl (Or.inl rfl) (pe_dat (C := C1 m a0 a1 r0 r1 (badAB r0 r1)) (n := 5) (d := .list (badAC r0 r1)) (pe_op op_cat (pv 1) (pe_lst (pa_cons (pe_op op_cat (pe_op op_cat (pe_slice sl_list (pv 0) po_none (po_some pe_int)) (pe_lst (pa_cons (pe_lst (pa_cons pe_int pa_nil)) pa_nil))) (pe_slice sl_list (pv 0) (po_some pe_int) po_none)) (pa_cons (pe_op op_cat (pe_op op_cat (pe_slice sl_list (pv 0) po_none (po_some pe_int)) (pe_lst (pa_cons (pe_lst (pa_cons pe_int (pa_cons pe_int (pa_cons pe_int (pa_cons pe_int pa_nil))))) pa_nil))) (pe_slice sl_list (pv 0) (po_some pe_int) po_none)) pa_nil)))) (fun _ _ c => lays_C c))) (pss_one (ps_ret (pe_dat (C := C1 m a0 a1 r0 r1 (badAC r0 r1)) (n := 5) (d := .list (badVs r0 r1)) (pe_op op_cat (pv 1) (pe_lst (pa_cons (pe_op op_cat (pv 0) (pe_lst (pa_cons (pe_lst (pa_cons pe_int pa_nil)) pa_nil))) (pa_cons (pe_op op_cat (pe_lst (pa_cons (pe_lst (pa_cons pe_int pa_nil)) pa_nil)) (pv 0)) (pa_cons (pe_op op_cat (pv 0) (pe_lst (pa_cons (pe_lst (pa_cons pe_int (pa_cons pe_int (pa_cons pe_int pa_nil)))) pa_nil))) (pa_cons (pe_op op_cat (pv 0) (pe_lst (pa_cons (pe_lst (pa_cons pe_int (pa_cons pe_int (pa_cons pe_non pa_nil)))) pa_nil))) (pa_cons (pe_lst (pa_cons (pe_lst (pa_cons pe_dnewK pa_nil)) pa_nil)) pa_nil))))))) (fun _ _ c => lays_D c))))))), ?_⟩
    have up : ∀ {σ : St} {H' : Hp}, Same H H' → σ[0]? = some (some (.ref m)) → 2 < σ.length → C0 m a0 a1 r0 r1 σ H' := fun s e l => ⟨e, s _ _ hm, s _ _ h0, s _ _ h1, l⟩
    refine ⟨up same_rfl rfl (Nat.le_of_ble_eq_true rfl), fun v1 H1 s1 e1 => ?_⟩
    refine ⟨⟨up s1 rfl (Nat.le_of_ble_eq_true rfl), v1, rfl, e1⟩, fun v2 H2 s2 e2 => ?_⟩
    have s12 := same_trans s1 s2
    refine ⟨⟨up s12 rfl (Nat.le_of_ble_eq_true rfl), v2, rfl, e2⟩, fun v3 H3 s3 e3 => ?_⟩
    have s13 := same_trans s12 s3
    refine ⟨⟨up s13 rfl (Nat.le_of_ble_eq_true rfl), v3, rfl, e3⟩, fun v4 H4 s4 e4 => ?_⟩
    exact want v4 H4 (same_trans s13 s4) e4
end
end Vb
end L2

set_option Elab.async false
set_option linter.all false
set_option maxRecDepth 100000
set_option maxHeartbeats 8000000
/-! Vb, part 68: the first arguments. -/
namespace L2
namespace Vb
open PySem PySem.Spec PyProof.Rows
abbrev sFirsts : Stmt := topS 60
abbrev nFirsts : List Str := ["_law_good", "_law_composite", "_law_odd", "_law_door", "_law_noted"]
theorem scFirsts : FnScope nFirsts ["_law_good"] (defScope sFirsts) := ⟨rfl, rfl, rfl, by decide +kernel, rfl, by decide +kernel, by decide +kernel⟩
/-- lists not too long, by a look -/
def smB : PyData → Bool
  | .list ds => decide (ds.length ≤ 10) && ds.all fun e => match e with
    | .list es => decide (es.length ≤ 10)
    | _ => true
  | _ => true
theorem smB_sm {d : PyData} (h : smB d = true) : Sm2 d := fun ds e => by
  subst e
  obtain ⟨h1, h2⟩ := He.ba h
  have := of_decide_eq_true h1
  refine ⟨by omega, fun e m es q => ?_⟩
  subst q
  have := of_decide_eq_true (List.all_eq_true.mp h2 _ m)
  omega
def firstA : List PyData := [.int 25, .int 49, .int 121, .int 341, .int 561, .int 1763, .int 32761, .int 64507, .int 65535]
def firstB : List PyData := [.none, .int 0, .int 1, .int 4, .int 9, .int 65536, .int 65539, .int (-5), .bool true, .str "5", .list [.int 5], .tuple [.int 5], .dict [], .int ((10 : Int) ^ (29 : Int).toNat)]
def firstN : List PyData := [.none, .int 0, .int 5, .int (-1), .bool true, .bool false, .str "1", .list [.int 1], .tuple [], .dict [], .int ((10 : Int) ^ (29 : Int).toNat)]
theorem first_all : (firstA ++ firstB).all (fun d => smB d && !primD d) = true := by decide +kernel
theorem firstN_all : firstN.all (fun d => smB d && !facD 5 d) = true := by decide +kernel
def CV (ds : List PyData) : St → Hp → Prop := fun σ H => ∃ v, σ[1]? = some (some v) ∧ Sho 5 H v (.list ds)
theorem lays_fA {σ : St} {H : Hp} : Lays (tLst (tCons (tC (.int 25)) (tCons (tC (.int 49)) (tCons (tC (.int 121)) (tCons (tC (.int 341)) (tCons (tC (.int 561)) (tCons (tC (.int 1763)) (tCons (tC (.int 32761)) (tCons (tC (.int 64507)) (tCons (tC (.int 65535)) tNil)))))))))) 5 σ H (.list firstA) := (lays_lst (laysA_cons (lays_int _) (laysA_cons (lays_int _) (laysA_cons (lays_int _) (laysA_cons (lays_int _) (laysA_cons (lays_int _) (laysA_cons (lays_int _) (laysA_cons (lays_int _) (laysA_cons (lays_int _) (laysA_cons (lays_int _) laysA_nil))))))))) (Nat.le_of_ble_eq_true rfl))
theorem lays_F {σ : St} {H : Hp} (c : CV firstA σ H) : Lays (tOp rCat (tVar 1) (tLst (tCons (tC .non) (tCons (tC (.int 0)) (tCons (tC (.int 1)) (tCons (tC (.int 4)) (tCons (tC (.int 9)) (tCons (tC (.int 65536)) (tCons (tC (.int 65539)) (tCons (tUn (rU fun i => .int (-i)) (tC (.int 5))) (tCons (tC (.bl true)) (tCons (tC (.str "5")) (tCons (tLst (tCons (tC (.int 5)) tNil)) (tCons (tTup (tCons (tC (.int 5)) tNil)) (tCons tDNewK (tCons (tOp (rI CPow fun i j => .int (i ^ j.toNat)) (tC (.int 10)) (tC (.int 29))) tNil)))))))))))))))) 5 σ H (.list (firstA ++ firstB)) := by
  obtain ⟨v, e, sf⟩ := c
  exact lays_cat (lays_var e sf) (lays_lst (laysA_cons lays_non (laysA_cons (lays_int _) (laysA_cons (lays_int _) (laysA_cons (lays_int _) (laysA_cons (lays_int _) (laysA_cons (lays_int _) (laysA_cons (lays_int _) (laysA_cons (lays_neg _) (laysA_cons (lays_bl _) (laysA_cons (lays_str _) (laysA_cons (lays_lst (laysA_cons (lays_int _) laysA_nil) (Nat.le_of_ble_eq_true rfl)) (laysA_cons (lays_tup (laysA_cons (lays_int _) laysA_nil) (Nat.le_of_ble_eq_true rfl)) (laysA_cons lays_dct (laysA_cons (lays_pow ⟨by decide, by decide, by decide⟩) laysA_nil)))))))))))))) (Nat.le_of_ble_eq_true rfl)) (Nat.le_of_ble_eq_true rfl)
theorem lays_fN {σ : St} {H : Hp} : Lays (tLst (tCons (tC .non) (tCons (tC (.int 0)) (tCons (tC (.int 5)) (tCons (tUn (rU fun i => .int (-i)) (tC (.int 1))) (tCons (tC (.bl true)) (tCons (tC (.bl false)) (tCons (tC (.str "1")) (tCons (tLst (tCons (tC (.int 1)) tNil)) (tCons (tTup tNil) (tCons tDNewK (tCons (tOp (rI CPow fun i j => .int (i ^ j.toNat)) (tC (.int 10)) (tC (.int 29))) tNil)))))))))))) 5 σ H (.list firstN) := (lays_lst (laysA_cons lays_non (laysA_cons (lays_int _) (laysA_cons (lays_int _) (laysA_cons (lays_neg _) (laysA_cons (lays_bl _) (laysA_cons (lays_bl _) (laysA_cons (lays_str _) (laysA_cons (lays_lst (laysA_cons (lays_int _) laysA_nil) (Nat.le_of_ble_eq_true rfl)) (laysA_cons (lays_tup laysA_nil (Nat.le_of_ble_eq_true rfl)) (laysA_cons lays_dct (laysA_cons (lays_pow ⟨by decide, by decide, by decide⟩) laysA_nil))))))))))) (Nat.le_of_ble_eq_true rfl))
theorem verK_p {d d1 d2 d3 : PyData} (h : primD d = false) (k : Nat) : verK k d d1 d2 d3 = some (0, 0) := by
  unfold verK verI verV verC verQ verB
  simp [h]
theorem prim5 : primD (.int 5) = true := by decide +kernel
theorem good5 : goodD (.int 5) := fun _ => by decide
theorem verK_n {d d2 d3 : PyData} (h : facD 5 d = false) : verK 0 (.int 5) d d2 d3 = some (1, 1) := by
  unfold verK verI
  rw [if_pos rfl, if_neg (by rw [prim5]; decide)]
  exact if_pos h
theorem some_no {p : Int} {d : PyData} (h : vecsD p d = false) : someD p d = false := by
  unfold someD
  rw [h]
  rfl
theorem verK_v {d d2 d3 : PyData} (h : vecsD 5 d = false) {k : Nat} (hk : 1 ≤ k) : verK k (.int 5) d d2 d3 = some (2, 1) := by
  have hs := some_no h
  have h' : vecsD (intD (.int 5)) d = false := h
  have hs' : someD (intD (.int 5)) d = false := hs
  have k0 : ¬ k = 0 := by omega
  unfold verK verV verC verQ verB
  simp [prim5, h', hs', k0]
theorem verK_s {d d2 d3 : PyData} (hs : someD 5 d = false) {k : Nat} (hk : k = 4 ∨ 9 ≤ k) : verK k (.int 5) d d2 d3 = some (2, 1) := by
  have hs' : someD (intD (.int 5)) d = false := hs
  have k0 : ¬ k = 0 := by omega
  have k4 : ¬ k < 4 := by omega
  unfold verK verC verB
  rcases hk with rfl | hk
  · simp [prim5, hs']
  · have k9 : ¬ k < 9 := by omega
    have kk : ¬ k = 4 := by omega
    simp [prim5, hs', k0, k4, k9, kk]
def flatD : PyData := .list [.str "vectors", .list []]
theorem flat_ok : SeqAt.shaped flatD = true ∧ PyData.eqv flatD flatD = true := by decide +kernel
def spFirsts : Sp := fun vs H Q _ => ∃ (m a0 a1 : Addr) (r0 r1 : List Int), vs = [.ref m] ∧ H m = some (.lst [.ref a0, .ref a1]) ∧ Rw H a0 r0 ∧ Rw H a1 r1 ∧ Vc 5 3 r0 ∧ Vc 5 3 r1 ∧ ∀ H', Same H H' → Q (.bl true) H'
section
variable {P : Program} {w : World} {K : PySem.W.Frag} {mg : Str → Option Value} {base : Heap}
theorem ok_firsts {f fH fB : Addr} {fd fdH fdB : FuncData} (F : Fun K "_law_firsts_right" "_law_firsts_right" sFirsts f fd)
    (FH : Fun K "_law_heard" "_law_heard" sHeard fH fdH) (GH : FnOk P w K mg base CX0 10 fH fdH ["_law_door", "_law_given"] spOnce) (gH : mg "_law_heard" = some (.ref fH))
    (FB : Fun K "_law_bad_vectors" "_law_bad_vectors" sBadV fB fdB) (GB : FnOk P w K mg base CX0 1 fB fdB ["_law_good"] spBadV) (gB : mg "_law_bad_vectors" = some (.ref fB)) (gR : mg "range" = none) (gP : mg "repr" = none) (sy : SysIn K) :
    FnG P w K mg base 11 f fd ["_law_good"] spFirsts := by
  have bH : Binds K fdH ["_law_door", "_law_given"] [] := FH.binds fun _ _ _ _ _ _ us hl => match us, hl with | [_, _], _ => rfl
  have bB : Binds K fdB ["_law_good"] [] := FB.binds fun _ _ _ _ _ _ us hl => match us, hl with | [_], _ => rfl
  refine fnG_of F scFirsts (fun vs H Q h => ?_) (fun cdv A below s H vs Q hgd hr h => ?_)
  · obtain ⟨m, a0, a1, r0, r1, rfl, _⟩ := h
    rfl
  · obtain ⟨m, a0, a1, r0, r1, rfl, hm, h0, h1, vc0, vc1, want⟩ := h
    refine ⟨_, pss_cons (ps_set (i := 1) scFirsts.nd rfl (Or.inl rfl) (pe_dat (C := fun _ _ => True) (n := 5) (d := .list firstA) (pe_lst (pa_cons pe_int (pa_cons pe_int (pa_cons pe_int (pa_cons pe_int (pa_cons pe_int (pa_cons pe_int (pa_cons pe_int (pa_cons pe_int (pa_cons pe_int pa_nil)))))))))) (fun _ _ _ => lays_fA)))
      (pss_cons (ps_for PassesOwn.never rfl (pi_list (pe_dat (C := CV firstA) (n := 5) (d := .list (firstA ++ firstB)) (pe_op op_cat (pv 1) (pe_lst (pa_cons pe_non (pa_cons pe_int (pa_cons pe_int (pa_cons pe_int (pa_cons pe_int (pa_cons pe_int (pa_cons pe_int (pa_cons (pe_un un_neg pe_int) (pa_cons pe_bl (pa_cons pe_str (pa_cons (pe_lst (pa_cons pe_int pa_nil)) (pa_cons (pe_tup (pa_cons pe_int pa_nil)) (pa_cons pe_dnewK (pa_cons (pe_op op_pow pe_int pe_int) pa_nil)))))))))))))))) (fun _ _ c => lays_F c))) (pg_name (i := 2) scFirsts.nd rfl (Or.inl rfl))
        (pss_one (ps_for PassesOwn.never rfl (pi_range1 rfl gR (pa_cons pe_int pa_nil)) (pg_name (i := 3) scFirsts.nd rfl (Or.inl rfl))
            (pss_one (ps_if (pt_cmpR (op_neL (Nat.lt_of_le_of_lt (Nat.le_add_right _ _) hr.units)) (pe_call GH hr rfl gH FH.kp bH .nil pass0 (pa_cons (pv 3) (pa_cons (pe_lst (pa_cons (pv 2) (pa_cons pe_non (pa_cons pe_non (pa_cons pe_non pa_nil))))) pa_nil))) (pe_lst (pa_cons pe_str (pa_cons (pv 2) pa_nil))) (nomark _))
                (pss_one (ps_ret pe_bl))
                pss_nil)))))
      (pss_cons (ps_for PassesOwn.never rfl (pi_list (pe_dat (C := fun _ _ => True) (n := 5) (d := .list firstN) (pe_lst (pa_cons pe_non (pa_cons pe_int (pa_cons pe_int (pa_cons (pe_un un_neg pe_int) (pa_cons pe_bl (pa_cons pe_bl (pa_cons pe_str (pa_cons (pe_lst (pa_cons pe_int pa_nil)) (pa_cons (pe_tup pa_nil) (pa_cons pe_dnewK (pa_cons (pe_op op_pow pe_int pe_int) pa_nil)))))))))))) (fun _ _ _ => lays_fN))) (pg_name (i := 2) scFirsts.nd rfl (Or.inl rfl))
        (pss_one (ps_if (pt_cmpR (op_neL (Nat.lt_of_le_of_lt (Nat.le_add_right _ _) hr.units)) (pe_call GH hr rfl gH FH.kp bH .nil pass0 (pa_cons pe_int (pa_cons (pe_lst (pa_cons pe_int (pa_cons (pv 2) pa_nil))) pa_nil))) (pe_lst (pa_cons pe_str (pa_cons (pv 2) pa_nil))) (nomark _))
            (pss_one (ps_ret pe_bl))
            pss_nil)))
      (pss_cons (ps_for PassesOwn.never rfl (pi_list (pe_call GB (hr.mono (by decide)) rfl gB FB.kp bB .nil pass0 (pa_cons (pv 0) pa_nil))) (pg_name (i := 2) scFirsts.nd rfl (Or.inl rfl))
        (pss_cons (ps_set (i := 4) scFirsts.nd rfl (Or.inl rfl) (pe_callB (call_repr hgd hr.units sy) (by rfl) gP boot_repr (pa_cons (pv 2) pa_nil)))
          (pss_one (ps_for PassesOwn.never rfl (pi_range2 rfl gR (pa_cons pe_int (pa_cons pe_int pa_nil))) (pg_name (i := 3) scFirsts.nd rfl (Or.inl rfl))
            (pss_one (ps_if (PW.pt (pw_or (pt_cmpR (op_neL (Nat.lt_of_le_of_lt (Nat.le_add_right _ _) hr.units)) (pe_call GH hr rfl gH FH.kp bH .nil pass0 (pa_cons (pv 3) (pa_cons (pe_lst (pa_cons pe_int (pa_cons (pv 2) (pa_cons pe_non (pa_cons pe_non pa_nil))))) pa_nil))) (pe_lst (pa_cons pe_str (pa_cons (pv 2) pa_nil))) (nomark _)) (pw_or1 (pt_cmpR op_ne (pe_callB (call_repr hgd hr.units sy) (by rfl) gP boot_repr (pa_cons (pv 2) pa_nil)) (pv 4) (nomark _)))))
                (pss_one (ps_ret pe_bl))
                pss_nil))))))
      (pss_cons (ps_for PassesOwn.never rfl (pi_list (pe_lst (pa_cons pe_int (pa_cons pe_int (pa_cons pe_int (pa_cons pe_int (pa_cons pe_int pa_nil))))))) (pg_name (i := 3) scFirsts.nd rfl (Or.inl rfl))
        (pss_one (ps_if (pt_cmpR (op_neD hr.units) (pe_call GH hr rfl gH FH.kp bH .nil pass0 (pa_cons (pv 3) (pa_cons (pe_lst (pa_cons pe_int (pa_cons (pe_lst pa_nil) (pa_cons pe_non (pa_cons pe_non pa_nil))))) pa_nil))) (pe_lst (pa_cons pe_str (pa_cons (pe_lst pa_nil) pa_nil))) (nomark _))
            (pss_one (ps_ret pe_bl))
            pss_nil)))
      (pss_one (ps_ret pe_bl)))))), ?_⟩
    refine ⟨trivial, fun v1 H1 s1 e1 => ?_⟩
    refine ⟨⟨v1, rfl, e1⟩, fun v2 H2 s2 e2 => ?_⟩
    have s12 := same_trans s1 s2
    obtain ⟨m2, l2, xs2, q, rfl, hl2, p2⟩ := e2.ofList
    cases q
    refine ⟨l2, rfl, ⟨_, SqL.of hl2⟩, ?_⟩
    refine for_list (xs := xs2) (fun i σ H' => Same H2 H' ∧ ∃ a b c : Option V, σ = [some (.ref m), some v1, a, b, c]) ⟨same_rfl, _, _, _, rfl⟩ (fun i σ H' _ z => SqL.of (z.1 _ _ hl2)) ?_ ?_
    · rintro i x σ H3 hx ⟨s3, _, b0, c0, rfl⟩
      obtain ⟨d, hd, sx⟩ := paired_at p2 hx
      obtain ⟨dk1, dk2⟩ := He.ba (List.all_eq_true.mp first_all d (List.mem_of_getElem? hd))
      have np : primD d = false := by simpa using dk2
      refine ⟨13, rfl, by decide, by decide, ?_⟩
      have en : (13 : Int).toNat = 13 := rfl
      rw [en]
      refine for_range (lo := 0) (n := 13) (fun k σ H' => Same H2 H' ∧ ∃ b c : Option V, σ = [some (.ref m), some v1, some x, b, c]) ⟨s3, _, _, rfl⟩ ?_ ?_
      · rintro k σ H4 hk ⟨s4, _, c1, rfl⟩
        have e0 : (0 : Int) + (k : Int) = (k : Int) := Int.zero_add _
        rw [e0]
        have sx4 := sx.up s4
        refine ⟨_, rfl, _, rfl, by show 4 ≤ sizeLine; decide, fun g hg => ?_⟩
        have t := same_new (o := .lst [x, V.non, V.non, V.non]) hg
        refine ⟨k, g, _, x, .non, .non, .non, d, .none, .none, .none, 0, 0, rfl, ⟨by omega, upd_same, rfl, rfl, fun _ => rfl, fun _ => rfl, 4, sx4.up t, Sho.non, Sho.non, Sho.non, fun h => absurd h (by rw [np]; decide), sm_none, sm_none, sm_none⟩, verK_p np k, by decide, fun H5 r s5 nr hr5 => ?_⟩
        refine ⟨_, rfl, by show 2 ≤ sizeLine; decide, fun b hb => ?_⟩
        have t2 := same_new (o := .lst [V.str "prime", x]) hb
        refine ⟨r, b, _, _, _, _, true, true, rfl, rfl, t2 _ _ hr5, upd_same, eqS_str _, sx4.eqS, _, rfl, iteF ?_⟩
        exact ⟨same_trans s4 (same_trans t (same_trans s5 t2)), _, _, rfl⟩
      · rintro σ H4 ⟨s4, b1, c1, rfl⟩
        exact ⟨s4, _, _, _, rfl⟩
    · rintro σ H3 ⟨s3, a3, b3, c3, rfl⟩
      refine ⟨trivial, fun v4 H4 s4 e4 => ?_⟩
      have s14 := same_trans s12 (same_trans s3 s4)
      obtain ⟨m4, l4, xs4, q, rfl, hl4, p4⟩ := e4.ofList
      cases q
      refine ⟨l4, rfl, ⟨_, SqL.of hl4⟩, ?_⟩
      refine for_list (xs := xs4) (fun i σ H' => Same H4 H' ∧ ∃ a b c : Option V, σ = [some (.ref m), some v1, a, b, c]) ⟨same_rfl, _, _, _, rfl⟩ (fun i σ H' _ z => SqL.of (z.1 _ _ hl4)) ?_ ?_
      · rintro i x σ H5 hx ⟨s5, _, b0, c0, rfl⟩
        obtain ⟨d, hd, sx⟩ := paired_at p4 hx
        obtain ⟨dk1, dk2⟩ := He.ba (List.all_eq_true.mp firstN_all d (List.mem_of_getElem? hd))
        have nf : facD 5 d = false := by simpa using dk2
        have sx5 := sx.up s5
        refine ⟨_, rfl, by show 2 ≤ sizeLine; decide, fun g hg => ?_⟩
        have t := same_new (o := .lst [V.int 5, x]) hg
        refine ⟨0, g, _, .int 5, x, .non, .non, .int 5, d, .none, .none, 1, 1, rfl, ⟨by decide, upd_same, rfl, rfl, fun h => absurd h (by decide), fun h => absurd h (by decide), 4, Sho.int 5, sx5.up t, Sho.non, Sho.non, good5, smB_sm dk1, sm_none, sm_none⟩, verK_n nf, by decide, fun H6 r s6 nr hr6 => ?_⟩
        refine ⟨_, rfl, by show 2 ≤ sizeLine; decide, fun b hb => ?_⟩
        have t2 := same_new (o := .lst [V.str "number", x]) hb
        refine ⟨r, b, _, _, _, _, true, true, rfl, rfl, t2 _ _ hr6, upd_same, eqS_str _, sx5.eqS, _, rfl, iteF ?_⟩
        exact ⟨same_trans s5 (same_trans t (same_trans s6 t2)), _, _, _, rfl⟩
      · rintro σ H5 ⟨s5, a5, b5, c5, rfl⟩
        have s15 := same_trans s14 s5
        refine ⟨_, rfl, m, a0, a1, r0, r1, rfl, s15 _ _ hm, s15 _ _ h0, s15 _ _ h1, fun v6 H6 s6 e6 => ?_⟩
        have s16 := same_trans s15 s6
        obtain ⟨m6, l6, xs6, q, rfl, hl6, p6⟩ := e6.ofList
        cases q
        refine ⟨l6, rfl, ⟨_, SqL.of hl6⟩, ?_⟩
        refine for_list (xs := xs6) (fun i σ H' => Same H6 H' ∧ ∃ a b c : Option V, σ = [some (.ref m), some v1, a, b, c]) ⟨same_rfl, _, _, _, rfl⟩ (fun i σ H' _ z => SqL.of (z.1 _ _ hl6)) ?_ ?_
        · rintro i x σ H7 hx ⟨s7, _, b0, c0, rfl⟩
          obtain ⟨d, hd, sx⟩ := paired_at p6 hx
          obtain ⟨dk1, dk2⟩ := He.ba (List.all_eq_true.mp (bad_all vc0 vc1) d (List.mem_of_getElem? hd))
          obtain ⟨dk2, dk3⟩ := He.ba dk2
          have nv : vecsD 5 d = false := by simpa using dk2
          obtain ⟨w1, w2, w3⟩ := ok_rep dk1
          refine ⟨_, rfl, x, d, 4, rfl, sx.up s7, w1, w2, w3, ?_⟩
          refine ⟨1, 13, rfl, ⟨by decide, by decide, by decide, by decide⟩, ?_⟩
          have en : ((13 : Int) - 1).toNat = 12 := rfl
          rw [en]
          refine for_range (lo := 1) (n := 12) (fun k σ H' => Same H6 H' ∧ ∃ b : Option V, σ = [some (.ref m), some v1, some x, b, some (.str d.shown)]) ⟨s7, _, rfl⟩ ?_ ?_
          · rintro k σ H8 hk ⟨s8, _, rfl⟩
            have e0 : (1 : Int) + (k : Int) = ((k + 1 : Nat) : Int) := by omega
            rw [e0]
            have sx8 := sx.up s8
            refine ⟨_, rfl, _, rfl, by show 4 ≤ sizeLine; decide, fun g hg => ?_⟩
            have t := same_new (o := .lst [V.int 5, x, V.non, V.non]) hg
            refine ⟨k + 1, g, _, .int 5, x, .non, .non, .int 5, d, .none, .none, 2, 1, rfl, ⟨by omega, upd_same, rfl, rfl, fun _ => rfl, fun _ => rfl, 4, Sho.int 5, sx8.up t, Sho.non, Sho.non, good5, ok_sm2 dk1, sm_none, sm_none⟩, verK_v nv (by omega), by decide, fun H9 r s9 nr hr9 => ?_⟩
            refine ⟨_, rfl, by show 2 ≤ sizeLine; decide, fun b hb => ?_⟩
            have t2 := same_new (o := .lst [V.str "vectors", x]) hb
            refine ⟨r, b, _, _, _, _, true, true, rfl, rfl, t2 _ _ hr9, upd_same, eqS_str _, sx8.eqS, _, rfl, iteF ?_⟩
            have s89 := same_trans t (same_trans s9 t2)
            refine ⟨_, rfl, x, d, 4, rfl, sx8.up s89, w1, w2, w3, _, rfl, rfl, _, rfl, ?_⟩
            have z1 : (!decide (V.str d.shown = V.str d.shown)) = false := by
              rw [decide_eq_true rfl]
              rfl
            rw [z1]
            exact iteF ⟨same_trans s8 s89, _, rfl⟩
          · rintro σ H8 ⟨s8, b1, rfl⟩
            exact ⟨s8, _, _, _, rfl⟩
        · rintro σ H7 ⟨s7, a7, b7, c7, rfl⟩
          have s17 := same_trans s16 s7
          refine ⟨by show 5 ≤ sizeLine; decide, fun l8 hl8 => ?_⟩
          have t8 := same_new (o := .lst [V.int 4, V.int 9, V.int 10, V.int 11, V.int 12]) hl8
          refine ⟨l8, rfl, ⟨_, SqL.of upd_same⟩, ?_⟩
          refine for_list (xs := [V.int 4, V.int 9, V.int 10, V.int 11, V.int 12]) (fun i σ H' => Same (upd H7 l8 (.lst [V.int 4, V.int 9, V.int 10, V.int 11, V.int 12])) H' ∧ ∃ a b c : Option V, σ = [some (.ref m), some v1, a, b, c]) ⟨same_rfl, _, _, _, rfl⟩ (fun i σ H' _ z => SqL.of (z.1 _ _ upd_same)) ?_ ?_
          · rintro i x σ H8 hx ⟨s8, a8, _, c8, rfl⟩
            obtain ⟨k, rfl, hk, hk2⟩ : ∃ k : Nat, x = V.int (k : Int) ∧ (k = 4 ∨ 9 ≤ k) ∧ k ≤ 12 := by
              have mm := List.mem_of_getElem? hx
              simp only [List.mem_cons, List.not_mem_nil, or_false] at mm
              rcases mm with rfl | rfl | rfl | rfl | rfl
              · exact ⟨4, rfl, by decide, by decide⟩
              · exact ⟨9, rfl, by decide, by decide⟩
              · exact ⟨10, rfl, by decide, by decide⟩
              · exact ⟨11, rfl, by decide, by decide⟩
              · exact ⟨12, rfl, by decide, by decide⟩
            refine ⟨_, rfl, by show 0 ≤ sizeLine; decide, fun z hz => ⟨by show 4 ≤ sizeLine; decide, fun g hg => ?_⟩⟩
            have tz := same_new (o := .lst []) hz
            have t := same_new (o := .lst [V.int 5, V.ref z, V.non, V.non]) hg
            have hz2 : upd (upd H8 z (.lst [])) g (.lst [V.int 5, V.ref z, V.non, V.non]) z = some (.lst []) := t _ _ upd_same
            refine ⟨k, g, _, .int 5, .ref z, .non, .non, .int 5, .list [], .none, .none, 2, 1, rfl, ⟨hk2, upd_same, rfl, rfl, fun _ => rfl, fun _ => rfl, 4, Sho.int 5, Sho.lst hz2 .nil, Sho.non, Sho.non, good5, smB_sm rfl, sm_none, sm_none⟩, verK_s rfl hk, by decide, fun H9 r s9 nr hr9 => ?_⟩
            have hz9 := s9 _ _ hz2
            refine ⟨by show 0 ≤ sizeLine; decide, fun y hy => ⟨by show 2 ≤ sizeLine; decide, fun b hb => ?_⟩⟩
            have ty := same_new (o := .lst []) hy
            have t2 := same_new (o := .lst [V.str "vectors", V.ref y]) hb
            have t3 := same_trans ty t2
            refine ⟨flatD, flatD, .lst (SqL.of (t3 _ _ hr9)) (.cons (.str _) (.cons (.lst (SqL.of (t3 _ _ hz9)) .nil) .nil)), .lst (SqL.of upd_same) (.cons (.str _) (.cons (.lst (SqL.of (t2 _ _ upd_same)) .nil) .nil)), flat_ok.1, flat_ok.1, ?_⟩
            rw [flat_ok.2]
            exact ⟨_, rfl, iteF ⟨same_trans s8 (same_trans tz (same_trans t (same_trans s9 t3))), _, _, _, rfl⟩⟩
          · rintro σ H8 ⟨s8, a8, b8, c8, rfl⟩
            exact want H8 (same_trans s17 (same_trans t8 s8))
end
end Vb
end L2

set_option Elab.async false
set_option linter.all false
set_option maxRecDepth 100000
set_option maxHeartbeats 8000000
/-! Vb, part 69: the last arguments. -/
namespace L2
namespace Vb
open PySem PySem.Spec PyProof.Rows
abbrev sLasts : Stmt := topS 61
abbrev nLasts : List Str := ["_law_good", "_law_bad", "_law_odd", "_law_door"]
theorem scLasts : FnScope nLasts ["_law_good"] (defScope sLasts) := ⟨rfl, rfl, rfl, by decide +kernel, rfl, by decide +kernel, by decide +kernel⟩
def lastA : List PyData := [.none, .int 0, .bool true, .str "", .tuple [], .dict [], .list [], .list [.int 1], .list [.int 1, .int 2, .int 5], .list [.int 1, .int 2, .int (-1)], .list [.int 1, .int 2, .bool true], .list [.int 1, .int 2, .none], .tuple [.int 1, .int 2, .int 3], .list [.list [.int 1], .int 2, .int 3]]
def lastB : List PyData := [.list [.int 1, .int 2, .int 3, .int 4]]
def lastC : List PyData := [.none, .int 0, .bool true, .str "", .tuple [], .dict [], .list [], .list [.int 1], .list [.int 1, .int 5], .list [.int 1, .bool true], .list [.none, .int 1], .tuple [.int 1, .int 1], .list [.int 1, .int 1, .int 1]]
def lastD : List PyData := [.list [], .list [.list [.int 1, .int 1]], .list [.list [.int 1, .int 1], .list [.int 1, .int 1], .list [.int 1, .int 1]], .list [.list [.int 1], .list [.int 1]], .list [.list [.int 1, .int 1, .int 1], .list [.int 1, .int 1, .int 1]]]
def lastE : List PyData := [.list []]
theorem lastB_all : (lastA ++ lastB).all (fun d => smB d && !(vecD 5 d && decide (lenD d = 3))) = true := by decide +kernel
theorem lastC_all : lastC.all (fun d => smB d && !vecOfD 5 2 d) = true := by decide +kernel
theorem lastD_all : lastD.all (fun d => smB d && !vecsOfD 5 2 2 d) = true := by decide +kernel
theorem lays_lA {σ : St} {H : Hp} : Lays (tLst (tCons (tC .non) (tCons (tC (.int 0)) (tCons (tC (.bl true)) (tCons (tC (.str "")) (tCons (tTup tNil) (tCons tDNewK (tCons (tLst tNil) (tCons (tLst (tCons (tC (.int 1)) tNil)) (tCons (tLst (tCons (tC (.int 1)) (tCons (tC (.int 2)) (tCons (tC (.int 5)) tNil)))) (tCons (tLst (tCons (tC (.int 1)) (tCons (tC (.int 2)) (tCons (tUn (rU fun i => .int (-i)) (tC (.int 1))) tNil)))) (tCons (tLst (tCons (tC (.int 1)) (tCons (tC (.int 2)) (tCons (tC (.bl true)) tNil)))) (tCons (tLst (tCons (tC (.int 1)) (tCons (tC (.int 2)) (tCons (tC .non) tNil)))) (tCons (tTup (tCons (tC (.int 1)) (tCons (tC (.int 2)) (tCons (tC (.int 3)) tNil)))) (tCons (tLst (tCons (tLst (tCons (tC (.int 1)) tNil)) (tCons (tC (.int 2)) (tCons (tC (.int 3)) tNil)))) tNil))))))))))))))) 5 σ H (.list lastA) := (lays_lst (laysA_cons lays_non (laysA_cons (lays_int _) (laysA_cons (lays_bl _) (laysA_cons (lays_str _) (laysA_cons (lays_tup laysA_nil (Nat.le_of_ble_eq_true rfl)) (laysA_cons lays_dct (laysA_cons (lays_lst laysA_nil (Nat.le_of_ble_eq_true rfl)) (laysA_cons (lays_lst (laysA_cons (lays_int _) laysA_nil) (Nat.le_of_ble_eq_true rfl)) (laysA_cons (lays_lst (laysA_cons (lays_int _) (laysA_cons (lays_int _) (laysA_cons (lays_int _) laysA_nil))) (Nat.le_of_ble_eq_true rfl)) (laysA_cons (lays_lst (laysA_cons (lays_int _) (laysA_cons (lays_int _) (laysA_cons (lays_neg _) laysA_nil))) (Nat.le_of_ble_eq_true rfl)) (laysA_cons (lays_lst (laysA_cons (lays_int _) (laysA_cons (lays_int _) (laysA_cons (lays_bl _) laysA_nil))) (Nat.le_of_ble_eq_true rfl)) (laysA_cons (lays_lst (laysA_cons (lays_int _) (laysA_cons (lays_int _) (laysA_cons lays_non laysA_nil))) (Nat.le_of_ble_eq_true rfl)) (laysA_cons (lays_tup (laysA_cons (lays_int _) (laysA_cons (lays_int _) (laysA_cons (lays_int _) laysA_nil))) (Nat.le_of_ble_eq_true rfl)) (laysA_cons (lays_lst (laysA_cons (lays_lst (laysA_cons (lays_int _) laysA_nil) (Nat.le_of_ble_eq_true rfl)) (laysA_cons (lays_int _) (laysA_cons (lays_int _) laysA_nil))) (Nat.le_of_ble_eq_true rfl)) laysA_nil)))))))))))))) (Nat.le_of_ble_eq_true rfl))
theorem lays_lB {σ : St} {H : Hp} (c : CV lastA σ H) : Lays (tOp rCat (tVar 1) (tLst (tCons (tLst (tCons (tC (.int 1)) (tCons (tC (.int 2)) (tCons (tC (.int 3)) (tCons (tC (.int 4)) tNil))))) tNil))) 5 σ H (.list (lastA ++ lastB)) := by
  obtain ⟨v, e, sf⟩ := c
  exact lays_cat (lays_var e sf) (lays_lst (laysA_cons (lays_lst (laysA_cons (lays_int _) (laysA_cons (lays_int _) (laysA_cons (lays_int _) (laysA_cons (lays_int _) laysA_nil)))) (Nat.le_of_ble_eq_true rfl)) laysA_nil) (Nat.le_of_ble_eq_true rfl)) (Nat.le_of_ble_eq_true rfl)
theorem lays_lC {σ : St} {H : Hp} : Lays (tLst (tCons (tC .non) (tCons (tC (.int 0)) (tCons (tC (.bl true)) (tCons (tC (.str "")) (tCons (tTup tNil) (tCons tDNewK (tCons (tLst tNil) (tCons (tLst (tCons (tC (.int 1)) tNil)) (tCons (tLst (tCons (tC (.int 1)) (tCons (tC (.int 5)) tNil))) (tCons (tLst (tCons (tC (.int 1)) (tCons (tC (.bl true)) tNil))) (tCons (tLst (tCons (tC .non) (tCons (tC (.int 1)) tNil))) (tCons (tTup (tCons (tC (.int 1)) (tCons (tC (.int 1)) tNil))) (tCons (tLst (tCons (tC (.int 1)) (tCons (tC (.int 1)) (tCons (tC (.int 1)) tNil)))) tNil)))))))))))))) 5 σ H (.list lastC) := (lays_lst (laysA_cons lays_non (laysA_cons (lays_int _) (laysA_cons (lays_bl _) (laysA_cons (lays_str _) (laysA_cons (lays_tup laysA_nil (Nat.le_of_ble_eq_true rfl)) (laysA_cons lays_dct (laysA_cons (lays_lst laysA_nil (Nat.le_of_ble_eq_true rfl)) (laysA_cons (lays_lst (laysA_cons (lays_int _) laysA_nil) (Nat.le_of_ble_eq_true rfl)) (laysA_cons (lays_lst (laysA_cons (lays_int _) (laysA_cons (lays_int _) laysA_nil)) (Nat.le_of_ble_eq_true rfl)) (laysA_cons (lays_lst (laysA_cons (lays_int _) (laysA_cons (lays_bl _) laysA_nil)) (Nat.le_of_ble_eq_true rfl)) (laysA_cons (lays_lst (laysA_cons lays_non (laysA_cons (lays_int _) laysA_nil)) (Nat.le_of_ble_eq_true rfl)) (laysA_cons (lays_tup (laysA_cons (lays_int _) (laysA_cons (lays_int _) laysA_nil)) (Nat.le_of_ble_eq_true rfl)) (laysA_cons (lays_lst (laysA_cons (lays_int _) (laysA_cons (lays_int _) (laysA_cons (lays_int _) laysA_nil))) (Nat.le_of_ble_eq_true rfl)) laysA_nil))))))))))))) (Nat.le_of_ble_eq_true rfl))
theorem lays_lD {σ : St} {H : Hp} : Lays (tLst (tCons (tLst tNil) (tCons (tLst (tCons (tLst (tCons (tC (.int 1)) (tCons (tC (.int 1)) tNil))) tNil)) (tCons (tLst (tCons (tLst (tCons (tC (.int 1)) (tCons (tC (.int 1)) tNil))) (tCons (tLst (tCons (tC (.int 1)) (tCons (tC (.int 1)) tNil))) (tCons (tLst (tCons (tC (.int 1)) (tCons (tC (.int 1)) tNil))) tNil)))) (tCons (tLst (tCons (tLst (tCons (tC (.int 1)) tNil)) (tCons (tLst (tCons (tC (.int 1)) tNil)) tNil))) (tCons (tLst (tCons (tLst (tCons (tC (.int 1)) (tCons (tC (.int 1)) (tCons (tC (.int 1)) tNil)))) (tCons (tLst (tCons (tC (.int 1)) (tCons (tC (.int 1)) (tCons (tC (.int 1)) tNil)))) tNil))) tNil)))))) 5 σ H (.list lastD) := (lays_lst (laysA_cons (lays_lst laysA_nil (Nat.le_of_ble_eq_true rfl)) (laysA_cons (lays_lst (laysA_cons (lays_lst (laysA_cons (lays_int _) (laysA_cons (lays_int _) laysA_nil)) (Nat.le_of_ble_eq_true rfl)) laysA_nil) (Nat.le_of_ble_eq_true rfl)) (laysA_cons (lays_lst (laysA_cons (lays_lst (laysA_cons (lays_int _) (laysA_cons (lays_int _) laysA_nil)) (Nat.le_of_ble_eq_true rfl)) (laysA_cons (lays_lst (laysA_cons (lays_int _) (laysA_cons (lays_int _) laysA_nil)) (Nat.le_of_ble_eq_true rfl)) (laysA_cons (lays_lst (laysA_cons (lays_int _) (laysA_cons (lays_int _) laysA_nil)) (Nat.le_of_ble_eq_true rfl)) laysA_nil))) (Nat.le_of_ble_eq_true rfl)) (laysA_cons (lays_lst (laysA_cons (lays_lst (laysA_cons (lays_int _) laysA_nil) (Nat.le_of_ble_eq_true rfl)) (laysA_cons (lays_lst (laysA_cons (lays_int _) laysA_nil) (Nat.le_of_ble_eq_true rfl)) laysA_nil)) (Nat.le_of_ble_eq_true rfl)) (laysA_cons (lays_lst (laysA_cons (lays_lst (laysA_cons (lays_int _) (laysA_cons (lays_int _) (laysA_cons (lays_int _) laysA_nil))) (Nat.le_of_ble_eq_true rfl)) (laysA_cons (lays_lst (laysA_cons (lays_int _) (laysA_cons (lays_int _) (laysA_cons (lays_int _) laysA_nil))) (Nat.le_of_ble_eq_true rfl)) laysA_nil)) (Nat.le_of_ble_eq_true rfl)) laysA_nil))))) (Nat.le_of_ble_eq_true rfl))
theorem lays_lE {σ : St} {H : Hp} : Lays (tLst (tCons (tLst tNil) tNil)) 5 σ H (.list lastE) := (lays_lst (laysA_cons (lays_lst laysA_nil (Nat.le_of_ble_eq_true rfl)) laysA_nil) (Nat.le_of_ble_eq_true rfl))
theorem cat_read {H : Hp} {v w : V} {xs ys : List PyData} {Q : VK} (e1 : Sho 5 H v (.list xs)) (e2 : Sho 5 H w (.list ys)) (l : xs.length + ys.length ≤ 1000) (q : ∀ v' H', Same H H' → Sho 5 H' v' (.list (xs ++ ys)) → Q v' H') : rCat v w H Q := by
  obtain ⟨m1, a, us, q1, rfl, ha, p1⟩ := e1.ofList
  obtain ⟨m2, b, ws, q2, rfl, hb, p2⟩ := e2.ofList
  cases q1
  cases q2
  refine ⟨a, b, us, ws, rfl, rfl, ha, hb, by rw [paired_len p1, paired_len p2, sizeLine_eq]; omega, fun p hp => ?_⟩
  exact q _ _ (same_new hp) (Sho.lst upd_same (paired_app (L2.Paired.mapP p1 fun _ _ z => z.up (same_new hp)) (L2.Paired.mapP p2 fun _ _ z => z.up (same_new hp))))
section
variable {r0 r1 : List Int} (h0 : Vc 5 3 r0) (h1 : Vc 5 3 r1)
include h0 h1
theorem mat_vecs : vecsD 5 (matP [r0, r1]) = true := by
  have b0 := row_vecD h0.2
  have b1 := row_vecD h1.2
  have c0 : lenD (rowP r0) = 3 := (len_row r0).trans h0.1
  have c1 : lenD (rowP r1) = 3 := (len_row r1).trans h1.1
  show ((vecD 5 (rowP r0) && (vecD 5 (rowP r1) && true)) && (decide (lenD (rowP r0) = lenD (rowP r0)) && (decide (lenD (rowP r1) = lenD (rowP r0)) && true))) = true
  rw [b0, b1, c0, c1]
  rfl
theorem mat_some : someD 5 (matP [r0, r1]) = true := by
  unfold someD
  rw [mat_vecs h0 h1]
  rfl
theorem mat_sm : Sm2 (matP [r0, r1]) := fun ds e => by
  cases e
  refine ⟨by show 2 ≤ 900; decide, fun e m es q => ?_⟩
  subst q
  rcases List.mem_cons.mp m with z | z
  · have w : es = r0.map PyData.int := PyData.list.inj z
    rw [w, List.length_map, h0.1]
    decide
  · have w : es = r1.map PyData.int := PyData.list.inj (List.mem_singleton.mp z)
    rw [w, List.length_map, h1.1]
    decide
theorem verK_5 {d d3 : PyData} (h : (vecD 5 d && decide (lenD d = 3)) = false) {k : Nat} (hk : 5 ≤ k) (hk2 : k < 9) : verK k (.int 5) (matP [r0, r1]) d d3 = some (2, 2) := by
  have k0 : ¬ k = 0 := by omega
  have k4 : ¬ k < 4 := by omega
  have kk : ¬ k = 4 := by omega
  unfold verK verQ
  rw [if_neg k0, if_neg k4, if_neg kk, if_pos hk2, if_neg (by rw [prim5]; decide), if_neg (by show ¬ vecsD 5 (matP [r0, r1]) = false; rw [mat_vecs h0 h1]; decide)]
  refine if_pos ?_
  show (vecD 5 d && decide (lenD d = lenD (rowP r0))) = false
  rw [len_row, h0.1]
  exact h
theorem verK_4 {d d3 : PyData} (h : vecOfD 5 2 d = false) : verK 4 (.int 5) (matP [r0, r1]) d d3 = some (2, 2) := by
  unfold verK verC
  rw [if_neg (by decide), if_neg (by decide), if_pos rfl, if_neg (by rw [prim5]; decide), if_neg (by show ¬ someD 5 (matP [r0, r1]) = false; rw [mat_some h0 h1]; decide)]
  exact if_pos h
theorem verK_9 {d : PyData} (h : vecsOfD 5 2 2 d = false) {k : Nat} (hk : 9 ≤ k) : verK k (.int 5) (matP [r0, r1]) (matP [[1, 2]]) d = some (2, 3) := by
  have k0 : ¬ k = 0 := by omega
  have k4 : ¬ k < 4 := by omega
  have kk : ¬ k = 4 := by omega
  have k9 : ¬ k < 9 := by omega
  unfold verK verB
  rw [if_neg k0, if_neg k4, if_neg kk, if_neg k9, if_neg (by rw [prim5]; decide), if_neg (by show ¬ someD 5 (matP [r0, r1]) = false; rw [mat_some h0 h1]; decide), if_neg (by decide)]
  exact if_pos h
theorem verK_9s {d d3 : PyData} (h : someD 5 d = false) {k : Nat} (hk : 9 ≤ k) : verK k (.int 5) (matP [r0, r1]) d d3 = some (2, 2) := by
  have k0 : ¬ k = 0 := by omega
  have k4 : ¬ k < 4 := by omega
  have kk : ¬ k = 4 := by omega
  have k9 : ¬ k < 9 := by omega
  unfold verK verB
  rw [if_neg k0, if_neg k4, if_neg kk, if_neg k9, if_neg (by rw [prim5]; decide), if_neg (by show ¬ someD 5 (matP [r0, r1]) = false; rw [mat_some h0 h1]; decide)]
  exact if_pos h
end
section
variable {P : Program} {w : World} {K : PySem.W.Frag} {mg : Str → Option Value} {base : Heap}
theorem ok_lasts {f fH fB : Addr} {fd fdH fdB : FuncData} (F : Fun K "_law_lasts_right" "_law_lasts_right" sLasts f fd)
    (FH : Fun K "_law_heard" "_law_heard" sHeard fH fdH) (GH : FnOk P w K mg base CX0 10 fH fdH ["_law_door", "_law_given"] spOnce) (gH : mg "_law_heard" = some (.ref fH))
    (FB : Fun K "_law_bad_vectors" "_law_bad_vectors" sBadV fB fdB) (GB : FnOk P w K mg base CX0 1 fB fdB ["_law_good"] spBadV) (gB : mg "_law_bad_vectors" = some (.ref fB)) (gR : mg "range" = none) :
    FnOk P w K mg base CX0 11 f fd ["_law_good"] spFirsts := by
  have bH : Binds K fdH ["_law_door", "_law_given"] [] := FH.binds fun _ _ _ _ _ _ us hl => match us, hl with | [_, _], _ => rfl
  have bB : Binds K fdB ["_law_good"] [] := FB.binds fun _ _ _ _ _ _ us hl => match us, hl with | [_], _ => rfl
  refine F.ok scLasts (fun vs H Q E h => ?_) (fun cdv A outer s0 H as Q E hr h => ?_)
  · obtain ⟨m, a0, a1, r0, r1, rfl, _⟩ := h
    rfl
  · obtain ⟨m, a0, a1, r0, r1, rfl, hm, h0, h1, vc0, vc1, want⟩ := h
    have sg : ∀ {H' : Hp}, Same H H' → Sho 4 H' (.ref m) (matP [r0, r1]) := fun s => Sho.lst (s _ _ hm) (.cons (Sho.row (show Rw _ a0 r0 from s _ _ h0)) (.cons (Sho.row (show Rw _ a1 r1 from s _ _ h1)) .nil))
    refine ⟨_, pss_cons (ps_set (i := 1) scLasts.nd rfl (Or.inl rfl) (pe_dat (C := fun _ _ => True) (n := 5) (d := .list lastA) (pe_lst (pa_cons pe_non (pa_cons pe_int (pa_cons pe_bl (pa_cons pe_str (pa_cons (pe_tup pa_nil) (pa_cons pe_dnewK (pa_cons (pe_lst pa_nil) (pa_cons (pe_lst (pa_cons pe_int pa_nil)) (pa_cons (pe_lst (pa_cons pe_int (pa_cons pe_int (pa_cons pe_int pa_nil)))) (pa_cons (pe_lst (pa_cons pe_int (pa_cons pe_int (pa_cons (pe_un un_neg pe_int) pa_nil)))) (pa_cons (pe_lst (pa_cons pe_int (pa_cons pe_int (pa_cons pe_bl pa_nil)))) (pa_cons (pe_lst (pa_cons pe_int (pa_cons pe_int (pa_cons pe_non pa_nil)))) (pa_cons (pe_tup (pa_cons pe_int (pa_cons pe_int (pa_cons pe_int pa_nil)))) (pa_cons (pe_lst (pa_cons (pe_lst (pa_cons pe_int pa_nil)) (pa_cons pe_int (pa_cons pe_int pa_nil)))) pa_nil))))))))))))))) (fun _ _ _ => lays_lA)))
      (pss_cons (ps_for PassesOwn.never rfl (pi_list (pe_dat (C := CV lastA) (n := 5) (d := .list (lastA ++ lastB)) (pe_op op_cat (pv 1) (pe_lst (pa_cons (pe_lst (pa_cons pe_int (pa_cons pe_int (pa_cons pe_int (pa_cons pe_int pa_nil))))) pa_nil))) (fun _ _ c => lays_lB c))) (pg_name (i := 2) scLasts.nd rfl (Or.inl rfl))
        (pss_one (ps_for PassesOwn.never rfl (pi_range2 rfl gR (pa_cons pe_int (pa_cons pe_int pa_nil))) (pg_name (i := 3) scLasts.nd rfl (Or.inl rfl))
            (pss_one (ps_if (pt_cmpR (op_neL (Nat.lt_of_le_of_lt (Nat.le_add_right _ _) hr.units)) (pe_call GH hr rfl gH FH.kp bH .nil pass0 (pa_cons (pv 3) (pa_cons (pe_lst (pa_cons pe_int (pa_cons (pv 0) (pa_cons (pv 2) pa_nil)))) pa_nil))) (pe_lst (pa_cons pe_str (pa_cons (pv 2) pa_nil))) (nomark _))
                (pss_one (ps_ret pe_bl))
                pss_nil)))))
      (pss_cons (ps_for PassesOwn.never rfl (pi_list (pe_dat (C := fun _ _ => True) (n := 5) (d := .list lastC) (pe_lst (pa_cons pe_non (pa_cons pe_int (pa_cons pe_bl (pa_cons pe_str (pa_cons (pe_tup pa_nil) (pa_cons pe_dnewK (pa_cons (pe_lst pa_nil) (pa_cons (pe_lst (pa_cons pe_int pa_nil)) (pa_cons (pe_lst (pa_cons pe_int (pa_cons pe_int pa_nil))) (pa_cons (pe_lst (pa_cons pe_int (pa_cons pe_bl pa_nil))) (pa_cons (pe_lst (pa_cons pe_non (pa_cons pe_int pa_nil))) (pa_cons (pe_tup (pa_cons pe_int (pa_cons pe_int pa_nil))) (pa_cons (pe_lst (pa_cons pe_int (pa_cons pe_int (pa_cons pe_int pa_nil)))) pa_nil)))))))))))))) (fun _ _ _ => lays_lC))) (pg_name (i := 2) scLasts.nd rfl (Or.inl rfl))
        (pss_one (ps_if (pt_cmpR (op_neL (Nat.lt_of_le_of_lt (Nat.le_add_right _ _) hr.units)) (pe_call GH hr rfl gH FH.kp bH .nil pass0 (pa_cons pe_int (pa_cons (pe_lst (pa_cons pe_int (pa_cons (pv 0) (pa_cons (pv 2) pa_nil)))) pa_nil))) (pe_lst (pa_cons pe_str (pa_cons (pv 2) pa_nil))) (nomark _))
            (pss_one (ps_ret pe_bl))
            pss_nil)))
      (pss_cons (ps_for PassesOwn.never rfl (pi_list (pe_op op_cat (pe_call GB (hr.mono (by decide)) rfl gB FB.kp bB .nil pass0 (pa_cons (pv 0) pa_nil)) (pe_dat (C := fun _ _ => True) (n := 5) (d := .list lastD) (pe_lst (pa_cons (pe_lst pa_nil) (pa_cons (pe_lst (pa_cons (pe_lst (pa_cons pe_int (pa_cons pe_int pa_nil))) pa_nil)) (pa_cons (pe_lst (pa_cons (pe_lst (pa_cons pe_int (pa_cons pe_int pa_nil))) (pa_cons (pe_lst (pa_cons pe_int (pa_cons pe_int pa_nil))) (pa_cons (pe_lst (pa_cons pe_int (pa_cons pe_int pa_nil))) pa_nil)))) (pa_cons (pe_lst (pa_cons (pe_lst (pa_cons pe_int pa_nil)) (pa_cons (pe_lst (pa_cons pe_int pa_nil)) pa_nil))) (pa_cons (pe_lst (pa_cons (pe_lst (pa_cons pe_int (pa_cons pe_int (pa_cons pe_int pa_nil)))) (pa_cons (pe_lst (pa_cons pe_int (pa_cons pe_int (pa_cons pe_int pa_nil)))) pa_nil))) pa_nil)))))) (fun _ _ _ => lays_lD)))) (pg_name (i := 2) scLasts.nd rfl (Or.inl rfl))
        (pss_one (ps_for PassesOwn.never rfl (pi_range2 rfl gR (pa_cons pe_int (pa_cons pe_int pa_nil))) (pg_name (i := 3) scLasts.nd rfl (Or.inl rfl))
            (pss_one (ps_if (pt_cmpR (op_neL (Nat.lt_of_le_of_lt (Nat.le_add_right _ _) hr.units)) (pe_call GH hr rfl gH FH.kp bH .nil pass0 (pa_cons (pv 3) (pa_cons (pe_lst (pa_cons pe_int (pa_cons (pv 0) (pa_cons (pe_lst (pa_cons (pe_lst (pa_cons pe_int (pa_cons pe_int pa_nil))) pa_nil)) (pa_cons (pv 2) pa_nil))))) pa_nil))) (pe_lst (pa_cons pe_str (pa_cons (pv 2) pa_nil))) (nomark _))
                (pss_one (ps_ret pe_bl))
                pss_nil)))))
      (pss_cons (ps_for PassesOwn.never rfl (pi_list (pe_op op_cat (pe_call GB (hr.mono (by decide)) rfl gB FB.kp bB .nil pass0 (pa_cons (pv 0) pa_nil)) (pe_dat (C := fun _ _ => True) (n := 5) (d := .list lastE) (pe_lst (pa_cons (pe_lst pa_nil) pa_nil)) (fun _ _ _ => lays_lE)))) (pg_name (i := 2) scLasts.nd rfl (Or.inl rfl))
        (pss_one (ps_for PassesOwn.never rfl (pi_range2 rfl gR (pa_cons pe_int (pa_cons pe_int pa_nil))) (pg_name (i := 3) scLasts.nd rfl (Or.inl rfl))
            (pss_one (ps_if (pt_cmpR (op_neL (Nat.lt_of_le_of_lt (Nat.le_add_right _ _) hr.units)) (pe_call GH hr rfl gH FH.kp bH .nil pass0 (pa_cons (pv 3) (pa_cons (pe_lst (pa_cons pe_int (pa_cons (pv 0) (pa_cons (pv 2) (pa_cons pe_non pa_nil))))) pa_nil))) (pe_lst (pa_cons pe_str (pa_cons (pv 2) pa_nil))) (nomark _))
                (pss_one (ps_ret pe_bl))
                pss_nil)))))
      (pss_one (ps_ret pe_bl)))))), ?_⟩
    refine ⟨trivial, fun v1 H1 s1 e1 => ?_⟩
    refine ⟨⟨v1, rfl, e1⟩, fun v2 H2 s2 e2 => ?_⟩
    have s12 := same_trans s1 s2
    obtain ⟨m2, l2, xs2, q, rfl, hl2, p2⟩ := e2.ofList
    cases q
    refine ⟨l2, rfl, ⟨_, SqL.of hl2⟩, ?_⟩
    refine for_list (xs := xs2) (fun i σ H' => Same H2 H' ∧ ∃ a b : Option V, σ = [some (.ref m), some v1, a, b]) ⟨same_rfl, _, _, rfl⟩ (fun i σ H' _ z => SqL.of (z.1 _ _ hl2)) ?_ ?_
    · rintro i x σ H3 hx ⟨s3, _, b0, rfl⟩
      obtain ⟨d, hd, sx⟩ := paired_at p2 hx
      obtain ⟨dk1, dk2⟩ := He.ba (List.all_eq_true.mp lastB_all d (List.mem_of_getElem? hd))
      have np : (vecD 5 d && decide (lenD d = 3)) = false := by
        cases z : (vecD 5 d && decide (lenD d = 3)) with
        | false => rfl
        | true =>
          rw [z] at dk2
          cases dk2
      refine ⟨5, 9, rfl, ⟨by decide, by decide, by decide, by decide⟩, ?_⟩
      have en : ((9 : Int) - 5).toNat = 4 := rfl
      rw [en]
      refine for_range (lo := 5) (n := 4) (fun k σ H' => Same H2 H' ∧ ∃ b : Option V, σ = [some (.ref m), some v1, some x, b]) ⟨s3, _, rfl⟩ ?_ ?_
      · rintro k σ H4 hk ⟨s4, _, rfl⟩
        have e0 : (5 : Int) + (k : Int) = ((k + 5 : Nat) : Int) := by omega
        rw [e0]
        have sx4 := sx.up s4
        refine ⟨_, rfl, _, rfl, _, rfl, by show 3 ≤ sizeLine; decide, fun g hg => ?_⟩
        have t := same_new (o := .lst [V.int 5, V.ref m, x]) hg
        have tt := same_trans s12 (same_trans s4 t)
        refine ⟨k + 5, g, _, .int 5, .ref m, x, .non, .int 5, matP [r0, r1], d, .none, 2, 2, rfl, ⟨by omega, upd_same, rfl, rfl, fun _ => rfl, fun z => absurd z (by omega), 4, Sho.int 5, sg tt, sx4.up t, Sho.non, good5, mat_sm vc0 vc1, smB_sm dk1, sm_none⟩, verK_5 vc0 vc1 np (by omega) (by omega), by decide, fun H5 r s5 nr hr5 => ?_⟩
        refine ⟨_, rfl, by show 2 ≤ sizeLine; decide, fun b hb => ?_⟩
        have t2 := same_new (o := .lst [V.str "vectors", x]) hb
        refine ⟨r, b, _, _, _, _, true, true, rfl, rfl, t2 _ _ hr5, upd_same, eqS_str _, sx4.eqS, _, rfl, iteF ?_⟩
        exact ⟨same_trans s4 (same_trans t (same_trans s5 t2)), _, rfl⟩
      · rintro σ H4 ⟨s4, b1, rfl⟩
        exact ⟨s4, _, _, rfl⟩
    · rintro σ H3 ⟨s3, a3, b3, rfl⟩
      refine ⟨trivial, fun v4 H4 s4 e4 => ?_⟩
      have s14 := same_trans s12 (same_trans s3 s4)
      obtain ⟨m4, l4, xs4, q, rfl, hl4, p4⟩ := e4.ofList
      cases q
      refine ⟨l4, rfl, ⟨_, SqL.of hl4⟩, ?_⟩
      refine for_list (xs := xs4) (fun i σ H' => Same H4 H' ∧ ∃ a b : Option V, σ = [some (.ref m), some v1, a, b]) ⟨same_rfl, _, _, rfl⟩ (fun i σ H' _ z => SqL.of (z.1 _ _ hl4)) ?_ ?_
      · rintro i x σ H5 hx ⟨s5, _, b0, rfl⟩
        obtain ⟨d, hd, sx⟩ := paired_at p4 hx
        obtain ⟨dk1, dk2⟩ := He.ba (List.all_eq_true.mp lastC_all d (List.mem_of_getElem? hd))
        have nf : vecOfD 5 2 d = false := by
          cases z : vecOfD 5 2 d with
          | false => rfl
          | true =>
            rw [z] at dk2
            cases dk2
        have sx5 := sx.up s5
        refine ⟨_, rfl, _, rfl, by show 3 ≤ sizeLine; decide, fun g hg => ?_⟩
        have t := same_new (o := .lst [V.int 5, V.ref m, x]) hg
        have tt := same_trans s14 (same_trans s5 t)
        refine ⟨4, g, _, .int 5, .ref m, x, .non, .int 5, matP [r0, r1], d, .none, 2, 2, rfl, ⟨by decide, upd_same, rfl, rfl, fun _ => rfl, fun h => absurd h (by decide), 4, Sho.int 5, sg tt, sx5.up t, Sho.non, good5, mat_sm vc0 vc1, smB_sm dk1, sm_none⟩, verK_4 vc0 vc1 nf, by decide, fun H6 r s6 nr hr6 => ?_⟩
        refine ⟨_, rfl, by show 2 ≤ sizeLine; decide, fun b hb => ?_⟩
        have t2 := same_new (o := .lst [V.str "vectors", x]) hb
        refine ⟨r, b, _, _, _, _, true, true, rfl, rfl, t2 _ _ hr6, upd_same, eqS_str _, sx5.eqS, _, rfl, iteF ?_⟩
        exact ⟨same_trans s5 (same_trans t (same_trans s6 t2)), _, _, rfl⟩
      · rintro σ H5 ⟨s5, a5, b5, rfl⟩
        have s15 := same_trans s14 s5
        refine ⟨_, rfl, m, a0, a1, r0, r1, rfl, s15 _ _ hm, s15 _ _ h0, s15 _ _ h1, fun v6 H6 s6 e6 => ?_⟩
        refine ⟨trivial, fun v7 H7 s7 e7 => ?_⟩
        refine cat_read (e6.up s7) e7 (Nat.le_of_ble_eq_true rfl) fun v8 H8 s8 e8 => ?_
        have s18 := same_trans s15 (same_trans s6 (same_trans s7 s8))
        obtain ⟨m8, l8, xs8, q, rfl, hl8, p8⟩ := e8.ofList
        cases q
        refine ⟨l8, rfl, ⟨_, SqL.of hl8⟩, ?_⟩
        refine for_list (xs := xs8) (fun i σ H' => Same H8 H' ∧ ∃ a b : Option V, σ = [some (.ref m), some v1, a, b]) ⟨same_rfl, _, _, rfl⟩ (fun i σ H' _ z => SqL.of (z.1 _ _ hl8)) ?_ ?_
        · rintro i x σ H9 hx ⟨s9, _, b0, rfl⟩
          obtain ⟨d, hd, sx⟩ := paired_at p8 hx
          obtain ⟨dz, nv⟩ : Sm2 d ∧ vecsOfD 5 2 2 d = false := by
            rcases List.mem_append.mp (List.mem_of_getElem? hd) with mm | mm
            · obtain ⟨dk1, dk2⟩ := He.ba (List.all_eq_true.mp (bad_all vc0 vc1) d mm)
              obtain ⟨dk2, dk3⟩ := He.ba dk2
              exact ⟨ok_sm2 dk1, by simpa using dk3⟩
            · obtain ⟨dk1, dk2⟩ := He.ba (List.all_eq_true.mp lastD_all d mm)
              exact ⟨smB_sm dk1, by simpa using dk2⟩
          refine ⟨9, 13, rfl, ⟨by decide, by decide, by decide, by decide⟩, ?_⟩
          have en : ((13 : Int) - 9).toNat = 4 := rfl
          rw [en]
          refine for_range (lo := 9) (n := 4) (fun k σ H' => Same H8 H' ∧ ∃ b : Option V, σ = [some (.ref m), some v1, some x, b]) ⟨s9, _, rfl⟩ ?_ ?_
          · rintro k σ H10 hk ⟨s10, _, rfl⟩
            have e0 : (9 : Int) + (k : Int) = ((k + 9 : Nat) : Int) := by omega
            rw [e0]
            have sx10 := sx.up s10
            refine ⟨_, rfl, _, rfl, by show 2 ≤ sizeLine; decide, fun c1 hc1 => ⟨by show 1 ≤ sizeLine; decide, fun c2 hc2 => ⟨_, rfl, by show 4 ≤ sizeLine; decide, fun g hg => ?_⟩⟩⟩
            have ta := same_new (o := .lst [V.int 1, V.int 2]) hc1
            have tb := same_new (o := .lst [V.ref c1]) hc2
            have tc := same_new (o := .lst [V.int 5, V.ref m, V.ref c2, x]) hg
            have t := same_trans ta (same_trans tb tc)
            have tt := same_trans s18 (same_trans s10 t)
            refine ⟨k + 9, g, _, .int 5, .ref m, .ref c2, x, .int 5, matP [r0, r1], matP [[1, 2]], d, 2, 3, rfl, ⟨by omega, upd_same, rfl, rfl, fun _ => rfl, fun _ => rfl, 4, Sho.int 5, sg tt, Sho.lst (tc _ _ upd_same) (.cons (Sho.lst (tc _ _ (tb _ _ upd_same)) (.cons (Sho.int 1) (.cons (Sho.int 2) .nil))) .nil), sx10.up t, good5, mat_sm vc0 vc1, smB_sm rfl, dz⟩, verK_9 vc0 vc1 nv (by omega), by decide, fun H11 r s11 nr hr11 => ?_⟩
            refine ⟨_, rfl, by show 2 ≤ sizeLine; decide, fun b hb => ?_⟩
            have t2 := same_new (o := .lst [V.str "vectors", x]) hb
            refine ⟨r, b, _, _, _, _, true, true, rfl, rfl, t2 _ _ hr11, upd_same, eqS_str _, sx10.eqS, _, rfl, iteF ?_⟩
            exact ⟨same_trans s10 (same_trans t (same_trans s11 t2)), _, rfl⟩
          · rintro σ H10 ⟨s10, b1, rfl⟩
            exact ⟨s10, _, _, rfl⟩
        · rintro σ H9 ⟨s9, a9, b9, rfl⟩
          have s19 := same_trans s18 s9
          refine ⟨_, rfl, m, a0, a1, r0, r1, rfl, s19 _ _ hm, s19 _ _ h0, s19 _ _ h1, fun v10 H10 s10 e10 => ?_⟩
          refine ⟨trivial, fun v11 H11 s11 e11 => ?_⟩
          refine cat_read (e10.up s11) e11 (Nat.le_of_ble_eq_true rfl) fun v12 H12 s12' e12 => ?_
          have s112 := same_trans s19 (same_trans s10 (same_trans s11 s12'))
          obtain ⟨m12, l12, xs12, q, rfl, hl12, p12⟩ := e12.ofList
          cases q
          refine ⟨l12, rfl, ⟨_, SqL.of hl12⟩, ?_⟩
          refine for_list (xs := xs12) (fun i σ H' => Same H12 H' ∧ ∃ a b : Option V, σ = [some (.ref m), some v1, a, b]) ⟨same_rfl, _, _, rfl⟩ (fun i σ H' _ z => SqL.of (z.1 _ _ hl12)) ?_ ?_
          · rintro i x σ H13 hx ⟨s13, _, b0, rfl⟩
            obtain ⟨d, hd, sx⟩ := paired_at p12 hx
            obtain ⟨dz, nv⟩ : Sm2 d ∧ someD 5 d = false := by
              rcases List.mem_append.mp (List.mem_of_getElem? hd) with mm | mm
              · obtain ⟨dk1, dk2⟩ := He.ba (List.all_eq_true.mp (bad_all vc0 vc1) d mm)
                obtain ⟨dk2, dk3⟩ := He.ba dk2
                exact ⟨ok_sm2 dk1, some_no (by simpa using dk2)⟩
              · rw [show d = .list [] from List.mem_singleton.mp mm]
                exact ⟨smB_sm rfl, rfl⟩
            refine ⟨9, 13, rfl, ⟨by decide, by decide, by decide, by decide⟩, ?_⟩
            have en : ((13 : Int) - 9).toNat = 4 := rfl
            rw [en]
            refine for_range (lo := 9) (n := 4) (fun k σ H' => Same H12 H' ∧ ∃ b : Option V, σ = [some (.ref m), some v1, some x, b]) ⟨s13, _, rfl⟩ ?_ ?_
            · rintro k σ H14 hk ⟨s14', _, rfl⟩
              have e0 : (9 : Int) + (k : Int) = ((k + 9 : Nat) : Int) := by omega
              rw [e0]
              have sx14 := sx.up s14'
              refine ⟨_, rfl, _, rfl, _, rfl, by show 4 ≤ sizeLine; decide, fun g hg => ?_⟩
              have t := same_new (o := .lst [V.int 5, V.ref m, x, V.non]) hg
              have tt := same_trans s112 (same_trans s14' t)
              refine ⟨k + 9, g, _, .int 5, .ref m, x, .non, .int 5, matP [r0, r1], d, .none, 2, 2, rfl, ⟨by omega, upd_same, rfl, rfl, fun _ => rfl, fun _ => rfl, 4, Sho.int 5, sg tt, sx14.up t, Sho.non, good5, mat_sm vc0 vc1, dz, sm_none⟩, verK_9s vc0 vc1 nv (by omega), by decide, fun H15 r s15' nr hr15 => ?_⟩
              refine ⟨_, rfl, by show 2 ≤ sizeLine; decide, fun b hb => ?_⟩
              have t2 := same_new (o := .lst [V.str "vectors", x]) hb
              refine ⟨r, b, _, _, _, _, true, true, rfl, rfl, t2 _ _ hr15, upd_same, eqS_str _, sx14.eqS, _, rfl, iteF ?_⟩
              exact ⟨same_trans s14' (same_trans t (same_trans s15' t2)), _, rfl⟩
            · rintro σ H14 ⟨s14', b1, rfl⟩
              exact ⟨s14', _, _, rfl⟩
          · rintro σ H13 ⟨s13, a13, b13, rfl⟩
            exact want H13 (same_trans s112 s13)
end
end Vb
end L2

set_option Elab.async false
set_option linter.all false
set_option maxRecDepth 100000
set_option maxHeartbeats 8000000
/-! Vb, part 70: calls with all arguments by name, in the turned order; the doors where they let. -/
namespace L2
namespace Vb
open PySem PySem.Spec PyProof.Rows
/-- how the arguments bind where they are given by name, the last first -/
def RevB (K : PySem.W.Frag) (fd : FuncData) (ps : List Str) : Prop := ∀ (s : Shared) (ws : List Value), K.In s.heap → ws.length = ps.length → BindsTo s fd ⟨[], ps.reverse.zip ws⟩ (ps.zip ws.reverse)
theorem rev_of {K : PySem.W.Frag} {x qual : Str} {st : Stmt} {f : Addr} {fd : FuncData} {ps : List Str} (F : Fun K x qual st f fd)
    (h : ∀ (kV doc pm : Value) (an : Option Addr) (cdv ct : Value) (ws : List Value), ws.length = ps.length → bindArgs (PySem.W.fnOf x qual (defArgs st) (defBody st) (defScope st) .none kV doc pm an cdv ct) ⟨[], ps.reverse.zip ws⟩ = pure (ps.zip ws.reverse)) : RevB K fd ps := by
  obtain ⟨oc, od, kV, doc, pm, an, cdv, ct, osl, rfl, lk, hcd⟩ := F.ex
  exact fun s ws _ hl => BindsTo.of_eq (h kV doc pm an cdv ct ws hl)
def tCallR (sp : Sp) (E : XK) (tk : TA) : TE := fun σ H Q => tk σ H fun zs H1 => sp zs.reverse H1 Q E
theorem vals_rev' : ∀ {vs : List V} {us : List Value}, Vals vs us → Vals vs.reverse us.reverse
  | _, _, .nil => .nil
  | _, _, .cons r t => by
    rw [List.reverse_cons, List.reverse_cons]
    exact (vals_rev' t).append (.cons r .nil)
section
variable {X : Cx} {CX : CXT} {k : Nat} {f : Addr} {fd : FuncData} {ps : List Str} {sp : Sp} {E : XK} {x : Str} {p pos : Pos} {kws : List Keyword} {tk : TA}
theorem pe_callR (F : FnOk X.prog X.w X.K X.mg X.base CX k f fd ps sp) (hr : Room k X.A) (hg : Gl X x) (hm : X.mg x = some (.ref f)) (hk : PySem.W.keepIn X.K (.ref f) = true) (hb : RevB X.K fd ps) (hx : Passes CX X E)
    (hkw : PK X kws tk) (hall : (backToKw pos (keywordEach kws X.env)).all (·.1.isSome) = true := by rfl) (hks : (backToKw pos (keywordEach kws X.env)).filterMap (·.1) = ps.reverse := by rfl)
    (hdb : (x == ("__debug__" : Str)) = false := by decide) (hpl : ((backTo pos (starEach [] X.env)).any (·.1) || (backToKw pos (keywordEach kws X.env)).any (·.1.isNone)) = false := by rfl) :
    PE X (.Call (.Name x p) [] kws pos) (tCallR sp E tk) := by
  refine ⟨fun pins s σ H Q I h => ?_⟩
  refine wpAny_Call_Name_kw (ld_glob I hg hm ?_ hdb)
  refine PySem.W.callWith_KW0 (h₀ := X.base) I.ok.mod.kin hk hall (thn (hkw.run pos pins s σ H _ I h) fun ws s1 ⟨zs, H1, I1, rz, q⟩ => ⟨I1.kIn, ?_⟩) hpl
  rw [hks]
  have r2 := vals_rev' rz
  have hl : ws.length = ps.length := by
    have e := r2.length
    rw [F.len _ _ _ _ q, List.length_reverse] at e
    exact e.symm
  refine wpAny_call (codeAny_mono (F.run X.A X.stack s1 H1 ⟨[], ps.reverse.zip ws⟩ ws.reverse zs.reverse Q E hr I1.env0 (hb s1 ws I1.kIn hl) r2 q) fun r s' hq => ?_)
  cases r with
  | error e => exact hx pins σ H1 s1 e s' I1 hq
  | ok fl =>
    cases fl with
    | ret u => exact I1.after hq
    | next => exact False.elim hq
    | brk => exact False.elim hq
    | cont => exact False.elim hq
end
/-- a call that gives what R says, new things alone, where C holds -/
def tRes (C : St → Hp → Prop) (R : Hp → V → Prop) : TE := fun σ H Q => C σ H ∧ ∀ v H', Same H H' → R H' v → Q v H'
theorem pe_res {X : Cx} {e : Expr} {te : TE} {C : St → Hp → Prop} {R : Hp → V → Prop} (h : PE X e te) (L : ∀ σ H Q, C σ H → (∀ v H', Same H H' → R H' v → Q v H') → te σ H Q) : PE X e (tRes C R) := ⟨fun pins s σ H Q I k => h.run pins s σ H Q I (L σ H Q k.1 k.2)⟩
/-- nothing leaves -/
def EF : XK := fun _ _ _ => False
theorem passF {X : Cx} : Passes (L2.CX X.prog X.w) X EF := passes_call (E := EF) takes0 fun _ _ _ _ h => h
end Vb
end L2

set_option Elab.async false
set_option linter.all false
set_option maxRecDepth 100000
set_option maxHeartbeats 8000000
/-! Vb, part 71: what the doors tell of the drawn vectors. -/
namespace L2
namespace Vb
open PySem PySem.Spec PyProof.Rows
open LinA (Bas InS Meets colsA colA bars Sol)
def CH (m a0 a1 : Addr) (r0 r1 : List Int) (H : Hp) : Prop := H m = some (.lst [.ref a0, .ref a1]) ∧ Rw H a0 r0 ∧ Rw H a1 r1
theorem CH.up {m a0 a1 : Addr} {r0 r1 : List Int} {H H' : Hp} (c : CH m a0 a1 r0 r1 H) (s : Same H H') : CH m a0 a1 r0 r1 H' := ⟨s _ _ c.1, s _ _ c.2.1, s _ _ c.2.2⟩
theorem CH.sho {m a0 a1 : Addr} {r0 r1 : List Int} {H : Hp} (c : CH m a0 a1 r0 r1 H) {n : Nat} : Sho (n + 2) H (.ref m) (matP [r0, r1]) := Sho.lst c.1 (.cons (Sho.row c.2.1) (.cons (Sho.row c.2.2) .nil))
theorem mat_inj {S T : List (List Int)} (h : matP S = matP T) : S = T := by
  have z := congrArg matN h
  rw [matN_mat, matN_mat] at z
  exact z
theorem row_inj {x y : List Int} (h : rowP x = rowP y) : x = y := by
  have z := congrArg numsD h
  rw [nums_row, nums_row] at z
  exact z
def optD : Option (List Int) → PyData
  | none => .none
  | some x => rowP x
theorem opt_sho {n : Nat} {H H' : Hp} {v : V} {r : Option (List Int)} (h : OptRw H H' v r) : Sho (n + 1) H' v (optD r) := by
  cases r with
  | none =>
    have e : v = .non := h
    rw [e]
    exact Sho.non
  | some x =>
    obtain ⟨d, rfl, _, hd⟩ := h
    exact Sho.row hd
theorem mat_sho {n : Nat} {H : Hp} {d : Addr} {bs : List Addr} {B : List (List Int)} (h : H d = some (.lst (bs.map V.ref))) (k : Rws H bs B) : Sho (n + 2) H (.ref d) (matP B) := Sho.mat h k
section
variable {CP CN CV m a0 a1 : Addr} {r0 r1 : List Int} {H : Hp} {Q : VK} (h0 : Vc 5 3 r0) (h1 : Vc 5 3 r1) (c : CH m a0 a1 r0 r1 H)
theorem core_inv (k : ∀ H', Same H H' → Q (.int 3) H') : spInvX CP CN CV [.int 5, .int 2] H Q EF := by
  refine ⟨.int 5, .int 2, .int 5, .int 2, 0, rfl, Sho.int 5, Sho.int 2, rfl, good5, ?_⟩
  rw [show verI (.int 5) (.int 2) = none from by decide +kernel]
  exact k
include h0 h1
theorem ver_V : verV (.int 5) (matP [r0, r1]) = none := by
  unfold verV
  rw [if_neg (by rw [prim5]; decide)]
  exact if_neg (by show ¬ vecsD 5 (matP [r0, r1]) = false; rw [mat_vecs h0 h1]; decide)
theorem ver_C {d : PyData} (hd : vecOfD 5 2 d = true) : verC (.int 5) (matP [r0, r1]) d = none := by
  unfold verC
  rw [if_neg (by rw [prim5]; decide), if_neg (by show ¬ someD 5 (matP [r0, r1]) = false; rw [mat_some h0 h1]; decide)]
  exact if_neg (by show ¬ vecOfD 5 2 d = false; rw [hd]; decide)
theorem ver_Q : verQ (.int 5) (matP [r0, r1]) (rowP r0) = none := by
  unfold verQ
  rw [if_neg (by rw [prim5]; decide), if_neg (by show ¬ vecsD 5 (matP [r0, r1]) = false; rw [mat_vecs h0 h1]; decide)]
  refine if_neg ?_
  show ¬ (vecD 5 (rowP r0) && decide (lenD (rowP r0) = lenD (rowP r0))) = false
  rw [row_vecD h0.2, decide_eq_true rfl]
  decide
theorem ver_B : verB (.int 5) (matP [[1], [2]]) (matP [r0, r1]) (matP [r0, r1]) = none := by
  unfold verB
  rw [if_neg (by rw [prim5]; decide), if_neg (by decide), if_neg (by show ¬ someD 5 (matP [r0, r1]) = false; rw [mat_some h0 h1]; decide)]
  refine if_neg ?_
  have b0 := row_vecD h0.2
  have b1 := row_vecD h1.2
  have c0 : lenD (rowP r0) = 3 := (len_row r0).trans h0.1
  have c1 : lenD (rowP r1) = 3 := (len_row r1).trans h1.1
  show ¬ (decide (([rowP r0, rowP r1] : List PyData).length = 2) && ((vecD 5 (rowP r0) && decide (lenD (rowP r0) = lenD (rowP r0))) && ((vecD 5 (rowP r1) && decide (lenD (rowP r1) = lenD (rowP r0))) && true))) = false
  rw [b0, b1, c0, c1]
  exact fun z => absurd (show (true : Bool) = false from z) (by decide)
include c
theorem core_red (k : ∀ v H', Same H H' → (∃ B t, Bas 5 3 [r0, r1] B t ∧ Sho 3 H' v (matP B)) → Q v H') : spRedX CP CN CV [.int 5, .ref m] H Q EF := by
  refine ⟨.int 5, .ref m, .int 5, matP [r0, r1], 2, rfl, Sho.int 5, c.sho, rfl, good5, mat_sm h0 h1, ?_⟩
  rw [ver_V h0 h1]
  intro T e hv H' d bs B t r
  obtain rfl := mat_inj e
  obtain ⟨q1, q2, q3, q4, q5, q6, q7⟩ := r
  have q6 : Bas 5 r0.length [r0, r1] B t := q6
  rw [h0.1] at q6
  exact k _ H' q1 ⟨B, t, q6, mat_sho q3 q4⟩
theorem core_rank (k : ∀ v H', Same H H' → (∃ B t, Bas 5 3 [r0, r1] B t ∧ v = .int (B.length : Int)) → Q v H') : spRankX CP CN CV [.int 5, .ref m] H Q EF := by
  refine ⟨.int 5, .ref m, .int 5, matP [r0, r1], 2, rfl, Sho.int 5, c.sho, rfl, good5, mat_sm h0 h1, ?_⟩
  rw [ver_V h0 h1]
  intro T e hv H' B t s q6
  obtain rfl := mat_inj e
  have q6 : Bas 5 r0.length [r0, r1] B t := q6
  rw [h0.1] at q6
  exact k _ H' s ⟨B, t, q6, rfl⟩
theorem core_noth (k : ∀ v H', Same H H' → (∃ B F t, Bas 5 2 F B t ∧ (∀ xs, InS 5 2 F xs ↔ LinA.Ker 5 2 (colsA [r0, r1] 3) xs) ∧ Sho 3 H' v (matP B)) → Q v H') : spNoth CP CN CV [.int 5, .ref m] H Q EF := by
  refine ⟨.int 5, .ref m, .int 5, matP [r0, r1], 2, rfl, Sho.int 5, c.sho, rfl, good5, mat_sm h0 h1, fun e => ?_, fun _ e => ?_, fun _ _ T e hv H' d bs B cr => ?_⟩
  · rw [prim5] at e
    cases e
  · have e : vecsD 5 (matP [r0, r1]) = false := e
    rw [mat_vecs h0 h1] at e
    cases e
  · obtain rfl := mat_inj e
    obtain ⟨q1, q2, q3, q4, q5, q6, F, t, b, ke⟩ := cr
    have ke : ∀ xs, InS 5 2 F xs ↔ LinA.Ker 5 2 (colsA [r0, r1] r0.length) xs := ke
    rw [h0.1] at ke
    exact k _ H' q1 ⟨B, F, t, b, ke, mat_sho q3 q4⟩
theorem core_comb {b : Addr} (hb : Rw H b [1, 2]) (k : ∀ v H', Same H H' → Sho 3 H' v (rowP (addZ 5 [r0, r1] [1, 2] 3)) → Q v H') : spCombX CP CN CV [.int 5, .ref m, .ref b] H Q EF := by
  refine ⟨.int 5, .ref m, .ref b, .int 5, matP [r0, r1], rowP [1, 2], 2, rfl, Sho.int 5, c.sho, Sho.row hb, rfl, good5, mat_sm h0 h1, ok_sm1 (n := 2) rfl, ?_⟩
  rw [ver_C h0 h1 (by decide)]
  intro T fs e1 e2 _ H' d s _ hd
  obtain rfl := mat_inj e1
  obtain rfl := row_inj e2
  have hd : Rw H' d (addZ 5 [r0, r1] [1, 2] r0.length) := hd
  rw [h0.1] at hd
  exact k _ H' s (Sho.row hd)
theorem core_solved (k : ∀ v H', Same H H' → (∃ r, Meets 5 2 (colsA [r0, r1] 3) r0 r ∧ Sho 3 H' v (optD r)) → Q v H') : spSolved CP CN CV [.int 5, .ref m, .ref a0] H Q EF := by
  refine ⟨.int 5, .ref m, .ref a0, .int 5, matP [r0, r1], rowP r0, 2, rfl, Sho.int 5, c.sho, Sho.row c.2.1, rfl, good5, mat_sm h0 h1, ok_sm1 (n := 2) (row_okL (n := 1) h0.2 h0.1).1, ?_⟩
  rw [ver_Q h0 h1]
  intro T xs e1 e2 _ _ H' v r s o me
  obtain rfl := mat_inj e1
  obtain rfl := row_inj e2
  have me : Meets 5 2 (colsA [r0, r1] r0.length) r0 r := me
  rw [h0.1] at me
  exact k _ H' s ⟨r, me, opt_sho o⟩
theorem core_barred (k : ∀ H', Same H H' → Q .non H') : spBarred CP CN CV [.int 5, .ref m, .ref a0] H Q EF := by
  refine ⟨.int 5, .ref m, .ref a0, .int 5, matP [r0, r1], rowP r0, 2, rfl, Sho.int 5, c.sho, Sho.row c.2.1, rfl, good5, mat_sm h0 h1, ok_sm1 (n := 2) (row_okL (n := 1) h0.2 h0.1).1, ?_⟩
  rw [ver_Q h0 h1]
  intro T xs e1 e2 _ _ H' v r s o me
  obtain rfl := mat_inj e1
  obtain rfl := row_inj e2
  cases r with
  | none =>
    have e : v = .non := o
    rw [e]
    exact k H' s
  | some x =>
    have z : Sol 5 r0.length ([r0, r1] ++ [r0]) (bars 2) x := me.1
    obtain ⟨_, z1, z2⟩ := (LinA.sol_bars [r0, r1] r0 x).mp z
    rw [z1 r0 List.mem_cons_self] at z2
    cases z2
theorem add_first : addZ 5 [r0, r1] [1, 0] 3 = r0 := by
  obtain ⟨l0, b0⟩ := h0
  obtain ⟨l1, b1⟩ := h1
  match r0, r1, l0, l1 with
  | [a, b, c], [d, e, f], _, _ =>
    have ha := b0 a (by simp)
    have hb := b0 b (by simp)
    have hc := b0 c (by simp)
    simp [addZ, dotZ, colZ, List.range_succ]
    omega
theorem core_isSol {b : Addr} (hb : Rw H b [1, 0]) (k : ∀ H', Same H H' → Q (.bl true) H') : spJudge isSol CP CN CV [.int 5, .ref m, .ref a0, .ref b] H Q EF := by
  refine ⟨.int 5, .ref m, .ref a0, .ref b, .int 5, matP [r0, r1], rowP r0, rowP [1, 0], 2, rfl, Sho.int 5, c.sho, Sho.row c.2.1, Sho.row hb, rfl, good5, mat_sm h0 h1, ok_sm1 (n := 2) (row_okL (n := 1) h0.2 h0.1).1, ok_sm1 (n := 2) rfl, ?_⟩
  rw [ver_Q h0 h1]
  intro T xs e1 e2 _ _ H' s
  obtain rfl := mat_inj e1
  obtain rfl := row_inj e2
  have z : isSol 5 [r0, r1] r0 (rowP [1, 0]) = true := by
    unfold isSol
    rw [nums_row, h0.1, add_first h0 h1 c, decide_eq_true rfl]
    rfl
  show Q (.bl (isSol 5 [r0, r1] r0 (rowP [1, 0]))) H'
  rw [z]
  exact k H' s
theorem core_isBar {b : Addr} (hb : Rw H b [1]) (k : ∀ H', Same H H' → Q (.bl false) H') : spJudge isBar CP CN CV [.int 5, .ref m, .ref a0, .ref b] H Q EF := by
  refine ⟨.int 5, .ref m, .ref a0, .ref b, .int 5, matP [r0, r1], rowP r0, rowP [1], 2, rfl, Sho.int 5, c.sho, Sho.row c.2.1, Sho.row hb, rfl, good5, mat_sm h0 h1, ok_sm1 (n := 2) (row_okL (n := 1) h0.2 h0.1).1, ok_sm1 (n := 2) rfl, ?_⟩
  rw [ver_Q h0 h1]
  intro T xs e1 e2 _ _ H' s
  obtain rfl := mat_inj e1
  obtain rfl := row_inj e2
  have z : isBar 5 [r0, r1] r0 (rowP [1]) = false := by
    unfold isBar
    rw [h0.1, show vecOfD 5 3 (rowP [1]) = false from by decide]
    rfl
  show Q (.bl (isBar 5 [r0, r1] r0 (rowP [1]))) H'
  rw [z]
  exact k H' s
section
variable {l : Addr} (hl : Sho 4 H (.ref l) (matP [[1], [2]]))
include hl
theorem core_betw (k : ∀ v H', Same H H' → (∃ r, BetwR 5 1 3 [[1], [2]] [r0, r1] [r0, r1] r ∧ (v = .non ↔ r = none)) → Q v H') : spB aBetw CP CN CV [.int 5, .ref l, .ref m, .ref m] H Q EF := by
  refine ⟨.int 5, .ref l, .ref m, .ref m, .int 5, matP [[1], [2]], matP [r0, r1], matP [r0, r1], 4, rfl, Sho.int 5, hl, c.sho, c.sho, rfl, good5, smB_sm rfl, mat_sm h0 h1, mat_sm h0 h1, ?_⟩
  rw [ver_B h0 h1]
  intro F S W e1 e2 e3 H' v r s o b
  obtain rfl := mat_inj e1
  obtain rfl := mat_inj e2
  obtain rfl := mat_inj e3
  have b : BetwR 5 1 r0.length [[1], [2]] [r0, r1] [r0, r1] r := b
  rw [h0.1] at b
  refine k v H' s ⟨r, b, ?_⟩
  cases r with
  | none => exact ⟨fun _ => rfl, fun _ => o⟩
  | some M =>
    obtain ⟨d, bs, e, _⟩ := (show OptMat H H' v (some M) from o)
    rw [e]
    exact ⟨fun z => (nomatch z), fun z => (nomatch z)⟩
theorem core_barB (k : ∀ v H', Same H H' → ((v = .non ∧ LinA.LCond 5 1 3 [[1], [2]] [r0, r1] ∧ LinA.RCond 5 3 [r0, r1] [r0, r1]) ∨ (v ≠ .non ∧ ¬ (LinA.LCond 5 1 3 [[1], [2]] [r0, r1] ∧ LinA.RCond 5 3 [r0, r1] [r0, r1]))) → Q v H') : spB aBarB CP CN CV [.int 5, .ref l, .ref m, .ref m] H Q EF := by
  refine ⟨.int 5, .ref l, .ref m, .ref m, .int 5, matP [[1], [2]], matP [r0, r1], matP [r0, r1], 4, rfl, Sho.int 5, hl, c.sho, c.sho, rfl, good5, smB_sm rfl, mat_sm h0 h1, mat_sm h0 h1, ?_⟩
  rw [ver_B h0 h1]
  intro F S W e1 e2 e3 H' v s b
  obtain rfl := mat_inj e1
  obtain rfl := mat_inj e2
  obtain rfl := mat_inj e3
  have eW : wide [r0, r1] = 3 := h0.1
  have b : BarR H H' v 5 [[1], [2]] [r0, r1] [r0, r1] := b
  unfold BarR at b
  rw [eW] at b
  refine k v H' s ?_
  rcases b with ⟨e, b1, b2⟩ | ⟨t, d, u, e, _, _, _, _, ku, cc, cl, ne⟩ | ⟨t, d, z, e, _, _, _, _, kz, ww, mw, ne⟩
  · exact .inl ⟨e, b1, b2⟩
  · exact .inr ⟨fun q => (by rw [e] at q; cases q), fun q => ne (q.1 u ku cc cl)⟩
  · exact .inr ⟨fun q => (by rw [e] at q; cases q), fun q => ne (q.2 z kz ww mw)⟩
theorem core_isBet (k : ∀ H', Same H H' → Q (.bl false) H') : spBJ isBet (fun _ => True) CP CN CV [.int 5, .ref l, .ref m, .ref m, .int 0] H Q EF := by
  refine ⟨.int 5, .ref l, .ref m, .ref m, .int 0, .int 5, matP [[1], [2]], matP [r0, r1], matP [r0, r1], .int 0, 4, rfl, Sho.int 5, hl, c.sho, c.sho, Sho.int 0, rfl, good5, smB_sm rfl, mat_sm h0 h1, mat_sm h0 h1, smB_sm rfl, fun _ => trivial, ?_⟩
  rw [ver_B h0 h1]
  intro F S W e1 e2 e3 H' s
  exact k H' s
theorem core_isBB (k : ∀ H', Same H H' → Q (.bl false) H') : spBJ (fun _ _ _ _ _ => false) (fun d => tyD d ≠ "tuple") CP CN CV [.int 5, .ref l, .ref m, .ref m, .int 0] H Q EF := by
  refine ⟨.int 5, .ref l, .ref m, .ref m, .int 0, .int 5, matP [[1], [2]], matP [r0, r1], matP [r0, r1], .int 0, 4, rfl, Sho.int 5, hl, c.sho, c.sho, Sho.int 0, rfl, good5, smB_sm rfl, mat_sm h0 h1, mat_sm h0 h1, smB_sm rfl, fun _ => by show ("int" : String) ≠ "tuple"; decide, ?_⟩
  rw [ver_B h0 h1]
  intro F S W e1 e2 e3 H' s
  exact k H' s
end
end
end Vb
end L2

set_option Elab.async false
set_option linter.all false
set_option maxRecDepth 100000
set_option maxHeartbeats 8000000
/-! Vb, part 72: the law. -/
namespace L2
namespace Vb
open PySem PySem.Spec PyProof.Rows
open LinA (Bas InS Meets colsA colA bars Sol LCond RCond)
abbrev sLaw : Stmt := topS 62
abbrev nLaw : List Str := ["_law_script", "_law_purse_here", "_law_good", "_law_kept", "_law_late", "_law_heard_here", "_law_mine", "_law_due", "_law_told", "_law_turn", "_law_one"]
theorem scLaw : FnScope nLaw ["_law_script"] (defScope sLaw) := ⟨rfl, rfl, rfl, by decide +kernel, rfl, by decide +kernel, by decide +kernel⟩
theorem betw_dual {r0 r1 : List Int} (h0 : Vc 5 3 r0) (h1 : Vc 5 3 r1) {r : Option (List (List Int))} (b : BetwR 5 1 3 [[1], [2]] [r0, r1] [r0, r1] r) : r = none ↔ ¬ (LCond 5 1 3 [[1], [2]] [r0, r1] ∧ RCond 5 3 [r0, r1] [r0, r1]) := by
  cases r with
  | none => exact ⟨fun _ => b, fun _ => rfl⟩
  | some M =>
    refine ⟨fun e => (nomatch e), fun n => (n ?_).elim⟩
    obtain ⟨xs, mid, lM, hM⟩ := b
    have hT : ∀ v ∈ [r0, r1], LinA.Vec 5 3 v := fun v m => by
      rcases List.mem_cons.mp m with q | q
      · rw [q]; exact h0
      · rw [List.mem_singleton.mp q]; exact h1
    have hF : ∀ v ∈ [[(1 : Int)], [2]], LinA.Vec 5 1 v := fun v m => by
      rcases List.mem_cons.mp m with q | q
      · rw [q]; exact ⟨rfl, by decide⟩
      · rw [List.mem_singleton.mp q]; exact ⟨rfl, by decide⟩
    haveI : NeZero 5 := ⟨by decide⟩
    refine ⟨LinA.mid_left (by decide) hF rfl mid, LinA.mid_right (by decide) hF hT hT rfl mid fun j hj => ?_⟩
    obtain ⟨lx, hx⟩ := mid
    have vx : ∀ c x, xs[c]? = some x → LinA.Vec 5 1 x := fun c x e => (hx c x e).1.1
    have vc : LinA.Vec 5 3 (colA xs j) := ⟨by unfold colA; rw [List.length_map, lx], fun y my => by
      obtain ⟨x, mx, rfl⟩ := List.mem_map.mp my
      obtain ⟨c, hc⟩ := List.getElem?_of_mem mx
      have v := vx c x hc
      obtain rfl : j = 0 := by omega
      match x, v with
      | [z], v => exact v.2 z List.mem_cons_self⟩
    obtain ⟨x, ex⟩ : ∃ x, M[j]? = some x := ⟨M[j]'(by omega), List.getElem?_eq_getElem _⟩
    have z := LinA.solve_iff (p := 5) (L := 3) (by decide) hT vc (hM j x ex)
    exact Classical.byContradiction fun q => nomatch (z.1.mpr q)
theorem sho_dpA {K : PySem.W.Frag} {H : Hp} {F : V → PyData → Prop} (g : ∀ v d, F v d → d.canLay0 = true → Dp K H v d) : ∀ {xs : List V} {ds : List PyData}, Paired F xs ds → PyData.canLayAll0 ds = true → DpAll K H xs ds
  | _, _, .nil, _ => .nil
  | _, _, .cons p ps, h => by
    rw [PyData.canLayAll0] at h
    obtain ⟨a, b⟩ := Bool.and_eq_true_iff.mp h
    exact .cons (g _ _ p a) (sho_dpA g ps b)
theorem flat_dp {K : PySem.W.Frag} {H : Hp} {v : V} {d : PyData} (f : Flat v d) : Dp K H v d := by
  rcases f with ⟨rfl, rfl⟩ | ⟨b, rfl, rfl⟩ | ⟨i, rfl, rfl⟩ | ⟨x, rfl, rfl⟩
  · exact .non
  · exact .bl b
  · exact .int i
  · exact .str x
theorem sho_dp {K : PySem.W.Frag} {H : Hp} : ∀ {n : Nat} (v : V) (d : PyData), Sho n H v d → d.canLay0 = true → Dp K H v d
  | 0, _, _, f, _ => flat_dp f
  | n + 1, _, _, f, h => by
    rcases f with f | ⟨a, xs, ds, rfl, rfl, e3, f⟩ | ⟨a, xs, ds, rfl, rfl, e3, f⟩ | ⟨a, rfl, rfl, e3⟩
    · exact flat_dp f
    · rw [PyData.canLay0] at h
      exact .lst (SqL.of e3) (sho_dpA (fun v d => sho_dp v d) f h)
    · rw [PyData.canLay0] at h
      exact .tup (SqT.of e3) (sho_dpA (fun v d => sho_dp v d) f h)
    · rw [PyData.canLay0] at h
      cases h
/-! ### the doors, over the drawn vectors -/
abbrev RT : Type := List Int → List Int → Hp → V → Prop
def tGood (R : RT) : TE := fun σ H Q => ∃ (m a0 a1 : Addr) (r0 r1 : List Int), Vc 5 3 r0 ∧ Vc 5 3 r1 ∧ σ[2]? = some (some (.ref m)) ∧ CH m a0 a1 r0 r1 H ∧ ∀ v H', Same H H' → R r0 r1 H' v → Q v H'
def GoodLays (te : TE) (R : RT) : Prop := ∀ (σ : St) (H : Hp) (Q : VK) (m a0 a1 : Addr) (r0 r1 : List Int), Vc 5 3 r0 → Vc 5 3 r1 → σ[2]? = some (some (.ref m)) → CH m a0 a1 r0 r1 H → (∀ v H', Same H H' → R r0 r1 H' v → Q v H') → te σ H Q
theorem pe_good {X : Cx} {e : Expr} {te : TE} {R : RT} (h : PE X e te) (L : GoodLays te R) : PE X e (tGood R) := ⟨fun pins s σ H Q I ⟨m, a0, a1, r0, r1, h0, h1, e, c, k⟩ => h.run pins s σ H Q I (L σ H Q m a0 a1 r0 r1 h0 h1 e c k)⟩
def RInv : RT := fun _ _ _ v => v = .int 3
def RRed : RT := fun r0 r1 H' v => ∃ B t, Bas 5 3 [r0, r1] B t ∧ Sho 3 H' v (matP B)
def RRank : RT := fun r0 r1 _ v => ∃ B t, Bas 5 3 [r0, r1] B t ∧ v = .int (B.length : Int)
def RNoth : RT := fun r0 r1 H' v => ∃ B F t, Bas 5 2 F B t ∧ (∀ xs, InS 5 2 F xs ↔ LinA.Ker 5 2 (colsA [r0, r1] 3) xs) ∧ Sho 3 H' v (matP B)
def RComb : RT := fun r0 r1 H' v => Sho 3 H' v (rowP (addZ 5 [r0, r1] [1, 2] 3))
def RSol : RT := fun r0 r1 H' v => ∃ r, Meets 5 2 (colsA [r0, r1] 3) r0 r ∧ Sho 3 H' v (optD r)
def RNon : RT := fun _ _ _ v => v = .non
def RTrue : RT := fun _ _ _ v => v = .bl true
def RFalse : RT := fun _ _ _ v => v = .bl false
def RBetw : RT := fun r0 r1 _ v => ∃ r, BetwR 5 1 3 [[1], [2]] [r0, r1] [r0, r1] r ∧ (v = .non ↔ r = none)
def RBarB : RT := fun r0 r1 _ v => (v = .non ∧ LCond 5 1 3 [[1], [2]] [r0, r1] ∧ RCond 5 3 [r0, r1] [r0, r1]) ∨ (v ≠ .non ∧ ¬ (LCond 5 1 3 [[1], [2]] [r0, r1] ∧ RCond 5 3 [r0, r1] [r0, r1]))
section
variable {K : PySem.W.Frag} {CP CN CV : Addr}
abbrev t5 : TA := tCons (tC (.int 5)) tNil
abbrev g5 : TA := tCons (tVar 2) t5
abbrev tG0 (K : PySem.W.Frag) : TE := tOp (rIxL K) (tVar 2) (tC (.int 0))
abbrev tIs (is : List Int) : TA := is.foldr (fun i t => tCons (tC (.int i)) t) tNil
abbrev tF : TE := tLst (tCons (tLst (tIs [1])) (tCons (tLst (tIs [2])) tNil))
theorem lk_inv : GoodLays (tCallR (spInvX CP CN CV) EF (tCons (tC (.int 2)) t5)) RInv := fun σ H Q m a0 a1 r0 r1 h0 h1 e c k => core_inv fun H' s => k _ H' s rfl
theorem lk_red : GoodLays (tCallR (spRedX CP CN CV) EF g5) RRed := fun σ H Q m a0 a1 r0 r1 h0 h1 e c k => ⟨_, e, core_red h0 h1 c k⟩
theorem lk_rank : GoodLays (tCallR (spRankX CP CN CV) EF g5) RRank := fun σ H Q m a0 a1 r0 r1 h0 h1 e c k => ⟨_, e, core_rank h0 h1 c k⟩
theorem lk_noth : GoodLays (tCallR (spNoth CP CN CV) EF g5) RNoth := fun σ H Q m a0 a1 r0 r1 h0 h1 e c k => ⟨_, e, core_noth (CN := CN) h0 h1 c k⟩
theorem lk_comb : GoodLays (tCallR (spCombX CP CN CV) EF (tCons (tLst (tIs [1, 2])) g5)) RComb := fun σ H Q m a0 a1 r0 r1 h0 h1 e c k => ⟨by show 2 ≤ sizeLine; decide, fun b hb => ⟨_, e, core_comb h0 h1 (c.up (same_new hb)) (by exact upd_same) fun v H' s r => k v H' (same_trans (same_new hb) s) r⟩⟩
theorem lk_solved : GoodLays (tCallR (spSolved CP CN CV) EF (tCons (tG0 K) g5)) RSol := fun σ H Q m a0 a1 r0 r1 h0 h1 e c k => ⟨_, e, m, _, 0, _, rfl, rfl, SqL.of c.1, atI_nat (j := 0) rfl, _, e, core_solved h0 h1 c k⟩
theorem lk_barred : GoodLays (tCallR (spBarred CP CN CV) EF (tCons (tG0 K) g5)) RNon := fun σ H Q m a0 a1 r0 r1 h0 h1 e c k => ⟨_, e, m, _, 0, _, rfl, rfl, SqL.of c.1, atI_nat (j := 0) rfl, _, e, core_barred h0 h1 c fun H' s => k _ H' s rfl⟩
theorem lk_isSol : GoodLays (tCallR (spJudge isSol CP CN CV) EF (tCons (tLst (tIs [1, 0])) (tCons (tG0 K) g5))) RTrue := fun σ H Q m a0 a1 r0 r1 h0 h1 e c k => ⟨by show 2 ≤ sizeLine; decide, fun b hb => ⟨_, e, m, _, 0, _, rfl, rfl, SqL.of (c.up (same_new hb)).1, atI_nat (j := 0) rfl, _, e, core_isSol h0 h1 (c.up (same_new hb)) (by exact upd_same) fun H' s => k _ H' (same_trans (same_new hb) s) rfl⟩⟩
theorem lk_isBar : GoodLays (tCallR (spJudge isBar CP CN CV) EF (tCons (tLst (tIs [1])) (tCons (tG0 K) g5))) RFalse := fun σ H Q m a0 a1 r0 r1 h0 h1 e c k => ⟨by show 1 ≤ sizeLine; decide, fun b hb => ⟨_, e, m, _, 0, _, rfl, rfl, SqL.of (c.up (same_new hb)).1, atI_nat (j := 0) rfl, _, e, core_isBar h0 h1 (c.up (same_new hb)) (by exact upd_same) fun H' s => k _ H' (same_trans (same_new hb) s) rfl⟩⟩
theorem lp_red : GoodLays (tCall (spRedX CP CN CV) [] EF (tCons (tC (.int 5)) (tCons (tVar 2) tNil))) RRed := fun σ H Q m a0 a1 r0 r1 h0 h1 e c k => ⟨_, e, core_red h0 h1 c k⟩
theorem lp_rank : GoodLays (tCall (spRankX CP CN CV) [] EF (tCons (tC (.int 5)) (tCons (tVar 2) tNil))) RRank := fun σ H Q m a0 a1 r0 r1 h0 h1 e c k => ⟨_, e, core_rank h0 h1 c k⟩
theorem lp_noth : GoodLays (tCall (spNoth CP CN CV) [] EF (tCons (tC (.int 5)) (tCons (tVar 2) tNil))) RNoth := fun σ H Q m a0 a1 r0 r1 h0 h1 e c k => ⟨_, e, core_noth (CN := CN) h0 h1 c k⟩
theorem lp_comb : GoodLays (tCall (spCombX CP CN CV) [] EF (tCons (tC (.int 5)) (tCons (tVar 2) (tCons (tLst (tIs [1, 2])) tNil)))) RComb := fun σ H Q m a0 a1 r0 r1 h0 h1 e c k => ⟨_, e, by show 2 ≤ sizeLine; decide, fun b hb => core_comb h0 h1 (c.up (same_new hb)) (by exact upd_same) fun v H' s r => k v H' (same_trans (same_new hb) s) r⟩
theorem lp_solved : GoodLays (tCall (spSolved CP CN CV) [] EF (tCons (tC (.int 5)) (tCons (tVar 2) (tCons (tG0 K) tNil)))) RSol := fun σ H Q m a0 a1 r0 r1 h0 h1 e c k => ⟨_, e, _, e, m, _, 0, _, rfl, rfl, SqL.of c.1, atI_nat (j := 0) rfl, core_solved h0 h1 c k⟩
abbrev HF (H : Hp) (b1 b2 l : Addr) : Hp := upd (upd (upd H b1 (.lst [V.int 1])) b2 (.lst [V.int 2])) l (.lst [V.ref b1, V.ref b2])
theorem F_same {H : Hp} {b1 b2 l : Addr} (h1 : H b1 = none) (h2 : upd H b1 (.lst [V.int 1]) b2 = none) (h3 : upd (upd H b1 (.lst [V.int 1])) b2 (.lst [V.int 2]) l = none) : Same H (HF H b1 b2 l) := same_trans (same_new h1) (same_trans (same_new h2) (same_new h3))
theorem F_sho {H : Hp} {b1 b2 l : Addr} (h1 : H b1 = none) (h2 : upd H b1 (.lst [V.int 1]) b2 = none) (h3 : upd (upd H b1 (.lst [V.int 1])) b2 (.lst [V.int 2]) l = none) : Sho 4 (HF H b1 b2 l) (.ref l) (matP [[1], [2]]) :=
  Sho.lst upd_same (.cons (Sho.row (n := 2) (xs := [1]) (same_new h3 _ _ (same_new h2 _ _ upd_same))) (.cons (Sho.row (n := 2) (xs := [2]) (same_new h3 _ _ upd_same)) .nil))
abbrev b5 : TA := tCons (tVar 2) (tCons (tVar 2) (tCons tF t5))
theorem lk_betw : GoodLays (tCallR (spB aBetw CP CN CV) EF b5) RBetw := fun σ H Q m a0 a1 r0 r1 h0 h1 e c k => ⟨_, e, _, e, by show 1 ≤ sizeLine; decide, fun b1 q1 => ⟨by show 1 ≤ sizeLine; decide, fun b2 q2 => ⟨by show 2 ≤ sizeLine; decide, fun l q3 => core_betw h0 h1 (c.up (F_same q1 q2 q3)) (F_sho q1 q2 q3) fun v H' s r => k v H' (same_trans (F_same q1 q2 q3) s) r⟩⟩⟩
theorem lk_barB : GoodLays (tCallR (spB aBarB CP CN CV) EF b5) RBarB := fun σ H Q m a0 a1 r0 r1 h0 h1 e c k => ⟨_, e, _, e, by show 1 ≤ sizeLine; decide, fun b1 q1 => ⟨by show 1 ≤ sizeLine; decide, fun b2 q2 => ⟨by show 2 ≤ sizeLine; decide, fun l q3 => core_barB h0 h1 (c.up (F_same q1 q2 q3)) (F_sho q1 q2 q3) fun v H' s r => k v H' (same_trans (F_same q1 q2 q3) s) r⟩⟩⟩
theorem lk_isBet : GoodLays (tCallR (spBJ isBet (fun _ => True) CP CN CV) EF (tCons (tC (.int 0)) b5)) RFalse := fun σ H Q m a0 a1 r0 r1 h0 h1 e c k => ⟨_, e, _, e, by show 1 ≤ sizeLine; decide, fun b1 q1 => ⟨by show 1 ≤ sizeLine; decide, fun b2 q2 => ⟨by show 2 ≤ sizeLine; decide, fun l q3 => core_isBet h0 h1 (c.up (F_same q1 q2 q3)) (F_sho q1 q2 q3) fun H' s => k _ H' (same_trans (F_same q1 q2 q3) s) rfl⟩⟩⟩
theorem lk_isBB : GoodLays (tCallR (spBJ (fun _ _ _ _ _ => false) (fun d => tyD d ≠ "tuple") CP CN CV) EF (tCons (tC (.int 0)) b5)) RFalse := fun σ H Q m a0 a1 r0 r1 h0 h1 e c k => ⟨_, e, _, e, by show 1 ≤ sizeLine; decide, fun b1 q1 => ⟨by show 1 ≤ sizeLine; decide, fun b2 q2 => ⟨by show 2 ≤ sizeLine; decide, fun l q3 => core_isBB h0 h1 (c.up (F_same q1 q2 q3)) (F_sho q1 q2 q3) fun H' s => k _ H' (same_trans (F_same q1 q2 q3) s) rfl⟩⟩⟩
end
end Vb
end L2

set_option Elab.async false
set_option linter.all false
set_option maxRecDepth 100000
set_option maxHeartbeats 8000000
/-! Vb, part 73: the doors of the law; its data. -/
namespace L2
namespace Vb
open PySem PySem.Spec PyProof.Rows
open LinA (Bas InS Meets colsA colA bars Sol LCond RCond)
theorem lc_copy {K : PySem.W.Frag} {a D : Addr} {as : List Addr} {T : List (List Int)} {H1 : Hp} {i : Nat} {σ : St} {Qd : Hp → Prop} (hi : i < σ.length) (hm : H1 a = some (.lst (as.map V.ref))) (hT : Rws H1 as T) (hD : H1 D = none) (hl : T.length ≤ 1000)
    (q : ∀ (H' : Hp) (cs : List Addr), Same H1 H' → H' D = some (.lst (cs.map V.ref)) → Rws H' cs T → (∀ c ∈ cs, H1 c = none) → Qd H') :
    ∃ W : Nat → Nat → Hp → Prop, (∃ m, W 0 m (upd H1 D (.lst []))) ∧ ∀ j m H, W j m H →
      ((Itl K a).stop j H ∧ Qd H) ∨ ((Itl K a).go j H ∧ ∃ Nx : Hp → Prop, (∀ H', Nx H' → ∃ m', m' < m ∧ W (j + 1) m' H') ∧ ∀ x H', (Itl K a).yld j H x H' → gName i x (wipe σ [i]) H' fun σ2 H2 => wipe σ2 [i] = wipe σ [i] ∧ tYes σ2 H2 fun b H3 =>
        if b = true then tCB (rLO K) (tCons (tVar i) tNil) σ2 H3 fun y H4 => ∃ acc, H4 D = some (.lst acc) ∧ acc.length < sizeLine ∧ Nx (upd H4 D (.lst (acc ++ [y]))) else Nx H3) := by
  have la := hT.len
  refine lc_list (fun k H' => Same H1 H' ∧ ∃ cs : List Addr, cs.length = k ∧ H' D = some (.lst (cs.map V.ref)) ∧ Rws H' cs (T.take k) ∧ (∀ b ∈ cs, b ≠ D) ∧ ∀ b ∈ cs, H1 b = none) ⟨same_new hD, [], rfl, upd_same, .nil, fun b z => (List.not_mem_nil z).elim, fun b z => (List.not_mem_nil z).elim⟩ (fun j H2 _ z => SqL.of (z.1 _ _ hm)) ?_ ?_
  · rintro k x H' hx ⟨sm, cs, lc, hcl, hcs, nm, fr⟩
    obtain ⟨b, xs, rfl, hb, mx, ht, _⟩ := rws_at hT hx
    have hb' : H' b = some (.lst (xs.map V.int)) := sm _ _ hb
    refine ⟨wipe_one, tyes ?_⟩
    refine ⟨_, var_one hi, b, _, rfl, .inl (SqL.of hb'), fun l hl => ?_⟩
    have nl : D ≠ l := fun e => by
      rw [← e, hcl] at hl
      cases hl
    have kl : k < T.length := (List.getElem?_eq_some_iff.mp ht).1
    refine ⟨_, (upd_ne nl).trans hcl, by rw [List.length_map, sizeLine_eq]; omega, same_set (same_trans sm (same_new hl)) hD, cs ++ [l], by rw [List.length_append, lc]; rfl, ?_, ?_, fun d md => ?_, fun d md => ?_⟩
    · rw [upd_same, List.map_append]
      rfl
    · rw [List.take_succ, ht]
      have st : ∀ d, d ≠ D → ∀ o, upd H' l (.lst (xs.map V.int)) d = some o → upd (upd H' l (.lst (xs.map V.int))) D (.lst (cs.map V.ref ++ [V.ref l])) d = some o := fun d ne o e => (upd_ne ne).trans e
      refine paired_snoc ((hcs.mono fun d _ o e => same_new hl _ _ e).mono fun d md o e => st d (nm d md) o e) ?_
      exact st l (Ne.symm nl) _ upd_same
    · rcases List.mem_append.mp md with z | z
      · exact nm d z
      · rw [List.mem_singleton.mp z]
        exact Ne.symm nl
    · rcases List.mem_append.mp md with z | z
      · exact fr d z
      · rw [List.mem_singleton.mp z]
        exact sm.free hl
  · rintro H' ⟨sm, cs, lc, hcl, hcs, nm, fr⟩
    rw [List.take_of_length_le (by rw [List.length_map, la]; exact Nat.le_refl _)] at hcs
    exact q H' cs sm hcl hcs fr
theorem nodup_at {l : List Addr} (h : l.Nodup) {i j : Nat} {a : Addr} (hi : l[i]? = some a) (hj : l[j]? = some a) : i = j := by
  have h2 : l.Pairwise (· ≠ ·) := h
  have pw := List.pairwise_iff_getElem.mp h2
  obtain ⟨l1, e1⟩ := List.getElem?_eq_some_iff.mp hi
  obtain ⟨l2, e2⟩ := List.getElem?_eq_some_iff.mp hj
  rcases Nat.lt_trichotomy i j with q | q | q
  · exact absurd (e1.trans e2.symm) (pw i j l1 l2 q)
  · exact q
  · exact absurd (e2.trans e1.symm) (pw j i l2 l1 q)
structure DoorK (P : Program) (w : World) (K : PySem.W.Frag) (mg : Str → Option Value) (base : Heap) (x : Str) (ps : List Str) (sp : Sp) : Prop where
  ex : ∃ f fd, mg x = some (.ref f) ∧ PySem.W.keepIn K (.ref f) = true ∧ FnOk P w K mg base (L2.CX P w) 7 f fd ps sp ∧ Binds K fd ps [] ∧ RevB K fd ps
theorem doorK_of {P : Program} {w : World} {K : PySem.W.Frag} {mg : Str → Option Value} {base : Heap} {x : Str} {st : Stmt} {f : Addr} {fd : FuncData} {k : Nat} {ps : List Str} {sp : Sp} (F : Fun K x x st f fd) (G : FnOk P w K mg base (L2.CX P w) k f fd ps sp) (g : mg x = some (.ref f)) (hk : k ≤ 7) (b : Binds K fd ps []) (r : RevB K fd ps) : DoorK P w K mg base x ps sp := ⟨f, fd, g, F.kp, G.mono hk, b, r⟩
theorem DoorK.low {P : Program} {w : World} {K : PySem.W.Frag} {mg : Str → Option Value} {base : Heap} {x : Str} {ps : List Str} {sp : Sp} (D : DoorK P w K mg base x ps sp) : DoorR P w K mg base x sp := by
  obtain ⟨f, fd, g, k, G, b, r⟩ := D.ex
  exact ⟨f, g, k, (FnOk.raw G b .nil).imp fun vs H Q E h => by rw [List.append_nil]; exact h⟩
structure DoorsK (P : Program) (w : World) (K : PySem.W.Frag) (mg : Str → Option Value) (base : Heap) (CP CN CV : Addr) : Prop where
  d0 : DoorK P w K mg base "inverse" ["prime", "number"] (spInvX CP CN CV)
  d1 : DoorK P w K mg base "reduced" ["prime", "vectors"] (spRedX CP CN CV)
  d2 : DoorK P w K mg base "rank" ["prime", "vectors"] (spRankX CP CN CV)
  d3 : DoorK P w K mg base "nothings" ["prime", "vectors"] (spNoth CP CN CV)
  d4 : DoorK P w K mg base "combined" ["prime", "vectors", "factors"] (spCombX CP CN CV)
  d5 : DoorK P w K mg base "solved" ["prime", "vectors", "wanted"] (spSolved CP CN CV)
  d6 : DoorK P w K mg base "barred" ["prime", "vectors", "wanted"] (spBarred CP CN CV)
  d7 : DoorK P w K mg base "is_solved" ["prime", "vectors", "wanted", "value"] (spJudge isSol CP CN CV)
  d8 : DoorK P w K mg base "is_barred" ["prime", "vectors", "wanted", "value"] (spJudge isBar CP CN CV)
  d9 : DoorK P w K mg base "between" ["prime", "first", "second", "wanted"] (spB aBetw CP CN CV)
  d10 : DoorK P w K mg base "barred_between" ["prime", "first", "second", "wanted"] (spB aBarB CP CN CV)
  d11 : DoorK P w K mg base "is_between" ["prime", "first", "second", "wanted", "value"] (spBJ isBet (fun _ => True) CP CN CV)
  d12 : DoorK P w K mg base "is_barred_between" ["prime", "first", "second", "wanted", "value"] (spBJ (fun _ _ _ _ _ => false) (fun d => tyD d ≠ "tuple") CP CN CV)
theorem DoorsK.low {P : Program} {w : World} {K : PySem.W.Frag} {mg : Str → Option Value} {base : Heap} {CP CN CV : Addr} (D : DoorsK P w K mg base CP CN CV) : Doors P w K mg base CP CN CV := ⟨D.d0.low, D.d1.low, D.d2.low, D.d3.low, D.d4.low, D.d5.low, D.d6.low, D.d7.low, D.d8.low, D.d9.low, D.d10.low, D.d11.low, D.d12.low⟩
def lateD : PyData := .list [.str "vectors", .list [.list [.int 5], .str "more"]]
theorem late_ok : SeqAt.shaped lateD = true ∧ PyData.eqv lateD lateD = true := by decide +kernel
def mineD (B N : List (List Int)) (k : Int) (c : List Int) (r : Option (List Int)) : PyData := .list [.int 3, matP B, .int k, matP N, rowP c, optD r, .none, .bool true, .bool false]
theorem lay_mat (T : List (List Int)) : PyData.canLay0 (matP T) = true := (Bool.and_eq_true_iff.mp (show (PyData.canLay0 (matP T) && decide (PyData.depth (matP T) ≤ 64)) = true from shaped_mat T)).1
theorem lay_row (x : List Int) : PyData.canLay0 (rowP x) = true := (Bool.and_eq_true_iff.mp (show (PyData.canLay0 (rowP x) && decide (PyData.depth (rowP x) ≤ 64)) = true from shaped_row x)).1
theorem lay_opt (r : Option (List Int)) : PyData.canLay0 (optD r) = true := by
  cases r with
  | none => rfl
  | some x => exact lay_row x
theorem dp_row1 (x : List Int) : PyData.depth (rowP x) ≤ 1 := by
  show PyData.depth (.list (x.map PyData.int)) ≤ 1
  rw [PyData.depth, dep_ints]
  exact Nat.le_refl _
theorem dp_mat2 (T : List (List Int)) : PyData.depth (matP T) ≤ 2 := by
  show PyData.depth (.list (T.map rowP)) ≤ 2
  rw [PyData.depth]
  have := dep_rows T
  omega
theorem dp_opt (r : Option (List Int)) : PyData.depth (optD r) ≤ 1 := by
  cases r with
  | none => decide
  | some x => exact dp_row1 x
theorem mine_ok (B N : List (List Int)) (k : Int) (c : List Int) (r : Option (List Int)) : SeqAt.shaped (mineD B N k c r) = true ∧ PyData.eqv (mineD B N k c r) (mineD B N k c r) = true := by
  have e : PyData.canLay0 (mineD B N k c r) = true := by
    unfold mineD
    simp [PyData.canLay0, PyData.canLayAll0, lay_rows, lay_ints, lay_opt]
  refine ⟨Bool.and_eq_true_iff.mpr ⟨e, decide_eq_true ?_⟩, SeqAt.eqv_refl _ e⟩
  have h1 := dp_mat2 B
  have h2 := dp_mat2 N
  have h3 := dp_row1 c
  have h4 := dp_opt r
  unfold mineD
  simp only [PyData.depth, PyData.depthAll] at *
  omega
def spLaw (K : PySem.W.Frag) : Sp := fun vs H Q _ => ∃ (sc : Addr) (ns : List Int), vs = [.ref sc] ∧ SqL K H sc (ns.map V.int) ∧ ns.length ≤ 63 ∧ ∀ H', Q (.bl true) H'
end Vb
end L2

set_option Elab.async false
set_option linter.all false
set_option maxRecDepth 100000
set_option maxHeartbeats 16000000
/-! Vb, part 74: the law, its body. -/
namespace L2
namespace Vb
open PySem PySem.Spec PyProof.Rows
open LinA (Bas InS Meets colsA colA bars Sol LCond RCond)
section
variable {P : Program} {w : World} {K : PySem.W.Frag} {mg : Str → Option Value} {base : Heap}
theorem ok_law {CP CN CV f fPu fNu fFi fLa fH : Addr} {fd fdPu fdNu fdFi fdLa fdH : FuncData} (F : Fun K "law" "law" sLaw f fd) (S : DoorsK P w K mg base CP CN CV)
    (FPu : Fun K "_law_purses" "_law_purses" sPurses fPu fdPu) (GPu : FnOk P w K mg base CX0 2 fPu fdPu ["_law_script", "_law_few"] (spPurses K)) (gPu : mg "_law_purses" = some (.ref fPu))
    (FNu : Fun K "_law_numbers" "_law_numbers" sNums fNu fdNu) (GNu : FnOk P w K mg base CX0 3 fNu fdNu ["_law_purse_here", "_law_the_prime", "_law_many"] spNums) (gNu : mg "_law_numbers" = some (.ref fNu))
    (FFi : Fun K "_law_firsts_right" "_law_firsts_right" sFirsts fFi fdFi) (GFi : FnG P w K mg base 11 fFi fdFi ["_law_good"] spFirsts) (gFi : mg "_law_firsts_right" = some (.ref fFi))
    (FLa : Fun K "_law_lasts_right" "_law_lasts_right" sLasts fLa fdLa) (GLa : FnOk P w K mg base CX0 11 fLa fdLa ["_law_good"] spFirsts) (gLa : mg "_law_lasts_right" = some (.ref fLa))
    (FH : Fun K "_law_heard" "_law_heard" sHeard fH fdH) (GH : FnOk P w K mg base CX0 10 fH fdH ["_law_door", "_law_given"] spOnce) (gH : mg "_law_heard" = some (.ref fH)) (gR : mg "range" = none) (gL : mg "list" = none) :
    FnG P w K mg base 12 f fd ["_law_script"] (spLaw K) := by
  have bPu : Binds K fdPu ["_law_script", "_law_few"] [] := FPu.binds fun _ _ _ _ _ _ us hl => match us, hl with | [_, _], _ => rfl
  have bNu : Binds K fdNu ["_law_purse_here", "_law_the_prime", "_law_many"] [] := FNu.binds fun _ _ _ _ _ _ us hl => match us, hl with | [_, _, _], _ => rfl
  have bFi : Binds K fdFi ["_law_good"] [] := FFi.binds fun _ _ _ _ _ _ us hl => match us, hl with | [_], _ => rfl
  have bLa : Binds K fdLa ["_law_good"] [] := FLa.binds fun _ _ _ _ _ _ us hl => match us, hl with | [_], _ => rfl
  have bH : Binds K fdH ["_law_door", "_law_given"] [] := FH.binds fun _ _ _ _ _ _ us hl => match us, hl with | [_, _], _ => rfl
  obtain ⟨f_0, fd_0, g_inverse, k_inverse, n_inverse, b_inverse, q_inverse⟩ := S.d0.ex
  obtain ⟨f_1, fd_1, g_reduced, k_reduced, n_reduced, b_reduced, q_reduced⟩ := S.d1.ex
  obtain ⟨f_2, fd_2, g_rank, k_rank, n_rank, b_rank, q_rank⟩ := S.d2.ex
  obtain ⟨f_3, fd_3, g_nothings, k_nothings, n_nothings, b_nothings, q_nothings⟩ := S.d3.ex
  obtain ⟨f_4, fd_4, g_combined, k_combined, n_combined, b_combined, q_combined⟩ := S.d4.ex
  obtain ⟨f_5, fd_5, g_solved, k_solved, n_solved, b_solved, q_solved⟩ := S.d5.ex
  obtain ⟨f_6, fd_6, g_barred, k_barred, n_barred, b_barred, q_barred⟩ := S.d6.ex
  obtain ⟨f_7, fd_7, g_is_solved, k_is_solved, n_is_solved, b_is_solved, q_is_solved⟩ := S.d7.ex
  obtain ⟨f_8, fd_8, g_is_barred, k_is_barred, n_is_barred, b_is_barred, q_is_barred⟩ := S.d8.ex
  obtain ⟨f_9, fd_9, g_between, k_between, n_between, b_between, q_between⟩ := S.d9.ex
  obtain ⟨f_10, fd_10, g_barred_between, k_barred_between, n_barred_between, b_barred_between, q_barred_between⟩ := S.d10.ex
  obtain ⟨f_11, fd_11, g_is_between, k_is_between, n_is_between, b_is_between, q_is_between⟩ := S.d11.ex
  obtain ⟨f_12, fd_12, g_is_barred_between, k_is_barred_between, n_is_barred_between, b_is_barred_between, q_is_barred_between⟩ := S.d12.ex
  refine fnG_of F scLaw (fun vs H Q h => ?_) (fun cdv A below s H vs Q hgd hr h => ?_)
  · obtain ⟨sc, ns, rfl, _⟩ := h
    rfl
  · obtain ⟨sc, ns, rfl, hs, hl63, want⟩ := h
    refine ⟨_, pss_cons (ps_for PassesOwn.never rfl (pi_list (pe_call GPu (hr.mono (by decide)) rfl gPu FPu.kp bPu .nil pass0 (pa_cons (pv 0) (pa_cons pe_int pa_nil)))) (pg_name (i := 1) scLaw.nd rfl (Or.inr rfl))
        (pss_cons (ps_setLc (i := 2) (own := [("_law_turn", 9)]) (g := (gName 9)) (tt := tYes) rfl scLaw.nd rfl rfl (sw_true rfl rfl rfl (by decide +kernel)) (pi_range1 rfl gR (pa_cons pe_int pa_nil)) (blkOk_by (N := nLaw) (sc := defScope sLaw) (by decide +kernel)) (fun _ _ _ _ _ => pg_name (i := 9) scLaw.nd rfl (Or.inl rfl)) (fun _ _ _ _ _ => pts_nil) (fun _ _ _ _ _ => (pe_call GNu (hr.mono (by decide)) rfl gNu FNu.kp bNu .nil pass0 (pa_cons (pv 1) (pa_cons pe_int (pa_cons pe_int pa_nil))))))
          (pss_cons (ps_setLc (i := 3) (te := tCB (rLO K) (tCons (tVar 10) tNil)) (own := [("_law_one", 10)]) (g := (gName 10)) (tt := tYes) rfl scLaw.nd rfl rfl (sw_true rfl rfl rfl (by decide +kernel)) (pi_list (pv 2)) (blkOk_by (N := nLaw) (sc := defScope sLaw) (by decide +kernel)) (fun _ _ _ _ _ => pg_name (i := 10) scLaw.nd rfl (Or.inl rfl)) (fun _ _ _ _ _ => pts_nil) (fun _ _ _ _ _ => (pe_callTy call_list_of (by rfl) gL boot_list2 (pa_cons (pv 10) pa_nil))))
          (pss_cons (ps_if (PW.pt (pw_or (pt_not (pt_val (pe_callG GFi hgd hr rfl gFi FFi.kp bFi (pa_cons (pv 2) pa_nil)))) (pw_or (pt_not (pt_val (pe_call GLa hr rfl gLa FLa.kp bLa .nil pass0 (pa_cons (pv 2) pa_nil)))) (pw_or1 (pt_cmpR (op_neD hr.units) (pv 2) (pv 3) (nomark _))))))
            (pss_one (ps_ret pe_bl))
            pss_nil)
          (pss_cons (ps_set (i := 4) scLaw.nd rfl (Or.inl rfl) (pe_lst (pa_cons (pe_lst (pa_cons pe_int pa_nil)) pa_nil)))
          (pss_cons (ps_set (i := 5) scLaw.nd rfl (Or.inl rfl) (pe_call GH (hr.mono (by decide)) rfl gH FH.kp bH .nil pass0 (pa_cons pe_int (pa_cons (pe_lst (pa_cons pe_int (pa_cons (pv 4) pa_nil))) pa_nil))))
          (pss_cons (ps_expr (pe_bm PySem.F.plainAttrs_list PySem.F.slot_list_append PySem.F.type_list_append mt_append (pv 4) (pa_cons pe_str pa_nil)))
          (pss_cons (ps_if (pt_cmpR (op_neD hr.units) (pv 5) (pe_lst (pa_cons pe_str (pa_cons (pe_lst (pa_cons (pe_lst (pa_cons pe_int pa_nil)) (pa_cons pe_str pa_nil))) pa_nil))) (nomark _))
            (pss_one (ps_ret pe_bl))
            pss_nil)
          (pss_cons (ps_set (i := 6) scLaw.nd rfl (Or.inl rfl) (pe_lst (pa_cons (pe_good (R := RInv) (pe_callR n_inverse (hr.mono (by decide)) rfl g_inverse k_inverse q_inverse passF (pk_cons pe_int (pk_cons pe_int pk_nil))) lk_inv) (pa_cons (pe_good (R := RRed) (pe_callR n_reduced (hr.mono (by decide)) rfl g_reduced k_reduced q_reduced passF (pk_cons (pv 2) (pk_cons pe_int pk_nil))) lk_red) (pa_cons (pe_good (R := RRank) (pe_callR n_rank (hr.mono (by decide)) rfl g_rank k_rank q_rank passF (pk_cons (pv 2) (pk_cons pe_int pk_nil))) lk_rank) pa_nil)))))
          (pss_cons (ps_set (i := 6) scLaw.nd rfl (Or.inl rfl) (pe_op op_cat (pv 6) (pe_lst (pa_cons (pe_good (R := RNoth) (pe_callR n_nothings (hr.mono (by decide)) rfl g_nothings k_nothings q_nothings passF (pk_cons (pv 2) (pk_cons pe_int pk_nil))) lk_noth) (pa_cons (pe_good (R := RComb) (pe_callR n_combined (hr.mono (by decide)) rfl g_combined k_combined q_combined passF (pk_cons (pe_lst (pa_cons pe_int (pa_cons pe_int pa_nil))) (pk_cons (pv 2) (pk_cons pe_int pk_nil)))) lk_comb) pa_nil)))))
          (pss_cons (ps_set (i := 6) scLaw.nd rfl (Or.inl rfl) (pe_op op_cat (pv 6) (pe_lst (pa_cons (pe_good (R := RSol) (pe_callR n_solved (hr.mono (by decide)) rfl g_solved k_solved q_solved passF (pk_cons (pe_ix ix_list (pv 2) pe_int (fun _ _ => rfl)) (pk_cons (pv 2) (pk_cons pe_int pk_nil)))) lk_solved) (pa_cons (pe_good (R := RNon) (pe_callR n_barred (hr.mono (by decide)) rfl g_barred k_barred q_barred passF (pk_cons (pe_ix ix_list (pv 2) pe_int (fun _ _ => rfl)) (pk_cons (pv 2) (pk_cons pe_int pk_nil)))) lk_barred) pa_nil)))))
          (pss_cons (ps_set (i := 6) scLaw.nd rfl (Or.inl rfl) (pe_op op_cat (pv 6) (pe_lst (pa_cons (pe_good (R := RTrue) (pe_callR n_is_solved (hr.mono (by decide)) rfl g_is_solved k_is_solved q_is_solved passF (pk_cons (pe_lst (pa_cons pe_int (pa_cons pe_int pa_nil))) (pk_cons (pe_ix ix_list (pv 2) pe_int (fun _ _ => rfl)) (pk_cons (pv 2) (pk_cons pe_int pk_nil))))) lk_isSol) pa_nil))))
          (pss_cons (ps_expr (pe_bm PySem.F.plainAttrs_list PySem.F.slot_list_append PySem.F.type_list_append mt_append (pv 6) (pa_cons (pe_good (R := RFalse) (pe_callR n_is_barred (hr.mono (by decide)) rfl g_is_barred k_is_barred q_is_barred passF (pk_cons (pe_lst (pa_cons pe_int pa_nil)) (pk_cons (pe_ix ix_list (pv 2) pe_int (fun _ _ => rfl)) (pk_cons (pv 2) (pk_cons pe_int pk_nil))))) lk_isBar) pa_nil)))
          (pss_cons (ps_set (i := 7) scLaw.nd rfl (Or.inl rfl) (pe_lst (pa_cons pe_int (pa_cons (pe_good (R := RRed) (pe_call n_reduced (hr.mono (by decide)) rfl g_reduced k_reduced b_reduced .nil passF (pa_cons pe_int (pa_cons (pv 2) pa_nil))) lp_red) (pa_cons (pe_good (R := RRank) (pe_call n_rank (hr.mono (by decide)) rfl g_rank k_rank b_rank .nil passF (pa_cons pe_int (pa_cons (pv 2) pa_nil))) lp_rank) (pa_cons (pe_good (R := RNoth) (pe_call n_nothings (hr.mono (by decide)) rfl g_nothings k_nothings b_nothings .nil passF (pa_cons pe_int (pa_cons (pv 2) pa_nil))) lp_noth) (pa_cons (pe_good (R := RComb) (pe_call n_combined (hr.mono (by decide)) rfl g_combined k_combined b_combined .nil passF (pa_cons pe_int (pa_cons (pv 2) (pa_cons (pe_lst (pa_cons pe_int (pa_cons pe_int pa_nil))) pa_nil)))) lp_comb) (pa_cons (pe_good (R := RSol) (pe_call n_solved (hr.mono (by decide)) rfl g_solved k_solved b_solved .nil passF (pa_cons pe_int (pa_cons (pv 2) (pa_cons (pe_ix ix_list (pv 2) pe_int (fun _ _ => rfl)) pa_nil)))) lp_solved) pa_nil))))))))
          (pss_cons (ps_if (pt_cmpR (op_neD hr.units) (pv 6) (pe_op op_cat (pv 7) (pe_lst (pa_cons pe_non (pa_cons pe_bl (pa_cons pe_bl pa_nil))))) (nomark _))
            (pss_one (ps_ret pe_bl))
            pss_nil)
          (pss_cons (ps_set (i := 8) scLaw.nd rfl (Or.inl rfl) (pe_lst (pa_cons (pe_cmpR op_isN (pe_good (R := RBetw) (pe_callR n_between (hr.mono (by decide)) rfl g_between k_between q_between passF (pk_cons (pv 2) (pk_cons (pv 2) (pk_cons (pe_lst (pa_cons (pe_lst (pa_cons pe_int pa_nil)) (pa_cons (pe_lst (pa_cons pe_int pa_nil)) pa_nil))) (pk_cons pe_int pk_nil))))) lk_betw) pe_non (nomark _)) pa_nil)))
          (pss_cons (ps_expr (pe_bm PySem.F.plainAttrs_list PySem.F.slot_list_append PySem.F.type_list_append mt_append (pv 8) (pa_cons (pe_cmpR op_isN (pe_good (R := RBarB) (pe_callR n_barred_between (hr.mono (by decide)) rfl g_barred_between k_barred_between q_barred_between passF (pk_cons (pv 2) (pk_cons (pv 2) (pk_cons (pe_lst (pa_cons (pe_lst (pa_cons pe_int pa_nil)) (pa_cons (pe_lst (pa_cons pe_int pa_nil)) pa_nil))) (pk_cons pe_int pk_nil))))) lk_barB) pe_non (nomark _)) pa_nil)))
          (pss_cons (ps_expr (pe_bm PySem.F.plainAttrs_list PySem.F.slot_list_append PySem.F.type_list_append mt_append (pv 8) (pa_cons (pe_good (R := RFalse) (pe_callR n_is_between (hr.mono (by decide)) rfl g_is_between k_is_between q_is_between passF (pk_cons pe_int (pk_cons (pv 2) (pk_cons (pv 2) (pk_cons (pe_lst (pa_cons (pe_lst (pa_cons pe_int pa_nil)) (pa_cons (pe_lst (pa_cons pe_int pa_nil)) pa_nil))) (pk_cons pe_int pk_nil)))))) lk_isBet) pa_nil)))
          (pss_cons (ps_expr (pe_bm PySem.F.plainAttrs_list PySem.F.slot_list_append PySem.F.type_list_append mt_append (pv 8) (pa_cons (pe_good (R := RFalse) (pe_callR n_is_barred_between (hr.mono (by decide)) rfl g_is_barred_between k_is_barred_between q_is_barred_between passF (pk_cons pe_int (pk_cons (pv 2) (pk_cons (pv 2) (pk_cons (pe_lst (pa_cons (pe_lst (pa_cons pe_int pa_nil)) (pa_cons (pe_lst (pa_cons pe_int pa_nil)) pa_nil))) (pk_cons pe_int pk_nil)))))) lk_isBB) pa_nil)))
          (pss_one (ps_if (PW.pt (pw_or (pt_cmpR op_eq (pe_ix ix_list (pv 8) pe_int (fun _ _ => rfl)) (pe_ix ix_list (pv 8) pe_int (fun _ _ => rfl)) (nomark _)) (pw_or1 (pt_cmpR (op_neL (Nat.lt_of_le_of_lt (Nat.le_add_right _ _) hr.units)) (pe_slice sl_list (pv 8) (po_some pe_int) po_none) (pe_lst (pa_cons pe_bl (pa_cons pe_bl pa_nil))) (nomark _)))))
            (pss_one (ps_ret pe_bl))
            pss_nil)))))))))))))))))))))
      (pss_one (ps_ret pe_bl)), ?_⟩
    refine ⟨_, rfl, sc, ns, 2, rfl, hs, hl63, by decide, by decide, fun H1 l as s1 nl hl l100 nod hall => ?_⟩
    refine ⟨l, rfl, ⟨_, SqL.of hl⟩, ?_⟩
    refine for_list (xs := as.map V.ref) (fun i σ H' => (∃ u1 u2 u3 u4 u5 u6 u7 u8 : Option V, σ = [some (.ref sc), u1, u2, u3, u4, u5, u6, u7, u8, none, none]) ∧ H' l = some (.lst (as.map V.ref)) ∧ ∀ j a, i ≤ j → as[j]? = some a → Pur H' a 0) ⟨⟨_, _, _, _, _, _, _, _, rfl⟩, hl, fun j a _ hj => ?_⟩ (fun i σ H' _ z => SqL.of z.2.1) ?_ ?_
    · obtain ⟨_, _, p, q, i, pu⟩ := hall a (List.mem_of_getElem? hj)
      exact ⟨p, q, 0, i, pu, Int.le_refl _, Int.le_refl _⟩
    · rintro i x σ H2 hx ⟨⟨u1, u2, u3, u4, u5, u6, u7, u8, rfl⟩, hl2, purs⟩
      obtain ⟨a, ha, rfl⟩ : ∃ a, as[i]? = some a ∧ x = V.ref a := by
        rw [List.getElem?_map] at hx
        obtain ⟨a, ha, e⟩ := Option.map_eq_some_iff.mp hx
        exact ⟨a, ha, e.symm⟩
      have hp := purs i a (Nat.le_refl _) ha
      have nla : l ≠ a := fun e => (hall a (List.mem_of_getElem? ha)).2.1 e.symm
      refine ⟨2, rfl, by decide, by decide, ?_⟩
      intro D hD
      have en : (2 : Int).toNat = 2 := rfl
      rw [en]
      have naD : a ≠ D := hp.ne hD
      refine lc_range (lo := 0) (n := 2) (fun k H' => But a H2 H' ∧ Pur H' a (3 * k) ∧ ∃ (cs : List Addr) (T : List (List Int)), cs.length = k ∧ H' D = some (.lst (cs.map V.ref)) ∧ Rws H' cs T ∧ (∀ r ∈ T, Vc 5 3 r) ∧ ∀ b ∈ cs, b ≠ a ∧ b ≠ D) ⟨but_new hD, hp.same (same_new hD), [], [], rfl, upd_same, .nil, (fun x m => (nomatch m)), (fun x m => (nomatch m))⟩ ?_ ?_
      · rintro k H' hk ⟨bt, hp', cs, T, lc, hcl, hT, hv, fr⟩
        refine ⟨rfl, tyes ?_⟩
        refine ⟨_, rfl, a, 5, 3, 3 * k, rfl, by decide, by decide, by decide, hp', by omega, fun H3 d xs b3 hp3 nd hd vx => ?_⟩
        have hcl3 := b3 D (Ne.symm naD) _ hcl
        have ndD : d ≠ D := fun e => by
          rw [e, hcl] at nd
          cases nd
        have nda : d ≠ a := fun e => by
          obtain ⟨q1, q2, q3, q4, z, _⟩ := hp'
          have z : H' a = some _ := z
          rw [e, z] at nd
          cases nd
        refine ⟨_, hcl3, by rw [List.length_map, lc, sizeLine_eq]; omega, but_set (bt.trans b3) (Ne.symm naD) hD, ?_, cs ++ [d], T ++ [xs], by rw [List.length_append, lc]; rfl, ?_, ?_, fun r m => ?_, fun b m => ?_⟩
        · obtain ⟨q1, q2, q3, q4, e, q5, q6⟩ := hp3
          exact ⟨q1, q2, q3, q4, (upd_ne naD).trans e, q5, by omega⟩
        · show upd H3 D _ D = _
          rw [upd_same, List.map_append]
          rfl
        · refine paired_snoc (Rws.mono hT fun b m o e => (upd_ne (fr b m).2).trans (b3 b (fr b m).1 o e)) ?_
          exact (upd_ne ndD).trans hd
        · rcases List.mem_append.mp m with z | z
          · exact hv r z
          · rw [List.mem_singleton.mp z]
            exact vx
        · rcases List.mem_append.mp m with z | z
          · exact fr b z
          · rw [List.mem_singleton.mp z]
            exact ⟨nda, ndD⟩
      rintro H3 ⟨b3, hp3, cs, T, lc, hD3, hT3, hv, fr⟩
      obtain ⟨a0, a1, r0, r1, rfl, rfl, hr0, hr1⟩ : ∃ a0 a1 r0 r1, cs = [a0, a1] ∧ T = [r0, r1] ∧ Rw H3 a0 r0 ∧ Rw H3 a1 r1 := by
        match cs, T, lc, hT3 with
        | [a0, a1], [r0, r1], _, .cons q1 (.cons q2 .nil) => exact ⟨a0, a1, r0, r1, rfl, rfl, q1, q2⟩
      have vc0 := hv r0 List.mem_cons_self
      have vc1 := hv r1 (List.mem_cons_of_mem _ List.mem_cons_self)
      have ch3 : CH D a0 a1 r0 r1 H3 := ⟨hD3, hr0, hr1⟩
      -- what holds behind the rest, which makes new things alone
      have fin : ∀ H' : Hp, Same H3 H' → H' l = some (.lst (as.map V.ref)) ∧ ∀ j c, i + 1 ≤ j → as[j]? = some c → Pur H' c 0 := fun H' sm => by
        refine ⟨sm _ _ (b3 l nla _ hl2), fun j c hj hc => ?_⟩
        have nca : c ≠ a := fun e => by
          rw [e] at hc
          have z := nodup_at nod ha hc
          omega
        exact ((purs j c (by omega) hc).but b3 nca).same sm
      refine ⟨_, rfl, D, rfl, ⟨_, SqL.of hD3⟩, ?_⟩
      intro D2 hD2
      refine lc_copy (as := [a0, a1]) (T := [r0, r1]) (i := 10) (Nat.le_of_ble_eq_true rfl) hD3 hT3 hD2 (Nat.le_of_ble_eq_true rfl) fun H4 cs4 s4 hD4 hcs4 _ => ?_
      have ch4 := ch3.up s4
      refine ⟨_, rfl, D, a0, a1, r0, r1, rfl, ch4.1, ch4.2.1, ch4.2.2, vc0, vc1, fun H5 s5 => ⟨_, rfl, iteF ?_⟩⟩
      have ch5 := ch4.up s5
      refine ⟨_, rfl, D, a0, a1, r0, r1, rfl, ch5.1, ch5.2.1, ch5.2.2, vc0, vc1, fun H6 s6 => ⟨_, rfl, iteF ?_⟩⟩
      have ch6 := ch5.up s6
      have s46 := same_trans s5 s6
      have s36 := same_trans s4 s46
      refine ⟨_, rfl, _, rfl, ne_mat (as := [a0, a1]) (bs := cs4) (S := [r0, r1]) (T := [r0, r1]) ch6.1 (.cons ch6.2.1 (.cons ch6.2.2 .nil)) (s46 _ _ hD4) (rws_up hcs4 s46) ⟨_, rfl, ?_⟩⟩
      rw [decide_eq_true rfl]
      refine iteF ?_
      -- a list that is changed behind the call
      refine ⟨by show 1 ≤ sizeLine; decide, fun c1 hc1 => ⟨by show 1 ≤ sizeLine; decide, fun lt hlt => ?_⟩⟩
      have ta := same_new (o := .lst [V.int 5]) hc1
      have tb := same_new (o := .lst [V.ref c1]) hlt
      refine ⟨_, rfl, by show 2 ≤ sizeLine; decide, fun g hg => ?_⟩
      have tc := same_new (o := .lst [V.int 5, V.ref lt]) hg
      have nlt : H6 lt = none := ta.free hlt
      have nc1 : c1 ≠ lt := ne_of_none (show upd H6 c1 (.lst [V.int 5]) c1 = some (.lst [V.int 5]) from upd_same) hlt
      have hltc := tc _ _ (show upd (upd H6 c1 (.lst [V.int 5])) lt (.lst [V.ref c1]) lt = some (.lst [V.ref c1]) from upd_same)
      have hc1c := tc _ _ (tb _ _ (show upd H6 c1 (.lst [V.int 5]) c1 = some (.lst [V.int 5]) from upd_same))
      refine ⟨1, g, _, .int 5, .ref lt, .non, .non, .int 5, .list [.list [.int 5]], .none, .none, 2, 1, rfl, ⟨by decide, upd_same, rfl, rfl, fun h => absurd h (by decide), fun h => absurd h (by decide), 4, Sho.int 5, Sho.lst hltc (.cons (Sho.lst hc1c (.cons (Sho.int 5) .nil)) .nil), Sho.non, Sho.non, good5, smB_sm rfl, sm_none, sm_none⟩, verK_v (by decide) (by decide), by decide, fun H7 r s7 nr hr7 => ?_⟩
      have nrl : r ≠ lt := (ne_of_none hltc nr).symm
      have hlt7 := s7 _ _ hltc
      have hc17 := s7 _ _ hc1c
      refine ⟨_, rfl, .inl ⟨rfl, _, SqL.of hlt7⟩, lt, _, _, rfl, rfl, hlt7, by show 1 < sizeLine; decide, ?_⟩
      have s68 : Same H6 (upd H7 lt (.lst ([V.ref c1] ++ [V.str "more"]))) := same_set (same_trans ta (same_trans tb (same_trans tc s7))) nlt
      have hr8 : upd H7 lt (.lst ([V.ref c1] ++ [V.str "more"])) r = some (.lst [V.str "vectors", V.ref lt]) := (upd_ne nrl).trans hr7
      have hc18 : upd H7 lt (.lst ([V.ref c1] ++ [V.str "more"])) c1 = some (.lst [V.int 5]) := (upd_ne nc1).trans hc17
      have hlt8 : upd H7 lt (.lst ([V.ref c1] ++ [V.str "more"])) lt = some (.lst [V.ref c1, V.str "more"]) := upd_same
      generalize upd H7 lt (.lst ([V.ref c1] ++ [V.str "more"])) = H8 at s68 hr8 hc18 hlt8 ⊢
      refine ⟨_, rfl, by show 1 ≤ sizeLine; decide, fun d1 q1 => ⟨by show 2 ≤ sizeLine; decide, fun d2 q2 => ⟨by show 2 ≤ sizeLine; decide, fun d3 q3 => ?_⟩⟩⟩
      have y1 := same_new (o := .lst [V.int 5]) q1
      have y2 := same_new (o := .lst [V.ref d1, V.str "more"]) q2
      have y3 := same_new (o := .lst [V.str "vectors", V.ref d2]) q3
      have y := same_trans y1 (same_trans y2 y3)
      refine ⟨lateD, lateD, ?_, ?_, late_ok.1, late_ok.1, ?_⟩
      · exact .lst (SqL.of (y _ _ hr8)) (.cons (.str _) (.cons (.lst (SqL.of (y _ _ hlt8)) (.cons (.lst (SqL.of (y _ _ hc18)) (.cons (.int 5) .nil)) (.cons (.str _) .nil))) .nil))
      · exact .lst (SqL.of upd_same) (.cons (.str _) (.cons (.lst (SqL.of (y3 _ _ upd_same)) (.cons (.lst (SqL.of (y3 _ _ (y2 _ _ upd_same))) (.cons (.int 5) .nil)) (.cons (.str _) .nil))) .nil))
      rw [late_ok.2]
      refine ⟨_, rfl, iteF ?_⟩
      have s39 := same_trans s36 (same_trans s68 y)
      generalize upd (upd (upd H8 d1 (.lst [V.int 5])) d2 (.lst [V.ref d1, V.str "more"])) d3 (.lst [V.str "vectors", V.ref d2]) = H9 at s39 ⊢
      have ch := ch3.up s39
      -- all by name
      refine ⟨D, a0, a1, r0, r1, vc0, vc1, rfl, ch, fun v1 K1 p1 e1 => ?_⟩
      obtain rfl : v1 = .int 3 := e1
      have ch := ch.up p1
      have sz := same_trans s39 p1
      refine ⟨D, a0, a1, r0, r1, vc0, vc1, rfl, ch, fun v2 K2 p2 ⟨B, t, bas, f2⟩ => ?_⟩
      have ch := ch.up p2
      have sz := same_trans sz p2
      refine ⟨D, a0, a1, r0, r1, vc0, vc1, rfl, ch, fun v3 K3 p3 ⟨B3, t3, bas3, e3⟩ => ?_⟩
      obtain rfl : v3 = .int (B3.length : Int) := e3
      obtain rfl : B3 = B := (bas3.uniq (by decide) bas fun _ => Iff.rfl).1
      have ch := ch.up p3
      have sz := same_trans sz p3
      have f2 := f2.up p3
      refine ⟨by show 3 ≤ sizeLine; decide, fun M1 hM1 => ?_⟩
      have q := same_new (o := .lst [V.int 3, v2, V.int (B3.length : Int)]) hM1
      have hM1 : upd K3 M1 (.lst [V.int 3, v2, V.int (B3.length : Int)]) M1 = some (.lst [V.int 3, v2, V.int (B3.length : Int)]) := upd_same
      generalize upd K3 M1 (.lst [V.int 3, v2, V.int (B3.length : Int)]) = A1 at q hM1 ⊢
      have ch := ch.up q
      have sz := same_trans sz q
      have f2 := f2.up q
      refine ⟨_, rfl, D, a0, a1, r0, r1, vc0, vc1, rfl, ch, fun v4 K4 p4 ⟨N, F4, t4, bas4, ke4, f4⟩ => ?_⟩
      have ch := ch.up p4
      have sz := same_trans sz p4
      have f2 := f2.up p4
      have hM1 := p4 _ _ hM1
      refine ⟨D, a0, a1, r0, r1, vc0, vc1, rfl, ch, fun v5 K5 p5 f5 => ?_⟩
      have ch := ch.up p5
      have sz := same_trans sz p5
      have f2 := f2.up p5
      have f4 := f4.up p5
      have hM1 := p5 _ _ hM1
      have f5 : Sho 3 K5 v5 (rowP (addZ 5 [r0, r1] [1, 2] 3)) := f5
      refine ⟨by show 2 ≤ sizeLine; decide, fun M2 hM2 => ?_⟩
      have q := same_new (o := .lst [v4, v5]) hM2
      refine ⟨M1, M2, _, _, rfl, rfl, q _ _ hM1, upd_same, by show 3 + 2 ≤ sizeLine; decide, fun M3 hM3 => ?_⟩
      have qq := same_trans q (same_new (o := .lst ([V.int 3, v2, V.int (B3.length : Int)] ++ [v4, v5])) hM3)
      have hM3 : upd (upd K5 M2 (.lst [v4, v5])) M3 (.lst ([V.int 3, v2, V.int (B3.length : Int)] ++ [v4, v5])) M3 = some (.lst [V.int 3, v2, V.int (B3.length : Int), v4, v5]) := upd_same
      generalize upd (upd K5 M2 (.lst [v4, v5])) M3 (.lst ([V.int 3, v2, V.int (B3.length : Int)] ++ [v4, v5])) = A3 at qq hM3 ⊢
      have ch := ch.up qq
      have sz := same_trans sz qq
      have f2 := f2.up qq
      have f4 := f4.up qq
      have f5 := f5.up qq
      refine ⟨_, rfl, D, a0, a1, r0, r1, vc0, vc1, rfl, ch, fun v6 K6 p6 ⟨r6, me6, f6⟩ => ?_⟩
      have ch := ch.up p6
      have sz := same_trans sz p6
      have f2 := f2.up p6
      have f4 := f4.up p6
      have f5 := f5.up p6
      have hM3 := p6 _ _ hM3
      refine ⟨D, a0, a1, r0, r1, vc0, vc1, rfl, ch, fun v7 K7 p7 e7 => ?_⟩
      obtain rfl : v7 = .non := e7
      have ch := ch.up p7
      have sz := same_trans sz p7
      have f2 := f2.up p7
      have f4 := f4.up p7
      have f5 := f5.up p7
      have f6 := f6.up p7
      have hM3 := p7 _ _ hM3
      refine ⟨by show 2 ≤ sizeLine; decide, fun M4 hM4 => ?_⟩
      have q := same_new (o := .lst [v6, V.non]) hM4
      refine ⟨M3, M4, _, _, rfl, rfl, q _ _ hM3, upd_same, by show 5 + 2 ≤ sizeLine; decide, fun M5 hM5 => ?_⟩
      have qq := same_trans q (same_new (o := .lst ([V.int 3, v2, V.int (B3.length : Int), v4, v5] ++ [v6, V.non])) hM5)
      have hM5 : upd (upd K7 M4 (.lst [v6, V.non])) M5 (.lst ([V.int 3, v2, V.int (B3.length : Int), v4, v5] ++ [v6, V.non])) M5 = some (.lst [V.int 3, v2, V.int (B3.length : Int), v4, v5, v6, V.non]) := upd_same
      generalize upd (upd K7 M4 (.lst [v6, V.non])) M5 (.lst ([V.int 3, v2, V.int (B3.length : Int), v4, v5] ++ [v6, V.non])) = A5 at qq hM5 ⊢
      have ch := ch.up qq
      have sz := same_trans sz qq
      have f2 := f2.up qq
      have f4 := f4.up qq
      have f5 := f5.up qq
      have f6 := f6.up qq
      refine ⟨_, rfl, D, a0, a1, r0, r1, vc0, vc1, rfl, ch, fun v8 K8 p8 e8 => ?_⟩
      obtain rfl : v8 = .bl true := e8
      have q := p8
      refine ⟨by show 1 ≤ sizeLine; decide, fun M6 hM6 => ?_⟩
      have q := same_trans q (same_new (o := .lst [V.bl true]) hM6)
      have hM5 := q _ _ hM5
      have ch := ch.up q
      have sz := same_trans sz q
      have f2 := f2.up q
      have f4 := f4.up q
      have f5 := f5.up q
      have f6 := f6.up q
      refine ⟨M5, M6, _, _, rfl, rfl, hM5, upd_same, by show 7 + 1 ≤ sizeLine; decide, fun M7 hM7 => ?_⟩
      generalize upd K8 M6 (.lst [V.bl true]) = A6 at *
      -- a list that is made longer
      have q7 := same_new (o := .lst ([V.int 3, v2, V.int (B3.length : Int), v4, v5, v6, V.non] ++ [V.bl true])) hM7
      have eM7 : upd A6 M7 (.lst ([V.int 3, v2, V.int (B3.length : Int), v4, v5, v6, V.non] ++ [V.bl true])) M7 = some (.lst [V.int 3, v2, V.int (B3.length : Int), v4, v5, v6, V.non, V.bl true]) := upd_same
      refine ⟨_, rfl, .inl ⟨rfl, _, SqL.of eM7⟩, D, a0, a1, r0, r1, vc0, vc1, rfl, ch.up q7, fun v9 K9 p9 e9 => ?_⟩
      obtain rfl : v9 = .bl false := e9
      refine ⟨M7, _, _, rfl, rfl, p9 _ _ eM7, by show 8 < sizeLine; decide, ?_⟩
      have q : Same A6 (upd K9 M7 (.lst ([V.int 3, v2, V.int (B3.length : Int), v4, v5, v6, V.non, V.bl true] ++ [V.bl false]))) := same_set (same_trans q7 p9) hM7
      have hM8 : upd K9 M7 (.lst ([V.int 3, v2, V.int (B3.length : Int), v4, v5, v6, V.non, V.bl true] ++ [V.bl false])) M7 = some (.lst [V.int 3, v2, V.int (B3.length : Int), v4, v5, v6, V.non, V.bl true, V.bl false]) := upd_same
      generalize upd K9 M7 (.lst ([V.int 3, v2, V.int (B3.length : Int), v4, v5, v6, V.non, V.bl true] ++ [V.bl false])) = A8 at q hM8 ⊢
      have ch := ch.up q
      have sz := same_trans sz q
      have f2 := f2.up q
      have f4 := f4.up q
      have f5 := f5.up q
      have f6 := f6.up q
      -- by place
      refine ⟨D, a0, a1, r0, r1, vc0, vc1, rfl, ch, fun w2 J2 p2 ⟨B', t', bas', g2⟩ => ?_⟩
      obtain rfl : B' = B3 := (bas'.uniq (by decide) bas fun _ => Iff.rfl).1
      have ch := ch.up p2
      refine ⟨D, a0, a1, r0, r1, vc0, vc1, rfl, ch, fun w3 J3 p3 ⟨B'', t'', bas'', e3⟩ => ?_⟩
      obtain rfl : w3 = .int (B''.length : Int) := e3
      obtain rfl : B'' = B' := (bas''.uniq (by decide) bas fun _ => Iff.rfl).1
      have ch := ch.up p3
      refine ⟨D, a0, a1, r0, r1, vc0, vc1, rfl, ch, fun w4 J4 p4 ⟨N', F', t'', basN, keN, g4⟩ => ?_⟩
      obtain rfl : N' = N := (basN.uniq (by decide) bas4 fun xs => (keN xs).trans (ke4 xs).symm).1
      have ch := ch.up p4
      refine ⟨D, a0, a1, r0, r1, vc0, vc1, rfl, ch, fun w5 J5 p5 g5 => ?_⟩
      have g5 : Sho 3 J5 w5 (rowP (addZ 5 [r0, r1] [1, 2] 3)) := g5
      have ch := ch.up p5
      refine ⟨D, a0, a1, r0, r1, vc0, vc1, rfl, ch, fun w6 J6 p6 ⟨r6', me6', g6⟩ => ?_⟩
      obtain rfl : r6' = r6 := LinA.Meets.uniq (by decide) me6' me6
      have ch := ch.up p6
      have p56 := same_trans p5 p6
      have p46 := same_trans p4 p56
      have p36 := same_trans p3 p46
      have p26 := same_trans p2 p36
      refine ⟨by show 6 ≤ sizeLine; decide, fun L1 hL1 => ?_⟩
      have x1 := same_new (o := .lst [V.int 3, w2, V.int (B''.length : Int), w4, w5, w6]) hL1
      refine ⟨_, rfl, _, rfl, by show 3 ≤ sizeLine; decide, fun L2 hL2 => ?_⟩
      have x2 := same_new (o := .lst [V.non, V.bl true, V.bl false]) hL2
      refine ⟨L1, L2, _, _, rfl, rfl, x2 _ _ upd_same, upd_same, by show 6 + 3 ≤ sizeLine; decide, fun L3 hL3 => ?_⟩
      have x3 := same_new (o := .lst ([V.int 3, w2, V.int (B''.length : Int), w4, w5, w6] ++ [V.non, V.bl true, V.bl false])) hL3
      have x13 := same_trans x1 (same_trans x2 x3)
      have x := same_trans p26 x13
      have mo := mine_ok B'' N' (B''.length : Int) (addZ 5 [r0, r1] [1, 2] 3) r6'
      refine ⟨mineD B'' N' (B''.length : Int) (addZ 5 [r0, r1] [1, 2] 3) r6', mineD B'' N' (B''.length : Int) (addZ 5 [r0, r1] [1, 2] 3) r6', ?_, ?_, mo.1, mo.1, ?_⟩
      · exact .lst (SqL.of (x _ _ hM8)) (.cons (.int 3) (.cons (sho_dp _ _ (f2.up x) (lay_mat _)) (.cons (.int _) (.cons (sho_dp _ _ (f4.up x) (lay_mat _)) (.cons (sho_dp _ _ (f5.up x) (lay_row _)) (.cons (sho_dp _ _ (f6.up x) (lay_opt _)) (.cons .non (.cons (.bl true) (.cons (.bl false) .nil)))))))))
      · exact .lst (SqL.of upd_same) (.cons (.int 3) (.cons (sho_dp _ _ (g2.up (same_trans p36 x13)) (lay_mat _)) (.cons (.int _) (.cons (sho_dp _ _ (g4.up (same_trans p56 x13)) (lay_mat _)) (.cons (sho_dp _ _ (g5.up (same_trans p6 x13)) (lay_row _)) (.cons (sho_dp _ _ (g6.up x13) (lay_opt _)) (.cons .non (.cons (.bl true) (.cons (.bl false) .nil)))))))))
      rw [mo.2]
      refine ⟨_, rfl, iteF ?_⟩
      have ch := ch.up x13
      have sz := same_trans sz x
      generalize upd (upd (upd J6 L1 (.lst [V.int 3, w2, V.int (B''.length : Int), w4, w5, w6])) L2 (.lst [V.non, V.bl true, V.bl false])) L3 (.lst ([V.int 3, w2, V.int (B''.length : Int), w4, w5, w6] ++ [V.non, V.bl true, V.bl false])) = E0 at ch sz ⊢
      refine ⟨D, a0, a1, r0, r1, vc0, vc1, rfl, ch, fun v10 T0 p10 ⟨rr, bb, iff1⟩ => ?_⟩
      refine ⟨rfl, by show 1 ≤ sizeLine; decide, fun U hU => ?_⟩
      have ch := ch.up p10
      have sz := same_trans sz p10
      have q0 := same_new (o := .lst [V.bl (decide (v10 = .non))]) hU
      have hU0 : upd T0 U (.lst [V.bl (decide (v10 = .non))]) U = some (.lst [V.bl (decide (v10 = .non))]) := upd_same
      refine ⟨_, rfl, .inl ⟨rfl, _, SqL.of hU0⟩, D, a0, a1, r0, r1, vc0, vc1, rfl, ch.up q0, fun v11 T1 p11 bb2 => ⟨rfl, U, _, _, rfl, rfl, p11 _ _ hU0, by show 1 < sizeLine; decide, ?_⟩⟩
      have qa : Same T0 (upd T1 U (.lst ([V.bl (decide (v10 = .non))] ++ [V.bl (decide (v11 = .non))]))) := same_set (same_trans q0 p11) hU
      have hU1 : upd T1 U (.lst ([V.bl (decide (v10 = .non))] ++ [V.bl (decide (v11 = .non))])) U = some (.lst [V.bl (decide (v10 = .non)), V.bl (decide (v11 = .non))]) := upd_same
      generalize upd T1 U (.lst ([V.bl (decide (v10 = .non))] ++ [V.bl (decide (v11 = .non))])) = T2 at qa hU1 ⊢
      refine ⟨_, rfl, .inl ⟨rfl, _, SqL.of hU1⟩, D, a0, a1, r0, r1, vc0, vc1, rfl, ch.up qa, fun v12 T3 p12 e12 => ?_⟩
      obtain rfl : v12 = .bl false := e12
      refine ⟨U, _, _, rfl, rfl, p12 _ _ hU1, by show 2 < sizeLine; decide, ?_⟩
      have qb : Same T0 (upd T3 U (.lst ([V.bl (decide (v10 = .non)), V.bl (decide (v11 = .non))] ++ [V.bl false]))) := same_set (same_trans qa p12) hU
      have hU3 : upd T3 U (.lst ([V.bl (decide (v10 = .non)), V.bl (decide (v11 = .non))] ++ [V.bl false])) U = some (.lst [V.bl (decide (v10 = .non)), V.bl (decide (v11 = .non)), V.bl false]) := upd_same
      generalize upd T3 U (.lst ([V.bl (decide (v10 = .non)), V.bl (decide (v11 = .non))] ++ [V.bl false])) = T4 at qb hU3 ⊢
      refine ⟨_, rfl, .inl ⟨rfl, _, SqL.of hU3⟩, D, a0, a1, r0, r1, vc0, vc1, rfl, ch.up qb, fun v13 T5 p13 e13 => ?_⟩
      obtain rfl : v13 = .bl false := e13
      refine ⟨U, _, _, rfl, rfl, p13 _ _ hU3, by show 3 < sizeLine; decide, ?_⟩
      have qc : Same T0 (upd T5 U (.lst ([V.bl (decide (v10 = .non)), V.bl (decide (v11 = .non)), V.bl false] ++ [V.bl false]))) := same_set (same_trans qb p13) hU
      have hU5 : upd T5 U (.lst ([V.bl (decide (v10 = .non)), V.bl (decide (v11 = .non)), V.bl false] ++ [V.bl false])) U = some (.lst [V.bl (decide (v10 = .non)), V.bl (decide (v11 = .non)), V.bl false, V.bl false]) := upd_same
      generalize upd T5 U (.lst ([V.bl (decide (v10 = .non)), V.bl (decide (v11 = .non)), V.bl false] ++ [V.bl false])) = T6 at qc hU5 ⊢
      refine ⟨_, rfl, U, _, 0, _, rfl, rfl, SqL.of hU5, atI_nat (j := 0) rfl, _, rfl, U, _, 1, _, rfl, rfl, SqL.of hU5, atI_nat (j := 1) rfl, rfl, _, rfl, ?_⟩
      have dual := betw_dual vc0 vc1 bb
      have ne : decide (V.bl (decide (v10 = .non)) = V.bl (decide (v11 = .non))) = false := by
        rcases bb2 with ⟨e, lr⟩ | ⟨e, lr⟩
        · have n10 : v10 ≠ .non := fun z => dual.mp (iff1.mp z) lr
          rw [decide_eq_false n10, decide_eq_true e]
          rfl
        · have n10 : v10 = .non := iff1.mpr (dual.mpr lr)
          rw [decide_eq_true n10, decide_eq_false e]
          rfl
      rw [ne]
      refine iteF ?_
      refine ⟨_, rfl, 2, rfl, U, _, rfl, SqL.of hU5, fun p hp => ?_⟩
      have z1 := same_new (o := .lst (cutV [V.bl (decide (v10 = .non)), V.bl (decide (v11 = .non)), V.bl false, V.bl false] (some 2) none)) hp
      have hp1 : upd T6 p (.lst (cutV [V.bl (decide (v10 = .non)), V.bl (decide (v11 = .non)), V.bl false, V.bl false] (some 2) none)) p = some (.lst [V.bl false, V.bl false]) := by
        rw [upd_same, show (some (2 : Int)) = some ((2 : Nat) : Int) from rfl, cut_drop]
        rfl
      refine ⟨by show 2 ≤ sizeLine; decide, fun b hb => ?_⟩
      have z2 := same_new (o := .lst [V.bl false, V.bl false]) hb
      refine ⟨p, b, _, _, _, _, true, true, rfl, rfl, z2 _ _ hp1, upd_same, .inl ⟨rfl, .inl rfl, rfl⟩, .inl ⟨rfl, .inl rfl, rfl⟩, _, rfl, iteF ?_⟩
      obtain ⟨g1, g2⟩ := fin _ (same_trans sz (same_trans qc (same_trans z1 z2)))
      exact ⟨⟨_, _, _, _, _, _, _, _, rfl⟩, g1, g2⟩
    · rintro σ H' ⟨⟨u1, u2, u3, u4, u5, u6, u7, u8, rfl⟩, _, _⟩
      exact want H'
end
end Vb
end L2

set_option Elab.async false
set_option linter.all false
set_option maxRecDepth 100000
set_option maxHeartbeats 8000000
/-! Vb, part 75: from the head's facts. -/
namespace L2
namespace Vb
open PySem PySem.Spec PyProof.Rows
open Eo (ErC spInit)
def iArgs (p1 p2 p3 : Pos) : Arguments := { posonlyargs := [], args := [{ arg := "self", annotation := none, pos := p1 }, { arg := "value", annotation := none, pos := p2 }], vararg := none, kwonlyargs := [], kw_defaults := [], kwarg := none, defaults := [.Constant .none 0 p3] }
def iBody (q1 q2 q3 q4 : Pos) : List Stmt := [.Assign [.Attribute (.Name "self" q1) "value" q2] (.Name "value" q3) q4]
def iScope : Scope := { kind := .function, names := [(Str.ofString "self", .local), (Str.ofString "value", .local)], isGenerator := false, isCoroutine := false, more := [] }
def InitShape (st : Stmt) : Prop := ∃ p1 p2 p3 q1 q2 q3 q4, defArgs st = iArgs p1 p2 p3 ∧ defBody st = iBody q1 q2 q3 q4 ∧ defScope st = iScope
theorem shapes : ∀ z ∈ inits, InitShape (initOf (topS z.2.2)) := by
  intro z hz
  simp only [inits, List.mem_cons, List.not_mem_nil, or_false] at hz
  rcases hz with rfl | rfl | rfl
  all_goals exact ⟨_, _, _, _, _, _, _, rfl, rfl, rfl⟩
section
variable {P : Program} {w : World} {K : PySem.W.Frag} {mg : Str → Option Value} {base : Heap}
theorem scInit : FnScope ["self", "value"] ["self", "value"] iScope := ⟨rfl, rfl, rfl, by decide +kernel, rfl, by decide +kernel, by decide +kernel⟩
theorem ok_init {q : Str} {C fI : Addr} {fd : FuncData} {p1 p2 p3 q1 q2 q3 q4 : Pos} (T : ErC K C fI) (F : FunD K "__init__" q (iArgs p1 p2 p3) (iBody q1 q2 q3 q4) iScope [.non] [] fI fd) : FnOk P w K mg base CX0 1 fI fd ["self", "value"] (spInit C) := by
  refine F.ok scInit (fun vs H Q E h => ?_) (fun cdv A outer s H vs Q E hr h => ?_)
  · obtain ⟨a, v, rfl, _⟩ := h
    rfl
  · obtain ⟨a, v, rfl, ha, want⟩ := h
    refine ⟨_, PSs.nox (pss_one (ps_ost (pv 0) (pv 1))), ?_⟩
    exact ⟨_, rfl, _, rfl, a, C, rfl, T.ox, T.noV, .inl ⟨ha, fun d nd ne => want d nd ne⟩⟩
theorem bad_of {x q : Str} {fd : FuncData} {p1 p2 p3 q1 q2 q3 q4 : Pos} (gC : mg x = some (.ref (He.ga K x))) (T : ErC K (He.ga K x) (He.ma K (He.ga K x) "__init__"))
    (F : FunD K "__init__" q (iArgs p1 p2 p3) (iBody q1 q2 q3 q4) iScope [.non] [] (He.ma K (He.ga K x) "__init__") fd) : Bad P w K mg base x (He.ga K x) := by
  obtain ⟨ds2, vd2, b2⟩ := FunD.binds1 (ps := ["self", "value"]) F 2 1 (by simp) rfl fun T kV doc pm an cdv ct us its l1 l2 => by
    match us, its, l1, l2 with
    | [a, b], [d], _, _ => exact ⟨_, rfl, rfl⟩
  have e2 : ds2 = [] := by
    cases vd2
    rfl
  subst e2
  exact ⟨gC, _, fd, T, ok_init T F, b2⟩
/-! ### the classes -/
theorem cls_of {x : Str} {tl : List Value} (h : clsOk K tl x = true) : ∃ nm q N bs sn sub ab col dd k0 k1 k2 k3 k5, K.lookup (He.ga K x) = some (excClassObj nm q (He.ga K x) N bs tl true sn sub ab col dd k0 k1 k2 k3 k5 "ValueError.__new__") := by
  unfold clsOk at h
  split at h
  · rename_i dd cd sl ho
    split at h
    · rename_i k0 k1 k2 k3 n k5 hsl
      simp only [Bool.and_eq_true, beq_iff_eq, Bool.not_eq_true'] at h
      obtain ⟨rfl, hm, hd, hdel⟩ := h
      obtain ⟨nm, bs, mro, ns, qn, hdct, sn, sub, ab, col, del⟩ := cd
      dsimp only at hm hd hdel
      subst hm hd hdel
      have e : sl = #[k0, k1, k2, k3, some (.builtin "ValueError.__new__"), k5] := by
        rw [← hsl]
      exact ⟨nm, qn, ns, bs, sn, sub, ab, col, dd, k0, k1, k2, k3, k5, by rw [ho, e]⟩
    · cases h
  · cases h
/-- what its class object says -/
structure Cl (K : PySem.W.Frag) (x : Str) (tl : List Value) : Prop where
  ob : ∃ nm q N bs sn sub ab col dd k0 k1 k2 k3 k5, K.lookup (He.ga K x) = some (excClassObj nm q (He.ga K x) N bs tl true sn sub ab col dd k0 k1 k2 k3 k5 "ValueError.__new__")
  isC : (PySem.W.clsIn K (He.ga K x)).isSome = true
  ty : PySem.W.typeIn K (.ref (He.ga K x)) = some (.type "type")
  dct : PySem.W.hasDictIn K (He.ga K x) = true
  mro : ∀ v : Value, PySem.W.mroIn K (He.ga K x) v = some ((Value.ref (He.ga K x) :: tl).contains v)
theorem cl_of {x : Str} {tl : List Value} (h : clsOk K tl x = true) : Cl K x tl := by
  obtain ⟨nm, q, N, bs, sn, sub, ab, col, dd, k0, k1, k2, k3, k5, e⟩ := cls_of h
  have ec : PySem.W.clsIn K (He.ga K x) = some { name := nm, bases := bs, mro := .ref (He.ga K x) :: tl, ns := N, qualname := q, hasDict := true, slotNames := sn, subclasses := sub, abstract := ab, collection := col, hasDel := false } := by
    unfold PySem.W.clsIn
    rw [e]
  refine ⟨⟨nm, q, N, bs, sn, sub, ab, col, dd, k0, k1, k2, k3, k5, e⟩, by rw [ec]; rfl, ?_, ?_, fun v => ?_⟩
  · show (K.lookup (He.ga K x)).map (·.cls) = _
    rw [e]
    rfl
  · unfold PySem.W.hasDictIn
    rw [ec]
    rfl
  · unfold PySem.W.mroIn
    rw [ec]
    rfl
theorem more_of {x : Str} (h : clsMore K x = true) : PySem.W.findIn K (.ref (He.ga K x)) "__setattr__" = some (some (.builtin "object.__setattr__")) ∧ PySem.W.findIn K (.ref (He.ga K x)) "__getattribute__" = some (some (.builtin "BaseException.__getattribute__")) ∧
    PySem.W.findIn K (.ref (He.ga K x)) "__getattr__" = some none ∧ PySem.W.findIn K (.ref (He.ga K x)) "__class__" = some (some (.builtin "object.__class__")) ∧ PySem.W.findIn K (.ref (He.ga K x)) "value" = some none ∧ PySem.W.keepIn K (.ref (He.ga K x)) = true := by
  unfold clsMore at h
  obtain ⟨a, h⟩ := He.ba h
  obtain ⟨b, h⟩ := He.ba h
  obtain ⟨c, h⟩ := He.ba h
  obtain ⟨d, h⟩ := He.ba h
  obtain ⟨e, h⟩ := He.ba h
  exact ⟨He.eqO_ok a, He.eqO_ok b, He.eqO_ok c, He.eqO_ok d, He.eqO_ok e, h⟩
theorem erA_of {x : Str} {tl : List Value} (c : Cl K x tl) (m : clsMore K x = true) (hb : (Value.ref (He.ga K x) :: tl).contains (.type "BaseException") = true) (ho : (Value.ref (He.ga K x) :: tl).contains (.type "object") = true) : EoM.ErA K (He.ga K x) := by
  obtain ⟨_, b, d, e, _, _⟩ := more_of m
  exact ⟨b, d, (c.mro _).trans (congrArg some hb), c.dct, e, (c.mro _).trans (congrArg some ho)⟩
theorem has_tail (a s : Addr) : (Value.ref a :: Value.ref s :: veT).contains (.type "BaseException") = true ∧ (Value.ref a :: Value.ref s :: veT).contains (.type "object") = true ∧ (Value.ref a :: Value.ref s :: veT).contains (.type "ValueError") = true := by
  refine ⟨?_, ?_, ?_⟩ <;> rfl
theorem has_ve (s : Addr) : (Value.ref s :: veT).contains (.type "BaseException") = true ∧ (Value.ref s :: veT).contains (.type "object") = true ∧ (Value.ref s :: veT).contains (.type "ValueError") = true := by
  refine ⟨?_, ?_, ?_⟩ <;> rfl
theorem ref_beq (a b : Addr) : (Value.ref a == Value.ref b) = decide (a = b) := by
  by_cases h : a = b
  · rw [h, decide_eq_true rfl]
    exact beq_self_eq_true _
  · rw [decide_eq_false h]
    exact beq_eq_false_iff_ne.mpr fun e => h (Value.ref.inj e)
theorem veT_ref (b : Addr) : veT.contains (.ref b) = false := rfl
theorem nodup_inj {f : Str → Addr} : ∀ {l : List Str}, nodupB (l.map f) = true → ∀ x ∈ l, ∀ y ∈ l, f x = f y → x = y
  | [], _, x, hx, _, _, _ => (List.not_mem_nil hx).elim
  | a :: r, h, x, hx, y, hy, e => by
    have h2 : (!((r.map f).contains (f a)) && nodupB (r.map f)) = true := h
    obtain ⟨h3, h4⟩ := He.ba h2
    have no : ∀ z ∈ r, f z ≠ f a := fun z hz q => by
      have w : (r.map f).contains (f a) = true := List.contains_iff_mem.mpr (q ▸ List.mem_map_of_mem hz)
      rw [w] at h3
      cases h3
    rcases List.mem_cons.mp hx with qx | qx
    · rcases List.mem_cons.mp hy with qy | qy
      · exact qx.trans qy.symm
      · subst qx
        exact absurd e.symm (no y qy)
    · rcases List.mem_cons.mp hy with qy | qy
      · subst qy
        exact absurd e (no x qx)
      · exact nodup_inj h4 x qx y qy e
theorem kit_ref {x y : Str} {tl tl2 : List Value} (c : Cl K x tl) (d : Cl K y tl2) (ne : He.ga K x ≠ He.ga K y) : PySem.W.kitOne K (.ref (He.ga K x)) (.ref (He.ga K y)) = some (tl.contains (.ref (He.ga K y))) := by
  unfold PySem.W.kitOne
  rw [ref_beq, decide_eq_false ne, if_neg (by decide)]
  show (if ((PySem.W.clsIn K (He.ga K y)).isSome && PySem.W.typeIn K (.ref (He.ga K y)) == some (.type "type")) = true then PySem.W.mroIn K (He.ga K x) (.ref (He.ga K y)) else none) = _
  rw [d.isC, d.ty, if_pos (by rfl), c.mro, List.contains_cons, ref_beq, decide_eq_false (Ne.symm ne), Bool.false_or]
theorem kit_self {a : Addr} : PySem.W.kitOne K (.ref a) (.ref a) = some true := by
  unfold PySem.W.kitOne
  rw [ref_beq, decide_eq_true rfl, if_pos rfl]
theorem kit_ve {x : Str} {tl : List Value} (c : Cl K x tl) (h : (Value.ref (He.ga K x) :: tl).contains (.type "ValueError") = true) : PySem.W.kitOne K (.ref (He.ga K x)) (.type "ValueError") = some true := by
  unfold PySem.W.kitOne
  rw [if_neg (by intro h; cases eq_of_beq h)]
  show (if PySem.W.kitMeta "ValueError" = true then PySem.W.mroIn K (He.ga K x) (.type "ValueError") else none) = _
  rw [if_pos (by decide +kernel), c.mro, h]
theorem exm_ref {x y : Str} {tl tl2 : List Value} (c : Cl K x tl) (d : Cl K y tl2) (hb : (Value.ref (He.ga K y) :: tl2).contains (.type "BaseException") = true) (hy : (Value.ref (He.ga K x) :: tl).contains (.ref (He.ga K y)) = true) : PySem.W.exmOne K (.ref (He.ga K x)) (.ref (He.ga K y)) = some true := by
  unfold PySem.W.exmOne
  have e1 : PySem.W.subIn K (.ref (He.ga K y)) (.type "BaseException") = some true := (d.mro _).trans (congrArg some hb)
  rw [e1, if_pos (by rfl)]
  show (if ((PySem.W.clsIn K (He.ga K y)).isSome && PySem.W.typeIn K (.ref (He.ga K y)) == some (.type "type")) = true then PySem.W.mroIn K (He.ga K x) (.ref (He.ga K y)) else none) = _
  rw [d.isC, d.ty, if_pos (by rfl), c.mro, hy]
def nameI : Nat → Str
  | 0 => "InvalidPrime"
  | 1 => "InvalidNumber"
  | _ => "InvalidVectors"
theorem name_mem {c : Nat} : nameI c ∈ kinds := by
  match c with
  | 0 => exact List.mem_cons_self
  | 1 => exact List.mem_cons_of_mem _ List.mem_cons_self
  | _ + 2 => exact List.mem_cons_of_mem _ (List.mem_cons_of_mem _ List.mem_cons_self)
theorem cls_name (c : Nat) : clsI (He.ga K "InvalidPrime") (He.ga K "InvalidNumber") (He.ga K "InvalidVectors") c = He.ga K (nameI c) := by
  match c with
  | 0 => rfl
  | 1 => rfl
  | _ + 2 => rfl
theorem name_inj {c d : Nat} (hc : c < 3) (hd : d < 3) (e : nameI c = nameI d) : c = d := by
  obtain rfl | rfl | rfl : c = 0 ∨ c = 1 ∨ c = 2 := by omega
  all_goals (obtain rfl | rfl | rfl : d = 0 ∨ d = 1 ∨ d = 2 := by omega)
  all_goals first
    | rfl
    | exact absurd e (by decide)
theorem kinds_of (h : clsB K = true) (gl : ∀ x ∈ ("StopError" : Str) :: kinds, mg x = some (.ref (He.ga K x))) : Kinds K mg (He.ga K "StopError") (He.ga K "InvalidPrime") (He.ga K "InvalidNumber") (He.ga K "InvalidVectors") ∧ ∀ x ∈ kinds, ErC K (He.ga K x) (He.ma K (He.ga K x) "__init__") := by
  unfold clsB at h
  obtain ⟨h1, h⟩ := He.ba h
  obtain ⟨h3, h5⟩ := He.ba h
  obtain ⟨s1, s2⟩ := He.ba h3
  have S := cl_of s1
  have k1 : ∀ x ∈ kinds, Cl K x (tailOf K) ∧ clsMore K x = true ∧ initOk K x = true := fun x hx => by
    obtain ⟨a, b⟩ := He.ba (List.all_eq_true.mp h1 x hx)
    obtain ⟨b, c⟩ := He.ba b
    exact ⟨cl_of a, b, c⟩
  have inj := nodup_inj h5
  have inS : ("StopError" : Str) ∈ ("StopError" : Str) :: kinds := List.mem_cons_self
  have inN : ∀ x ∈ kinds, x ∈ ("StopError" : Str) :: kinds := fun x hx => List.mem_cons_of_mem _ hx
  have noS : ("StopError" : Str) ∉ kinds := by decide +kernel
  have neS : ∀ x ∈ kinds, He.ga K x ≠ He.ga K "StopError" := fun x hx e => noS (inj x (inN x hx) _ inS e ▸ hx)
  refine ⟨⟨gl _ inS, gl _ (inN _ (name_mem (c := 0))), gl _ (inN _ (name_mem (c := 1))), gl _ (inN _ (name_mem (c := 2))), fun c _ => ?_, fun c _ => ?_, fun c _ => ?_, fun c _ => ?_, fun c d hc hd => ?_⟩, fun x hx => ?_⟩
  · rw [cls_name]
    obtain ⟨cl, m, _⟩ := k1 _ (name_mem (c := c))
    exact erA_of cl m (has_tail _ _).1 (has_tail _ _).2.1
  · rw [cls_name]
    exact (more_of (k1 _ (name_mem (c := c))).2.1).2.2.2.2.1
  · rw [cls_name]
    exact kit_ve (k1 _ (name_mem (c := c))).1 (has_tail _ _).2.2
  · rw [cls_name]
    refine exm_ref (k1 _ (name_mem (c := c))).1 S (has_ve _).1 ?_
    unfold tailOf
    rw [List.contains_cons, List.contains_cons, ref_beq (He.ga K "StopError") (He.ga K "StopError"), decide_eq_true rfl, Bool.true_or, Bool.or_true]
  · rw [cls_name, cls_name]
    by_cases e : c = d
    · rw [e, decide_eq_true rfl]
      exact kit_self
    · have ne : He.ga K (nameI c) ≠ He.ga K (nameI d) := fun q => e (name_inj hc hd (inj _ (inN _ name_mem) _ (inN _ name_mem) q))
      rw [kit_ref (k1 _ name_mem).1 (k1 _ name_mem).1 ne, decide_eq_false e]
      unfold tailOf
      rw [List.contains_cons, ref_beq, decide_eq_false (neS _ name_mem), veT_ref]
      rfl
  · obtain ⟨c, m, i⟩ := k1 x hx
    obtain ⟨a1, _, _, _, a5, a6⟩ := more_of m
    obtain ⟨i1, i2⟩ := He.ba i
    obtain ⟨nm, q, N, bs, sn, sub, ab, col, dd, z0, z1, z2, z3, z5, e⟩ := c.ob
    exact ⟨⟨⟨nm, q, N, bs, tailOf K, sn, sub, ab, col, dd, z0, z1, z2, z3, z5, e, rfl⟩, a1, (c.mro _).trans (congrArg some (has_tail _ _).1), c.ty, a6⟩, He.eqO_ok i1, beq_iff_eq.mp i2, a5⟩
theorem sys_of (h : sysB K = true) : SysIn K := by
  unfold sysB at h
  split at h
  · rename_i o ho
    split at h
    · rename_i es n hd
      exact ⟨o, es, n, ho, hd⟩
    · cases h
  · cases h
end
end Vb
end L2

set_option Elab.async false
set_option linter.all false
set_option maxRecDepth 100000
set_option maxHeartbeats 8000000
/-! Vb, part 76: the row. -/
namespace L2
namespace Vb
open PySem PySem.Spec PyProof.Rows
/-- where all stands -/
structure Stands (P : Program) (w : World) (K : PySem.W.Frag) (mg : Str → Option Value) (base : Heap) : Prop where
  fn : ∀ x i, (x, i) ∈ defs → (∃ fd, Fun K x x (topS i) (He.ga K x) fd) ∧ mg x = some (.ref (He.ga K x))
  free : ∀ x ∈ frees, mg x = none
  prim : PrimG K mg
  kds : Kinds K mg (He.ga K "StopError") (He.ga K "InvalidPrime") (He.ga K "InvalidNumber") (He.ga K "InvalidVectors")
  bad : ∀ x ∈ kinds, Bad P w K mg base x (He.ga K x)
  sy : SysIn K
section
variable {P : Program} {w : World} {K : PySem.W.Frag} {mg : Str → Option Value} {h base : Heap}
theorem stands_of (G : h.Ns mainGlobals mg) (KX : K.In h) (c : Says w K) : Stands P w K mg base := by
  have cd : He.SaysD fa fn K := c.t.d
  have mA : ∀ {z : He.Fa}, z ∈ (defs.map fun z => He.Fa.glo z.1) → z ∈ fa := fun m => List.mem_append_right _ (List.mem_append_right _ (List.mem_append_left _ (List.mem_append_left _ m)))
  have mB : ∀ {z : He.Fa}, z ∈ ((("StopError" : Str) :: kinds).map He.Fa.glo) → z ∈ fa := fun m => List.mem_append_right _ (List.mem_append_right _ (List.mem_append_left _ (List.mem_append_right _ m)))
  have glo : ∀ x i, (x, i) ∈ defs → mg x = some (.ref (He.ga K x)) := fun x i hx => He.glo_ok KX G (cd.facts (mA (List.mem_map_of_mem (f := fun z : Str × Nat => He.Fa.glo z.1) hx)))
  have gloE : ∀ x ∈ ("StopError" : Str) :: kinds, mg x = some (.ref (He.ga K x)) := fun x hx => He.glo_ok KX G (cd.facts (mB (List.mem_map_of_mem (f := He.Fa.glo) hx)))
  have fr : ∀ x ∈ frees, mg x = none := fun x hx => He.free_ok KX G (cd.facts (List.mem_append_left _ (List.mem_map_of_mem (f := He.Fa.free) hx)))
  obtain ⟨m1, m2⟩ := He.ba c.more
  obtain ⟨n1, n2⟩ := He.ba m1
  obtain ⟨k1, k2⟩ := He.ba m2
  obtain ⟨kk, er⟩ := kinds_of (mg := mg) k1 gloE
  refine ⟨fun x i hx => ⟨?_, glo x i hx⟩, fr, ?_, kk, fun x hx => ?_, sys_of k2⟩
  · obtain ⟨fd, F⟩ := cd.defs (d := dG x i) (List.mem_append_left _ (List.mem_map_of_mem (f := fun z : Str × Nat => dG z.1 z.2) hx))
    exact ⟨fd, fun_of F⟩
  · refine ⟨fr _ (by decide), fr _ (by decide), He.int_ok KX G (cd.facts (List.mem_append_right _ (List.mem_append_left _ List.mem_cons_self))), ⟨_, He.glo_ok KX G (cd.facts (List.mem_append_right _ (List.mem_append_right _ (List.mem_append_right _ List.mem_cons_self)))), fun H => ?_⟩, He.int_ok KX G (cd.facts (List.mem_append_right _ (List.mem_append_left _ (List.mem_cons_of_mem _ List.mem_cons_self)))), PySem.W.mg_of KX G (He.eqO_ok n1)⟩
    have z := He.tupB_ok n2 H
    rw [List.map_map] at z
    exact z
  · obtain ⟨z, hz, e⟩ : ∃ z ∈ inits, z.1 = x := by
      have hx : x ∈ ([("InvalidPrime" : Str), "InvalidNumber", "InvalidVectors"] : List Str) := hx
      simp only [List.mem_cons, List.not_mem_nil, or_false] at hx
      rcases hx with rfl | rfl | rfl
      · exact ⟨_, List.mem_cons_self, rfl⟩
      · exact ⟨_, List.mem_cons_of_mem _ List.mem_cons_self, rfl⟩
      · exact ⟨_, List.mem_cons_of_mem _ (List.mem_cons_of_mem _ List.mem_cons_self), rfl⟩
    subst e
    obtain ⟨p1, p2, p3, q1, q2, q3, q4, e1, e2, e3⟩ := shapes z hz
    obtain ⟨fd, F⟩ := cd.defs (d := dI z.1 z.2.1 z.2.2) (List.mem_append_right _ (List.mem_map_of_mem (f := fun z : Str × Str × Nat => dI z.1 z.2.1 z.2.2) hz))
    have F2 : FunD K "__init__" z.2.1 (defArgs (initOf (topS z.2.2))) (defBody (initOf (topS z.2.2))) (defScope (initOf (topS z.2.2))) [.non] [] (He.ma K (He.ga K z.1) "__init__") fd := F
    rw [e1, e2, e3] at F2
    exact bad_of (gloE _ (List.mem_cons_of_mem _ hx)) (er _ hx) F2
theorem law_stands {f : Addr} {fd : FuncData} (S : Stands P w K mg base) (F : Fun K "law" "law" sLaw f fd) : FnG P w K mg base 12 f fd ["_law_script"] (spLaw K) := by
  obtain ⟨CP, eP⟩ : ∃ CP, CP = He.ga K "InvalidPrime" := ⟨_, rfl⟩
  obtain ⟨CN, eN⟩ : ∃ CN, CN = He.ga K "InvalidNumber" := ⟨_, rfl⟩
  obtain ⟨CV, eV⟩ : ∃ CV, CV = He.ga K "InvalidVectors" := ⟨_, rfl⟩
  have kinds' := S.kds
  have badP := S.bad "InvalidPrime" (by decide)
  have badN := S.bad "InvalidNumber" (by decide)
  have badV := S.bad "InvalidVectors" (by decide)
  rw [← eP, ← eN, ← eV] at kinds'
  rw [← eP] at badP
  rw [← eN] at badN
  rw [← eV] at badV
  obtain ⟨⟨_, F_is_count⟩, g_is_count⟩ := S.fn "is_count" 10 (by decide)
  obtain ⟨⟨_, F_is_number⟩, g_is_number⟩ := S.fn "is_number" 13 (by decide)
  obtain ⟨⟨_, F_is_factor⟩, g_is_factor⟩ := S.fn "is_factor" 14 (by decide)
  obtain ⟨⟨_, F_is_vector⟩, g_is_vector⟩ := S.fn "is_vector" 15 (by decide)
  obtain ⟨⟨_, F_is_vector_of⟩, g_is_vector_of⟩ := S.fn "is_vector_of" 16 (by decide)
  obtain ⟨⟨_, F_is_vectors⟩, g_is_vectors⟩ := S.fn "is_vectors" 17 (by decide)
  obtain ⟨⟨_, F_is_vectors_of⟩, g_is_vectors_of⟩ := S.fn "is_vectors_of" 18 (by decide)
  obtain ⟨⟨_, F_is_prime⟩, g_is_prime⟩ := S.fn "is_prime" 11 (by decide)
  obtain ⟨⟨_, F_require_prime⟩, g_require_prime⟩ := S.fn "require_prime" 12 (by decide)
  obtain ⟨⟨_, F_require_vectors⟩, g_require_vectors⟩ := S.fn "require_vectors" 33 (by decide)
  obtain ⟨⟨_, F_require_some_vectors⟩, g_require_some_vectors⟩ := S.fn "require_some_vectors" 34 (by decide)
  obtain ⟨⟨_, F_require_question⟩, g_require_question⟩ := S.fn "require_question" 39 (by decide)
  obtain ⟨⟨_, F_require_between⟩, g_require_between⟩ := S.fn "require_between" 45 (by decide)
  obtain ⟨⟨_, F_inverse_of⟩, g_inverse_of⟩ := S.fn "inverse_of" 20 (by decide)
  obtain ⟨⟨_, F_product_of⟩, g_product_of⟩ := S.fn "product_of" 21 (by decide)
  obtain ⟨⟨_, F_columns_of⟩, g_columns_of⟩ := S.fn "columns_of" 22 (by decide)
  obtain ⟨⟨_, F_added_up⟩, g_added_up⟩ := S.fn "added_up" 23 (by decide)
  obtain ⟨⟨_, F_pivot_row⟩, g_pivot_row⟩ := S.fn "pivot_row" 24 (by decide)
  obtain ⟨⟨_, F_clear_column⟩, g_clear_column⟩ := S.fn "clear_column" 25 (by decide)
  obtain ⟨⟨_, F_eliminated⟩, g_eliminated⟩ := S.fn "eliminated" 26 (by decide)
  obtain ⟨⟨_, F_basis_of⟩, g_basis_of⟩ := S.fn "basis_of" 27 (by decide)
  obtain ⟨⟨_, F_meeting⟩, g_meeting⟩ := S.fn "meeting" 28 (by decide)
  obtain ⟨⟨_, F_crossing⟩, g_crossing⟩ := S.fn "crossing" 29 (by decide)
  obtain ⟨⟨_, F_factors_for⟩, g_factors_for⟩ := S.fn "factors_for" 30 (by decide)
  obtain ⟨⟨_, F_middle_of⟩, g_middle_of⟩ := S.fn "middle_of" 31 (by decide)
  obtain ⟨⟨_, F_inverse⟩, g_inverse⟩ := S.fn "inverse" 35 (by decide)
  obtain ⟨⟨_, F_combined⟩, g_combined⟩ := S.fn "combined" 36 (by decide)
  obtain ⟨⟨_, F_reduced⟩, g_reduced⟩ := S.fn "reduced" 37 (by decide)
  obtain ⟨⟨_, F_rank⟩, g_rank⟩ := S.fn "rank" 38 (by decide)
  obtain ⟨⟨_, F_nothings⟩, g_nothings⟩ := S.fn "nothings" 44 (by decide)
  obtain ⟨⟨_, F_solved⟩, g_solved⟩ := S.fn "solved" 40 (by decide)
  obtain ⟨⟨_, F_barred⟩, g_barred⟩ := S.fn "barred" 42 (by decide)
  obtain ⟨⟨_, F_is_solved⟩, g_is_solved⟩ := S.fn "is_solved" 41 (by decide)
  obtain ⟨⟨_, F_is_barred⟩, g_is_barred⟩ := S.fn "is_barred" 43 (by decide)
  obtain ⟨⟨_, F_between⟩, g_between⟩ := S.fn "between" 46 (by decide)
  obtain ⟨⟨_, F_barred_between⟩, g_barred_between⟩ := S.fn "barred_between" 48 (by decide)
  obtain ⟨⟨_, F_is_between⟩, g_is_between⟩ := S.fn "is_between" 47 (by decide)
  obtain ⟨⟨_, F_is_barred_between⟩, g_is_barred_between⟩ := S.fn "is_barred_between" 49 (by decide)
  obtain ⟨⟨_, F__law_purses⟩, g__law_purses⟩ := S.fn "_law_purses" 54 (by decide)
  obtain ⟨⟨_, F__law_purse⟩, g__law_purse⟩ := S.fn "_law_purse" 51 (by decide)
  obtain ⟨⟨_, F__law_draw⟩, g__law_draw⟩ := S.fn "_law_draw" 53 (by decide)
  obtain ⟨⟨_, F__law_mixed⟩, g__law_mixed⟩ := S.fn "_law_mixed" 52 (by decide)
  obtain ⟨⟨_, F__law_numbers⟩, g__law_numbers⟩ := S.fn "_law_numbers" 55 (by decide)
  obtain ⟨⟨_, F__law_called⟩, g__law_called⟩ := S.fn "_law_called" 56 (by decide)
  obtain ⟨⟨_, F__law_once⟩, g__law_once⟩ := S.fn "_law_once" 57 (by decide)
  obtain ⟨⟨_, F__law_heard⟩, g__law_heard⟩ := S.fn "_law_heard" 58 (by decide)
  obtain ⟨⟨_, F__law_bad_vectors⟩, g__law_bad_vectors⟩ := S.fn "_law_bad_vectors" 59 (by decide)
  obtain ⟨⟨_, F__law_firsts_right⟩, g__law_firsts_right⟩ := S.fn "_law_firsts_right" 60 (by decide)
  obtain ⟨⟨_, F__law_lasts_right⟩, g__law_lasts_right⟩ := S.fn "_law_lasts_right" 61 (by decide)
  have f_ValueError := S.free "ValueError" (by decide)
  have f_all := S.free "all" (by decide)
  have f_any := S.free "any" (by decide)
  have f_int := S.free "int" (by decide)
  have f_isinstance := S.free "isinstance" (by decide)
  have f_len := S.free "len" (by decide)
  have f_list := S.free "list" (by decide)
  have f_max := S.free "max" (by decide)
  have f_min := S.free "min" (by decide)
  have f_range := S.free "range" (by decide)
  have f_repr := S.free "repr" (by decide)
  have f_sum := S.free "sum" (by decide)
  have f_tuple := S.free "tuple" (by decide)
  have f_type := S.free "type" (by decide)
  have f_zip := S.free "zip" (by decide)
  have G_is_count : FnOk P w K mg base CX0 1 _ _ ["value"] spCountD := ok_countD F_is_count f_type f_int
  have G_is_number : FnOk P w K mg base CX0 2 _ _ ["prime", "value"] spNumD := ok_numD F_is_number F_is_count G_is_count g_is_count
  have G_is_factor : FnOk P w K mg base CX0 3 _ _ ["prime", "value"] spFacD := ok_facD F_is_factor F_is_number G_is_number g_is_number
  have G_is_vector : FnOk P w K mg base CX0 3 _ _ ["prime", "value"] spVecD := ok_vecD F_is_vector F_is_number G_is_number g_is_number f_type f_list f_all
  have G_is_vector_of : FnOk P w K mg base CX0 4 _ _ ["prime", "value", "length"] spVecOfD := ok_vecOfD F_is_vector_of F_is_vector G_is_vector g_is_vector f_len
  have G_is_vectors : FnOk P w K mg base CX0 4 _ _ ["prime", "value"] spVecsD := ok_vecsD F_is_vectors F_is_vector G_is_vector g_is_vector f_type f_list f_all f_len
  have G_is_vectors_of : FnOk P w K mg base CX0 5 _ _ ["prime", "value", "many", "length"] spVecsOfD := ok_vecsOfD F_is_vectors_of F_is_vector_of G_is_vector_of g_is_vector_of f_type f_list f_all f_len
  have G_is_prime : FnOk P w K mg base CX0 1 _ _ ["value"] spPrimeD := ok_primeD F_is_prime S.prim
  have G_require_prime : FnOk P w K mg base (L2.CX P w) 3 _ _ ["prime"] (spReqPX CP) := ok_reqPX badP F_require_prime F_is_prime G_is_prime g_is_prime
  have G_require_vectors : FnOk P w K mg base (L2.CX P w) 5 _ _ ["prime", "vectors"] (spReqVX CV) := ok_reqVX badV F_require_vectors F_is_vectors G_is_vectors g_is_vectors
  have G_require_some_vectors : FnOk P w K mg base (L2.CX P w) 5 _ _ ["prime", "vectors"] (spReqSX CV) := ok_reqSX badV F_require_some_vectors F_is_vectors G_is_vectors g_is_vectors
  have G_require_question : FnOk P w K mg base (L2.CX P w) 6 _ _ ["prime", "vectors", "wanted"] (spReqQX CP CN CV) := ok_reqQX (CP := CP) (CN := CN) (CV := CV) badV F_require_question F_require_prime G_require_prime g_require_prime F_require_vectors G_require_vectors g_require_vectors F_is_vector G_is_vector g_is_vector f_len
  have G_require_between : FnOk P w K mg base (L2.CX P w) 6 _ _ ["prime", "first", "second", "wanted"] (spReqBX CP CN CV) := ok_reqBX (CP := CP) (CN := CN) (CV := CV) badV F_require_between F_require_prime G_require_prime g_require_prime F_require_some_vectors G_require_some_vectors g_require_some_vectors F_is_vectors_of G_is_vectors_of g_is_vectors_of f_len
  have G_inverse_of : FnOk P w K mg base CX0 1 _ _ ["prime", "number"] spInvOf := ok_invOf F_inverse_of
  have G_product_of : FnOk P w K mg base CX0 1 _ _ ["prime", "one", "other"] spProd := ok_prod F_product_of f_sum f_zip
  have G_columns_of : FnOk P w K mg base CX0 1 _ _ ["vectors", "length"] spCols := ok_cols F_columns_of f_range f_zip f_list
  have G_added_up : FnOk P w K mg base CX0 1 _ _ ["prime", "vectors", "factors", "length"] spAdd := ok_add F_added_up f_zip
  have G_pivot_row : FnOk P w K mg base CX0 1 _ _ ["table", "start", "place"] spPivot := ok_pivot F_pivot_row f_range f_len
  have G_clear_column : FnOk P w K mg base CX0 2 _ _ ["prime", "table", "at", "place"] spClear := ok_clear F_clear_column F_inverse_of G_inverse_of g_inverse_of f_range f_len f_zip
  have G_eliminated : FnOk P w K mg base CX0 3 _ _ ["prime", "vectors", "width"] spElim := ok_elim F_eliminated F_pivot_row G_pivot_row g_pivot_row F_clear_column G_clear_column g_clear_column f_range f_len f_list
  have G_basis_of : FnOk P w K mg base CX0 4 _ _ ["prime", "vectors"] spBas := ok_bas F_basis_of F_eliminated G_eliminated g_eliminated f_len
  have G_meeting : FnOk P w K mg base CX0 4 _ _ ["prime", "vectors", "aims", "length"] spMeet := ok_meet F_meeting F_eliminated G_eliminated g_eliminated f_len f_zip f_any
  have G_crossing : FnOk P w K mg base CX0 5 _ _ ["prime", "vectors", "length"] spCross := ok_cross F_crossing F_eliminated G_eliminated g_eliminated F_basis_of G_basis_of g_basis_of f_range f_zip
  have G_factors_for : FnOk P w K mg base CX0 5 _ _ ["prime", "vectors", "wanted"] spFactors := ok_factors F_factors_for F_meeting G_meeting g_meeting F_columns_of G_columns_of g_columns_of f_len
  have G_middle_of : FnOk P w K mg base CX0 6 _ _ ["prime", "first", "second", "wanted", "inner", "outer"] spMid := ok_mid F_middle_of F_meeting G_meeting g_meeting F_factors_for G_factors_for g_factors_for F_columns_of G_columns_of g_columns_of f_any
  have G_inverse : FnOk P w K mg base (L2.CX P w) 4 _ _ ["prime", "number"] (spInvX CP CN CV) := ok_invX (CP := CP) (CN := CN) (CV := CV) badN F_inverse F_require_prime G_require_prime g_require_prime F_is_factor G_is_factor g_is_factor F_inverse_of G_inverse_of g_inverse_of
  have G_combined : FnOk P w K mg base (L2.CX P w) 6 _ _ ["prime", "vectors", "factors"] (spCombX CP CN CV) := ok_combX (CP := CP) (CN := CN) (CV := CV) badV F_combined F_require_prime G_require_prime g_require_prime F_require_some_vectors G_require_some_vectors g_require_some_vectors F_is_vector_of G_is_vector_of g_is_vector_of F_added_up G_added_up g_added_up f_len
  have G_reduced : FnOk P w K mg base (L2.CX P w) 6 _ _ ["prime", "vectors"] (spRedX CP CN CV) := ok_redX (CP := CP) (CN := CN) (CV := CV) F_reduced F_require_prime G_require_prime g_require_prime F_require_vectors G_require_vectors g_require_vectors F_basis_of G_basis_of g_basis_of
  have G_rank : FnOk P w K mg base (L2.CX P w) 7 _ _ ["prime", "vectors"] (spRankX CP CN CV) := ok_rankX (CP := CP) (CN := CN) (CV := CV) F_rank F_reduced G_reduced g_reduced f_len
  have G_nothings : FnOk P w K mg base (L2.CX P w) 6 _ _ ["prime", "vectors"] (spNoth CP CN CV) := ok_noth (CP := CP) (CN := CN) (CV := CV) F_nothings F_require_prime G_require_prime g_require_prime F_require_vectors G_require_vectors g_require_vectors F_crossing G_crossing g_crossing F_columns_of G_columns_of g_columns_of f_len
  have G_solved : FnOk P w K mg base (L2.CX P w) 7 _ _ ["prime", "vectors", "wanted"] (spSolved CP CN CV) := ok_solved (CP := CP) (CN := CN) (CV := CV) F_solved F_require_question G_require_question g_require_question F_factors_for G_factors_for g_factors_for
  have G_barred : FnOk P w K mg base (L2.CX P w) 7 _ _ ["prime", "vectors", "wanted"] (spBarred CP CN CV) := ok_barred (CP := CP) (CN := CN) (CV := CV) F_barred F_require_question G_require_question g_require_question F_meeting G_meeting g_meeting f_len
  have G_is_solved : FnOk P w K mg base (L2.CX P w) 7 _ _ ["prime", "vectors", "wanted", "value"] (spJudge isSol CP CN CV) := ok_isSol (CP := CP) (CN := CN) (CV := CV) F_is_solved F_require_question G_require_question g_require_question F_is_vector_of G_is_vector_of g_is_vector_of F_added_up (G_added_up.mono (by decide)) g_added_up f_len
  have G_is_barred : FnOk P w K mg base (L2.CX P w) 7 _ _ ["prime", "vectors", "wanted", "value"] (spJudge isBar CP CN CV) := ok_isBar (CP := CP) (CN := CN) (CV := CV) F_is_barred F_require_question G_require_question g_require_question F_is_vector_of G_is_vector_of g_is_vector_of F_product_of G_product_of g_product_of f_len f_any
  have G_between : FnOk P w K mg base (L2.CX P w) 7 _ _ ["prime", "first", "second", "wanted"] (spB aBetw CP CN CV) := ok_betw (CP := CP) (CN := CN) (CV := CV) F_between F_require_between G_require_between g_require_between F_middle_of G_middle_of g_middle_of f_len
  have G_barred_between : FnOk P w K mg base (L2.CX P w) 7 _ _ ["prime", "first", "second", "wanted"] (spB aBarB CP CN CV) := ok_barB (CP := CP) (CN := CN) (CV := CV) F_barred_between F_require_between G_require_between g_require_between F_crossing G_crossing g_crossing F_added_up (G_added_up.mono (by decide)) g_added_up F_product_of G_product_of g_product_of F_columns_of G_columns_of g_columns_of f_len f_any
  have G_is_between : FnOk P w K mg base (L2.CX P w) 7 _ _ ["prime", "first", "second", "wanted", "value"] (spBJ isBet (fun _ => True) CP CN CV) := ok_isBet (CP := CP) (CN := CN) (CV := CV) F_is_between F_require_between G_require_between g_require_between F_is_vectors_of G_is_vectors_of g_is_vectors_of F_added_up (G_added_up.mono (by decide)) g_added_up f_len
  have G_is_barred_between : FnOk P w K mg base (L2.CX P w) 7 _ _ ["prime", "first", "second", "wanted", "value"] (spBJ (fun _ _ _ _ _ => false) (fun d => tyD d ≠ "tuple") CP CN CV) := ok_isBarB0 (CP := CP) (CN := CN) (CV := CV) F_is_barred_between F_require_between G_require_between g_require_between f_type f_tuple f_len
  have G__law_purses : FnOk P w K mg base CX0 2 _ _ ["_law_script", "_law_few"] (spPurses K) := ok_purses F__law_purses F__law_purse g__law_purse f_sum f_max f_min f_range f_len
  have G__law_draw : FnOk P w K mg base CX0 2 _ _ ["_law_purse_here", "_law_many"] spDraw := ok_draw F__law_draw F__law_mixed g__law_mixed f_range
  have G__law_numbers : FnOk P w K mg base CX0 3 _ _ ["_law_purse_here", "_law_the_prime", "_law_many"] spNums := ok_nums F__law_numbers F__law_draw G__law_draw g__law_draw f_range
  have DK : DoorsK P w K mg base CP CN CV := ⟨doorK_of F_inverse G_inverse g_inverse (by decide) (F_inverse.binds fun _ _ _ _ _ _ us hl => match us, hl with | [_, _], _ => rfl) (rev_of F_inverse fun _ _ _ _ _ _ ws hl => match ws, hl with | [_, _], _ => rfl),
    doorK_of F_reduced G_reduced g_reduced (by decide) (F_reduced.binds fun _ _ _ _ _ _ us hl => match us, hl with | [_, _], _ => rfl) (rev_of F_reduced fun _ _ _ _ _ _ ws hl => match ws, hl with | [_, _], _ => rfl),
    doorK_of F_rank G_rank g_rank (by decide) (F_rank.binds fun _ _ _ _ _ _ us hl => match us, hl with | [_, _], _ => rfl) (rev_of F_rank fun _ _ _ _ _ _ ws hl => match ws, hl with | [_, _], _ => rfl),
    doorK_of F_nothings G_nothings g_nothings (by decide) (F_nothings.binds fun _ _ _ _ _ _ us hl => match us, hl with | [_, _], _ => rfl) (rev_of F_nothings fun _ _ _ _ _ _ ws hl => match ws, hl with | [_, _], _ => rfl),
    doorK_of F_combined G_combined g_combined (by decide) (F_combined.binds fun _ _ _ _ _ _ us hl => match us, hl with | [_, _, _], _ => rfl) (rev_of F_combined fun _ _ _ _ _ _ ws hl => match ws, hl with | [_, _, _], _ => rfl),
    doorK_of F_solved G_solved g_solved (by decide) (F_solved.binds fun _ _ _ _ _ _ us hl => match us, hl with | [_, _, _], _ => rfl) (rev_of F_solved fun _ _ _ _ _ _ ws hl => match ws, hl with | [_, _, _], _ => rfl),
    doorK_of F_barred G_barred g_barred (by decide) (F_barred.binds fun _ _ _ _ _ _ us hl => match us, hl with | [_, _, _], _ => rfl) (rev_of F_barred fun _ _ _ _ _ _ ws hl => match ws, hl with | [_, _, _], _ => rfl),
    doorK_of F_is_solved G_is_solved g_is_solved (by decide) (F_is_solved.binds fun _ _ _ _ _ _ us hl => match us, hl with | [_, _, _, _], _ => rfl) (rev_of F_is_solved fun _ _ _ _ _ _ ws hl => match ws, hl with | [_, _, _, _], _ => rfl),
    doorK_of F_is_barred G_is_barred g_is_barred (by decide) (F_is_barred.binds fun _ _ _ _ _ _ us hl => match us, hl with | [_, _, _, _], _ => rfl) (rev_of F_is_barred fun _ _ _ _ _ _ ws hl => match ws, hl with | [_, _, _, _], _ => rfl),
    doorK_of F_between G_between g_between (by decide) (F_between.binds fun _ _ _ _ _ _ us hl => match us, hl with | [_, _, _, _], _ => rfl) (rev_of F_between fun _ _ _ _ _ _ ws hl => match ws, hl with | [_, _, _, _], _ => rfl),
    doorK_of F_barred_between G_barred_between g_barred_between (by decide) (F_barred_between.binds fun _ _ _ _ _ _ us hl => match us, hl with | [_, _, _, _], _ => rfl) (rev_of F_barred_between fun _ _ _ _ _ _ ws hl => match ws, hl with | [_, _, _, _], _ => rfl),
    doorK_of F_is_between G_is_between g_is_between (by decide) (F_is_between.binds fun _ _ _ _ _ _ us hl => match us, hl with | [_, _, _, _, _], _ => rfl) (rev_of F_is_between fun _ _ _ _ _ _ ws hl => match ws, hl with | [_, _, _, _, _], _ => rfl),
    doorK_of F_is_barred_between G_is_barred_between g_is_barred_between (by decide) (F_is_barred_between.binds fun _ _ _ _ _ _ us hl => match us, hl with | [_, _, _, _, _], _ => rfl) (rev_of F_is_barred_between fun _ _ _ _ _ _ ws hl => match ws, hl with | [_, _, _, _, _], _ => rfl)⟩
  have G__law_called : FnOk P w K mg base (L2.CX P w) 8 _ _ ["_law_door", "_law_given"] (spCalled CP CN CV) := ok_called (CP := CP) (CN := CN) (CV := CV) F__law_called DK.low
  have G__law_once : FnOk P w K mg base CX0 9 _ _ ["_law_door", "_law_given"] spOnce := ok_once (CP := CP) (CN := CN) (CV := CV) F__law_once kinds' F__law_called G__law_called g__law_called f_isinstance f_ValueError
  have G__law_heard : FnOk P w K mg base CX0 10 _ _ ["_law_door", "_law_given"] spOnce := ok_heard F__law_heard F__law_once G__law_once g__law_once
  have G__law_bad_vectors : FnOk P w K mg base CX0 1 _ _ ["_law_good"] spBadV := ok_badV F__law_bad_vectors f_tuple
  have G__law_firsts_right : FnG P w K mg base 11 _ _ ["_law_good"] spFirsts := ok_firsts F__law_firsts_right F__law_heard G__law_heard g__law_heard F__law_bad_vectors G__law_bad_vectors g__law_bad_vectors f_range f_repr S.sy
  have G__law_lasts_right : FnOk P w K mg base CX0 11 _ _ ["_law_good"] spFirsts := ok_lasts F__law_lasts_right F__law_heard G__law_heard g__law_heard F__law_bad_vectors G__law_bad_vectors g__law_bad_vectors f_range
  exact ok_law (CP := CP) (CN := CN) (CV := CV) F DK F__law_purses G__law_purses g__law_purses F__law_numbers G__law_numbers g__law_numbers F__law_firsts_right G__law_firsts_right g__law_firsts_right F__law_lasts_right G__law_lasts_right g__law_lasts_right F__law_heard G__law_heard g__law_heard f_range f_list
end
theorem law_end {P : Program} {w : World} {mg mb : Str → Option Value} {fa a : Addr} {s1 : Shared} {vs : List Value} {ns : List Int} (Y : hk.says w s1.heap) (hmg : mg ("law" : Str) = some (.ref fa))
    (gm : s1.heap.Ns mainGlobals mg) (gb : s1.heap.Ns builtinsNs mb) (bb : ∀ x : Str, x ≠ "__name__" → mb x = bootBuiltins x) (lim : s1.heap.NoLimit) (gn : s1.gens = #[])
    (ha : s1.heap.get? a = some { cls := .type "list", data := .seq vs.toArray }) (hi : IntsAre vs ns) (hl : ns.length ≤ 63) :
    codeAny (model P w) callerA (.call (.ref fa) ⟨[.ref a], []⟩) (fun r s' => r = .ok (.ret (.bool true)) ∧ OldK s1.heap s'.heap ∧ s'.os = s1.os ∧ AllBare s'.gens) s1 := by
  obtain ⟨K, KX, c⟩ := Y
  have cd : He.SaysD Vb.fa fn K := c.t.d
  have S : ∀ base : Heap, Stands P w K mg base := fun base => stands_of gm KX c
  obtain ⟨fd, F⟩ := cd.defs (d := dG "law" 62) (List.mem_append_left _ (List.mem_map_of_mem (f := fun z : Str × Nat => dG z.1 z.2) (a := (("law" : Str), 62)) (by decide)))
  have g := ((S s1.heap).fn "law" 62 (by decide)).2
  have e := hmg.symm.trans g
  obtain rfl : fa = He.ga K "law" := by
    cases e
    rfl
  have b := FunD.bindsA (ps := ["_law_script"]) F fun _ _ _ _ _ _ us hl => match us, hl with | [_], _ => rfl
  exact topG (k := 12) (sp := spLaw K) KX gm gb bb lim gn ha hi (Nat.le_trans hl (by decide)) ⟨rfl, by decide, by decide⟩ (fun base _ _ => law_stands (S base) (fun_of F)) (fun s v => b s [v] rfl) fun H hS => ⟨a, ns, rfl, hS, hl, fun _ => rfl⟩
end Vb
end L2
open PySem PySem.W PySem.Calls PyProof.Rows
theorem PySem.Challenge.cw_truestops_k04_numbers_refused_and_by_nam_holds : PySem.Challenge.rw_truestops_k04_numbers_refused_and_by_nam.Holds := by
  w_on; o_law
  refine HandSHeadRun.head_imp (r := OpenLaw.row PySem.Challenge.rw_truestops_k04_numbers_refused_and_by_nam) (q := view (OpenLaw.row PySem.Challenge.rw_truestops_k04_numbers_refused_and_by_nam).prog [0, 62]) (H := L2.Vb.hk) (ob := L2.Vb.ob) (M := 40000) (loose := L2.Vb.loose) (d := HandSHeadRun.topDef (OpenLaw.row PySem.Challenge.rw_truestops_k04_numbers_refused_and_by_nam).prog 62) (kwd := []) L2.Vb.ob_eq
    L2.Vb.run (by kernel_rfl) (by kernel_rfl) (by kernel_rfl) (by rfl) (by first | assumption | decide +kernel) (by decide +kernel) ⟨rfl, rfl, rfl, rfl, rfl, by decide +kernel⟩ ?hw ?hc
  case hw => w_witness2
  case hc =>
    refine Att.attach_call (l := PySem.Challenge.rw_truestops_k04_numbers_refused_and_by_nam) (n := 63) rfl (by kernel_rfl) fun w s₀ s₁ mg mb fa o pm cd doc a vs ns G Y ho hd hcd hmg hobj hints hlen hg => ?_
    have e : (HandSHeadRun.topDef (OpenLaw.row PySem.Challenge.rw_truestops_k04_numbers_refused_and_by_nam).prog 62).name = ("law" : PySem.Str) := by kernel_rfl
    rw [e] at hmg
    exact L2.Vb.law_end Y hmg G.T.g G.T.b G.T.builtins G.T.nolimit hg hobj hints hlen
