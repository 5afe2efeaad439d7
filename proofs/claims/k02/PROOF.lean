import PyProof.Rows.All
import Wide.All
import OpenK.AllK
import Wide.FinOn
import KE.KStateDown
import Lean
import HandS.ForMost
import HandS.Exc
import HandS.ExcInit
import HandS.ExcIs
import HandS.IsInst
import HandS.Defaults
import HandS.Head0
import HandS.Head1
import HandS.Head2
import HandS.Head3
import HandS.HeadEnd
import HandS.HeadHook1
import HandS.HeadHook2
import HandS.HeadHook3
import HandS.HeadHook4
import PySem.Challenge.RW_truestops_k02_whole_bases
import KE.SortData
import HandS.SortInts
import KE.KMathG
import HandS.WideBits
import HandS.Wide
import HandS.Flow
import HandS.More
import HandS.Codes
import HandS.Text
import HandS.Walk
import KE.Datum
import HandS.SetFor
import HandS.Strs
import PyProof.Rows.NestFoldShow
import PyProof.StrLawsRepr
import PyProof.ReprLen
set_option Elab.async false
set_option linter.all false
/-! LinA: rows over a field, what they span, reduced rows: their shape is one alone. Rows are functions of the place. -/
namespace LinA
open Lean.Grind
universe u
variable {K : Type u} [CommRing K]
abbrev Row (K : Type u) : Type u := Nat → K
def zr : Row K := fun _ => 0
/-- c times v, and w -/
def ax (c : K) (v w : Row K) : Row K := fun j => c * v j + w j
/-- what rows span; the order of the rows doesn't matter -/
inductive Span (S : List (Row K)) : Row K → Prop
  | zero : Span S zr
  | add (c : K) (v w : Row K) : v ∈ S → Span S w → Span S (ax c v w)
theorem Span.mem {S : List (Row K)} {v : Row K} (h : v ∈ S) : Span S v := by
  have e : v = ax 1 v zr := by
    funext j
    show v j = 1 * v j + 0
    grind
  rw [e]
  exact .add 1 v zr h .zero
theorem Span.ax {S : List (Row K)} {v w : Row K} (c : K) (hv : Span S v) (hw : Span S w) : Span S (ax c v w) := by
  induction hv with
  | zero =>
    have e : LinA.ax c zr w = w := by
      funext j
      show c * 0 + w j = w j
      grind
    rw [e]
    exact hw
  | add d v1 w1 m1 h1 ih =>
    have e : LinA.ax c (LinA.ax d v1 w1) w = LinA.ax (c * d) v1 (LinA.ax c w1 w) := by
      funext j
      show c * (d * v1 j + w1 j) + w j = c * d * v1 j + (c * w1 j + w j)
      grind
    rw [e]
    exact .add _ _ _ m1 ih
theorem Span.sub {S T : List (Row K)} (h : ∀ v ∈ S, Span T v) {v : Row K} (hv : Span S v) : Span T v := by
  induction hv with
  | zero => exact .zero
  | add c v w m h1 ih => exact .ax c (h v m) ih
theorem Span.mono {S T : List (Row K)} (h : ∀ v ∈ S, v ∈ T) {v : Row K} (hv : Span S v) : Span T v := hv.sub fun v m => .mem (h v m)
/-- two lists of rows span the same -/
def Same (S T : List (Row K)) : Prop := ∀ v, Span S v ↔ Span T v
theorem Same.of {S T : List (Row K)} (h1 : ∀ v ∈ S, Span T v) (h2 : ∀ v ∈ T, Span S v) : Same S T := fun _ => ⟨fun h => h.sub h1, fun h => h.sub h2⟩
theorem Same.rfl {S : List (Row K)} : Same S S := fun _ => Iff.rfl
theorem Same.symm {S T : List (Row K)} (h : Same S T) : Same T S := fun v => (h v).symm
theorem Same.trans {S T U : List (Row K)} (h : Same S T) (k : Same T U) : Same S U := fun v => (h v).trans (k v)
theorem Same.perm {S T : List (Row K)} (h : S.Perm T) : Same S T := fun _ => ⟨fun z => z.mono fun _ m => h.mem_iff.mp m, fun z => z.mono fun _ m => h.mem_iff.mpr m⟩
/-- more rows out of the span change nothing -/
theorem Same.more {S T : List (Row K)} (h : ∀ v ∈ T, Span S v) : Same (S ++ T) S := .of (fun v m => (List.mem_append.mp m).elim .mem (h v)) fun _ m => .mem (List.mem_append_left _ m)
/-! ### reduced rows, each with its top -/
abbrev Tops (K : Type u) : Type u := List (Row K × Nat)
structure Rref (P : Tops K) : Prop where
  one : ∀ x ∈ P, x.1 x.2 = 1
  low : ∀ x ∈ P, ∀ j, j < x.2 → x.1 j = 0
  two : P.Pairwise fun x y => x.2 < y.2 ∧ x.1 y.2 = 0
abbrev rows (P : Tops K) : List (Row K) := P.map (·.1)
abbrev tops (P : Tops K) : List Nat := P.map (·.2)
theorem Rref.tail {x : Row K × Nat} {P : Tops K} (h : Rref (x :: P)) : Rref P := ⟨fun y m => h.one y (List.mem_cons_of_mem _ m), fun y m => h.low y (List.mem_cons_of_mem _ m), (List.pairwise_cons.mp h.two).2⟩
/-- at another's top a row is 0 -/
theorem Rref.off {P : Tops K} (h : Rref P) : ∀ x ∈ P, ∀ y ∈ P, x.2 ≠ y.2 → x.1 y.2 = 0 := by
  induction P with
  | nil => exact fun x m => (List.not_mem_nil m).elim
  | cons z P ih =>
    intro x mx y my ne
    obtain ⟨h1, h2⟩ := List.pairwise_cons.mp h.two
    rcases List.mem_cons.mp mx with qx | qx
    · rcases List.mem_cons.mp my with qy | qy
      · exact absurd (by rw [qx, qy]) ne
      · rw [qx]
        exact (h1 y qy).2
    · rcases List.mem_cons.mp my with qy | qy
      · rw [qy]
        exact h.low x (List.mem_cons_of_mem _ qx) _ (h1 x qx).1
      · exact ih h.tail x qx y qy ne
/-- the same top, the same row -/
theorem Rref.inj {P : Tops K} (h : Rref P) : ∀ x ∈ P, ∀ y ∈ P, x.2 = y.2 → x = y := by
  induction P with
  | nil => exact fun x m => (List.not_mem_nil m).elim
  | cons z P ih =>
    intro x mx y my e
    obtain ⟨h1, h2⟩ := List.pairwise_cons.mp h.two
    rcases List.mem_cons.mp mx with qx | qx
    · rcases List.mem_cons.mp my with qy | qy
      · rw [qx, qy]
      · have z1 := (h1 y qy).1
        rw [qx] at e
        omega
    · rcases List.mem_cons.mp my with qy | qy
      · have z1 := (h1 x qx).1
        rw [qy] at e
        omega
      · exact ih h.tail x qx y qy e
/-- v's numbers at the tops, put onto the rows -/
def coord (v : Row K) : Tops K → Row K
  | [] => zr
  | x :: P => ax (v x.2) x.1 (coord v P)
theorem coord_zero (P : Tops K) : coord (zr : Row K) P = zr := by
  induction P with
  | nil => rfl
  | cons x P ih =>
    funext j
    show (0 : K) * x.1 j + coord zr P j = 0
    rw [ih]
    show (0 : K) * x.1 j + 0 = 0
    grind
theorem coord_ax (c : K) (v w : Row K) (P : Tops K) : coord (ax c v w) P = ax c (coord v P) (coord w P) := by
  induction P with
  | nil =>
    funext j
    show (0 : K) = c * 0 + 0
    grind
  | cons x P ih =>
    funext j
    show (c * v x.2 + w x.2) * x.1 j + coord (ax c v w) P j = c * (v x.2 * x.1 j + coord v P j) + (w x.2 * x.1 j + coord w P j)
    rw [ih]
    show (c * v x.2 + w x.2) * x.1 j + (c * coord v P j + coord w P j) = _
    grind
/-- only the numbers at the tops count -/
theorem coord_congr {v w : Row K} {P : Tops K} (h : ∀ x ∈ P, v x.2 = w x.2) : coord v P = coord w P := by
  induction P with
  | nil => rfl
  | cons x P ih =>
    show ax (v x.2) x.1 (coord v P) = ax (w x.2) x.1 (coord w P)
    rw [h x List.mem_cons_self, ih fun y m => h y (List.mem_cons_of_mem _ m)]
theorem coord_none {v : Row K} {P : Tops K} (h : ∀ x ∈ P, v x.2 = 0) : coord v P = zr := by
  rw [coord_congr (w := zr) h, coord_zero]
theorem coord_mem {P : Tops K} (h : Rref P) : ∀ x ∈ P, coord x.1 P = x.1 := by
  induction P with
  | nil => exact fun x m => (List.not_mem_nil m).elim
  | cons z P ih =>
    intro x mx
    obtain ⟨h1, h2⟩ := List.pairwise_cons.mp h.two
    rcases List.mem_cons.mp mx with qx | qx
    · rw [qx]
      show ax (z.1 z.2) z.1 (coord z.1 P) = z.1
      rw [coord_none fun y m => (h1 y m).2, h.one z List.mem_cons_self]
      funext j
      show 1 * z.1 j + 0 = z.1 j
      grind
    · show ax (x.1 z.2) z.1 (coord x.1 P) = x.1
      rw [ih h.tail x qx, h.low x mx _ (h1 x qx).1]
      funext j
      show 0 * z.1 j + x.1 j = x.1 j
      grind
/-- what reduced rows span is told by its numbers at the tops -/
theorem span_coord {P : Tops K} (h : Rref P) {v : Row K} (hv : Span (rows P) v) : coord v P = v := by
  induction hv with
  | zero => exact coord_zero P
  | add c v w m hw ih =>
    obtain ⟨x, mx, rfl⟩ := List.mem_map.mp m
    rw [coord_ax, ih, coord_mem h x mx]
theorem coord_span (v : Row K) : ∀ P Q : Tops K, (∀ x ∈ P, x ∈ Q) → Span (rows Q) (coord v P)
  | [], _, _ => .zero
  | x :: P, Q, h => .add _ _ _ (List.mem_map_of_mem (f := fun x : Row K × Nat => x.1) (h x List.mem_cons_self)) (coord_span v P Q fun y m => h y (List.mem_cons_of_mem _ m))
/-- the first place where it isn't 0 -/
def Lead (v : Row K) (t : Nat) : Prop := v t ≠ 0 ∧ ∀ j, j < t → v j = 0
theorem Lead.uniq {v : Row K} {s t : Nat} (h : Lead v s) (k : Lead v t) : s = t := by
  rcases Nat.lt_trichotomy s t with q | q | q
  · exact absurd (k.2 s q) h.1
  · exact q
  · exact absurd (h.2 t q) k.1
theorem coord_low {v : Row K} {j : Nat} : ∀ {P : Tops K}, (∀ x ∈ P, v x.2 = 0 ∨ x.1 j = 0) → coord v P j = 0
  | [], _ => rfl
  | x :: P, h => by
    show v x.2 * x.1 j + coord v P j = 0
    rw [coord_low fun y m => h y (List.mem_cons_of_mem _ m)]
    rcases h x List.mem_cons_self with q | q
    · rw [q]
      grind
    · rw [q]
      grind
/-- the first place of what is spanned is a top -/
theorem lead_top {P : Tops K} (h : Rref P) {v : Row K} (hv : Span (rows P) v) {t : Nat} (l : Lead v t) : t ∈ tops P := by
  have e := span_coord h hv
  refine Classical.byContradiction fun no => l.1 ?_
  rw [← e]
  refine coord_low fun x m => ?_
  rcases Nat.lt_trichotomy x.2 t with q | q | q
  · exact .inl (l.2 _ q)
  · exact absurd (List.mem_map.mpr ⟨x, m, q⟩) no
  · exact .inr (h.low x m t q)
theorem Rref.lead {P : Tops K} (h : Rref P) (h01 : (1 : K) ≠ 0) {x : Row K × Nat} (m : x ∈ P) : Lead x.1 x.2 := ⟨by rw [h.one x m]; exact h01, h.low x m⟩
theorem tops_sub {P Q : Tops K} (hP : Rref P) (hQ : Rref Q) (h01 : (1 : K) ≠ 0) (s : ∀ v, Span (rows P) v → Span (rows Q) v) : ∀ t ∈ tops P, t ∈ tops Q := fun t m => by
  obtain ⟨x, mx, rfl⟩ := List.mem_map.mp m
  exact lead_top hQ (s _ (.mem (List.mem_map_of_mem (f := fun x : Row K × Nat => x.1) mx))) (hP.lead h01 mx)
theorem tops_nodup {P : Tops K} (h : Rref P) : (tops P).Nodup := by
  have z : P.Pairwise fun x y => x.2 ≠ y.2 := h.two.imp fun q => Nat.ne_of_lt q.1
  exact List.Pairwise.map _ (fun _ _ q => q) z
theorem nodup_len {a b : List Nat} (n : a.Nodup) (h : ∀ x ∈ a, x ∈ b) : a.length ≤ b.length := by
  induction a generalizing b with
  | nil => exact Nat.zero_le _
  | cons x a ih =>
    obtain ⟨n1, n2⟩ := List.nodup_cons.mp n
    have mx := h x List.mem_cons_self
    have z := ih (b := b.erase x) n2 fun y my => (List.mem_erase_of_ne (a := y) (b := x) fun q => n1 (by rw [← q]; exact my)).mpr (h y (List.mem_cons_of_mem _ my))
    rw [List.length_erase_of_mem mx] at z
    have p := List.length_pos_of_mem mx
    show a.length + 1 ≤ b.length
    omega
/-- fewer spanned, fewer rows -/
theorem rank_le {P Q : Tops K} (hP : Rref P) (hQ : Rref Q) (h01 : (1 : K) ≠ 0) (s : ∀ v, Span (rows P) v → Span (rows Q) v) : P.length ≤ Q.length := by
  have z := nodup_len (tops_nodup hP) (tops_sub hP hQ h01 s)
  simpa using z
theorem mem_of_same {P Q : Tops K} (hP : Rref P) (hQ : Rref Q) (h01 : (1 : K) ≠ 0) (s : Same (rows P) (rows Q)) : ∀ x ∈ P, x ∈ Q := fun x mx => by
  obtain ⟨y, my, ey⟩ := List.mem_map.mp (tops_sub hP hQ h01 (fun v => (s v).mp) x.2 (List.mem_map_of_mem (f := fun x : Row K × Nat => x.2) mx))
  have sy : Span (rows P) y.1 := (s _).mpr (.mem (List.mem_map_of_mem (f := fun x : Row K × Nat => x.1) my))
  have e : y.1 = x.1 := by
    rw [← span_coord hP sy, ← coord_mem hP x mx]
    refine coord_congr fun z mz => ?_
    obtain ⟨u, mu, eu⟩ := List.mem_map.mp (tops_sub hP hQ h01 (fun v => (s v).mp) z.2 (List.mem_map_of_mem (f := fun x : Row K × Nat => x.2) mz))
    by_cases q : z.2 = x.2
    · rw [hP.inj z mz x mx q, hP.one x mx, ← ey]
      exact hQ.one y my
    · rw [hP.off x mx z mz (Ne.symm q), ← eu]
      exact hQ.off y my u mu fun w => q (by rw [← eu, ← ey, w])
  have e2 : x = y := Prod.ext e.symm ey.symm
  rw [e2]
  exact my
theorem sorted_eq {P Q : Tops K} (h : P.Pairwise fun x y => x.2 < y.2) (k : Q.Pairwise fun x y => x.2 < y.2) (a : ∀ x ∈ P, x ∈ Q) (b : ∀ x ∈ Q, x ∈ P) : P = Q := by
  induction P generalizing Q with
  | nil =>
    cases Q with
    | nil => rfl
    | cons y Q => exact (List.not_mem_nil (b y List.mem_cons_self)).elim
  | cons x P ih =>
    cases Q with
    | nil => exact (List.not_mem_nil (a x List.mem_cons_self)).elim
    | cons y Q =>
      obtain ⟨h1, h2⟩ := List.pairwise_cons.mp h
      obtain ⟨k1, k2⟩ := List.pairwise_cons.mp k
      have e : x = y := by
        rcases List.mem_cons.mp (a x List.mem_cons_self) with q | q
        · exact q
        · rcases List.mem_cons.mp (b y List.mem_cons_self) with r | r
          · exact r.symm
          · have z1 := k1 x q
            have z2 := h1 y r
            omega
      subst e
      rw [ih h2 k2 (fun z m => ?_) fun z m => ?_]
      · rcases List.mem_cons.mp (a z (List.mem_cons_of_mem _ m)) with q | q
        · have z1 := h1 z m
          rw [q] at z1
          omega
        · exact q
      · rcases List.mem_cons.mp (b z (List.mem_cons_of_mem _ m)) with q | q
        · have z1 := k1 z m
          rw [q] at z1
          omega
        · exact q
/-- the reduced rows of a span are one alone -/
theorem rref_one {P Q : Tops K} (hP : Rref P) (hQ : Rref Q) (h01 : (1 : K) ≠ 0) (s : Same (rows P) (rows Q)) : P = Q :=
  sorted_eq (hP.two.imp fun q => q.1) (hQ.two.imp fun q => q.1) (mem_of_same hP hQ h01 s) (mem_of_same hQ hP h01 s.symm)
/-! ### the way there, place by place -/
/-- behind the places below c: P are done, R are 0 there -/
structure Upto (P : Tops K) (R : List (Row K)) (c : Nat) : Prop where
  rr : Rref P
  lt : ∀ x ∈ P, x.2 < c
  low : ∀ v ∈ R, ∀ j, j < c → v j = 0
theorem Upto.start (R : List (Row K)) : Upto ([] : Tops K) R 0 := ⟨⟨fun x m => (List.not_mem_nil m).elim, fun x m => (List.not_mem_nil m).elim, .nil⟩, fun x m => (List.not_mem_nil m).elim, fun v m j h => (Nat.not_lt_zero j h).elim⟩
theorem Upto.none {P : Tops K} {R : List (Row K)} {c : Nat} (h : Upto P R c) (z : ∀ v ∈ R, v c = 0) : Upto P R (c + 1) := ⟨h.rr, fun x m => Nat.lt_succ_of_lt (h.lt x m), fun v m j hj => by
  rcases Nat.lt_succ_iff_lt_or_eq.mp hj with q | q
  · exact h.low v m j q
  · rw [q]
    exact z v m⟩
/-- v, less v's number at c times a -/
def less (a : Row K) (c : Nat) (v : Row K) : Row K := ax (-(v c)) a v
theorem less_at {a : Row K} {c : Nat} (h : a c = 1) (v : Row K) : less a c v c = 0 := by
  show -(v c) * a c + v c = 0
  rw [h]
  grind
theorem less_low {a v : Row K} {c j : Nat} (h : a j = 0) : less a c v j = v j := by
  show -(v c) * a j + v j = v j
  rw [h]
  grind
theorem less_none {a v : Row K} {c : Nat} (h : v c = 0) : less a c v = v := by
  funext j
  show -(v c) * a j + v j = v j
  rw [h]
  grind
abbrev lessP (a : Row K) (c : Nat) (P : Tops K) : Tops K := P.map fun x => (less a c x.1, x.2)
/-- a row of the rest, scaled to 1 at c, is taken out and off all others -/
theorem Upto.found {P : Tops K} {R : List (Row K)} {a : Row K} {c : Nat} (h : Upto P R c) (ha : a c = 1) (low : ∀ j, j < c → a j = 0) : Upto (lessP a c P ++ [(a, c)]) (R.map (less a c)) (c + 1) := by
  have offA : ∀ x ∈ P, a x.2 = 0 := fun x m => low _ (h.lt x m)
  refine ⟨⟨fun x m => ?_, fun x m j hj => ?_, ?_⟩, fun x m => ?_, fun v m j hj => ?_⟩
  · rcases List.mem_append.mp m with q | q
    · obtain ⟨y, my, rfl⟩ := List.mem_map.mp q
      exact (less_low (offA y my)).trans (h.rr.one y my)
    · rw [List.mem_singleton.mp q]
      exact ha
  · rcases List.mem_append.mp m with q | q
    · obtain ⟨y, my, rfl⟩ := List.mem_map.mp q
      have lt := h.lt y my
      exact (less_low (low j (Nat.lt_trans hj lt))).trans (h.rr.low y my j hj)
    · rw [List.mem_singleton.mp q] at hj ⊢
      exact low j hj
  · refine List.pairwise_append.mpr ⟨?_, List.pairwise_singleton _ _, fun x m y my => ?_⟩
    · refine List.pairwise_map.mpr ?_
      have z : P.Pairwise fun x y => y ∈ P ∧ (x.2 < y.2 ∧ x.1 y.2 = 0) := by
        refine List.pairwise_iff_forall_sublist.mpr fun {x y} sl => ⟨sl.subset (by simp), List.pairwise_iff_forall_sublist.mp h.rr.two sl⟩
      exact z.imp fun {x y} q => ⟨q.2.1, (less_low (offA y q.1)).trans q.2.2⟩
    · rw [List.mem_singleton.mp my]
      obtain ⟨u, mu, rfl⟩ := List.mem_map.mp m
      exact ⟨h.lt u mu, less_at ha u.1⟩
  · rcases List.mem_append.mp m with q | q
    · obtain ⟨y, my, rfl⟩ := List.mem_map.mp q
      exact Nat.lt_succ_of_lt (h.lt y my)
    · rw [List.mem_singleton.mp q]
      exact Nat.lt_succ_self c
  · obtain ⟨u, mu, rfl⟩ := List.mem_map.mp m
    rcases Nat.lt_succ_iff_lt_or_eq.mp hj with q | q
    · exact (less_low (low j q)).trans (h.low u mu j q)
    · rw [q]
      exact less_at ha u
theorem less_back {a : Row K} {c : Nat} (v : Row K) : v = ax (v c) a (less a c v) := by
  funext j
  show v j = v c * a j + (-(v c) * a j + v j)
  grind
/-- taking a row off others leaves the span -/
theorem same_less {S T : List (Row K)} {a : Row K} {c : Nat} (ha : a ∈ S) (hb : a ∈ T) (h1 : ∀ v ∈ S, v = a ∨ less a c v ∈ T) (h2 : ∀ v ∈ T, v = a ∨ ∃ u ∈ S, v = less a c u) : Same S T := by
  refine .of (fun v m => ?_) fun v m => ?_
  · rcases h1 v m with q | q
    · rw [q]
      exact .mem hb
    · rw [less_back (a := a) (c := c) v]
      exact .ax _ (.mem hb) (.mem q)
  · rcases h2 v m with q | ⟨u, mu, q⟩
    · rw [q]
      exact .mem ha
    · rw [q]
      exact .ax _ (.mem ha) (.mem mu)
/-- scaling one row by what has an inverse leaves the span -/
theorem same_scale {S : List (Row K)} {b : Row K} {s t : K} (h : t * s = 1) : Same (b :: S) (ax s b zr :: S) := by
  refine .of (fun v m => ?_) fun v m => ?_
  · rcases List.mem_cons.mp m with q | q
    · have e : v = ax t (ax s b zr) zr := by
        funext j
        show v j = t * (s * b j + 0) + 0
        have e2 : t * (s * b j + 0) + 0 = (t * s) * b j := by grind
        rw [e2, h, q]
        grind
      rw [e]
      exact .ax _ (.mem List.mem_cons_self) .zero
    · exact .mem (List.mem_cons_of_mem _ q)
  · rcases List.mem_cons.mp m with q | q
    · rw [q]
      exact .ax _ (.mem List.mem_cons_self) .zero
    · exact .mem (List.mem_cons_of_mem _ q)
/-- a row of 0 brings nothing -/
theorem same_zeros {S T : List (Row K)} (h : ∀ v ∈ T, v = zr) : Same (S ++ T) S := .more fun v m => by
  rw [h v m]
  exact .zero
end LinA

set_option Elab.async false
set_option linter.all false
/-! LinZ: lists of numbers below p as rows. -/
namespace LinA
open Lean.Grind
universe u
/-- a number among the numbers of K -/
def ic (K : Type u) [CommRing K] (a : Int) : K := @Int.cast K Ring.intCast a
theorem ic_add {K : Type u} [CommRing K] (a b : Int) : ic K (a + b) = ic K a + ic K b := Ring.intCast_add a b
theorem ic_mul {K : Type u} [CommRing K] (a b : Int) : ic K (a * b) = ic K a * ic K b := Ring.intCast_mul a b
theorem ic_sub {K : Type u} [CommRing K] (a b : Int) : ic K (a - b) = ic K a - ic K b := Ring.intCast_sub a b
theorem ic_neg {K : Type u} [CommRing K] (a : Int) : ic K (-a) = -ic K a := Ring.intCast_neg a
theorem ic_one {K : Type u} [CommRing K] : ic K 1 = 1 := Ring.intCast_one
theorem ic_zero {K : Type u} [CommRing K] : ic K 0 = 0 := Ring.intCast_zero
/-- a list of numbers as a row; behind its end 0 -/
def row (K : Type u) [CommRing K] (xs : List Int) : Row K := fun j => ic K (xs.getD j 0)
/-- L numbers, each below p -/
def Vec (p : Nat) (L : Nat) (xs : List Int) : Prop := xs.length = L ∧ ∀ x ∈ xs, 0 ≤ x ∧ x < (p : Int)
section
variable {K : Type u} [CommRing K] {p : Nat} [IsCharP K p]
theorem cast_mod (a : Int) : ic K (a % (p : Int)) = (ic K a) := (IsCharP.intCast_ext_iff p).mpr (Int.emod_emod_of_dvd a (Int.dvd_refl _))
theorem cast_eq {a b : Int} (h : (ic K a) = (ic K b)) (a0 : 0 ≤ a) (a1 : a < p) (b0 : 0 ≤ b) (b1 : b < p) : a = b := by
  have z := (IsCharP.intCast_ext_iff p).mp h
  rwa [Int.emod_eq_of_lt a0 a1, Int.emod_eq_of_lt b0 b1] at z
theorem cast_zero {a : Int} (a0 : 0 ≤ a) (a1 : a < p) : (ic K a) = 0 ↔ a = 0 := by
  show (@Int.cast K Ring.intCast a = 0) ↔ _
  rw [IsCharP.intCast_eq_zero_iff p, Int.emod_eq_of_lt a0 a1]
theorem one_ne (h : 1 < p) : (1 : K) ≠ 0 := fun e => by
  have z : ic K (1) = 0 := by
    rw [ic_one]
    exact e
  rw [cast_zero (p := p) (by omega) (by omega)] at z
  cases z
theorem getD_lt {xs : List Int} {j : Nat} (h : j < xs.length) : xs.getD j 0 = xs[j] := by
  rw [List.getD_eq_getElem?_getD, List.getElem?_eq_getElem h]
  rfl
theorem getD_ge {xs : List Int} {j : Nat} (h : xs.length ≤ j) : xs.getD j 0 = 0 := by
  rw [List.getD_eq_getElem?_getD, List.getElem?_eq_none h]
  rfl
theorem row_ge {xs : List Int} {j : Nat} (h : xs.length ≤ j) : row K xs j = 0 := by
  show ic K (xs.getD j 0) = 0
  rw [getD_ge h]
  exact ic_zero
theorem row_eq {L : Nat} {xs ys : List Int} (hx : Vec p L xs) (hy : Vec p L ys) (h : row K xs = row K ys) : xs = ys := by
  refine List.ext_getElem (hx.1.trans hy.1.symm) fun j h1 h2 => ?_
  have z : ic K (xs.getD j 0) = ic K (ys.getD j 0) := congrFun h j
  rw [getD_lt h1, getD_lt h2] at z
  obtain ⟨a0, a1⟩ := hx.2 _ (List.getElem_mem h1)
  obtain ⟨b0, b1⟩ := hy.2 _ (List.getElem_mem h2)
  exact cast_eq z a0 a1 b0 b1
/-- two lists of one length, number by number: u + f v -/
theorem row_zip {f : Int} {g : Int → Int → Int} (hg : ∀ a b, ic K (g a b) = (ic K f) * (ic K b) + (ic K a)) {xs ys : List Int} (hl : xs.length = ys.length) : row K (List.zipWith g xs ys) = ax (ic K f) (row K ys) (row K xs) := by
  funext j
  show ic K ((List.zipWith g xs ys).getD j 0) = (ic K f) * ic K (ys.getD j 0) + ic K (xs.getD j 0)
  by_cases h : j < xs.length
  · have h2 : j < ys.length := by omega
    have h3 : j < (List.zipWith g xs ys).length := by
      rw [List.length_zipWith]
      omega
    rw [getD_lt h, getD_lt h2, getD_lt h3, List.getElem_zipWith]
    exact hg _ _
  · have h2 : ys.length ≤ j := by omega
    have h3 : (List.zipWith g xs ys).length ≤ j := by
      rw [List.length_zipWith]
      omega
    rw [getD_ge (Nat.le_of_not_lt h), getD_ge h2, getD_ge h3, ic_zero]
    grind
/-- (a + f b) % p -/
theorem row_more {f : Int} {xs ys : List Int} (hl : xs.length = ys.length) : row K (List.zipWith (fun a b => (a + f * b) % (p : Int)) xs ys) = ax (ic K f) (row K ys) (row K xs) := row_zip (fun a b => by
  rw [cast_mod (p := p), ic_add, ic_mul]
  grind) hl
/-- (a - f b) % p -/
theorem row_less {f : Int} {xs ys : List Int} (hl : xs.length = ys.length) : row K (List.zipWith (fun a b => (a - f * b) % (p : Int)) xs ys) = ax (-(ic K f)) (row K ys) (row K xs) := by
  have z := row_zip (K := K) (f := -f) (g := fun a b => (a - f * b) % (p : Int)) (fun a b => by
    rw [cast_mod (p := p), ic_sub, ic_mul, ic_neg]
    grind) hl
  rw [z, ic_neg]
theorem row_scale {s : Int} {xs : List Int} : row K (xs.map fun n => n * s % (p : Int)) = ax (ic K s) (row K xs) zr := by
  funext j
  show ic K ((xs.map fun n => n * s % (p : Int)).getD j 0) = (ic K s) * ic K (xs.getD j 0) + 0
  by_cases h : j < xs.length
  · rw [getD_lt h, getD_lt (by rw [List.length_map]; exact h), List.getElem_map, cast_mod (p := p), ic_mul]
    grind
  · rw [getD_ge (Nat.le_of_not_lt h), getD_ge (by rw [List.length_map]; omega), ic_zero]
    grind
end
/-! ### rows stay below p -/
section
variable {p L : Nat}
theorem mod_in (hp : 0 < p) (a : Int) : 0 ≤ a % (p : Int) ∧ a % (p : Int) < (p : Int) := ⟨Int.emod_nonneg _ (by omega), Int.emod_lt_of_pos _ (by omega)⟩
theorem vec_zip (hp : 0 < p) {h : Int → Int → Int} {xs ys : List Int} (hx : xs.length = L) (hy : ys.length = L) : Vec p L (List.zipWith (fun a b => h a b % (p : Int)) xs ys) := ⟨by rw [List.length_zipWith, hx, hy, Nat.min_self], fun z m => by
  obtain ⟨i, hi, e⟩ := List.mem_iff_getElem.mp m
  rw [← e, List.getElem_zipWith]
  exact mod_in hp _⟩
theorem vec_map (hp : 0 < p) {h : Int → Int} {xs : List Int} (hx : xs.length = L) : Vec p L (xs.map fun a => h a % (p : Int)) := ⟨by rw [List.length_map, hx], fun z m => by
  obtain ⟨a, _, e⟩ := List.mem_map.mp m
  rw [← e]
  exact mod_in hp _⟩
end
/-! ### one place of the way -/
/-- a row less its number at c times the lead -/
def lessZ (p : Nat) (lead : List Int) (c : Nat) (xs : List Int) : List Int := if xs.getD c 0 = 0 then xs else List.zipWith (fun a b => (a - xs.getD c 0 * b) % (p : Int)) xs lead
def scaleZ (p : Nat) (s : Int) (xs : List Int) : List Int := xs.map fun n => n * s % (p : Int)
section
variable {K : Type u} [CommRing K] {p : Nat} [IsCharP K p] {L : Nat}
theorem row_lessZ {lead xs : List Int} {c : Nat} (hl : xs.length = lead.length) : row K (lessZ p lead c xs) = less (row K lead) c (row K xs) := by
  unfold lessZ
  by_cases h : xs.getD c 0 = 0
  · rw [if_pos h]
    refine (less_none ?_).symm
    show ic K (xs.getD c 0) = 0
    rw [h, ic_zero]
  · rw [if_neg h, row_less hl]
    rfl
omit [IsCharP K p] in
theorem vec_lessZ (hp : 0 < p) {lead xs : List Int} {c : Nat} (hx : Vec p L xs) (hl : lead.length = L) : Vec p L (lessZ p lead c xs) := by
  unfold lessZ
  by_cases h : xs.getD c 0 = 0
  · rw [if_pos h]
    exact hx
  · rw [if_neg h]
    exact vec_zip hp (h := fun a b => a - xs.getD c 0 * b) hx.1 hl
abbrev rowsOf (K : Type u) [CommRing K] (T : List (List Int)) : List (Row K) := T.map (row K)
/-- what stands behind the places below c: D are done with their tops t, E is the rest; V was given -/
structure Way (K : Type u) [CommRing K] (p L : Nat) (V D E : List (List Int)) (t : List Nat) (c : Nat) : Prop where
  vd : ∀ xs ∈ D, Vec p L xs
  ve : ∀ xs ∈ E, Vec p L xs
  len : D.length = t.length
  up : Upto ((rowsOf K D).zip t) (rowsOf K E) c
  same : Same (rowsOf K (D ++ E)) (rowsOf K V)
omit [IsCharP K p] in
theorem Way.start {V : List (List Int)} (h : ∀ xs ∈ V, Vec p L xs) : Way K p L V [] V [] 0 := ⟨fun xs m => (List.not_mem_nil m).elim, h, rfl, Upto.start _, Same.rfl⟩
omit [IsCharP K p] in
theorem Way.none {V D E : List (List Int)} {t : List Nat} {c : Nat} (w : Way K p L V D E t c) (h : ∀ xs ∈ E, xs.getD c 0 = 0) : Way K p L V D E t (c + 1) := ⟨w.vd, w.ve, w.len, w.up.none fun v m => by
  obtain ⟨xs, mx, rfl⟩ := List.mem_map.mp m
  show ic K (xs.getD c 0) = 0
  rw [h xs mx, ic_zero], w.same⟩
theorem zip_less {a : List Int} {c : Nat} : ∀ {D : List (List Int)} {t : List Nat}, (∀ xs ∈ D, xs.length = a.length) → (rowsOf K (D.map (lessZ p a c))).zip t = lessP (row K a) c ((rowsOf K D).zip t)
  | [], _, _ => rfl
  | xs :: D, [], _ => rfl
  | xs :: D, y :: t, h => by
    show (row K (lessZ p a c xs), y) :: (rowsOf K (D.map (lessZ p a c))).zip t = (less (row K a) c (row K xs), y) :: lessP (row K a) c ((rowsOf K D).zip t)
    rw [row_lessZ (h xs List.mem_cons_self), zip_less fun z m => h z (List.mem_cons_of_mem _ m)]
/-- a row b of the rest, not 0 at c, scaled by s; E' is what else is left, in any order -/
theorem Way.found {V D E E' : List (List Int)} {t : List Nat} {c : Nat} {b : List Int} {s : Int} (hp : 1 < p) (w : Way K p L V D E t c) (pm : E.Perm (b :: E')) (hs : b.getD c 0 * s % (p : Int) = 1) :
    Way K p L V (D.map (lessZ p (scaleZ p s b) c) ++ [scaleZ p s b]) (E'.map (lessZ p (scaleZ p s b) c)) (t ++ [c]) (c + 1) := by
  have p0 : 0 < p := by omega
  have mb : b ∈ E := pm.mem_iff.mpr List.mem_cons_self
  have me : ∀ xs ∈ E', xs ∈ E := fun xs m => pm.mem_iff.mpr (List.mem_cons_of_mem _ m)
  have vb := w.ve b mb
  have vl : Vec p L (scaleZ p s b) := vec_map p0 (h := fun n => n * s) vb.1
  have eD : ∀ xs ∈ D, xs.length = (scaleZ p s b).length := fun xs m => (w.vd xs m).1.trans vl.1.symm
  have eE : ∀ xs ∈ E', xs.length = (scaleZ p s b).length := fun xs m => (w.ve xs (me xs m)).1.trans vl.1.symm
  have rl : row K (scaleZ p s b) = ax (ic K s) (row K b) zr := row_scale (p := p)
  have unit : ic K (b.getD c 0) * (ic K s) = 1 := by
    rw [← ic_mul, ← cast_mod (p := p), hs, ic_one]
  have one : row K (scaleZ p s b) c = 1 := by
    rw [rl]
    show (ic K s) * ic K (b.getD c 0) + 0 = 1
    grind
  have low : ∀ j, j < c → row K (scaleZ p s b) j = 0 := fun j hj => by
    have z : row K b j = 0 := w.up.low _ (List.mem_map_of_mem mb) j hj
    rw [rl]
    show (ic K s) * row K b j + 0 = 0
    rw [z]
    grind
  have upE : Upto ((rowsOf K D).zip t) (rowsOf K E') c := ⟨w.up.rr, w.up.lt, fun v m j hj => by
    obtain ⟨xs, mx, rfl⟩ := List.mem_map.mp m
    exact w.up.low _ (List.mem_map_of_mem (me xs mx)) j hj⟩
  have up := upE.found one low
  refine ⟨fun xs m => ?_, fun xs m => ?_, ?_, ?_, ?_⟩
  · rcases List.mem_append.mp m with q | q
    · obtain ⟨ys, my, rfl⟩ := List.mem_map.mp q
      exact vec_lessZ p0 (w.vd ys my) vl.1
    · rw [List.mem_singleton.mp q]
      exact vl
  · obtain ⟨ys, my, rfl⟩ := List.mem_map.mp m
    exact vec_lessZ p0 (w.ve ys (me ys my)) vl.1
  · rw [List.length_append, List.length_append, List.length_map, w.len]
    rfl
  · have e1 : (rowsOf K (D.map (lessZ p (scaleZ p s b) c) ++ [scaleZ p s b])).zip (t ++ [c]) = lessP (row K (scaleZ p s b)) c ((rowsOf K D).zip t) ++ [(row K (scaleZ p s b), c)] := by
      rw [show rowsOf K (D.map (lessZ p (scaleZ p s b) c) ++ [scaleZ p s b]) = rowsOf K (D.map (lessZ p (scaleZ p s b) c)) ++ [row K (scaleZ p s b)] from List.map_append, List.zip_append (by rw [List.length_map, List.length_map, w.len]), zip_less eD]
      rfl
    have e2 : rowsOf K (E'.map (lessZ p (scaleZ p s b) c)) = (rowsOf K E').map (less (row K (scaleZ p s b)) c) := by
      show (E'.map (lessZ p (scaleZ p s b) c)).map (row K) = (E'.map (row K)).map (less (row K (scaleZ p s b)) c)
      rw [List.map_map, List.map_map]
      exact List.map_congr_left fun xs m => row_lessZ (eE xs m)
    rw [e1, e2]
    exact up
  · refine Same.trans ?_ w.same
    have s1 : Same (rowsOf K (D ++ E)) (row K b :: rowsOf K (D ++ E')) := .perm (by
      refine (((List.Perm.refl D).append pm).map (row K)).trans ?_
      exact (List.perm_middle (l₁ := D) (l₂ := E') (a := b)).map (row K))
    have s2 : Same (row K b :: rowsOf K (D ++ E')) (ax (ic K s) (row K b) zr :: rowsOf K (D ++ E')) := same_scale unit
    rw [← rl] at s2
    have s3 : Same (row K (scaleZ p s b) :: rowsOf K (D ++ E')) (rowsOf K ((D.map (lessZ p (scaleZ p s b) c) ++ [scaleZ p s b]) ++ E'.map (lessZ p (scaleZ p s b) c))) := by
      have inB : row K (scaleZ p s b) ∈ rowsOf K ((D.map (lessZ p (scaleZ p s b) c) ++ [scaleZ p s b]) ++ E'.map (lessZ p (scaleZ p s b) c)) := List.mem_map_of_mem (by simp)
      refine same_less (a := row K (scaleZ p s b)) (c := c) List.mem_cons_self inB (fun v m => ?_) fun v m => ?_
      · rcases List.mem_cons.mp m with q | q
        · exact .inl q
        · obtain ⟨xs, mx, rfl⟩ := List.mem_map.mp q
          refine .inr ?_
          rcases List.mem_append.mp mx with r | r
          · rw [← row_lessZ (eD xs r)]
            exact List.mem_map_of_mem (List.mem_append_left _ (List.mem_append_left _ (List.mem_map_of_mem r)))
          · rw [← row_lessZ (eE xs r)]
            exact List.mem_map_of_mem (List.mem_append_right _ (List.mem_map_of_mem r))
      · obtain ⟨xs, mx, rfl⟩ := List.mem_map.mp m
        rcases List.mem_append.mp mx with r | r
        · rcases List.mem_append.mp r with r | r
          · obtain ⟨ys, my, rfl⟩ := List.mem_map.mp r
            exact .inr ⟨row K ys, List.mem_cons_of_mem _ (List.mem_map_of_mem (List.mem_append_left _ my)), row_lessZ (eD ys my)⟩
          · rw [List.mem_singleton.mp r]
            exact .inl rfl
        · obtain ⟨ys, my, rfl⟩ := List.mem_map.mp r
          exact .inr ⟨row K ys, List.mem_cons_of_mem _ (List.mem_map_of_mem (List.mem_append_right _ my)), row_lessZ (eE ys my)⟩
    exact ((s1.trans s2).trans s3).symm
/-- at the end: D spans what was given, and is reduced -/
theorem Way.fin {V D E : List (List Int)} {t : List Nat} (w : Way K p L V D E t L) : Rref ((rowsOf K D).zip t) ∧ Same (rowsOf K D) (rowsOf K V) ∧ rows ((rowsOf K D).zip t) = rowsOf K D := by
  refine ⟨w.up.rr, ?_, ?_⟩
  · refine Same.trans (Same.symm ?_) w.same
    rw [show rowsOf K (D ++ E) = rowsOf K D ++ rowsOf K E from List.map_append]
    refine same_zeros fun v m => ?_
    obtain ⟨xs, mx, rfl⟩ := List.mem_map.mp m
    funext j
    by_cases q : j < L
    · exact w.up.low _ m j q
    · exact row_ge (by rw [(w.ve xs mx).1]; omega)
  · exact List.map_fst_zip (by rw [List.length_map, w.len]; exact Nat.le_refl _)
end
end LinA

set_option Elab.async false
set_option linter.all false
/-! LinF: a number below a prime, to the prime less one, leaves 1. -/
namespace LinA
theorem cop {p k : Nat} (hp : ∀ d, 2 ≤ d → d < p → p % d ≠ 0) (k0 : 0 < k) (kp : k < p) : Nat.Coprime p k := by
  have g0 : 0 < Nat.gcd p k := Nat.gcd_pos_of_pos_right p k0
  have gk : Nat.gcd p k ≤ k := Nat.le_of_dvd k0 (Nat.gcd_dvd_right p k)
  have gp : p % Nat.gcd p k = 0 := Nat.mod_eq_zero_of_dvd (Nat.gcd_dvd_left p k)
  show Nat.gcd p k = 1
  rcases Nat.lt_or_ge (Nat.gcd p k) 2 with h | h
  · omega
  · exact absurd gp (hp _ h (by omega))
theorem len_nodup {a b : List Nat} (n : a.Nodup) (h : ∀ x ∈ a, x ∈ b) : a.length ≤ b.length := by
  induction a generalizing b with
  | nil => exact Nat.zero_le _
  | cons x a ih =>
    obtain ⟨n1, n2⟩ := List.nodup_cons.mp n
    have mx := h x List.mem_cons_self
    have z := ih (b := b.erase x) n2 fun y my => (List.mem_erase_of_ne (a := y) (b := x) fun q => n1 (by rw [← q]; exact my)).mpr (h y (List.mem_cons_of_mem _ my))
    rw [List.length_erase_of_mem mx] at z
    have p := List.length_pos_of_mem mx
    show a.length + 1 ≤ b.length
    omega
theorem perm_nodup {a b : List Nat} (n : a.Nodup) (m : b.Nodup) (h : ∀ x ∈ a, x ∈ b) (l : b.length ≤ a.length) : a.Perm b := by
  refine (List.perm_ext_iff_of_nodup n m).mpr fun x => ⟨h x, fun mx => ?_⟩
  refine Classical.byContradiction fun no => ?_
  have z := len_nodup (b := b.erase x) n fun y my => (List.mem_erase_of_ne (a := y) (b := x) fun q => no (by rw [← q]; exact my)).mpr (h y my)
  rw [List.length_erase_of_mem mx] at z
  have p := List.length_pos_of_mem mx
  omega
def prodL : List Nat → Nat
  | [] => 1
  | x :: xs => x * prodL xs
theorem prodL_perm {a b : List Nat} (h : a.Perm b) : prodL a = prodL b := by
  induction h with
  | nil => rfl
  | cons x _ ih => exact congrArg (x * ·) ih
  | swap x y l =>
    show y * (x * prodL l) = x * (y * prodL l)
    exact Nat.mul_left_comm y x (prodL l)
  | trans _ _ i j => exact i.trans j
theorem prodL_map (p a : Nat) : ∀ l : List Nat, prodL (l.map fun k => a * k % p) % p = a ^ l.length * prodL l % p
  | [] => by
    show 1 % p = a ^ 0 * 1 % p
    rw [Nat.pow_zero]
  | k :: l => by
    show (a * k % p) * prodL (l.map fun k => a * k % p) % p = a ^ (l.length + 1) * (k * prodL l) % p
    rw [Nat.mul_mod, Nat.mod_mod, prodL_map p a l, ← Nat.mul_mod]
    congr 1
    rw [Nat.pow_succ]
    grind
theorem prodL_cop {p : Nat} : ∀ {l : List Nat}, (∀ k ∈ l, Nat.Coprime p k) → Nat.Coprime p (prodL l)
  | [], _ => Nat.coprime_one_right p
  | k :: l, h => Nat.Coprime.mul_right (h k List.mem_cons_self) (prodL_cop fun x m => h x (List.mem_cons_of_mem _ m))
theorem fermat {p a : Nat} (hp : ∀ d, 2 ≤ d → d < p → p % d ≠ 0) (h2 : 2 ≤ p) (a0 : 0 < a) (ap : a < p) : a ^ (p - 1) % p = 1 := by
  have ca := cop hp a0 ap
  let L : List Nat := List.range' 1 (p - 1)
  have mL : ∀ k, k ∈ L ↔ 1 ≤ k ∧ k < p := fun k => by
    show k ∈ List.range' 1 (p - 1) ↔ _
    rw [List.mem_range'_1]
    omega
  have lL : L.length = p - 1 := List.length_range'
  have nL : L.Nodup := List.nodup_range' 1 (by decide)
  have key : ∀ x y, x ≤ y → y < p → a * x % p = a * y % p → x = y := fun x y xy yp e => by
    have d : p ∣ a * (y - x) := by
      rw [Nat.mul_sub]
      exact Nat.dvd_of_mod_eq_zero (Nat.sub_mod_eq_zero_of_mod_eq e.symm)
    have d2 : p ∣ y - x := ca.dvd_of_dvd_mul_left d
    rcases Nat.eq_zero_or_pos (y - x) with z | z
    · omega
    · have := Nat.le_of_dvd z d2
      omega
  have nM : (L.map fun k => a * k % p).Nodup := by
    refine List.pairwise_map.mpr (nL.imp_of_mem fun {x y} mx my ne e => ne ?_)
    rcases Nat.le_total x y with q | q
    · exact key x y q ((mL y).mp my).2 e
    · exact (key y x q ((mL x).mp mx).2 e.symm).symm
  have sub : ∀ x ∈ L.map fun k => a * k % p, x ∈ L := fun x mx => by
    obtain ⟨k, mk, rfl⟩ := List.mem_map.mp mx
    obtain ⟨k0, kp⟩ := (mL k).mp mk
    refine (mL _).mpr ⟨?_, Nat.mod_lt _ (by omega)⟩
    rcases Nat.eq_zero_or_pos (a * k % p) with z | z
    · have d : p ∣ k := ca.dvd_of_dvd_mul_left (Nat.dvd_of_mod_eq_zero z)
      have := Nat.le_of_dvd k0 d
      omega
    · exact z
  have pm := prodL_perm (perm_nodup nM nL sub (by rw [List.length_map]; exact Nat.le_refl _))
  have e := prodL_map p a L
  rw [pm, lL] at e
  have cF : Nat.Coprime p (prodL L) := prodL_cop fun k mk => cop hp ((mL k).mp mk).1 ((mL k).mp mk).2
  have a1 : 1 ≤ a ^ (p - 1) := Nat.pow_pos a0
  have d : p ∣ prodL L * (a ^ (p - 1) - 1) := by
    rw [Nat.mul_sub, Nat.mul_one, Nat.mul_comm (prodL L)]
    exact Nat.dvd_of_mod_eq_zero (Nat.sub_mod_eq_zero_of_mod_eq e.symm)
  have d2 : p ∣ a ^ (p - 1) - 1 := cF.dvd_of_dvd_mul_left d
  obtain ⟨c, hc⟩ := d2
  have e2 : a ^ (p - 1) = 1 + p * c := by omega
  rw [e2, Nat.add_mul_mod_self_left]
  exact Nat.mod_eq_of_lt (by omega)
end LinA

set_option Elab.async false
set_option linter.all false
/-! LinS: all that vectors span, as one sorted list; sums of vectors by factors; how many there are. -/
namespace LinA
open Lean.Grind
/-! ### a sorted list without doubles -/
def stepU (acc : List (List Int)) (x : List Int) : List (List Int) := if acc.getLast? = some x then acc else acc ++ [x]
structure Asc (xs : List (List Int)) : Prop where
  nd : xs.Nodup
  le : xs.Pairwise (· ≤ ·)
theorem Asc.nil : Asc [] := ⟨List.nodup_nil, .nil⟩
theorem Asc.eq {xs ys : List (List Int)} (h : Asc xs) (k : Asc ys) (m : ∀ v, v ∈ xs ↔ v ∈ ys) : xs = ys :=
  ((List.perm_ext_iff_of_nodup h.nd k.nd).mpr m).eq_of_pairwise (fun _ _ _ _ p q => List.le_antisymm p q) h.le k.le
theorem le_last {acc : List (List Int)} {z : List Int} (h : acc.Pairwise (· ≤ ·)) (e : acc.getLast? = some z) : ∀ a ∈ acc, a ≤ z := by
  obtain ⟨ys, rfl⟩ := List.getLast?_eq_some_iff.mp e
  intro a m
  rcases List.mem_append.mp m with q | q
  · exact (List.pairwise_append.mp h).2.2 a q z (by simp)
  · rw [List.mem_singleton.mp q]
    exact List.le_refl z
theorem stepU_asc {acc : List (List Int)} {x : List Int} (h : Asc acc) (u : ∀ a ∈ acc, a ≤ x) : Asc (stepU acc x) ∧ ∀ v, v ∈ stepU acc x ↔ v ∈ acc ∨ v = x := by
  unfold stepU
  by_cases e : acc.getLast? = some x
  · rw [if_pos e]
    refine ⟨h, fun v => ⟨.inl, fun m => m.elim id fun q => ?_⟩⟩
    rw [q]
    exact List.mem_of_getLast? e
  · rw [if_neg e]
    refine ⟨⟨List.nodup_append.mpr ⟨h.nd, by simp, fun a ma b mb q => ?_⟩, List.pairwise_append.mpr ⟨h.le, by simp, fun a ma b mb => ?_⟩⟩, fun v => by simp⟩
    · rw [List.mem_singleton.mp mb] at q
      subst q
      cases hl : acc.getLast? with
      | none =>
        rw [List.getLast?_eq_none_iff.mp hl] at ma
        cases ma
      | some z =>
        have z1 := le_last h.le hl a ma
        have z2 := u z (List.mem_of_getLast? hl)
        rw [List.le_antisymm z1 z2] at e
        exact e hl
    · rw [List.mem_singleton.mp mb]
      exact u a ma
theorem foldU : ∀ {xs acc : List (List Int)}, Asc acc → xs.Pairwise (· ≤ ·) → (∀ a ∈ acc, ∀ x ∈ xs, a ≤ x) → Asc (xs.foldl stepU acc) ∧ ∀ v, v ∈ xs.foldl stepU acc ↔ v ∈ acc ∨ v ∈ xs
  | [], acc, h, _, _ => ⟨h, fun v => by simp⟩
  | x :: xs, acc, h, p, u => by
    obtain ⟨p1, p2⟩ := List.pairwise_cons.mp p
    obtain ⟨a1, m1⟩ := stepU_asc h fun a ma => u a ma x List.mem_cons_self
    obtain ⟨a2, m2⟩ := foldU (xs := xs) a1 p2 fun a ma y my => by
      rcases (m1 a).mp ma with q | q
      · exact u a q y (List.mem_cons_of_mem _ my)
      · rw [q]
        exact p1 y my
    refine ⟨a2, fun v => ?_⟩
    show v ∈ xs.foldl stepU (stepU acc x) ↔ _
    rw [m2, m1, List.mem_cons, _root_.or_assoc]
/-- what unlike tells of a sorted list -/
def uniqU (xs : List (List Int)) : List (List Int) := xs.foldl stepU []
theorem uniqU_asc {xs : List (List Int)} (p : xs.Pairwise (· ≤ ·)) : Asc (uniqU xs) ∧ ∀ v, v ∈ uniqU xs ↔ v ∈ xs := by
  obtain ⟨a, m⟩ := foldU (xs := xs) Asc.nil p fun a ma => nomatch ma
  exact ⟨a, fun v => by rw [uniqU, m]; simp⟩
theorem stepU_len (acc : List (List Int)) (x : List Int) : (stepU acc x).length ≤ acc.length + 1 := by
  unfold stepU
  split
  · omega
  · simp
theorem foldU_len : ∀ (xs acc : List (List Int)), (xs.foldl stepU acc).length ≤ acc.length + xs.length
  | [], acc => by simp
  | x :: xs, acc => by
    have z := foldU_len xs (stepU acc x)
    have y := stepU_len acc x
    show (xs.foldl stepU (stepU acc x)).length ≤ acc.length + (xs.length + 1)
    omega
theorem uniqU_len (xs : List (List Int)) : (uniqU xs).length ≤ xs.length := by
  have z := foldU_len xs []
  show (xs.foldl stepU []).length ≤ xs.length
  simpa using z
theorem uniqU_len_take (xs : List (List Int)) (k : Nat) : ((xs.take k).foldl stepU []).length ≤ xs.length := by
  have z := foldU_len (xs.take k) []
  have y : (xs.take k).length ≤ xs.length := by rw [List.length_take]; omega
  simp at z y
  omega
/-! ### sums -/
section
variable {K : Type} [CommRing K]
theorem span_snoc {S : List (Row K)} {v w : Row K} : Span (S ++ [v]) w ↔ ∃ c u, Span S u ∧ w = ax c v u := by
  constructor
  · intro h
    induction h with
    | zero =>
      refine ⟨0, zr, .zero, ?_⟩
      funext j
      show (0 : K) = 0 * v j + 0
      grind
    | add d x w' m _ ih =>
      obtain ⟨c, u, hu, rfl⟩ := ih
      rcases List.mem_append.mp m with q | q
      · refine ⟨c, ax d x u, .ax d (.mem q) hu, ?_⟩
        funext j
        show d * x j + (c * v j + u j) = c * v j + (d * x j + u j)
        grind
      · rw [List.mem_singleton.mp q]
        refine ⟨d + c, u, hu, ?_⟩
        funext j
        show d * v j + (c * v j + u j) = (d + c) * v j + u j
        grind
  · rintro ⟨c, u, hu, rfl⟩
    exact .ax c (.mem (by simp)) (hu.mono fun x m => List.mem_append_left _ m)
theorem span_nil {w : Row K} : Span [] w ↔ w = zr := by
  constructor
  · intro h
    cases h with
    | zero => rfl
    | add c v w m _ => exact nomatch m
  · intro h
    rw [h]
    exact .zero
/-- rows, each times its factor -/
def comb : List (Row K) → List Int → Row K
  | v :: vs, c :: cs => ax (ic K c) v (comb vs cs)
  | _, _ => zr
theorem comb_span : ∀ (vs : List (Row K)) (cs : List Int), Span vs (comb vs cs)
  | [], _ => .zero
  | _ :: _, [] => .zero
  | v :: vs, c :: cs => .ax _ (.mem List.mem_cons_self) ((comb_span vs cs).mono fun x m => List.mem_cons_of_mem _ m)
end
def addF (p : Nat) (acc : List Int) (z : List Int × Int) : List Int := List.zipWith (fun a b => (a + z.2 * b) % (p : Int)) acc z.1
/-- vectors, each times its factor, as the law adds them up -/
def sumZ (p L : Nat) (T : List (List Int)) (fs : List Int) : List Int := (T.zip fs).foldl (addF p) (List.replicate L 0)
section
variable {p L : Nat}
theorem zeros_vec (h : 0 < p) : Vec p L (List.replicate L 0) := ⟨List.length_replicate, fun x m => by
  rw [(List.mem_replicate.mp m).2]
  omega⟩
theorem fold_vec (h : 0 < p) : ∀ {zs : List (List Int × Int)} {acc : List Int}, Vec p L acc → (∀ z ∈ zs, Vec p L z.1) → Vec p L (zs.foldl (addF p) acc)
  | [], acc, v, _ => v
  | z :: zs, acc, v, k => fold_vec h (zs := zs) (vec_zip h (h := fun a b => a + z.2 * b) v.1 (k z List.mem_cons_self).1) fun y m => k y (List.mem_cons_of_mem _ m)
theorem sumZ_vec (h : 0 < p) {T : List (List Int)} {fs : List Int} (hT : ∀ xs ∈ T, Vec p L xs) : Vec p L (sumZ p L T fs) := fold_vec h (zeros_vec h) fun z m => hT _ (List.of_mem_zip m).1
end
section
variable {K : Type} [CommRing K] {p : Nat} [IsCharP K p] {L : Nat}
theorem row_zeros : row K (List.replicate L 0) = zr := by
  funext j
  show ic K ((List.replicate L 0).getD j 0) = 0
  rw [List.getD_eq_getElem?_getD, List.getElem?_replicate]
  by_cases h : j < L
  · rw [if_pos h]
    exact ic_zero
  · rw [if_neg h]
    exact ic_zero
theorem fold_row (h : 0 < p) : ∀ {zs : List (List Int × Int)} {acc : List Int}, Vec p L acc → (∀ z ∈ zs, Vec p L z.1) → ∀ j, row K (zs.foldl (addF p) acc) j = row K acc j + comb (zs.map fun z => row K z.1) (zs.map (·.2)) j
  | [], acc, v, _, j => by
    show row K acc j = row K acc j + 0
    grind
  | z :: zs, acc, v, k, j => by
    have kz := k z List.mem_cons_self
    have va : Vec p L (addF p acc z) := vec_zip h (h := fun a b => a + z.2 * b) v.1 kz.1
    show row K (zs.foldl (addF p) (addF p acc z)) j = _
    rw [fold_row h (zs := zs) va (fun y m => k y (List.mem_cons_of_mem _ m)) j]
    have e : row K (addF p acc z) = ax (ic K z.2) (row K z.1) (row K acc) := row_more (v.1.trans kz.1.symm)
    rw [e]
    show (ic K z.2 * row K z.1 j + row K acc j) + comb _ _ j = row K acc j + (ic K z.2 * row K z.1 j + comb _ _ j)
    grind
theorem zip_maps {T : List (List Int)} {fs : List Int} (e : T.length = fs.length) : ((T.zip fs).map fun z => row K z.1) = rowsOf K T ∧ (T.zip fs).map (·.2) = fs := by
  constructor
  · have z : (T.zip fs).map (fun z => row K z.1) = ((T.zip fs).map (·.1)).map (row K) := by rw [List.map_map]; rfl
    rw [z, List.map_fst_zip (Nat.le_of_eq e)]
  · exact List.map_snd_zip (Nat.le_of_eq e.symm)
theorem sumZ_row (h : 0 < p) {T : List (List Int)} {fs : List Int} (hT : ∀ xs ∈ T, Vec p L xs) (e : T.length = fs.length) : row K (sumZ p L T fs) = comb (rowsOf K T) fs := by
  funext j
  rw [sumZ, fold_row h (zeros_vec h) (fun z m => hT _ (List.of_mem_zip m).1), (zip_maps (K := K) e).1, (zip_maps (K := K) e).2, row_zeros]
  show (0 : K) + _ = _
  grind
end
end LinA

set_option Elab.async false
set_option linter.all false
/-! LinT: what vectors span by numbers below p; spans in Fin p; bases: one alone, how many sums. -/
namespace LinA
open Lean.Grind
/-- what S adds up to by factors -/
def InS (p L : Nat) (S : List (List Int)) (xs : List Int) : Prop := ∃ fs, Vec p S.length fs ∧ xs = sumZ p L S fs
def IsSpan (p L : Nat) (S found : List (List Int)) : Prop := Asc found ∧ ∀ xs, xs ∈ found ↔ InS p L S xs
section
variable {p L : Nat}
theorem zip_snoc {α β : Type} {a : List α} {b : List β} (h : a.length = b.length) (x : α) (y : β) : (a ++ [x]).zip (b ++ [y]) = a.zip b ++ [(x, y)] := by
  rw [List.zip_append h]
  rfl
theorem sumZ_snoc {S : List (List Int)} {fs : List Int} (h : S.length = fs.length) (v : List Int) (f : Int) : sumZ p L (S ++ [v]) (fs ++ [f]) = addF p (sumZ p L S fs) (v, f) := by
  unfold sumZ
  rw [zip_snoc h, List.foldl_append]
  rfl
theorem add_zeros {xs : List Int} (h : Vec p L xs) : addF p (List.replicate L 0) (xs, 1) = xs := by
  have e : addF p (List.replicate L 0) (xs, 1) = List.zipWith (fun a b => (a + 1 * b) % (p : Int)) (List.replicate L 0) xs := rfl
  rw [e]
  refine List.ext_getElem ?_ fun j h1 h2 => ?_
  · rw [List.length_zipWith, List.length_replicate, h.1, Nat.min_self]
  · rw [List.getElem_zipWith, List.getElem_replicate]
    obtain ⟨a0, a1⟩ := h.2 _ (List.getElem_mem h2)
    rw [Int.zero_add, Int.one_mul, Int.emod_eq_of_lt a0 a1]
theorem sumZ_two {one v : List Int} (h : Vec p L one) (f : Int) : sumZ p L [one, v] [1, f] = addF p one (v, f) := by
  show addF p (addF p (List.replicate L 0) (one, 1)) (v, f) = _
  rw [add_zeros h]
theorem InS.vec (hp : 0 < p) {S : List (List Int)} {xs : List Int} (hS : ∀ v ∈ S, Vec p L v) (h : InS p L S xs) : Vec p L xs := by
  obtain ⟨fs, _, rfl⟩ := h
  exact sumZ_vec hp hS
theorem span_start : IsSpan p L [] [List.replicate L 0] := ⟨⟨by simp, by simp⟩, fun xs => by
  constructor
  · intro m
    exact ⟨[], ⟨rfl, fun x m => nomatch m⟩, List.mem_singleton.mp m⟩
  · rintro ⟨fs, ⟨h1, _⟩, rfl⟩
    rw [List.eq_nil_of_length_eq_zero h1]
    exact List.mem_singleton.mpr rfl⟩
/-- all ones and multiples of v below k -/
def moreZ (p L : Nat) (v : List Int) (found : List (List Int)) (k : Nat) : List (List Int) := (List.range k).flatMap fun f : Nat => found.map fun one => sumZ p L [one, v] [1, (f : Int)]
theorem moreZ_succ (v : List Int) (found : List (List Int)) (k : Nat) : moreZ p L v found (k + 1) = moreZ p L v found k ++ found.map fun one => sumZ p L [one, v] [1, (k : Int)] := by
  unfold moreZ
  rw [List.range_succ, List.flatMap_append]
  simp
theorem moreZ_len (v : List Int) (found : List (List Int)) : ∀ k : Nat, (moreZ p L v found k).length = k * found.length
  | 0 => by simp [moreZ]
  | k + 1 => by
    rw [moreZ_succ, List.length_append, moreZ_len v found k, List.length_map, Nat.succ_mul]
theorem span_step (hp : 0 < p) {S found sorted : List (List Int)} {v : List Int} (hS : ∀ v ∈ S, Vec p L v) (hv : Vec p L v) (h : IsSpan p L S found) (pm : sorted.Perm (moreZ p L v found p)) (le : sorted.Pairwise (· ≤ ·)) : IsSpan p L (S ++ [v]) (uniqU sorted) := by
  obtain ⟨a, m⟩ := uniqU_asc le
  refine ⟨a, fun xs => ?_⟩
  rw [m, pm.mem_iff]
  unfold moreZ
  rw [List.mem_flatMap]
  constructor
  · rintro ⟨f, mf, mx⟩
    obtain ⟨one, mo, rfl⟩ := List.mem_map.mp mx
    obtain ⟨fs, hf, rfl⟩ := (h.2 one).mp mo
    refine ⟨fs ++ [(f : Int)], ⟨by rw [List.length_append, List.length_append, hf.1]; rfl, fun x m => ?_⟩, ?_⟩
    · rcases List.mem_append.mp m with q | q
      · exact hf.2 x q
      · rw [List.mem_singleton.mp q]
        have := List.mem_range.mp mf
        omega
    · rw [sumZ_snoc hf.1.symm, sumZ_two (sumZ_vec hp hS)]
  · rintro ⟨fs, hf, rfl⟩
    have l1 : fs.length = S.length + 1 := by rw [hf.1, List.length_append]; rfl
    have e : fs = fs.dropLast ++ [fs.getLast (by intro z; rw [z] at l1; cases l1)] := (List.dropLast_concat_getLast _).symm
    generalize hl : fs.getLast _ = f at e
    have mf : f ∈ fs := by rw [← hl]; exact List.getLast_mem _
    obtain ⟨f0, f1⟩ := hf.2 f mf
    have ld : fs.dropLast.length = S.length := by rw [List.length_dropLast, l1]; rfl
    have hd : Vec p S.length fs.dropLast := ⟨ld, fun x m => hf.2 x (List.dropLast_subset _ m)⟩
    refine ⟨f.toNat, List.mem_range.mpr (by omega), List.mem_map.mpr ⟨sumZ p L S fs.dropLast, (h.2 _).mpr ⟨_, hd, rfl⟩, ?_⟩⟩
    have ef : ((f.toNat : Nat) : Int) = f := Int.toNat_of_nonneg f0
    rw [sumZ_two (sumZ_vec hp hS), ef]
    conv => rhs; rw [e]
    rw [sumZ_snoc ld.symm]
/-! ### in Fin p -/
theorem ic_val [NeZero p] (c : Fin p) : ic (Fin p) (c.val : Int) = c := by
  show @Int.cast (Fin p) Ring.intCast (c.val : Int) = c
  rw [@Ring.intCast_natCast (Fin p) _ c.val]
  exact Fin.ofNat_val_eq_self c
theorem span_cons {K : Type} [CommRing K] {S : List (Row K)} {v w : Row K} : Span (v :: S) w ↔ ∃ c u, Span S u ∧ w = ax c v u := by
  rw [← span_snoc]
  exact Same.perm (by simpa using (List.perm_append_comm (l₁ := [v]) (l₂ := S))) w
theorem span_comb [NeZero p] : ∀ {T : List (List Int)} {w : Row (Fin p)}, Span (rowsOf (Fin p) T) w → ∃ fs, Vec p T.length fs ∧ w = comb (rowsOf (Fin p) T) fs
  | [], w, h => ⟨[], ⟨rfl, fun x m => nomatch m⟩, span_nil.mp h⟩
  | v :: T, w, h => by
    obtain ⟨c, u, hu, rfl⟩ := span_cons.mp h
    obtain ⟨fs, hf, rfl⟩ := span_comb hu
    refine ⟨(c.val : Int) :: fs, ⟨by rw [List.length_cons, hf.1]; rfl, fun x m => ?_⟩, ?_⟩
    · rcases List.mem_cons.mp m with q | q
      · rw [q]
        have := c.isLt
        omega
      · exact hf.2 x q
    · show ax c (row (Fin p) v) (comb _ fs) = ax (ic (Fin p) (c.val : Int)) (row (Fin p) v) (comb _ fs)
      rw [ic_val]
theorem inS_iff [NeZero p] {T : List (List Int)} {xs : List Int} (hT : ∀ v ∈ T, Vec p L v) : InS p L T xs ↔ Vec p L xs ∧ Span (rowsOf (Fin p) T) (row (Fin p) xs) := by
  have hp : 0 < p := Nat.pos_of_ne_zero (NeZero.ne p)
  constructor
  · intro h
    refine ⟨h.vec hp hT, ?_⟩
    obtain ⟨fs, hf, rfl⟩ := h
    rw [sumZ_row hp hT hf.1.symm]
    exact comb_span _ _
  · rintro ⟨hx, h⟩
    obtain ⟨fs, hf, e⟩ := span_comb h
    refine ⟨fs, hf, row_eq (K := Fin p) hx (sumZ_vec hp hT) ?_⟩
    rw [sumZ_row hp hT hf.1.symm]
    exact e
end
end LinA

set_option Elab.async false
set_option linter.all false
/-! LinU: bases in numbers: one alone, coordinates, how many sums; a place's clearing in the list. -/
namespace LinA
open Lean.Grind
structure Bas (p L : Nat) (T B : List (List Int)) (t : List Nat) : Prop where
  vec : ∀ xs ∈ B, Vec p L xs
  len : B.length = t.length
  top : ∀ c ∈ t, c < L
  one : ∀ x ∈ B.zip t, x.1.getD x.2 0 = 1
  low : ∀ x ∈ B.zip t, ∀ j, j < x.2 → x.1.getD j 0 = 0
  two : (B.zip t).Pairwise fun x y => x.2 < y.2 ∧ x.1.getD y.2 0 = 0
  same : ∀ xs, InS p L B xs ↔ InS p L T xs
abbrev topsOf (p : Nat) [NeZero p] (B : List (List Int)) (t : List Nat) : Tops (Fin p) := (rowsOf (Fin p) B).zip t
section
variable {p L : Nat}
theorem zip_rows [NeZero p] (B : List (List Int)) (t : List Nat) : topsOf p B t = (B.zip t).map fun x => (row (Fin p) x.1, x.2) := by
  show (B.map (row (Fin p))).zip t = _
  rw [List.zip_map_left]
  rfl
theorem inS_sub [NeZero p] {S T : List (List Int)} (hS : ∀ v ∈ S, Vec p L v) (hT : ∀ v ∈ T, Vec p L v) (h : ∀ v ∈ S, InS p L T v) {xs : List Int} (k : InS p L S xs) : InS p L T xs := by
  obtain ⟨a, b⟩ := (inS_iff hS).mp k
  refine (inS_iff hT).mpr ⟨a, b.sub fun v m => ?_⟩
  obtain ⟨ys, my, rfl⟩ := List.mem_map.mp m
  exact ((inS_iff hT).mp (h ys my)).2
theorem inS_mem [NeZero p] {S : List (List Int)} (hS : ∀ v ∈ S, Vec p L v) {v : List Int} (m : v ∈ S) : InS p L S v := (inS_iff hS).mpr ⟨hS v m, .mem (List.mem_map_of_mem m)⟩
theorem same_of [NeZero p] {S T : List (List Int)} (hS : ∀ v ∈ S, Vec p L v) (hT : ∀ v ∈ T, Vec p L v) (h : ∀ xs, InS p L S xs ↔ InS p L T xs) : Same (rowsOf (Fin p) S) (rowsOf (Fin p) T) := by
  refine .of (fun v m => ?_) fun v m => ?_
  · obtain ⟨ys, my, rfl⟩ := List.mem_map.mp m
    exact ((inS_iff hT).mp ((h ys).mp (inS_mem hS my))).2
  · obtain ⟨ys, my, rfl⟩ := List.mem_map.mp m
    exact ((inS_iff hS).mp ((h ys).mpr (inS_mem hT my))).2
theorem inS_same [NeZero p] {S T : List (List Int)} (hS : ∀ v ∈ S, Vec p L v) (hT : ∀ v ∈ T, Vec p L v) (h : Same (rowsOf (Fin p) S) (rowsOf (Fin p) T)) (xs : List Int) : InS p L S xs ↔ InS p L T xs := by
  rw [inS_iff hS, inS_iff hT, h]
theorem Bas.rref [NeZero p] {T B : List (List Int)} {t : List Nat} (h : Bas p L T B t) : Rref (topsOf p B t) := by
  rw [zip_rows]
  refine ⟨fun x m => ?_, fun x m j hj => ?_, ?_⟩
  · obtain ⟨y, my, rfl⟩ := List.mem_map.mp m
    show ic (Fin p) (y.1.getD y.2 0) = 1
    rw [h.one y my, ic_one]
  · obtain ⟨y, my, rfl⟩ := List.mem_map.mp m
    show ic (Fin p) (y.1.getD j 0) = 0
    rw [h.low y my j hj, ic_zero]
  · refine List.pairwise_map.mpr (h.two.imp fun {x y} q => ⟨q.1, ?_⟩)
    show ic (Fin p) (x.1.getD y.2 0) = 0
    rw [q.2, ic_zero]
theorem vec_at {xs : List Int} (h : Vec p L xs) (hp : 0 < p) (j : Nat) : 0 ≤ xs.getD j 0 ∧ xs.getD j 0 < p := by
  by_cases q : j < xs.length
  · rw [getD_lt q]
    exact h.2 _ (List.getElem_mem q)
  · rw [getD_ge (Nat.le_of_not_lt q)]
    omega
theorem Bas.of_way [NeZero p] (p1 : 1 < p) {T D E : List (List Int)} {t : List Nat} (hT : ∀ v ∈ T, Vec p L v) (w : Way (Fin p) p L T D E t L) : Bas p L T D t := by
  obtain ⟨r, s, _⟩ := w.fin
  have r2 : Rref (topsOf p D t) := r
  have lt : ∀ x ∈ topsOf p D t, x.2 < L := w.up.lt
  rw [zip_rows] at r2 lt
  have hz : ∀ x ∈ D.zip t, Vec p L x.1 := fun x m => w.vd _ (List.of_mem_zip m).1
  have p0 : 0 < p := by omega
  refine ⟨w.vd, w.len, fun c m => ?_, fun x m => ?_, fun x m j hj => ?_, ?_, inS_same w.vd hT s⟩
  · obtain ⟨i, hi, e⟩ := List.mem_iff_getElem.mp m
    have hi2 : i < (D.zip t).length := by rw [List.length_zip, w.len]; omega
    have z := lt _ (List.mem_map_of_mem (f := fun x : List Int × Nat => (row (Fin p) x.1, x.2)) (List.getElem_mem hi2))
    rw [← e]
    simpa using z
  · have z : ic (Fin p) (x.1.getD x.2 0) = 1 := r2.one _ (List.mem_map_of_mem (f := fun x : List Int × Nat => (row (Fin p) x.1, x.2)) m)
    obtain ⟨a0, a1⟩ := vec_at (hz x m) p0 x.2
    refine cast_eq (K := Fin p) (p := p) (by rw [z, ic_one]) a0 a1 (by omega) (by omega)
  · have z : ic (Fin p) (x.1.getD j 0) = 0 := r2.low _ (List.mem_map_of_mem (f := fun x : List Int × Nat => (row (Fin p) x.1, x.2)) m) j hj
    obtain ⟨a0, a1⟩ := vec_at (hz x m) p0 j
    exact (cast_zero (K := Fin p) a0 a1).mp z
  · have z := List.pairwise_map.mp r2.two
    refine z.imp_of_mem fun {x y} mx my q => ⟨q.1, ?_⟩
    obtain ⟨a0, a1⟩ := vec_at (hz x mx) p0 y.2
    exact (cast_zero (K := Fin p) a0 a1).mp q.2
theorem rows_of_tops [NeZero p] {T B : List (List Int)} {t : List Nat} (h : Bas p L T B t) : rows (topsOf p B t) = rowsOf (Fin p) B := List.map_fst_zip (by rw [List.length_map, h.len]; exact Nat.le_refl _)
theorem rows_inj [NeZero p] : ∀ {B C : List (List Int)}, (∀ v ∈ B, Vec p L v) → (∀ v ∈ C, Vec p L v) → rowsOf (Fin p) B = rowsOf (Fin p) C → B = C
  | [], [], _, _, _ => rfl
  | [], _ :: _, _, _, e => nomatch e
  | _ :: _, [], _, _, e => nomatch e
  | x :: B, y :: C, h, k, e => by
    obtain ⟨e1, e2⟩ := List.cons.inj e
    rw [row_eq (K := Fin p) (h x List.mem_cons_self) (k y List.mem_cons_self) e1, rows_inj (fun v m => h v (List.mem_cons_of_mem _ m)) (fun v m => k v (List.mem_cons_of_mem _ m)) e2]
/-- the reduced basis is one alone -/
theorem Bas.uniq (p1 : 1 < p) {S T B C : List (List Int)} {s t : List Nat} (h : Bas p L S B s) (k : Bas p L T C t) (e : ∀ xs, InS p L S xs ↔ InS p L T xs) : B = C ∧ s = t := by
  haveI : NeZero p := ⟨by omega⟩
  have q : Same (rows (topsOf p B s)) (rows (topsOf p C t)) := by
    rw [rows_of_tops h, rows_of_tops k]
    exact same_of h.vec k.vec fun xs => by rw [h.same, k.same, e]
  have z := rref_one h.rref k.rref (one_ne (p := p) p1) q
  have z1 := congrArg (fun P => P.map (·.1)) z
  have z2 := congrArg (fun P => P.map (·.2)) z
  have e1 : rowsOf (Fin p) B = rowsOf (Fin p) C := by
    rw [← rows_of_tops h, ← rows_of_tops k]
    exact z1
  refine ⟨rows_inj h.vec k.vec e1, ?_⟩
  have t1 : (topsOf p B s).map (·.2) = s := List.map_snd_zip (by rw [List.length_map, h.len]; exact Nat.le_refl _)
  have t2 : (topsOf p C t).map (·.2) = t := List.map_snd_zip (by rw [List.length_map, k.len]; exact Nat.le_refl _)
  rw [← t1, ← t2]
  exact z2
theorem Bas.rank_le (p1 : 1 < p) {S T B C : List (List Int)} {s t : List Nat} (h : Bas p L S B s) (k : Bas p L T C t) (e : ∀ xs, InS p L S xs → InS p L T xs) : B.length ≤ C.length := by
  haveI : NeZero p := ⟨by omega⟩
  have q : ∀ v, Span (rows (topsOf p B s)) v → Span (rows (topsOf p C t)) v := by
    rw [rows_of_tops h, rows_of_tops k]
    intro v hv
    refine hv.sub fun u m => ?_
    obtain ⟨ys, my, rfl⟩ := List.mem_map.mp m
    exact ((inS_iff k.vec).mp ((k.same ys).mpr (e ys ((h.same ys).mp (inS_mem h.vec my))))).2
  have z := LinA.rank_le h.rref k.rref (one_ne (p := p) p1) q
  rw [List.length_zip, List.length_map, List.length_zip, List.length_map, h.len, k.len] at z
  rw [h.len, k.len]
  omega
theorem comb_coord [NeZero p] {xs : List Int} : ∀ (B : List (List Int)) (t : List Nat), comb (rowsOf (Fin p) B) (t.map fun c => xs.getD c 0) = coord (row (Fin p) xs) (topsOf p B t)
  | [], _ => rfl
  | _ :: _, [] => rfl
  | b :: B, c :: t => by
    show ax (ic (Fin p) (xs.getD c 0)) (row (Fin p) b) (comb _ _) = ax (row (Fin p) xs c) (row (Fin p) b) (coord _ _)
    rw [comb_coord B t]
    rfl
/-- the numbers at the tops put it together -/
theorem Bas.coords (p1 : 1 < p) {T B : List (List Int)} {t : List Nat} (h : Bas p L T B t) {xs : List Int} (k : InS p L T xs) : sumZ p L B (t.map fun c => xs.getD c 0) = xs := by
  haveI : NeZero p := ⟨by omega⟩
  have p0 : 0 < p := by omega
  obtain ⟨hx, hs⟩ := (inS_iff h.vec).mp ((h.same xs).mpr k)
  refine row_eq (K := Fin p) (sumZ_vec p0 h.vec) hx ?_
  rw [sumZ_row p0 h.vec (by rw [List.length_map, h.len]), comb_coord]
  refine span_coord h.rref ?_
  rw [rows_of_tops h]
  exact hs
/-- the factors are the numbers at the tops -/
theorem comb_tops [NeZero p] : ∀ {B : List (List Int)} {t : List Nat} {cs : List Int}, (topsOf p B t).Pairwise (fun x y => x.2 < y.2 ∧ x.1 y.2 = 0) → (∀ x ∈ topsOf p B t, x.1 x.2 = 1) → (∀ x ∈ topsOf p B t, ∀ j, j < x.2 → x.1 j = 0) → B.length = t.length → cs.length = t.length → t.map (comb (rowsOf (Fin p) B) cs) = cs.map (ic (Fin p)) ∧ ∀ j, (∀ c ∈ t, j < c) → comb (rowsOf (Fin p) B) cs j = 0
  | [], [], [], _, _, _, _, _ => ⟨rfl, fun _ _ => rfl⟩
  | b :: B, c :: t, f :: cs, h2, h1, hl, l1, l2 => by
    obtain ⟨q1, q2⟩ := List.pairwise_cons.mp h2
    obtain ⟨e, z⟩ := comb_tops (B := B) (t := t) (cs := cs) q2 (fun x m => h1 x (List.mem_cons_of_mem _ m)) (fun x m => hl x (List.mem_cons_of_mem _ m)) (Nat.succ.inj l1) (Nat.succ.inj l2)
    have one : row (Fin p) b c = 1 := h1 (row (Fin p) b, c) List.mem_cons_self
    have mem : ∀ d ∈ t, ∃ x ∈ topsOf p B t, x.2 = d := fun d m => by
      have w : (topsOf p B t).map (·.2) = t := List.map_snd_zip (by rw [List.length_map]; exact Nat.le_of_eq (Nat.succ.inj l1).symm)
      rw [← w] at m
      obtain ⟨x, mx, ex⟩ := List.mem_map.mp m
      exact ⟨x, mx, ex⟩
    have lt : ∀ d ∈ t, c < d := fun d m => by
      obtain ⟨x, mx, rfl⟩ := mem d m
      exact (q1 x mx).1
    have off : ∀ d ∈ t, row (Fin p) b d = 0 := fun d m => by
      obtain ⟨x, mx, rfl⟩ := mem d m
      exact (q1 x mx).2
    constructor
    · show (ic (Fin p) f * row (Fin p) b c + comb _ cs c) :: t.map (fun d => ic (Fin p) f * row (Fin p) b d + comb _ cs d) = ic (Fin p) f :: cs.map _
      rw [one, z c lt, ← e]
      congr 1
      · grind
      · refine List.map_congr_left fun d m => ?_
        rw [off d m]
        grind
    · intro j hj
      show ic (Fin p) f * row (Fin p) b j + comb _ cs j = 0
      have zb : row (Fin p) b j = 0 := hl (row (Fin p) b, c) List.mem_cons_self j (hj c List.mem_cons_self)
      rw [zb, z j fun d m => hj d (List.mem_cons_of_mem _ m)]
      grind
/-- all lists of n numbers below p -/
def allZ (p : Nat) : Nat → List (List Int)
  | 0 => [[]]
  | n + 1 => (List.range p).flatMap fun f : Nat => (allZ p n).map fun cs => (f : Int) :: cs
theorem sum_const {α : Type} (n : Nat) : ∀ l : List α, (l.map fun _ => n).sum = l.length * n
  | [] => by simp
  | _ :: l => by
    show n + (l.map fun _ => n).sum = (l.length + 1) * n
    rw [sum_const n l, Nat.succ_mul, Nat.add_comm]
theorem allZ_len : ∀ n : Nat, (allZ p n).length = p ^ n
  | 0 => rfl
  | n + 1 => by
    unfold allZ
    rw [List.length_flatMap]
    have e : (fun f : Nat => ((allZ p n).map fun cs => (f : Int) :: cs).length) = fun _ => p ^ n := by
      funext f
      rw [List.length_map, allZ_len n]
    rw [e, sum_const, List.length_range, Nat.pow_succ, Nat.mul_comm]
theorem allZ_mem : ∀ {n : Nat} {cs : List Int}, cs ∈ allZ p n ↔ Vec p n cs
  | 0, cs => by
    constructor
    · intro m
      rw [List.mem_singleton.mp m]
      exact ⟨rfl, fun x m => nomatch m⟩
    · rintro ⟨h, _⟩
      rw [List.eq_nil_of_length_eq_zero h]
      exact List.mem_singleton.mpr rfl
  | n + 1, cs => by
    unfold allZ
    rw [List.mem_flatMap]
    constructor
    · rintro ⟨f, mf, m⟩
      obtain ⟨ds, md, rfl⟩ := List.mem_map.mp m
      obtain ⟨l, h⟩ := allZ_mem.mp md
      refine ⟨by rw [List.length_cons, l], fun x m => ?_⟩
      rcases List.mem_cons.mp m with q | q
      · rw [q]
        have := List.mem_range.mp mf
        omega
      · exact h x q
    · rintro ⟨l, h⟩
      cases cs with
      | nil => cases l
      | cons c cs =>
        obtain ⟨c0, c1⟩ := h c List.mem_cons_self
        refine ⟨c.toNat, List.mem_range.mpr (by omega), List.mem_map.mpr ⟨cs, allZ_mem.mpr ⟨Nat.succ.inj l, fun x m => h x (List.mem_cons_of_mem _ m)⟩, ?_⟩⟩
        rw [Int.toNat_of_nonneg c0]
theorem allZ_nodup : ∀ n : Nat, (allZ p n).Nodup
  | 0 => by simp [allZ]
  | n + 1 => by
    unfold allZ
    refine List.pairwise_flatMap.mpr ⟨fun f _ => ?_, ?_⟩
    · exact List.pairwise_map.mpr ((allZ_nodup n).imp fun q e => q (List.cons.inj e).2)
    · refine (List.nodup_range (n := p)).imp fun {f g} q x mx y my e => ?_
      obtain ⟨a, _, rfl⟩ := List.mem_map.mp mx
      obtain ⟨b, _, rfl⟩ := List.mem_map.mp my
      have z := (List.cons.inj e).1
      omega
/-- as many sums as lists of factors -/
theorem Bas.count (p1 : 1 < p) {T B found : List (List Int)} {t : List Nat} (h : Bas p L T B t) (k : IsSpan p L T found) : found.length = p ^ B.length := by
  haveI : NeZero p := ⟨by omega⟩
  have p0 : 0 < p := by omega
  have r := h.rref
  have key : ∀ cs, cs ∈ allZ p B.length → t.map (fun c => (sumZ p L B cs).getD c 0) = cs := fun cs m => by
    obtain ⟨l, hc⟩ := allZ_mem.mp m
    have z := (comb_tops (B := B) (t := t) (cs := cs) r.two r.one r.low h.len (by rw [l, h.len])).1
    rw [← sumZ_row p0 h.vec (by rw [l])] at z
    refine List.ext_getElem (by rw [List.length_map, l, h.len]) fun i h1 h2 => ?_
    have z2 : (t.map (row (Fin p) (sumZ p L B cs)))[i]? = (cs.map (ic (Fin p)))[i]? := by rw [z]
    have it : i < t.length := by
      rw [List.length_map] at h1
      exact h1
    rw [List.getElem?_map, List.getElem?_map, List.getElem?_eq_getElem h2, List.getElem?_eq_getElem (by rw [List.length_map] at h1; exact h1)] at z2
    have z3 : ic (Fin p) ((sumZ p L B cs).getD t[i] 0) = ic (Fin p) cs[i] := Option.some.inj z2
    obtain ⟨a0, a1⟩ := vec_at (sumZ_vec p0 h.vec (fs := cs)) p0 (t[i]'it)
    obtain ⟨b0, b1⟩ := hc _ (List.getElem_mem h2)
    rw [List.getElem_map]
    exact cast_eq (K := Fin p) z3 a0 a1 b0 b1
  have nd : ((allZ p B.length).map (sumZ p L B)).Nodup := by
    refine List.pairwise_map.mpr ((allZ_nodup B.length).imp_of_mem fun {a b} ma mb q e => q ?_)
    rw [← key a ma, ← key b mb, e]
  have pm : found.Perm ((allZ p B.length).map (sumZ p L B)) := (List.perm_ext_iff_of_nodup k.1.nd nd).mpr fun xs => by
    rw [k.2, ← h.same, List.mem_map]
    constructor
    · rintro ⟨fs, hf, rfl⟩
      exact ⟨fs, allZ_mem.mpr hf, rfl⟩
    · rintro ⟨fs, hf, rfl⟩
      exact ⟨fs, allZ_mem.mp hf, rfl⟩
  rw [pm.length_eq, List.length_map, allZ_len]
/-- one of the basis alone -/
theorem Bas.single {T B : List (List Int)} {t : List Nat} (h : Bas p L T B t) {x : List Int × Nat} (m : x ∈ B.zip t) : Bas p L [x.1] [x.1] [x.2] := by
  obtain ⟨m1, m2⟩ := List.of_mem_zip (a := x.1) (b := x.2) m
  refine ⟨fun xs q => ?_, rfl, fun c q => ?_, fun y q => ?_, fun y q j hj => ?_, by simp, fun xs => Iff.rfl⟩
  · rw [List.mem_singleton.mp q]
    exact h.vec _ m1
  · rw [List.mem_singleton.mp q]
    exact h.top _ m2
  · rw [show y = x from List.mem_singleton.mp q]
    exact h.one x m
  · rw [show y = x from List.mem_singleton.mp q] at hj ⊢
    exact h.low x m j hj
theorem Bas.none : Bas p L [] [] [] where
  vec xs m := nomatch m
  len := rfl
  top c m := nomatch m
  one x m := nomatch m
  low x m := nomatch m
  two := .nil
  same _ := Iff.rfl
end
end LinA

set_option Elab.async false
set_option linter.all false
/-! LinE: the inverse by taking off, down to 1. -/
namespace LinA
/-- one and the other less and less, with what each is of the number -/
structure Eu (p a : Nat) (g l : Nat) (k f : Int) : Prop where
  g1 : Nat.Coprime g l
  l0 : 0 < l
  lg : l ≤ p
  gp : g ≤ p
  eg : (k * (a : Int) - (g : Int)) % (p : Int) = 0
  el : (f * (a : Int) - (l : Int)) % (p : Int) = 0
theorem Eu.start {p a : Nat} (c : Nat.Coprime p a) (a0 : 0 < a) (ap : a < p) : Eu p a p a 0 1 := by
  refine ⟨c, a0, by omega, Nat.le_refl _, ?_, ?_⟩
  · rw [Int.zero_mul, Int.zero_sub, Int.neg_emod_self]
  · rw [Int.one_mul, Int.sub_self, Int.zero_emod]
theorem Eu.step {p a g l : Nat} {k f : Int} (h : Eu p a g l k f) (l1 : 1 < l) : Eu p a l (g % l) f (k - ((g / l : Nat) : Int) * f) := by
  obtain ⟨g1, l0, lg, gp, eg, el⟩ := h
  have r0 : 0 < g % l := by
    refine Nat.pos_of_ne_zero fun e => ?_
    have d : l ∣ g := Nat.dvd_of_mod_eq_zero e
    have z : Nat.gcd g l = l := Nat.gcd_eq_right d
    have z2 : Nat.gcd g l = 1 := g1
    omega
  have rl : g % l < l := Nat.mod_lt _ l0
  refine ⟨?_, r0, by omega, lg, el, ?_⟩
  · have z : Nat.gcd g l = 1 := g1
    show Nat.gcd l (g % l) = 1
    rw [Nat.gcd_comm, ← Nat.gcd_rec, Nat.gcd_comm]
    exact z
  · have e1 : (g : Int) = ((g / l : Nat) : Int) * (l : Int) + ((g % l : Nat) : Int) := by
      have z := Nat.div_add_mod g l
      have z2 : (l : Int) * ((g / l : Nat) : Int) + ((g % l : Nat) : Int) = (g : Int) := by
        rw [← Int.natCast_mul, ← Int.natCast_add, z]
      rw [Int.mul_comm]
      exact z2.symm
    have e2 : (k - ((g / l : Nat) : Int) * f) * (a : Int) - ((g % l : Nat) : Int) = (k * (a : Int) - (g : Int)) - ((g / l : Nat) : Int) * (f * (a : Int) - (l : Int)) := by
      rw [Int.sub_mul, Int.mul_sub, Int.mul_assoc]
      generalize ((g / l : Nat) : Int) * (f * (a : Int)) = u at *
      generalize k * (a : Int) = v at *
      omega
    rw [e2]
    have d1 := Int.dvd_of_emod_eq_zero eg
    have d2 := Int.dvd_of_emod_eq_zero el
    exact Int.emod_eq_zero_of_dvd (Int.dvd_sub d1 (Int.dvd_mul_of_dvd_right d2))
theorem Eu.fin {p a g l : Nat} {k f : Int} (h : Eu p a g l k f) (p2 : 2 ≤ p) (l1 : ¬ 1 < l) : f * (a : Int) % (p : Int) = 1 := by
  obtain ⟨g1, l0, lg, gp, eg, el⟩ := h
  have e : l = 1 := by omega
  subst e
  obtain ⟨c, hc⟩ := Int.dvd_of_emod_eq_zero el
  have z : f * (a : Int) = 1 + (p : Int) * c := by
    have : ((1 : Nat) : Int) = 1 := rfl
    omega
  rw [z, Int.add_mul_emod_self_left]
  exact Int.emod_eq_of_lt (by omega) (by omega)
/-- there is one inverse alone -/
theorem inv_uniq {p a : Nat} {x y : Int} (c : Nat.Coprime p a) (p2 : 2 ≤ p) (hx : x * (a : Int) % (p : Int) = 1) (hy : y * (a : Int) % (p : Int) = 1) : x % (p : Int) = y % (p : Int) := by
  have e : x * 1 % (p : Int) = y * 1 % (p : Int) := by
    have e1 : x * (y * (a : Int)) % (p : Int) = y * (x * (a : Int)) % (p : Int) := by
      have : x * (y * (a : Int)) = y * (x * (a : Int)) := by
        rw [← Int.mul_assoc, ← Int.mul_assoc, Int.mul_comm x y]
      rw [this]
    have h1 : (1 : Int) % (p : Int) = 1 := Int.emod_eq_of_lt (by omega) (by omega)
    have a1 : x * (y * (a : Int)) % (p : Int) = x * 1 % (p : Int) := by
      rw [Int.mul_emod, hy, Int.mul_emod x 1, h1]
    have a2 : y * (x * (a : Int)) % (p : Int) = y * 1 % (p : Int) := by
      rw [Int.mul_emod, hx, Int.mul_emod y 1, h1]
    rw [← a1, ← a2, e1]
  rw [Int.mul_one, Int.mul_one] at e
  exact e
end LinA

set_option Elab.async false
set_option linter.all false
set_option maxRecDepth 100000
set_option maxHeartbeats 0
/-! Vb, part 1: the head. -/
namespace L2
namespace Vb
open PySem PySem.Spec PyProof.Rows
abbrev Pw : Program := PySem.Challenge.pw_truestops_k02_whole_bases
def topS (i : Nat) : Stmt := Pw.main.body.getD i (.Pass ⟨0, 0, 0, 0⟩)
def dG (x : Str) (i : Nat) : He.DefD := ⟨(x, none), x, x, defArgs (topS i), defBody (topS i), defScope (topS i), [], []⟩
def defs : List (Str × Nat) := [(("is_count" : Str), (10 : Nat)), (("is_prime" : Str), (11 : Nat)), (("require_prime" : Str), (12 : Nat)), (("is_number" : Str), (13 : Nat)), (("is_factor" : Str), (14 : Nat)), (("is_vector" : Str), (15 : Nat)), (("is_vector_of" : Str), (16 : Nat)), (("is_vectors" : Str), (17 : Nat)), (("inverse_of" : Str), (19 : Nat)), (("added_up" : Str), (20 : Nat)), (("pivot_row" : Str), (21 : Nat)), (("clear_column" : Str), (22 : Nat)), (("eliminated" : Str), (23 : Nat)), (("basis_of" : Str), (24 : Nat)), (("require_vectors" : Str), (26 : Nat)), (("require_some_vectors" : Str), (27 : Nat)), (("inverse" : Str), (28 : Nat)), (("combined" : Str), (29 : Nat)), (("reduced" : Str), (30 : Nat)), (("rank" : Str), (31 : Nat)), (("_law_purse" : Str), (33 : Nat)), (("_law_mixed" : Str), (34 : Nat)), (("_law_draw" : Str), (35 : Nat)), (("_law_purses" : Str), (36 : Nat)), (("_law_one_of" : Str), (37 : Nat)), (("_law_shuffled" : Str), (38 : Nat)), (("_law_numbers" : Str), (39 : Nat)), (("_law_vectors" : Str), (40 : Nat)), (("_law_sum_of" : Str), (41 : Nat)), (("_law_unlike" : Str), (42 : Nat)), (("_law_space" : Str), (43 : Nat)), (("_law_is_reduced" : Str), (44 : Nat)), (("_law_turn_into" : Str), (45 : Nat)), (("_law_inverses_right" : Str), (46 : Nat)), (("_law_combined_right" : Str), (47 : Nat)), (("_law_small_right" : Str), (48 : Nat)), (("_law_great_right" : Str), (49 : Nat)), (("law" : Str), (50 : Nat))]
def fn : List He.DefD := defs.map fun z => dG z.1 z.2
def frees : List Str := [("ValueError" : Str), ("all" : Str), ("int" : Str), ("len" : Str), ("list" : Str), ("max" : Str), ("min" : Str), ("range" : Str), ("repr" : Str), ("set" : Str), ("sorted" : Str), ("sum" : Str), ("type" : Str), ("zip" : Str)]
def fa : List He.Fa := frees.map He.Fa.free ++ ([He.Fa.int "GREATEST_PRIME" 65537, He.Fa.int "SMALL_PRODUCT" 64266330917908644872330635228106713310880186591609208114244758680898150367880703152525200743234420230] ++ ((defs.map fun z => He.Fa.glo z.1) ++ [He.Fa.glo "SMALL_PRIMES"]))
def loose : List Str := [("GREATEST_PRIME" : Str), ("SMALL_PRIMES" : Str), ("SMALL_PRODUCT" : Str), ("StopError" : Str), ("InvalidPrime" : Str), ("InvalidNumber" : Str), ("InvalidVectors" : Str), ("is_count" : Str), ("is_prime" : Str), ("require_prime" : Str), ("is_number" : Str), ("is_factor" : Str), ("is_vector" : Str), ("is_vector_of" : Str), ("is_vectors" : Str), ("inverse_of" : Str), ("added_up" : Str), ("pivot_row" : Str), ("clear_column" : Str), ("eliminated" : Str), ("basis_of" : Str), ("require_vectors" : Str), ("require_some_vectors" : Str), ("inverse" : Str), ("combined" : Str), ("reduced" : Str), ("rank" : Str), ("_law_purse" : Str), ("_law_mixed" : Str), ("_law_draw" : Str), ("_law_purses" : Str), ("_law_one_of" : Str), ("_law_shuffled" : Str), ("_law_numbers" : Str), ("_law_vectors" : Str), ("_law_sum_of" : Str), ("_law_unlike" : Str), ("_law_space" : Str), ("_law_is_reduced" : Str), ("_law_turn_into" : Str), ("_law_inverses_right" : Str), ("_law_combined_right" : Str), ("_law_small_right" : Str), ("_law_great_right" : Str)]
def SMALL_PRIMES_L : List Int := [2, 3, 5, 7, 11, 13, 17, 19, 23, 29, 31, 37, 41, 43, 47, 53, 59, 61, 67, 71, 73, 79, 83, 89, 97, 101, 103, 107, 109, 113, 127, 131, 137, 139, 149, 151, 157, 163, 167, 173, 179, 181, 191, 193, 197, 199, 211, 223, 227, 229, 233, 239, 241, 251]
def exB (K : PySem.W.Frag) : Bool := He.eqO (PySem.W.nsIn K mainGlobals "gcd") (some (some (.builtin "math.gcd"))) && (He.tupB K "SMALL_PRIMES" (SMALL_PRIMES_L.map He.Dv.int))
def ex (K : PySem.W.Frag) : Bool := exB K
abbrev R : PySem.W.OpenRow := PySem.W.OpenLaw.row PySem.Challenge.rw_truestops_k02_whole_bases
abbrev hk : PySem.W.Hook := He.hookX 3 fa fn [] [] ex
def ob (s : PySem.W.SharedT) : He.AlX := He.obsX 3 fa fn [] [] ex (HandSHeadRun.getT s)
theorem ob_eq (s : PySem.W.SharedT) : ob s = hk.obs s.abs := He.obsX_eq (HandSHeadRun.getT_eq s)
open HandSHeadRun PySem.W in
theorem run_a (w : World) : (wholeF (fun p => stepQ (denQ tabQ) p w) fenceQ 40000 R.prog).map (fun x => looksF R.prog x.1.heap x.2.abs) = some true := by kernel_rfl
open HandSHeadRun PySem.W in
theorem run_b (w : World) : (wholeF (fun p => stepQ (denQ tabQ) p w) fenceQ 40000 R.prog).map (fun x => seenQ (view R.prog [0, 50]) loose (importedModules R.prog.main.body) (fun s => xlAt (view R.prog [0, 50]) [] s && recOk R.toRowW.records s) x.2.abs) = some (openGood (view R.prog [0, 50]) loose) := by kernel_rfl
open HandSHeadRun PySem.W in
theorem run_c (w : World) : (wholeF (fun p => stepQ (denQ tabQ) p w) fenceQ 40000 R.prog).map (fun x => (ob x.2).2) = some true := by kernel_rfl
open HandSHeadRun PySem.W in
theorem run_d (w : World) : (wholeF (fun p => stepQ (denQ tabQ) p w) fenceQ 40000 R.prog).map (fun x => (ob x.2).1) = some (He.valT fn [] w) := by kernel_rfl
/-- four looks at one end are one look -/
theorem four {α β γ δ ε : Type} {o : Option α} {f : α → β} {g : α → γ} {h : α → δ} {k : α → ε} {b : β} {c : γ} {d : δ} {e : ε} (hf : o.map f = some b) (hg : o.map g = some c) (hh : o.map h = some d) (hk : o.map k = some e) :
    o.map (fun s => (f s, g s, (h s, k s))) = some (b, c, (d, e)) := by
  cases o with
  | none => cases hf
  | some x =>
    cases hf
    cases hg
    cases hh
    cases hk
    rfl
theorem run (w : World) : HandSHeadRun.RunEqI R (PySem.W.view R.prog [0, 50]) hk ob 40000 loose w := by
  have z := four (run_a w) (run_b w) (run_d w) (run_c w)
  exact z
end Vb
end L2

set_option Elab.async false
set_option linter.all false
set_option maxRecDepth 100000
set_option maxHeartbeats 4000000
/-! Vb, part 2: lists of lists of numbers; sorted of such. -/
namespace L2
namespace Vb
open PySem PySem.Spec PyProof.Rows
/-- b is the list of these numbers -/
def Rw (H : Hp) (b : Addr) (xs : List Int) : Prop := H b = some (.lst (xs.map V.int))
/-- they stand one by one -/
def Rws (H : Hp) (as : List Addr) (T : List (List Int)) : Prop := Paired (Rw H) as T
theorem Rws.mono {H H' : Hp} {as : List Addr} {T : List (List Int)} (h : Rws H as T) (k : ∀ b ∈ as, ∀ o, H b = some o → H' b = some o) : Rws H' as T := by
  induction h with
  | nil => exact .nil
  | cons p ps ih => exact .cons (k _ List.mem_cons_self _ p) (ih fun b m => k b (List.mem_cons_of_mem _ m))
theorem Rws.len {H : Hp} {as : List Addr} {T : List (List Int)} (h : Rws H as T) : as.length = T.length := by
  induction h with
  | nil => rfl
  | cons _ _ ih => exact congrArg (· + 1) ih
/-- a and its row -/
abbrev AR : Type := Addr × List Int
theorem rws_zip {H : Hp} {as : List Addr} {T : List (List Int)} (h : Rws H as T) : ∀ z ∈ as.zip T, Rw H z.1 z.2 := by
  induction h with
  | nil => exact fun z m => (List.not_mem_nil m).elim
  | cons p _ ih =>
    intro z m
    rcases List.mem_cons.mp m with q | q
    · rw [q]
      exact p
    · exact ih z q
theorem rws_of {H : Hp} : ∀ {zs : List AR}, (∀ z ∈ zs, Rw H z.1 z.2) → Rws H (zs.map (·.1)) (zs.map (·.2))
  | [], _ => .nil
  | z :: zs, h => .cons (h z List.mem_cons_self) (rws_of fun y m => h y (List.mem_cons_of_mem _ m))
def rSortedM (K : PySem.W.Frag) : List V → Hp → VK → Prop := fun vs H Q => ∃ (a : Addr) (as : List Addr) (T : List (List Int)), vs = [V.ref a] ∧ SqL K H a (as.map V.ref) ∧ Rws H as T ∧
  ∀ (as' : List Addr) (T' : List (List Int)) (p : Addr), Rws H as' T' → T'.Perm T → T'.Pairwise (· ≤ ·) → (∀ b ∈ as', b ∈ as) → H p = none → Q (.ref p) (upd H p (.lst (as'.map V.ref)))
theorem each_refs {R : Value → AR → Prop} (hR : ∀ z : AR, R (.ref z.1) z) : ∀ {zs : List AR} {its : List Value}, Vals ((zs.map (·.1)).map V.ref) its → PySem.W.EachIs R its zs
  | [], _, r => by
    cases r
    exact .nil
  | z :: zs, _, r => by
    cases r with
    | cons h t =>
      cases (show _ = Value.ref z.1 from h)
      exact .cons (hR z) (each_refs hR t)
theorem vals_refs {zs : List AR} : ∀ {out : List Value}, PySem.W.EachIs (fun v z => v = Value.ref z.1) out zs → Vals ((zs.map (·.1)).map V.ref) out := by
  induction zs with
  | nil =>
    intro out e
    cases e
    exact .nil
  | cons z zs ih =>
    intro out e
    cases e with
    | cons h t => exact .cons h (ih t)
theorem reads_ints {h : Heap} : ∀ {ts : List Value} {ns : List Int}, IntsAre ts ns → ReadsAll h ts (ns.map PyData.int) []
  | _, _, .nil => .nil
  | _, _, .cons n t r => .cons (.int n t) (reads_ints r)
abbrev rowD (z : AR) : PyData := .list (z.2.map PyData.int)
theorem row_depth (z : AR) : (rowD z).depth ≤ 1 := by
  show PyData.depth (.list (z.2.map PyData.int)) ≤ 1
  unfold PyData.depth
  rw [PySem.W.depth_ints]
  omega
theorem rows_alike (zs : List AR) : PySem.W.AllAlike (zs.map rowD) := .of fun a b => by
  show PySem.W.alike (.list (a.2.map .int)) (.list (b.2.map .int)) = true
  simp only [PySem.W.alike]
  exact PySem.W.alike_ints _ _
theorem rows_sortable (zs : List AR) : PySem.W.Sortable (zs.map rowD) := .others fun b => ⟨fun e => (nomatch e), fun xs e => (nomatch e)⟩
section
variable {X : Cx}
theorem cr_sortedM (hu : X.A.units + 8 < cLine) : CallR X (.builtin "sorted") (rSortedM X.K) := by
  intro pins s σ H vs us Q I r h
  obtain ⟨a, as, T, rfl, hs, hT, q⟩ := h
  obtain ⟨its, rv, hl, hz⟩ := I.list hs
  rw [Vals.ref1 r]
  have ln := hT.len
  have e1 : (as.zip T).map (·.1) = as := List.map_fst_zip (Nat.le_of_eq ln)
  have e2 : (as.zip T).map (·.2) = T := List.map_snd_zip (Nat.le_of_eq ln.symm)
  have hz2 := rws_zip hT
  have rv2 : Vals (((as.zip T).map (·.1)).map V.ref) its := by
    rw [e1]
    exact rv
  have mem : ∀ z ∈ as.zip T, ∃ bs, Reads s.heap (.ref z.1) (rowD z) bs := fun z m => by
    obtain ⟨_, ts, n, rt, e⟩ := (show ObjOk X.prog X.w H s.heap z.1 (.lst (z.2.map V.int)) from I.hok _ _ (hz2 z m))
    exact ⟨_, .list e rfl rfl (reads_ints rt.ints)⟩
  have ee : PySem.W.EachIs (fun v z => v = Value.ref z.1) its (as.zip T) := each_refs (fun _ => rfl) rv2
  have er : PySem.W.EachIs (fun v z => ∃ bs, Reads s.heap v (rowD z) bs) its (as.zip T) := (PySem.W.each_mem ee).mono fun v z ⟨e, m⟩ => by
    rw [e]
    exact mem z m
  have lz : (as.zip T).length = as.length := by rw [List.length_zip]; omega
  refine PySem.W.sorted_data hl.isList ee er (rows_alike _) (rows_sortable _) (by rw [lz]; rw [List.length_map] at hz; exact hz) (fun b m => by have d := row_depth b; omega) fun out lo eo => ?_
  have pm : ((as.zip T).mergeSort (PySem.W.dataLe false rowD)).Perm (as.zip T) := List.mergeSort_perm _ _
  have srt : ((as.zip T).mergeSort (PySem.W.dataLe false rowD)).Pairwise fun x y => x.2 ≤ y.2 := by
    have el : PySem.W.dataLe false rowD = fun p q : AR => decide (p.2 ≤ q.2) := PySem.W.dataLe_rows (fun z : AR => z.2)
    rw [el]
    refine (List.pairwise_mergeSort (le := fun p q : AR => decide (p.2 ≤ q.2)) (fun x y z h1 h2 => ?_) (fun x y => ?_) _).imp fun h => of_decide_eq_true h
    · exact decide_eq_true (List.le_trans (of_decide_eq_true h1) (of_decide_eq_true h2))
    · rcases List.le_total x.2 y.2 with w | w
      · exact Bool.or_eq_true_iff.mpr (.inl (decide_eq_true w))
      · exact Bool.or_eq_true_iff.mpr (.inr (decide_eq_true w))
  obtain ⟨ep, he'⟩ := PyProof.Rows.sortedAll_at s.heap its out.toArray
  have vo := vals_refs eo
  have ll : ((((as.zip T).mergeSort (PySem.W.dataLe false rowD)).map (·.1)).map V.ref).length ≤ sizeLine := by
    rw [List.length_map, List.length_map, pm.length_eq, lz]
    rw [List.length_map] at hz
    exact hz
  refine ⟨.ref _, upd H (s.heap.objs.size + 1) (.lst ((((as.zip T).mergeSort (PySem.W.dataLe false rowD)).map (·.1)).map V.ref)), I.laid (t' := s.toks) (fun _ _ => PyProof.Rows.sortedAll_old) (Nat.le_succ _) ⟨ll, out, ep, vo, he'⟩, rfl, ?_⟩
  refine q _ _ _ (rws_of fun z m => hz2 z (pm.mem_iff.mp m)) ?_ (List.pairwise_map.mpr srt) (fun b mb => ?_) (I.hok.fresh (Nat.le_succ _))
  · have z := pm.map (·.2)
    rw [e2] at z
    exact z
  · obtain ⟨y, my, rfl⟩ := List.mem_map.mp mb
    exact (List.of_mem_zip (a := y.1) (b := y.2) (pm.mem_iff.mp my)).1
end
end Vb
end L2

set_option Elab.async false
set_option linter.all false
set_option maxRecDepth 100000
set_option maxHeartbeats 4000000
/-! Vb, part 3: calls that the layer lacks: a global that is a built-in, isqrt, all of numbers. -/
namespace L2
namespace Vb
open PySem PySem.Spec PyProof.Rows
section
variable {X : Cx} {x : Str} {id : String} {r : List V → Hp → VK → Prop} {p pos : Pos} {e : Expr} {es : List Expr} {t : TA}
/-- f(e, ..), f an imported built-in -/
theorem pe_callImp (hc : CallR X (.builtin id) r) (hg : Gl X x) (hm : X.mg x = some (.builtin id)) (ha : PA X (e :: es) t) (hdb : (x == ("__debug__" : Str)) = false := by decide)
    (he : starEach (e :: es) X.env = (false, eval e X.env) :: starEach es X.env := by rfl) (hpl : (backTo pos (starEach es X.env)).any (·.1) = false := by rfl) : PE X (.Call (.Name x p) (e :: es) [] pos) (tCB r t) := by
  refine ⟨fun pins s σ H Q I h => ?_⟩
  refine wpAny_Call_Name_kw (ld_glob I hg hm ?_ hdb)
  exact PyProof.Rows.callWith_builtin1 (thn (ha.run pos pins s σ H _ I h) fun us s1 ⟨vs, H1, I1, r1, q1⟩ => hc pins s1 σ H1 vs us Q I1 r1 q1) he hpl
def rGcd : List V → Hp → VK → Prop := fun vs H Q => ∃ a b : Int, vs = [V.int a, V.int b] ∧ Q (.int ((a.natAbs.gcd b.natAbs : Nat) : Int)) H
theorem cr_gcd : CallR X (.builtin "math.gcd") rGcd := by
  intro pins s σ H vs us Q I rr h
  obtain ⟨a, b, rfl, q⟩ := h
  obtain ⟨u, v, rfl, ru, rv⟩ := vals2 rr
  obtain ⟨tk, rfl⟩ := (show ∃ tk, u = Value.int a tk from ru)
  obtain ⟨tl, rfl⟩ := (show ∃ tk, v = Value.int b tk from rv)
  exact PySem.W.mg_gcd fun _ => ⟨.int _, H, I.kept (t' := s.toks + 1) fun b o eo => eo, ⟨_, rfl⟩, q⟩
def rIsqrt : List V → Hp → VK → Prop := fun vs H Q => ∃ a : Int, vs = [V.int a] ∧ 0 ≤ a ∧ a < 2 ^ 64 ∧ Q (.int ((Float64.isqrt a.toNat : Nat) : Int)) H
theorem cr_isqrt : CallR X (.builtin "math.isqrt") rIsqrt := by
  intro pins s σ H vs us Q I rr h
  obtain ⟨a, rfl, h0, h1, q⟩ := h
  obtain ⟨u, rfl, ru⟩ := vals1 rr
  obtain ⟨tk, rfl⟩ := (show ∃ tk, u = Value.int a tk from ru)
  exact PySem.W.mg_isqrt h0 h1 ⟨.int _, H, I.kept (t' := s.toks + 1) fun b o eo => eo, ⟨_, rfl⟩, q⟩
theorem truth_ints {prog : Program} {w : World} {A : Around} {its : List Value} {ns : List Int} (e : IntsAre its ns) :
    TruthOf prog w A (fun i v => its.toArray[i]? = some v) (fun i => decide (ns.getD i 0 ≠ 0)) := fun i v s Q E hv hq => by
  have hv' : its[i]? = some v := by simpa using hv
  have key : ∃ n t, v = Value.int n t ∧ ns.getD i 0 = n := by
    clear hq hv
    induction e generalizing i with
    | nil => cases hv'
    | cons n t r ih =>
      cases i with
      | zero =>
        cases hv'
        exact ⟨n, t, rfl, rfl⟩
      | succ i => exact ih i hv'
  obtain ⟨n, t, rfl, en⟩ := key
  have hq' : Q (decide (ns.getD i 0 ≠ 0)) s := hq
  rw [en] at hq'
  have eb : (n != 0) = decide (n ≠ 0) := by
    by_cases h : n = 0
    · rw [h]
      rfl
    · rw [decide_eq_true h]
      exact bne_iff_ne.mpr h
  have hq2 : Q (n != 0) s := by
    rw [eb]
    exact hq'
  first | exact truthy_int hq2 | exact PyProof.Rows.truthy_int hq2 | exact PureInt.truthy_int hq2 | exact PySem.PureInt.truthy_int hq2 | exact PyProof.Rows.RuleU_int.truthy_int hq2
def rAllI (K : PySem.W.Frag) : List V → Hp → VK → Prop := fun vs H Q => ∃ (a : Addr) (ns : List Int), vs = [V.ref a] ∧ SqL K H a (ns.map V.int) ∧ Q (.bl (ns.all fun n => decide (n ≠ 0))) H
theorem all_rangeI : ∀ ns : List Int, (List.range ns.length).all (fun i => decide (ns.getD i 0 ≠ 0)) = ns.all fun n => decide (n ≠ 0)
  | [] => rfl
  | n :: ns => by
    rw [List.length_cons, List.range_succ_eq_map, List.all_cons, List.all_map, List.all_cons, ← all_rangeI ns]
    rfl
theorem cr_allI (hc : X.calm = true) : CallR X (.builtin "all") (rAllI X.K) := by
  intro pins s σ H vs us Q I r h
  obtain ⟨a, ns, rfl, hs, q⟩ := h
  obtain ⟨its, rv, hl, _⟩ := I.list hs
  rw [Vals.ref1 r]
  have hi := rv.ints
  refine call_all_walk (iter_any hl.isList fun s₂ e2 st hne => ?_)
  subst e2
  refine ⟨_, _, _, _, _, _, _, rfl, Walks.list (A := X.A.in1) (I.ok.hd hc) _ a hne its.toArray, st, truth_ints hi, fun h' tk hk => ?_⟩
  refine ⟨.bl _, H, I.kept fun b o eo => hk b o (fun hmem => ?_) (Heap.get?_push_of_some _ eo), ?_, q⟩
  · rcases List.mem_cons.mp hmem with e1 | hmem
    · exact absurd (e1 ▸ Heap.lt_size eo) (Nat.lt_irrefl _)
    · cases hmem
  · show Value.bool _ = Value.bool _
    rw [← all_rangeI, List.size_toArray, hi.length]
end
end Vb
end L2

set_option Elab.async false
set_option linter.all false
set_option maxRecDepth 100000
set_option maxHeartbeats 4000000
/-! Vb, part 4: numbers. -/
namespace L2
namespace Vb
open PySem PySem.Spec PyProof.Rows
theorem fun_of {K : PySem.W.Frag} {x q : Str} {st : Stmt} {f : Addr} {fd : FuncData} (F : FunD K x q (defArgs st) (defBody st) (defScope st) [] [] f fd) : Fun K x q st f fd := by
  obtain ⟨⟨oc, od, dV, kV, doc, pm, an, cdv, ct, osl, e, lk, hc, hD, _⟩, kp⟩ := F
  rcases hD with ⟨_, rfl⟩ | ⟨z, _⟩
  · exact ⟨⟨oc, od, kV, doc, pm, an, cdv, ct, osl, e, lk, hc⟩, kp⟩
  · exact absurd rfl z
abbrev sCount : Stmt := topS 10
abbrev sPrime : Stmt := topS 11
abbrev sReqP : Stmt := topS 12
abbrev sNumber : Stmt := topS 13
abbrev sFactor : Stmt := topS 14
theorem boot_int : bootBuiltins ("int" : Str) = some (.type "int") := by decide +kernel
theorem boot_list : bootBuiltins ("list" : Str) = some (.type "list") := by decide +kernel
theorem rel_int : RelV (.ty "int") (.type "int") := rfl
theorem rel_list : RelV (.ty "list") (.type "list") := rfl
def spCount : Sp := fun vs H Q _ => ∃ i : Int, vs = [.int i] ∧ Q (.bl (decide (0 ≤ i))) H
/-- the primes that the law asks of -/
def goods : List Int := [2, 3, 5, 7, 251, 257, 4099, 65521, 65537]
abbrev smallProduct : Int := 64266330917908644872330635228106713310880186591609208114244758680898150367880703152525200743234420230
/-- what the form asks of a number that is neither too small nor too great -/
def primI (p : Int) : Bool := inV (.int p) (SMALL_PRIMES_L.map V.int) || decide (((p.natAbs.gcd smallProduct.natAbs : Nat) : Int) = 1)
def goodB (p : Int) : Bool := decide (2 ≤ p) && (decide (p ≤ 65537) && primI p)
theorem goods_all : goods.all goodB = true := by decide +kernel
theorem good_facts (p : Int) (h : p ∈ goods) : 2 ≤ p ∧ p ≤ 65537 ∧ primI p = true := by
  have z := List.all_eq_true.mp goods_all p h
  obtain ⟨a, z⟩ := He.ba z
  obtain ⟨b, z⟩ := He.ba z
  exact ⟨of_decide_eq_true a, of_decide_eq_true b, z⟩
abbrev Prm (p : Nat) : Prop := ∀ d, 2 ≤ d → d < p → p % d ≠ 0
theorem prm_of {p : Nat} (hp : p < 257 * 257) (h : ((List.range 257).all fun d => decide (d < 2) || (decide (p ≤ d) || decide (p % d ≠ 0))) = true) : Prm p := fun d d2 dp e => by
  have key : ∀ k, 2 ≤ k → k < 257 → k < p → p % k ≠ 0 := fun k k2 k3 k4 => by
    have z := List.all_eq_true.mp h k (List.mem_range.mpr k3)
    rcases Bool.or_eq_true_iff.mp z with q | q
    · have := of_decide_eq_true q
      omega
    · rcases Bool.or_eq_true_iff.mp q with q | q
      · have := of_decide_eq_true q
        omega
      · exact of_decide_eq_true q
  by_cases q : d < 257
  · exact key d d2 q dp e
  · obtain ⟨c, hc⟩ := Nat.dvd_of_mod_eq_zero e
    have c257 : c < 257 := by
      refine Nat.lt_of_not_le fun z => ?_
      have z2 : 257 * 257 ≤ d * c := Nat.mul_le_mul (by omega) z
      omega
    have c2 : 2 ≤ c := by
      rcases Nat.lt_or_ge c 2 with z | z
      · have z2 : c = 0 ∨ c = 1 := by omega
        rcases z2 with z2 | z2
        · rw [z2, Nat.mul_zero] at hc
          omega
        · rw [z2, Nat.mul_one] at hc
          omega
      · exact z
    refine key c c2 c257 (by omega) ?_
    rw [hc]
    exact Nat.mul_mod_left d c
def goodP (p : Int) : Bool := decide (2 ≤ p) && (decide (p ≤ 65537) && (decide (p.toNat < 257 * 257) && ((List.range 257).all fun d => decide (d < 2) || (decide (p.toNat ≤ d) || decide (p.toNat % d ≠ 0)))))
theorem goodP_all : goods.all goodP = true := by decide +kernel
theorem good_prm {p : Nat} (h : (p : Int) ∈ goods) : 2 ≤ p ∧ p ≤ 65537 ∧ Prm p := by
  have z := List.all_eq_true.mp goodP_all _ h
  obtain ⟨a, z⟩ := He.ba z
  obtain ⟨b, z⟩ := He.ba z
  obtain ⟨c, z⟩ := He.ba z
  have a' := of_decide_eq_true a
  have b' := of_decide_eq_true b
  have c' := of_decide_eq_true c
  rw [Int.toNat_natCast] at c' z
  exact ⟨by omega, by omega, prm_of c' z⟩
theorem small_flat : (SMALL_PRIMES_L.map V.int).all flatV = true := by decide +kernel
theorem same_rfl {H : Hp} : Same H H := fun _ _ e => e
theorem same_trans {H H1 H2 : Hp} (a : Same H H1) (b : Same H1 H2) : Same H H2 := fun x o e => b x o (a x o e)
theorem same_new {H : Hp} {a : Addr} {o : HO} (h : H a = none) : Same H (upd H a o) := fun b u e => by rw [upd_ne (ne_of_none e h)]; exact e
theorem same_set {H H' : Hp} {a : Addr} {o : HO} (x : Same H H') (h : H a = none) : Same H (upd H' a o) := fun b u e => by rw [upd_ne (ne_of_none e h)]; exact x b u e
theorem pe_gint {X : Cx} {x : Str} {i : Int} {p : Pos} (hg : Gl X x) (h : ∃ t, X.mg x = some (.int i t)) (hd : (x == ("__debug__" : Str)) = false := by decide) : PE X (.Name x p) (tC (.int i)) := h.elim fun t e => pe_glob (v := .int i) hg e ⟨t, rfl⟩ hd
theorem tyes {σ : St} {H : Hp} {A B : Hp → Prop} (h : A H) : tYes σ H (fun b H3 => if b = true then A H3 else B H3) := iteT (B := B H) h
def spPrime : Sp := fun vs H Q _ => ∃ p : Int, vs = [.int p] ∧ p ∈ goods ∧ ∀ H', Same H H' → Q (.bl true) H'
section
variable {P : Program} {w : World} {K : PySem.W.Frag} {mg : Str → Option Value} {base : Heap}
theorem scCount : FnScope ["value"] ["value"] (defScope sCount) := ⟨rfl, rfl, rfl, by decide +kernel, rfl, by decide +kernel, by decide +kernel⟩
theorem ok_count {f : Addr} {fd : FuncData} (F : Fun K "is_count" "is_count" sCount f fd) (gT : mg "type" = none) (gI : mg "int" = none) : FnOk P w K mg base CX0 1 f fd ["value"] spCount := by
  refine F.ok scCount (fun vs H Q E h => ?_) (fun cdv A outer s H vs Q E hr h => ?_)
  · obtain ⟨i, rfl, _⟩ := h
    rfl
  · obtain ⟨i, rfl, want⟩ := h
    refine ⟨_, pss_one (ps_ret (pe_and (pe_cmpR op_isTy (pe_typeOf rfl gT (pv 0)) (pe_bltn rfl gI boot_int rel_int) (nomark _)) (pe_one (pe_cmpR op_ge (pv 0) pe_int (nomark _))))), ?_⟩
    refine ⟨_, rfl, _, rfl, _, _, rfl, rfl, _, rfl, iteT ?_⟩
    exact ⟨_, rfl, _, _, rfl, rfl, want⟩
theorem scPrime : FnScope ["value"] ["value"] (defScope sPrime) := ⟨rfl, rfl, rfl, by decide +kernel, rfl, by decide +kernel, by decide +kernel⟩
/-- the globals that the form of primes asks for -/
structure PrimG (K : PySem.W.Frag) (mg : Str → Option Value) : Prop where
  ty : mg "type" = none
  int : mg "int" = none
  great : ∃ t, mg "GREATEST_PRIME" = some (.int 65537 t)
  small : ∃ a, mg "SMALL_PRIMES" = some (.ref a) ∧ ∀ H : Hp, SqT K H a (SMALL_PRIMES_L.map V.int)
  prod : ∃ t, mg "SMALL_PRODUCT" = some (.int smallProduct t)
  gcd : mg "gcd" = some (.builtin "math.gcd")
theorem ok_prime {f : Addr} {fd : FuncData} (F : Fun K "is_prime" "is_prime" sPrime f fd) (g : PrimG K mg) :
    FnOk P w K mg base CX0 1 f fd ["value"] spPrime := by
  obtain ⟨gT, gI, gG, ⟨sa, gS, hS⟩, gP, gC⟩ := g
  refine F.ok scPrime (fun vs H Q E h => ?_) (fun cdv A outer s H vs Q E hr h => ?_)
  · obtain ⟨p, rfl, _⟩ := h
    rfl
  · obtain ⟨p, rfl, mp, want⟩ := h
    obtain ⟨p2, p6, pd⟩ := good_facts p mp
    refine ⟨_, pss_cons (ps_if (PW.pt (pw_or (pt_cmpR op_isNotTy (pe_typeOf rfl gT (pv 0)) (pe_bltn rfl gI boot_int rel_int) (nomark _)) (pw_or1 (pt_not (pt_chain op_le op_le pe_int (pv 0) (pe_gint rfl gG))))))
        (pss_one (ps_ret pe_bl)) pss_nil)
      (pss_one (ps_ret (pe_or (pe_cmpR op_in_seq (pv 0) (pe_glob (v := .ref sa) rfl gS rfl (by decide)) (by rfl)) (pe_one (pe_cmpR op_eq (pe_callImp cr_gcd rfl gC (pa_cons (pv 0) (pa_cons (pe_gint rfl gP) pa_nil))) pe_int (nomark _)))))), ?_⟩
    refine ⟨_, rfl, _, rfl, _, _, rfl, rfl, _, rfl, iteF ?_⟩
    refine ⟨_, rfl, _, _, rfl, rfl, _, rfl, ?_⟩
    rw [decide_eq_true p2]
    refine iteT ⟨_, _, rfl, rfl, _, rfl, ?_⟩
    rw [decide_eq_true p6]
    refine iteF ?_
    refine ⟨_, rfl, sa, _, rfl, .inr (hS _), rfl, small_flat, _, rfl, ?_⟩
    cases e : inV (.int p) (SMALL_PRIMES_L.map V.int) with
    | true => exact iteT (want H same_rfl)
    | false =>
      refine iteF ⟨_, rfl, p, smallProduct, rfl, rfl, ?_⟩
      have z : decide (((p.natAbs.gcd smallProduct.natAbs : Nat) : Int) = 1) = true := by
        unfold primI at pd
        rw [e, Bool.false_or] at pd
        exact pd
      have z2 : decide (V.int ((p.natAbs.gcd smallProduct.natAbs : Nat) : Int) = V.int 1) = true := decide_eq_true (congrArg V.int (of_decide_eq_true z))
      rw [z2]
      exact want H same_rfl
def spReqP : Sp := fun vs H Q _ => ∃ p : Int, vs = [.int p] ∧ p ∈ goods ∧ ∀ H', Same H H' → Q .non H'
theorem scReqP : FnScope ["prime"] ["prime"] (defScope sReqP) := ⟨rfl, rfl, rfl, by decide +kernel, rfl, by decide +kernel, by decide +kernel⟩
theorem ok_reqP {f fP : Addr} {fd fdP : FuncData} (F : Fun K "require_prime" "require_prime" sReqP f fd) (FP : Fun K "is_prime" "is_prime" sPrime fP fdP) (GP : FnOk P w K mg base CX0 1 fP fdP ["value"] spPrime) (gP : mg "is_prime" = some (.ref fP)) :
    FnOk P w K mg base CX0 2 f fd ["prime"] spReqP := by
  have bP : Binds K fdP ["value"] [] := FP.binds fun _ _ _ _ _ _ us hl => match us, hl with | [_], _ => rfl
  refine F.ok scReqP (fun vs H Q E h => ?_) (fun cdv A outer s H vs Q E hr h => ?_)
  · obtain ⟨p, rfl, _⟩ := h
    rfl
  · obtain ⟨p, rfl, mp, want⟩ := h
    refine ⟨_, pss_one (ps_if (pt_not (pt_val (pe_call GP hr rfl gP FP.kp bP .nil pass0 (pa_cons (pv 0) pa_nil)))) pss_never pss_nil), ?_⟩
    exact ⟨_, rfl, p, rfl, mp, fun H' sm => ⟨_, rfl, iteF (want H' sm)⟩⟩
def spNumber : Sp := fun vs H Q _ => ∃ p v : Int, vs = [.int p, .int v] ∧ 0 ≤ v ∧ v < p ∧ Q (.bl true) H
theorem scNumber : FnScope ["prime", "value"] ["prime", "value"] (defScope sNumber) := ⟨rfl, rfl, rfl, by decide +kernel, rfl, by decide +kernel, by decide +kernel⟩
theorem ok_number {f fC : Addr} {fd fdC : FuncData} (F : Fun K "is_number" "is_number" sNumber f fd) (FC : Fun K "is_count" "is_count" sCount fC fdC) (GC : FnOk P w K mg base CX0 1 fC fdC ["value"] spCount) (gC : mg "is_count" = some (.ref fC)) :
    FnOk P w K mg base CX0 2 f fd ["prime", "value"] spNumber := by
  have bC : Binds K fdC ["value"] [] := FC.binds fun _ _ _ _ _ _ us hl => match us, hl with | [_], _ => rfl
  refine F.ok scNumber (fun vs H Q E h => ?_) (fun cdv A outer s H vs Q E hr h => ?_)
  · obtain ⟨p, v, rfl, _⟩ := h
    rfl
  · obtain ⟨p, v, rfl, v0, v1, want⟩ := h
    refine ⟨_, pss_one (ps_ret (pe_and (pe_call GC hr rfl gC FC.kp bC .nil pass0 (pa_cons (pv 1) pa_nil)) (pe_one (pe_cmpR op_lt (pv 1) (pv 0) (nomark _))))), ?_⟩
    refine ⟨_, rfl, v, rfl, _, rfl, ?_⟩
    rw [decide_eq_true v0]
    refine iteT ⟨_, rfl, _, rfl, _, _, rfl, rfl, ?_⟩
    show Q (.bl (decide (v < p))) H
    rw [decide_eq_true v1]
    exact want
def spFactor : Sp := fun vs H Q _ => ∃ p v : Int, vs = [.int p, .int v] ∧ 0 < v ∧ v < p ∧ Q (.bl true) H
theorem scFactor : FnScope ["prime", "value"] ["prime", "value"] (defScope sFactor) := ⟨rfl, rfl, rfl, by decide +kernel, rfl, by decide +kernel, by decide +kernel⟩
theorem ok_factor {f fN : Addr} {fd fdN : FuncData} (F : Fun K "is_factor" "is_factor" sFactor f fd) (FN : Fun K "is_number" "is_number" sNumber fN fdN) (GN : FnOk P w K mg base CX0 2 fN fdN ["prime", "value"] spNumber) (gN : mg "is_number" = some (.ref fN)) :
    FnOk P w K mg base CX0 3 f fd ["prime", "value"] spFactor := by
  have bN : Binds K fdN ["prime", "value"] [] := FN.binds fun _ _ _ _ _ _ us hl => match us, hl with | [_, _], _ => rfl
  refine F.ok scFactor (fun vs H Q E h => ?_) (fun cdv A outer s H vs Q E hr h => ?_)
  · obtain ⟨p, v, rfl, _⟩ := h
    rfl
  · obtain ⟨p, v, rfl, v0, v1, want⟩ := h
    refine ⟨_, pss_one (ps_ret (pe_and (pe_call GN hr rfl gN FN.kp bN .nil pass0 (pa_cons (pv 0) (pa_cons (pv 1) pa_nil))) (pe_one (pe_cmpR op_gt (pv 1) pe_int (nomark _))))), ?_⟩
    refine ⟨_, rfl, _, rfl, p, v, rfl, by omega, v1, _, rfl, iteT ?_⟩
    refine ⟨_, rfl, _, _, rfl, rfl, ?_⟩
    show Q (.bl (decide (0 < v))) H
    rw [decide_eq_true v0]
    exact want
end
end Vb
end L2

set_option Elab.async false
set_option linter.all false
set_option maxRecDepth 100000
set_option maxHeartbeats 4000000
/-! Vb, part 5: what is a vector. -/
namespace L2
namespace Vb
open PySem PySem.Spec PyProof.Rows
abbrev sVector : Stmt := topS 15
abbrev sVectorOf : Stmt := topS 16
abbrev sVectors : Stmt := topS 17
/-- L numbers, each below p -/
def Vc (p : Int) (L : Nat) (xs : List Int) : Prop := xs.length = L ∧ ∀ x ∈ xs, 0 ≤ x ∧ x < p
def spVector : Sp := fun vs H Q _ => ∃ (p : Int) (b : Addr) (xs : List Int) (L : Nat), vs = [.int p, .ref b] ∧ Rw H b xs ∧ Vc p L xs ∧ L ≤ 1000 ∧ ∀ H', Same H H' → Q (.bl true) H'
def spVectors : Sp := fun vs H Q _ => ∃ (p : Int) (m : Addr) (as : List Addr) (T : List (List Int)) (L : Nat), vs = [.int p, .ref m] ∧ H m = some (.lst (as.map V.ref)) ∧ Rws H as T ∧ (∀ xs ∈ T, Vc p L xs) ∧ L ≤ 1000 ∧ T.length ≤ 1000 ∧ ∀ H', Same H H' → Q (.bl true) H'
theorem all_true (n : Nat) : (List.replicate n true).all id = true := by simp
theorem trues_succ (n : Nat) : (List.replicate n true).map V.bl ++ [V.bl true] = (List.replicate (n + 1) true).map V.bl := by
  rw [List.replicate_succ', List.map_append]
  rfl
theorem mem_ints {xs : List Int} {i : Nat} {x : V} (h : (xs.map V.int)[i]? = some x) : ∃ n, x = .int n ∧ n ∈ xs ∧ xs[i]? = some n := by
  rw [List.getElem?_map] at h
  obtain ⟨n, hn, e⟩ := Option.map_eq_some_iff.mp h
  exact ⟨n, e.symm, List.mem_of_getElem? hn, hn⟩
section
variable {P : Program} {w : World} {K : PySem.W.Frag} {mg : Str → Option Value} {base : Heap}
theorem scVector : FnScope ["prime", "value", "number"] ["prime", "value"] (defScope sVector) := ⟨rfl, rfl, rfl, by decide +kernel, rfl, by decide +kernel, by decide +kernel⟩
theorem ok_vector {f fN : Addr} {fd fdN : FuncData} (F : Fun K "is_vector" "is_vector" sVector f fd) (FN : Fun K "is_number" "is_number" sNumber fN fdN) (GN : FnOk P w K mg base CX0 2 fN fdN ["prime", "value"] spNumber) (gN : mg "is_number" = some (.ref fN))
    (gT : mg "type" = none) (gL : mg "list" = none) (gA : mg "all" = none) : FnOk P w K mg base CX0 3 f fd ["prime", "value"] spVector := by
  have bN : Binds K fdN ["prime", "value"] [] := FN.binds fun _ _ _ _ _ _ us hl => match us, hl with | [_, _], _ => rfl
  refine F.ok scVector (fun vs H Q E h => ?_) (fun cdv A outer s H vs Q E hr h => ?_)
  · obtain ⟨p, b, xs, L, rfl, _⟩ := h
    rfl
  · obtain ⟨p, b, xs, L, rfl, hb, hv, hL, want⟩ := h
    have hb : H b = some (.lst (xs.map V.int)) := hb
    refine ⟨_, pss_one (ps_ret (pe_and (pe_cmpR op_isTy (pe_typeOf rfl gT (pv 1)) (pe_bltn rfl gL boot_list rel_list) (nomark _)) (pe_one (pe_callB (cr_all rfl) (by rfl) gA boot_all (pa_cons (pe_lc (own := [("number", 2)]) (g := gName 2) (tt := tYes) rfl scVector.nd
      (pi_list (pv 1)) (blkOk_by (N := ["prime", "value", "number"]) (sc := defScope sVector) (by decide +kernel)) (fun _ _ _ _ _ => pg_name (i := 2) scVector.nd rfl (Or.inl rfl)) (fun _ _ _ _ _ => pts_nil)
      (fun _ _ _ _ _ => pe_call GN hr rfl gN FN.kp bN .nil pass0 (pa_cons (pv 0) (pa_cons (pv 2) pa_nil)))) pa_nil))))), ?_⟩
    refine ⟨_, rfl, "list", by simp only [zTyV, hb], _, _, rfl, rfl, _, rfl, iteT ?_⟩
    refine ⟨_, rfl, b, rfl, ⟨xs.map V.int, SqL.of hb⟩, ?_⟩
    intro D hD
    refine lc_list (fun k H' => Same H H' ∧ H' D = some (.lst ((List.replicate k true).map V.bl))) ⟨same_new hD, upd_same⟩ (fun i H' _ z => SqL.of (z.1 _ _ hb)) ?_ ?_
    · rintro k x H' hx ⟨sm, hDl⟩
      obtain ⟨n, rfl, mn, hn⟩ := mem_ints hx
      have kl : k < xs.length := (List.getElem?_eq_some_iff.mp hn).1
      obtain ⟨n0, n1⟩ := hv.2 n mn
      refine ⟨rfl, tyes ?_⟩
      refine ⟨_, rfl, _, rfl, p, n, rfl, n0, n1, ?_⟩
      refine ⟨_, hDl, by rw [List.length_map, List.length_replicate, sizeLine_eq]; have := hv.1; omega, same_set sm hD, ?_⟩
      rw [upd_same, trues_succ]
    · rintro H' ⟨sm, hDl⟩
      refine ⟨D, _, rfl, SqL.of hDl, ?_⟩
      rw [all_true]
      exact want H' sm
def spVectorOf : Sp := fun vs H Q _ => ∃ (p : Int) (b : Addr) (xs : List Int) (L : Nat), vs = [.int p, .ref b, .int (L : Int)] ∧ Rw H b xs ∧ Vc p L xs ∧ L ≤ 1000 ∧ ∀ H', Same H H' → Q (.bl true) H'
theorem scVectorOf : FnScope ["prime", "value", "length"] ["prime", "value", "length"] (defScope sVectorOf) := ⟨rfl, rfl, rfl, by decide +kernel, rfl, by decide +kernel, by decide +kernel⟩
theorem ok_vectorOf {f fV : Addr} {fd fdV : FuncData} (F : Fun K "is_vector_of" "is_vector_of" sVectorOf f fd) (FV : Fun K "is_vector" "is_vector" sVector fV fdV) (GV : FnOk P w K mg base CX0 3 fV fdV ["prime", "value"] spVector) (gV : mg "is_vector" = some (.ref fV)) (gN : mg "len" = none) :
    FnOk P w K mg base CX0 4 f fd ["prime", "value", "length"] spVectorOf := by
  have bV : Binds K fdV ["prime", "value"] [] := FV.binds fun _ _ _ _ _ _ us hl => match us, hl with | [_, _], _ => rfl
  refine F.ok scVectorOf (fun vs H Q E h => ?_) (fun cdv A outer s H vs Q E hr h => ?_)
  · obtain ⟨p, b, xs, L, rfl, _⟩ := h
    rfl
  · obtain ⟨p, b, xs, L, rfl, hb, hv, hL, want⟩ := h
    refine ⟨_, pss_one (ps_ret (pe_and (pe_call GV hr rfl gV FV.kp bV .nil pass0 (pa_cons (pv 0) (pa_cons (pv 1) pa_nil))) (pe_one (pe_cmpR op_eq (pe_callB call_len_seq (by rfl) gN PySem.boot_len (pa_cons (pv 1) pa_nil)) (pv 2) (nomark _))))), ?_⟩
    refine ⟨_, rfl, _, rfl, p, b, xs, L, rfl, hb, hv, hL, fun H' sm => ⟨_, rfl, iteT ?_⟩⟩
    have hb2 : H' b = some (.lst (xs.map V.int)) := sm _ _ hb
    refine ⟨_, rfl, b, _, rfl, .inl (SqL.of hb2), _, rfl, ?_⟩
    refine ⟨rfl, ?_⟩
    show Q (.bl (decide (V.int ((xs.map V.int).length : Int) = V.int (L : Int)))) H'
    rw [List.length_map, hv.1, decide_eq_true rfl]
    exact want H' sm
def rLenQ (K : PySem.W.Frag) : List V → Hp → VK → Prop := fun xs H Q => ∃ p ys, xs = [.ref p] ∧ (SqL K H p ys ∨ SqT K H p ys) ∧ Q (.int ys.length) H
theorem scVectors : FnScope ["prime", "value", "vector"] ["prime", "value"] (defScope sVectors) := ⟨rfl, rfl, rfl, by decide +kernel, rfl, by decide +kernel, by decide +kernel⟩
theorem rws_at {H : Hp} {as : List Addr} {T : List (List Int)} (h : Rws H as T) : ∀ {i : Nat} {x : V}, (as.map V.ref)[i]? = some x → ∃ b xs, x = .ref b ∧ Rw H b xs ∧ xs ∈ T ∧ T[i]? = some xs ∧ as[i]? = some b := by
  induction h with
  | nil =>
    intro i x e
    cases e
  | @cons b xs as T p ps ih =>
    intro i x e
    cases i with
    | zero =>
      cases e
      exact ⟨b, xs, rfl, p, List.mem_cons_self, rfl, rfl⟩
    | succ i =>
      obtain ⟨c, ys, e1, e2, e3, e4, e5⟩ := ih (i := i) (x := x) e
      exact ⟨c, ys, e1, e2, List.mem_cons_of_mem _ e3, e4, e5⟩
theorem ok_vectors {f fV : Addr} {fd fdV : FuncData} (F : Fun K "is_vectors" "is_vectors" sVectors f fd) (FV : Fun K "is_vector" "is_vector" sVector fV fdV) (GV : FnOk P w K mg base CX0 3 fV fdV ["prime", "value"] spVector) (gV : mg "is_vector" = some (.ref fV))
    (gT : mg "type" = none) (gL : mg "list" = none) (gA : mg "all" = none) (gN : mg "len" = none) : FnOk P w K mg base CX0 4 f fd ["prime", "value"] spVectors := by
  have bV : Binds K fdV ["prime", "value"] [] := FV.binds fun _ _ _ _ _ _ us hl => match us, hl with | [_, _], _ => rfl
  refine F.ok scVectors (fun vs H Q E h => ?_) (fun cdv A outer s H vs Q E hr h => ?_)
  · obtain ⟨p, m, as, T, L, rfl, _⟩ := h
    rfl
  · obtain ⟨p, m, as, T, L, rfl, hm, hT, hv, hL, tL, want⟩ := h
    have la := hT.len
    refine ⟨_, pss_cons (ps_if (PW.pt (pw_or (pt_cmpR op_isNotTy (pe_typeOf rfl gT (pv 1)) (pe_bltn rfl gL boot_list rel_list) (nomark _)) (pw_or1 (pt_not (pt_val (pe_callB (cr_all rfl) (by rfl) gA boot_all (pa_cons (pe_lc (own := [("vector", 2)]) (g := gName 2) (tt := tYes) rfl scVectors.nd
        (pi_list (pv 1)) (blkOk_by (N := ["prime", "value", "vector"]) (sc := defScope sVectors) (by decide +kernel)) (fun _ _ _ _ _ => pg_name (i := 2) scVectors.nd rfl (Or.inl rfl)) (fun _ _ _ _ _ => pts_nil)
        (fun _ _ _ _ _ => pe_call GV hr rfl gV FV.kp bV .nil pass0 (pa_cons (pv 0) (pa_cons (pv 2) pa_nil)))) pa_nil)))))))
        pss_never pss_nil)
      (pss_one (ps_ret (pe_callB (cr_all rfl) (by rfl) gA boot_all (pa_cons (pe_lc (own := [("vector", 2)]) (g := gName 2) (tt := tYes) (te := tOp rEq (tCB (rLenQ K) (tCons (tVar 2) tNil)) (tCB (rLenQ K) (tCons (tOp (rIxL K) (tVar 1) (tC (.int 0))) tNil))) rfl scVectors.nd
        (pi_list (pv 1)) (blkOk_by (N := ["prime", "value", "vector"]) (sc := defScope sVectors) (by decide +kernel)) (fun _ _ _ _ _ => pg_name (i := 2) scVectors.nd rfl (Or.inl rfl)) (fun _ _ _ _ _ => pts_nil)
        (fun _ _ _ _ _ => pe_cmpR op_eq (pe_callB call_len_seq (by rfl) gN PySem.boot_len (pa_cons (pv 2) pa_nil)) (pe_callB call_len_seq (by rfl) gN PySem.boot_len (pa_cons (pe_ix ix_list (pv 1) pe_int (fun _ _ => rfl)) pa_nil)) (nomark _))) pa_nil)))), ?_⟩
    refine ⟨_, rfl, "list", by simp only [zTyV, hm], _, _, rfl, rfl, _, rfl, iteF ?_⟩
    refine ⟨_, rfl, m, rfl, ⟨as.map V.ref, SqL.of hm⟩, ?_⟩
    intro D hD
    refine lc_list (fun k H' => Same H H' ∧ H' D = some (.lst ((List.replicate k true).map V.bl))) ⟨same_new hD, upd_same⟩ (fun i H' _ z => SqL.of (z.1 _ _ hm)) ?_ ?_
    · rintro k x H' hx ⟨sm, hDl⟩
      obtain ⟨b, xs, rfl, hb, mx, _, hk⟩ := rws_at hT hx
      have kl : k < as.length := (List.getElem?_eq_some_iff.mp hk).1
      refine ⟨rfl, tyes ?_⟩
      refine ⟨_, rfl, _, rfl, p, b, xs, L, rfl, sm _ _ hb, hv xs mx, hL, fun H2 s2 => ?_⟩
      refine ⟨_, s2 _ _ hDl, by rw [List.length_map, List.length_replicate, sizeLine_eq]; omega, same_set (same_trans sm s2) hD, ?_⟩
      rw [upd_same, trues_succ]
    · rintro H1 ⟨sm, hDl⟩
      refine ⟨D, _, rfl, SqL.of hDl, ?_⟩
      rw [all_true]
      refine ⟨_, rfl, iteF ?_⟩
      refine ⟨_, rfl, m, rfl, ⟨as.map V.ref, SqL.of (sm _ _ hm)⟩, ?_⟩
      intro D2 hD2
      refine lc_list (fun k H' => Same H1 H' ∧ H' D2 = some (.lst ((List.replicate k true).map V.bl))) ⟨same_new hD2, upd_same⟩ (fun i H' _ z => SqL.of (z.1 _ _ (sm _ _ hm))) ?_ ?_
      · rintro k x H' hx ⟨s2, hD2l⟩
        obtain ⟨b, xs, rfl, hb, mx, _, hk⟩ := rws_at hT hx
        have kl : k < as.length := (List.getElem?_eq_some_iff.mp hk).1
        have h0 : (as.map V.ref)[0]? = some ((as.map V.ref)[0]'(by rw [List.length_map]; omega)) := List.getElem?_eq_getElem _
        obtain ⟨b0, xs0, e0, hb0, m0, _, _⟩ := rws_at hT h0
        have s3 := same_trans sm s2
        refine ⟨rfl, tyes ?_⟩
        refine ⟨_, rfl, b, _, rfl, .inl (SqL.of (s3 _ _ hb)), _, rfl, m, _, 0, _, rfl, rfl, SqL.of (s3 _ _ hm), atI_nat (j := 0) h0, ?_⟩
        rw [e0]
        refine ⟨b0, _, rfl, .inl (SqL.of (s3 _ _ hb0)), ?_⟩
        have el : decide (V.int ((xs.map V.int).length : Int) = V.int ((xs0.map V.int).length : Int)) = true := by
          rw [List.length_map, List.length_map, (hv xs mx).1, (hv xs0 m0).1]
          exact decide_eq_true rfl
        refine ⟨rfl, _, hD2l, by rw [List.length_map, List.length_replicate, sizeLine_eq]; omega, same_set s2 hD2, ?_⟩
        rw [upd_same, el, trues_succ]
      · rintro H3 ⟨s2, hD2l⟩
        refine ⟨D2, _, rfl, SqL.of hD2l, ?_⟩
        rw [all_true]
        exact want H3 (same_trans sm s2)
end
end Vb
end L2

set_option Elab.async false
set_option linter.all false
set_option maxRecDepth 100000
set_option maxHeartbeats 4000000
/-! Vb, part 6: the inverse. -/
namespace L2
namespace Vb
open PySem PySem.Spec PyProof.Rows
abbrev sInvOf : Stmt := topS 19
def spInvOf : Sp := fun vs H Q _ => ∃ p a : Nat, vs = [.int (p : Int), .int (a : Int)] ∧ 2 ≤ p ∧ p ≤ 65537 ∧ Prm p ∧ 0 < a ∧ a < p ∧ ∀ H', Same H H' → Q (.int ((a ^ (p - 2) % p : Nat) : Int)) H'
theorem inv_pow {p a : Nat} (pr : Prm p) (p2 : 2 ≤ p) (a0 : 0 < a) (ap : a < p) : ((a ^ (p - 2) % p : Nat) : Int) * (a : Int) % (p : Int) = 1 := by
  have f := LinA.fermat pr p2 a0 ap
  have z : a ^ (p - 2) % p * a % p = 1 := by
    rw [Nat.mul_mod, Nat.mod_mod, ← Nat.mul_mod, ← Nat.pow_succ]
    have e2 : (p - 2).succ = p - 1 := by omega
    rw [e2]
    exact f
  rw [← Int.natCast_mul, ← Int.natCast_emod, z]
  rfl
theorem eu_end {p a g l : Nat} {k f : Int} (pr : Prm p) (p2 : 2 ≤ p) (a0 : 0 < a) (ap : a < p) (h : LinA.Eu p a g l k f) (l1 : ¬ 1 < l) : f % (p : Int) = ((a ^ (p - 2) % p : Nat) : Int) := by
  have z := LinA.inv_uniq (LinA.cop pr a0 ap) p2 (h.fin p2 l1) (inv_pow pr p2 a0 ap)
  rw [z]
  have lt : a ^ (p - 2) % p < p := Nat.mod_lt _ (by omega)
  exact Int.emod_eq_of_lt (by omega) (by omega)
section
variable {P : Program} {w : World} {K : PySem.W.Frag} {mg : Str → Option Value} {base : Heap}
abbrev nInvOf : List Str := ["prime", "number", "greater", "less", "known", "found", "times"]
theorem scInvOf : FnScope nInvOf ["prime", "number"] (defScope sInvOf) := ⟨rfl, rfl, rfl, by decide +kernel, rfl, by decide +kernel, by decide +kernel⟩
theorem ok_invOf {f : Addr} {fd : FuncData} (F : Fun K "inverse_of" "inverse_of" sInvOf f fd) : FnOk P w K mg base CX0 1 f fd ["prime", "number"] spInvOf := by
  refine F.ok scInvOf (fun vs H Q E h => ?_) (fun cdv A outer s H vs Q E hr h => ?_)
  · obtain ⟨p, a, rfl, _⟩ := h
    rfl
  · obtain ⟨p, a, rfl, p2, p6, pr, a0, ap, want⟩ := h
    refine ⟨_, (pss_cons (ps_par (i := 2) (j := 3) (by rfl) scInvOf.nd rfl rfl (by decide) rfl rfl (pa_cons (pv 0) (pa_cons (pv 1) pa_nil)) (by rfl))
      (pss_cons (ps_asg (pe_tup (pa_cons pe_int (pa_cons pe_int pa_nil))) (pg_tup rfl (pgs_cons (pg_name (i := 4) scInvOf.nd rfl (Or.inl rfl)) (pgs_cons (pg_name (i := 5) scInvOf.nd rfl (Or.inl rfl)) pgs_nil))))
      (pss_cons (ps_while PassesOwn.never (pt_cmpR op_gt (pv 3) pe_int (nomark _))
        (pss_cons (ps_set (i := 6) scInvOf.nd rfl (Or.inl rfl) (pe_op op_fdiv (pv 2) (pv 3)))
          (pss_cons (ps_par (i := 2) (j := 3) (by rfl) scInvOf.nd rfl rfl (by decide) rfl rfl (pa_cons (pv 3) (pa_cons (pe_op op_sub (pv 2) (pe_op op_mul (pv 6) (pv 3))) pa_nil)) (by rfl))
          (pss_one (ps_par (i := 4) (j := 5) (by rfl) scInvOf.nd rfl rfl (by decide) rfl rfl (pa_cons (pv 5) (pa_cons (pe_op op_sub (pv 4) (pe_op op_mul (pv 6) (pv 5))) pa_nil)) (by rfl))))))
      (pss_one (ps_ret (pe_op op_mod (pv 5) (pv 0))))))), ?_⟩
    refine ⟨_, rfl, _, rfl, _, _, rfl, ?_⟩
    refine ⟨by decide, fun t ht => ?_⟩
    refine ⟨t, _, rfl, SqT.of upd_same, rfl, _, _, rfl, ?_⟩
    refine ⟨_, _, rfl, rfl, ?_⟩
    have sm := same_new (o := .tup [V.int 0, V.int 1]) ht
    refine while_by (fun σ H' => ∃ (g l : Nat) (k e : Int) (x : Option V), σ = [some (.int (p : Int)), some (.int (a : Int)), some (.int (g : Int)), some (.int (l : Int)), some (.int k), some (.int e), x] ∧ H' = upd H t (.tup [V.int 0, V.int 1]) ∧ LinA.Eu p a g l k e)
      (fun σ _ => match σ with | [_, _, _, some (.int l), _, _, _] => l.toNat | _ => 0) ⟨p, a, 0, 1, none, rfl, rfl, LinA.Eu.start (LinA.cop pr a0 ap) a0 ap⟩ ?_ ?_
    · rintro σ H' ⟨g, l, k, e, x, rfl, rfl, inv⟩
      refine ⟨_, rfl, _, _, rfl, rfl, _, rfl, ?_⟩
      by_cases hl : 1 < l
      · have z : decide ((1 : Int) < (l : Int)) = true := decide_eq_true (by omega)
        rw [z]
        refine iteT ?_
        obtain ⟨g1, l0, lg, gp, _, _⟩ := id inv
        have q6 : g / l ≤ 65537 := Nat.le_trans (Nat.div_le_self _ _) (by omega)
        refine ⟨_, rfl, _, rfl, (g : Int), (l : Int), rfl, rfl, ⟨by omega, by omega⟩, ?_⟩
        have q7 : (0 : Int) ≤ ((g / l : Nat) : Int) := Int.natCast_nonneg _
        have q8 : ((g / l : Nat) : Int) ≤ (65537 : Nat) := Int.ofNat_le.mpr q6
        have q9 : CMul ((g / l : Nat) : Int) (l : Int) := .inl ⟨Int.lt_of_lt_of_le (by decide) q7, Int.lt_of_le_of_lt q8 (by decide)⟩
        have q10 : CMul ((g / l : Nat) : Int) e := .inl ⟨Int.lt_of_lt_of_le (by decide) q7, Int.lt_of_le_of_lt q8 (by decide)⟩
        refine ⟨_, rfl, _, rfl, _, rfl, _, rfl, ((g / l : Nat) : Int), (l : Int), rfl, rfl, q9, _, _, rfl, rfl, _, _, rfl, ?_⟩
        refine ⟨_, rfl, _, rfl, _, rfl, _, rfl, ((g / l : Nat) : Int), e, rfl, rfl, q10, _, _, rfl, rfl, _, _, rfl, ?_⟩
        have e2 : (g : Int) - ((g / l : Nat) : Int) * (l : Int) = ((g % l : Nat) : Int) := by
          have z1 := Nat.div_add_mod g l
          have z2 : (l : Int) * ((g / l : Nat) : Int) + ((g % l : Nat) : Int) = (g : Int) := by
            rw [← Int.natCast_mul, ← Int.natCast_add, z1]
          rw [Int.mul_comm]
          omega
        refine ⟨⟨l, g % l, e, k - ((g / l : Nat) : Int) * e, some (.int ((g / l : Nat) : Int)), ?_, rfl, inv.step hl⟩, ?_⟩
        · rw [← e2]
          rfl
        · show ((g : Int) - ((g / l : Nat) : Int) * (l : Int)).toNat < ((l : Int)).toNat
          rw [e2]
          have := Nat.mod_lt g l0
          omega
      · have z : decide ((1 : Int) < (l : Int)) = false := decide_eq_false (by omega)
        rw [z]
        refine iteF ⟨_, rfl, _, rfl, _, _, rfl, rfl, (by show (0 : Int) < (p : Int); omega), ?_⟩
        show Q (.int (e % (p : Int))) _
        rw [eu_end pr p2 a0 ap inv hl]
        exact want _ sm
    · rintro σ H' Q1 Q2 imp ⟨v, e, i, j, e1, e2, k, e3, q⟩
      exact ⟨v, e, i, j, e1, e2, k, e3, imp _ _ q⟩
end
end Vb
end L2

set_option Elab.async false
set_option linter.all false
set_option maxRecDepth 100000
set_option maxHeartbeats 4000000
/-! Vb, part 8: the next row with a number at a place. -/
namespace L2
namespace Vb
open PySem PySem.Spec PyProof.Rows
abbrev sPivot : Stmt := topS 21
/-- the number of row i at place c -/
abbrev at_ (T : List (List Int)) (i c : Nat) : Int := (T.getD i []).getD c 0
def spPivot : Sp := fun vs H Q _ => ∃ (m : Addr) (s c L : Nat) (as : List Addr) (T : List (List Int)) (p : Int), vs = [.ref m, .int (s : Int), .int (c : Int)] ∧ H m = some (.lst (as.map V.ref)) ∧ Rws H as T ∧ (∀ xs ∈ T, Vc p L xs) ∧ c < L ∧ s ≤ T.length ∧ T.length ≤ 1000 ∧
  (∀ i, s ≤ i → i < T.length → at_ T i c ≠ 0 → (∀ j, s ≤ j → j < i → at_ T j c = 0) → Q (.int (i : Int)) H) ∧ ((∀ j, s ≤ j → j < T.length → at_ T j c = 0) → Q .non H)
section
variable {P : Program} {w : World} {K : PySem.W.Frag} {mg : Str → Option Value} {base : Heap}
theorem scPivot : FnScope ["table", "start", "place", "at"] ["table", "start", "place"] (defScope sPivot) := ⟨rfl, rfl, rfl, by decide +kernel, rfl, by decide +kernel, by decide +kernel⟩
theorem ok_pivot {f : Addr} {fd : FuncData} (F : Fun K "pivot_row" "pivot_row" sPivot f fd) (gR : mg "range" = none) (gN : mg "len" = none) : FnOk P w K mg base CX0 1 f fd ["table", "start", "place"] spPivot := by
  refine F.ok scPivot (fun vs H Q E h => ?_) (fun cdv A outer s0 H vs Q E hr h => ?_)
  · obtain ⟨m, s, c, L, as, T, p, rfl, _⟩ := h
    rfl
  · obtain ⟨m, s, c, L, as, T, p, rfl, hm, hT, hv, hc, hs, tL, wantI, wantN⟩ := h
    have la := hT.len
    refine ⟨_, pss_cons (ps_for PassesOwn.never rfl (pi_range2 rfl gR (pa_cons (pv 1) (pa_cons (pe_callB call_len_seq (by rfl) gN PySem.boot_len (pa_cons (pv 0) pa_nil)) pa_nil))) (pg_name (i := 3) scPivot.nd rfl (Or.inl rfl))
        (pss_one (ps_if (pt_truth (pe_ix ix_list (pe_ix ix_list (pv 0) (pv 3) (fun _ _ => rfl)) (pv 2) (fun _ _ => rfl)) (by intro _; rfl)) (pss_one (ps_ret (pv 3))) pss_nil)))
      (pss_one (ps_ret pe_non)), ?_⟩
    refine ⟨_, rfl, _, rfl, m, _, rfl, .inl (SqL.of hm), (s : Int), _, rfl, ⟨by omega, by omega, by rw [List.length_map]; omega, by rw [List.length_map]; omega⟩, ?_⟩
    have en : (((as.map V.ref).length : Int) - (s : Int)).toNat = T.length - s := by
      rw [List.length_map]
      omega
    rw [en]
    refine for_range (lo := (s : Int)) (n := T.length - s) (fun k σ H' => H' = H ∧ (∃ v, σ = [some (.ref m), some (.int (s : Int)), some (.int (c : Int)), v]) ∧ ∀ j, s ≤ j → j < s + k → at_ T j c = 0) ⟨rfl, ⟨_, rfl⟩, fun j h1 h2 => by omega⟩ ?_ ?_
    · rintro k σ H' hk ⟨rfl, ⟨v, rfl⟩, inv⟩
      have kT : s + k < T.length := by omega
      have hx : (as.map V.ref)[s + k]? = some ((as.map V.ref)[s + k]'(by rw [List.length_map]; omega)) := List.getElem?_eq_getElem _
      obtain ⟨b, xs, e1, hb, mx, ht, _⟩ := rws_at hT hx
      have vx := hv xs mx
      have eT : T.getD (s + k) [] = xs := by rw [List.getD_eq_getElem?_getD, ht]; rfl
      have hb2 : H' b = some (.lst (xs.map V.int)) := hb
      have hc2 : (xs.map V.int)[c]? = some (V.int (xs.getD c 0)) := by
        rw [List.getElem?_map, List.getD_eq_getElem?_getD, List.getElem?_eq_getElem (by rw [vx.1]; exact hc)]
        rfl
      rw [e1] at hx
      refine ⟨_, rfl, _, rfl, m, _, (s : Int) + (k : Int), _, rfl, rfl, SqL.of hm, atI_nat (j := s + k) hx, _, rfl, b, _, (c : Int), _, rfl, rfl, SqL.of hb2, atI_nat hc2, xs.getD c 0 != 0, rfl, ?_⟩
      have ea : at_ T (s + k) c = xs.getD c 0 := by
        show (T.getD (s + k) []).getD c 0 = _
        rw [eT]
      by_cases z : xs.getD c 0 = 0
      · rw [z]
        refine iteF ⟨rfl, ⟨_, rfl⟩, fun j h1 h2 => ?_⟩
        by_cases q : j < s + k
        · exact inv j h1 q
        · have ej : j = s + k := by omega
          rw [ej, ea, z]
      · have zb : (xs.getD c 0 != 0) = true := bne_iff_ne.mpr z
        rw [zb]
        refine iteT ⟨_, rfl, ?_⟩
        exact wantI (s + k) (by omega) kT (by rw [ea]; exact z) inv
    · rintro σ H' ⟨rfl, ⟨v, rfl⟩, inv⟩
      exact wantN fun j h1 h2 => inv j h1 (by omega)
end
end Vb
end L2

set_option Elab.async false
set_option linter.all false
set_option maxRecDepth 100000
set_option maxHeartbeats 4000000
/-! Vb, part 9b: lists of new rows that grow. -/
namespace L2
namespace Vb
open PySem PySem.Spec PyProof.Rows
theorem paired_snoc {α β : Type} {R : α → β → Prop} {as : List α} {bs : List β} {a : α} {b : β} (h : Paired R as bs) (r : R a b) : Paired R (as ++ [a]) (bs ++ [b]) := by
  induction h with
  | nil => exact .cons r .nil
  | cons p _ ih => exact .cons p ih
theorem cut_take (xs : List V) (n : Nat) : cutV xs none (some (n : Int)) = xs.take n := by
  unfold cutV
  rw [HT.sIx_none, HT.sIx_nat, List.drop_zero, Nat.sub_zero]
  rcases Nat.le_total n xs.length with h | h
  · rw [Nat.min_eq_left h]
  · rw [Nat.min_eq_right h, List.take_length, List.take_of_length_le h]
theorem rws_up {H H' : Hp} {as : List Addr} {T : List (List Int)} (h : Rws H as T) (s : Same H H') : Rws H' as T := h.mono fun b _ o e => s _ _ e
/-- at D stands a new list of new rows, the first k of T -/
def Grow (H : Hp) (D : Addr) (T : List (List Int)) (k : Nat) (H' : Hp) : Prop := Same H H' ∧ ∃ cs : List Addr, cs.length = k ∧ H' D = some (.lst (cs.map V.ref)) ∧ Rws H' cs (T.take k) ∧ (∀ b ∈ cs, b ≠ D) ∧ ∀ b ∈ cs, H b = none
theorem Grow.start {H : Hp} {D : Addr} {T : List (List Int)} (h : H D = none) : Grow H D T 0 (upd H D (.lst [])) := ⟨same_new h, [], rfl, upd_same, .nil, fun b z => (List.not_mem_nil z).elim, fun b z => (List.not_mem_nil z).elim⟩
theorem Grow.step {H H1 H2 : Hp} {D d : Addr} {T : List (List Int)} {k : Nat} {row : List Int} (hD : H D = none) (g : Grow H D T k H1) (s : Same H1 H2) (nd : H1 d = none) (hd : Rw H2 d row) (ht : T[k]? = some row) :
    ∃ acc, H2 D = some (.lst acc) ∧ acc.length = k ∧ Grow H D T (k + 1) (upd H2 D (.lst (acc ++ [.ref d]))) := by
  obtain ⟨sm, cs, lc, h1, h2, h3, h4⟩ := g
  have ne : d ≠ D := fun e => by
    rw [e, h1] at nd
    cases nd
  have st : ∀ b, b ≠ D → ∀ o, H2 b = some o → upd H2 D (.lst (cs.map V.ref ++ [V.ref d])) b = some o := fun b n o e => (upd_ne n).trans e
  refine ⟨_, s _ _ h1, by rw [List.length_map, lc], same_set (same_trans sm s) hD, cs ++ [d], by rw [List.length_append, lc]; rfl, ?_, ?_, fun b m => ?_, fun b m => ?_⟩
  · rw [upd_same, List.map_append]
    rfl
  · rw [List.take_succ, ht]
    exact paired_snoc ((h2.mono fun b _ o e => s _ _ e).mono fun b m o e => st b (h3 b m) o e) (st d ne _ hd)
  · rcases List.mem_append.mp m with q | q
    · exact h3 b q
    · rw [List.mem_singleton.mp q]
      exact ne
  · rcases List.mem_append.mp m with q | q
    · exact h4 b q
    · rw [List.mem_singleton.mp q]
      exact sm.free nd
theorem Grow.done {H H' : Hp} {D : Addr} {T : List (List Int)} {k : Nat} (g : Grow H D T k H') (h : T.length ≤ k) : Same H H' ∧ ∃ cs : List Addr, H' D = some (.lst (cs.map V.ref)) ∧ Rws H' cs T ∧ (∀ b ∈ cs, H b = none) ∧ cs.length = T.length := by
  obtain ⟨sm, cs, lc, h1, h2, h3, h4⟩ := g
  rw [List.take_of_length_le h] at h2
  exact ⟨sm, cs, h1, h2, h4, h2.len⟩
/-- .. a list of numbers -/
def GrowI (H : Hp) (D : Addr) (xs : List Int) (k : Nat) (H' : Hp) : Prop := Same H H' ∧ H' D = some (.lst ((xs.take k).map V.int))
theorem GrowI.start {H : Hp} {D : Addr} {xs : List Int} (h : H D = none) : GrowI H D xs 0 (upd H D (.lst [])) := ⟨same_new h, upd_same⟩
theorem GrowI.step {H H1 H2 : Hp} {D : Addr} {xs : List Int} {k : Nat} {x : Int} (hD : H D = none) (g : GrowI H D xs k H1) (s : Same H1 H2) (ht : xs[k]? = some x) :
    ∃ acc, H2 D = some (.lst acc) ∧ acc.length ≤ k ∧ GrowI H D xs (k + 1) (upd H2 D (.lst (acc ++ [.int x]))) := by
  obtain ⟨sm, h1⟩ := g
  refine ⟨_, s _ _ h1, by rw [List.length_map, List.length_take]; omega, same_set (same_trans sm s) hD, ?_⟩
  rw [upd_same, List.take_succ, ht, List.map_append]
  rfl
theorem GrowI.done {H H' : Hp} {D : Addr} {xs : List Int} {k : Nat} (g : GrowI H D xs k H') (h : xs.length ≤ k) : Same H H' ∧ H' D = some (.lst (xs.map V.int)) := by
  obtain ⟨sm, h1⟩ := g
  rw [List.take_of_length_le h] at h1
  exact ⟨sm, h1⟩
/-- .. a list of truths -/
def GrowB (H : Hp) (D : Addr) (xs : List Bool) (k : Nat) (H' : Hp) : Prop := Same H H' ∧ H' D = some (.lst ((xs.take k).map V.bl))
theorem GrowB.start {H : Hp} {D : Addr} {xs : List Bool} (h : H D = none) : GrowB H D xs 0 (upd H D (.lst [])) := ⟨same_new h, upd_same⟩
theorem GrowB.step {H H1 H2 : Hp} {D : Addr} {xs : List Bool} {k : Nat} {x : Bool} (hD : H D = none) (g : GrowB H D xs k H1) (s : Same H1 H2) (ht : xs[k]? = some x) :
    ∃ acc, H2 D = some (.lst acc) ∧ acc.length ≤ k ∧ GrowB H D xs (k + 1) (upd H2 D (.lst (acc ++ [.bl x]))) := by
  obtain ⟨sm, h1⟩ := g
  refine ⟨_, s _ _ h1, by rw [List.length_map, List.length_take]; omega, same_set (same_trans sm s) hD, ?_⟩
  rw [upd_same, List.take_succ, ht, List.map_append]
  rfl
theorem GrowB.done {H H' : Hp} {D : Addr} {xs : List Bool} {k : Nat} (g : GrowB H D xs k H') (h : xs.length ≤ k) : Same H H' ∧ H' D = some (.lst (xs.map V.bl)) := by
  obtain ⟨sm, h1⟩ := g
  rw [List.take_of_length_le h] at h1
  exact ⟨sm, h1⟩
theorem size_ok {k : Nat} (h : k ≤ 1000000) : k < sizeLine := by
  rw [sizeLine_eq]
  omega
theorem rep_zeros (n : Nat) : (List.replicate ((n : Int)).toNat [V.int 0]).flatten = (List.replicate n (0 : Int)).map V.int := by
  rw [Int.toNat_natCast]
  induction n with
  | zero => rfl
  | succ n ih =>
    rw [List.replicate_succ, List.replicate_succ, List.flatten_cons, ih]
    rfl
end Vb
end L2

set_option Elab.async false
set_option linter.all false
set_option maxRecDepth 100000
set_option maxHeartbeats 4000000
/-! Vb, part 10: vectors added up. -/
namespace L2
namespace Vb
open PySem PySem.Spec PyProof.Rows
abbrev sAdd : Stmt := topS 20
def dotZ (xs ys : List Int) : Int := (List.zipWith (· * ·) xs ys).sum
def colZ (T : List (List Int)) (c : Nat) : List Int := T.map fun xs => xs.getD c 0
def addZ (p : Int) (T : List (List Int)) (fs : List Int) (L : Nat) : List Int := (List.range L).map fun c => dotZ fs (colZ T c) % p
theorem vc_col {p : Int} {L : Nat} {T : List (List Int)} {c : Nat} (hv : ∀ xs ∈ T, Vc p L xs) (hc : c < L) : Vc p T.length (colZ T c) := ⟨List.length_map .., fun x m => by
  obtain ⟨xs, mx, rfl⟩ := List.mem_map.mp m
  obtain ⟨l, h⟩ := hv xs mx
  rw [List.getD_eq_getElem?_getD, List.getElem?_eq_getElem (by omega)]
  exact h _ (List.getElem_mem _)⟩
/-- the sums so far, place by place, not yet cut by the prime -/
def sumsZ (T : List (List Int)) (fs : List Int) (L k : Nat) : List Int := (List.range L).map fun c => dotZ (fs.take k) (colZ (T.take k) c)
theorem sumsZ_len (T : List (List Int)) (fs : List Int) (L k : Nat) : (sumsZ T fs L k).length = L := by
  unfold sumsZ
  rw [List.length_map, List.length_range]
theorem dotZ_snoc (xs ys : List Int) (x y : Int) (h : xs.length = ys.length) : dotZ (xs ++ [x]) (ys ++ [y]) = dotZ xs ys + x * y := by
  unfold dotZ
  rw [List.zipWith_append h, List.sum_append]
  show _ + (x * y + 0) = _
  rw [Int.add_zero]
theorem colZ_take (T : List (List Int)) (k c : Nat) : colZ (T.take k) c = (colZ T c).take k := List.map_take
theorem sum_at {T : List (List Int)} {fs : List Int} {k c : Nat} {f : Int} {xs : List Int} (hf : fs[k]? = some f) (hx : T[k]? = some xs) : dotZ (fs.take (k + 1)) (colZ (T.take (k + 1)) c) = dotZ (fs.take k) (colZ (T.take k) c) + f * xs.getD c 0 := by
  rw [List.take_succ, hf, colZ_take, colZ_take, List.take_succ (l := colZ T c)]
  have e : (colZ T c)[k]? = some (xs.getD c 0) := by
    unfold colZ
    rw [List.getElem?_map, hx]
    rfl
  rw [e]
  have kf := (List.getElem?_eq_some_iff.mp hf).1
  have kt := (List.getElem?_eq_some_iff.mp hx).1
  refine dotZ_snoc _ _ _ _ ?_
  unfold colZ
  rw [List.length_take, List.length_take, List.length_map]
  omega
/-- all factors so far are noughts -/
def Noughts (fs : List Int) (k : Nat) : Prop := ∀ i, i < k → fs.getD i 0 = 0
theorem noughts_sum {T : List (List Int)} {fs : List Int} (ht : T.length = fs.length) {k : Nat} (h : Noughts fs k) (hk : k ≤ fs.length) (c : Nat) : dotZ (fs.take k) (colZ (T.take k) c) = 0 := by
  induction k with
  | zero => rfl
  | succ k ih =>
    have hf : fs[k]? = some (fs[k]'(by omega)) := List.getElem?_eq_getElem _
    have hx : T[k]? = some (T[k]'(by omega)) := List.getElem?_eq_getElem _
    rw [sum_at hf hx, ih (fun i hi => h i (by omega)) (by omega)]
    have z := h k (by omega)
    rw [List.getD_eq_getElem?_getD, hf] at z
    have z2 : fs[k]'(by omega) = 0 := z
    rw [z2, Int.zero_mul]
    rfl
theorem get_sums {T : List (List Int)} {fs : List Int} {L k c : Nat} (h : c < L) : (sumsZ T fs L k)[c]? = some (dotZ (fs.take k) (colZ (T.take k) c)) := by
  unfold sumsZ
  rw [List.getElem?_map, List.getElem?_range h]
  rfl
theorem sums_nought {T : List (List Int)} {fs : List Int} {L k : Nat} {f : Int} {xs : List Int} (hf : fs[k]? = some f) (hx : T[k]? = some xs) (f0 : f = 0) : sumsZ T fs L (k + 1) = sumsZ T fs L k := by
  refine List.ext_getElem? fun c => ?_
  by_cases h : c < L
  · rw [get_sums h, get_sums h, sum_at hf hx, f0, Int.zero_mul, Int.add_zero]
  · rw [List.getElem?_eq_none (by rw [sumsZ_len]; omega), List.getElem?_eq_none (by rw [sumsZ_len]; omega)]
theorem sums_first {T : List (List Int)} {fs : List Int} (ht : T.length = fs.length) {L k : Nat} {f : Int} {xs : List Int} (hf : fs[k]? = some f) (hx : T[k]? = some xs) (lx : xs.length = L) (h : Noughts fs k) : xs.map (fun n => f * n) = sumsZ T fs L (k + 1) := by
  have kf := (List.getElem?_eq_some_iff.mp hf).1
  refine List.ext_getElem? fun c => ?_
  by_cases q : c < L
  · rw [get_sums q, sum_at hf hx, noughts_sum ht h (by omega), Int.zero_add, List.getElem?_map, List.getElem?_eq_getElem (by omega), List.getD_eq_getElem?_getD, List.getElem?_eq_getElem (by omega)]
    rfl
  · rw [List.getElem?_eq_none (by rw [List.length_map]; omega), List.getElem?_eq_none (by rw [sumsZ_len]; omega)]
theorem sums_next {T : List (List Int)} {fs : List Int} {L k : Nat} {f : Int} {xs : List Int} (hf : fs[k]? = some f) (hx : T[k]? = some xs) (lx : xs.length = L) : List.zipWith (fun a b => a + f * b) (sumsZ T fs L k) xs = sumsZ T fs L (k + 1) := by
  refine List.ext_getElem? fun c => ?_
  by_cases q : c < L
  · rw [get_sums q, sum_at hf hx, List.getElem?_zipWith, get_sums q, List.getElem?_eq_getElem (by omega), List.getD_eq_getElem?_getD, List.getElem?_eq_getElem (by omega)]
    rfl
  · rw [List.getElem?_eq_none (by rw [List.length_zipWith, sumsZ_len]; omega), List.getElem?_eq_none (by rw [sumsZ_len]; omega)]
theorem add_all {p : Int} {T : List (List Int)} {fs : List Int} {L : Nat} (ht : T.length = fs.length) : (sumsZ T fs L T.length).map (fun n => n % p) = addZ p T fs L := by
  unfold sumsZ addZ
  rw [List.map_map]
  refine List.map_congr_left fun c _ => ?_
  show dotZ (fs.take T.length) (colZ (T.take T.length) c) % p = _
  rw [List.take_of_length_le (by omega), List.take_of_length_le (Nat.le_refl _)]
theorem add_none {p : Int} {T : List (List Int)} {fs : List Int} {L : Nat} (ht : T.length = fs.length) (h : Noughts fs T.length) : addZ p T fs L = List.replicate L 0 := by
  rw [← add_all ht]
  refine List.ext_getElem? fun c => ?_
  by_cases q : c < L
  · rw [List.getElem?_map, get_sums q, noughts_sum ht h (by omega), List.getElem?_replicate, if_pos q]
    show some (0 % p) = _
    rw [Int.zero_emod]
  · rw [List.getElem?_eq_none (by rw [List.length_map, sumsZ_len]; omega), List.getElem?_eq_none (by rw [List.length_replicate]; omega)]
section
variable {P : Program} {w : World} {K : PySem.W.Frag} {mg : Str → Option Value} {base : Heap}
def spAdd : Sp := fun vs H Q _ => ∃ (p : Int) (m b : Addr) (L : Nat) (as : List Addr) (T : List (List Int)) (fs : List Int), vs = [.int p, .ref m, .ref b, .int (L : Int)] ∧ 2 ≤ p ∧ p ≤ 65537 ∧ H m = some (.lst (as.map V.ref)) ∧ Rws H as T ∧ (∀ xs ∈ T, Vc p L xs) ∧ Rw H b fs ∧ Vc p T.length fs ∧ L ≤ 1000 ∧ T.length ≤ 1000 ∧
  ∀ (H' : Hp) (d : Addr), Same H H' → H d = none → Rw H' d (addZ p T fs L) → Q (.ref d) H'
abbrev nAdd : List Str := ["prime", "vectors", "factors", "length", "total", "factor", "vector", "number", "a", "b"]
theorem scAdd : FnScope nAdd ["prime", "vectors", "factors", "length"] (defScope sAdd) := ⟨rfl, rfl, rfl, by decide +kernel, rfl, by decide +kernel, by decide +kernel⟩
/-- the total so far: none, or a new list of the sums -/
def Tot (H H' : Hp) (T : List (List Int)) (fs : List Int) (L k : Nat) (v : V) : Prop := (v = .non ∧ Noughts fs k) ∨ ∃ d, v = .ref d ∧ H d = none ∧ Rw H' d (sumsZ T fs L k)
theorem ok_add {f : Addr} {fd : FuncData} (F : Fun K "added_up" "added_up" sAdd f fd) (gZ : mg "zip" = none) : FnOk P w K mg base CX0 1 f fd ["prime", "vectors", "factors", "length"] spAdd := by
  refine F.ok scAdd (fun vs H Q E h => ?_) (fun cdv A outer s0 H vs Q E hr h => ?_)
  · obtain ⟨p, m, b, L, as, T, fs, rfl, _⟩ := h
    rfl
  · obtain ⟨p, m, b, L, as, T, fs, rfl, p2, p6, hm, hT, hv, hb, hf, hL, tL, want⟩ := h
    have hb : H b = some (.lst (fs.map V.int)) := hb
    refine ⟨_, (pss_cons (ps_set (i := 4) scAdd.nd rfl (Or.inl rfl) pe_non)
      (pss_cons (ps_for PassesOwn.never rfl (pi_zip (by rfl) gZ (pa_cons (pv 2) (pa_cons (pv 1) pa_nil))) (pg_tup rfl (pgs_cons (pg_name (i := 5) scAdd.nd rfl (Or.inr rfl)) (pgs_cons (pg_name (i := 6) scAdd.nd rfl (Or.inl rfl)) pgs_nil)))
        (pss_one (ps_if (PW.pt (pw_and (pt_truth (pv 5) (by intro _; rfl)) (pw_and1 (pt_cmpR op_isN (pv 4) pe_non (nomark _)))))
            (pss_one (ps_setLc (i := 4) (own := [("number", 7)]) (g := (gName 7)) (tt := tYes) rfl scAdd.nd rfl rfl (sw_true rfl rfl rfl (by decide +kernel)) (pi_list (pe_slice sl_list (pv 6) po_none (po_some (pv 3)))) (blkOk_by (N := nAdd) (sc := defScope sAdd) (by decide +kernel)) (fun _ _ _ _ _ => pg_name (i := 7) scAdd.nd rfl (Or.inl rfl)) (fun _ _ _ _ _ => pts_nil) (fun _ _ _ _ _ => (pe_op op_mul (pv 5) (pv 7)))))
            (pss_one (ps_if (pt_truth (pv 5) (by intro _; rfl))
                (pss_one (ps_setLc (i := 4) (own := [("a", 8), ("b", 9)]) (g := (gTup K 2 (gCons (gName 8) (gCons (gName 9) gNil)))) (tt := tYes) rfl scAdd.nd rfl rfl (sw_true rfl rfl rfl (by decide +kernel)) (pi_zip (by rfl) gZ (pa_cons (pv 4) (pa_cons (pv 6) pa_nil))) (blkOk_by (N := nAdd) (sc := defScope sAdd) (by decide +kernel)) (fun _ _ _ _ _ => pg_tup rfl (pgs_cons (pg_name (i := 8) scAdd.nd rfl (Or.inl rfl)) (pgs_cons (pg_name (i := 9) scAdd.nd rfl (Or.inl rfl)) pgs_nil))) (fun _ _ _ _ _ => pts_nil) (fun _ _ _ _ _ => (pe_op op_add (pv 8) (pe_op op_mul (pv 5) (pv 9))))))
                pss_nil)))))
      (pss_one (ps_ret (pe_ifExp (pt_cmpR op_isN (pv 4) pe_non (nomark _)) (pe_op op_rep (pe_lst (pa_cons pe_int pa_nil)) (pv 3)) (pe_lc (own := [("number", 7)]) (g := (gName 7)) (tt := tYes) rfl scAdd.nd (pi_list (pv 4)) (blkOk_by (N := nAdd) (sc := defScope sAdd) (by decide +kernel)) (fun _ _ _ _ _ => pg_name (i := 7) scAdd.nd rfl (Or.inl rfl)) (fun _ _ _ _ _ => pts_nil) (fun _ _ _ _ _ => (pe_op op_mod (pv 7) (pv 0))))))))), ?_⟩
    refine ⟨_, rfl, _, rfl, b, m, _, _, rfl, SqL.of hb, SqL.of hm, ?_⟩
    have la : (as.map V.ref).length = T.length := by rw [List.length_map, hT.len]
    have lb : (fs.map V.int).length = T.length := by rw [List.length_map, hf.1]
    refine for_it (walk_zip (n := T.length) (by rw [la, lb, Nat.min_self])) (fun k σ H' => (∃ tot u v, σ = [some (.int p), some (.ref m), some (.ref b), some (.int (L : Int)), some tot, u, v, none, none, none] ∧ Tot H H' T fs L k tot) ∧ Same H H')
      ⟨⟨_, _, _, rfl, .inl ⟨rfl, fun i hi => absurd hi (Nat.not_lt_zero i)⟩⟩, same_rfl⟩ (fun i σ H' _ z => ⟨SqL.of (z.2 _ _ hb), SqL.of (z.2 _ _ hm)⟩) ?_ ?_
    · rintro k x σ H1 H' hk ⟨⟨tot, u, v, rfl, ht⟩, sm⟩ ⟨T2, x1, x2, rfl, nT, rfl, e1, e2⟩
      obtain ⟨f, rfl, mf, hfk⟩ := mem_ints e1
      obtain ⟨c, xs, rfl, hc, mx, htk, _⟩ := rws_at hT e2
      have s2 := same_new (o := .tup [V.int f, V.ref c]) nT
      have s12 := same_trans sm s2
      have hc1 : upd H1 T2 (.tup [V.int f, V.ref c]) c = some (.lst (xs.map V.int)) := s2 _ _ (sm _ _ hc)
      have lx : xs.length = L := (hv xs mx).1
      obtain ⟨f0, f1⟩ := hf.2 f mf
      refine ⟨T2, _, rfl, SqT.of upd_same, rfl, _, _, rfl, ?_⟩
      refine ⟨_, _, rfl, rfl, ?_⟩
      refine ⟨_, rfl, f != 0, rfl, ?_⟩
      by_cases fz : f = 0
      · rw [bne_eq_false_iff_eq.mpr fz]
        refine iteF ⟨_, rfl, f != 0, rfl, ?_⟩
        rw [bne_eq_false_iff_eq.mpr fz]
        refine iteF ⟨⟨tot, _, _, rfl, ?_⟩, s12⟩
        rcases ht with ⟨rfl, hn⟩ | ⟨d, rfl, nd, hd⟩
        · refine .inl ⟨rfl, fun i hi => ?_⟩
          by_cases q : i < k
          · exact hn i q
          · have e : i = k := by omega
            rw [e, List.getD_eq_getElem?_getD, hfk]
            exact fz
        · refine .inr ⟨d, rfl, nd, ?_⟩
          rw [sums_nought hfk htk fz]
          exact s2 _ _ hd
      · rw [bne_iff_ne.mpr fz]
        refine iteT ⟨_, rfl, rfl, _, rfl, ?_⟩
        rcases ht with ⟨rfl, hn⟩ | ⟨d, rfl, nd, hd⟩
        · rw [decide_eq_true rfl]
          refine iteT ?_
          refine ⟨_, rfl, ⟨_, rfl, _, rfl, c, _, rfl, SqL.of hc1, fun q hq => ?_⟩⟩
          rw [cut_take, List.take_of_length_le (by rw [List.length_map, lx]; exact Nat.le_refl _)]
          refine ⟨q, rfl, ⟨_, SqL.of upd_same⟩, ?_⟩
          intro D hD
          have s3 := same_new (o := .lst (xs.map V.int)) hq
          refine lc_list (GrowI (upd (upd H1 T2 (.tup [V.int f, V.ref c])) q (.lst (xs.map V.int))) D (xs.map fun n => f * n)) (GrowI.start hD) (fun i H' _ z => SqL.of (z.1 _ _ upd_same)) ?_ ?_
          · rintro j x H2 hx g
            obtain ⟨n, rfl, mn, hn⟩ := mem_ints hx
            have jl : j < xs.length := (List.getElem?_eq_some_iff.mp hn).1
            refine ⟨rfl, tyes ?_⟩
            refine ⟨_, rfl, _, rfl, f, n, rfl, rfl, .inl ⟨by omega, by omega⟩, ?_⟩
            obtain ⟨acc, k1, k2, k3⟩ := g.step (x := f * n) hD same_rfl (by rw [List.getElem?_map, hn]; rfl)
            exact ⟨acc, k1, size_ok (by omega), k3⟩
          · intro H2 g
            obtain ⟨s4, hD1⟩ := g.done (by rw [List.length_map, List.length_map]; exact Nat.le_refl _)
            refine ⟨⟨.ref D, _, _, rfl, .inr ⟨D, rfl, (same_trans s12 s3).free hD, ?_⟩⟩, same_trans s12 (same_trans s3 s4)⟩
            rw [← sums_first (by rw [hf.1]) hfk htk lx hn]
            exact hD1
        · rw [decide_eq_false (fun e => nomatch e)]
          refine iteF ⟨_, rfl, f != 0, rfl, ?_⟩
          rw [bne_iff_ne.mpr fz]
          refine iteT ?_
          have hd1 : upd H1 T2 (.tup [V.int f, V.ref c]) d = some (.lst ((sumsZ T fs L k).map V.int)) := s2 _ _ hd
          refine ⟨_, rfl, _, rfl, d, c, _, _, rfl, SqL.of hd1, SqL.of hc1, ?_⟩
          intro D hD
          have ls := sumsZ_len T fs L k
          refine lc_it (walk_zip (n := L) (by rw [List.length_map, List.length_map, ls, lx, Nat.min_self])) (GrowI (upd H1 T2 (.tup [V.int f, V.ref c])) D (List.zipWith (fun a b => a + f * b) (sumsZ T fs L k) xs)) (GrowI.start hD) (fun i H' _ z => ⟨SqL.of (z.1 _ _ hd1), SqL.of (z.1 _ _ hc1)⟩) ?_ ?_
          · rintro j x H2 H3 hj g ⟨T3, y1, y2, rfl, nT3, rfl, z1, z2⟩
            obtain ⟨a1, rfl, ma, ha⟩ := mem_ints z1
            obtain ⟨a2, rfl, ma2, ha2⟩ := mem_ints z2
            have s5 := same_new (o := .tup [V.int a1, V.int a2]) nT3
            refine ⟨T3, _, rfl, SqT.of upd_same, rfl, _, _, rfl, ?_⟩
            refine ⟨_, _, rfl, rfl, rfl, tyes ?_⟩
            refine ⟨_, rfl, _, rfl, _, rfl, f, a2, rfl, rfl, .inl ⟨by omega, by omega⟩, _, _, rfl, rfl, ?_⟩
            obtain ⟨acc, k1, k2, k3⟩ := g.step (x := a1 + f * a2) hD s5 (by rw [List.getElem?_zipWith, ha, ha2])
            exact ⟨acc, k1, size_ok (by omega), k3⟩
          · intro H2 g
            obtain ⟨s4, hD1⟩ := g.done (by rw [List.length_zipWith, ls, lx, Nat.min_self]; exact Nat.le_refl _)
            refine ⟨⟨.ref D, _, _, rfl, .inr ⟨D, rfl, s12.free hD, ?_⟩⟩, same_trans s12 s4⟩
            rw [← sums_next hfk htk lx]
            exact hD1
    · rintro σ H' ⟨⟨tot, u, v, rfl, ht⟩, sm⟩
      refine ⟨_, rfl, rfl, _, rfl, ?_⟩
      rcases ht with ⟨rfl, hn⟩ | ⟨d, rfl, nd, hd⟩
      · rw [decide_eq_true rfl]
        refine iteT ?_
        refine ⟨by show 1 ≤ sizeLine; decide, fun z hz => ?_⟩
        refine ⟨_, rfl, z, (L : Int), [V.int 0], rfl, rfl, upd_same, by omega, by omega, by rw [Int.toNat_natCast, sizeLine_eq]; show 1 * L ≤ 16777216; omega, fun d hd => ?_⟩
        rw [rep_zeros]
        have s5 := same_new (o := .lst [V.int 0]) hz
        have s6 := same_new (o := .lst ((List.replicate L (0 : Int)).map V.int)) hd
        refine want _ d (same_trans sm (same_trans s5 s6)) ((same_trans sm s5).free hd) ?_
        rw [add_none (by rw [hf.1]) hn]
        exact upd_same
      · rw [decide_eq_false (fun e => nomatch e)]
        refine iteF ?_
        have hd1 : H' d = some (.lst ((sumsZ T fs L T.length).map V.int)) := hd
        refine ⟨_, rfl, d, rfl, ⟨_, SqL.of hd1⟩, ?_⟩
        intro D hD
        have ls := sumsZ_len T fs L T.length
        refine lc_list (GrowI H' D ((sumsZ T fs L T.length).map fun n => n % p)) (GrowI.start hD) (fun i H2 _ z => SqL.of (z.1 _ _ hd1)) ?_ ?_
        · rintro j x H2 hx g
          obtain ⟨n, rfl, mn, hn⟩ := mem_ints hx
          have jl : j < (sumsZ T fs L T.length).length := (List.getElem?_eq_some_iff.mp hn).1
          refine ⟨rfl, tyes ?_⟩
          refine ⟨_, rfl, _, rfl, n, p, rfl, rfl, (by show (0 : Int) < p; omega), ?_⟩
          obtain ⟨acc, k1, k2, k3⟩ := g.step (x := n % p) hD same_rfl (by rw [List.getElem?_map, hn]; rfl)
          exact ⟨acc, k1, size_ok (by omega), k3⟩
        · intro H2 g
          obtain ⟨s4, hD1⟩ := g.done (by rw [List.length_map, List.length_map]; exact Nat.le_refl _)
          refine want _ D (same_trans sm s4) (sm.free hD) ?_
          rw [← add_all (by rw [hf.1])]
          exact hD1
end
end Vb
end L2

set_option Elab.async false
set_option linter.all false
set_option maxRecDepth 100000
set_option maxHeartbeats 4000000
/-! Vb, part 11: inverse, combined. -/
namespace L2
namespace Vb
open PySem PySem.Spec PyProof.Rows
abbrev sReqV : Stmt := topS 26
abbrev sReqS : Stmt := topS 27
abbrev sInv : Stmt := topS 28
section
variable {P : Program} {w : World} {K : PySem.W.Frag} {mg : Str → Option Value} {base : Heap}
def spReqV : Sp := fun vs H Q _ => ∃ (p : Int) (m : Addr) (as : List Addr) (T : List (List Int)) (L : Nat), vs = [.int p, .ref m] ∧ H m = some (.lst (as.map V.ref)) ∧ Rws H as T ∧ (∀ xs ∈ T, Vc p L xs) ∧ L ≤ 1000 ∧ T.length ≤ 1000 ∧ ∀ H', Same H H' → Q .non H'
theorem scReqV : FnScope ["prime", "vectors"] ["prime", "vectors"] (defScope sReqV) := ⟨rfl, rfl, rfl, by decide +kernel, rfl, by decide +kernel, by decide +kernel⟩
theorem ok_reqV {f fV : Addr} {fd fdV : FuncData} (F : Fun K "require_vectors" "require_vectors" sReqV f fd) (FV : Fun K "is_vectors" "is_vectors" sVectors fV fdV) (GV : FnOk P w K mg base CX0 4 fV fdV ["prime", "value"] spVectors) (gV : mg "is_vectors" = some (.ref fV)) :
    FnOk P w K mg base CX0 5 f fd ["prime", "vectors"] spReqV := by
  have bV : Binds K fdV ["prime", "value"] [] := FV.binds fun _ _ _ _ _ _ us hl => match us, hl with | [_, _], _ => rfl
  refine F.ok scReqV (fun vs H Q E h => ?_) (fun cdv A outer s H vs Q E hr h => ?_)
  · obtain ⟨p, m, as, T, L, rfl, _⟩ := h
    rfl
  · obtain ⟨p, m, as, T, L, rfl, hm, hT, hv, hL, tL, want⟩ := h
    refine ⟨_, pss_one (ps_if (pt_not (pt_val (pe_call GV hr rfl gV FV.kp bV .nil pass0 (pa_cons (pv 0) (pa_cons (pv 1) pa_nil))))) pss_never pss_nil), ?_⟩
    exact ⟨_, rfl, _, rfl, p, m, as, T, L, rfl, hm, hT, hv, hL, tL, fun H' sm => ⟨_, rfl, iteF (want H' sm)⟩⟩
def spReqS : Sp := fun vs H Q _ => ∃ (p : Int) (m : Addr) (as : List Addr) (T : List (List Int)) (L : Nat), vs = [.int p, .ref m] ∧ H m = some (.lst (as.map V.ref)) ∧ Rws H as T ∧ (∀ xs ∈ T, Vc p L xs) ∧ L ≤ 1000 ∧ T.length ≤ 1000 ∧ 0 < T.length ∧ ∀ H', Same H H' → Q .non H'
theorem scReqS : FnScope ["prime", "vectors"] ["prime", "vectors"] (defScope sReqS) := ⟨rfl, rfl, rfl, by decide +kernel, rfl, by decide +kernel, by decide +kernel⟩
theorem ok_reqS {f fV : Addr} {fd fdV : FuncData} (F : Fun K "require_some_vectors" "require_some_vectors" sReqS f fd) (FV : Fun K "is_vectors" "is_vectors" sVectors fV fdV) (GV : FnOk P w K mg base CX0 4 fV fdV ["prime", "value"] spVectors) (gV : mg "is_vectors" = some (.ref fV)) :
    FnOk P w K mg base CX0 5 f fd ["prime", "vectors"] spReqS := by
  have bV : Binds K fdV ["prime", "value"] [] := FV.binds fun _ _ _ _ _ _ us hl => match us, hl with | [_, _], _ => rfl
  refine F.ok scReqS (fun vs H Q E h => ?_) (fun cdv A outer s H vs Q E hr h => ?_)
  · obtain ⟨p, m, as, T, L, rfl, _⟩ := h
    rfl
  · obtain ⟨p, m, as, T, L, rfl, hm, hT, hv, hL, tL, t0, want⟩ := h
    refine ⟨_, pss_one (ps_if (PW.pt (pw_or (pt_not (pt_val (pe_call GV hr rfl gV FV.kp bV .nil pass0 (pa_cons (pv 0) (pa_cons (pv 1) pa_nil))))) (pw_or1 (pt_not (pt_truth (pv 1) (by intro _; rfl)))))) pss_never pss_nil), ?_⟩
    refine ⟨_, rfl, _, rfl, p, m, as, T, L, rfl, hm, hT, hv, hL, tL, fun H' sm => ⟨_, rfl, iteF ?_⟩⟩
    have hm2 : H' m = some (.lst (as.map V.ref)) := sm _ _ hm
    refine ⟨_, rfl, true, .inl ⟨_, SqL.of hm2, ?_⟩, iteF (want H' sm)⟩
    have la := hT.len
    cases as with
    | nil => exact absurd (show (0 : Nat) = T.length from la) (by omega)
    | cons a as => rfl
def spInv : Sp := fun vs H Q _ => ∃ p a : Nat, vs = [.int (p : Int), .int (a : Int)] ∧ (p : Int) ∈ goods ∧ 0 < a ∧ a < p ∧ ∀ H', Same H H' → Q (.int ((a ^ (p - 2) % p : Nat) : Int)) H'
theorem scInv : FnScope ["prime", "number"] ["prime", "number"] (defScope sInv) := ⟨rfl, rfl, rfl, by decide +kernel, rfl, by decide +kernel, by decide +kernel⟩
theorem ok_inv {f fR fF fI : Addr} {fd fdR fdF fdI : FuncData} (F : Fun K "inverse" "inverse" sInv f fd) (FR : Fun K "require_prime" "require_prime" sReqP fR fdR) (GR : FnOk P w K mg base CX0 2 fR fdR ["prime"] spReqP) (gR : mg "require_prime" = some (.ref fR))
    (FF : Fun K "is_factor" "is_factor" sFactor fF fdF) (GF : FnOk P w K mg base CX0 3 fF fdF ["prime", "value"] spFactor) (gF : mg "is_factor" = some (.ref fF)) (FI : Fun K "inverse_of" "inverse_of" sInvOf fI fdI) (GI : FnOk P w K mg base CX0 1 fI fdI ["prime", "number"] spInvOf) (gI : mg "inverse_of" = some (.ref fI)) :
    FnOk P w K mg base CX0 4 f fd ["prime", "number"] spInv := by
  have bR : Binds K fdR ["prime"] [] := FR.binds fun _ _ _ _ _ _ us hl => match us, hl with | [_], _ => rfl
  have bF : Binds K fdF ["prime", "value"] [] := FF.binds fun _ _ _ _ _ _ us hl => match us, hl with | [_, _], _ => rfl
  have bI : Binds K fdI ["prime", "number"] [] := FI.binds fun _ _ _ _ _ _ us hl => match us, hl with | [_, _], _ => rfl
  refine F.ok scInv (fun vs H Q E h => ?_) (fun cdv A outer s H vs Q E hr h => ?_)
  · obtain ⟨p, a, rfl, _⟩ := h
    rfl
  · obtain ⟨p, a, rfl, mp, a0, ap, want⟩ := h
    obtain ⟨q2, q6, pr⟩ := good_prm mp
    refine ⟨_, pss_cons (ps_expr (pe_call GR (hr.mono (by decide)) rfl gR FR.kp bR .nil pass0 (pa_cons (pv 0) pa_nil)))
      (pss_cons (ps_if (pt_not (pt_val (pe_call GF hr rfl gF FF.kp bF .nil pass0 (pa_cons (pv 0) (pa_cons (pv 1) pa_nil))))) pss_never pss_nil)
      (pss_one (ps_ret (pe_call GI (hr.mono (by decide)) rfl gI FI.kp bI .nil pass0 (pa_cons (pv 0) (pa_cons (pv 1) pa_nil)))))), ?_⟩
    refine ⟨_, rfl, _, rfl, mp, fun H' sm => ?_⟩
    refine ⟨_, rfl, _, rfl, (p : Int), (a : Int), rfl, by omega, by omega, _, rfl, iteF ?_⟩
    exact ⟨_, rfl, _, rfl, p, a, rfl, q2, q6, pr, a0, ap, fun H2 s2 => want H2 (same_trans sm s2)⟩
end
end Vb
end L2

set_option Elab.async false
set_option linter.all false
set_option maxRecDepth 100000
set_option maxHeartbeats 4000000
/-! Vb, part 12: combined. -/
namespace L2
namespace Vb
open PySem PySem.Spec PyProof.Rows
abbrev sComb : Stmt := topS 29
section
variable {P : Program} {w : World} {K : PySem.W.Frag} {mg : Str → Option Value} {base : Heap}
def spComb : Sp := fun vs H Q _ => ∃ (p : Int) (m b : Addr) (L : Nat) (as : List Addr) (T : List (List Int)) (fs : List Int), vs = [.int p, .ref m, .ref b] ∧ p ∈ goods ∧ H m = some (.lst (as.map V.ref)) ∧ Rws H as T ∧ (∀ xs ∈ T, Vc p L xs) ∧ Rw H b fs ∧ Vc p T.length fs ∧ L ≤ 1000 ∧ T.length ≤ 1000 ∧ 0 < T.length ∧
  ∀ (H' : Hp) (d : Addr), Same H H' → H d = none → Rw H' d (addZ p T fs L) → Q (.ref d) H'
theorem scComb : FnScope ["prime", "vectors", "factors"] ["prime", "vectors", "factors"] (defScope sComb) := ⟨rfl, rfl, rfl, by decide +kernel, rfl, by decide +kernel, by decide +kernel⟩
theorem ok_comb {f fR fS fO fA : Addr} {fd fdR fdS fdO fdA : FuncData} (F : Fun K "combined" "combined" sComb f fd) (FR : Fun K "require_prime" "require_prime" sReqP fR fdR) (GR : FnOk P w K mg base CX0 2 fR fdR ["prime"] spReqP) (gR : mg "require_prime" = some (.ref fR))
    (FS : Fun K "require_some_vectors" "require_some_vectors" sReqS fS fdS) (GS : FnOk P w K mg base CX0 5 fS fdS ["prime", "vectors"] spReqS) (gS : mg "require_some_vectors" = some (.ref fS))
    (FO : Fun K "is_vector_of" "is_vector_of" sVectorOf fO fdO) (GO : FnOk P w K mg base CX0 4 fO fdO ["prime", "value", "length"] spVectorOf) (gO : mg "is_vector_of" = some (.ref fO))
    (FA : Fun K "added_up" "added_up" sAdd fA fdA) (GA : FnOk P w K mg base CX0 1 fA fdA ["prime", "vectors", "factors", "length"] spAdd) (gA : mg "added_up" = some (.ref fA)) (gN : mg "len" = none) :
    FnOk P w K mg base CX0 6 f fd ["prime", "vectors", "factors"] spComb := by
  have bR : Binds K fdR ["prime"] [] := FR.binds fun _ _ _ _ _ _ us hl => match us, hl with | [_], _ => rfl
  have bS : Binds K fdS ["prime", "vectors"] [] := FS.binds fun _ _ _ _ _ _ us hl => match us, hl with | [_, _], _ => rfl
  have bO : Binds K fdO ["prime", "value", "length"] [] := FO.binds fun _ _ _ _ _ _ us hl => match us, hl with | [_, _, _], _ => rfl
  have bA : Binds K fdA ["prime", "vectors", "factors", "length"] [] := FA.binds fun _ _ _ _ _ _ us hl => match us, hl with | [_, _, _, _], _ => rfl
  refine F.ok scComb (fun vs H Q E h => ?_) (fun cdv A outer s H vs Q E hr h => ?_)
  · obtain ⟨p, m, b, L, as, T, fs, rfl, _⟩ := h
    rfl
  · obtain ⟨p, m, b, L, as, T, fs, rfl, mp, hm, hT, hv, hb, hf, hL, tL, t0, want⟩ := h
    obtain ⟨q2, q6, _⟩ := good_facts _ mp
    have la := hT.len
    refine ⟨_, pss_cons (ps_expr (pe_call GR (hr.mono (by decide)) rfl gR FR.kp bR .nil pass0 (pa_cons (pv 0) pa_nil)))
      (pss_cons (ps_expr (pe_call GS hr rfl gS FS.kp bS .nil pass0 (pa_cons (pv 0) (pa_cons (pv 1) pa_nil))))
      (pss_cons (ps_if (pt_not (pt_val (pe_call GO (hr.mono (by decide)) rfl gO FO.kp bO .nil pass0 (pa_cons (pv 0) (pa_cons (pv 2) (pa_cons (pe_callB call_len_seq (by rfl) gN PySem.boot_len (pa_cons (pv 1) pa_nil)) pa_nil)))))) pss_never pss_nil)
      (pss_one (ps_ret (pe_call GA (hr.mono (by decide)) rfl gA FA.kp bA .nil pass0 (pa_cons (pv 0) (pa_cons (pv 1) (pa_cons (pv 2) (pa_cons (pe_callB call_len_seq (by rfl) gN PySem.boot_len (pa_cons (pe_ix ix_list (pv 1) pe_int (fun _ _ => rfl)) pa_nil)) pa_nil)))))))) ), ?_⟩
    refine ⟨_, rfl, p, rfl, mp, fun H1 s1 => ?_⟩
    have up : ∀ {H' : Hp}, Same H H' → Rws H' as T := fun sm => hT.mono fun b _ o e => sm _ _ e
    refine ⟨_, rfl, _, rfl, p, m, as, T, L, rfl, s1 _ _ hm, up s1, hv, hL, tL, t0, fun H2 s2 => ?_⟩
    have s12 := same_trans s1 s2
    refine ⟨_, rfl, _, rfl, _, rfl, m, _, rfl, .inl (SqL.of (s12 _ _ hm)), p, b, fs, T.length, ?_, s12 _ _ hb, hf, tL, fun H3 s3 => ⟨_, rfl, iteF ?_⟩⟩
    · rw [List.length_map, la]
      rfl
    have s13 := same_trans s12 s3
    have hx : (as.map V.ref)[0]? = some ((as.map V.ref)[0]'(by rw [List.length_map]; omega)) := List.getElem?_eq_getElem _
    obtain ⟨b0, xs0, e0, hb0, m0, _, _⟩ := rws_at hT hx
    refine ⟨_, rfl, _, rfl, _, rfl, _, rfl, m, _, 0, _, rfl, rfl, SqL.of (s13 _ _ hm), atI_nat (j := 0) hx, ?_⟩
    rw [e0]
    refine ⟨b0, _, rfl, .inl (SqL.of (s13 _ _ hb0)), p, m, b, L, as, T, fs, ?_, q2, q6, s13 _ _ hm, up s13, hv, s13 _ _ hb, hf, hL, tL, fun H4 d s4 nd hd => want H4 d (same_trans s13 s4) (s13.free nd) hd⟩
    rw [List.length_map, (hv xs0 m0).1]
    rfl
end
end Vb
end L2

set_option Elab.async false
set_option linter.all false
set_option maxRecDepth 100000
set_option maxHeartbeats 4000000
/-! Vb, part 13: a place cleared. -/
namespace L2
namespace Vb
open PySem PySem.Spec PyProof.Rows
open LinA (scaleZ lessZ)
abbrev sClear : Stmt := topS 22
/-- row i is scaled by s, all others lose their number at c -/
def midZ (p : Nat) (l : List Int) (i c k : Nat) (T : List (List Int)) : List (List Int) := T.mapIdx fun j xs => if j = i then l else if j < k then lessZ p l c xs else xs
def invN (p : Nat) (T : List (List Int)) (i c : Nat) : Int := (((at_ T i c).toNat ^ (p - 2) % p : Nat) : Int)
def leadZ (p : Nat) (T : List (List Int)) (i c : Nat) : List Int := scaleZ p (invN p T i c) (T.getD i [])
/-- all but m stands -/
def But (m : Addr) (H H' : Hp) : Prop := ∀ b, b ≠ m → ∀ o, H b = some o → H' b = some o
theorem but_same {m : Addr} {H H' : Hp} (h : Same H H') : But m H H' := fun b _ o e => h b o e
theorem But.trans {m : Addr} {H H1 H2 : Hp} (h : But m H H1) (k : But m H1 H2) : But m H H2 := fun b n o e => k b n o (h b n o e)
theorem but_upd {m : Addr} {H : Hp} {o : HO} : But m H (upd H m o) := fun b n u e => (upd_ne n).trans e
theorem rws_ne {H : Hp} {m : Addr} {as : List Addr} {T : List (List Int)} (hm : H m = some (.lst (as.map V.ref))) (hT : Rws H as T) : ∀ b ∈ as, b ≠ m := by
  intro b mb e
  subst e
  have key : ∀ {bs : List Addr} {U : List (List Int)}, Rws H bs U → b ∈ bs → ∃ xs : List Int, H b = some (.lst (xs.map V.int)) := by
    intro bs U h
    induction h with
    | nil => exact fun z => (List.not_mem_nil z).elim
    | cons p _ ih =>
      intro z
      rcases List.mem_cons.mp z with q | q
      · rw [q]
        exact ⟨_, p⟩
      · exact ih q
  obtain ⟨xs, hx⟩ := key hT mb
  rw [hm] at hx
  have e2 : as.map V.ref = xs.map V.int := by
    injection hx with z
    injection z
  cases as with
  | nil => cases mb
  | cons a as =>
    cases xs with
    | nil => cases e2
    | cons x xs =>
      injection e2 with z1 z2
      cases z1
theorem rws_but {H H' : Hp} {m : Addr} {as : List Addr} {T : List (List Int)} (hT : Rws H as T) (n : ∀ b ∈ as, b ≠ m) (h : But m H H') : Rws H' as T := hT.mono fun b mb o e => h b (n b mb) o e
theorem rws_set {H : Hp} {as : List Addr} {T : List (List Int)} (h : Rws H as T) (i : Nat) {a : Addr} {xs : List Int} (r : Rw H a xs) : Rws H (as.set i a) (T.set i xs) := by
  induction h generalizing i with
  | nil => exact .nil
  | cons p ps ih =>
    cases i with
    | zero => exact .cons r ps
    | succ i => exact .cons p (ih i)
theorem rws_get {H : Hp} {as : List Addr} {T : List (List Int)} (h : Rws H as T) {i : Nat} (hi : i < T.length) : ∃ b, (as.map V.ref)[i]? = some (V.ref b) ∧ Rw H b (T.getD i []) ∧ T.getD i [] ∈ T := by
  have hx : (as.map V.ref)[i]? = some ((as.map V.ref)[i]'(by rw [List.length_map, h.len]; exact hi)) := List.getElem?_eq_getElem _
  obtain ⟨b, xs, e1, hb, mx, ht, _⟩ := rws_at h hx
  have e : T.getD i [] = xs := by rw [List.getD_eq_getElem?_getD, ht]; rfl
  rw [e]
  rw [e1] at hx
  exact ⟨b, hx, hb, mx⟩
theorem int_get {xs : List Int} {c L : Nat} (h : xs.length = L) (hc : c < L) : (xs.map V.int)[c]? = some (V.int (xs.getD c 0)) := by
  rw [List.getElem?_map, List.getD_eq_getElem?_getD, List.getElem?_eq_getElem (by omega)]
  rfl
theorem ixN_nat {n j : Nat} (h : j < n) : ixN n (j : Int) = some j := by
  unfold ixN
  rw [if_pos (by omega), if_pos (by omega), Int.toNat_natCast]
section
variable {p : Nat} {l : List Int} {i c : Nat}
theorem mid_len (k : Nat) (T : List (List Int)) : (midZ p l i c k T).length = T.length := List.length_mapIdx
theorem mid_get (k : Nat) (T : List (List Int)) (j : Nat) (hj : j < T.length) : (midZ p l i c k T)[j]? = some (if j = i then l else if j < k then lessZ p l c (T.getD j []) else T.getD j []) := by
  unfold midZ
  rw [List.getElem?_mapIdx, List.getElem?_eq_getElem hj, List.getD_eq_getElem?_getD, List.getElem?_eq_getElem hj]
  rfl
theorem mid_zero {T : List (List Int)} (hi : i < T.length) : midZ p l i c 0 T = T.set i l := by
  refine List.ext_getElem? fun j => ?_
  by_cases hj : j < T.length
  · rw [mid_get 0 T j hj, List.getElem?_set, List.getElem?_eq_getElem hj, List.getD_eq_getElem?_getD, List.getElem?_eq_getElem hj]
    by_cases e : i = j
    · subst e
      rw [if_pos rfl, if_pos rfl, if_pos hj]
    · rw [if_neg e, if_neg (Ne.symm e), if_neg (Nat.not_lt_zero j)]
      rfl
  · rw [List.getElem?_eq_none (by rw [mid_len]; omega), List.getElem?_eq_none (by rw [List.length_set]; omega)]
theorem mid_same {k : Nat} {T : List (List Int)} (h : k = i ∨ lessZ p l c (T.getD k []) = T.getD k []) (hk : k < T.length) : midZ p l i c (k + 1) T = midZ p l i c k T := by
  refine List.ext_getElem? fun j => ?_
  by_cases hj : j < T.length
  · rw [mid_get _ T j hj, mid_get _ T j hj]
    by_cases e : j = i
    · rw [if_pos e, if_pos e]
    · rw [if_neg e, if_neg e]
      by_cases q : j = k
      · subst q
        rw [if_pos (Nat.lt_succ_self j), if_neg (Nat.lt_irrefl j)]
        rcases h with h | h
        · exact absurd h e
        · rw [h]
      · by_cases r : j < k
        · rw [if_pos r, if_pos (Nat.lt_succ_of_lt r)]
        · rw [if_neg r, if_neg (by omega)]
  · rw [List.getElem?_eq_none (by rw [mid_len]; omega), List.getElem?_eq_none (by rw [mid_len]; omega)]
theorem mid_next {k : Nat} {T : List (List Int)} (h : k ≠ i) (hk : k < T.length) : midZ p l i c (k + 1) T = (midZ p l i c k T).set k (lessZ p l c (T.getD k [])) := by
  refine List.ext_getElem? fun j => ?_
  by_cases hj : j < T.length
  · rw [mid_get _ T j hj, List.getElem?_set, mid_get _ T j hj, mid_len]
    by_cases q : k = j
    · subst q
      rw [if_neg h, if_pos (Nat.lt_succ_self k), if_pos rfl, if_pos hk]
    · rw [if_neg q]
      by_cases e : j = i
      · rw [if_pos e, if_pos e]
      · rw [if_neg e, if_neg e]
        by_cases r : j < k
        · rw [if_pos r, if_pos (Nat.lt_succ_of_lt r)]
        · rw [if_neg r, if_neg (by omega)]
  · rw [List.getElem?_eq_none (by rw [mid_len]; omega), List.getElem?_eq_none (by rw [List.length_set, mid_len]; omega)]
end
section
variable {P : Program} {w : World} {K : PySem.W.Frag} {mg : Str → Option Value} {base : Heap}
def spClear : Sp := fun vs H Q _ => ∃ (p : Nat) (m : Addr) (i c L : Nat) (as : List Addr) (T : List (List Int)), vs = [.int (p : Int), .ref m, .int (i : Int), .int (c : Int)] ∧ 2 ≤ p ∧ p ≤ 65537 ∧ Prm p ∧ H m = some (.lst (as.map V.ref)) ∧ Rws H as T ∧ (∀ xs ∈ T, Vc (p : Int) L xs) ∧ i < T.length ∧ c < L ∧ at_ T i c ≠ 0 ∧ L ≤ 1000 ∧ T.length ≤ 1000 ∧
  ∀ (H' : Hp) (as' : List Addr), But m H H' → H' m = some (.lst (as'.map V.ref)) → Rws H' as' (midZ p (leadZ p T i c) i c T.length T) → (∀ b ∈ as', b ∈ as ∨ H b = none) → Q .non H'
theorem one_pow {p : Nat} (p2 : 2 ≤ p) : (1 ^ (p - 2) % p : Nat) = 1 := by
  rw [Nat.one_pow]
  exact Nat.mod_eq_of_lt (by omega)
theorem lead_one {p : Nat} {T : List (List Int)} {i c : Nat} (p2 : 2 ≤ p) (h : at_ T i c = 1) (hv : ∀ n ∈ T.getD i [], 0 ≤ n ∧ n < (p : Int)) : leadZ p T i c = T.getD i [] := by
  unfold leadZ invN
  rw [h]
  show scaleZ p ((((1 : Int).toNat ^ (p - 2) % p : Nat) : Int)) (T.getD i []) = _
  have e : ((1 : Int).toNat) = 1 := rfl
  rw [e, one_pow p2]
  unfold scaleZ
  have z : ∀ xs : List Int, (∀ n ∈ xs, 0 ≤ n ∧ n < (p : Int)) → xs.map (fun n => n * ((1 : Nat) : Int) % (p : Int)) = xs := by
    intro xs hx
    induction xs with
    | nil => rfl
    | cons x xs ih =>
      obtain ⟨x0, x1⟩ := hx x List.mem_cons_self
      rw [List.map_cons, ih fun n m => hx n (List.mem_cons_of_mem _ m)]
      have e2 : x * ((1 : Nat) : Int) % (p : Int) = x := by
        have e3 : ((1 : Nat) : Int) = 1 := rfl
        rw [e3, Int.mul_one]
        exact Int.emod_eq_of_lt x0 x1
      rw [e2]
  exact z _ hv
theorem set_same {T : List (List Int)} {i : Nat} (h : i < T.length) : T.set i (T.getD i []) = T := by
  refine List.ext_getElem? fun j => ?_
  rw [List.getElem?_set]
  by_cases e : i = j
  · subst e
    rw [if_pos rfl, if_pos h, List.getD_eq_getElem?_getD, List.getElem?_eq_getElem h]
    rfl
  · rw [if_neg e]
abbrev nClear : List Str := ["prime", "table", "at", "place", "lead", "scale", "row", "factor", "number", "a", "b"]
theorem scClear : FnScope nClear ["prime", "table", "at", "place"] (defScope sClear) := ⟨rfl, rfl, rfl, by decide +kernel, rfl, by decide +kernel, by decide +kernel⟩
theorem ok_clear {f fI : Addr} {fd fdI : FuncData} (F : Fun K "clear_column" "clear_column" sClear f fd) (FI : Fun K "inverse_of" "inverse_of" sInvOf fI fdI) (GI : FnOk P w K mg base CX0 1 fI fdI ["prime", "number"] spInvOf) (gI : mg "inverse_of" = some (.ref fI))
    (gR : mg "range" = none) (gN : mg "len" = none) (gZ : mg "zip" = none) : FnOk P w K mg base CX0 2 f fd ["prime", "table", "at", "place"] spClear := by
  have bI : Binds K fdI ["prime", "number"] [] := FI.binds fun _ _ _ _ _ _ us hl => match us, hl with | [_, _], _ => rfl
  refine F.ok scClear (fun vs H Q E h => ?_) (fun cdv A outer s0 H vs Q E hr h => ?_)
  · obtain ⟨p, m, i, c, L, as, T, rfl, _⟩ := h
    rfl
  · obtain ⟨p, m, i, c, L, as, T, rfl, p2, p6, pr, hm, hT, hv, hi, hc, nz, hL, tL, want⟩ := h
    have la := hT.len
    refine ⟨_, (pss_cons (ps_set (i := 4) scClear.nd rfl (Or.inl rfl) (pe_ix ix_list (pv 1) (pv 2) (fun _ _ => rfl)))
      (C8.pss_cut (ps_if (pt_cmpR op_ne (pe_ix ix_list (pv 4) (pv 3) (fun _ _ => rfl)) pe_int (nomark _))
        (pss_cons (ps_set (i := 5) scClear.nd rfl (Or.inr rfl) (pe_call GI hr rfl gI FI.kp bI .nil pass0 (pa_cons (pv 0) (pa_cons (pe_ix ix_list (pv 4) (pv 3) (fun _ _ => rfl)) pa_nil))))
          (pss_cons (ps_setLc (i := 4) (own := [("number", 8)]) (g := (gName 8)) (tt := tYes) rfl scClear.nd rfl rfl (sw_true rfl rfl rfl (by decide +kernel)) (pi_list (pv 4)) (blkOk_by (N := nClear) (sc := defScope sClear) (by decide +kernel)) (fun _ _ _ _ _ => pg_name (i := 8) scClear.nd rfl (Or.inl rfl)) (fun _ _ _ _ _ => pts_nil) (fun _ _ _ _ _ => (pe_op op_mod (pe_op op_mul (pv 8) (pv 5)) (pv 0))))
          (pss_one (ps_asg (pv 4) (pg_sub (pv 1) (pv 2) set_list)))))
        pss_nil)
      (pss_one (ps_for PassesOwn.never rfl (pi_range1 rfl gR (pa_cons (pe_callB (call_len_seq) (by rfl) gN PySem.boot_len (pa_cons (pv 1) pa_nil)) pa_nil)) (pg_name (i := 6) scClear.nd rfl (Or.inl rfl))
        (pss_cons (ps_set (i := 7) scClear.nd rfl (Or.inr rfl) (pe_ix ix_list (pe_ix ix_list (pv 1) (pv 6) (fun _ _ => rfl)) (pv 3) (fun _ _ => rfl)))
          (pss_one (ps_if (PW.pt (pw_and (pt_cmpR op_ne (pv 6) (pv 2) (nomark _)) (pw_and1 (pt_truth (pv 7) (by intro _; rfl)))))
            (pss_one (ps_asg (pe_lc (own := [("a", 9), ("b", 10)]) (g := (gTup K 2 (gCons (gName 9) (gCons (gName 10) gNil)))) (tt := tYes) rfl scClear.nd (pi_zip (by rfl) gZ (pa_cons (pe_ix ix_list (pv 1) (pv 6) (fun _ _ => rfl)) (pa_cons (pv 4) pa_nil))) (blkOk_by (N := nClear) (sc := defScope sClear) (by decide +kernel)) (fun _ _ _ _ _ => pg_tup rfl (pgs_cons (pg_name (i := 9) scClear.nd rfl (Or.inl rfl)) (pgs_cons (pg_name (i := 10) scClear.nd rfl (Or.inl rfl)) pgs_nil))) (fun _ _ _ _ _ => pts_nil) (fun _ _ _ _ _ => (pe_op op_mod (pe_op op_sub (pv 9) (pe_op op_mul (pv 7) (pv 10))) (pv 0)))) (pg_sub (pv 1) (pv 6) set_list)))
            pss_nil))))))), ?_⟩
    obtain ⟨b0, g0, hb0, m0⟩ := rws_get hT hi
    obtain ⟨l0, v0⟩ := hv _ m0
    have q0 : 0 ≤ at_ T i c ∧ at_ T i c < (p : Int) := LinA.vec_at (p := p) (hv _ m0) (by omega) c
    have hb0' : H b0 = some (.lst ((T.getD i []).map V.int)) := hb0
    have inL : ∀ n ∈ T.getD i [], 0 ≤ n ∧ n < (p : Int) := v0
    have nm := rws_ne hm hT
    have vl : Vc (p : Int) L (leadZ p T i c) := LinA.vec_map (p := p) (by omega) (h := fun n => n * invN p T i c) l0
    refine ⟨_, rfl, _, rfl, m, _, (i : Int), _, rfl, rfl, SqL.of hm, atI_nat g0, ?_⟩
    refine ⟨fun σ H1 => ∃ (D : Addr) (x : Option V) (bs : List Addr), σ = [some (.int (p : Int)), some (.ref m), some (.int (i : Int)), some (.int (c : Int)), some (.ref D), x, none, none, none, none, none] ∧ But m H H1 ∧ Rw H1 D (leadZ p T i c) ∧ D ≠ m ∧ bs.length = T.length ∧ H1 m = some (.lst (bs.map V.ref)) ∧ Rws H1 bs (midZ p (leadZ p T i c) i c 0 T) ∧ ∀ b ∈ bs, b ∈ as ∨ H b = none, ?_, ?_⟩
    · refine ⟨_, rfl, _, rfl, b0, _, (c : Int), _, rfl, rfl, SqL.of hb0', atI_nat (int_get l0 hc), rfl, _, rfl, ?_⟩
      have bm : b0 ≠ m := fun e => by
        obtain ⟨o, z⟩ : ∃ o, (as.map V.ref)[i]? = some o := ⟨_, g0⟩
        rw [List.getElem?_map] at g0
        obtain ⟨b, hb, e2⟩ := Option.map_eq_some_iff.mp g0
        cases e2
        exact nm b0 (List.mem_of_getElem? hb) e
      by_cases h1 : at_ T i c = 1
      · have z : (!decide (V.int (at_ T i c) = V.int 1)) = false := by
          rw [h1, decide_eq_true rfl]
          rfl
        rw [z]
        refine iteF ⟨b0, none, as, rfl, but_same same_rfl, ?_, bm, la, hm, ?_, fun b mb => .inl mb⟩
        · rw [lead_one p2 h1 inL]
          exact hb0
        · rw [mid_zero hi, lead_one p2 h1 inL, set_same hi]
          exact hT
      · have z : (!decide (V.int (at_ T i c) = V.int 1)) = true := by
          rw [decide_eq_false (fun e => h1 (V.int.inj e))]
          rfl
        rw [z]
        refine iteT ?_
        refine ⟨_, rfl, _, rfl, _, rfl, b0, _, (c : Int), _, rfl, rfl, SqL.of hb0', atI_nat (int_get l0 hc), p, (at_ T i c).toNat, ?_, p2, p6, pr, by omega, by omega, fun H1 s1 => ?_⟩
        · rw [Int.toNat_of_nonneg q0.1]
          rfl
        have hb1 : H1 b0 = some (.lst ((T.getD i []).map V.int)) := s1 _ _ hb0'
        refine ⟨_, rfl, b0, rfl, ⟨_, SqL.of hb1⟩, ?_⟩
        intro D hD
        have scl : invN p T i c < (p : Int) ∧ 0 ≤ invN p T i c := by
          have z : (at_ T i c).toNat ^ (p - 2) % p < p := Nat.mod_lt _ (by omega)
          unfold invN
          omega
        have ll : (leadZ p T i c).length = L := vl.1
        refine lc_list (GrowI H1 D (leadZ p T i c)) (GrowI.start hD) (fun k H' _ z => SqL.of (z.1 _ _ hb1)) ?_ ?_
        · rintro k x H' hx g
          obtain ⟨n, rfl, mn, hn⟩ := mem_ints hx
          have kl : k < (T.getD i []).length := (List.getElem?_eq_some_iff.mp hn).1
          obtain ⟨n0, n1⟩ := inL n mn
          refine ⟨rfl, tyes ?_⟩
          refine ⟨_, rfl, _, rfl, n, invN p T i c, rfl, rfl, .inl ⟨by omega, by omega⟩, _, rfl, _, (p : Int), rfl, rfl, by show (0 : Int) < (p : Int); omega, ?_⟩
          obtain ⟨acc, k1, k2, k3⟩ := g.step (x := n * invN p T i c % (p : Int)) hD same_rfl (by
            unfold leadZ scaleZ
            rw [List.getElem?_map, hn]
            rfl)
          exact ⟨acc, k1, size_ok (by omega), k3⟩
        · intro H2 g
          obtain ⟨s2, hDl⟩ := g.done (by rw [List.length_map, ll, l0]; exact Nat.le_refl _)
          have s12 := same_trans s1 s2
          have mD : m ≠ D := ne_of_none (s1 _ _ hm) hD
          have hm1 : H2 m = some (.lst (as.map V.ref)) := s12 _ _ hm
          refine ⟨_, rfl, _, rfl, _, rfl, m, _, (i : Int), i, rfl, rfl, hm1, ixN_nat (by rw [List.length_map, la]; exact hi), ?_⟩
          have b2 : But m H (upd H2 m (.lst ((as.map V.ref).set i (V.ref D)))) := (but_same s12).trans but_upd
          refine ⟨D, _, as.set i D, rfl, b2, ?_, Ne.symm mD, by rw [List.length_set, la], ?_, ?_, fun b mb => ?_⟩
          · show upd H2 m _ D = _
            rw [upd_ne (Ne.symm mD)]
            exact hDl
          · show upd H2 m _ m = _
            rw [upd_same, List.map_set]
          · rw [mid_zero hi]
            refine rws_set (rws_but hT nm b2) i ?_
            show upd H2 m _ D = _
            rw [upd_ne (Ne.symm mD)]
            exact hDl
          · rcases List.mem_or_eq_of_mem_set mb with q | q
            · exact .inl q
            · rw [q]
              exact .inr (s1.free hD)
    · rintro σ H1 ⟨D, xs0, bs0, rfl, bt0, hl1, Dm, lb0, hm1, hT1, fr0⟩
      let l := leadZ p T i c
      refine ⟨_, rfl, m, _, rfl, .inl (SqL.of hm1), _, rfl, by omega, by rw [List.length_map]; omega, ?_⟩
      have en2 : (((bs0.map V.ref).length : Int)).toNat = T.length := by rw [List.length_map, lb0]; exact Int.toNat_natCast _
      rw [en2]
      refine for_range (lo := 0) (n := T.length) (fun k σ H' => (∃ u v, σ = [some (.int (p : Int)), some (.ref m), some (.int (i : Int)), some (.int (c : Int)), some (.ref D), xs0, u, v, none, none, none]) ∧ But m H H' ∧ Rw H' D l ∧
        ∃ bs : List Addr, bs.length = T.length ∧ H' m = some (.lst (bs.map V.ref)) ∧ Rws H' bs (midZ p l i c k T) ∧ ∀ b ∈ bs, b ∈ as ∨ H b = none) ⟨⟨_, _, rfl⟩, bt0, hl1, bs0, lb0, hm1, hT1, fr0⟩ ?_ ?_
      · rintro k σ H' hk ⟨⟨u, v, rfl⟩, bt, hlD, bs, lb, hm', hT', fr⟩
        have kT : k < (midZ p l i c k T).length := by rw [mid_len]; exact hk
        obtain ⟨b, g, hb, mb⟩ := rws_get hT' kT
        have vm : ∀ xs ∈ midZ p l i c k T, Vc (p : Int) L xs := fun xs mx => by
          obtain ⟨j, hj, e⟩ := List.mem_iff_getElem.mp mx
          have hj2 : j < T.length := by rw [mid_len] at hj; exact hj
          have z := mid_get (p := p) (l := l) (i := i) (c := c) k T j hj2
          rw [List.getElem?_eq_getElem hj, e] at z
          have vt : Vc (p : Int) L (T.getD j []) := hv _ (by rw [List.getD_eq_getElem?_getD, List.getElem?_eq_getElem hj2]; exact List.getElem_mem _)
          rw [Option.some.inj z]
          split
          · exact vl
          · split
            · exact LinA.vec_lessZ (by omega) vt vl.1
            · exact vt
        obtain ⟨lb2, vb2⟩ := vm _ mb
        have hb' : H' b = some (.lst (((midZ p l i c k T).getD k []).map V.int)) := hb
        have e0 : (0 : Int) + (k : Int) = (k : Int) := by omega
        rw [e0]
        refine ⟨_, rfl, _, rfl, m, _, (k : Int), _, rfl, rfl, SqL.of hm', atI_nat g, _, rfl, b, _, (c : Int), _, rfl, rfl, SqL.of hb', atI_nat (int_get lb2 hc), ?_⟩
        refine ⟨_, rfl, _, rfl, rfl, _, rfl, ?_⟩
        by_cases q : k = i
        · have z : (!decide (V.int (k : Int) = V.int (i : Int))) = false := by
            rw [q, decide_eq_true rfl]
            rfl
          rw [z]
          refine iteF (iteF ⟨⟨_, _, rfl⟩, bt, hlD, bs, lb, hm', ?_, fr⟩)
          rw [mid_same (.inl q) hk]
          exact hT'
        · have z : (!decide (V.int (k : Int) = V.int (i : Int))) = true := by
            rw [decide_eq_false (fun e => q (by injection e with e; omega))]
            rfl
          rw [z]
          have eT : (midZ p l i c k T).getD k [] = T.getD k [] := by
            rw [List.getD_eq_getElem?_getD, mid_get k T k hk, if_neg q, if_neg (Nat.lt_irrefl k)]
            rfl
          refine iteT ⟨_, rfl, ((midZ p l i c k T).getD k []).getD c 0 != 0, rfl, ?_⟩
          by_cases r : ((midZ p l i c k T).getD k []).getD c 0 = 0
          · rw [bne_eq_false_iff_eq.mpr r]
            refine iteF ⟨⟨_, _, rfl⟩, bt, hlD, bs, lb, hm', ?_, fr⟩
            rw [mid_same (.inr ?_) hk]
            · exact hT'
            · unfold lessZ
              rw [eT] at r
              rw [if_pos r]
          · rw [bne_iff_ne.mpr r]
            refine iteT ?_
            have hlD' : H' D = some (.lst (l.map V.int)) := hlD
            refine ⟨_, rfl, _, rfl, m, _, (k : Int), _, rfl, rfl, SqL.of hm', atI_nat g, _, rfl, b, D, _, _, rfl, SqL.of hb', SqL.of hlD', ?_⟩
            intro D2 hD2
            let xs := (midZ p l i c k T).getD k []
            have lx : (xs.map V.int).length = L := by rw [List.length_map]; exact lb2
            have lv : (l.map V.int).length = L := by rw [List.length_map]; exact vl.1
            have n2 : D2 ≠ D := fun e => by
              rw [e, hlD'] at hD2
              cases hD2
            have nb : D2 ≠ b := fun e => by
              rw [e, hb'] at hD2
              cases hD2
            have n3 : m ≠ D2 := ne_of_none hm' hD2
            have f2 : H D2 = none := by
              cases e : H D2 with
              | none => rfl
              | some o =>
                have z := bt D2 (Ne.symm n3) o e
                rw [hD2] at z
                cases z
            have fx := vb2
            refine lc_it (walk_zip (n := L) (by rw [lx, lv, Nat.min_self])) (fun j H3 => Same H' H3 ∧ H3 D2 = some (.lst (((List.zipWith (fun a b => (a - xs.getD c 0 * b) % (p : Int)) xs l).take j).map V.int))) ⟨same_new hD2, upd_same⟩ (fun j H3 _ z => ⟨SqL.of (z.1 _ _ hb'), SqL.of (z.1 _ _ hlD')⟩) ?_ ?_
            · rintro j x H1 H3 hj ⟨sm, hDl⟩ ⟨T2, x1, x2, rfl, nT, rfl, y1, y2⟩
              obtain ⟨a1, rfl, ma, ha⟩ := mem_ints y1
              obtain ⟨a2, rfl, mb2, hb2⟩ := mem_ints y2
              have cc : 0 ≤ xs.getD c 0 ∧ xs.getD c 0 < (p : Int) := LinA.vec_at (p := p) (vm _ mb) (by omega) c
              obtain ⟨c0, c1⟩ := cc
              have nTD : T2 ≠ D2 := fun z => by
                rw [z, hDl] at nT
                cases nT
              refine ⟨T2, _, rfl, SqT.of upd_same, rfl, _, _, rfl, ?_⟩
              refine ⟨_, _, rfl, rfl, rfl, tyes ?_⟩
              refine ⟨_, rfl, _, rfl, _, rfl, xs.getD c 0, a2, rfl, rfl, .inl ⟨by omega, by omega⟩, _, _, rfl, rfl, _, rfl, _, (p : Int), rfl, rfl, by show (0 : Int) < (p : Int); omega, ?_⟩
              have hz : (List.zipWith (fun a b => (a - xs.getD c 0 * b) % (p : Int)) xs l)[j]? = some ((a1 - xs.getD c 0 * a2) % (p : Int)) := by
                rw [List.getElem?_zipWith, ha, hb2]
              refine ⟨_, (upd_ne (Ne.symm nTD)).trans hDl, by rw [List.length_map, List.length_take, sizeLine_eq]; omega, same_set (same_trans sm (same_new nT)) hD2, ?_⟩
              rw [upd_same, List.take_succ, hz, List.map_append]
              rfl
            · rintro H3 ⟨sm, hDl⟩
              have lz : (List.zipWith (fun a b => (a - xs.getD c 0 * b) % (p : Int)) xs l).length ≤ L := by rw [List.length_zipWith, lb2]; omega
              rw [List.take_of_length_le lz] at hDl
              have hm3 : H3 m = some (.lst (bs.map V.ref)) := sm _ _ hm'
              refine ⟨_, rfl, _, rfl, m, _, (k : Int), k, rfl, rfl, hm3, ixN_nat (by rw [List.length_map, lb]; exact hk), ?_⟩
              have bt2 : But m H' (upd H3 m (.lst ((bs.map V.ref).set k (V.ref D2)))) := (but_same sm).trans but_upd
              refine ⟨⟨_, _, rfl⟩, bt.trans bt2, ?_, bs.set k D2, by rw [List.length_set, lb], ?_, ?_, fun d md => ?_⟩
              · show upd H3 m _ D = _
                rw [upd_ne Dm]
                exact sm _ _ hlD'
              · rw [upd_same, List.map_set]
              · rw [mid_next q hk]
                refine rws_set (rws_but hT' (rws_ne hm' hT') bt2) k ?_
                show upd H3 m _ D2 = _
                rw [upd_ne (Ne.symm n3), hDl]
                unfold lessZ
                have r2 : (T.getD k []).getD c 0 ≠ 0 := by
                  rw [← eT]
                  exact r
                rw [if_neg r2, ← eT]
              · rcases List.mem_or_eq_of_mem_set md with w | w
                · exact fr d w
                · rw [w]
                  exact .inr f2
      · rintro σ H' ⟨_, bt, hlD, bs, lb, hm', hT', fr⟩
        exact want H' bs bt hm' hT' fr
end
end Vb
end L2

set_option Elab.async false
set_option linter.all false
set_option maxRecDepth 100000
set_option maxHeartbeats 4000000
/-! Vb, part 14: elimination. -/
namespace L2
namespace Vb
open PySem PySem.Spec PyProof.Rows
open LinA (scaleZ lessZ)
abbrev sElim : Stmt := topS 23
theorem inv_one {p : Nat} (pr : Prm p) (p2 : 2 ≤ p) {a : Int} (a0 : 0 < a) (a1 : a < (p : Int)) : a * (((a.toNat ^ (p - 2) % p : Nat) : Int)) % (p : Int) = 1 := by
  have f := LinA.fermat pr p2 (a := a.toNat) (by omega) (by omega)
  have e : ((a.toNat : Nat) : Int) = a := Int.toNat_of_nonneg (by omega)
  have z : a.toNat * (a.toNat ^ (p - 2) % p) % p = 1 := by
    rw [Nat.mul_mod, Nat.mod_mod, ← Nat.mul_mod, Nat.mul_comm, ← Nat.pow_succ]
    have e2 : (p - 2).succ = p - 1 := by omega
    rw [e2]
    exact f
  rw [← e, Int.toNat_natCast, ← Int.natCast_mul, ← Int.natCast_emod, z]
  rfl
theorem set_perm {a b : List Int} : ∀ {E : List (List Int)} {k : Nat}, E[k]? = some b → (a :: E).Perm (b :: E.set k a)
  | [], k, h => by cases h
  | x :: E, 0, h => by
    cases h
    exact List.Perm.swap _ _ _
  | x :: E, k + 1, h => by
    have z := set_perm (a := a) (b := b) (E := E) (k := k) h
    show (a :: x :: E).Perm (b :: x :: E.set k a)
    exact ((List.Perm.swap x a E).trans (z.cons x)).trans (List.Perm.swap b x _)
theorem swap_rest {D E : List (List Int)} {f : Nat} (h1 : D.length ≤ f) (h2 : f < (D ++ E).length) : ∃ E', E.Perm ((D ++ E).getD f [] :: E') ∧ (((D ++ E).set D.length ((D ++ E).getD f [])).set f ((D ++ E).getD D.length [])) = D ++ (D ++ E).getD f [] :: E' := by
  obtain ⟨k, rfl⟩ : ∃ k, f = D.length + k := ⟨f - D.length, by omega⟩
  have hk : k < E.length := by rw [List.length_append] at h2; omega
  have g : ∀ j, (D ++ E).getD (D.length + j) [] = E.getD j [] := fun j => by
    rw [List.getD_eq_getElem?_getD, List.getD_eq_getElem?_getD, List.getElem?_append_right (by omega), Nat.add_sub_cancel_left]
  have g0 := g 0
  rw [Nat.add_zero] at g0
  rw [g k, g0]
  have st : ∀ (X : List (List Int)) (j : Nat) (v : List Int), (D ++ X).set (D.length + j) v = D ++ X.set j v := fun X j v => by
    rw [List.set_append_right _ _ (by omega), Nat.add_sub_cancel_left]
  have st0 := st E 0 (E.getD k [])
  rw [Nat.add_zero] at st0
  rw [st0, st]
  cases E with
  | nil => exact absurd hk (Nat.not_lt_zero k)
  | cons a E =>
    cases k with
    | zero => exact ⟨E, List.Perm.refl _, rfl⟩
    | succ k =>
      refine ⟨E.set k a, set_perm ?_, rfl⟩
      show E[k]? = some (E.getD k [])
      have hk2 : k < E.length := Nat.lt_of_succ_lt_succ hk
      rw [List.getD_eq_getElem?_getD, List.getElem?_eq_getElem hk2]
      rfl
theorem mid_parts {p : Nat} {l b : List Int} {c : Nat} {D E : List (List Int)} : midZ p l D.length c (D ++ b :: E).length (D ++ b :: E) = (D.map (lessZ p l c) ++ [l]) ++ E.map (lessZ p l c) := by
  refine List.ext_getElem? fun j => ?_
  by_cases hj : j < (D ++ b :: E).length
  · rw [mid_get _ _ j hj, if_pos hj]
    have gD : (D ++ b :: E).getD j [] = if j < D.length then D.getD j [] else (b :: E).getD (j - D.length) [] := by
      by_cases q : j < D.length
      · rw [if_pos q, List.getD_eq_getElem?_getD, List.getD_eq_getElem?_getD, List.getElem?_append_left q]
      · rw [if_neg q, List.getD_eq_getElem?_getD, List.getD_eq_getElem?_getD, List.getElem?_append_right (Nat.le_of_not_lt q)]
    rw [gD]
    rcases Nat.lt_trichotomy j D.length with q | q | q
    · rw [if_neg (Nat.ne_of_lt q), if_pos q, List.append_assoc, List.getElem?_append_left (by rw [List.length_map]; exact q), List.getElem?_map, List.getD_eq_getElem?_getD, List.getElem?_eq_getElem q]
      rfl
    · rw [if_pos q, List.append_assoc, List.getElem?_append_right (by rw [List.length_map]; omega), List.length_map, q, Nat.sub_self]
      rfl
    · rw [if_neg (Nat.ne_of_gt q), if_neg (by omega), List.getElem?_append_right (by rw [List.length_append, List.length_map]; show D.length + 1 ≤ j; omega)]
      rw [List.length_append, List.length_map]
      obtain ⟨k, rfl⟩ : ∃ k, j = D.length + 1 + k := ⟨j - (D.length + 1), by omega⟩
      have e1 : D.length + 1 + k - D.length = k + 1 := by omega
      have e2 : D.length + 1 + k - (D.length + [l].length) = k := by
        show D.length + 1 + k - (D.length + 1) = k
        omega
      have hk : k < E.length := by
        rw [List.length_append, List.length_cons] at hj
        omega
      rw [e1, e2, List.getElem?_map, List.getElem?_eq_getElem hk]
      show some (lessZ p l c ((b :: E).getD (k + 1) [])) = some (lessZ p l c E[k])
      rw [List.getD_cons_succ, List.getD_eq_getElem?_getD, List.getElem?_eq_getElem hk]
      rfl
  · rw [List.getElem?_eq_none (by rw [mid_len]; omega), List.getElem?_eq_none ?_]
    rw [List.length_append, List.length_append, List.length_map, List.length_map]
    rw [List.length_append, List.length_cons] at hj
    show D.length + 1 + E.length ≤ j
    omega
theorem rws_mem {as : List Addr} {i : Nat} {b : Addr} (h : (as.map V.ref)[i]? = some (V.ref b)) : b ∈ as := by
  rw [List.getElem?_map] at h
  obtain ⟨c, hc, e⟩ := Option.map_eq_some_iff.mp h
  cases e
  exact List.mem_of_getElem? hc
theorem rws_some {H : Hp} {as : List Addr} {T : List (List Int)} (h : Rws H as T) {b : Addr} (m : b ∈ as) : ∃ o, H b = some o := by
  induction h with
  | nil => cases m
  | cons r _ ih =>
    rcases List.mem_cons.mp m with q | q
    · rw [q]
      exact ⟨_, r⟩
    · exact ih q
section
variable {P : Program} {w : World} {K : PySem.W.Frag} {mg : Str → Option Value} {base : Heap}
def rLO (K : PySem.W.Frag) : List V → Hp → VK → Prop := fun xs H Q => ∃ p ys, xs = [.ref p] ∧ (SqL K H p ys ∨ SqT K H p ys) ∧ ∀ l, H l = none → Q (.ref l) (upd H l (.lst ys))
def nat_ (c : Nat) : V := .int (c : Int)
def spElim : Sp := fun vs H Q _ => ∃ (p : Nat) (m : Addr) (L W : Nat) (as : List Addr) (T : List (List Int)), vs = [.int (p : Int), .ref m, .int (W : Int)] ∧ 2 ≤ p ∧ p ≤ 65537 ∧ Prm p ∧ H m = some (.lst (as.map V.ref)) ∧ Rws H as T ∧ (∀ xs ∈ T, Vc (p : Int) L xs) ∧ W ≤ L ∧ L ≤ 1000 ∧ T.length ≤ 1000 ∧
  ∀ (H' : Hp) (tb mt pv : Addr) (as' : List Addr) (D E : List (List Int)) (t : List Nat), Same H H' → H tb = none → H mt = none → H pv = none → mt ≠ pv → H' tb = some (.tup [.ref mt, .ref pv]) → H' mt = some (.lst (as'.map V.ref)) → H' pv = some (.lst (t.map nat_)) → Rws H' as' (D ++ E) → (∀ b ∈ as', H b = none) →
    (∀ [NeZero p], LinA.Way (Fin p) p L T D E t W) → (∀ c ∈ t, c < W) → D.length = t.length → D.length + E.length = T.length → Q (.ref tb) H'
theorem scElim : FnScope ["prime", "vectors", "width", "table", "pivots", "place", "at", "found", "vector"] ["prime", "vectors", "width"] (defScope sElim) := ⟨rfl, rfl, rfl, by decide +kernel, rfl, by decide +kernel, by decide +kernel⟩
theorem boot_list2 : bootBuiltins ("list" : Str) = some (.type "list") := by decide +kernel
theorem ok_elim {f fP fC : Addr} {fd fdP fdC : FuncData} (F : Fun K "eliminated" "eliminated" sElim f fd) (FP : Fun K "pivot_row" "pivot_row" sPivot fP fdP) (GP : FnOk P w K mg base CX0 1 fP fdP ["table", "start", "place"] spPivot) (gP : mg "pivot_row" = some (.ref fP))
    (FC : Fun K "clear_column" "clear_column" sClear fC fdC) (GC : FnOk P w K mg base CX0 2 fC fdC ["prime", "table", "at", "place"] spClear) (gC : mg "clear_column" = some (.ref fC)) (gR : mg "range" = none) (gN : mg "len" = none) (gL : mg "list" = none) :
    FnOk P w K mg base CX0 3 f fd ["prime", "vectors", "width"] spElim := by
  have bP : Binds K fdP ["table", "start", "place"] [] := FP.binds fun _ _ _ _ _ _ us hl => match us, hl with | [_, _, _], _ => rfl
  have bC : Binds K fdC ["prime", "table", "at", "place"] [] := FC.binds fun _ _ _ _ _ _ us hl => match us, hl with | [_, _, _, _], _ => rfl
  refine F.ok scElim (fun vs H Q E h => ?_) (fun cdv A outer s0 H vs Q E hr h => ?_)
  · obtain ⟨p, m, L, W, as, T, rfl, _⟩ := h
    rfl
  · obtain ⟨p, m, L, W, as, T, rfl, p2, p6, pr, hm, hT, hv, hW, hL, tL, want⟩ := h
    have la := hT.len
    refine ⟨_, pss_cons (ps_setLc (i := 3) (own := [("vector", 8)]) (g := gName 8) (tt := tYes) (te := tCB (rLO K) (tCons (tVar 8) tNil)) rfl scElim.nd rfl rfl (sw_true rfl rfl rfl (by decide +kernel)) (pi_list (pv 1))
          (blkOk_by (N := ["prime", "vectors", "width", "table", "pivots", "place", "at", "found", "vector"]) (sc := defScope sElim) (by decide +kernel)) (fun _ _ _ _ _ => pg_name (i := 8) scElim.nd rfl (Or.inl rfl)) (fun _ _ _ _ _ => pts_nil)
          (fun _ _ _ _ _ => pe_callTy call_list_of (by rfl) gL boot_list2 (pa_cons (pv 8) pa_nil)))
      (pss_cons (ps_set (i := 4) scElim.nd rfl (Or.inl rfl) (pe_lst pa_nil))
      (pss_cons (ps_for PassesOwn.never rfl (pi_range1 rfl gR (pa_cons (pv 2) pa_nil)) (pg_name (i := 5) scElim.nd rfl (Or.inl rfl))
        (pss_cons (ps_set (i := 6) scElim.nd rfl (Or.inl rfl) (pe_callB call_len_seq (by rfl) gN PySem.boot_len (pa_cons (pv 4) pa_nil)))
        (pss_cons (ps_set (i := 7) scElim.nd rfl (Or.inl rfl) (pe_call GP (hr.mono (by decide)) rfl gP FP.kp bP .nil pass0 (pa_cons (pv 3) (pa_cons (pv 6) (pa_cons (pv 5) pa_nil)))))
        (pss_one (ps_if (pt_cmpR op_notN (pv 7) pe_non (nomark _))
          (pss_cons (ps_asg (pe_tup (pa_cons (pe_ix ix_list (pv 3) (pv 7) (fun _ _ => rfl)) (pa_cons (pe_ix ix_list (pv 3) (pv 6) (fun _ _ => rfl)) pa_nil))) (pg_tup rfl (pgs_cons (pg_sub (pv 3) (pv 6) set_list) (pgs_cons (pg_sub (pv 3) (pv 7) set_list) pgs_nil))))
          (pss_cons (ps_expr (pe_call GC hr rfl gC FC.kp bC .nil pass0 (pa_cons (pv 0) (pa_cons (pv 3) (pa_cons (pv 6) (pa_cons (pv 5) pa_nil))))))
          (pss_one (ps_expr (pe_bm PySem.F.plainAttrs_list PySem.F.slot_list_append PySem.F.type_list_append mt_append (pv 4) (pa_cons (pv 5) pa_nil)))))) pss_nil)))))
      (pss_one (ps_ret (pe_tup (pa_cons (pv 3) (pa_cons (pv 4) pa_nil))))))), ?_⟩
    refine ⟨_, rfl, m, rfl, ⟨_, SqL.of hm⟩, ?_⟩
    intro mt hmt
    refine lc_list (fun k H' => Same H H' ∧ ∃ cs : List Addr, cs.length = k ∧ H' mt = some (.lst (cs.map V.ref)) ∧ Rws H' cs (T.take k) ∧ (∀ b ∈ cs, b ≠ mt) ∧ ∀ b ∈ cs, H b = none) ⟨same_new hmt, [], rfl, upd_same, .nil, fun b z => (List.not_mem_nil z).elim, fun b z => (List.not_mem_nil z).elim⟩ (fun i H2 _ z => SqL.of (z.1 _ _ hm)) ?_ ?_
    · rintro k x H' hx ⟨sm, cs, lc, hcl, hcs, nm, fr⟩
      obtain ⟨b, xs, rfl, hb, mx, ht, _⟩ := rws_at hT hx
      have hb' : H' b = some (.lst (xs.map V.int)) := sm _ _ hb
      refine ⟨rfl, tyes ?_⟩
      refine ⟨_, rfl, b, _, rfl, .inl (SqL.of hb'), fun l hl => ?_⟩
      have nl : mt ≠ l := fun e => by
        rw [← e, hcl] at hl
        cases hl
      have kl : k < T.length := (List.getElem?_eq_some_iff.mp ht).1
      refine ⟨_, (upd_ne nl).trans hcl, by rw [List.length_map, sizeLine_eq]; omega, same_set (same_trans sm (same_new hl)) hmt, cs ++ [l], by rw [List.length_append, lc]; rfl, ?_, ?_, fun d md => ?_, fun d md => ?_⟩
      · rw [upd_same, List.map_append]
        rfl
      · rw [List.take_succ, ht]
        have st : ∀ d, d ≠ mt → ∀ o, upd H' l (.lst (xs.map V.int)) d = some o → upd (upd H' l (.lst (xs.map V.int))) mt (.lst (cs.map V.ref ++ [V.ref l])) d = some o := fun d ne o e => (upd_ne ne).trans e
        refine paired_snoc ((hcs.mono fun d _ o e => same_new hl _ _ e).mono fun d md o e => st d (nm d md) o e) ?_
        exact st l (Ne.symm nl) _ upd_same
      · rcases List.mem_append.mp md with q | q
        · exact nm d q
        · rw [List.mem_singleton.mp q]
          exact Ne.symm nl
      · rcases List.mem_append.mp md with q | q
        · exact fr d q
        · rw [List.mem_singleton.mp q]
          exact sm.free hl
    · rintro H1 ⟨s1, cs, lc, hcl, hcs, nm, fr⟩
      rw [List.length_map, la] at lc
      rw [List.take_of_length_le (by rw [List.length_map, la]; omega)] at hcs
      refine ⟨by show 0 ≤ sizeLine; omega, fun pv hpv => ?_⟩
      have n1 : mt ≠ pv := fun e => by
        rw [← e, hcl] at hpv
        cases hpv
      have np : ∀ b ∈ cs, b ≠ pv := fun b mb e => by
        obtain ⟨o, z⟩ := rws_some hcs mb
        rw [e, hpv] at z
        cases z
      refine ⟨_, rfl, (W : Int), rfl, by omega, by omega, ?_⟩
      rw [Int.toNat_natCast W]
      refine for_range (lo := 0) (n := W) (fun k σ H' => (∃ u v x, σ = [some (.int (p : Int)), some (.ref m), some (.int (W : Int)), some (.ref mt), some (.ref pv), u, v, x, none]) ∧ Same H H' ∧
        ∃ (as' : List Addr) (D E : List (List Int)) (t : List Nat), H' mt = some (.lst (as'.map V.ref)) ∧ H' pv = some (.lst (t.map nat_)) ∧ Rws H' as' (D ++ E) ∧ (∀ b ∈ as', H b = none) ∧ (∀ b ∈ as', b ≠ pv) ∧ (∀ [NeZero p], LinA.Way (Fin p) p L T D E t k) ∧ (∀ c ∈ t, c < k) ∧ D.length = t.length ∧ D.length + E.length = T.length)
        ⟨⟨_, _, _, rfl⟩, same_trans s1 (same_new hpv), cs, [], T, [], (upd_ne n1).trans hcl, upd_same, hcs.mono fun b _ o e => same_new hpv _ _ e, fr, np, fun {_} => LinA.Way.start hv, fun c z => (List.not_mem_nil z).elim, rfl, Nat.zero_add _⟩ ?_ ?_
      · rintro k σ H' hk ⟨⟨u, v, x, rfl⟩, sm, bs, D, E, t, hm', hp', hT', fr', np', way, tk, ld, le⟩
        have e0 : (0 : Int) + (k : Int) = (k : Int) := by omega
        rw [e0]
        haveI : NeZero p := ⟨by omega⟩
        have vD := way.vd
        have vE := way.ve
        have vDE : ∀ xs ∈ D ++ E, Vc (p : Int) L xs := fun xs mx => (List.mem_append.mp mx).elim (vD xs) (vE xs)
        have ls : (t.map nat_).length = D.length := by rw [List.length_map, ld]
        refine ⟨_, rfl, pv, _, rfl, .inl (SqL.of hp'), _, rfl, _, rfl, _, rfl, ?_⟩
        refine ⟨mt, D.length, k, L, bs, D ++ E, (p : Int), by rw [ls]; rfl, hm', hT', vDE, by omega, by rw [List.length_append]; omega, by rw [List.length_append]; omega, fun f f1 f2 f3 f4 => ?_, fun z => ?_⟩
        · have eb : at_ (D ++ E) f k ≠ 0 := f3
          have fE : D.length ≤ f := f1
          obtain ⟨gb, gf, hgb, mgb⟩ := rws_get hT' f2
          obtain ⟨ga, gg, hga, mga⟩ := rws_get hT' (i := D.length) (by omega)
          refine ⟨_, rfl, rfl, _, rfl, iteT ?_⟩
          refine ⟨_, rfl, _, rfl, mt, _, (f : Int), _, rfl, rfl, SqL.of hm', atI_nat gf, _, rfl, _, rfl, mt, _, _, _, rfl, rfl, SqL.of hm', by rw [ls]; exact atI_nat gg, by show 2 ≤ sizeLine; decide, fun tp htp => ?_⟩
          have nt : mt ≠ tp := ne_of_none hm' htp
          have hmA : upd H' tp (.tup [V.ref gb, V.ref ga]) mt = some (.lst (bs.map V.ref)) := (upd_ne nt).trans hm'
          refine ⟨tp, _, rfl, SqT.of upd_same, rfl, _, _, rfl, ?_⟩
          refine ⟨_, rfl, _, rfl, mt, _, _, D.length, rfl, rfl, hmA, by rw [ls]; exact ixN_nat (by rw [List.length_map, hT'.len]; omega), ?_⟩
          refine ⟨_, _, rfl, ?_⟩
          refine ⟨_, rfl, _, rfl, mt, _, (f : Int), f, rfl, rfl, upd_same, ixN_nat (by rw [List.length_set, List.length_map, hT'.len]; exact f2), ?_⟩
          refine ⟨rfl, ?_⟩
          obtain ⟨E', pm, es⟩ := swap_rest fE f2
          have nm' := rws_ne hm' hT'
          let H2 : Hp := upd (upd (upd H' tp (.tup [V.ref gb, V.ref ga])) mt (.lst ((bs.map V.ref).set D.length (V.ref gb)))) mt (.lst (((bs.map V.ref).set D.length (V.ref gb)).set f (V.ref ga)))
          have but2 : But mt H' H2 := ((but_same (same_new htp)).trans but_upd).trans but_upd
          have hm2 : H2 mt = some (.lst (((bs.set D.length gb).set f ga).map V.ref)) := by
            show upd _ mt _ mt = _
            rw [upd_same, List.map_set, List.map_set]
          have hT2 : Rws H2 ((bs.set D.length gb).set f ga) (D ++ (D ++ E).getD f [] :: E') := by
            rw [← es]
            exact rws_set (rws_set (rws_but hT' nm' but2) D.length (but2 _ (nm' gb (rws_mem gf)) _ hgb)) f (but2 _ (nm' ga (rws_mem gg)) _ hga)
          have vb := vDE _ mgb
          have vT2 : ∀ xs ∈ D ++ (D ++ E).getD f [] :: E', Vc (p : Int) L xs := fun xs mx => by
            rcases List.mem_append.mp mx with q | q
            · exact vD xs q
            · rcases List.mem_cons.mp q with q | q
              · rw [q]
                exact vb
              · exact vE xs (pm.mem_iff.mpr (List.mem_cons_of_mem _ q))
          have lpm := pm.length_eq
          rw [List.length_cons] at lpm
          have lT2 : (D ++ (D ++ E).getD f [] :: E').length = T.length := by
            rw [List.length_append, List.length_cons]
            omega
          have g2 : (D ++ (D ++ E).getD f [] :: E').getD D.length [] = (D ++ E).getD f [] := by
            rw [List.getD_eq_getElem?_getD, List.getElem?_append_right (Nat.le_refl _), Nat.sub_self]
            rfl
          have bat : at_ (D ++ (D ++ E).getD f [] :: E') D.length k = at_ (D ++ E) f k := by
            show ((D ++ (D ++ E).getD f [] :: E').getD D.length []).getD k 0 = _
            rw [g2]
          refine ⟨_, rfl, _, rfl, _, rfl, _, rfl, p, mt, D.length, k, L, (bs.set D.length gb).set f ga, D ++ (D ++ E).getD f [] :: E', by rw [ls]; rfl, p2, p6, pr, hm2, hT2, vT2, by rw [lT2]; omega, by omega, by rw [bat]; assumption, hL, by rw [lT2]; exact tL, fun H3 bs3 but3 hm3 hT3 fr3 => ?_⟩
          have np3 : mt ≠ pv := n1
          have hp2 : H2 pv = some (.lst (t.map nat_)) := but2 pv (Ne.symm n1) _ hp'
          have hp3 : H3 pv = some (.lst (t.map nat_)) := but3 pv (Ne.symm n1) _ hp2
          refine ⟨_, rfl, .inl ⟨rfl, _, SqL.of hp3⟩, _, rfl, pv, _, _, rfl, rfl, hp3, by rw [List.length_map, sizeLine_eq]; omega, ?_⟩
          let l := leadZ p (D ++ (D ++ E).getD f [] :: E') D.length k
          have el : l = scaleZ p (invN p (D ++ (D ++ E).getD f [] :: E') D.length k) ((D ++ E).getD f []) := by
            show scaleZ p _ ((D ++ (D ++ E).getD f [] :: E').getD D.length []) = _
            rw [g2]
          have b34 : ∀ b, b ≠ pv → ∀ o, H3 b = some o → upd H3 pv (.lst (t.map nat_ ++ [V.int (k : Int)])) b = some o := fun b n o e => (upd_ne n).trans e
          have sm3 : Same H (upd H3 pv (.lst (t.map nat_ ++ [V.int (k : Int)]))) := fun b o e => by
            have z1 : b ≠ mt := fun q => by
              rw [q, hmt] at e
              cases e
            have z2 : b ≠ pv := fun q => by
              rw [q, s1.free hpv] at e
              cases e
            exact b34 b z2 o (but3 b z1 o (but2 b z1 o (sm b o e)))
          have in2 : ∀ b ∈ (bs.set D.length gb).set f ga, b ∈ bs := fun b mb => by
            rcases List.mem_or_eq_of_mem_set mb with q | q
            · rcases List.mem_or_eq_of_mem_set q with q | q
              · exact q
              · rw [q]
                exact rws_mem gf
            · rw [q]
              exact rws_mem gg
          have H02 : ∀ b, H2 b = none → H b = none := fun b e => by
            cases q : H b with
            | none => rfl
            | some o =>
              have z1 : b ≠ mt := fun r => by
                rw [r, hmt] at q
                cases q
              rw [but2 b z1 o (sm b o q)] at e
              cases e
          have nv3 : ∀ b ∈ bs3, b ≠ pv := fun b mb => by
            rcases fr3 b mb with q | q
            · exact np' b (in2 b q)
            · exact ne_of_none hp2 q |>.symm
          refine ⟨⟨_, _, _, rfl⟩, sm3, bs3, D.map (lessZ p l k) ++ [l], E'.map (lessZ p l k), t ++ [k], b34 mt n1 _ hm3, ?_, ?_, fun b mb => ?_, nv3, fun {_} => ?_, fun c mc => ?_, ?_, ?_⟩
          · rw [upd_same, List.map_append]
            rfl
          · rw [mid_parts] at hT3
            exact hT3.mono fun b mb o e => b34 b (nv3 b mb) o e
          · rcases fr3 b mb with q | q
            · exact fr' b (in2 b q)
            · exact H02 b q
          · rw [el]
            refine LinA.Way.found (by omega) way pm ?_
            have q0 : 0 ≤ at_ (D ++ E) f k ∧ at_ (D ++ E) f k < (p : Int) := LinA.vec_at (p := p) vb (by omega) k
            have q1 : 0 < at_ (D ++ E) f k ∧ at_ (D ++ E) f k < (p : Int) := ⟨by have := q0.1; omega, q0.2⟩
            have q2 := inv_one pr p2 q1.1 q1.2
            unfold invN
            rw [bat]
            exact q2
          · rcases List.mem_append.mp mc with q | q
            · exact Nat.lt_succ_of_lt (tk c q)
            · rw [List.mem_singleton.mp q]
              exact Nat.lt_succ_self k
          · rw [List.length_append, List.length_append, List.length_map, ld]
            rfl
          · rw [List.length_append, List.length_map, List.length_map]
            show D.length + 1 + E'.length = T.length
            omega
        · refine ⟨_, rfl, rfl, _, rfl, iteF ⟨⟨_, _, _, rfl⟩, sm, bs, D, E, t, hm', hp', hT', fr', np', fun {_} => LinA.Way.none way fun xs mx => ?_, fun c mc => Nat.lt_succ_of_lt (tk c mc), ld, le⟩⟩
          obtain ⟨j, hj, e⟩ := List.mem_iff_getElem.mp mx
          have y := z (D.length + j) (by omega) (by rw [List.length_append]; omega)
          have g : (D ++ E).getD (D.length + j) [] = xs := by
            rw [List.getD_eq_getElem?_getD, List.getElem?_append_right (by omega), Nat.add_sub_cancel_left, List.getElem?_eq_getElem hj, e]
            rfl
          have y2 : ((D ++ E).getD (D.length + j) []).getD k 0 = 0 := y
          rw [g] at y2
          exact y2
      · rintro σ H' ⟨⟨u, v, x, rfl⟩, sm, bs, D, E, t, hm', hp', hT', fr', np', way, tk, ld, le⟩
        refine ⟨_, rfl, _, rfl, by show 2 ≤ sizeLine; decide, fun tb htb => ?_⟩
        have s2 := same_new (o := .tup [V.ref mt, V.ref pv]) htb
        exact want _ tb mt pv bs D E t (same_trans sm s2) (sm.free htb) hmt (s1.free hpv) n1 upd_same (s2 _ _ hm') (s2 _ _ hp') (hT'.mono fun b _ o e => s2 _ _ e) fr' way tk ld le
end
end Vb
end L2

set_option Elab.async false
set_option linter.all false
set_option maxRecDepth 100000
set_option maxHeartbeats 4000000
/-! Vb, part 15: bases. -/
namespace L2
namespace Vb
open PySem PySem.Spec PyProof.Rows
abbrev sBas : Stmt := topS 24
abbrev sRed : Stmt := topS 30
abbrev sRank : Stmt := topS 31
theorem rws_take {H : Hp} {as : List Addr} {T : List (List Int)} (h : Rws H as T) (n : Nat) : Rws H (as.take n) (T.take n) := by
  induction h generalizing n with
  | nil => rw [List.take_nil, List.take_nil]; exact .nil
  | cons r _ ih =>
    cases n with
    | zero => exact .nil
    | succ n => exact .cons r (ih n)
/-- what a call of reduced leaves -/
def Reds (H : Hp) (p L : Nat) (T : List (List Int)) (H' : Hp) (d : Addr) (bs : List Addr) (B : List (List Int)) (t : List Nat) : Prop :=
  Same H H' ∧ H d = none ∧ H' d = some (.lst (bs.map V.ref)) ∧ Rws H' bs B ∧ (∀ b ∈ bs, H b = none) ∧ LinA.Bas p L T B t ∧ B.length ≤ T.length
section
variable {P : Program} {w : World} {K : PySem.W.Frag} {mg : Str → Option Value} {base : Heap}
def spBas : Sp := fun vs H Q _ => ∃ (p : Nat) (m : Addr) (L : Nat) (as : List Addr) (T : List (List Int)), vs = [.int (p : Int), .ref m] ∧ 2 ≤ p ∧ p ≤ 65537 ∧ Prm p ∧ H m = some (.lst (as.map V.ref)) ∧ Rws H as T ∧ (∀ xs ∈ T, Vc (p : Int) L xs) ∧ L ≤ 1000 ∧ T.length ≤ 1000 ∧
  ∀ (H' : Hp) (d : Addr) (bs : List Addr) (B : List (List Int)) (t : List Nat), Reds H p L T H' d bs B t → Q (.ref d) H'
theorem scBas : FnScope ["prime", "vectors", "table", "pivots"] ["prime", "vectors"] (defScope sBas) := ⟨rfl, rfl, rfl, by decide +kernel, rfl, by decide +kernel, by decide +kernel⟩
theorem ok_bas {f fE : Addr} {fd fdE : FuncData} (F : Fun K "basis_of" "basis_of" sBas f fd) (FE : Fun K "eliminated" "eliminated" sElim fE fdE) (GE : FnOk P w K mg base CX0 3 fE fdE ["prime", "vectors", "width"] spElim) (gE : mg "eliminated" = some (.ref fE)) (gN : mg "len" = none) :
    FnOk P w K mg base CX0 4 f fd ["prime", "vectors"] spBas := by
  have bE : Binds K fdE ["prime", "vectors", "width"] [] := FE.binds fun _ _ _ _ _ _ us hl => match us, hl with | [_, _, _], _ => rfl
  refine F.ok scBas (fun vs H Q E h => ?_) (fun cdv A outer s0 H vs Q E hr h => ?_)
  · obtain ⟨p, m, L, as, T, rfl, _⟩ := h
    rfl
  · obtain ⟨p, m, L, as, T, rfl, p2, p6, pr, hm, hT, hv, hL, tL, want⟩ := h
    have la := hT.len
    refine ⟨_, pss_cons (ps_if (pt_not (pt_truth (pv 1) (by intro _; rfl))) (pss_one (ps_ret (pe_lst pa_nil))) pss_nil)
      (pss_cons (ps_asg (pe_call GE hr rfl gE FE.kp bE .nil pass0 (pa_cons (pv 0) (pa_cons (pv 1) (pa_cons (pe_callB call_len_seq (by rfl) gN PySem.boot_len (pa_cons (pe_ix ix_list (pv 1) pe_int (fun _ _ => rfl)) pa_nil)) pa_nil))))
          (pg_tup rfl (pgs_cons (pg_name (i := 2) scBas.nd rfl (Or.inl rfl)) (pgs_cons (pg_name (i := 3) scBas.nd rfl (Or.inl rfl)) pgs_nil))))
      (pss_one (ps_ret (pe_slice sl_list (pv 2) po_none (po_some (pe_callB call_len_seq (by rfl) gN PySem.boot_len (pa_cons (pv 3) pa_nil))))))), ?_⟩
    cases hT with
    | nil =>
      refine ⟨_, rfl, false, .inl ⟨_, SqL.of hm, rfl⟩, iteT ⟨by show 0 ≤ sizeLine; omega, fun d hd => ?_⟩⟩
      exact want _ d [] [] [] ⟨same_new hd, hd, upd_same, .nil, fun b z => (List.not_mem_nil z).elim, LinA.Bas.none, Nat.zero_le _⟩
    | @cons a xs as T ha hT =>
      have hT1 : Rws H (a :: as) (xs :: T) := .cons ha hT
      have ha' : H a = some (.lst (xs.map V.int)) := ha
      refine ⟨_, rfl, true, .inl ⟨_, SqL.of hm, rfl⟩, iteF ?_⟩
      refine ⟨_, rfl, _, rfl, _, rfl, m, _, 0, _, rfl, rfl, SqL.of hm, atI_nat (j := 0) rfl, a, _, rfl, .inl (SqL.of ha'), ?_⟩
      have lx : xs.length = L := (hv xs List.mem_cons_self).1
      refine ⟨p, m, L, L, a :: as, xs :: T, ?_, p2, p6, pr, hm, hT1, hv, Nat.le_refl _, hL, tL, fun H' tb mt pv cs D E t sm _ hmt hpv nmp htb hmt' hpv' hDE fr way tk ld le => ?_⟩
      · rw [List.length_map, lx]
        rfl
      refine ⟨tb, _, rfl, SqT.of htb, rfl, _, _, rfl, _, _, rfl, rfl, ?_⟩
      refine ⟨_, rfl, ⟨_, rfl, pv, _, rfl, .inl (SqL.of hpv'), _, rfl, mt, _, rfl, SqL.of hmt', fun d hd => ?_⟩⟩
      have ec : cutV (cs.map V.ref) none (some ((t.map nat_).length : Int)) = (cs.take t.length).map V.ref := by
        rw [cut_take, List.length_map, List.map_take]
      rw [ec]
      haveI : NeZero p := ⟨by omega⟩
      have eB : (D ++ E).take t.length = D := by rw [← ld, List.take_left]
      have hB : Rws H' (cs.take t.length) D := by
        rw [← eB]
        exact rws_take hDE _
      have s2 := same_new (o := .lst ((cs.take t.length).map V.ref)) hd
      refine want _ d (cs.take t.length) D t ⟨same_trans sm s2, sm.free hd, upd_same, hB.mono fun b _ o e => s2 _ _ e, fun b mb => fr b (List.mem_of_mem_take mb), LinA.Bas.of_way (by omega) hv way, by omega⟩
def spRed : Sp := fun vs H Q _ => ∃ (p : Nat) (m : Addr) (L : Nat) (as : List Addr) (T : List (List Int)), vs = [.int (p : Int), .ref m] ∧ (p : Int) ∈ goods ∧ H m = some (.lst (as.map V.ref)) ∧ Rws H as T ∧ (∀ xs ∈ T, Vc (p : Int) L xs) ∧ L ≤ 1000 ∧ T.length ≤ 1000 ∧
  ∀ (H' : Hp) (d : Addr) (bs : List Addr) (B : List (List Int)) (t : List Nat), Reds H p L T H' d bs B t → Q (.ref d) H'
theorem scRed : FnScope ["prime", "vectors"] ["prime", "vectors"] (defScope sRed) := ⟨rfl, rfl, rfl, by decide +kernel, rfl, by decide +kernel, by decide +kernel⟩
theorem ok_red {f fR fV fB : Addr} {fd fdR fdV fdB : FuncData} (F : Fun K "reduced" "reduced" sRed f fd) (FR : Fun K "require_prime" "require_prime" sReqP fR fdR) (GR : FnOk P w K mg base CX0 2 fR fdR ["prime"] spReqP) (gR : mg "require_prime" = some (.ref fR))
    (FV : Fun K "require_vectors" "require_vectors" sReqV fV fdV) (GV : FnOk P w K mg base CX0 5 fV fdV ["prime", "vectors"] spReqV) (gV : mg "require_vectors" = some (.ref fV)) (FB : Fun K "basis_of" "basis_of" sBas fB fdB) (GB : FnOk P w K mg base CX0 4 fB fdB ["prime", "vectors"] spBas) (gB : mg "basis_of" = some (.ref fB)) :
    FnOk P w K mg base CX0 6 f fd ["prime", "vectors"] spRed := by
  have bR : Binds K fdR ["prime"] [] := FR.binds fun _ _ _ _ _ _ us hl => match us, hl with | [_], _ => rfl
  have bV : Binds K fdV ["prime", "vectors"] [] := FV.binds fun _ _ _ _ _ _ us hl => match us, hl with | [_, _], _ => rfl
  have bB : Binds K fdB ["prime", "vectors"] [] := FB.binds fun _ _ _ _ _ _ us hl => match us, hl with | [_, _], _ => rfl
  refine F.ok scRed (fun vs H Q E h => ?_) (fun cdv A outer s0 H vs Q E hr h => ?_)
  · obtain ⟨p, m, L, as, T, rfl, _⟩ := h
    rfl
  · obtain ⟨p, m, L, as, T, rfl, mp, hm, hT, hv, hL, tL, want⟩ := h
    obtain ⟨p2, p6, pr⟩ := good_prm mp
    refine ⟨_, pss_cons (ps_expr (pe_call GR (hr.mono (by decide)) rfl gR FR.kp bR .nil pass0 (pa_cons (pv 0) pa_nil)))
      (pss_cons (ps_expr (pe_call GV hr rfl gV FV.kp bV .nil pass0 (pa_cons (pv 0) (pa_cons (pv 1) pa_nil))))
      (pss_one (ps_ret (pe_call GB (hr.mono (by decide)) rfl gB FB.kp bB .nil pass0 (pa_cons (pv 0) (pa_cons (pv 1) pa_nil)))))), ?_⟩
    refine ⟨_, rfl, _, rfl, mp, fun H1 s1 => ?_⟩
    have up : ∀ {H' : Hp}, Same H H' → Rws H' as T := fun sm => hT.mono fun b _ o e => sm _ _ e
    refine ⟨_, rfl, _, rfl, (p : Int), m, as, T, L, rfl, s1 _ _ hm, up s1, hv, hL, tL, fun H2 s2 => ?_⟩
    have s12 := same_trans s1 s2
    refine ⟨_, rfl, _, rfl, p, m, L, as, T, rfl, p2, p6, pr, s12 _ _ hm, up s12, hv, hL, tL, fun H3 d bs B t r => ?_⟩
    obtain ⟨r1, r2, r3, r4, r5, r6, r7⟩ := r
    exact want H3 d bs B t ⟨same_trans s12 r1, s12.free r2, r3, r4, fun b mb => s12.free (r5 b mb), r6, r7⟩
def spRank : Sp := fun vs H Q _ => ∃ (p : Nat) (m : Addr) (L : Nat) (as : List Addr) (T : List (List Int)), vs = [.int (p : Int), .ref m] ∧ (p : Int) ∈ goods ∧ H m = some (.lst (as.map V.ref)) ∧ Rws H as T ∧ (∀ xs ∈ T, Vc (p : Int) L xs) ∧ L ≤ 1000 ∧ T.length ≤ 1000 ∧
  ∀ (H' : Hp) (B : List (List Int)) (t : List Nat), Same H H' → LinA.Bas p L T B t → Q (.int (B.length : Int)) H'
theorem scRank : FnScope ["prime", "vectors"] ["prime", "vectors"] (defScope sRank) := ⟨rfl, rfl, rfl, by decide +kernel, rfl, by decide +kernel, by decide +kernel⟩
theorem ok_rank {f fR : Addr} {fd fdR : FuncData} (F : Fun K "rank" "rank" sRank f fd) (FR : Fun K "reduced" "reduced" sRed fR fdR) (GR : FnOk P w K mg base CX0 6 fR fdR ["prime", "vectors"] spRed) (gR : mg "reduced" = some (.ref fR)) (gN : mg "len" = none) :
    FnOk P w K mg base CX0 7 f fd ["prime", "vectors"] spRank := by
  have bR : Binds K fdR ["prime", "vectors"] [] := FR.binds fun _ _ _ _ _ _ us hl => match us, hl with | [_, _], _ => rfl
  refine F.ok scRank (fun vs H Q E h => ?_) (fun cdv A outer s0 H vs Q E hr h => ?_)
  · obtain ⟨p, m, L, as, T, rfl, _⟩ := h
    rfl
  · obtain ⟨p, m, L, as, T, rfl, mp, hm, hT, hv, hL, tL, want⟩ := h
    refine ⟨_, pss_one (ps_ret (pe_callB call_len_seq (by rfl) gN PySem.boot_len (pa_cons (pe_call GR hr rfl gR FR.kp bR .nil pass0 (pa_cons (pv 0) (pa_cons (pv 1) pa_nil))) pa_nil))), ?_⟩
    refine ⟨_, rfl, _, rfl, p, m, L, as, T, rfl, mp, hm, hT, hv, hL, tL, fun H' d bs B t ⟨r1, r2, r3, r4, r5, r6, r7⟩ => ?_⟩
    refine ⟨d, _, rfl, .inl (SqL.of r3), ?_⟩
    rw [List.length_map, r4.len]
    exact want H' B t r1 r6
end
end Vb
end L2

set_option Elab.async false
set_option linter.all false
set_option maxRecDepth 100000
set_option maxHeartbeats 4000000
/-! Vb, part 16: the draws. -/
namespace L2
namespace Vb
open PySem PySem.Spec PyProof.Rows
abbrev sPurse : Stmt := topS 33
abbrev sMixed : Stmt := topS 34
abbrev sDraw : Stmt := topS 35
abbrev sPurses : Stmt := topS 36
abbrev sOneOf : Stmt := topS 37
/-- the purse at a: what is left, the seed, the turns so far, its number -/
def Purse (H : Hp) (a : Addr) (p q t i : Int) : Prop := H a = some (.lst [.int p, .int q, .int t, .int i])
abbrev pursed (H : Hp) (a : Addr) (p q t i : Int) : Hp := upd H a (.lst [.int p, .int q, .int t, .int i])
def spMixed : Sp := fun vs H Q _ => ∃ q t i : Int, vs = [.int q, .int t, .int i] ∧ 0 ≤ t ∧ t < 1000000000000 ∧ ∀ n : Int, Q (.int n) H
section
variable {P : Program} {w : World} {K : PySem.W.Frag} {mg : Str → Option Value} {base : Heap}
theorem scMixed : FnScope ["_law_seed", "_law_turn", "_law_at", "_law_mixed_here"] ["_law_seed", "_law_turn", "_law_at"] (defScope sMixed) := ⟨rfl, rfl, rfl, by decide +kernel, rfl, by decide +kernel, by decide +kernel⟩
theorem ok_mixed {f : Addr} {fd : FuncData} (F : Fun K "_law_mixed" "_law_mixed" sMixed f fd) : FnOk P w K mg base CX0 1 f fd ["_law_seed", "_law_turn", "_law_at"] spMixed := by
  refine F.ok scMixed (fun vs H Q E h => ?_) (fun cdv A outer s H vs Q E hr h => ?_)
  · obtain ⟨q, t, i, rfl, _⟩ := h
    rfl
  · obtain ⟨q, t, i, rfl, t0, t1, want⟩ := h
    refine ⟨_, pss_cons (ps_set (i := 3) scMixed.nd rfl (Or.inl rfl) (pe_op op_add (pe_op op_mul (pv 0) pe_int) (pe_op op_mul (pe_op op_mul pe_int (pv 1)) (pv 1))))
      (pss_cons (ps_set (i := 3) scMixed.nd rfl (Or.inl rfl) (pe_op op_mod (pe_op op_add (pe_op op_add (pv 3) (pe_op op_mul pe_int (pv 2))) (pv 1)) pe_int))
      (pss_cons (ps_set (i := 3) scMixed.nd rfl (Or.inl rfl) (pe_op op_mod (pe_op op_add (pe_op op_mul (pv 3) (pv 3)) pe_int) pe_int))
      (pss_one (ps_ret (pe_op op_mod (pe_op op_mul (pv 3) pe_int) pe_int))))), ?_⟩
    refine ⟨_, rfl, _, _, rfl, rfl, .inr ⟨by decide, by decide⟩, _, rfl, _, _, rfl, rfl, .inl ⟨by decide, by decide⟩, _, rfl, _, _, rfl, rfl, .inr ⟨by omega, by omega⟩, _, _, rfl, rfl, ?_⟩
    refine ⟨_, rfl, _, rfl, _, _, rfl, rfl, .inl ⟨by decide, by decide⟩, _, _, rfl, rfl, _, rfl, _, _, rfl, rfl, _, _, rfl, rfl, (by show (0 : Int) < 2147483647; decide), ?_⟩
    refine ⟨_, rfl, _, rfl, _, _, rfl, rfl, .inl ⟨?_, ?_⟩, _, _, rfl, rfl, _, _, rfl, rfl, (by show (0 : Int) < 2147483629; decide), ?_⟩
    · have z := Int.emod_nonneg (q * 69069 + 104729 * t * t + 7919 * i + t) (show (2147483647 : Int) ≠ 0 by decide)
      omega
    · have z := Int.emod_lt_of_pos (q * 69069 + 104729 * t * t + 7919 * i + t) (show (0 : Int) < 2147483647 by decide)
      omega
    refine ⟨_, rfl, _, _, rfl, rfl, .inr ⟨by decide, by decide⟩, _, _, rfl, rfl, (by show (0 : Int) < 2147483587; decide), ?_⟩
    exact want _
/-- a purse with at most n turns -/
def Pur (H : Hp) (a : Addr) (n : Nat) : Prop := ∃ p q t i, Purse H a p q t i ∧ 0 ≤ t ∧ t ≤ (n : Int)
theorem Pur.mono {H : Hp} {a : Addr} {n m : Nat} (h : Pur H a n) (l : n ≤ m) : Pur H a m := by
  obtain ⟨p, q, t, i, e, t0, t1⟩ := h
  exact ⟨p, q, t, i, e, t0, by omega⟩
theorem Pur.same {H H' : Hp} {a : Addr} {n : Nat} (h : Pur H a n) (s : Same H H') : Pur H' a n := by
  obtain ⟨p, q, t, i, e, t0, t1⟩ := h
  exact ⟨p, q, t, i, s _ _ e, t0, t1⟩
theorem Pur.but {H H' : Hp} {a m : Addr} {n : Nat} (h : Pur H a n) (s : But m H H') (ne : a ≠ m) : Pur H' a n := by
  obtain ⟨p, q, t, i, e, t0, t1⟩ := h
  exact ⟨p, q, t, i, s _ ne _ e, t0, t1⟩
theorem Pur.ne {H : Hp} {a b : Addr} {n : Nat} (h : Pur H a n) (e : H b = none) : a ≠ b := by
  obtain ⟨p, q, t, i, e2, _⟩ := h
  exact ne_of_none e2 e
/-- a draw below `many`: what the purse holds behind it, and what is drawn -/
def spDraw : Sp := fun vs H Q _ => ∃ (a : Addr) (m : Int) (n : Nat), vs = [.ref a, .int m] ∧ 0 < m ∧ m < 100000 ∧ Pur H a n ∧ n ≤ 1000000 ∧
  ∀ (H' : Hp) (d : Int), 0 ≤ d → d < m → But a H H' → Pur H' a (n + 1) → Q (.int d) H'
theorem bits28 {m : Int} (h0 : 0 < m) (h1 : m < 100000) : (1 + ((Builtin.Int.intBits m : Nat) : Int) / 28).toNat = 1 := by
  have e : Builtin.Int.intBits m ≤ 17 := PyProof.Rows.intBits_le (k := 17) (by omega)
  omega
theorem at4 {p q t i : Int} : atI [V.int p, V.int q, V.int t, V.int i] 0 = some (.int p) ∧ atI [V.int p, V.int q, V.int t, V.int i] 1 = some (.int q) ∧ atI [V.int p, V.int q, V.int t, V.int i] 2 = some (.int t) ∧ atI [V.int p, V.int q, V.int t, V.int i] 3 = some (.int i) := ⟨rfl, rfl, rfl, rfl⟩
theorem scDraw : FnScope ["_law_purse_here", "_law_many", "_law_drawn", "_law_found", "_law_piece"] ["_law_purse_here", "_law_many"] (defScope sDraw) := ⟨rfl, rfl, rfl, by decide +kernel, rfl, by decide +kernel, by decide +kernel⟩
theorem ok_draw {f fM : Addr} {fd fdM : FuncData} (F : Fun K "_law_draw" "_law_draw" sDraw f fd) (FM : Fun K "_law_mixed" "_law_mixed" sMixed fM fdM) (gM : mg "_law_mixed" = some (.ref fM)) (gR : mg "range" = none) :
    FnOk P w K mg base CX0 2 f fd ["_law_purse_here", "_law_many"] spDraw := by
  have GM : FnOk P w K mg base CX0 1 fM fdM ["_law_seed", "_law_turn", "_law_at"] spMixed := ok_mixed FM
  have bM : Binds K fdM ["_law_seed", "_law_turn", "_law_at"] [] := FM.binds fun _ _ _ _ _ _ us hl => match us, hl with | [_, _, _], _ => rfl
  refine F.ok scDraw (fun vs H Q E h => ?_) (fun cdv A outer s H vs Q E hr h => ?_)
  · obtain ⟨a, m, n, rfl, _⟩ := h
    rfl
  · obtain ⟨a, m, n, rfl, m0, m1, ⟨p, q, t, i, hp, t0, t2⟩, n1, want1⟩ := h
    have t1 : t < 100000000 := by omega
    have want : ∀ p' t' d : Int, 0 ≤ d → d < m → t ≤ t' → t' ≤ t + 1 → Q (.int d) (pursed H a p' q t' i) := fun p' t' d d0 d1 e0 e1 => want1 _ d d0 d1 but_upd ⟨p', q, t', i, upd_same, by omega, by omega⟩
    have hp : H a = some (.lst [.int p, .int q, .int t, .int i]) := hp
    refine ⟨_, pss_cons (ps_if (pt_cmpR op_gt (pe_ix ix_list (pv 0) pe_int (fun _ _ => rfl)) pe_int (nomark _))
        (pss_cons (ps_set (i := 2) scDraw.nd rfl (Or.inl rfl) (pe_op op_mod (pe_ix ix_list (pv 0) pe_int (fun _ _ => rfl)) (pv 1)))
        (pss_cons (ps_asg (pe_op op_fdivW (pe_ix ix_list (pv 0) pe_int (fun _ _ => rfl)) (pv 1)) (pg_sub (pv 0) pe_int set_list))
        (pss_one (ps_ret (pv 2))))) pss_nil)
      (pss_cons (ps_set (i := 3) scDraw.nd rfl (Or.inl rfl) pe_int)
      (pss_cons (ps_for PassesOwn.never rfl (pi_range1 rfl gR (pa_cons (pe_op op_add pe_int (pe_op op_fdiv (pe_bits (pv 1)) pe_int)) pa_nil)) (pg_name (i := 4) scDraw.nd rfl (Or.inl rfl))
        (pss_cons (ps_asg (pe_op op_add (pe_ix ix_list (pv 0) pe_int (fun _ _ => rfl)) pe_int) (pg_sub (pv 0) pe_int set_list))
        (pss_one (ps_set (i := 3) scDraw.nd rfl (Or.inl rfl) (pe_op op_add (pe_op op_mul (pv 3) pe_int)
          (pe_call GM (hr.mono (by decide)) rfl gM FM.kp bM .nil pass0 (pa_cons (pe_ix ix_list (pv 0) pe_int (fun _ _ => rfl)) (pa_cons (pe_ix ix_list (pv 0) pe_int (fun _ _ => rfl)) (pa_cons (pe_ix ix_list (pv 0) pe_int (fun _ _ => rfl)) pa_nil))))))))
      ) (pss_one (ps_ret (pe_op op_mod (pv 3) (pv 1)))))), ?_⟩
    refine ⟨_, rfl, _, _, _, _, rfl, rfl, SqL.of hp, at4.1, _, _, rfl, rfl, _, rfl, ite2 (fun _ => ?_) (fun _ => ?_)⟩
    · refine ⟨_, rfl, _, _, _, _, rfl, rfl, SqL.of hp, at4.1, _, rfl, _, _, rfl, rfl, m0, ?_⟩
      refine ⟨_, rfl, _, _, _, _, rfl, rfl, SqL.of hp, at4.1, _, rfl, _, _, rfl, rfl, wide_div (b := 17) m0 (by omega) (by decide) (by decide), ?_⟩
      refine ⟨_, rfl, _, _, _, 0, rfl, rfl, hp, rfl, ?_⟩
      refine ⟨_, rfl, ?_⟩
      exact want _ t _ (Int.emod_nonneg _ (by omega)) (Int.emod_lt_of_pos _ m0) (Int.le_refl _) (by omega)
    · refine ⟨_, rfl, _, rfl, _, _, rfl, rfl, ⟨by decide, by decide⟩, _, _, rfl, rfl, _, rfl, ?_, ?_, ?_⟩
      · have z : (0 : Int) ≤ ((Builtin.Int.intBits m : Nat) : Int) := Int.natCast_nonneg _
        omega
      · have e : Builtin.Int.intBits m ≤ 17 := PyProof.Rows.intBits_le (k := 17) (by omega)
        omega
      rw [bits28 m0 m1]
      refine for_range (lo := 0) (n := 1) (fun k σ H' => (k = 0 ∧ σ = [some (.ref a), some (.int m), none, some (.int 0), none] ∧ H' = H) ∨ (k = 1 ∧ ∃ (n : Int) (v : Option V), σ = [some (.ref a), some (.int m), none, some (.int n), v] ∧ H' = pursed H a p q (t + 1) i)) (.inl ⟨rfl, rfl, rfl⟩) ?_ ?_
      · rintro k σ H' hk (⟨rfl, rfl, rfl⟩ | ⟨rfl, _⟩)
        · refine ⟨_, rfl, _, _, _, _, rfl, rfl, SqL.of hp, at4.2.2.1, _, _, rfl, rfl, ?_⟩
          refine ⟨_, rfl, _, _, _, 2, rfl, rfl, hp, rfl, ?_⟩
          have hp2 : pursed H' a p q (t + 1) i a = some (.lst [.int p, .int q, .int (t + 1), .int i]) := upd_same
          refine ⟨_, rfl, _, _, rfl, rfl, .inr ⟨by decide, by decide⟩, _, rfl, _, _, _, _, rfl, rfl, SqL.of hp2, at4.2.1, _, rfl, _, _, _, _, rfl, rfl, SqL.of hp2, at4.2.2.1, _, rfl, _, _, _, _, rfl, rfl, SqL.of hp2, at4.2.2.2, ?_⟩
          refine ⟨_, _, _, rfl, by omega, by omega, fun n => ⟨_, _, rfl, rfl, ?_⟩⟩
          exact .inr ⟨rfl, _, _, rfl, rfl⟩
        · omega
      · rintro σ H' (⟨z, _⟩ | ⟨_, n, v, rfl, rfl⟩)
        · omega
        · refine ⟨_, rfl, _, rfl, _, _, rfl, rfl, m0, ?_⟩
          exact want _ _ _ (Int.emod_nonneg _ (by omega)) (Int.emod_lt_of_pos _ m0) (by omega) (Int.le_refl _)
/-- one of a list, drawn -/
def spOneOf : Sp := fun vs H Q _ => ∃ (a l : Addr) (xs : List V) (n : Nat), vs = [.ref a, .ref l] ∧ Pur H a n ∧ n ≤ 1000000 ∧ H l = some (.lst xs) ∧ l ≠ a ∧ 0 < xs.length ∧ xs.length < 100000 ∧
  ∀ (j : Nat) (x : V) (H' : Hp), xs[j]? = some x → But a H H' → Pur H' a (n + 1) → Q x H'
theorem scOneOf : FnScope ["_law_purse_here", "_law_some"] ["_law_purse_here", "_law_some"] (defScope sOneOf) := ⟨rfl, rfl, rfl, by decide +kernel, rfl, by decide +kernel, by decide +kernel⟩
theorem ok_oneOf {f fD fM : Addr} {fd fdD fdM : FuncData} (F : Fun K "_law_one_of" "_law_one_of" sOneOf f fd) (FD : Fun K "_law_draw" "_law_draw" sDraw fD fdD) (FM : Fun K "_law_mixed" "_law_mixed" sMixed fM fdM)
    (gD : mg "_law_draw" = some (.ref fD)) (gM : mg "_law_mixed" = some (.ref fM)) (gR : mg "range" = none) (gL : mg "len" = none) : FnOk P w K mg base CX0 3 f fd ["_law_purse_here", "_law_some"] spOneOf := by
  have GD : FnOk P w K mg base CX0 2 fD fdD ["_law_purse_here", "_law_many"] spDraw := ok_draw FD FM gM gR
  have bD : Binds K fdD ["_law_purse_here", "_law_many"] [] := FD.binds fun _ _ _ _ _ _ us hl => match us, hl with | [_, _], _ => rfl
  refine F.ok scOneOf (fun vs H Q E h => ?_) (fun cdv A outer s H vs Q E hr h => ?_)
  · obtain ⟨a, l, xs, n, rfl, _⟩ := h
    rfl
  · obtain ⟨a, l, xs, n, rfl, hp, nn, hl, la, n0, n1, want⟩ := h
    refine ⟨_, pss_one (ps_ret (pe_ix ix_list (pv 1) (pe_call GD (hr.mono (by decide)) rfl gD FD.kp bD .nil pass0 (pa_cons (pv 0) (pa_cons (pe_callB call_len_seq (by rfl) gL PySem.boot_len (pa_cons (pv 1) pa_nil)) pa_nil))) (fun _ _ => rfl))), ?_⟩
    refine ⟨_, rfl, _, rfl, _, rfl, l, _, rfl, .inl (SqL.of hl), ?_⟩
    refine ⟨a, _, n, rfl, by omega, by omega, hp, nn, fun H' d d0 d1 bt hp' => ?_⟩
    have hl2 : H' l = some (.lst xs) := bt l la _ hl
    obtain ⟨x, hx⟩ : ∃ x, xs[d.toNat]? = some x := ⟨xs[d.toNat]'(by omega), by rw [List.getElem?_eq_getElem]⟩
    have ed : d = ((d.toNat : Nat) : Int) := by omega
    refine ⟨_, _, _, x, rfl, rfl, SqL.of hl2, by rw [ed]; exact atI_nat hx, ?_⟩
    exact want _ x H' hx bt hp'
end
/-- ten to the sixty, to the eight -/
def CPowT (i j : Int) : Prop := i = 10 ^ 60 ∧ j = 8
theorem op_powT {X : Cx} : OpR X (binaryOp .Pow) (rI CPowT fun i j => .int (i ^ j.toNat)) := opI fun i j t u s Q E hc q => by
  obtain ⟨rfl, rfl⟩ := hc
  exact PySem.AutoIntOps.pow_4 (by decide) (by decide) (by decide +kernel) (by decide +kernel) (by decide +kernel) q
theorem ten18 : (10 : Int) ^ (18 : Int).toNat = 1000000000000000000 := by decide +kernel
theorem cut_ints (ns : List Int) (lo hi : Option Int) : ∃ ms : List Int, cutV (ns.map V.int) lo hi = ms.map V.int := by
  refine ⟨(ns.drop (HT.sIx (ns.map V.int).length 0 lo)).take (HT.sIx (ns.map V.int).length (ns.map V.int).length hi - HT.sIx (ns.map V.int).length 0 lo), ?_⟩
  unfold cutV
  rw [List.map_take, List.map_drop]
def spPurse (K : PySem.W.Frag) : Sp := fun vs H Q _ => ∃ (s : Addr) (ns : List Int) (i : Int), vs = [.ref s, .int i] ∧ SqL K H s (ns.map V.int) ∧ ∀ (H' : Hp) (a : Addr) (p q : Int), Same H H' → H a = none → Purse H' a p q 0 i → Q (.ref a) H'
def spPurses (K : PySem.W.Frag) : Sp := fun vs H Q _ => ∃ (s : Addr) (ns : List Int) (few : Int), vs = [.ref s, .int few] ∧ SqL K H s (ns.map V.int) ∧ ns.length ≤ 63 ∧ 0 ≤ few ∧ few ≤ 100 ∧
  ∀ (H' : Hp) (l : Addr) (as : List Addr), Same H H' → H l = none → H' l = some (.lst (as.map V.ref)) → as.length ≤ 100 → as.Nodup → (∀ a ∈ as, H a = none ∧ a ≠ l ∧ ∃ p q i, Purse H' a p q 0 i) → Q (.ref l) H'
section
variable {P : Program} {w : World} {K : PySem.W.Frag} {mg : Str → Option Value} {base : Heap}
theorem scPurse : FnScope ["_law_script", "_law_at", "_law_seed"] ["_law_script", "_law_at"] (defScope sPurse) := ⟨rfl, rfl, rfl, by decide +kernel, rfl, by decide +kernel, by decide +kernel⟩
theorem ok_purse {f : Addr} {fd : FuncData} (F : Fun K "_law_purse" "_law_purse" sPurse f fd) (gS : mg "sum" = none) (gM : mg "max" = none) : FnOk P w K mg base CX0 1 f fd ["_law_script", "_law_at"] (spPurse K) := by
  refine F.ok scPurse (fun vs H Q E h => ?_) (fun cdv A outer s H vs Q E hr h => ?_)
  · obtain ⟨s, ns, i, rfl, _⟩ := h
    rfl
  · obtain ⟨sc, ns, i, rfl, hs, want⟩ := h
    refine ⟨_, pss_cons (ps_set (i := 2) scPurse.nd rfl (Or.inl rfl) (pe_callB (cr_sum rfl) (by rfl) gS boot_sum (pa_cons (pe_slice sl_list (pv 0) (po_some (pv 1)) (po_some (pe_op op_add (pv 1) pe_int))) pa_nil)))
      (pss_one (ps_ret (pe_lst (pa_cons (pe_op op_mod (pe_callB (call_max2 rfl) (by rfl) gM boot_max (pa_cons (pe_op op_sub (pv 2) (pe_op op_pow pe_int pe_int)) (pa_cons pe_int pa_nil))) (pe_op op_powT (pe_op op_pow pe_int pe_int) pe_int))
        (pa_cons (pe_op op_mod (pv 2) pe_int) (pa_cons pe_int (pa_cons (pv 1) pa_nil))))))), ?_⟩
    refine ⟨_, rfl, _, rfl, i, rfl, _, rfl, _, _, rfl, rfl, i + 1, rfl, sc, _, rfl, hs, fun c hc => ?_⟩
    obtain ⟨ms, em⟩ := cut_ints ns (some i) (some (i + 1))
    have hcm : upd H c (.lst (cutV (ns.map V.int) (some i) (some (i + 1)))) c = some (.lst (ms.map V.int)) := by
      rw [upd_same, em]
    refine ⟨c, ms, rfl, SqL.of hcm, ?_⟩
    refine ⟨_, rfl, _, _, rfl, rfl, ⟨by decide, by decide, by decide⟩, _, _, rfl, rfl, _, _, rfl, _, _, rfl, rfl, ⟨by decide, by decide, by decide⟩, _, _, rfl, rfl, ⟨by decide +kernel, rfl⟩, _, _, rfl, rfl, (by show (0 : Int) < (10 ^ Int.toNat 60) ^ Int.toNat 8; decide +kernel), ?_⟩
    refine ⟨_, rfl, _, _, rfl, rfl, (by show (0 : Int) < 2147483629; decide), _, rfl, (by show 4 ≤ sizeLine; decide), fun a ha => ?_⟩
    have nac : a ≠ c := fun z => by
      rw [z, upd_same] at ha
      cases ha
    have ha0 : H a = none := (upd_ne nac).symm.trans ha
    refine want _ a _ _ (fun b o e => ?_) ha0 upd_same
    rw [upd_ne (ne_of_none e ha0), upd_ne (ne_of_none e hc)]
    exact e
theorem scPurses : FnScope ["_law_script", "_law_few", "_law_at"] ["_law_script", "_law_few"] (defScope sPurses) := ⟨rfl, rfl, rfl, by decide +kernel, rfl, by decide +kernel, by decide +kernel⟩
theorem ok_purses {f fP : Addr} {fd fdP : FuncData} (F : Fun K "_law_purses" "_law_purses" sPurses f fd) (FP : Fun K "_law_purse" "_law_purse" sPurse fP fdP) (gP : mg "_law_purse" = some (.ref fP)) (gS : mg "sum" = none) (gX : mg "max" = none) (gN : mg "min" = none) (gR : mg "range" = none) (gL : mg "len" = none) :
    FnOk P w K mg base CX0 2 f fd ["_law_script", "_law_few"] (spPurses K) := by
  have GP : FnOk P w K mg base CX0 1 fP fdP ["_law_script", "_law_at"] (spPurse K) := ok_purse FP gS gX
  have bP : Binds K fdP ["_law_script", "_law_at"] [] := FP.binds fun _ _ _ _ _ _ us hl => match us, hl with | [_, _], _ => rfl
  refine F.ok scPurses (fun vs H Q E h => ?_) (fun cdv A outer s H vs Q E hr h => ?_)
  · obtain ⟨s, ns, few, rfl, _⟩ := h
    rfl
  · obtain ⟨sc, ns, few, rfl, hs, len63, few0, few1, want⟩ := h
    refine ⟨_, pss_one (ps_ret (pe_lc (own := [("_law_at", 2)]) (g := gName 2) (tt := tYes) rfl scPurses.nd
      (pi_range1 rfl gR (pa_cons (pe_callB (call_max2 rfl) (by rfl) gX boot_max (pa_cons pe_int (pa_cons (pe_callB (call_min2 rfl) (by rfl) gN boot_min (pa_cons (pv 1) (pa_cons (pe_callB call_len_seq (by rfl) gL PySem.boot_len (pa_cons (pv 0) pa_nil)) pa_nil))) pa_nil))) pa_nil))
      (blkOk_by (N := ["_law_script", "_law_few", "_law_at"]) (sc := defScope sPurses) (by decide +kernel)) (fun _ _ _ _ _ => pg_name (i := 2) scPurses.nd rfl (Or.inl rfl)) (fun _ _ _ _ _ => pts_nil)
      (fun _ _ _ _ _ => pe_call GP (hr.mono (by decide)) rfl gP FP.kp bP .nil pass0 (pa_cons (pv 0) (pa_cons (pv 2) pa_nil))))), ?_⟩
    refine ⟨_, rfl, _, rfl, sc, _, rfl, .inl hs, _, _, rfl, _, _, rfl, _, rfl, ?_, ?_, ?_⟩
    · rw [List.length_map]
      split <;> split <;> omega
    · rw [List.length_map]
      split <;> split <;> omega
    intro D hD
    obtain ⟨n, hn, n100⟩ : ∃ n : Nat, (if (if ((ns.map V.int).length : Int) < few then ((ns.map V.int).length : Int) else few) > 1 then (if ((ns.map V.int).length : Int) < few then ((ns.map V.int).length : Int) else few) else 1).toNat = n ∧ n ≤ 100 := ⟨_, rfl, by
      rw [List.length_map]
      split <;> split <;> omega⟩
    rw [hn]
    refine lc_range (lo := 0) (n := n) (fun k H' => Same H H' ∧ ∃ as : List Addr, as.length = k ∧ H' D = some (.lst (as.map V.ref)) ∧ as.Nodup ∧ ∀ a ∈ as, H a = none ∧ a ≠ D ∧ ∃ p q i, Purse H' a p q 0 i)
      ⟨fun b o e => by rw [upd_ne (ne_of_none e hD)]; exact e, [], rfl, upd_same, List.nodup_nil, fun a z => (List.not_mem_nil z).elim⟩ ?_ ?_
    · rintro k H' hk ⟨sm, as, la, hDl, nod, hall⟩
      refine ⟨rfl, tyes ?_⟩
      refine ⟨_, rfl, _, rfl, sc, ns, _, rfl, sm.seq hs, fun H2 a p q s2 na pu => ?_⟩
      have hD2 := s2 _ _ hDl
      have naD : a ≠ D := fun z => by
        rw [z, hDl] at na
        cases na
      refine ⟨_, hD2, by rw [List.length_map, la, sizeLine_eq]; omega, ?_⟩
      refine ⟨fun b o e => ?_, as ++ [a], by rw [List.length_append, la]; rfl, ?_, ?_, fun x hx => ?_⟩
      · rw [upd_ne (ne_of_none e hD)]
        exact s2 _ _ (sm _ _ e)
      · rw [upd_same, List.map_append]
        rfl
      · refine List.nodup_append.mpr ⟨nod, by simp, fun x mx y my e => ?_⟩
        rw [List.mem_singleton.mp my] at e
        obtain ⟨_, _, p1, q1, i1, pu1⟩ := hall x mx
        have z : H' x = some _ := pu1
        rw [e, na] at z
        cases z
      · rcases List.mem_append.mp hx with z | z
        · obtain ⟨e1, e2, p1, q1, i1, pu1⟩ := hall x z
          refine ⟨e1, e2, p1, q1, i1, ?_⟩
          unfold Purse
          rw [upd_ne e2]
          exact s2 _ _ pu1
        · rw [List.mem_singleton.mp z]
          refine ⟨sm.free na, naD, p, q, 0 + (k : Int), ?_⟩
          unfold Purse
          rw [upd_ne naD]
          exact pu
    · rintro H' ⟨sm, as, la, hDl, nod, hall⟩
      exact want H' D as sm hD hDl (by omega) nod hall
end
end Vb
end L2

set_option Elab.async false
set_option linter.all false
set_option maxRecDepth 100000
set_option maxHeartbeats 4000000
/-! Vb, part 17: the law's sums. -/
namespace L2
namespace Vb
open PySem PySem.Spec PyProof.Rows
open LinA (sumZ addF)
abbrev sSumOf : Stmt := topS 41
abbrev namesSumOf : List Str := ["_law_prime", "_law_vectors_here", "_law_factors", "_law_length", "_law_found", "_law_vector", "_law_factor", "_law_place", "_law_here", "_law_there"]
section
variable {P : Program} {w : World} {K : PySem.W.Frag} {mg : Str → Option Value} {base : Heap}
def spSumOf : Sp := fun vs H Q _ => ∃ (p : Nat) (m b : Addr) (L : Nat) (as : List Addr) (T : List (List Int)) (fs : List Int), vs = [.int (p : Int), .ref m, .ref b, .int (L : Int)] ∧ 2 ≤ p ∧ p ≤ 65537 ∧ H m = some (.lst (as.map V.ref)) ∧ Rws H as T ∧ (∀ xs ∈ T, Vc (p : Int) L xs) ∧ Rw H b fs ∧ (∀ f ∈ fs, 0 ≤ f ∧ f < 65537) ∧ L ≤ 1000 ∧
  ∀ (H' : Hp) (d : Addr), Same H H' → H d = none → Rw H' d (sumZ p L T fs) → Q (.ref d) H'
theorem scSumOf : FnScope namesSumOf ["_law_prime", "_law_vectors_here", "_law_factors", "_law_length"] (defScope sSumOf) := ⟨rfl, rfl, rfl, by decide +kernel, rfl, by decide +kernel, by decide +kernel⟩
theorem ok_sumOf {f : Addr} {fd : FuncData} (F : Fun K "_law_sum_of" "_law_sum_of" sSumOf f fd) (gR : mg "range" = none) (gZ : mg "zip" = none) : FnOk P w K mg base CX0 1 f fd ["_law_prime", "_law_vectors_here", "_law_factors", "_law_length"] spSumOf := by
  refine F.ok scSumOf (fun vs H Q E h => ?_) (fun cdv A outer s0 H vs Q E hr h => ?_)
  · obtain ⟨p, m, b, L, as, T, fs, rfl, _⟩ := h
    rfl
  · obtain ⟨p, m, b, L, as, T, fs, rfl, p2, p6, hm, hT, hv, hb, hf, hL, want⟩ := h
    have hb : H b = some (.lst (fs.map V.int)) := hb
    have p0 : 0 < p := by omega
    refine ⟨_, pss_cons (ps_setLc (i := 4) (own := [("_law_place", 7)]) (g := gName 7) (tt := tYes) rfl scSumOf.nd rfl rfl (sw_true rfl rfl rfl (by decide +kernel)) (pi_range1 rfl gR (pa_cons (pv 3) pa_nil))
          (blkOk_by (N := namesSumOf) (sc := defScope sSumOf) (by decide +kernel)) (fun _ _ _ _ _ => pg_name (i := 7) scSumOf.nd rfl (Or.inl rfl)) (fun _ _ _ _ _ => pts_nil) (fun _ _ _ _ _ => pe_int))
      (pss_cons (ps_for PassesOwn.never rfl (pi_zip (by rfl) gZ (pa_cons (pv 1) (pa_cons (pv 2) pa_nil))) (pg_tup rfl (pgs_cons (pg_name (i := 5) scSumOf.nd rfl (Or.inl rfl)) (pgs_cons (pg_name (i := 6) scSumOf.nd rfl (Or.inr rfl)) pgs_nil)))
        (pss_one (ps_setLc (i := 4) (own := [("_law_here", 8), ("_law_there", 9)]) (g := gTup K 2 (gCons (gName 8) (gCons (gName 9) gNil))) (tt := tYes) (te := tOp (rI (fun _ j => 0 < j) fun i j => .int (i % j)) (tOp (rI0 fun i j => .int (i + j)) (tVar 8) (tOp (rI CMul fun i j => .int (i * j)) (tVar 6) (tVar 9))) (tVar 0)) rfl scSumOf.nd rfl rfl (sw_true rfl rfl rfl (by decide +kernel))
          (pi_zip (by rfl) gZ (pa_cons (pv 4) (pa_cons (pv 5) pa_nil)))
          (blkOk_by (N := namesSumOf) (sc := defScope sSumOf) (by decide +kernel)) (fun _ _ _ _ _ => pg_tup rfl (pgs_cons (pg_name (i := 8) scSumOf.nd rfl (Or.inl rfl)) (pgs_cons (pg_name (i := 9) scSumOf.nd rfl (Or.inl rfl)) pgs_nil))) (fun _ _ _ _ _ => pts_nil)
          (fun _ _ _ _ _ => pe_op op_mod (pe_op op_add (pv 8) (pe_op op_mul (pv 6) (pv 9))) (pv 0)))))
      (pss_one (ps_ret (pv 4)))), ?_⟩
    refine ⟨_, rfl, (L : Int), rfl, by omega, by omega, ?_⟩
    intro D hD
    rw [Int.toNat_natCast]
    refine lc_range (lo := 0) (n := L) (fun k H' => Same H H' ∧ H' D = some (.lst ((List.replicate k (0 : Int)).map V.int))) ⟨same_new hD, upd_same⟩ ?_ ?_
    · rintro k H' hk ⟨sm, hDl⟩
      refine ⟨rfl, tyes ?_⟩
      refine ⟨_, hDl, by rw [List.length_map, List.length_replicate, sizeLine_eq]; omega, same_set sm hD, ?_⟩
      rw [upd_same, List.replicate_succ', List.map_append]
      rfl
    · rintro H1 ⟨s1, hD1⟩
      refine ⟨_, rfl, _, rfl, m, b, _, _, rfl, SqL.of (s1 _ _ hm), SqL.of (s1 _ _ hb), ?_⟩
      let n := min (as.map V.ref).length (fs.map V.int).length
      have vz : ∀ z ∈ T.zip fs, Vc (p : Int) L z.1 := fun z mz => hv _ (List.of_mem_zip mz).1
      refine for_it (walk_zip (n := n) rfl) (fun k σ H' => Same H H' ∧ ∃ (e : Addr) (u v : Option V), σ = [some (.int (p : Int)), some (.ref m), some (.ref b), some (.int (L : Int)), some (.ref e), u, v, none, none, none] ∧ H e = none ∧ Rw H' e (((T.zip fs).take k).foldl (addF p) (List.replicate L 0)))
        ⟨s1, D, _, _, rfl, hD, hD1⟩ (fun i σ H' _ z => ⟨SqL.of (z.1 _ _ hm), SqL.of (z.1 _ _ hb)⟩) ?_ ?_
      · rintro k x σ H2 H3 hk ⟨sm, e, u, v, rfl, he, hre⟩ ⟨T2, x1, x2, rfl, nT, rfl, y1, y2⟩
        obtain ⟨c, xs, rfl, hc, mx, ht, _⟩ := rws_at hT y1
        obtain ⟨f, rfl, mf, hfk⟩ := mem_ints y2
        have hre : H2 e = some (.lst ((((T.zip fs).take k).foldl (addF p) (List.replicate L 0)).map V.int)) := hre
        have s2 := same_new (o := .tup [V.ref c, V.int f]) nT
        refine ⟨T2, _, rfl, SqT.of upd_same, rfl, _, _, rfl, ?_⟩
        refine ⟨_, _, rfl, rfl, ?_⟩
        have hz : (T.zip fs)[k]? = some (xs, f) := List.getElem?_zip_eq_some.mpr ⟨ht, hfk⟩
        have vacc : Vc (p : Int) L (((T.zip fs).take k).foldl (addF p) (List.replicate L 0)) := LinA.fold_vec p0 (LinA.zeros_vec p0) fun z mz => vz z (List.mem_of_mem_take mz)
        let acc := ((T.zip fs).take k).foldl (addF p) (List.replicate L 0)
        have hc' : H2 c = some (.lst (xs.map V.int)) := sm _ _ hc
        refine ⟨_, rfl, _, rfl, e, c, _, _, rfl, SqL.of (s2 _ _ hre), SqL.of (s2 _ _ hc'), ?_⟩
        intro D2 hD2
        have la : (acc.map V.int).length = L := by rw [List.length_map]; exact vacc.1
        have lx : (xs.map V.int).length = L := by rw [List.length_map, (hv xs mx).1]
        obtain ⟨f0, f1⟩ := hf f mf
        refine lc_it (walk_zip (n := L) (by rw [la, lx, Nat.min_self])) (fun j H4 => Same H2 H4 ∧ H4 D2 = some (.lst (((addF p acc (xs, f)).take j).map V.int))) ⟨same_trans s2 (same_new hD2), upd_same⟩ (fun j H4 _ z => ⟨SqL.of (z.1 _ _ hre), SqL.of (z.1 _ _ hc')⟩) ?_ ?_
        · rintro j x H4 H5 hj ⟨s4, hDl⟩ ⟨T3, z1, z2, rfl, nT3, rfl, w1, w2⟩
          obtain ⟨a1, rfl, ma, ha⟩ := mem_ints w1
          obtain ⟨a2, rfl, mb2, hb2⟩ := mem_ints w2
          have nTD : T3 ≠ D2 := fun z => by
            rw [z, hDl] at nT3
            cases nT3
          refine ⟨T3, _, rfl, SqT.of upd_same, rfl, _, _, rfl, ?_⟩
          refine ⟨_, _, rfl, rfl, rfl, tyes ?_⟩
          refine ⟨_, rfl, _, rfl, _, rfl, f, a2, rfl, rfl, .inl ⟨by omega, by omega⟩, _, _, rfl, rfl, _, rfl, _, (p : Int), rfl, rfl, by show (0 : Int) < (p : Int); omega, ?_⟩
          have hz2 : (addF p acc (xs, f))[j]? = some ((a1 + f * a2) % (p : Int)) := by
            show (List.zipWith (fun a b => (a + f * b) % (p : Int)) acc xs)[j]? = _
            rw [List.getElem?_zipWith, ha, hb2]
          refine ⟨_, (upd_ne (Ne.symm nTD)).trans hDl, by rw [List.length_map, List.length_take, sizeLine_eq]; omega, same_set (same_trans s4 (same_new nT3)) (s2.free hD2), ?_⟩
          rw [upd_same, List.take_succ, hz2, List.map_append]
          rfl
        · rintro H4 ⟨s4, hDl⟩
          refine ⟨same_trans sm s4, D2, _, _, rfl, (same_trans sm s2).free hD2, ?_⟩
          have lz : (addF p acc (xs, f)).length ≤ L := by
            show (List.zipWith _ acc xs).length ≤ L
            rw [List.length_zipWith]
            have za : acc.length = L := vacc.1
            omega
          rw [List.take_of_length_le lz] at hDl
          rw [List.take_succ, hz, Option.toList_some, List.foldl_append]
          exact hDl
      · rintro σ H' ⟨sm, e, u, v, rfl, he, hre⟩
        refine ⟨_, rfl, ?_⟩
        have ln : (T.zip fs).length ≤ n := by
          show _ ≤ min _ _
          rw [List.length_zip, List.length_map, List.length_map, hT.len]
          exact Nat.le_refl _
        rw [List.take_of_length_le ln] at hre
        exact want H' e sm he hre
end
end Vb
end L2

set_option Elab.async false
set_option linter.all false
set_option maxRecDepth 100000
set_option maxHeartbeats 4000000
/-! Vb, part 18: == of lists of numbers, of lists of such. -/
namespace L2
namespace Vb
open PySem PySem.Spec PyProof.Rows
abbrev rowP (xs : List Int) : PyData := .list (xs.map PyData.int)
abbrev matP (T : List (List Int)) : PyData := .list (T.map rowP)
theorem lay_ints : ∀ xs : List Int, PyData.canLayAll0 (xs.map PyData.int) = true
  | [] => rfl
  | x :: xs => by
    rw [List.map_cons, PyData.canLayAll0, lay_ints xs]
    rfl
theorem dep_ints : ∀ xs : List Int, PyData.depthAll (xs.map PyData.int) = 0
  | [] => rfl
  | x :: xs => by
    rw [List.map_cons, PyData.depthAll, dep_ints xs]
    rfl
theorem lay_rows : ∀ T : List (List Int), PyData.canLayAll0 (T.map rowP) = true
  | [] => rfl
  | x :: T => by
    rw [List.map_cons, PyData.canLayAll0, lay_rows T]
    show (PyData.canLay0 (.list (x.map PyData.int)) && true) = true
    rw [PyData.canLay0, lay_ints]
    rfl
theorem dep_rows : ∀ T : List (List Int), PyData.depthAll (T.map rowP) ≤ 1
  | [] => Nat.zero_le _
  | x :: T => by
    rw [List.map_cons, PyData.depthAll]
    refine Nat.max_le.mpr ⟨?_, dep_rows T⟩
    show PyData.depth (.list (x.map PyData.int)) ≤ 1
    rw [PyData.depth, dep_ints]
    exact Nat.le_refl _
theorem shaped_row (xs : List Int) : SeqAt.shaped (rowP xs) = true := by
  unfold SeqAt.shaped
  refine Bool.and_eq_true_iff.mpr ⟨?_, decide_eq_true ?_⟩
  · show PyData.canLay0 (.list (xs.map PyData.int)) = true
    rw [PyData.canLay0, lay_ints]
  · show PyData.depth (.list (xs.map PyData.int)) ≤ 64
    rw [PyData.depth, dep_ints]
    decide
theorem shaped_mat (T : List (List Int)) : SeqAt.shaped (matP T) = true := by
  unfold SeqAt.shaped
  refine Bool.and_eq_true_iff.mpr ⟨?_, decide_eq_true ?_⟩
  · show PyData.canLay0 (.list (T.map rowP)) = true
    rw [PyData.canLay0, lay_rows]
  · show PyData.depth (.list (T.map rowP)) ≤ 64
    rw [PyData.depth]
    have := dep_rows T
    omega
theorem eqv_row (xs ys : List Int) : PyData.eqv (rowP xs) (rowP ys) = decide (xs = ys) := PySem.W.Datum.eqv (α := List Int) xs ys
theorem eqv_mat (S T : List (List Int)) : PyData.eqv (matP S) (matP T) = decide (S = T) := PySem.W.Datum.eqv (α := List (List Int)) S T
theorem dpa_ints {K : PySem.W.Frag} {H : Hp} : ∀ xs : List Int, DpAll K H (xs.map V.int) (xs.map PyData.int)
  | [] => .nil
  | x :: xs => .cons (.int x) (dpa_ints xs)
theorem dp_row {K : PySem.W.Frag} {H : Hp} {a : Addr} {xs : List Int} (h : Rw H a xs) : Dp K H (.ref a) (rowP xs) := .lst (SqL.of (show H a = some (.lst (xs.map V.int)) from h)) (dpa_ints xs)
theorem dpa_rows {K : PySem.W.Frag} {H : Hp} {as : List Addr} {T : List (List Int)} (h : Rws H as T) : DpAll K H (as.map V.ref) (T.map rowP) := by
  induction h with
  | nil => exact .nil
  | cons r _ ih => exact .cons (dp_row r) ih
theorem dp_mat {K : PySem.W.Frag} {H : Hp} {a : Addr} {as : List Addr} {T : List (List Int)} (h : H a = some (.lst (as.map V.ref))) (hT : Rws H as T) : Dp K H (.ref a) (matP T) := .lst (SqL.of h) (dpa_rows hT)
section
variable {K : PySem.W.Frag} {H : Hp} {a b : Addr} {xs ys : List Int} {as bs : List Addr} {S T : List (List Int)} {Q : VK}
theorem eq_row (h : Rw H a xs) (k : Rw H b ys) (q : Q (.bl (decide (xs = ys))) H) : rEqD K (.ref a) (.ref b) H Q := ⟨_, _, dp_row h, dp_row k, shaped_row xs, shaped_row ys, by rw [eqv_row]; exact q⟩
theorem ne_row (h : Rw H a xs) (k : Rw H b ys) (q : Q (.bl (!decide (xs = ys))) H) : rNeD K (.ref a) (.ref b) H Q := ⟨_, _, dp_row h, dp_row k, shaped_row xs, shaped_row ys, by rw [eqv_row]; exact q⟩
theorem eq_mat (h : H a = some (.lst (as.map V.ref))) (hS : Rws H as S) (k : H b = some (.lst (bs.map V.ref))) (hT : Rws H bs T) (q : Q (.bl (decide (S = T))) H) : rEqD K (.ref a) (.ref b) H Q :=
  ⟨_, _, dp_mat h hS, dp_mat k hT, shaped_mat S, shaped_mat T, by rw [eqv_mat]; exact q⟩
theorem ne_mat (h : H a = some (.lst (as.map V.ref))) (hS : Rws H as S) (k : H b = some (.lst (bs.map V.ref))) (hT : Rws H bs T) (q : Q (.bl (!decide (S = T))) H) : rNeD K (.ref a) (.ref b) H Q :=
  ⟨_, _, dp_mat h hS, dp_mat k hT, shaped_mat S, shaped_mat T, by rw [eqv_mat]; exact q⟩
end
end Vb
end L2

set_option Elab.async false
set_option linter.all false
set_option maxRecDepth 100000
set_option maxHeartbeats 4000000
/-! Vb, part 19: sorted, without doubles. -/
namespace L2
namespace Vb
open PySem PySem.Spec PyProof.Rows
open LinA (stepU uniqU)
abbrev sUnlike : Stmt := topS 42
theorem stepU_same {acc : List (List Int)} {x : List Int} (h : acc.getLast? = some x) : stepU acc x = acc := by
  unfold stepU
  rw [if_pos h]
theorem stepU_more {acc : List (List Int)} {x : List Int} (h : acc.getLast? ≠ some x) : stepU acc x = acc ++ [x] := by
  unfold stepU
  rw [if_neg h]
theorem rws_last {H : Hp} {cs : List Addr} {T : List (List Int)} (h : Rws H cs T) (n : T ≠ []) : ∃ c xs, atI (cs.map V.ref) (-1) = some (V.ref c) ∧ Rw H c xs ∧ T.getLast? = some xs := by
  have l := h.len
  have lt : 0 < T.length := List.length_pos_iff.mpr n
  have hx : (cs.map V.ref)[cs.length - 1]? = some ((cs.map V.ref)[cs.length - 1]'(by rw [List.length_map]; omega)) := List.getElem?_eq_getElem _
  obtain ⟨c, xs, e, r, _, ht, hc⟩ := rws_at h hx
  refine ⟨c, xs, ?_, r, ?_⟩
  · rw [e] at hx
    unfold atI ixN
    rw [if_neg (by decide), if_pos (by rw [List.length_map]; omega), List.length_map]
    have e2 : ((-1 : Int) + (cs.length : Int)).toNat = cs.length - 1 := by omega
    show (cs.map V.ref)[((-1 : Int) + (cs.length : Int)).toNat]? = _
    rw [e2]
    exact hx
  · rw [List.getLast?_eq_getElem?, ← l]
    exact ht
section
variable {P : Program} {w : World} {K : PySem.W.Frag} {mg : Str → Option Value} {base : Heap}
def spUnlike : Sp := fun vs H Q _ => ∃ (s : Addr) (as : List Addr) (T : List (List Int)), vs = [.ref s] ∧ H s = some (.lst (as.map V.ref)) ∧ Rws H as T ∧ T.length ≤ 100000 ∧
  ∀ (H' : Hp) (e : Addr) (cs : List Addr) (S : List (List Int)), Same H H' → H e = none → H' e = some (.lst (cs.map V.ref)) → Rws H' cs (uniqU S) → S.Perm T → S.Pairwise (· ≤ ·) → (∀ c ∈ cs, c ∈ as) → Q (.ref e) H'
theorem scUnlike : FnScope ["_law_some", "_law_found", "_law_one"] ["_law_some"] (defScope sUnlike) := ⟨rfl, rfl, rfl, by decide +kernel, rfl, by decide +kernel, by decide +kernel⟩
theorem ok_unlike {f : Addr} {fd : FuncData} (F : Fun K "_law_unlike" "_law_unlike" sUnlike f fd) (gS : mg "sorted" = none) : FnOk P w K mg base CX0 1 f fd ["_law_some"] spUnlike := by
  refine F.ok scUnlike (fun vs H Q E h => ?_) (fun cdv A outer s0 H vs Q E hr h => ?_)
  · obtain ⟨s, as, T, rfl, _⟩ := h
    rfl
  · obtain ⟨s, as, T, rfl, hs, hT, tL, want⟩ := h
    refine ⟨_, pss_cons (ps_set (i := 1) scUnlike.nd rfl (Or.inl rfl) (pe_lst pa_nil))
      (pss_cons (ps_for PassesOwn.never rfl (pi_list (pe_callB (cr_sortedM (Nat.lt_of_le_of_lt (Nat.add_le_add_left (by decide : 8 ≤ 64) _) hr.units)) (by rfl) gS boot_sorted (pa_cons (pv 0) pa_nil))) (pg_name (i := 2) scUnlike.nd rfl (Or.inl rfl))
        (pss_one (ps_if (PW.pt (pw_or (pt_cmpR (op_eqD hr.units) (pv 1) (pe_lst pa_nil) (nomark _)) (pw_or1 (pt_cmpR (op_neD hr.units) (pe_ix ix_list (pv 1) (pe_un un_neg pe_int) (fun _ _ => rfl)) (pv 2) (nomark _)))))
          (pss_one (ps_expr (pe_bm PySem.F.plainAttrs_list PySem.F.slot_list_append PySem.F.type_list_append mt_append (pv 1) (pa_cons (pv 2) pa_nil)))) pss_nil)))
      (pss_one (ps_ret (pv 1)))), ?_⟩
    refine ⟨by show 0 ≤ sizeLine; omega, fun e he => ?_⟩
    have s1 := same_new (o := .lst []) he
    refine ⟨_, rfl, s, as, T, rfl, SqL.of (s1 _ _ hs), hT.mono fun b _ o z => s1 _ _ z, fun bs S d hS pm le inb hd => ?_⟩
    have lb : bs.length = S.length := hS.len
    have lS : S.length ≤ 100000 := by rw [pm.length_eq]; exact tL
    refine ⟨d, rfl, ⟨_, SqL.of upd_same⟩, ?_⟩
    have nae : ∀ c ∈ as, c ≠ e := fun c mc q => by
      obtain ⟨o, z⟩ := rws_some hT mc
      rw [q, he] at z
      cases z
    have ned : e ≠ d := fun q => by
      rw [← q, upd_same] at hd
      cases hd
    have s2 := same_new (o := .lst (bs.map V.ref)) hd
    refine for_list (xs := bs.map V.ref) (fun k σ H' => Same H H' ∧ H' d = some (.lst (bs.map V.ref)) ∧ Rws H' bs S ∧ ∃ (cs : List Addr) (v : Option V), σ = [some (.ref s), some (.ref e), v] ∧ H' e = some (.lst (cs.map V.ref)) ∧ Rws H' cs ((S.take k).foldl stepU []) ∧ ∀ c ∈ cs, c ∈ as)
      ⟨same_trans s1 s2, upd_same, hS.mono fun b _ o z => s2 _ _ z, [], _, rfl, s2 _ _ upd_same, .nil, fun c z => (List.not_mem_nil z).elim⟩ (fun k σ H' _ z => SqL.of z.2.1) ?_ ?_
    · rintro k x σ H' hx ⟨sm, hdl, hSl, cs, v, rfl, hel, hcs, nce⟩
      obtain ⟨b, xs, rfl, hb, mx, ht, _⟩ := rws_at hSl hx
      refine ⟨_, rfl, by show 0 ≤ sizeLine; omega, fun l hl => ?_⟩
      have s3 := same_new (o := .lst []) hl
      have hel3 := s3 _ _ hel
      have hcs3 : Rws (upd H' l (.lst [])) cs ((S.take k).foldl stepU []) := hcs.mono fun b _ o z => s3 _ _ z
      refine eq_mat (as := cs) (bs := []) (T := []) hel3 hcs3 upd_same .nil ?_
      have Fl : ((S.take k).foldl stepU []).length ≤ S.length := LinA.uniqU_len_take S k
      have lcs := hcs.len
      have klt : k < S.length := (List.getElem?_eq_some_iff.mp ht).1
      have nel : e ≠ l := ne_of_none hel hl
      -- behind a new one
      have done : ∀ H4 : Hp, Same (upd H' l (.lst [])) H4 → (stepU ((S.take k).foldl stepU []) xs = (S.take k).foldl stepU [] ++ [xs]) →
          ∃ (cs' : List Addr) (v' : Option V), [some (V.ref s), some (V.ref e), some (V.ref b)] = [some (V.ref s), some (V.ref e), v'] ∧ upd H4 e (.lst (cs.map V.ref ++ [V.ref b])) e = some (.lst (cs'.map V.ref)) ∧ Rws (upd H4 e (.lst (cs.map V.ref ++ [V.ref b]))) cs' ((S.take (k + 1)).foldl stepU []) ∧ ∀ c ∈ cs', c ∈ as := by
        intro H4 s4 eq
        have st : ∀ c, c ≠ e → ∀ o, H' c = some o → upd H4 e (.lst (cs.map V.ref ++ [V.ref b])) c = some o := fun c n o z => (upd_ne n).trans (s4 _ _ (s3 _ _ z))
        have iba : b ∈ as := inb b (rws_mem hx)
        have nbe := nae b iba
        refine ⟨cs ++ [b], _, rfl, by rw [upd_same, List.map_append]; rfl, ?_, fun c mc => ?_⟩
        · rw [List.take_succ, ht, Option.toList_some, List.foldl_append]
          show Rws _ _ (stepU ((S.take k).foldl stepU []) xs)
          rw [eq]
          exact paired_snoc (hcs.mono fun c mc o z => st c (nae c (nce c mc)) o z) (st b nbe _ hb)
        · rcases List.mem_append.mp mc with q | q
          · exact nce c q
          · rw [List.mem_singleton.mp q]
            exact iba
      have app : ∀ H4 : Hp, Same (upd H' l (.lst [])) H4 → (stepU ((S.take k).foldl stepU []) xs = (S.take k).foldl stepU [] ++ [xs]) → Same H (upd H4 e (.lst (cs.map V.ref ++ [V.ref b]))) ∧ upd H4 e (.lst (cs.map V.ref ++ [V.ref b])) d = some (.lst (bs.map V.ref)) ∧ Rws (upd H4 e (.lst (cs.map V.ref ++ [V.ref b]))) bs S ∧
          ∃ (cs' : List Addr) (v' : Option V), [some (V.ref s), some (V.ref e), some (V.ref b)] = [some (V.ref s), some (V.ref e), v'] ∧ upd H4 e (.lst (cs.map V.ref ++ [V.ref b])) e = some (.lst (cs'.map V.ref)) ∧ Rws (upd H4 e (.lst (cs.map V.ref ++ [V.ref b]))) cs' ((S.take (k + 1)).foldl stepU []) ∧ ∀ c ∈ cs', c ∈ as :=
        fun H4 s4 eq => ⟨same_set (same_trans (same_trans sm s3) s4) he, (upd_ne (Ne.symm ned)).trans (s4 _ _ (s3 _ _ hdl)), hSl.mono fun c mc o z => (upd_ne (nae c (inb c mc))).trans (s4 _ _ (s3 _ _ z)), done H4 s4 eq⟩
      by_cases e0 : (S.take k).foldl stepU [] = []
      · refine ⟨_, rfl, ?_⟩
        rw [decide_eq_true e0]
        refine iteT ?_
        refine ⟨_, rfl, .inl ⟨rfl, _, SqL.of hel3⟩, _, rfl, e, _, _, rfl, rfl, hel3, by rw [List.length_map, sizeLine_eq]; omega, ?_⟩
        refine app _ same_rfl ?_
        rw [e0]
        rfl
      · refine ⟨_, rfl, ?_⟩
        rw [decide_eq_false e0]
        refine iteF ?_
        obtain ⟨c, ys, ec, rc, lc⟩ := rws_last hcs3 e0
        refine ⟨_, rfl, _, rfl, e, _, (-1 : Int), _, rfl, rfl, SqL.of hel3, ec, _, rfl, ?_⟩
        refine ne_row rc (s3 _ _ hb) ⟨_, rfl, ?_⟩
        by_cases exy : ys = xs
        · rw [decide_eq_true exy]
          refine iteF ⟨same_trans sm s3, s3 _ _ hdl, hSl.mono fun c _ o z => s3 _ _ z, cs, _, rfl, hel3, ?_, nce⟩
          rw [List.take_succ, ht, Option.toList_some, List.foldl_append]
          show Rws _ _ (stepU ((S.take k).foldl stepU []) xs)
          rw [stepU_same (by rw [lc, exy])]
          exact hcs3
        · rw [decide_eq_false exy]
          refine iteT ?_
          refine ⟨_, rfl, .inl ⟨rfl, _, SqL.of hel3⟩, _, rfl, e, _, _, rfl, rfl, hel3, by rw [List.length_map, sizeLine_eq]; omega, ?_⟩
          exact app _ same_rfl (stepU_more (by rw [lc]; exact fun z => exy (Option.some.inj z)))
    · rintro σ H' ⟨sm, hdl, hSl, cs, v, rfl, hel, hcs, ina⟩
      refine ⟨_, rfl, ?_⟩
      rw [List.take_of_length_le (by rw [List.length_map, lb]; exact Nat.le_refl _)] at hcs
      exact want H' e cs S sm he hel hcs pm le ina
end
end Vb
end L2

set_option Elab.async false
set_option linter.all false
set_option maxRecDepth 100000
set_option maxHeartbeats 4000000
/-! Vb, part 20: all sums, gone through. -/
namespace L2
namespace Vb
open PySem PySem.Spec PyProof.Rows
open LinA (IsSpan moreZ sumZ uniqU)
abbrev sSpace : Stmt := topS 43
abbrev nSpace : List Str := ["_law_prime", "_law_vectors_here", "_law_length", "_law_found", "_law_vector", "_law_more", "_law_factor", "_law_place", "_law_one"]
theorem rws_append {H : Hp} {as bs : List Addr} {S T : List (List Int)} (h : Rws H as S) (k : Rws H bs T) : Rws H (as ++ bs) (S ++ T) := by
  induction h with
  | nil => exact k
  | cons r _ ih => exact .cons r ih
section
variable {P : Program} {w : World} {K : PySem.W.Frag} {mg : Str → Option Value} {base : Heap}
def spSpace : Sp := fun vs H Q _ => ∃ (p : Nat) (m : Addr) (L : Nat) (as : List Addr) (T : List (List Int)), vs = [.int (p : Int), .ref m, .int (L : Int)] ∧ 2 ≤ p ∧ p ≤ 65537 ∧ H m = some (.lst (as.map V.ref)) ∧ Rws H as T ∧ (∀ xs ∈ T, Vc (p : Int) L xs) ∧ L ≤ 1000 ∧ p ^ (T.length + 1) ≤ 100000 ∧
  ∀ (H' : Hp) (d : Addr) (ds : List Addr) (S : List (List Int)), Same H H' → H d = none → H' d = some (.lst (ds.map V.ref)) → Rws H' ds S → IsSpan p L T S → S.length ≤ p ^ T.length → (∀ b ∈ ds, H b = none) → Q (.ref d) H'
theorem scSpace : FnScope nSpace ["_law_prime", "_law_vectors_here", "_law_length"] (defScope sSpace) := ⟨rfl, rfl, rfl, by decide +kernel, rfl, by decide +kernel, by decide +kernel⟩
theorem ok_space {f fS fU : Addr} {fd fdS fdU : FuncData} (F : Fun K "_law_space" "_law_space" sSpace f fd) (FS : Fun K "_law_sum_of" "_law_sum_of" sSumOf fS fdS) (GS : FnOk P w K mg base CX0 1 fS fdS ["_law_prime", "_law_vectors_here", "_law_factors", "_law_length"] spSumOf) (gS : mg "_law_sum_of" = some (.ref fS))
    (FU : Fun K "_law_unlike" "_law_unlike" sUnlike fU fdU) (GU : FnOk P w K mg base CX0 1 fU fdU ["_law_some"] spUnlike) (gU : mg "_law_unlike" = some (.ref fU)) (gR : mg "range" = none) : FnOk P w K mg base CX0 2 f fd ["_law_prime", "_law_vectors_here", "_law_length"] spSpace := by
  have bS : Binds K fdS ["_law_prime", "_law_vectors_here", "_law_factors", "_law_length"] [] := FS.binds fun _ _ _ _ _ _ us hl => match us, hl with | [_, _, _, _], _ => rfl
  have bU : Binds K fdU ["_law_some"] [] := FU.binds fun _ _ _ _ _ _ us hl => match us, hl with | [_], _ => rfl
  refine F.ok scSpace (fun vs H Q E h => ?_) (fun cdv A outer s0 H vs Q E hr h => ?_)
  · obtain ⟨p, m, L, as, T, rfl, _⟩ := h
    rfl
  · obtain ⟨p, m, L, as, T, rfl, p2, p6, hm, hT, hv, hL, pT, want⟩ := h
    have p0 : 0 < p := by omega
    have pw : ∀ k, k ≤ T.length → p * p ^ k ≤ 100000 := fun k hk => by
      rw [← Nat.pow_succ']
      exact Nat.le_trans (Nat.pow_le_pow_right p0 (by omega)) pT
    refine ⟨_, pss_cons (ps_set (i := 3) scSpace.nd rfl (Or.inl rfl) (pe_lst (pa_cons (pe_lc (own := [("_law_place", 7)]) (g := gName 7) (tt := tYes) rfl scSpace.nd (pi_range1 rfl gR (pa_cons (pv 2) pa_nil))
          (blkOk_by (N := nSpace) (sc := defScope sSpace) (by decide +kernel)) (fun _ _ _ _ _ => pg_name (i := 7) scSpace.nd rfl (Or.inl rfl)) (fun _ _ _ _ _ => pts_nil) (fun _ _ _ _ _ => pe_int)) pa_nil)))
      (pss_cons (ps_for PassesOwn.never rfl (pi_list (pv 1)) (pg_name (i := 4) scSpace.nd rfl (Or.inr rfl))
        (pss_cons (ps_set (i := 5) scSpace.nd rfl (Or.inl rfl) (pe_lst pa_nil))
        (pss_cons (ps_for PassesOwn.never rfl (pi_range1 rfl gR (pa_cons (pv 0) pa_nil)) (pg_name (i := 6) scSpace.nd rfl (Or.inr rfl))
          (pss_one (ps_set (i := 5) scSpace.nd rfl (Or.inl rfl) (pe_op op_cat (pv 5) (pe_lc (own := [("_law_one", 8)]) (g := gName 8) (tt := tYes) rfl scSpace.nd (pi_list (pv 3))
            (blkOk_by (N := nSpace) (sc := defScope sSpace) (by decide +kernel)) (fun _ _ _ _ _ => pg_name (i := 8) scSpace.nd rfl (Or.inl rfl)) (fun _ _ _ _ _ => pts_nil)
            (fun _ _ _ _ _ => pe_call GS (hr.mono (by decide)) rfl gS FS.kp bS .nil pass0 (pa_cons (pv 0) (pa_cons (pe_lst (pa_cons (pv 8) (pa_cons (pv 4) pa_nil))) (pa_cons (pe_lst (pa_cons pe_int (pa_cons (pv 6) pa_nil))) (pa_cons (pv 2) pa_nil))))))))))
        (pss_one (ps_set (i := 3) scSpace.nd rfl (Or.inl rfl) (pe_call GU (hr.mono (by decide)) rfl gU FU.kp bU .nil pass0 (pa_cons (pv 5) pa_nil)))))))
      (pss_one (ps_ret (pv 3)))), ?_⟩
    refine ⟨_, rfl, (L : Int), rfl, by omega, by omega, ?_⟩
    intro D hD
    rw [Int.toNat_natCast]
    refine lc_range (lo := 0) (n := L) (fun k H' => Same H H' ∧ H' D = some (.lst ((List.replicate k (0 : Int)).map V.int))) ⟨same_new hD, upd_same⟩ ?_ ?_
    · rintro k H' hk ⟨sm, hDl⟩
      refine ⟨rfl, tyes ?_⟩
      refine ⟨_, hDl, by rw [List.length_map, List.length_replicate, sizeLine_eq]; omega, same_set sm hD, ?_⟩
      rw [upd_same, List.replicate_succ', List.map_append]
      rfl
    · rintro H1 ⟨s1, hD1⟩
      refine ⟨by show 1 ≤ sizeLine; decide, fun d hd => ?_⟩
      have s2 := same_new (o := .lst [V.ref D]) hd
      refine ⟨_, rfl, m, rfl, ⟨_, SqL.of (s2 _ _ (s1 _ _ hm))⟩, ?_⟩
      refine for_list (xs := as.map V.ref) (fun k σ H' => Same H H' ∧ ∃ (d : Addr) (ds : List Addr) (S : List (List Int)) (u v x : Option V), σ = [some (.int (p : Int)), some (.ref m), some (.int (L : Int)), some (.ref d), u, v, x, none, none] ∧ H d = none ∧ H' d = some (.lst (ds.map V.ref)) ∧ Rws H' ds S ∧ IsSpan p L (T.take k) S ∧ S.length ≤ p ^ k ∧ ∀ b ∈ ds, H b = none)
        ⟨same_trans s1 s2, d, [D], [List.replicate L 0], _, _, _, rfl, s1.free hd, upd_same, .cons (s2 _ _ hD1) .nil, LinA.span_start, by simp, fun b mb => by rw [List.mem_singleton.mp mb]; exact hD⟩ (fun i σ H' _ z => SqL.of (z.1 _ _ hm)) ?_ ?_
      · rintro k x σ H2 hx ⟨sm, d, ds, S, u, v, y, rfl, nd, hdl, hS, span, lS, fr⟩
        obtain ⟨b, xs, rfl, hb, mx, ht, _⟩ := rws_at hT hx
        have kT : k < T.length := (List.getElem?_eq_some_iff.mp ht).1
        refine ⟨by show 0 ≤ sizeLine; omega, fun e he => ?_⟩
        have s3 := same_new (o := .lst []) he
        refine ⟨_, rfl, (p : Int), rfl, by omega, by omega, ?_⟩
        rw [Int.toNat_natCast]
        refine for_range (lo := 0) (n := p) (fun j σ H' => Same H2 H' ∧ ∃ (e : Addr) (es : List Addr) (x : Option V), σ = [some (.int (p : Int)), some (.ref m), some (.int (L : Int)), some (.ref d), some (.ref b), some (.ref e), x, none, none] ∧ H' e = some (.lst (es.map V.ref)) ∧ Rws H' es (moreZ p L xs S j) ∧ ∀ b ∈ es, H b = none)
          ⟨s3, e, [], _, rfl, upd_same, .nil, fun b z => (List.not_mem_nil z).elim⟩ ?_ ?_
        · rintro j σ H3 hj ⟨s23, e, es, x, rfl, hel, hes, fre⟩
          have hdl3 : H3 d = some (.lst (ds.map V.ref)) := s23 _ _ hdl
          have hS3 := rws_up hS s23
          have hb3 : Rw H3 b xs := s23 _ _ (sm _ _ hb)
          have e0 : (0 : Int) + (j : Int) = (j : Int) := by omega
          rw [e0]
          refine ⟨_, rfl, _, rfl, d, rfl, ⟨_, SqL.of hdl3⟩, ?_⟩
          intro D2 hD2
          refine lc_list (xs := ds.map V.ref) (fun i H' => Same H3 H' ∧ ∃ cs : List Addr, H' D2 = some (.lst (cs.map V.ref)) ∧ Rws H' cs ((S.take i).map fun one => sumZ p L [one, xs] [1, (j : Int)]) ∧ (∀ b ∈ cs, b ≠ D2) ∧ ∀ b ∈ cs, H b = none)
            ⟨same_new hD2, [], upd_same, .nil, fun b z => (List.not_mem_nil z).elim, fun b z => (List.not_mem_nil z).elim⟩ (fun i H' _ z => SqL.of (z.1 _ _ hdl3)) ?_ ?_
          · rintro i x H4 hx ⟨s34, cs, hcl, hcs, ncs, frc⟩
            obtain ⟨o, ys, rfl, ho, my, hty, _⟩ := rws_at hS3 hx
            have iS : i < S.length := (List.getElem?_eq_some_iff.mp hty).1
            have vy : Vc (p : Int) L ys := LinA.InS.vec p0 (fun v mv => hv v (List.mem_of_mem_take mv)) ((span.2 ys).mp my)
            refine ⟨rfl, tyes ?_⟩
            refine ⟨_, rfl, _, rfl, _, rfl, by show 2 ≤ sizeLine; decide, fun l1 hl1 => ?_⟩
            have q1 := same_new (o := .lst [V.ref o, V.ref b]) hl1
            refine ⟨_, rfl, by show 2 ≤ sizeLine; decide, fun l2 hl2 => ?_⟩
            have q2 := same_new (o := .lst [V.int 1, V.int (j : Int)]) hl2
            have q12 := same_trans q1 q2
            have lcs : cs.length ≤ 100000 := by
              have z := hcs.len
              rw [List.length_map, List.length_take] at z
              have z2 : p ^ k ≤ p * p ^ k := Nat.le_mul_of_pos_left _ p0
              have := pw k (by omega)
              omega
            refine ⟨_, rfl, p, l1, l2, L, [o, b], [ys, xs], [1, (j : Int)], rfl, p2, p6, q2 _ _ upd_same, .cons (q12 _ _ (s34 _ _ ho)) (.cons (q12 _ _ (s34 _ _ hb3)) .nil), fun v mv => ?_, upd_same, fun f mf => ?_, hL, fun H5 r s5 nr hr5 => ?_⟩
            · rcases List.mem_cons.mp mv with z | z
              · rw [z]
                exact vy
              · rw [List.mem_singleton.mp z]
                exact hv xs mx
            · rcases List.mem_cons.mp mf with z | z
              · rw [z]
                decide
              · rw [List.mem_singleton.mp z]
                omega
            have s45 := same_trans q12 s5
            have nrD : r ≠ D2 := fun z => by
              rw [z, q12 _ _ hcl] at nr
              cases nr
            refine ⟨_, s45 _ _ hcl, by rw [List.length_map, sizeLine_eq]; omega, same_set (same_trans s34 s45) hD2, cs ++ [r], by rw [upd_same, List.map_append]; rfl, ?_, fun c mc => ?_, fun c mc => ?_⟩
            · rw [List.take_succ, hty, List.map_append]
              refine paired_snoc (hcs.mono fun c mc o z => (upd_ne (ncs c mc)).trans (s45 _ _ z)) ?_
              exact (upd_ne nrD).trans hr5
            · rcases List.mem_append.mp mc with z | z
              · exact ncs c z
              · rw [List.mem_singleton.mp z]
                exact nrD
            · rcases List.mem_append.mp mc with z | z
              · exact frc c z
              · rw [List.mem_singleton.mp z]
                exact (same_trans (same_trans (same_trans sm s23) s34) q12).free nr
          · rintro H4 ⟨s34, cs, hcl, hcs, ncs, frc⟩
            rw [List.take_of_length_le (by rw [List.length_map, hS3.len]; exact Nat.le_refl _)] at hcs
            have hel4 := s34 _ _ hel
            have les := hes.len
            rw [LinA.moreZ_len] at les
            have lcs := hcs.len
            rw [List.length_map] at lcs
            have bnd : (j + 1) * S.length ≤ 100000 := Nat.le_trans (Nat.mul_le_mul (by omega : j + 1 ≤ p) lS) (pw k (by omega))
            rw [Nat.succ_mul] at bnd
            refine ⟨e, D2, _, _, rfl, rfl, hel4, hcl, by rw [List.length_map, List.length_map, sizeLine_eq]; omega, fun q hq => ?_⟩
            have s5 := same_new (o := .lst (es.map V.ref ++ cs.map V.ref)) hq
            have s45 := same_trans s34 s5
            refine ⟨same_trans s23 s45, q, es ++ cs, _, rfl, by rw [upd_same, List.map_append], ?_, fun c mc => ?_⟩
            · rw [LinA.moreZ_succ]
              exact rws_append (rws_up hes s45) (rws_up hcs s5)
            · rcases List.mem_append.mp mc with z | z
              · exact fre c z
              · exact frc c z
        · rintro σ H3 ⟨s23, e, es, x, rfl, hel, hes, fre⟩
          have lm : (moreZ p L xs S p).length ≤ 100000 := by
            rw [LinA.moreZ_len]
            exact Nat.le_trans (Nat.mul_le_mul_left p lS) (pw k (by omega))
          refine ⟨_, rfl, e, es, _, rfl, hel, hes, lm, fun H4 d2 cs S2 s4 nd2 hd2 hcs pm le ics => ?_⟩
          have sT : ∀ v ∈ T.take k, LinA.Vec p L v := fun v mv => hv v (List.mem_of_mem_take mv)
          have st := LinA.span_step p0 sT (hv xs mx) span pm le
          refine ⟨same_trans (same_trans sm s23) s4, d2, cs, uniqU S2, _, _, _, rfl, (same_trans sm s23).free nd2, hd2, hcs, ?_, ?_, fun b mb => fre b (ics b mb)⟩
          · rw [List.take_succ, ht]
            exact st
          · refine Nat.le_trans (LinA.uniqU_len S2) ?_
            rw [pm.length_eq, LinA.moreZ_len, Nat.pow_succ']
            exact Nat.mul_le_mul_left p lS
      · rintro σ H2 ⟨sm, d, ds, S, u, v, x, rfl, nd, hdl, hS, span, lS, fr⟩
        refine ⟨_, rfl, ?_⟩
        rw [List.length_map, hT.len] at span lS
        rw [List.take_length] at span
        exact want H2 d ds S sm nd hdl hS span lS fr
end
end Vb
end L2

set_option Elab.async false
set_option linter.all false
set_option maxRecDepth 100000
/-! Vb, part 21: set(a list of numbers), sorted. -/
namespace L2
namespace Vb
open PySem PySem.Spec PyProof.Rows
/-- a set without members, as it is made -/
abbrev noSet (w : World) : Obj :=
  { cls := .type "set", dict := none, data := .set #[] 0 (.fresh 0 0 (!w.params.followText "set-order")) }
abbrev withSet (w : World) (z : Shared) : Shared := { z with heap := z.heap.push (noSet w) }
/-- the set of ns stands at b, what stood ahead stands -/
def SetGot (w : World) (z z' : Shared) (ns : List Int) : Prop :=
  ∃ g tk c, z' = { z with heap := g, toks := tk } ∧ SetR w g z.heap.objs.size (fun j => decide (j ∈ ns)) c ∧
    c ≤ ns.length ∧ ∀ b o, z.heap.get? b = some o → g.get? b = some o
section
variable {P : Program} {w : World} {A : Around} {E : Value → Shared → Prop} {z : Shared}
set_option maxHeartbeats 3200000 in
theorem set_lstI {l : Addr} {its : Array Value} (ns : List Int) {Q : Value → Shared → Prop}
    (calmA : A.handled = none) (isl : z.heap.IsList l its) (isn : IntsAre its.toList ns) (few : ns.length + 1 < scanBound)
    (fin : ∀ z', SetGot w z z' ns → Q (.ref z.heap.objs.size) z') :
    wpAny (model P w) A (call (.type "set") [.ref l]) Q E z := by
  have size : its.size = ns.length := by
    rw [← Array.length_toList]
    exact IntsAre.length isn
  obtain ⟨mro1, mro2, mro3⟩ := F.called_set.mro
  have f1 := F.called_set.made
  have f2 := F.called_set.sub
  refine wpAny_call (codeAny_of_tree ?_)
  show wpAny _ _ (callAny (.type "set") _) _ _ _
  refine wpAny_pure ⟨Code.quiet_builtin _ (by decide +kernel), ?_⟩
  refine codeAny_builtin F.entry_type_call ?_
  rw [Around.under_plain (weight_type_call_type "set" [.ref l] []) rfl]
  have f3 := F.called_set.notType
  have f4 := F.called_set.canCreate
  have f5 := F.typeCall_set_1 (.ref l)
  repeat (any_goals (first | assumption | wp_step))
  let ob : Value → Shared → Prop := fun v z1 => v = .ref z.heap.objs.size ∧ z1 = withSet w z
  refine codeAny_mono (code_set_led1 (.ref l) (E := E) (Q₁ := ob) ⟨rfl, rfl⟩) fun out z1 got => ?_
  cases out with
  | error _ => exact got
  | ok flow =>
    cases flow with
    | next => exact got.elim
    | brk => exact got.elim
    | cont => exact got.elim
    | ret v =>
      obtain ⟨rfl, rfl⟩ := got
      have here : (z.heap.push (noSet w)).get? z.heap.objs.size = some (noSet w) := Heap.get?_push_size _ rfl
      have isSet : Shared.TypeIs (withSet w z) (.ref z.heap.objs.size) "set" := ⟨_, here, rfl⟩
      have f6 := F.called_set.init.lookup
      have f7 := F.called_set.init.bind (.ref z.heap.objs.size)
      repeat (any_goals (first | assumption | wp_step))
      refine codeAny_mono (codeAny_call_builtin (R := wants (fun r z2 => r = .none ∧ SetGot w z z2 ns) E)
        F.called_set.init.plain F.entry_set_init (check_set_init_1 isSet ?_)) fun out2 z2 got2 => ?_
      · obtain ⟨obj, atl, ocl, nl, odt⟩ := isl
        obtain ⟨k1, k2, k3, k4⟩ := obj
        simp only at ocl odt
        subst ocl
        subst odt
        have atl2 := Heap.get?_push_of_some (noSet w) atl
        have s1 := F.sub_list_set
        have s2 := F.sub_list_frozenset
        have s3 : (Value.type "list" == Value.type "dict") = false := by decide
        have isl2 : (z.heap.push (noSet w)).IsList l its := ⟨_, atl2, rfl, nl, rfl⟩
        unfold Builtin.«set.__init__» noKeywords Builtin.Frozenset.updateFrom
        generalize keep : pyIter = iterFn
        wp_walk
        subst keep
        refine wpAny_pyIter_list isl2 ?_
        refine wpAny_bind (wpAny_runValue ?_)
        have lz : l < z.heap.objs.size := Heap.lt_size atl
        have calm3 : A.in1.in1.in1.handled = none := by simp [calmA]
        have grown : (z.heap.push (noSet w)).objs.size = z.heap.objs.size + 1 := Heap.size_push ..
        have n1 : l ≠ (z.heap.push (noSet w)).objs.size := by
          rw [grown]
          exact Nat.ne_of_lt (Nat.lt_succ_of_lt lz)
        have apart : z.heap.objs.size ∉ [(z.heap.push (noSet w)).objs.size, l] := by
          rw [grown]
          simp only [List.mem_cons, List.mem_singleton, List.not_mem_nil, or_false, not_or]
          exact ⟨Nat.ne_of_lt (Nat.lt_succ_self _), Nat.ne_of_gt lz⟩
        have val : ∀ (i : Nat) (v : Value), its[i]? = some v → ∃ k t, ns[i]? = some k ∧ v = .int k t := fun i v hv => by
          have lt : i < ns.length := size ▸ (Array.getElem?_eq_some_iff.mp hv).1
          have hv2 : its.toList[i]? = some v := by rw [Array.getElem?_toList]; exact hv
          obtain ⟨t, e⟩ := IntsAre.int_at isn i v hv2
          refine ⟨ns[i], t, List.getElem?_eq_getElem lt, e.trans ?_⟩
          rw [List.getD_eq_getElem?_getD, List.getElem?_eq_getElem lt]
          rfl
        have road := (Walks.list (prog := P) (w := w) calm3 _ l n1 its).toS
        refine set_update_ints road z.heap.objs.size apart ns size few val (its.size - 0) 0 _ rfl (Nat.zero_le _)
          ⟨⟨_, Heap.get?_push_size _ rfl, rfl, rfl⟩, isl2.push _⟩ ⟨0, Nat.le_refl 0, setR_new_at (Heap.get?_push_of_some _ here)⟩ ?_
        intro z2 c moved cle isR
        obtain ⟨g, gs, dr, tk, os⟩ := z2
        obtain rfl : gs = z.gens := moved.gens
        obtain rfl : dr = z.drawn := moved.drawn
        obtain rfl : os = z.os := moved.os
        show wpAny _ _ _ _ _ _
        refine wpAny_pure ?_
        show wpAny _ _ (ret Value.none) _ _ _
        refine wpAny_pure ⟨rfl, g, tk, c, rfl, isR, by omega, fun b o e => ?_⟩
        have lb : b < z.heap.objs.size := Heap.lt_size e
        have far : b ∉ z.heap.objs.size :: [(z.heap.push (noSet w)).objs.size] := by
          rw [grown]
          simp only [List.mem_cons, List.mem_singleton, List.not_mem_nil, or_false, not_or]
          exact ⟨Nat.ne_of_lt lb, Nat.ne_of_lt (Nat.lt_succ_of_lt lb)⟩
        exact moved.heap b o far (Heap.get?_push_of_some _ (Heap.get?_push_of_some _ e))
      · cases out2 with
        | error _ => exact got2
        | ok flow2 =>
          cases flow2 with
          | next => exact got2.elim
          | brk => exact got2.elim
          | cont => exact got2.elim
          | ret r =>
            obtain ⟨rfl, got3⟩ := got2
            obtain ⟨g, tk, c, rfl, more⟩ := got3
            repeat (any_goals (first | assumption | wp_step))
            exact fin _ ⟨_, _, c, rfl, more⟩
end
section
variable {X : Cx}
/-- set(xs), xs a list of numbers, all unlike -/
def rSetL (K : PySem.W.Frag) (w : World) : List V → Hp → VK → Prop := fun xs H Q => ∃ (l : Addr) (ns : List Int), xs = [V.ref l] ∧ SqL K H l (ns.map V.int) ∧ ns.length ≤ 1000 ∧
  ∀ (p : Addr) (c : Nat), H p = none → c ≤ ns.length → Q (.ref p) (upd H p (SetO w p (fun j => decide (j ∈ ns)) c))
theorem cr_setL (hc : X.calm = true) : CallR X (.type "set") (rSetL X.K X.w) := by
  intro pins s σ H xs us Q I r h
  obtain ⟨l, ns, rfl, hq, hl, q⟩ := h
  rw [Vals.ref1 r]
  obtain ⟨its, rv, pl, hz⟩ := I.list hq
  refine set_lstI ns (I.ok.hd hc) pl.isList (by simpa using rv.ints) (by unfold scanBound; omega) fun z' ⟨g, tk, c, e, R, cl, keep⟩ => ?_
  subst e
  have hn : H s.heap.objs.size = none := I.hok.fresh (Nat.le_refl _)
  refine ⟨.ref _, upd H s.heap.objs.size (SetO X.w s.heap.objs.size (fun j => decide (j ∈ ns)) c), I.laid (t' := tk) keep (Nat.le_refl _) (setO_new R), rfl, q _ c hn cl⟩
end
end Vb
end L2

set_option Elab.async false
set_option linter.all false
set_option maxRecDepth 100000
set_option maxHeartbeats 4000000
/-! Vb, part 22: drawn numbers, vectors; shuffled. -/
namespace L2
namespace Vb
open PySem PySem.Spec PyProof.Rows
open LinA (sumZ)
abbrev sShuf : Stmt := topS 38
abbrev sNums : Stmt := topS 39
abbrev sVecs : Stmt := topS 40
abbrev nNums : List Str := ["_law_purse_here", "_law_prime", "_law_many", "_law_turn"]
abbrev nVecs : List Str := ["_law_purse_here", "_law_prime", "_law_many", "_law_length", "_law_found", "_law_turn"]
theorem but_new {m a : Addr} {H : Hp} {o : HO} (h : H a = none) : But m H (upd H a o) := but_same (same_new h)
theorem but_set {m a : Addr} {H H' : Hp} {o : HO} (x : But m H H') (n : a ≠ m) (h : H a = none) : But m H (upd H' a o) := fun b nb u e => by rw [upd_ne (ne_of_none e h)]; exact x b nb u e
theorem but_free {m b : Addr} {H H' : Hp} (x : But m H H') (n : b ≠ m) (h : H' b = none) : H b = none := by
  cases e : H b with
  | none => rfl
  | some o =>
    rw [x b n o e] at h
    cases h
theorem but_rws {m : Addr} {H H' : Hp} {as : List Addr} {T : List (List Int)} (x : But m H H') (h : Rws H as T) (n : ∀ b ∈ as, b ≠ m) : Rws H' as T := h.mono fun b mb o e => x b (n b mb) o e
section
variable {P : Program} {w : World} {K : PySem.W.Frag} {mg : Str → Option Value} {base : Heap}
def spNums : Sp := fun vs H Q _ => ∃ (a : Addr) (p n t : Nat), vs = [.ref a, .int (p : Int), .int (n : Int)] ∧ 0 < p ∧ p < 100000 ∧ n ≤ 100 ∧ Pur H a t ∧ t ≤ 1000 ∧
  ∀ (H' : Hp) (d : Addr) (xs : List Int), But a H H' → Pur H' a (t + n) → H d = none → Rw H' d xs → Vc (p : Int) n xs → Q (.ref d) H'
theorem scNums : FnScope nNums ["_law_purse_here", "_law_prime", "_law_many"] (defScope sNums) := ⟨rfl, rfl, rfl, by decide +kernel, rfl, by decide +kernel, by decide +kernel⟩
theorem ok_nums {f fD : Addr} {fd fdD : FuncData} (F : Fun K "_law_numbers" "_law_numbers" sNums f fd) (FD : Fun K "_law_draw" "_law_draw" sDraw fD fdD) (GD : FnOk P w K mg base CX0 2 fD fdD ["_law_purse_here", "_law_many"] spDraw) (gD : mg "_law_draw" = some (.ref fD)) (gR : mg "range" = none) :
    FnOk P w K mg base CX0 3 f fd ["_law_purse_here", "_law_prime", "_law_many"] spNums := by
  have bD : Binds K fdD ["_law_purse_here", "_law_many"] [] := FD.binds fun _ _ _ _ _ _ us hl => match us, hl with | [_, _], _ => rfl
  refine F.ok scNums (fun vs H Q E h => ?_) (fun cdv A outer s0 H vs Q E hr h => ?_)
  · obtain ⟨a, p, n, t, rfl, _⟩ := h
    rfl
  · obtain ⟨a, p, n, t, rfl, p0, p1, n1, hp, t1, want⟩ := h
    refine ⟨_, pss_one (ps_ret (pe_lc (own := [("_law_turn", 3)]) (g := gName 3) (tt := tYes) rfl scNums.nd (pi_range1 rfl gR (pa_cons (pv 2) pa_nil))
          (blkOk_by (N := nNums) (sc := defScope sNums) (by decide +kernel)) (fun _ _ _ _ _ => pg_name (i := 3) scNums.nd rfl (Or.inl rfl)) (fun _ _ _ _ _ => pts_nil)
          (fun _ _ _ _ _ => pe_call GD hr rfl gD FD.kp bD .nil pass0 (pa_cons (pv 0) (pa_cons (pv 1) pa_nil))))), ?_⟩
    refine ⟨_, rfl, (n : Int), rfl, by omega, by omega, ?_⟩
    intro D hD
    rw [Int.toNat_natCast]
    have naD : a ≠ D := hp.ne hD
    refine lc_range (lo := 0) (n := n) (fun k H' => But a H H' ∧ Pur H' a (t + k) ∧ ∃ xs : List Int, Rw H' D xs ∧ Vc (p : Int) k xs) ⟨but_new hD, hp.same (same_new hD), [], upd_same, rfl, fun x m => nomatch m⟩ ?_ ?_
    · rintro k H' hk ⟨bt, hp', xs, hx, vx⟩
      have hx' : H' D = some (.lst (xs.map V.int)) := hx
      refine ⟨rfl, tyes ?_⟩
      refine ⟨_, rfl, _, rfl, a, (p : Int), t + k, rfl, by omega, by omega, hp', by omega, fun H2 d d0 d1 b2 hp2 => ?_⟩
      refine ⟨_, b2 D (Ne.symm naD) _ hx', by rw [List.length_map, vx.1, sizeLine_eq]; omega, but_set (bt.trans b2) (Ne.symm naD) hD, ?_, xs ++ [d], ?_, by rw [List.length_append, vx.1]; rfl, fun x m => ?_⟩
      · obtain ⟨q1, q2, q3, q4, e, q5, q6⟩ := hp2
        exact ⟨q1, q2, q3, q4, (upd_ne naD).trans e, q5, by omega⟩
      · show upd H2 D _ D = _
        rw [upd_same, List.map_append]
        rfl
      · rcases List.mem_append.mp m with z | z
        · exact vx.2 x z
        · rw [List.mem_singleton.mp z]
          exact ⟨d0, d1⟩
    · rintro H' ⟨bt, hp', xs, hx, vx⟩
      exact want H' D xs bt hp' hD hx vx
def spShuf : Sp := fun vs H Q _ => ∃ (a s : Addr) (xs : List V) (t : Nat), vs = [.ref a, .ref s] ∧ H s = some (.lst xs) ∧ s ≠ a ∧ xs.length ≤ 1000 ∧ Pur H a t ∧ t ≤ 1000 ∧
  ∀ (H' : Hp) (d : Addr) (ys : List V), But a H H' → Pur H' a (t + xs.length) → H d = none → H' d = some (.lst ys) → ys.Perm xs → Q (.ref d) H'
theorem scShuf : FnScope ["_law_purse_here", "_law_some", "_law_found", "_law_item"] ["_law_purse_here", "_law_some"] (defScope sShuf) := ⟨rfl, rfl, rfl, by decide +kernel, rfl, by decide +kernel, by decide +kernel⟩
theorem ok_shuf {f fD : Addr} {fd fdD : FuncData} (F : Fun K "_law_shuffled" "_law_shuffled" sShuf f fd) (FD : Fun K "_law_draw" "_law_draw" sDraw fD fdD) (GD : FnOk P w K mg base CX0 2 fD fdD ["_law_purse_here", "_law_many"] spDraw) (gD : mg "_law_draw" = some (.ref fD)) (gN : mg "len" = none) :
    FnOk P w K mg base CX0 3 f fd ["_law_purse_here", "_law_some"] spShuf := by
  have bD : Binds K fdD ["_law_purse_here", "_law_many"] [] := FD.binds fun _ _ _ _ _ _ us hl => match us, hl with | [_, _], _ => rfl
  refine F.ok scShuf (fun vs H Q E h => ?_) (fun cdv A outer s0 H vs Q E hr h => ?_)
  · obtain ⟨a, s, xs, t, rfl, _⟩ := h
    rfl
  · obtain ⟨a, s, xs, t, rfl, hs, nsa, lx, hp, t1, want⟩ := h
    refine ⟨_, pss_cons (ps_set (i := 2) scShuf.nd rfl (Or.inl rfl) (pe_lst pa_nil))
      (pss_cons (ps_for PassesOwn.never rfl (pi_list (pv 1)) (pg_name (i := 3) scShuf.nd rfl (Or.inl rfl))
        (pss_one (ps_expr (pe_bm PySem.F.plainAttrs_list PySem.F.slot_list_insert PySem.F.type_list_insert mt_insert (pv 2) (pa_cons (pe_call GD hr rfl gD FD.kp bD .nil pass0 (pa_cons (pv 0) (pa_cons (pe_op op_add (pe_callB call_len_seq (by rfl) gN PySem.boot_len (pa_cons (pv 2) pa_nil)) pe_int) pa_nil))) (pa_cons (pv 3) pa_nil))))))
      (pss_one (ps_ret (pv 2)))), ?_⟩
    refine ⟨by show 0 ≤ sizeLine; omega, fun d hd => ?_⟩
    have nad : a ≠ d := hp.ne hd
    refine ⟨_, rfl, s, rfl, ⟨_, SqL.of (same_new hd _ _ hs)⟩, ?_⟩
    refine for_list (xs := xs) (fun k σ H' => But a H H' ∧ Pur H' a (t + k) ∧ ∃ (ys : List V) (v : Option V), σ = [some (.ref a), some (.ref s), some (.ref d), v] ∧ H' d = some (.lst ys) ∧ ys.Perm (xs.take k))
      ⟨but_new hd, hp.same (same_new hd), [], _, rfl, upd_same, List.Perm.refl _⟩ (fun k σ H' _ z => SqL.of (z.1 s nsa _ hs)) ?_ ?_
    · rintro k x σ H' hx ⟨bt, hp', ys, v, rfl, hdl, pm⟩
      have kx : k < xs.length := (List.getElem?_eq_some_iff.mp hx).1
      have ly : ys.length = k := by
        rw [pm.length_eq, List.length_take]
        omega
      refine ⟨_, rfl, .inl ⟨rfl, _, SqL.of hdl⟩, _, rfl, _, rfl, d, _, rfl, .inl (SqL.of hdl), _, _, rfl, rfl, ?_⟩
      refine ⟨a, _, t + k, rfl, by omega, by omega, hp', by omega, fun H2 e e0 e1 b2 hp2 => ?_⟩
      have hdl2 : H2 d = some (.lst ys) := b2 d (Ne.symm nad) _ hdl
      refine ⟨_, rfl, d, ys, e, x, rfl, rfl, hdl2, by rw [ly, sizeLine_eq]; omega, e0, by omega, ?_⟩
      refine ⟨but_set (bt.trans b2) (Ne.symm nad) hd, ?_, _, _, rfl, upd_same, ?_⟩
      · obtain ⟨q1, q2, q3, q4, e, q5, q6⟩ := hp2
        exact ⟨q1, q2, q3, q4, (upd_ne nad).trans e, q5, by omega⟩
      · rw [List.take_succ, hx]
        have z : (ys.take e.toNat ++ [x] ++ ys.drop e.toNat).Perm (ys ++ [x]) := by
          rw [List.append_assoc]
          refine ((List.perm_append_comm (l₁ := [x]) (l₂ := ys.drop e.toNat)).append_left _).trans ?_
          rw [← List.append_assoc, List.take_append_drop]
        exact z.trans (pm.append_right _)
    · rintro σ H' ⟨bt, hp', ys, v, rfl, hdl, pm⟩
      rw [List.take_length] at pm
      exact ⟨_, rfl, want H' d ys bt hp' hd hdl pm⟩
theorem cut_last (xs : List V) : cutV xs none (some (-1)) = xs.dropLast := by
  unfold cutV HT.sIx
  show (xs.drop 0).take ((if (-1 : Int) < 0 then ((-1 : Int) + (xs.length : Int)).toNat else min (-1 : Int).toNat xs.length) - 0) = _
  rw [if_pos (by decide), List.drop_zero, Nat.sub_zero, List.dropLast_eq_take]
  congr 1
  omega
theorem rws_dropLast {H : Hp} {as : List Addr} {T : List (List Int)} (h : Rws H as T) : Rws H as.dropLast T.dropLast := by
  rw [List.dropLast_eq_take, List.dropLast_eq_take, h.len]
  exact rws_take h _
def spVecs : Sp := fun vs H Q _ => ∃ (a : Addr) (p n L t : Nat), vs = [.ref a, .int (p : Int), .int (n : Int), .int (L : Int)] ∧ 2 ≤ p ∧ p ≤ 65537 ∧ n ≤ 10 ∧ L ≤ 10 ∧ Pur H a t ∧ t ≤ 500 ∧
  ∀ (H' : Hp) (d : Addr) (as : List Addr) (T : List (List Int)), But a H H' → Pur H' a (t + 200) → H d = none → H' d = some (.lst (as.map V.ref)) → Rws H' as T → (∀ xs ∈ T, Vc (p : Int) L xs) → T.length = n → (∀ b ∈ as, H b = none) → Q (.ref d) H'
theorem scVecs : FnScope nVecs ["_law_purse_here", "_law_prime", "_law_many", "_law_length"] (defScope sVecs) := ⟨rfl, rfl, rfl, by decide +kernel, rfl, by decide +kernel, by decide +kernel⟩
theorem ok_vecs {f fD fN fS : Addr} {fd fdD fdN fdS : FuncData} (F : Fun K "_law_vectors" "_law_vectors" sVecs f fd) (FD : Fun K "_law_draw" "_law_draw" sDraw fD fdD) (GD : FnOk P w K mg base CX0 2 fD fdD ["_law_purse_here", "_law_many"] spDraw) (gD : mg "_law_draw" = some (.ref fD))
    (FN : Fun K "_law_numbers" "_law_numbers" sNums fN fdN) (GN : FnOk P w K mg base CX0 3 fN fdN ["_law_purse_here", "_law_prime", "_law_many"] spNums) (gN : mg "_law_numbers" = some (.ref fN))
    (FS : Fun K "_law_sum_of" "_law_sum_of" sSumOf fS fdS) (GS : FnOk P w K mg base CX0 1 fS fdS ["_law_prime", "_law_vectors_here", "_law_factors", "_law_length"] spSumOf) (gS : mg "_law_sum_of" = some (.ref fS)) (gR : mg "range" = none) :
    FnOk P w K mg base CX0 4 f fd ["_law_purse_here", "_law_prime", "_law_many", "_law_length"] spVecs := by
  have bD : Binds K fdD ["_law_purse_here", "_law_many"] [] := FD.binds fun _ _ _ _ _ _ us hl => match us, hl with | [_, _], _ => rfl
  have bN : Binds K fdN ["_law_purse_here", "_law_prime", "_law_many"] [] := FN.binds fun _ _ _ _ _ _ us hl => match us, hl with | [_, _, _], _ => rfl
  have bS : Binds K fdS ["_law_prime", "_law_vectors_here", "_law_factors", "_law_length"] [] := FS.binds fun _ _ _ _ _ _ us hl => match us, hl with | [_, _, _, _], _ => rfl
  refine F.ok scVecs (fun vs H Q E h => ?_) (fun cdv A outer s0 H vs Q E hr h => ?_)
  · obtain ⟨a, p, n, L, t, rfl, _⟩ := h
    rfl
  · obtain ⟨a, p, n, L, t, rfl, p2, p6, n10, l10, hp, t5, want⟩ := h
    refine ⟨_, pss_cons (ps_setLc (i := 4) (own := [("_law_turn", 5)]) (g := gName 5) (tt := tYes) rfl scVecs.nd rfl rfl (sw_true rfl rfl rfl (by decide +kernel)) (pi_range1 rfl gR (pa_cons (pv 2) pa_nil))
          (blkOk_by (N := nVecs) (sc := defScope sVecs) (by decide +kernel)) (fun _ _ _ _ _ => pg_name (i := 5) scVecs.nd rfl (Or.inl rfl)) (fun _ _ _ _ _ => pts_nil)
          (fun _ _ _ _ _ => pe_call GN hr rfl gN FN.kp bN .nil pass0 (pa_cons (pv 0) (pa_cons (pv 1) (pa_cons (pv 3) pa_nil)))))
      (pss_cons (ps_if (PW.pt (pw_and (pt_cmpR op_gt (pv 2) pe_int (nomark _)) (pw_and1 (pt_cmpR op_eq (pe_call GD (hr.mono (by decide)) rfl gD FD.kp bD .nil pass0 (pa_cons (pv 0) (pa_cons pe_int pa_nil))) pe_int (nomark _)))))
        (pss_one (ps_asg (pe_call GS (hr.mono (by decide)) rfl gS FS.kp bS .nil pass0 (pa_cons (pv 1) (pa_cons (pe_slice sl_list (pv 4) po_none (po_some (pe_un un_neg pe_int))) (pa_cons (pe_call GN hr rfl gN FN.kp bN .nil pass0 (pa_cons (pv 0) (pa_cons (pv 1) (pa_cons (pe_op op_sub (pv 2) pe_int) pa_nil)))) (pa_cons (pv 3) pa_nil)))))
          (pg_sub (pv 4) (pe_un un_neg pe_int) set_list))) pss_nil)
      (pss_one (ps_ret (pv 4)))), ?_⟩
    refine ⟨_, rfl, (n : Int), rfl, by omega, by omega, ?_⟩
    intro D hD
    rw [Int.toNat_natCast]
    have naD : a ≠ D := hp.ne hD
    refine lc_range (lo := 0) (n := n) (fun k H' => But a H H' ∧ Pur H' a (t + k * L) ∧ ∃ (as : List Addr) (T : List (List Int)), H' D = some (.lst (as.map V.ref)) ∧ Rws H' as T ∧ (∀ xs ∈ T, Vc (p : Int) L xs) ∧ T.length = k ∧ (∀ b ∈ as, H b = none) ∧ ∀ b ∈ as, b ≠ D)
      ⟨but_new hD, (hp.same (same_new hD)).mono (by omega), [], [], upd_same, .nil, fun x m => (nomatch m), rfl, fun x m => (nomatch m), fun x m => (nomatch m)⟩ ?_ ?_
    · rintro k H' hk ⟨bt, hp', as, T, hDl, hT, hv, lT, fr, nD⟩
      have kL : k * L ≤ 100 := Nat.le_trans (Nat.mul_le_mul (by omega : k ≤ 10) l10) (by decide)
      refine ⟨rfl, tyes ?_⟩
      refine ⟨_, rfl, _, rfl, _, rfl, a, p, L, t + k * L, rfl, by omega, by omega, by omega, hp', by omega, fun H2 d xs b2 hp2 nd hx vx => ?_⟩
      have hDl2 : H2 D = some (.lst (as.map V.ref)) := b2 D (Ne.symm naD) _ hDl
      have nda : d ≠ a := (hp'.ne nd).symm
      have ndD : d ≠ D := fun z => by
        rw [z, hDl] at nd
        cases nd
      have nas : ∀ b ∈ as, b ≠ a := fun b mb => (hp.ne (fr b mb)).symm
      refine ⟨_, hDl2, by rw [List.length_map, hT.len, lT, sizeLine_eq]; omega, but_set (bt.trans b2) (Ne.symm naD) hD, ?_, as ++ [d], T ++ [xs], by rw [upd_same, List.map_append]; rfl, ?_, fun ys m => ?_, by rw [List.length_append, lT]; rfl, fun b mb => ?_, fun b mb => ?_⟩
      · obtain ⟨q1, q2, q3, q4, e, q5, q6⟩ := hp2
        refine ⟨q1, q2, q3, q4, (upd_ne naD).trans e, q5, ?_⟩
        rw [Nat.succ_mul]
        omega
      · refine paired_snoc (hT.mono fun b mb o e => (upd_ne (nD b mb)).trans (b2 b (nas b mb) o e)) ?_
        exact (upd_ne ndD).trans hx
      · rcases List.mem_append.mp m with z | z
        · exact hv ys z
        · rw [List.mem_singleton.mp z]
          exact vx
      · rcases List.mem_append.mp mb with z | z
        · exact fr b z
        · rw [List.mem_singleton.mp z]
          exact but_free bt nda nd
      · rcases List.mem_append.mp mb with z | z
        · exact nD b z
        · rw [List.mem_singleton.mp z]
          exact ndD
    · rintro H1 ⟨bt, hp1, as, T, hDl, hT, hv, lT, fr, nD⟩
      have nL : n * L ≤ 100 := Nat.le_trans (Nat.mul_le_mul n10 l10) (by decide)
      have nas : ∀ b ∈ as, b ≠ a := fun b mb => (hp.ne (fr b mb)).symm
      refine ⟨_, rfl, _, _, rfl, rfl, _, rfl, ite2 (fun n1 => ?_) (fun n1 => ?_)⟩
      · have n1 : 1 < (n : Int) := of_decide_eq_true n1
        refine ⟨_, rfl, a, 3, t + n * L, rfl, by decide, by decide, hp1, by omega, fun H2 d d0 d1 b2 hp2 => ?_⟩
        have hDl2 : H2 D = some (.lst (as.map V.ref)) := b2 D (Ne.symm naD) _ hDl
        have hT2 := but_rws b2 hT nas
        refine ⟨rfl, _, rfl, ite2 (fun _ => ?_) (fun _ => ?_)⟩
        · refine ⟨_, rfl, _, rfl, _, rfl, _, rfl, D, _, rfl, SqL.of hDl2, fun e he => ?_⟩
          have ec : cutV (as.map V.ref) none (some (-1)) = as.dropLast.map V.ref := by
            rw [cut_last, List.map_dropLast]
          have naE : a ≠ e := hp2.ne he
          have s3 := same_new (o := .lst (cutV (as.map V.ref) none (some (-1)))) he
          have hp3 : Pur (upd H2 e (.lst (cutV (as.map V.ref) none (some (-1))))) a (t + n * L + 1) := hp2.same s3
          refine ⟨_, rfl, _, rfl, _, rfl, _, _, rfl, rfl, a, p, n - 1, t + n * L + 1, ?_, by omega, by omega, by omega, hp3, by omega, fun H4 g fs b4 hp4 ng hg vg => ?_⟩
          · have z : (n : Int) - 1 = ((n - 1 : Nat) : Int) := by omega
            rw [← z]
            rfl
          have ngD : g ≠ D := fun z => by
            rw [z, s3 _ _ hDl2] at ng
            cases ng
          have b24 : But a H2 H4 := (but_same s3).trans b4
          have he4 : H4 e = some (.lst (as.dropLast.map V.ref)) := by
            rw [← ec]
            exact b4 e (Ne.symm naE) _ upd_same
          have hT4 : Rws H4 as T := but_rws b24 hT2 nas
          have hD4 : H4 D = some (.lst (as.map V.ref)) := b24 D (Ne.symm naD) _ hDl2
          have lTm : T.dropLast.length = n - 1 := by rw [List.length_dropLast, lT]
          refine ⟨_, rfl, p, e, g, L, as.dropLast, T.dropLast, fs, rfl, p2, p6, he4, rws_dropLast hT4, fun xs m => hv xs (List.dropLast_subset _ m), hg, fun f m => ?_, by omega, fun H5 r s5 nr hr5 => ?_⟩
          · obtain ⟨z0, z1⟩ := vg.2 f m
            omega
          have hD5 : H5 D = some (.lst (as.map V.ref)) := s5 _ _ hD4
          have la : as.length = n := by rw [hT.len, lT]
          refine ⟨_, rfl, _, rfl, D, _, _, n - 1, rfl, rfl, hD5, ?_, ?_⟩
          · unfold ixN
            rw [if_neg (by decide), if_pos (by rw [List.length_map, la]; show -(n : Int) ≤ -1; omega), List.length_map, la]
            have z : ((-1 : Int) + (n : Int)).toNat = n - 1 := by omega
            show some ((-1 : Int) + (n : Int)).toNat = some (n - 1)
            rw [z]
          have nrD : r ≠ D := fun z => by
            rw [z, hD4] at nr
            cases nr
          have hr5' : Rw H5 r (sumZ p L T.dropLast fs) := hr5
          have b25 : But a H2 H5 := b24.trans (but_same s5)
          have bfin : But a H (upd H5 D (.lst ((as.map V.ref).set (n - 1) (V.ref r)))) := but_set ((bt.trans b2).trans b25) (Ne.symm naD) hD
          have up5 : ∀ b, b ≠ D → ∀ o, H5 b = some o → upd H5 D (.lst ((as.map V.ref).set (n - 1) (V.ref r))) b = some o := fun b nb o z => (upd_ne nb).trans z
          refine ⟨_, rfl, want _ D (as.set (n - 1) r) (T.set (n - 1) (sumZ p L T.dropLast fs)) bfin ?_ hD (by rw [upd_same, List.map_set]) ?_ (fun xs m => ?_) (by rw [List.length_set, lT]) (fun b mb => ?_)⟩
          · obtain ⟨q1, q2, q3, q4, z, q5, q6⟩ := hp4
            exact ⟨q1, q2, q3, q4, up5 a naD _ (s5 _ _ z), q5, by omega⟩
          · refine rws_set ?_ (n - 1) (up5 r nrD _ hr5')
            exact (rws_up hT4 s5).mono fun b mb o z => up5 b (nD b mb) o z
          · rcases List.mem_or_eq_of_mem_set m with z | z
            · exact hv xs z
            · rw [z]
              exact LinA.sumZ_vec (by omega) fun ys my => hv ys (List.dropLast_subset _ my)
          · rcases List.mem_or_eq_of_mem_set mb with z | z
            · exact fr b z
            · rw [z]
              have nra : r ≠ a := (hp4.ne nr).symm
              exact but_free (bt.trans (b2.trans b24)) nra nr
        · exact ⟨_, rfl, want H2 D as T (bt.trans b2) (hp2.mono (by omega)) hD hDl2 hT2 hv lT fr⟩
      · exact ⟨_, rfl, want H1 D as T bt (hp1.mono (by omega)) hD hDl hT hv lT fr⟩
end
end Vb
end L2

set_option Elab.async false
set_option linter.all false
set_option maxRecDepth 100000
set_option maxHeartbeats 4000000
/-! Vb, part 23: is_reduced, turn_into. -/
namespace L2
namespace Vb
open PySem PySem.Spec PyProof.Rows
open LinA (Bas)
abbrev sIsRed : Stmt := topS 44
abbrev sTurn : Stmt := topS 45
abbrev nIsRed : List Str := ["_law_basis", "_law_tops", "_law_vector", "_law_filled", "_law_at", "_law_place", "_law_one"]
theorem cut_drop (xs : List V) (n : Nat) : cutV xs (some (n : Int)) none = xs.drop n := by
  unfold cutV
  rw [HT.sIx_none, HT.sIx_nat]
  rcases Nat.le_total n xs.length with h | h
  · rw [Nat.min_eq_left h]
    exact List.take_of_length_le (by rw [List.length_drop]; exact Nat.le_refl _)
  · rw [Nat.min_eq_right h, Nat.sub_self, List.take_zero, List.drop_of_length_le h]
theorem rws_drop {H : Hp} {as : List Addr} {T : List (List Int)} (h : Rws H as T) (n : Nat) : Rws H (as.drop n) (T.drop n) := by
  induction h generalizing n with
  | nil => rw [List.drop_nil, List.drop_nil]; exact .nil
  | cons r rs ih =>
    cases n with
    | zero => exact .cons r rs
    | succ n => exact ih n
section
variable {p L : Nat} {T B : List (List Int)} {t : List Nat}
theorem bas_zip (h : Bas p L T B t) {k : Nat} {xs : List Int} {c : Nat} (hx : B[k]? = some xs) (hc : t[k]? = some c) : (xs, c) ∈ B.zip t := List.mem_of_getElem? (List.getElem?_zip_eq_some.mpr ⟨hx, hc⟩)
theorem bas_off (h : Bas p L T B t) {i k : Nat} {xs : List Int} {c : Nat} (hx : B[i]? = some xs) (hc : t[k]? = some c) (ne : i ≠ k) : xs.getD c 0 = 0 := by
  have li : i < B.length := (List.getElem?_eq_some_iff.mp hx).1
  have lk : k < t.length := (List.getElem?_eq_some_iff.mp hc).1
  have len := h.len
  obtain ⟨d, hd⟩ : ∃ d, t[i]? = some d := ⟨t[i]'(by omega), List.getElem?_eq_getElem _⟩
  obtain ⟨ys, hy⟩ : ∃ ys, B[k]? = some ys := ⟨B[k]'(by omega), List.getElem?_eq_getElem _⟩
  have zi : (B.zip t)[i]? = some (xs, d) := List.getElem?_zip_eq_some.mpr ⟨hx, hd⟩
  have zk : (B.zip t)[k]? = some (ys, c) := List.getElem?_zip_eq_some.mpr ⟨hy, hc⟩
  obtain ⟨l1, e1⟩ := List.getElem?_eq_some_iff.mp zi
  obtain ⟨l2, e2⟩ := List.getElem?_eq_some_iff.mp zk
  have tw := List.pairwise_iff_getElem.mp h.two
  rcases Nat.lt_or_gt_of_ne ne with q | q
  · have z := tw i k l1 l2 q
    rw [e1, e2] at z
    exact z.2
  · have z := tw k i l2 l1 q
    rw [e1, e2] at z
    exact h.low (xs, d) (List.mem_of_getElem? zi) c z.1
theorem bas_tops (h : Bas p L T B t) : t.Pairwise (· < ·) := by
  have z : (B.zip t).Pairwise fun x y => x.2 < y.2 := h.two.imp fun q => q.1
  have e : (B.zip t).map (·.2) = t := List.map_snd_zip (by rw [h.len]; exact Nat.le_refl _)
  rw [← e]
  exact List.pairwise_map.mpr z
/-- places where it isn't 0 -/
def filled (xs : List Int) (k : Nat) : List Nat := (List.range k).filter fun j => decide (xs.getD j 0 ≠ 0)
theorem filled_succ (xs : List Int) (k : Nat) : filled xs (k + 1) = if xs.getD k 0 ≠ 0 then filled xs k ++ [k] else filled xs k := by
  unfold filled
  rw [List.range_succ, List.filter_append]
  by_cases h : xs.getD k 0 = 0
  · rw [if_neg (fun z => z h)]
    have e : decide (xs.getD k 0 ≠ 0) = false := decide_eq_false fun z => z h
    have e2 : List.filter (fun j => decide (xs.getD j 0 ≠ 0)) [k] = [] := by
      show (match decide (xs.getD k 0 ≠ 0) with | true => k :: [] | false => []) = _
      rw [e]
    rw [e2, List.append_nil]
  · rw [if_pos h]
    have e : decide (xs.getD k 0 ≠ 0) = true := decide_eq_true h
    have e2 : List.filter (fun j => decide (xs.getD j 0 ≠ 0)) [k] = [k] := by
      show (match decide (xs.getD k 0 ≠ 0) with | true => k :: [] | false => []) = _
      rw [e]
    rw [e2]
theorem filled_len (xs : List Int) (k : Nat) : (filled xs k).length ≤ k := by
  have z := List.length_filter_le (fun j => decide (xs.getD j 0 ≠ 0)) (List.range k)
  rw [List.length_range] at z
  exact z
theorem filled_head {xs : List Int} {c : Nat} (low : ∀ j, j < c → xs.getD j 0 = 0) (one : xs.getD c 0 ≠ 0) : ∀ k, c < k → ∃ r, filled xs k = c :: r
  | 0, h => (Nat.not_lt_zero _ h).elim
  | k + 1, h => by
    rw [filled_succ]
    rcases Nat.lt_succ_iff_lt_or_eq.mp h with q | q
    · obtain ⟨r, e⟩ := filled_head low one k q
      rw [e]
      split
      · exact ⟨r ++ [k], rfl⟩
      · exact ⟨r, rfl⟩
    · subst q
      have e : filled xs c = [] := List.filter_eq_nil_iff.mpr fun j m => by
        rw [low j (List.mem_range.mp m)]
        decide
      rw [if_pos one, e]
      exact ⟨[], rfl⟩
end
theorem map_nat (t : List Nat) : t.map nat_ = (t.map fun c : Nat => (c : Int)).map V.int := by
  rw [List.map_map]
  rfl
theorem rise_eq : ∀ {a b : List Int}, a.Pairwise (· < ·) → b.Pairwise (· < ·) → (∀ x, x ∈ a ↔ x ∈ b) → a = b := fun {a b} h k m => by
  have nd : ∀ {l : List Int}, l.Pairwise (· < ·) → l.Nodup := fun q => q.imp fun z e => by omega
  refine ((List.perm_ext_iff_of_nodup (nd h) (nd k)).mpr m).eq_of_pairwise (le := (· < ·)) (fun x y _ _ p q => ?_) h k
  omega
section
variable {P : Program} {w : World} {K : PySem.W.Frag} {mg : Str → Option Value} {base : Heap}
def spIsRed : Sp := fun vs H Q _ => ∃ (p L : Nat) (m : Addr) (bs : List Addr) (T B : List (List Int)) (t : List Nat), vs = [.ref m] ∧ H m = some (.lst (bs.map V.ref)) ∧ Rws H bs B ∧ Bas p L T B t ∧ L ≤ 10 ∧ B.length ≤ 50 ∧ ∀ H', Same H H' → Q (.bl true) H'
theorem scIsRed : FnScope nIsRed ["_law_basis"] (defScope sIsRed) := ⟨rfl, rfl, rfl, by decide +kernel, rfl, by decide +kernel, by decide +kernel⟩
theorem boot_set2 : bootBuiltins ("set" : Str) = some (.type "set") := by decide +kernel
theorem ok_isRed {f : Addr} {fd : FuncData} (F : Fun K "_law_is_reduced" "_law_is_reduced" sIsRed f fd) (gR : mg "range" = none) (gN : mg "len" = none) (gS : mg "sorted" = none) (gT : mg "set" = none) : FnOk P w K mg base CX0 1 f fd ["_law_basis"] spIsRed := by
  refine F.ok scIsRed (fun vs H Q E h => ?_) (fun cdv A outer s0 H vs Q E hr h => ?_)
  · obtain ⟨p, L, m, bs, T, B, t, rfl, _⟩ := h
    rfl
  · obtain ⟨p, L, m, bs, T, B, t, rfl, hm, hB, bas, lL, lB, want⟩ := h
    have lt := bas.len
    have lb := hB.len
    refine ⟨_, pss_cons (ps_set (i := 1) scIsRed.nd rfl (Or.inr rfl) (pe_lst pa_nil))
      (pss_cons (ps_for PassesOwn.never rfl (pi_list (pv 0)) (pg_name (i := 2) scIsRed.nd rfl (Or.inr rfl))
        (pss_cons (ps_setLc (i := 3) (own := [("_law_place", 5)]) (g := gName 5) (tt := tTest (tOp rNe (tOp (rIxL K) (tVar 2) (tVar 5)) (tC (.int 0)))) (te := tVar 5) rfl scIsRed.nd rfl rfl (sw_true rfl rfl rfl (by decide +kernel))
            (pi_range1 rfl gR (pa_cons (pe_callB call_len_seq (by rfl) gN PySem.boot_len (pa_cons (pv 2) pa_nil)) pa_nil))
            (blkOk_by (N := nIsRed) (sc := defScope sIsRed) (by decide +kernel)) (fun _ _ _ _ _ => pg_name (i := 5) scIsRed.nd rfl (Or.inl rfl)) (fun _ _ _ _ _ => pts_one (pt_cmpR op_ne (pe_ix ix_list (pv 2) (pv 5) (fun _ _ => rfl)) pe_int (nomark _))) (fun _ _ _ _ _ => pv 5))
        (pss_cons (ps_if (PW.pt (pw_or (pt_cmpR (op_eqD hr.units) (pv 3) (pe_lst pa_nil) (nomark _)) (pw_or1 (pt_cmpR op_ne (pe_ix ix_list (pv 2) (pe_ix ix_list (pv 3) pe_int (fun _ _ => rfl)) (fun _ _ => rfl)) pe_int (nomark _)))))
          (pss_one (ps_ret pe_bl)) pss_nil)
        (pss_one (ps_expr (pe_bm PySem.F.plainAttrs_list PySem.F.slot_list_append PySem.F.type_list_append mt_append (pv 1) (pa_cons (pe_ix ix_list (pv 3) pe_int (fun _ _ => rfl)) pa_nil)))))))
      (pss_cons (ps_if (pt_cmpR (op_neD hr.units) (pv 1) (pe_callB (cr_sortedSet rfl) (by rfl) gS boot_sorted (pa_cons (pe_callTy (cr_setL rfl) (by rfl) gT boot_set2 (pa_cons (pv 1) pa_nil)) pa_nil)) (nomark _)) (pss_one (ps_ret pe_bl)) pss_nil)
      (pss_cons (ps_for PassesOwn.never rfl (pi_range1 rfl gR (pa_cons (pe_callB call_len_seq (by rfl) gN PySem.boot_len (pa_cons (pv 0) pa_nil)) pa_nil)) (pg_name (i := 4) scIsRed.nd rfl (Or.inr rfl))
        (pss_one (ps_if (pt_cmpR (op_neD hr.units) (pe_lc (own := [("_law_one", 6)]) (g := gName 6) (tt := tTest (tOp rNe (tOp (rIxL K) (tVar 6) (tOp (rIxL K) (tVar 1) (tVar 4))) (tC (.int 0)))) (te := tVar 6) rfl scIsRed.nd
            (pi_list (pe_op op_cat (pe_slice sl_list (pv 0) po_none (po_some (pv 4))) (pe_slice sl_list (pv 0) (po_some (pe_op op_add (pv 4) pe_int)) po_none)))
            (blkOk_by (N := nIsRed) (sc := defScope sIsRed) (by decide +kernel)) (fun _ _ _ _ _ => pg_name (i := 6) scIsRed.nd rfl (Or.inl rfl)) (fun _ _ _ _ _ => pts_one (pt_cmpR op_ne (pe_ix ix_list (pv 6) (pe_ix ix_list (pv 1) (pv 4) (fun _ _ => rfl)) (fun _ _ => rfl)) pe_int (nomark _))) (fun _ _ _ _ _ => pv 6)) (pe_lst pa_nil) (nomark _)) (pss_one (ps_ret pe_bl)) pss_nil)))
      (pss_one (ps_ret pe_bl))))), ?_⟩
    refine ⟨by show 0 ≤ sizeLine; omega, fun d hd => ?_⟩
    have s1 := same_new (o := .lst []) hd
    refine ⟨_, rfl, m, rfl, ⟨_, SqL.of (s1 _ _ hm)⟩, ?_⟩
    refine for_list (xs := bs.map V.ref) (fun k σ H' => Same H H' ∧ H' d = some (.lst ((t.take k).map nat_)) ∧ ∃ u v : Option V, σ = [some (.ref m), some (.ref d), u, v, none, none, none]) ⟨s1, upd_same, _, _, rfl⟩ (fun k σ H' _ z => SqL.of (z.1 _ _ hm)) ?_ ?_
    · rintro k x σ H' hx ⟨sm, hdl, u, v, rfl⟩
      obtain ⟨b, xs, rfl, hb, mx, hk, _⟩ := rws_at hB hx
      have kB : k < B.length := (List.getElem?_eq_some_iff.mp hk).1
      obtain ⟨c, hc⟩ : ∃ c, t[k]? = some c := ⟨t[k]'(by omega), List.getElem?_eq_getElem _⟩
      have mz := bas_zip bas hk hc
      have vx : xs.length = L := (bas.vec xs mx).1
      have cL : c < L := bas.top c (List.mem_of_getElem? hc)
      have hb' : H' b = some (.lst (xs.map V.int)) := sm _ _ hb
      refine ⟨_, rfl, b, _, rfl, .inl (SqL.of hb'), _, rfl, by omega, by rw [List.length_map]; omega, ?_⟩
      have eL : (((xs.map V.int).length : Int)).toNat = L := by rw [List.length_map, vx]; exact Int.toNat_natCast L
      rw [eL]
      intro D hD
      have ndD : d ≠ D := ne_of_none hdl hD
      refine lc_range (lo := 0) (n := L) (fun j H2 => Same H' H2 ∧ H2 D = some (.lst ((filled xs j).map nat_))) ⟨same_new hD, upd_same⟩ ?_ ?_
      · rintro j H2 hj ⟨s2, h2⟩
        have e0 : (0 : Int) + (j : Int) = (j : Int) := by omega
        rw [e0]
        have hb2 := s2 _ _ hb'
        refine ⟨rfl, _, rfl, _, rfl, b, _, (j : Int), _, rfl, rfl, SqL.of hb2, atI_nat (int_get vx hj), rfl, _, rfl, ?_⟩
        rw [filled_succ]
        by_cases z : xs.getD j 0 = 0
        · have z1 : (!decide (V.int (xs.getD j 0) = V.int 0)) = false := by rw [z]; rfl
          rw [z1, if_neg (fun q => q z)]
          exact iteF ⟨s2, h2⟩
        · have z1 : (!decide (V.int (xs.getD j 0) = V.int 0)) = true := by
            rw [decide_eq_false (fun q => z (by injection q))]
            rfl
          rw [z1, if_pos z]
          refine iteT ⟨_, rfl, _, h2, by have := filled_len xs j; rw [List.length_map, sizeLine_eq]; omega, same_set s2 hD, ?_⟩
          rw [upd_same, List.map_append]
          rfl
      · rintro H2 ⟨s2, h2⟩
        obtain ⟨r, er⟩ := filled_head (bas.low _ mz) (by rw [bas.one _ mz]; decide) L cL
        rw [er] at h2
        have h2r : Rw H2 D ((c :: r).map fun q : Nat => (q : Int)) := by
          show H2 D = _
          rw [h2, map_nat]
        refine ⟨_, rfl, by show 0 ≤ sizeLine; omega, fun e he => ?_⟩
        have s3 := same_new (o := .lst []) he
        refine eq_row (ys := []) (s3 _ _ h2r) upd_same ⟨_, rfl, ?_⟩
        rw [decide_eq_false (fun z => by cases z)]
        refine iteF ?_
        have h23 := s3 _ _ h2
        have s24 := same_trans s2 s3
        have hb3 := s24 _ _ hb'
        refine ⟨_, rfl, _, rfl, D, _, (0 : Int), _, rfl, rfl, SqL.of h23, atI_nat (j := 0) rfl, b, _, (c : Int), _, rfl, rfl, SqL.of hb3, atI_nat (int_get vx cL), rfl, _, rfl, ?_⟩
        have z1 : (!decide (V.int (xs.getD c 0) = V.int 1)) = false := by rw [bas.one _ mz]; rfl
        rw [z1]
        refine iteF ?_
        have hd3 := s24 _ _ hdl
        have lk : (t.take k).length ≤ k := by rw [List.length_take]; omega
        refine ⟨_, rfl, .inl ⟨rfl, _, SqL.of hd3⟩, _, rfl, D, _, (0 : Int), _, rfl, rfl, SqL.of h23, atI_nat (j := 0) rfl, d, _, _, rfl, rfl, hd3, by rw [List.length_map, sizeLine_eq]; omega, ?_⟩
        refine ⟨same_set (same_trans sm s24) hd, ?_, _, _, rfl⟩
        rw [upd_same, List.take_succ, hc, List.map_append]
        rfl
    · rintro σ H1 ⟨s1, hdl, u, v, rfl⟩
      rw [List.take_of_length_le (by rw [List.length_map]; omega)] at hdl
      have hdr : Rw H1 d (t.map fun q : Nat => (q : Int)) := by
        show H1 d = _
        rw [hdl, map_nat]
      have rise : (t.map fun q : Nat => (q : Int)).Pairwise (· < ·) := List.pairwise_map.mpr ((bas_tops bas).imp fun q => by omega)
      refine ⟨_, rfl, _, rfl, d, _, rfl, SqL.of (show H1 d = some (.lst ((t.map fun q : Nat => (q : Int)).map V.int)) from hdr), by rw [List.length_map]; omega, fun e n he hn => ?_⟩
      have lt2 : (t.map fun q : Nat => (q : Int)).length = t.length := List.length_map ..
      refine ⟨e, _, n, rfl, upd_same, by omega, fun ns q pw mem _ hq => ?_⟩
      have ens : ns = t.map fun q : Nat => (q : Int) := rise_eq pw rise fun x => by
        rw [mem]
        exact decide_eq_true_iff
      subst ens
      have s2 := same_new (o := SetO w e (fun j => decide (j ∈ t.map fun q : Nat => (q : Int))) n) he
      have s3 := same_new (o := .lst ((t.map fun q : Nat => (q : Int)).map V.int)) hq
      refine ne_row (s3 _ _ (s2 _ _ hdr)) upd_same ⟨_, rfl, ?_⟩
      rw [decide_eq_true rfl]
      refine iteF ?_
      have s13 := same_trans s1 (same_trans s2 s3)
      have hd3 := s3 _ _ (s2 _ _ hdl)
      refine ⟨_, rfl, m, _, rfl, .inl (SqL.of (s13 _ _ hm)), _, rfl, by omega, by rw [List.length_map]; omega, ?_⟩
      have eB : (((bs.map V.ref).length : Int)).toNat = B.length := by rw [List.length_map, lb]; exact Int.toNat_natCast _
      rw [eB]
      refine for_range (lo := 0) (n := B.length) (fun k σ H' => Same H H' ∧ H' d = some (.lst (t.map nat_)) ∧ ∃ u v x : Option V, σ = [some (.ref m), some (.ref d), u, v, x, none, none]) ⟨s13, hd3, _, _, _, rfl⟩ ?_ ?_
      · rintro k σ H2 hk ⟨sm, hd2, u, v, x, rfl⟩
        have e0 : (0 : Int) + (k : Int) = (k : Int) := by omega
        rw [e0]
        have hm2 := sm _ _ hm
        obtain ⟨c, hc⟩ : ∃ c, t[k]? = some c := ⟨t[k]'(by omega), List.getElem?_eq_getElem _⟩
        refine ⟨_, rfl, _, rfl, _, rfl, m, _, rfl, SqL.of hm2, fun l1 hl1 => ?_⟩
        rw [cut_take]
        have q1 := same_new (o := .lst ((bs.map V.ref).take k)) hl1
        refine ⟨_, rfl, _, rfl, _, _, rfl, rfl, (k : Int) + 1, rfl, m, _, rfl, SqL.of (q1 _ _ hm2), fun l2 hl2 => ?_⟩
        have ed : cutV (bs.map V.ref) (some ((k : Int) + 1)) none = (bs.map V.ref).drop (k + 1) := cut_drop _ (k + 1)
        rw [ed]
        have q2 := same_new (o := .lst ((bs.map V.ref).drop (k + 1))) hl2
        refine ⟨l1, l2, _, _, rfl, rfl, q2 _ _ upd_same, upd_same, ?_, fun l3 hl3 => ?_⟩
        · rw [List.length_take, List.length_drop, List.length_map, sizeLine_eq]
          omega
        have q3 := same_new (o := .lst ((bs.map V.ref).take k ++ (bs.map V.ref).drop (k + 1))) hl3
        have q123 := same_trans (same_trans q1 q2) q3
        have eq3 : (bs.map V.ref).take k ++ (bs.map V.ref).drop (k + 1) = (bs.take k ++ bs.drop (k + 1)).map V.ref := by
          rw [List.map_append, List.map_take, List.map_drop]
        have hR : Rws H (bs.take k ++ bs.drop (k + 1)) (B.take k ++ B.drop (k + 1)) := rws_append (rws_take hB k) (rws_drop hB (k + 1))
        rw [eq3] at q123 ⊢
        refine ⟨l3, rfl, ⟨_, SqL.of upd_same⟩, ?_⟩
        intro D hD
        refine lc_list (xs := (bs.take k ++ bs.drop (k + 1)).map V.ref) (fun j H' => Same H2 H' ∧ H' l3 = some (.lst ((bs.take k ++ bs.drop (k + 1)).map V.ref)) ∧ H' D = some (.lst [])) ⟨same_trans q123 (same_new hD), (upd_ne (ne_of_none upd_same hD)).trans upd_same, upd_same⟩ (fun j H' _ z => SqL.of z.2.1) ?_ ?_
        · rintro j x H3 hx ⟨s3, h3, hD3⟩
          obtain ⟨b, xs, rfl, hb, mx, hj, _⟩ := rws_at hR hx
          have vx : xs.length = L := (bas.vec xs (by
            rcases List.mem_append.mp mx with z | z
            · exact List.mem_of_mem_take z
            · exact List.mem_of_mem_drop z)).1
          have z0 : xs.getD c 0 = 0 := by
            rcases List.mem_append.mp mx with z | z
            · obtain ⟨i, hi, e⟩ := List.mem_iff_getElem.mp z
              rw [List.length_take] at hi
              rw [List.getElem_take] at e
              exact bas_off bas (i := i) (k := k) (by rw [List.getElem?_eq_getElem (by omega), e]) hc (by omega)
            · obtain ⟨i, hi, e⟩ := List.mem_iff_getElem.mp z
              rw [List.length_drop] at hi
              rw [List.getElem_drop] at e
              exact bas_off bas (i := k + 1 + i) (k := k) (by rw [List.getElem?_eq_getElem (by omega), e]) hc (by omega)
          have cL : c < L := bas.top c (List.mem_of_getElem? hc)
          have hb3 : H3 b = some (.lst (xs.map V.int)) := s3 _ _ (sm _ _ hb)
          have hct : (t.map nat_)[k]? = some (V.int (c : Int)) := by rw [List.getElem?_map, hc]; rfl
          refine ⟨rfl, _, rfl, _, rfl, _, rfl, d, _, (k : Int), _, rfl, rfl, SqL.of (s3 _ _ hd2), atI_nat hct, b, _, (c : Int), _, rfl, rfl, SqL.of hb3, atI_nat (int_get vx cL), rfl, _, rfl, ?_⟩
          have z1 : (!decide (V.int (xs.getD c 0) = V.int 0)) = false := by rw [z0]; rfl
          rw [z1]
          exact iteF ⟨s3, h3, hD3⟩
        · rintro H3 ⟨s3, h3, hD3⟩
          refine ⟨by show 0 ≤ sizeLine; omega, fun e he => ?_⟩
          have s4 := same_new (o := .lst []) he
          refine ne_mat (as := []) (bs := []) (S := []) (T := []) (s4 _ _ hD3) .nil upd_same .nil ⟨_, rfl, ?_⟩
          rw [decide_eq_true rfl]
          have s5 := same_trans s3 s4
          exact iteF ⟨same_trans sm s5, s5 _ _ hd2, _, _, _, rfl⟩
      · rintro σ H2 ⟨sm, hd2, u, v, x, rfl⟩
        exact want H2 sm
def spTurn : Sp := fun vs H Q _ => ∃ (g m : Addr) (xs ys : List V), vs = [.ref g, .ref m] ∧ H g = some (.lst xs) ∧ H m = some (.lst ys) ∧ g ≠ m ∧ ys.length ≤ 1000 ∧ Q .non (upd H g (.lst ys))
theorem scTurn : FnScope ["_law_given", "_law_more", "_law_one"] ["_law_given", "_law_more"] (defScope sTurn) := ⟨rfl, rfl, rfl, by decide +kernel, rfl, by decide +kernel, by decide +kernel⟩
theorem ok_turn {f : Addr} {fd : FuncData} (F : Fun K "_law_turn_into" "_law_turn_into" sTurn f fd) : FnOk P w K mg base CX0 1 f fd ["_law_given", "_law_more"] spTurn := by
  refine F.ok scTurn (fun vs H Q E h => ?_) (fun cdv A outer s0 H vs Q E hr h => ?_)
  · obtain ⟨g, m, xs, ys, rfl, _⟩ := h
    rfl
  · obtain ⟨g, m, xs, ys, rfl, hg, hm, ngm, ly, want⟩ := h
    refine ⟨_, pss_cons (ps_expr (pe_bm0 PySem.F.plainAttrs_list PySem.F.slot_list_clear PySem.F.type_list_clear mt_clear (pv 0)))
      (pss_one (ps_for PassesOwn.never rfl (pi_list (pv 1)) (pg_name (i := 2) scTurn.nd rfl (Or.inl rfl))
        (pss_one (ps_expr (pe_bm PySem.F.plainAttrs_list PySem.F.slot_list_append PySem.F.type_list_append mt_append (pv 0) (pa_cons (pv 2) pa_nil)))))), ?_⟩
    refine ⟨_, rfl, .inl ⟨rfl, _, SqL.of hg⟩, g, xs, rfl, rfl, hg, ?_⟩
    refine ⟨_, rfl, m, rfl, ⟨_, SqL.of ((upd_ne (Ne.symm ngm)).trans hm)⟩, ?_⟩
    refine for_list (xs := ys) (fun k σ H' => H' = upd H g (.lst (ys.take k)) ∧ ∃ v : Option V, σ = [some (.ref g), some (.ref m), v]) ⟨rfl, _, rfl⟩ (fun k σ H' _ z => SqL.of (by rw [z.1]; exact (upd_ne (Ne.symm ngm)).trans hm)) ?_ ?_
    · rintro k x σ H' hx ⟨rfl, v, rfl⟩
      have lk : (ys.take k).length ≤ 1000 := by rw [List.length_take]; omega
      refine ⟨_, rfl, .inl ⟨rfl, _, SqL.of upd_same⟩, _, rfl, g, _, _, rfl, rfl, upd_same, by rw [sizeLine_eq]; omega, ?_, _, rfl⟩
      rw [upd_upd, List.take_succ, hx]
      rfl
    · rintro σ H' ⟨rfl, v, rfl⟩
      rw [List.take_length]
      exact want
end
end Vb
end L2

set_option Elab.async false
set_option linter.all false
set_option maxRecDepth 100000
set_option maxHeartbeats 4000000
/-! Vb, from Eo, part 4: promises that hold where no repr is under way (a def that asks for repr wants to know it). -/
namespace L2
namespace Vb
open PySem PySem.Spec PyProof.Rows
/-- a def's promise, kept where no repr is under way and no exception leaves -/
structure FnG (P : Program) (w : World) (K : PySem.W.Frag) (mg : Str → Option Value) (base : Heap) (k : Nat) (f : Addr) (fd : FuncData) (ps : List Str) (sp : Sp) : Prop where
  len : ∀ vs H Q, sp vs H Q E0 → vs.length = ps.length
  run : ∀ (A : Around) (below : List Env) (s : Shared) (H : Hp) (args : Args) (us : List Value) (vs : List V) (Q : VK), A.guards = some [] → Room k A → Env0 P w K mg base A below s H → BindsTo s fd args (ps.zip us) → Vals vs us → sp vs H Q E0 →
    codeAny (model P w) A (.call (.ref f) args) (CR CX0 below P w H s Q E0) s
section
variable {P : Program} {w : World} {K : PySem.W.Frag} {mg : Str → Option Value} {base : Heap} {k : Nat} {f : Addr} {fd : FuncData} {sp : Sp}
theorem guards_deeper {A : Around} {env : Env} (g : A.guards = some []) : (A.deeper env).guards = some [] := g
/-- a def of the text, by its body -/
theorem fnG_of {x qual : Str} {st : Stmt} {names ps : List Str} (F : Fun K x qual st f fd) (S : FnScope names ps (defScope st)) (len : ∀ vs H Q, sp vs H Q E0 → vs.length = ps.length)
    (body : ∀ (cdv : Value) (A : Around) (below : List Env) (s : Shared) (H : Hp) (vs : List V) (Q : VK), (A.deeper (envOfC qual (defScope st) s.heap.objs.size f cdv)).guards = some [] → Room k (A.deeper (envOfC qual (defScope st) s.heap.objs.size f cdv)) → sp vs H Q E0 →
      ∃ t, PSs (cxOf CX0 P w K mg base names qual (defScope st) f cdv A below s H E0).nox (defBody st) t ∧ t { nx := fun _ H' => Q .non H', rt := Q } (start names vs) H) : FnG P w K mg base (k + 1) f fd ps sp := by
  obtain ⟨oc, od, kV, doc, pm, an, cdv, ct, osl, rfl, lk, hcd⟩ := F.ex
  constructor
  · exact len
  · intro A below s H args us vs Q hgd hroom e0 hbinds rel want
    have n2 := len _ _ _ want
    have KX : K.In s.heap := e0.mod.kin.keeps fun b o e => (e0.bs b o e).1
    have lim : s.heap.NoLimit := e0.mod.nolimit.keeps fun b o e => (e0.bs b o e).1
    have kinds : ∀ y ∈ ps.zip us, (defScope st).names.lookup y.1 = some .local ∨ ((defScope st).names.lookup y.1 = some .cell ∧ ((cellsFrom (s.heap.objs.size + 1) (defScope st).names []).lookup y.1).isSome = true) := by
      rintro ⟨y, u⟩ hy
      have z := S.par y (List.of_mem_zip hy).1
      exact z.elim .inl fun q => .inr ⟨q, PySem.W.cellsFrom_some _ _ _ (.inl q)⟩
    refine codeAny_call_function hroom.depth (KX _ _ lk) rfl S.co S.gen rfl (PySem.W.codeRec_of KX hcd) (hbinds _ _ _ _ ?_)
    refine wpAny_newFunctionEnv_cells S.kind kinds fun env he s1 inc => ?_
    subst he
    refine ⟨lim.keeps inc.toInCall.keep, codeAny_func ?_⟩
    obtain ⟨t, ht, hq⟩ := body cdv A below s H vs Q (guards_deeper hgd) (hroom.deeper _) want
    have I0 : Inv (cxOf CX0 P w K mg base names qual (defScope st) f cdv A below s H E0) [] (start names vs) H s1 := inv_start S hroom.hd e0 n2 rel inc
    refine wpAny_mono (ht.nox.run [] s1 (start names vs) H _ I0 hq) (fun fl s' out => ?_) fun e s' out => out
    cases fl with
    | ret u =>
      obtain ⟨v, σ2, H2, J, rv, q⟩ := out
      exact ⟨v, H2, J.os, J.bare, J.base, J.hok, rv, q⟩
    | next =>
      obtain ⟨σ2, H2, J, q⟩ := out
      exact ⟨V.non, H2, J.os, J.bare, J.base, J.hok, rfl, q⟩
    | brk => exact out.elim fun _ z => z.elim fun _ z => z.2.elim
    | cont => exact out.elim fun _ z => z.elim fun _ z => z.2.elim
end
section
variable {X : Cx} {k : Nat} {f : Addr} {fd : FuncData} {ps : List Str} {sp : Sp} {x : Str} {p pos : Pos} {e : Expr} {es : List Expr} {t : TA}
/-- f(e, ..) of such a def -/
theorem pe_callG (F : FnG X.prog X.w X.K X.mg X.base k f fd ps sp) (hgd : X.A.guards = some []) (hr : Room k X.A) (hg : Gl X x) (hm : X.mg x = some (.ref f)) (hk : PySem.W.keepIn X.K (.ref f) = true) (hb : Binds X.K fd ps [])
    (ha : PA X (e :: es) t) (hdb : (x == ("__debug__" : Str)) = false := by decide) (hs : starEach (e :: es) X.env = (false, eval e X.env) :: starEach es X.env := by rfl) (hpl : (backTo pos (starEach es X.env)).any (·.1) = false := by rfl) :
    PE X (.Call (.Name x p) (e :: es) [] pos) (tCall sp [] E0 t) := by
  refine ⟨fun pins s σ H Q I h => ?_⟩
  refine wpAny_Call_Name_kw (ld_glob I hg hm ?_ hdb)
  refine PySem.W.callWith_K (h₀ := X.base) I.ok.mod.kin hk (thn (ha.run pos pins s σ H _ I h) fun us s1 ⟨vs, H1, I1, r, q⟩ => ⟨I1.kIn, ?_⟩) hs hpl
  have q1 : sp vs H1 Q E0 := by
    have z : sp (vs ++ []) H1 Q E0 := q
    rw [List.append_nil] at z
    exact z
  have n1 : (us ++ []).length = ps.length := by rw [List.append_nil, ← r.length, F.len _ _ _ q1]
  have b1 := hb s1 us I1.kIn n1
  rw [List.append_nil] at b1
  refine wpAny_call (codeAny_mono (F.run X.A X.stack s1 H1 ⟨us, []⟩ us vs Q hgd hr I1.env0 b1 r q1) fun r s' z => ?_)
  cases r with
  | error er => exact False.elim z
  | ok fl =>
    cases fl with
    | ret u => exact I1.after z
    | next => exact z.elim
    | brk => exact z.elim
    | cont => exact z.elim
end
/-- the law's call behind the top, by such a promise -/
theorem topG {P : Program} {w : World} {K : PySem.W.Frag} {mg mb : Str → Option Value} {k : Nat} {fa a : Addr} {fd : FuncData} {x : Str} {sp : Sp} {s1 : Shared} {vs : List Value} {ns : List Int}
    (KX : K.In s1.heap) (gm : s1.heap.Ns mainGlobals mg) (gb : s1.heap.Ns builtinsNs mb) (bb : ∀ x : Str, x ≠ "__name__" → mb x = bootBuiltins x) (lim : s1.heap.NoLimit) (gn : s1.gens = #[])
    (ha : s1.heap.get? a = some { cls := .type "list", data := .seq vs.toArray }) (hi : IntsAre vs ns) (hl : ns.length ≤ sizeLine) (hr : Room k callerA)
    (F : ∀ base : Heap, K.In base → base.Ns mainGlobals mg → FnG P w K mg base k fa fd [x] sp) (bind : ∀ (s : Shared) (u : Value), BindsTo s fd ⟨[u], []⟩ [(x, u)])
    (want : ∀ H : Hp, SqL K H a (ns.map V.int) → sp [.ref a] H (fun v _ => v = .bl true) E0) :
    codeAny (model P w) callerA (.call (.ref fa) ⟨[.ref a], []⟩) (fun r s' => r = .ok (.ret (.bool true)) ∧ OldK s1.heap s'.heap ∧ s'.os = s1.os ∧ AllBare s'.gens) s1 := by
  have rints := vals_ints hi
  have nv := hi.length
  obtain ⟨H, hS, hH, hM⟩ : ∃ H : Hp, SqL K H a (ns.map V.int) ∧ (∀ b u, H b = some u → b = a ∧ K.lookup a = none ∧ u = .frz { cls := .type "list", data := .seq vs.toArray } (.lst (ns.map V.int))) ∧ True := by
    cases hk : K.lookup a with
    | some o =>
      have e := (KX a o hk).symm.trans ha
      cases e
      exact ⟨fun _ => none, .inr ⟨_, vs.toArray, _, hk, rfl, rfl, rfl, by rw [List.size_toArray, nv]; exact hl, by simpa using rints⟩, fun b u z => (nomatch z), trivial⟩
    | none =>
      refine ⟨fun b => if b = a then some (.frz { cls := .type "list", data := .seq vs.toArray } (.lst (ns.map V.int))) else none, .inl (.inr ⟨_, if_pos rfl⟩), fun b u z => ?_, trivial⟩
      by_cases q : b = a
      · have z2 : (if b = a then some (HO.frz { cls := .type "list", data := .seq vs.toArray } (.lst (ns.map V.int))) else none) = some u := z
        rw [if_pos q] at z2
        exact ⟨q, rfl, (Option.some.inj z2).symm⟩
      · have z2 : (if b = a then some (HO.frz { cls := .type "list", data := .seq vs.toArray } (.lst (ns.map V.int))) else none) = some u := z
        rw [if_neg q] at z2
        cases z2
  have ok0 : HOk P w H s1.heap := fun b u z => by
    obtain ⟨rfl, _, rfl⟩ := hH b u z
    exact ⟨ha, by rw [List.length_map]; exact hl, vs, _, rints, ha⟩
  have hidden : ∀ {b : Addr} {o : Obj}, s1.heap.get? b = some o → H b = none → (hidT s1.heap H).get? b = some o := fun e n => hidT_get e n
  have dictFree : ∀ {b : Addr} {o : Obj} {es : Array DictEntry} {ep : Nat}, s1.heap.get? b = some o → o.data = .dict es ep → H b = none := fun {b o es ep} e d => by
    cases q : H b with
    | none => rfl
    | some u =>
      obtain ⟨rfl, _⟩ := hH b u q
      have z := ha.symm.trans e
      cases z
      cases d
  have nsk : ∀ {b : Addr} {m : Str → Option Value}, s1.heap.Ns b m → (hidT s1.heap H).Ns b m := fun {b m} ⟨o, es, ep, e, d, r⟩ => ⟨o, es, ep, hidden e (dictFree e d), d, r⟩
  have KB : K.In (hidT s1.heap H) := fun b o e => hidden (KX b o e) (by
    cases q : H b with
    | none => rfl
    | some u =>
      obtain ⟨rfl, z, _⟩ := hH b u q
      rw [z] at e
      cases e)
  obtain ⟨mc, l1, l2⟩ := lim
  have M0 : Mod K mg (hidT s1.heap H) := ⟨KB, nsk gm, ⟨mb, nsk gb, bb⟩, ⟨mc, nsk l1, l2⟩⟩
  have env0 : Env0 P w K mg (hidT s1.heap H) callerA [] s1 H := ⟨rfl, M0, fun b o e => of_hidT e, Nat.le_of_eq (hidT_size _ _), trivial, fun b z => (List.not_mem_nil z).elim, ok0, .of_eq gn⟩
  refine codeAny_mono ((F _ KB (nsk gm)).run callerA [] s1 H ⟨[.ref a], []⟩ [.ref a] [.ref a] _ rfl hr env0 (bind s1 (.ref a)) (.cons rfl .nil) (want H hS)) fun r s' out => ?_
  cases r with
  | error er => exact False.elim out
  | ok fl =>
    cases fl with
    | next => exact out.elim
    | brk => exact out.elim
    | cont => exact out.elim
    | ret u =>
      obtain ⟨v, H2, os2, bare, un, ok2, rv, q⟩ := out
      have q2 : v = .bl true := q
      subst q2
      obtain rfl : u = Value.bool true := rv
      refine ⟨rfl, OldK.of_keep fun b o e => ?_, os2, bare⟩
      cases q : H b with
      | none => exact un.keep b o e q (fun z => (List.not_mem_nil z).elim) (fun z => (List.not_mem_nil z).elim)
      | some u =>
        obtain ⟨rfl, _, rfl⟩ := hH b u q
        have z2 := un.frzs b _ _ q
        have e2 := (ok2 b _ z2).1
        have z3 := ha.symm.trans e
        cases z3
        exact e2
end Vb
end L2

set_option Elab.async false
set_option linter.all false
set_option maxRecDepth 100000
set_option maxHeartbeats 4000000
/-! Vb, from Eo, part 5: repr of plain data that is tracked. -/
namespace L2
namespace Vb
open PySem PySem.Spec PyProof.Rows
/-- numbers, texts, truth values, None -/
def Flat (v : V) (d : PyData) : Prop := (v = .non ∧ d = .none) ∨ (∃ b, v = .bl b ∧ d = .bool b) ∨ (∃ i, v = .int i ∧ d = .int i) ∨ (∃ x, v = .str x ∧ d = .str x)
/-- v is the data d, at most n lists and tuples deep -/
def Sho : Nat → Hp → V → PyData → Prop
  | 0, _, v, d => Flat v d
  | n + 1, H, v, d => Flat v d ∨ (∃ (a : Addr) (xs : List V) (ds : List PyData), v = .ref a ∧ d = .list ds ∧ H a = some (.lst xs) ∧ PyData.hasDictAll ds = false ∧ Paired (Sho n H) xs ds) ∨
      (∃ (a : Addr) (xs : List V) (ds : List PyData), v = .ref a ∧ d = .tuple ds ∧ H a = some (.tup xs) ∧ PyData.hasDictAll ds = false ∧ Paired (Sho n H) xs ds) ∨
      (∃ (a : Addr), v = .ref a ∧ d = .dict [] ∧ H a = some (.dK []))
theorem Sho.mono {H H' : Hp} (k : ∀ b o, H b = some o → H' b = some o) : ∀ {n : Nat} {v : V} {d : PyData}, Sho n H v d → Sho n H' v d
  | 0, _, _, h => h
  | n + 1, _, _, h => by
    rcases h with h | ⟨a, xs, ds, e1, e2, e3, e4, h⟩ | ⟨a, xs, ds, e1, e2, e3, e4, h⟩ | ⟨a, e1, e2, e3⟩
    · exact .inl h
    · exact .inr (.inl ⟨a, xs, ds, e1, e2, k _ _ e3, e4, L2.Paired.mapP h fun _ _ z => Sho.mono k z⟩)
    · exact .inr (.inr (.inl ⟨a, xs, ds, e1, e2, k _ _ e3, e4, L2.Paired.mapP h fun _ _ z => Sho.mono k z⟩))
    · exact .inr (.inr (.inr ⟨a, e1, e2, k _ _ e3⟩))
theorem flat_reads {h : Heap} {v : V} {u : Value} {d : PyData} (f : Flat v d) (r : RelV v u) : Reads h u d [] ∧ d.hasDict = false := by
  rcases f with ⟨rfl, rfl⟩ | ⟨b, rfl, rfl⟩ | ⟨i, rfl, rfl⟩ | ⟨x, rfl, rfl⟩
  · cases (show u = Value.none from r)
    exact ⟨.none, rfl⟩
  · cases (show u = Value.bool b from r)
    exact ⟨.bool b, rfl⟩
  · obtain ⟨t, rfl⟩ := (show ∃ t, u = Value.int i t from r)
    exact ⟨.int i t, rfl⟩
  · obtain ⟨t, rfl⟩ := (show ∃ t, u = Value.str x t from r)
    exact ⟨.str x t, rfl⟩
theorem pair_reads {h : Heap} {F : V → PyData → Prop} (g : ∀ v u d, F v d → RelV v u → ∃ as, Reads h u d as) : ∀ {xs : List V} {us : List Value} {ds : List PyData}, Paired F xs ds → Vals xs us → ∃ as, ReadsAll h us ds as
  | _, _, _, .nil, .nil => ⟨_, .nil⟩
  | _, _, _, .cons p ps, .cons r rs => by
    obtain ⟨a1, h1⟩ := g _ _ _ p r
    obtain ⟨a2, h2⟩ := pair_reads g ps rs
    exact ⟨_, .cons h1 h2⟩
theorem Sho.reads {P : Program} {w : World} {H : Hp} {h : Heap} (ok : HOk P w H h) : ∀ {n : Nat} {v : V} {u : Value} {d : PyData}, Sho n H v d → RelV v u → ∃ as, Reads h u d as ∧ (d.hasDict = true → sysModules ∉ as)
  | 0, _, _, _, f, r => by
    obtain ⟨a, b⟩ := flat_reads (h := h) f r
    exact ⟨_, a, fun z => by rw [b] at z; cases z⟩
  | n + 1, _, u, _, f, r => by
    have deep : ∀ v u d, Sho n H v d → RelV v u → ∃ as, Reads h u d as := fun v u d f r => by
      obtain ⟨as, z, _⟩ := Sho.reads ok f r
      exact ⟨as, z⟩
    rcases f with f | ⟨a, xs, ds, rfl, rfl, e3, e4, f⟩ | ⟨a, xs, ds, rfl, rfl, e3, e4, f⟩ | ⟨a, rfl, rfl, e3⟩
    · obtain ⟨a, b⟩ := flat_reads (h := h) f r
      exact ⟨_, a, fun z => by rw [b] at z; cases z⟩
    · obtain ⟨_, its, m, rv, e⟩ := (show ObjOk P w H h a (.lst xs) from ok a _ e3)
      obtain ⟨as, z⟩ := pair_reads deep f rv
      cases (show u = Value.ref a from r)
      exact ⟨_, .list e rfl rfl z, fun q => by
        have q2 : PyData.hasDictAll ds = true := q
        rw [e4] at q2
        cases q2⟩
    · obtain ⟨_, its, rv, o, e, ec, m, ed⟩ := (show ObjOk P w H h a (.tup xs) from ok a _ e3)
      obtain ⟨as, z⟩ := pair_reads deep f rv
      cases (show u = Value.ref a from r)
      exact ⟨_, .tuple e ec ed z, fun q => by
        have q2 : PyData.hasDictAll ds = true := q
        rw [e4] at q2
        cases q2⟩
    · obtain ⟨_, ns, vs, kv, o, es, ep, e, ex, ed, ks, prs, _⟩ := (show ObjOk P w H h a (.dK []) from ok a _ e3)
      cases kv
      have e0 : es.toList = [] := by
        cases hz : es.toList with
        | nil => rfl
        | cons y ys =>
          rw [hz] at prs
          cases prs
      cases (show u = Value.ref a from r)
      refine ⟨_, .dict (as := []) (bs := []) (kvs := []) e ex.1 ed (by rw [e0]; exact .nil) (by rw [e0]; exact .nil), fun _ => ?_⟩
      intro hm
      have q : sysModules = a := by simpa using hm
      rw [q] at ns
      simp at ns
/-- repr(v) of such data -/
def rShow : List V → Hp → VK → Prop := fun xs H Q => ∃ (v : V) (d : PyData) (n : Nat), xs = [v] ∧ Sho n H v d ∧ d.showable = true ∧ d.depth ≤ 30 ∧ d.shown.length ≤ sizeLine ∧ Q (.str d.shown) H
theorem call_repr {X : Cx} (hgd : X.A.guards = some []) (hu : X.A.units + 64 < cLine) : CallR X (.builtin "repr") rShow := by
  intro pins s σ H xs us Q I r h
  obtain ⟨v, d, n, rfl, f, hs, hd, hz, q⟩ := h
  obtain ⟨u, rfl, rv⟩ : ∃ u, us = [u] ∧ RelV v u := by
    cases r with
    | cons r1 r2 =>
      cases r2
      exact ⟨_, rfl, r1⟩
  obtain ⟨as, rd, ns⟩ := f.reads I.hok rv
  cases rd with
  | none => exact PySem.P.repr_of_none ⟨.str _, H, I.tok _, ⟨_, rfl⟩, q⟩
  | bool b => exact PySem.P.repr_of_bool ⟨.str _, H, I.tok _, ⟨_, rfl⟩, q⟩
  | int i t => exact PySem.P.repr_of_int (by simpa [PyData.showable] using hs) ⟨.str _, H, I.tok _, ⟨_, rfl⟩, q⟩
  | str x t => exact PySem.P.repr_of_str ⟨.str _, H, I.tok _, ⟨_, rfl⟩, q⟩ hz
  | list h1 h2 h3 h4 => exact repr_of_reads' (.list h1 h2 h3 h4) hs ns hgd (by omega) (fun _ _ e => e) (fun h' t tk k => ⟨.str _, H, I.kept (t' := tk) k, ⟨_, rfl⟩, q⟩) hz
  | tuple h1 h2 h3 h4 => exact repr_of_reads' (.tuple h1 h2 h3 h4) hs ns hgd (by omega) (fun _ _ e => e) (fun h' t tk k => ⟨.str _, H, I.kept (t' := tk) k, ⟨_, rfl⟩, q⟩) hz
  | dict h1 h2 h3 h4 h5 => exact repr_of_reads' (.dict h1 h2 h3 h4 h5) hs ns hgd (by omega) (fun _ _ e => e) (fun h' t tk k => ⟨.str _, H, I.kept (t' := tk) k, ⟨_, rfl⟩, q⟩) hz
end Vb
end L2

set_option Elab.async false
set_option linter.all false
set_option maxRecDepth 100000
set_option maxHeartbeats 4000000
/-! Vb, part 24: inverses_right. -/
namespace L2
namespace Vb
open PySem PySem.Spec PyProof.Rows
abbrev sInvR : Stmt := topS 46
/-! ### repr of numbers and rows -/
theorem log_lt {x : Int} (h0 : 0 ≤ x) (h : x < 100000) : x.natAbs.log2 < 17 := by
  by_cases z : x.natAbs = 0
  · rw [z]
    decide
  · exact (Nat.log2_lt z).mpr (by omega)
theorem show_int {x : Int} (h0 : 0 ≤ x) (h : x < 100000) : (PyData.int x).showable = true ∧ (PyData.int x).shown.length ≤ 1921 := by
  have l := log_lt h0 h
  exact ⟨decide_eq_true (by omega), int_text_len_1921 (by omega)⟩
theorem rep_int {x : Int} {H : Hp} {Q : VK} (h0 : 0 ≤ x) (h : x < 100000) (q : Q (.str (PyData.int x).shown) H) : rShow [.int x] H Q := by
  obtain ⟨a, b⟩ := show_int h0 h
  exact ⟨_, .int x, 0, rfl, .inr (.inr (.inl ⟨x, rfl, rfl⟩)), a, by rw [PyData.depth]; decide, by rw [sizeLine_eq]; omega, q⟩
theorem row_sho {xs : List Int} {a : Addr} {H : Hp} (hx : Rw H a xs) (h : ∀ x ∈ xs, 0 ≤ x ∧ x < 100000) (l : xs.length ≤ 100) : Sho 1 H (.ref a) (rowP xs) ∧ (rowP xs).showable = true ∧ (rowP xs).depth ≤ 30 ∧ (rowP xs).shown.length ≤ sizeLine := by
  have hx : H a = some (.lst (xs.map V.int)) := hx
  have key : ∀ ys : List Int, (∀ x ∈ ys, 0 ≤ x ∧ x < 100000) → PyData.showableAll (ys.map PyData.int) = true ∧ PyData.hasDictAll (ys.map PyData.int) = false ∧ Paired (Sho 0 H) (ys.map V.int) (ys.map PyData.int) ∧ ((PyData.shownAll (ys.map PyData.int)).map (·.length)).sum ≤ 1921 * ys.length ∧ (PyData.shownAll (ys.map PyData.int)).length = ys.length := by
    intro ys
    induction ys with
    | nil => exact fun _ => ⟨rfl, rfl, .nil, Nat.le_refl _, rfl⟩
    | cons y ys ih =>
      intro hy
      obtain ⟨i1, i2, i3, i4, i5⟩ := ih fun x m => hy x (List.mem_cons_of_mem _ m)
      obtain ⟨y0, y1⟩ := hy y List.mem_cons_self
      obtain ⟨s1, s2⟩ := show_int y0 y1
      refine ⟨?_, i2, .cons (.inr (.inr (.inl ⟨y, rfl, rfl⟩))) i3, ?_, congrArg (· + 1) i5⟩
      · show (PyData.showable (.int y) && PyData.showableAll (ys.map PyData.int)) = true
        rw [s1, i1]
        rfl
      · show (PyData.int y).shown.length + ((PyData.shownAll (ys.map PyData.int)).map (·.length)).sum ≤ 1921 * (ys.length + 1)
        omega
  obtain ⟨k1, k2, k3, k4, k5⟩ := key xs h
  refine ⟨.inr (.inl ⟨a, _, _, rfl, rfl, hx, k2, k3⟩), k1, ?_, ?_⟩
  · show PyData.depth (.list (xs.map PyData.int)) ≤ 30
    rw [PyData.depth, dep_ints]
    decide
  · show (listText (PyData.shownAll (xs.map PyData.int))).length ≤ sizeLine
    have z := listText_len_le (PyData.shownAll (xs.map PyData.int))
    rw [k5] at z
    rw [sizeLine_eq]
    omega
/-! ### inverses -/
def invZ (p a : Nat) : Nat := a ^ (p - 2) % p
theorem inv_mul {p a : Nat} (pr : Prm p) (p2 : 2 ≤ p) (a0 : 0 < a) (ap : a < p) : invZ p a * a % p = 1 := by
  have f := LinA.fermat pr p2 a0 ap
  unfold invZ
  rw [Nat.mul_mod, Nat.mod_mod, ← Nat.mul_mod, ← Nat.pow_succ]
  have e : (p - 2).succ = p - 1 := by omega
  rw [e]
  exact f
theorem inv_pos {p a : Nat} (pr : Prm p) (p2 : 2 ≤ p) (a0 : 0 < a) (ap : a < p) : 0 < invZ p a := by
  refine Nat.pos_of_ne_zero fun z => ?_
  have y := inv_mul pr p2 a0 ap
  rw [z, Nat.zero_mul, Nat.zero_mod] at y
  cases y
theorem inv_lt {p a : Nat} (p2 : 2 ≤ p) : invZ p a < p := Nat.mod_lt _ (by omega)
theorem inv_one' {p : Nat} (p2 : 2 ≤ p) : invZ p 1 = 1 := by
  unfold invZ
  rw [Nat.one_pow, Nat.mod_eq_of_lt (by omega)]
theorem inv_last {p : Nat} (pr : Prm p) (p2 : 2 ≤ p) : invZ p (p - 1) = p - 1 := by
  have y := inv_mul pr p2 (a := p - 1) (by omega) (by omega)
  have lt := inv_lt (p := p) (a := p - 1) p2
  generalize invZ p (p - 1) = x at y lt
  have e : x * (p - 1) + x = x * p := by
    rw [← Nat.mul_succ]
    congr 1
    omega
  have d : (x * (p - 1) + x) % p = 0 := by
    rw [e]
    exact Nat.mul_mod_left x p
  rw [Nat.add_mod, y, Nat.mod_eq_of_lt lt] at d
  have dv : p ∣ 1 + x := Nat.dvd_of_mod_eq_zero d
  have le := Nat.le_of_dvd (by omega) dv
  omega
section
variable {P : Program} {w : World} {K : PySem.W.Frag} {mg : Str → Option Value} {base : Heap}
def spInvR : Sp := fun vs H Q _ => ∃ (a : Addr) (t : Nat), vs = [.ref a] ∧ Pur H a t ∧ t ≤ 500 ∧ ∀ H', But a H H' → Pur H' a (t + 10) → Q (.bl true) H'
theorem scInvR : FnScope ["_law_purse_here", "_law_prime", "_law_number", "_law_drawn"] ["_law_purse_here"] (defScope sInvR) := ⟨rfl, rfl, rfl, by decide +kernel, rfl, by decide +kernel, by decide +kernel⟩
theorem one_text : (PyData.int 1).shown = ("1" : Str) := by decide +kernel
theorem sho_one {x : Int} {H : Hp} (e : x = 1) : Sho 0 H (.int x) (.int 1) := by
  subst e
  exact .inr (.inr (.inl ⟨1, rfl, rfl⟩))
theorem one_len : (PyData.int 1).shown.length ≤ sizeLine := by
  rw [one_text, sizeLine_eq]
  decide
theorem one_ne : (!decide (V.str (PyData.int 1).shown = V.str ("1" : Str))) = false := by
  rw [one_text, decide_eq_true rfl]
  rfl
theorem int_ne {x y : Int} (e : x = y) : (!decide (V.int x = V.int y)) = false := by
  rw [e, decide_eq_true rfl]
  rfl
theorem inv_int {p a : Nat} (pr : Prm p) (p2 : 2 ≤ p) (a0 : 0 < a) (ap : a < p) : ((a ^ (p - 2) % p : Nat) : Int) * (a : Int) % (p : Int) = 1 := by
  have z := inv_mul pr p2 a0 ap
  unfold invZ at z
  rw [← Int.natCast_mul, ← Int.natCast_emod, z]
  rfl
theorem ok_invR {f fD fI : Addr} {fd fdD fdI : FuncData} (F : Fun K "_law_inverses_right" "_law_inverses_right" sInvR f fd) (FD : Fun K "_law_draw" "_law_draw" sDraw fD fdD) (GD : FnOk P w K mg base CX0 2 fD fdD ["_law_purse_here", "_law_many"] spDraw) (gD : mg "_law_draw" = some (.ref fD))
    (FI : Fun K "inverse" "inverse" sInv fI fdI) (GI : FnOk P w K mg base CX0 4 fI fdI ["prime", "number"] spInv) (gI : mg "inverse" = some (.ref fI)) (gR : mg "range" = none) (gP : mg "repr" = none) : FnG P w K mg base 5 f fd ["_law_purse_here"] spInvR := by
  have bD : Binds K fdD ["_law_purse_here", "_law_many"] [] := FD.binds fun _ _ _ _ _ _ us hl => match us, hl with | [_, _], _ => rfl
  have bI : Binds K fdI ["prime", "number"] [] := FI.binds fun _ _ _ _ _ _ us hl => match us, hl with | [_, _], _ => rfl
  refine fnG_of F scInvR (fun vs H Q h => ?_) (fun cdv A below s H vs Q hgd hr h => ?_)
  · obtain ⟨a, t, rfl, _⟩ := h
    rfl
  · obtain ⟨a, t, rfl, hp, t5, want⟩ := h
    refine ⟨_, pss_cons (ps_for PassesOwn.never rfl (pi_list (pe_lst (pa_cons pe_int (pa_cons pe_int (pa_cons pe_int (pa_cons pe_int pa_nil)))))) (pg_name (i := 1) scInvR.nd rfl (Or.inl rfl))
        (pss_one (ps_for PassesOwn.never rfl (pi_range2 rfl gR (pa_cons pe_int (pa_cons (pv 1) pa_nil))) (pg_name (i := 2) scInvR.nd rfl (Or.inl rfl))
          (pss_one (ps_if (PW.pt (pw_or (pt_cmpR op_ne (pe_callB (call_repr hgd hr.units) (by rfl) gP boot_repr (pa_cons (pe_op op_mod (pe_op op_mul (pe_call GI hr rfl gI FI.kp bI .nil pass0 (pa_cons (pv 1) (pa_cons (pv 2) pa_nil))) (pv 2)) (pv 1)) pa_nil)) pe_str (nomark _))
              (pw_or1 (pt_not (pt_chain op_lt op_lt pe_int (pe_call GI hr rfl gI FI.kp bI .nil pass0 (pa_cons (pv 1) (pa_cons (pv 2) pa_nil))) (pv 1)))))) (pss_one (ps_ret pe_bl)) pss_nil)))))
      (pss_cons (ps_for PassesOwn.never rfl (pi_list (pe_lst (pa_cons pe_int (pa_cons pe_int (pa_cons pe_int pa_nil))))) (pg_name (i := 1) scInvR.nd rfl (Or.inl rfl))
        (pss_cons (ps_set (i := 3) scInvR.nd rfl (Or.inl rfl) (pe_op op_add pe_int (pe_call GD (hr.mono (by decide)) rfl gD FD.kp bD .nil pass0 (pa_cons (pv 0) (pa_cons (pe_op op_sub (pv 1) pe_int) pa_nil)))))
        (pss_cons (ps_if (PW.pt (pw_or (pt_cmpR op_ne (pe_op op_mod (pe_op op_mul (pe_call GI hr rfl gI FI.kp bI .nil pass0 (pa_cons (pv 1) (pa_cons (pv 3) pa_nil))) (pv 3)) (pv 1)) pe_int (nomark _))
              (pw_or1 (pt_not (pt_chain op_lt op_lt pe_int (pe_call GI hr rfl gI FI.kp bI .nil pass0 (pa_cons (pv 1) (pa_cons (pv 3) pa_nil))) (pv 1)))))) (pss_one (ps_ret pe_bl)) pss_nil)
        (pss_one (ps_if (PW.pt (pw_or (pt_cmpR op_ne (pe_call GI hr rfl gI FI.kp bI .nil pass0 (pa_cons (pv 1) (pa_cons (pe_op op_sub (pv 1) pe_int) pa_nil))) (pe_op op_sub (pv 1) pe_int) (nomark _))
              (pw_or1 (pt_cmpR op_ne (pe_call GI hr rfl gI FI.kp bI .nil pass0 (pa_cons (pv 1) (pa_cons pe_int pa_nil))) pe_int (nomark _))))) (pss_one (ps_ret pe_bl)) pss_nil)))))
      (pss_one (ps_ret pe_bl))), ?_⟩
    refine ⟨by show 4 ≤ sizeLine; decide, fun l1 hl1 => ?_⟩
    have q1 := same_new (o := .lst [V.int 2, V.int 3, V.int 5, V.int 7]) hl1
    refine ⟨l1, rfl, ⟨_, SqL.of upd_same⟩, ?_⟩
    refine for_list (xs := [V.int 2, V.int 3, V.int 5, V.int 7]) (fun k σ H' => Same H H' ∧ H' l1 = some (.lst [V.int 2, V.int 3, V.int 5, V.int 7]) ∧ ∃ u v x : Option V, σ = [some (.ref a), u, v, x]) ⟨q1, upd_same, _, _, _, rfl⟩ (fun k σ H' _ z => SqL.of z.2.1) ?_ ?_
    · rintro k x σ H' hx ⟨sm, hl, u, v, y, rfl⟩
      obtain ⟨p, rfl, mg⟩ : ∃ p : Nat, x = V.int (p : Int) ∧ (p : Int) ∈ goods := by
        have m := List.mem_of_getElem? hx
        simp only [List.mem_cons, List.not_mem_nil, or_false] at m
        rcases m with rfl | rfl | rfl | rfl
        · exact ⟨2, rfl, by decide⟩
        · exact ⟨3, rfl, by decide⟩
        · exact ⟨5, rfl, by decide⟩
        · exact ⟨7, rfl, by decide⟩
      obtain ⟨p2, p6, pr⟩ := good_prm mg
      refine ⟨_, rfl, 1, (p : Int), rfl, ⟨by omega, by omega, by omega, by omega⟩, ?_⟩
      have en : ((p : Int) - 1).toNat = p - 1 := by omega
      rw [en]
      refine for_range (lo := 1) (n := p - 1) (fun j σ H2 => Same H H2 ∧ H2 l1 = some (.lst [V.int 2, V.int 3, V.int 5, V.int 7]) ∧ ∃ v x : Option V, σ = [some (.ref a), some (.int (p : Int)), v, x]) ⟨sm, hl, _, _, rfl⟩ ?_ ?_
      · rintro j σ H2 hj ⟨sm2, hl2, v, y, rfl⟩
        have e0 : (1 : Int) + (j : Int) = ((j + 1 : Nat) : Int) := by omega
        rw [e0]
        have a0 : 0 < j + 1 := Nat.succ_pos j
        have ap : j + 1 < p := by omega
        refine ⟨_, rfl, _, rfl, p, j + 1, rfl, mg, a0, ap, fun H3 s3 => ?_⟩
        have lt := inv_lt (p := p) (a := j + 1) p2
        have pos := inv_pos pr p2 a0 ap
        unfold invZ at lt pos
        refine ⟨_, rfl, _, _, rfl, rfl, .inl ⟨by omega, by omega⟩, _, rfl, _, (p : Int), rfl, rfl, by show (0 : Int) < (p : Int); omega, ?_⟩
        refine ⟨_, .int 1, 0, rfl, sho_one (inv_int pr p2 a0 ap), rfl, by rw [PyData.depth]; decide, one_len, ?_⟩
        refine ⟨rfl, _, rfl, ?_⟩
        rw [one_ne]
        refine iteF ?_
        refine ⟨_, rfl, _, rfl, p, j + 1, rfl, mg, a0, ap, fun H4 s4 => ?_⟩
        refine ⟨_, _, rfl, rfl, _, rfl, ?_⟩
        rw [decide_eq_true (show (0 : Int) < (((j + 1) ^ (p - 2) % p : Nat) : Int) by omega)]
        refine iteT ⟨_, rfl, _, _, rfl, rfl, _, rfl, ?_⟩
        rw [decide_eq_true (show (((j + 1) ^ (p - 2) % p : Nat) : Int) < (p : Int) by omega)]
        exact iteF ⟨same_trans sm2 (same_trans s3 s4), s4 _ _ (s3 _ _ hl2), _, _, rfl⟩
      · rintro σ H2 ⟨sm2, hl2, v, y, rfl⟩
        exact ⟨sm2, hl2, _, _, _, rfl⟩
    · rintro σ H1 ⟨s1, hl, u, v, y, rfl⟩
      refine ⟨by show 3 ≤ sizeLine; decide, fun l2 hl2 => ?_⟩
      have q2 := same_new (o := .lst [V.int 257, V.int 65521, V.int 65537]) hl2
      have hp2 := (hp.same s1).same q2
      have na2 : a ≠ l2 := (hp.same s1).ne hl2
      refine ⟨l2, rfl, ⟨_, SqL.of upd_same⟩, ?_⟩
      refine for_list (xs := [V.int 257, V.int 65521, V.int 65537]) (fun k σ H' => But a H H' ∧ Pur H' a (t + k) ∧ H' l2 = some (.lst [V.int 257, V.int 65521, V.int 65537]) ∧ ∃ u v x : Option V, σ = [some (.ref a), u, v, x]) ⟨but_same (same_trans s1 q2), hp2, upd_same, _, _, _, rfl⟩ (fun k σ H' _ z => SqL.of z.2.2.1) ?_ ?_
      · rintro k x σ H' hx ⟨bt, hp', hl', u, v, y, rfl⟩
        have k3 : k < 3 := (List.getElem?_eq_some_iff.mp hx).1
        obtain ⟨p, rfl, mg, pbig⟩ : ∃ p : Nat, x = V.int (p : Int) ∧ (p : Int) ∈ goods ∧ 257 ≤ p := by
          have m := List.mem_of_getElem? hx
          simp only [List.mem_cons, List.not_mem_nil, or_false] at m
          rcases m with rfl | rfl | rfl
          · exact ⟨257, rfl, by decide, by decide⟩
          · exact ⟨65521, rfl, by decide, by decide⟩
          · exact ⟨65537, rfl, by decide, by decide⟩
        obtain ⟨p2, p6, pr⟩ := good_prm mg
        refine ⟨_, rfl, _, rfl, _, _, rfl, rfl, a, (p : Int) - 1, t + k, rfl, by omega, by omega, hp', by omega, fun H2 d d0 d1 b2 hp3 => ⟨(1 : Int), d, rfl, rfl, ?_⟩⟩
        have hl3 : H2 l2 = some (.lst [V.int 257, V.int 65521, V.int 65537]) := b2 l2 (Ne.symm na2) _ hl'
        obtain ⟨n, rfl⟩ : ∃ n : Nat, d = (n : Int) := ⟨d.toNat, by omega⟩
        have e0 : (1 : Int) + (n : Int) = ((n + 1 : Nat) : Int) := by omega
        dsimp only
        rw [e0]
        have a0 : 0 < n + 1 := Nat.succ_pos n
        have ap : n + 1 < p := by omega
        have lt := inv_lt (p := p) (a := n + 1) p2
        have pos := inv_pos pr p2 a0 ap
        unfold invZ at lt pos
        refine ⟨_, rfl, _, rfl, p, n + 1, rfl, mg, a0, ap, fun H3 s3 => ?_⟩
        refine ⟨_, rfl, _, _, rfl, rfl, .inl ⟨by omega, by omega⟩, _, rfl, _, (p : Int), rfl, rfl, by show (0 : Int) < (p : Int); omega, ?_⟩
        refine ⟨rfl, _, rfl, ?_⟩
        rw [int_ne (inv_int pr p2 a0 ap)]
        refine iteF ?_
        refine ⟨_, rfl, _, rfl, p, n + 1, rfl, mg, a0, ap, fun H4 s4 => ?_⟩
        refine ⟨_, _, rfl, rfl, _, rfl, ?_⟩
        rw [decide_eq_true (show (0 : Int) < (((n + 1) ^ (p - 2) % p : Nat) : Int) by omega)]
        refine iteT ⟨_, rfl, _, _, rfl, rfl, _, rfl, ?_⟩
        rw [decide_eq_true (show (((n + 1) ^ (p - 2) % p : Nat) : Int) < (p : Int) by omega)]
        refine iteF ?_
        have e1 : (p : Int) - 1 = ((p - 1 : Nat) : Int) := by omega
        refine ⟨_, rfl, _, rfl, _, _, rfl, rfl, p, p - 1, by rw [← e1]; rfl, mg, by omega, by omega, fun H5 s5 => ?_⟩
        refine ⟨_, rfl, _, _, rfl, rfl, rfl, _, rfl, ?_⟩
        have i1 : (((p - 1) ^ (p - 2) % p : Nat) : Int) = (p : Int) - 1 := by
          have z := inv_last pr p2
          unfold invZ at z
          rw [z, e1]
        rw [int_ne i1]
        refine iteF ?_
        refine ⟨_, rfl, p, 1, rfl, mg, by decide, by omega, fun H6 s6 => ?_⟩
        have i2 : ((1 ^ (p - 2) % p : Nat) : Int) = 1 := by
          have z := inv_one' (p := p) p2
          unfold invZ at z
          rw [z]
          rfl
        refine ⟨rfl, _, rfl, ?_⟩
        rw [int_ne i2]
        have s36 := same_trans (same_trans s3 s4) (same_trans s5 s6)
        exact iteF ⟨(bt.trans b2).trans (but_same s36), hp3.same s36, s36 _ _ hl3, _, _, _, rfl⟩
      · rintro σ H2 ⟨bt, hp', hl', u, v, y, rfl⟩
        exact want H2 bt (hp'.mono (by show t + 3 ≤ t + 10; omega))
end
end Vb
end L2

set_option Elab.async false
set_option linter.all false
set_option maxRecDepth 100000
set_option maxHeartbeats 4000000
/-! Vb, part 25: rows copied; the two sums. -/
namespace L2
namespace Vb
open PySem PySem.Spec PyProof.Rows
open LinA (sumZ)
theorem wipe_one {σ : St} {i : Nat} {v : Option V} : wipe ((wipe σ [i]).set i v) [i] = wipe σ [i] := by
  simp [wipe]
theorem var_one {σ : St} {i : Nat} {v : V} (h : i < σ.length) : ((wipe σ [i]).set i (some v))[i]? = some (some v) := by
  simp [wipe, h]
theorem lc_copy {K : PySem.W.Frag} {a D : Addr} {as : List Addr} {T : List (List Int)} {H1 : Hp} {i : Nat} {σ : St} {Qd : Hp → Prop} (hi : i < σ.length) (hm : H1 a = some (.lst (as.map V.ref))) (hT : Rws H1 as T) (hD : H1 D = none) (hl : T.length ≤ 1000)
    (q : ∀ (H' : Hp) (cs : List Addr), Same H1 H' → H' D = some (.lst (cs.map V.ref)) → Rws H' cs T → (∀ c ∈ cs, H1 c = none) → Qd H') :
    ∃ W : Nat → Nat → Hp → Prop, (∃ m, W 0 m (upd H1 D (.lst []))) ∧ ∀ j m H, W j m H →
      ((Itl K a).stop j H ∧ Qd H) ∨ ((Itl K a).go j H ∧ ∃ Nx : Hp → Prop, (∀ H', Nx H' → ∃ m', m' < m ∧ W (j + 1) m' H') ∧ ∀ x H', (Itl K a).yld j H x H' → gName i x (wipe σ [i]) H' fun σ2 H2 => wipe σ2 [i] = wipe σ [i] ∧ tYes σ2 H2 fun b H3 =>
        if b = true then tCB (rLO K) (tCons (tVar i) tNil) σ2 H3 fun y H4 => ∃ acc, H4 D = some (.lst acc) ∧ acc.length < sizeLine ∧ Nx (upd H4 D (.lst (acc ++ [y]))) else Nx H3) := by
  have la := hT.len
  refine lc_list (fun k H' => Same H1 H' ∧ ∃ cs : List Addr, cs.length = k ∧ H' D = some (.lst (cs.map V.ref)) ∧ Rws H' cs (T.take k) ∧ (∀ b ∈ cs, b ≠ D) ∧ ∀ b ∈ cs, H1 b = none) ⟨same_new hD, [], rfl, upd_same, .nil, fun b z => (List.not_mem_nil z).elim, fun b z => (List.not_mem_nil z).elim⟩ (fun j H2 _ z => SqL.of (z.1 _ _ hm)) ?_ ?_
  · rintro k x H' hx ⟨sm, cs, lc, hcl, hcs, nm, fr⟩
    obtain ⟨b, xs, rfl, hb, mx, ht, _⟩ := rws_at hT hx
    have hb' : H' b = some (.lst (xs.map V.int)) := sm _ _ hb
    refine ⟨wipe_one, tyes ?_⟩
    refine ⟨_, var_one hi, b, _, rfl, .inl (SqL.of hb'), fun l hl => ?_⟩
    have nl : D ≠ l := fun e => by
      rw [← e, hcl] at hl
      cases hl
    have kl : k < T.length := (List.getElem?_eq_some_iff.mp ht).1
    refine ⟨_, (upd_ne nl).trans hcl, by rw [List.length_map, sizeLine_eq]; omega, same_set (same_trans sm (same_new hl)) hD, cs ++ [l], by rw [List.length_append, lc]; rfl, ?_, ?_, fun d md => ?_, fun d md => ?_⟩
    · rw [upd_same, List.map_append]
      rfl
    · rw [List.take_succ, ht]
      have st : ∀ d, d ≠ D → ∀ o, upd H' l (.lst (xs.map V.int)) d = some o → upd (upd H' l (.lst (xs.map V.int))) D (.lst (cs.map V.ref ++ [V.ref l])) d = some o := fun d ne o e => (upd_ne ne).trans e
      refine paired_snoc ((hcs.mono fun d _ o e => same_new hl _ _ e).mono fun d md o e => st d (nm d md) o e) ?_
      exact st l (Ne.symm nl) _ upd_same
    · rcases List.mem_append.mp md with z | z
      · exact nm d z
      · rw [List.mem_singleton.mp z]
        exact Ne.symm nl
    · rcases List.mem_append.mp md with z | z
      · exact fr d z
      · rw [List.mem_singleton.mp z]
        exact sm.free hl
  · rintro H' ⟨sm, cs, lc, hcl, hcs, nm, fr⟩
    rw [List.take_of_length_le (by rw [List.length_map, la]; exact Nat.le_refl _)] at hcs
    exact q H' cs sm hcl hcs fr
theorem dot_comb {p : Nat} [NeZero p] {c : Nat} : ∀ (T : List (List Int)) (fs : List Int), LinA.ic (_root_.Fin p) (dotZ fs (colZ T c)) = LinA.comb (LinA.rowsOf (_root_.Fin p) T) fs c
  | [], fs => by
    have e : dotZ fs (colZ [] c) = 0 := by
      unfold dotZ colZ
      rw [List.map_nil, List.zipWith_nil_right]
      rfl
    rw [e]
    exact LinA.ic_zero
  | _ :: _, [] => LinA.ic_zero
  | xs :: T, f :: fs => by
    show LinA.ic (_root_.Fin p) (f * xs.getD c 0 + dotZ fs (colZ T c)) = LinA.ic (_root_.Fin p) f * LinA.ic (_root_.Fin p) (xs.getD c 0) + LinA.comb _ fs c
    rw [LinA.ic_add, LinA.ic_mul, dot_comb T fs]
theorem addZ_vec {p L : Nat} (p0 : 0 < p) (T : List (List Int)) (fs : List Int) : LinA.Vec p L (addZ (p : Int) T fs L) := ⟨by unfold addZ; rw [List.length_map, List.length_range], fun x m => by
  obtain ⟨c, _, rfl⟩ := List.mem_map.mp m
  exact LinA.mod_in p0 _⟩
theorem add_sum {p L : Nat} (p0 : 0 < p) {T : List (List Int)} {fs : List Int} (hT : ∀ xs ∈ T, Vc (p : Int) L xs) (e : T.length = fs.length) : addZ (p : Int) T fs L = sumZ p L T fs := by
  haveI : NeZero p := ⟨by omega⟩
  refine LinA.row_eq (K := _root_.Fin p) (addZ_vec p0 T fs) (LinA.sumZ_vec p0 hT) ?_
  rw [LinA.sumZ_row p0 hT e]
  funext c
  by_cases h : c < L
  · show LinA.ic (_root_.Fin p) ((addZ (p : Int) T fs L).getD c 0) = _
    have g : (addZ (p : Int) T fs L).getD c 0 = dotZ fs (colZ T c) % (p : Int) := by
      unfold addZ
      rw [List.getD_eq_getElem?_getD, List.getElem?_map, List.getElem?_range h]
      rfl
    rw [g, LinA.cast_mod (p := p), dot_comb]
  · rw [LinA.row_ge (by rw [(addZ_vec p0 T fs).1]; omega)]
    have z := congrFun (LinA.sumZ_row (K := _root_.Fin p) p0 hT e) c
    rw [← z]
    exact (LinA.row_ge (by rw [(LinA.sumZ_vec p0 hT).1]; omega)).symm
end Vb
end L2

set_option Elab.async false
set_option linter.all false
set_option maxRecDepth 100000
set_option maxHeartbeats 4000000
/-! Vb, part 26: combined_right. -/
namespace L2
namespace Vb
open PySem PySem.Spec PyProof.Rows
open LinA (sumZ)
abbrev sCombR : Stmt := topS 47
abbrev nCombR : List Str := ["_law_purse_here", "_law_prime", "_law_vectors_here", "_law_length", "_law_factors", "_law_kept", "_law_held", "_law_due", "_law_heard", "_law_one"]
theorem shaped_two (T : List (List Int)) (xs : List Int) : SeqAt.shaped (.list [matP T, rowP xs]) = true := by
  have m := shaped_mat T
  have r := shaped_row xs
  unfold SeqAt.shaped at m r ⊢
  obtain ⟨m1, m2⟩ := Bool.and_eq_true_iff.mp m
  obtain ⟨r1, r2⟩ := Bool.and_eq_true_iff.mp r
  refine Bool.and_eq_true_iff.mpr ⟨?_, decide_eq_true ?_⟩
  · show PyData.canLay0 (.list [matP T, rowP xs]) = true
    rw [PyData.canLay0, PyData.canLayAll0, PyData.canLayAll0, PyData.canLayAll0, m1, r1]
    rfl
  · have d1 : (matP T).depth ≤ 2 := by
      show PyData.depth (.list (T.map rowP)) ≤ 2
      rw [PyData.depth]
      have := dep_rows T
      omega
    have d2 : (rowP xs).depth ≤ 1 := by
      show PyData.depth (.list (xs.map PyData.int)) ≤ 1
      rw [PyData.depth, dep_ints]
      exact Nat.le_refl _
    show PyData.depth (.list [matP T, rowP xs]) ≤ 64
    rw [PyData.depth, PyData.depthAll, PyData.depthAll, PyData.depthAll]
    omega
theorem eqv_two (T : List (List Int)) (xs : List Int) : PyData.eqv (.list [matP T, rowP xs]) (.list [matP T, rowP xs]) = true := by
  rw [PyData.eqv, PyData.eqvAll, PyData.eqvAll, PyData.eqvAll, eqv_mat, eqv_row, decide_eq_true rfl, decide_eq_true rfl]
  rfl
section
variable {P : Program} {w : World} {K : PySem.W.Frag} {mg : Str → Option Value} {base : Heap}
def spCombR : Sp := fun vs H Q _ => ∃ (a m : Addr) (p L t : Nat) (as : List Addr) (T : List (List Int)), vs = [.ref a, .int (p : Int), .ref m, .int (L : Int)] ∧ (p : Int) ∈ goods ∧ H m = some (.lst (as.map V.ref)) ∧ Rws H as T ∧ (∀ xs ∈ T, Vc (p : Int) L xs) ∧ L ≤ 10 ∧ 0 < T.length ∧ T.length ≤ 10 ∧ Pur H a t ∧ t ≤ 900 ∧ m ≠ a ∧ (∀ b ∈ as, b ≠ a) ∧
  ∀ H', But a H H' → Pur H' a (t + 20) → Q (.bl true) H'
theorem scCombR : FnScope nCombR ["_law_purse_here", "_law_prime", "_law_vectors_here", "_law_length"] (defScope sCombR) := ⟨rfl, rfl, rfl, by decide +kernel, rfl, by decide +kernel, by decide +kernel⟩
theorem ok_combR {f fN fS fC : Addr} {fd fdN fdS fdC : FuncData} (F : Fun K "_law_combined_right" "_law_combined_right" sCombR f fd)
    (FN : Fun K "_law_numbers" "_law_numbers" sNums fN fdN) (GN : FnOk P w K mg base CX0 3 fN fdN ["_law_purse_here", "_law_prime", "_law_many"] spNums) (gN : mg "_law_numbers" = some (.ref fN))
    (FS : Fun K "_law_sum_of" "_law_sum_of" sSumOf fS fdS) (GS : FnOk P w K mg base CX0 1 fS fdS ["_law_prime", "_law_vectors_here", "_law_factors", "_law_length"] spSumOf) (gS : mg "_law_sum_of" = some (.ref fS))
    (FC : Fun K "combined" "combined" sComb fC fdC) (GC : FnOk P w K mg base CX0 6 fC fdC ["prime", "vectors", "factors"] spComb) (gC : mg "combined" = some (.ref fC)) (gLen : mg "len" = none) (gL : mg "list" = none) (gP : mg "repr" = none) :
    FnG P w K mg base 7 f fd ["_law_purse_here", "_law_prime", "_law_vectors_here", "_law_length"] spCombR := by
  have bN : Binds K fdN ["_law_purse_here", "_law_prime", "_law_many"] [] := FN.binds fun _ _ _ _ _ _ us hl => match us, hl with | [_, _, _], _ => rfl
  have bS : Binds K fdS ["_law_prime", "_law_vectors_here", "_law_factors", "_law_length"] [] := FS.binds fun _ _ _ _ _ _ us hl => match us, hl with | [_, _, _, _], _ => rfl
  have bC : Binds K fdC ["prime", "vectors", "factors"] [] := FC.binds fun _ _ _ _ _ _ us hl => match us, hl with | [_, _, _], _ => rfl
  refine fnG_of F scCombR (fun vs H Q h => ?_) (fun cdv A below s H vs Q hgd hr h => ?_)
  · obtain ⟨a, m, p, L, t, as, T, rfl, _⟩ := h
    rfl
  · obtain ⟨a, m, p, L, t, as, T, rfl, mgd, hm, hT, hv, lL, t0, tL, hp, t9, nma, nas, want⟩ := h
    obtain ⟨p2, p6, pr⟩ := good_prm mgd
    have la := hT.len
    refine ⟨_, pss_cons (ps_set (i := 4) scCombR.nd rfl (Or.inl rfl) (pe_call GN (hr.mono (by decide)) rfl gN FN.kp bN .nil pass0 (pa_cons (pv 0) (pa_cons (pv 1) (pa_cons (pe_callB call_len_seq (by rfl) gLen PySem.boot_len (pa_cons (pv 2) pa_nil)) pa_nil)))))
      (pss_cons (ps_par (i := 5) (j := 6) (by rfl) scCombR.nd rfl rfl (by decide) rfl rfl (pa_cons (pe_lc (own := [("_law_one", 9)]) (g := gName 9) (tt := tYes) (te := tCB (rLO K) (tCons (tVar 9) tNil)) rfl scCombR.nd (pi_list (pv 2))
            (blkOk_by (N := nCombR) (sc := defScope sCombR) (by decide +kernel)) (fun _ _ _ _ _ => pg_name (i := 9) scCombR.nd rfl (Or.inl rfl)) (fun _ _ _ _ _ => pts_nil) (fun _ _ _ _ _ => pe_callTy call_list_of (by rfl) gL boot_list2 (pa_cons (pv 9) pa_nil)))
          (pa_cons (pe_callTy call_list_of (by rfl) gL boot_list2 (pa_cons (pv 4) pa_nil)) pa_nil)) (by rfl))
      (pss_cons (ps_set (i := 7) scCombR.nd rfl (Or.inl rfl) (pe_call GS (hr.mono (by decide)) rfl gS FS.kp bS .nil pass0 (pa_cons (pv 1) (pa_cons (pv 2) (pa_cons (pv 4) (pa_cons (pv 3) pa_nil))))))
      (pss_cons (ps_set (i := 8) scCombR.nd rfl (Or.inl rfl) (pe_call GC hr rfl gC FC.kp bC .nil pass0 (pa_cons (pv 1) (pa_cons (pv 2) (pa_cons (pv 4) pa_nil)))))
      (pss_cons (ps_if (pt_cmpR op_ne (pe_callB (call_repr hgd hr.units) (by rfl) gP boot_repr (pa_cons (pv 8) pa_nil)) (pe_callB (call_repr hgd hr.units) (by rfl) gP boot_repr (pa_cons (pv 7) pa_nil)) (nomark _)) (pss_one (ps_ret pe_bl)) pss_nil)
      (pss_cons (ps_expr (pe_bm PySem.F.plainAttrs_list PySem.F.slot_list_append PySem.F.type_list_append mt_append (pv 8) (pa_cons pe_int pa_nil)))
      (pss_one (ps_ret (pe_and (pe_cmpR (op_eqD hr.units) (pe_call GC hr rfl gC FC.kp bC .nil pass0 (pa_cons (pv 1) (pa_cons (pv 2) (pa_cons (pv 4) pa_nil)))) (pv 7) (nomark _))
        (pe_one (pe_cmpR (op_eqD hr.units) (pe_lst (pa_cons (pv 2) (pa_cons (pv 4) pa_nil))) (pe_lst (pa_cons (pv 5) (pa_cons (pv 6) pa_nil))) (nomark _))))))))))), ?_⟩
    refine ⟨_, rfl, _, rfl, _, rfl, m, _, rfl, .inl (SqL.of hm), a, p, T.length, t, by rw [List.length_map, la]; rfl, by omega, by omega, by omega, hp, by omega, fun H1 b fs b1 hp1 nb hb vb => ?_⟩
    have p0 : 0 < p := by omega
    have nba : b ≠ a := (hp.ne nb).symm
    have hm1 : H1 m = some (.lst (as.map V.ref)) := b1 m nma _ hm
    have hT1 := but_rws b1 hT nas
    have hb1 : H1 b = some (.lst (fs.map V.int)) := hb
    refine ⟨_, rfl, m, rfl, ⟨_, SqL.of hm1⟩, ?_⟩
    intro D hD
    refine lc_copy (by show 9 < 10; decide) hm1 hT1 hD (by omega) fun H2 cs s2 hD2 hcs _ => ?_
    have hb2 := s2 _ _ hb1
    refine ⟨_, rfl, b, _, rfl, .inl (SqL.of hb2), fun e he => ?_⟩
    have s3 := same_new (o := .lst (fs.map V.int)) he
    have s13 := same_trans s2 s3
    refine ⟨_, _, rfl, ?_⟩
    have hT3 := rws_up hT1 s13
    have hm3 := s13 _ _ hm1
    have hb3 : Rw (upd H2 e (.lst (fs.map V.int))) b fs := s13 _ _ hb1
    have he3 : Rw (upd H2 e (.lst (fs.map V.int))) e fs := upd_same
    have hD3 := s3 _ _ hD2
    have hcs3 := rws_up hcs s3
    have fb : ∀ f ∈ fs, 0 ≤ f ∧ f < 65537 := fun f mf => by
      obtain ⟨z0, z1⟩ := vb.2 f mf
      omega
    refine ⟨_, rfl, _, rfl, _, rfl, _, rfl, p, m, b, L, as, T, fs, rfl, p2, p6, hm3, hT3, hv, hb3, fb, by omega, fun H4 d s4 nd hd => ?_⟩
    have s14 := same_trans s13 s4
    refine ⟨_, rfl, _, rfl, _, rfl, (p : Int), m, b, L, as, T, fs, rfl, mgd, s14 _ _ hm1, rws_up hT1 s14, hv, s4 _ _ hb3, vb, by omega, by omega, t0, fun H5 h s5 nh hh => ?_⟩
    rw [add_sum p0 hv vb.1.symm] at hh
    have s15 := same_trans s14 s5
    have vsum : Vc (p : Int) L (sumZ p L T fs) := LinA.sumZ_vec p0 hv
    have small : ∀ x ∈ sumZ p L T fs, 0 ≤ x ∧ x < 100000 := fun x mx => by
      obtain ⟨z0, z1⟩ := vsum.2 x mx
      omega
    have lsum : (sumZ p L T fs).length ≤ 100 := by
      have := vsum.1
      omega
    have hd5 : Rw H5 d (sumZ p L T fs) := s5 _ _ hd
    obtain ⟨g1, g2, g3, g4⟩ := row_sho hh small lsum
    obtain ⟨k1, k2, k3, k4⟩ := row_sho hd5 small lsum
    refine ⟨_, rfl, _, _, _, rfl, g1, g2, g3, g4, _, rfl, _, _, _, rfl, k1, k2, k3, k4, rfl, _, rfl, ?_⟩
    have z1 : (!decide (V.str (rowP (sumZ p L T fs)).shown = V.str (rowP (sumZ p L T fs)).shown)) = false := by
      rw [decide_eq_true rfl]
      rfl
    rw [z1]
    refine iteF ?_
    have hh' : H5 h = some (.lst ((sumZ p L T fs).map V.int)) := hh
    refine ⟨_, rfl, .inl ⟨rfl, _, SqL.of hh'⟩, h, _, _, rfl, rfl, hh', by rw [List.length_map, sizeLine_eq]; omega, ?_⟩
    -- what stands beside the heard one
    have ap : ∀ x, (∃ o, H1 x = some o) ∨ (∃ o, upd H2 e (.lst (fs.map V.int)) x = some o) ∨ (∃ o, H4 x = some o) → ∀ o, H5 x = some o → upd H5 h (.lst ((sumZ p L T fs).map V.int ++ [V.int 0])) x = some o := fun x hx o z => by
      have n : x ≠ h := fun q => by
        rw [q] at hx
        rcases hx with ⟨o, y⟩ | ⟨o, y⟩ | ⟨o, y⟩
        · rw [s14 _ _ y] at nh
          cases nh
        · rw [s4 _ _ y] at nh
          cases nh
        · rw [nh] at y
          cases y
      exact (upd_ne n).trans z
    let H6 := upd H5 h (.lst ((sumZ p L T fs).map V.int ++ [V.int 0]))
    have hm6 : H6 m = some (.lst (as.map V.ref)) := ap m (.inl ⟨_, hm1⟩) _ (s15 _ _ hm1)
    have hT6 : Rws H6 as T := (rws_up hT1 s15).mono fun x mx o z => ap x (.inl (rws_some hT1 mx)) o z
    have hb6 : Rw H6 b fs := ap b (.inl ⟨_, hb1⟩) _ (s15 _ _ hb1)
    have hd6 : Rw H6 d (sumZ p L T fs) := ap d (.inr (.inr ⟨_, hd⟩)) _ hd5
    have s35 := same_trans s4 s5
    have hD6 : H6 D = some (.lst (cs.map V.ref)) := ap D (.inr (.inl ⟨_, hD3⟩)) _ (s35 _ _ hD3)
    have hcs6 : Rws H6 cs T := (rws_up hcs3 s35).mono fun x mx o z => ap x (.inr (.inl (rws_some hcs3 mx))) o z
    have he6 : Rw H6 e fs := ap e (.inr (.inl ⟨_, he3⟩)) _ (s35 _ _ he3)
    have nha : h ≠ a := fun q => by
      obtain ⟨q1, q2, q3, q4, z, _⟩ := hp1
      rw [q, s14 _ _ z] at nh
      cases nh
    have hp6 : Pur H6 a (t + T.length) := by
      obtain ⟨q1, q2, q3, q4, z, y1, y2⟩ := hp1
      exact ⟨q1, q2, q3, q4, ap a (.inl ⟨_, z⟩) _ (s15 _ _ z), y1, y2⟩
    have b06 : But a H H6 := fun x nx o z => by
      have z1 := b1 x nx o z
      exact ap x (.inl ⟨_, z1⟩) _ (s15 _ _ z1)
    refine ⟨_, rfl, _, rfl, _, rfl, (p : Int), m, b, L, as, T, fs, rfl, mgd, hm6, hT6, hv, hb6, vb, by omega, by omega, t0, fun H7 g s7 ng hg => ?_⟩
    rw [add_sum p0 hv vb.1.symm] at hg
    refine ⟨_, rfl, ?_⟩
    refine eq_row hg (s7 _ _ hd6) ⟨_, rfl, ?_⟩
    rw [decide_eq_true rfl]
    refine iteT ?_
    refine ⟨_, rfl, _, rfl, by show 2 ≤ sizeLine; decide, fun l1 hl1 => ⟨_, rfl, _, rfl, by show 2 ≤ sizeLine; decide, fun l2 hl2 => ?_⟩⟩
    have s8 := same_new (o := .lst [V.ref m, V.ref b]) hl1
    have s9 := same_new (o := .lst [V.ref D, V.ref e]) hl2
    have s79 := same_trans s7 (same_trans s8 s9)
    refine ⟨.list [matP T, rowP fs], .list [matP T, rowP fs], ?_, ?_, shaped_two T fs, shaped_two T fs, ?_⟩
    · exact .lst (SqL.of (s9 _ _ upd_same)) (.cons (dp_mat (s79 _ _ hm6) (rws_up hT6 s79)) (.cons (dp_row (s79 _ _ hb6)) .nil))
    · exact .lst (SqL.of upd_same) (.cons (dp_mat (s79 _ _ hD6) (rws_up hcs6 s79)) (.cons (dp_row (s79 _ _ he6)) .nil))
    · rw [eqv_two]
      exact want _ (b06.trans (but_same s79)) ((hp6.same s79).mono (by omega))
end
end Vb
end L2

set_option Elab.async false
set_option linter.all false
set_option maxRecDepth 100000
set_option maxHeartbeats 4000000
/-! Vb, part 27: perms of refs, spans of more, lists of lists of rows. -/
namespace L2
namespace Vb
open PySem PySem.Spec PyProof.Rows
open LinA (sumZ Bas IsSpan InS)
def unref : V → Addr
  | .ref a => a
  | _ => 0
theorem unrefs {as : List Addr} {ys : List V} (h : ys.Perm (as.map V.ref)) : ∃ ms : List Addr, ys = ms.map V.ref ∧ ms.Perm as := by
  refine ⟨ys.map unref, ?_, ?_⟩
  · rw [List.map_map]
    conv => lhs; rw [← List.map_id ys]
    refine List.map_congr_left fun y my => ?_
    obtain ⟨a, _, e⟩ := List.mem_map.mp (h.mem_iff.mp my)
    rw [← e]
    rfl
  · have z := h.map unref
    rw [List.map_map] at z
    have e : (unref ∘ V.ref) = id := rfl
    rw [e, List.map_id] at z
    exact z
theorem rws_perm {H : Hp} {as bs : List Addr} (pm : bs.Perm as) : ∀ {T : List (List Int)}, Rws H as T → ∃ M, Rws H bs M ∧ M.Perm T := by
  induction pm with
  | nil =>
    intro T h
    exact ⟨T, h, List.Perm.refl _⟩
  | cons x _ ih =>
    intro T h
    cases h with
    | cons r rs =>
      obtain ⟨M, hM, pM⟩ := ih rs
      exact ⟨_ :: M, .cons r hM, pM.cons _⟩
  | swap x y l =>
    intro T h
    cases h with
    | cons r rs =>
      cases rs with
      | cons r2 rs => exact ⟨_, .cons r2 (.cons r rs), List.Perm.swap _ _ _⟩
  | trans _ _ i1 i2 =>
    intro T h
    obtain ⟨M, hM, pM⟩ := i2 h
    obtain ⟨N, hN, pN⟩ := i1 hM
    exact ⟨N, hN, pN.trans pM⟩
section
variable {p L : Nat}
theorem zeros_inS (p1 : 1 < p) {T : List (List Int)} (hT : ∀ xs ∈ T, LinA.Vec p L xs) : InS p L T (List.replicate L 0) := by
  haveI : NeZero p := ⟨by omega⟩
  refine (LinA.inS_iff hT).mpr ⟨LinA.zeros_vec (by omega), ?_⟩
  rw [LinA.row_zeros]
  exact .zero
/-- vectors put in that are spanned already, in any order -/
theorem inS_more (p1 : 1 < p) {T M N : List (List Int)} (hT : ∀ xs ∈ T, LinA.Vec p L xs) (pm : M.Perm (T ++ N)) (hN : ∀ xs ∈ N, InS p L T xs) : (∀ xs ∈ M, LinA.Vec p L xs) ∧ ∀ xs, InS p L M xs ↔ InS p L T xs := by
  haveI : NeZero p := ⟨by omega⟩
  have p0 : 0 < p := by omega
  have vM : ∀ xs ∈ M, LinA.Vec p L xs := fun xs m => by
    rcases List.mem_append.mp (pm.mem_iff.mp m) with q | q
    · exact hT xs q
    · exact (hN xs q).vec p0 hT
  refine ⟨vM, fun xs => ⟨fun h => LinA.inS_sub vM hT (fun v m => ?_) h, fun h => LinA.inS_sub hT vM (fun v m => LinA.inS_mem vM (pm.mem_iff.mpr (List.mem_append_left _ m))) h⟩⟩
  rcases List.mem_append.mp (pm.mem_iff.mp m) with q | q
  · exact LinA.inS_mem hT q
  · exact hN v q
theorem bas_take {T B : List (List Int)} {t : List Nat} (h : Bas p L T B t) : Bas p L (B.take 1) (B.take 1) (t.take 1) := by
  have len := h.len
  cases B with
  | nil =>
    cases t with
    | nil => exact LinA.Bas.none
    | cons c t => cases len
  | cons x B =>
    cases t with
    | nil => cases len
    | cons c t => exact h.single (x := (x, c)) List.mem_cons_self
end
/-! ### lists of lists of rows -/
theorem lay_mats : ∀ Ts : List (List (List Int)), PyData.canLayAll0 (Ts.map matP) = true
  | [] => rfl
  | T :: Ts => by
    rw [List.map_cons, PyData.canLayAll0, lay_mats Ts]
    show (PyData.canLay0 (.list (T.map rowP)) && true) = true
    rw [PyData.canLay0, lay_rows]
    rfl
theorem dep_mats : ∀ Ts : List (List (List Int)), PyData.depthAll (Ts.map matP) ≤ 2
  | [] => Nat.zero_le _
  | T :: Ts => by
    rw [List.map_cons, PyData.depthAll]
    refine Nat.max_le.mpr ⟨?_, dep_mats Ts⟩
    show PyData.depth (.list (T.map rowP)) ≤ 2
    rw [PyData.depth]
    have := dep_rows T
    omega
theorem shaped_mats (Ts : List (List (List Int))) : SeqAt.shaped (.list (Ts.map matP)) = true := by
  unfold SeqAt.shaped
  refine Bool.and_eq_true_iff.mpr ⟨?_, decide_eq_true ?_⟩
  · rw [PyData.canLay0, lay_mats]
  · rw [PyData.depth]
    have := dep_mats Ts
    omega
theorem eqv_mats (Ss Ts : List (List (List Int))) : PyData.eqv (.list (Ss.map matP)) (.list (Ts.map matP)) = decide (Ss = Ts) := PySem.W.Datum.eqv (α := List (List (List Int))) Ss Ts
/-- a holds the rows T -/
def Mt (H : Hp) (a : Addr) (T : List (List Int)) : Prop := ∃ as : List Addr, H a = some (.lst (as.map V.ref)) ∧ Rws H as T
theorem Mt.dp {K : PySem.W.Frag} {H : Hp} {a : Addr} {T : List (List Int)} (h : Mt H a T) : Dp K H (.ref a) (matP T) := by
  obtain ⟨as, e, r⟩ := h
  exact dp_mat e r
theorem Mt.up {H H' : Hp} {a : Addr} {T : List (List Int)} (h : Mt H a T) (s : Same H H') : Mt H' a T := by
  obtain ⟨as, e, r⟩ := h
  exact ⟨as, s _ _ e, rws_up r s⟩
theorem ne_mats {K : PySem.W.Frag} {H : Hp} {a b x1 x2 x3 y1 y2 y3 : Addr} {S1 S2 S3 T1 T2 T3 : List (List Int)} {Q : VK} (ha : H a = some (.lst [.ref x1, .ref x2, .ref x3])) (hb : H b = some (.lst [.ref y1, .ref y2, .ref y3]))
    (h1 : Mt H x1 S1) (h2 : Mt H x2 S2) (h3 : Mt H x3 S3) (k1 : Mt H y1 T1) (k2 : Mt H y2 T2) (k3 : Mt H y3 T3) (q : Q (.bl (!decide ([S1, S2, S3] = [T1, T2, T3]))) H) : rNeD K (.ref a) (.ref b) H Q :=
  ⟨.list ([S1, S2, S3].map matP), .list ([T1, T2, T3].map matP), .lst (SqL.of ha) (.cons h1.dp (.cons h2.dp (.cons h3.dp .nil))), .lst (SqL.of hb) (.cons k1.dp (.cons k2.dp (.cons k3.dp .nil))), shaped_mats _, shaped_mats _, by rw [eqv_mats]; exact q⟩
end Vb
end L2


set_option Elab.async false
set_option linter.all false
set_option maxRecDepth 100000
set_option maxHeartbeats 8000000
/-! Vb, part 27: small_right. -/
namespace L2
namespace Vb
open PySem PySem.Spec PyProof.Rows
open LinA (sumZ Bas IsSpan InS)
abbrev sSmall : Stmt := topS 48
abbrev nSmall : List Str := ["_law_purse_here", "_law_prime", "_law_length", "_law_vectors_here", "_law_one", "_law_kept", "_law_every", "_law_heard", "_law_many", "_law_due", "_law_more", "_law_given", "_law_place"]
section
variable {P : Program} {w : World} {K : PySem.W.Frag} {mg : Str → Option Value} {base : Heap}
def spSmall : Sp := fun vs H Q _ => ∃ (a : Addr) (t : Nat), vs = [.ref a] ∧ Pur H a t ∧ t ≤ 100 ∧ ∀ H', But a H H' → Pur H' a (t + 300) → Q (.bl true) H'
theorem scSmall : FnScope nSmall ["_law_purse_here"] (defScope sSmall) := ⟨rfl, rfl, rfl, by decide +kernel, rfl, by decide +kernel, by decide +kernel⟩
theorem ok_small {f fO fD fV fS fR fI fK fH fC fT : Addr} {fd fdO fdD fdV fdS fdR fdI fdK fdH fdC fdT : FuncData} (F : Fun K "_law_small_right" "_law_small_right" sSmall f fd)
    (FO : Fun K "_law_one_of" "_law_one_of" sOneOf fO fdO) (GO : FnOk P w K mg base CX0 3 fO fdO ["_law_purse_here", "_law_some"] spOneOf) (gO : mg "_law_one_of" = some (.ref fO))
    (FD : Fun K "_law_draw" "_law_draw" sDraw fD fdD) (GD : FnOk P w K mg base CX0 2 fD fdD ["_law_purse_here", "_law_many"] spDraw) (gD : mg "_law_draw" = some (.ref fD))
    (FV : Fun K "_law_vectors" "_law_vectors" sVecs fV fdV) (GV : FnOk P w K mg base CX0 4 fV fdV ["_law_purse_here", "_law_prime", "_law_many", "_law_length"] spVecs) (gV : mg "_law_vectors" = some (.ref fV))
    (FS : Fun K "_law_space" "_law_space" sSpace fS fdS) (GS : FnOk P w K mg base CX0 2 fS fdS ["_law_prime", "_law_vectors_here", "_law_length"] spSpace) (gS : mg "_law_space" = some (.ref fS))
    (FR : Fun K "reduced" "reduced" sRed fR fdR) (GR : FnOk P w K mg base CX0 6 fR fdR ["prime", "vectors"] spRed) (gRed : mg "reduced" = some (.ref fR))
    (FI : Fun K "_law_is_reduced" "_law_is_reduced" sIsRed fI fdI) (GI : FnOk P w K mg base CX0 1 fI fdI ["_law_basis"] spIsRed) (gI : mg "_law_is_reduced" = some (.ref fI))
    (FK : Fun K "rank" "rank" sRank fK fdK) (GK : FnOk P w K mg base CX0 7 fK fdK ["prime", "vectors"] spRank) (gK : mg "rank" = some (.ref fK))
    (FH : Fun K "_law_shuffled" "_law_shuffled" sShuf fH fdH) (GH : FnOk P w K mg base CX0 3 fH fdH ["_law_purse_here", "_law_some"] spShuf) (gH : mg "_law_shuffled" = some (.ref fH))
    (FC : Fun K "_law_combined_right" "_law_combined_right" sCombR fC fdC) (GC : FnG P w K mg base 7 fC fdC ["_law_purse_here", "_law_prime", "_law_vectors_here", "_law_length"] spCombR) (gC : mg "_law_combined_right" = some (.ref fC))
    (FT : Fun K "_law_turn_into" "_law_turn_into" sTurn fT fdT) (GT : FnOk P w K mg base CX0 1 fT fdT ["_law_given", "_law_more"] spTurn) (gT : mg "_law_turn_into" = some (.ref fT))
    (gLen : mg "len" = none) (gL : mg "list" = none) (gP : mg "repr" = none) (gR : mg "range" = none) : FnG P w K mg base 8 f fd ["_law_purse_here"] spSmall := by
  have bO : Binds K fdO ["_law_purse_here", "_law_some"] [] := FO.binds fun _ _ _ _ _ _ us hl => match us, hl with | [_, _], _ => rfl
  have bD : Binds K fdD ["_law_purse_here", "_law_many"] [] := FD.binds fun _ _ _ _ _ _ us hl => match us, hl with | [_, _], _ => rfl
  have bV : Binds K fdV ["_law_purse_here", "_law_prime", "_law_many", "_law_length"] [] := FV.binds fun _ _ _ _ _ _ us hl => match us, hl with | [_, _, _, _], _ => rfl
  have bS : Binds K fdS ["_law_prime", "_law_vectors_here", "_law_length"] [] := FS.binds fun _ _ _ _ _ _ us hl => match us, hl with | [_, _, _], _ => rfl
  have bR : Binds K fdR ["prime", "vectors"] [] := FR.binds fun _ _ _ _ _ _ us hl => match us, hl with | [_, _], _ => rfl
  have bI : Binds K fdI ["_law_basis"] [] := FI.binds fun _ _ _ _ _ _ us hl => match us, hl with | [_], _ => rfl
  have bK : Binds K fdK ["prime", "vectors"] [] := FK.binds fun _ _ _ _ _ _ us hl => match us, hl with | [_, _], _ => rfl
  have bH : Binds K fdH ["_law_purse_here", "_law_some"] [] := FH.binds fun _ _ _ _ _ _ us hl => match us, hl with | [_, _], _ => rfl
  have bC : Binds K fdC ["_law_purse_here", "_law_prime", "_law_vectors_here", "_law_length"] [] := FC.binds fun _ _ _ _ _ _ us hl => match us, hl with | [_, _, _, _], _ => rfl
  have bT : Binds K fdT ["_law_given", "_law_more"] [] := FT.binds fun _ _ _ _ _ _ us hl => match us, hl with | [_, _], _ => rfl
  refine fnG_of F scSmall (fun vs H Q h => ?_) (fun cdv A below s H vs Q hgd hr h => ?_)
  · obtain ⟨a, t, rfl, _⟩ := h
    rfl
  · obtain ⟨a, t, rfl, hp, t1, want⟩ := h
    refine ⟨_, pss_cons (ps_par (i := 1) (j := 2) (by rfl) scSmall.nd rfl rfl (by decide) rfl rfl (pa_cons (pe_call GO (hr.mono (by decide)) rfl gO FO.kp bO .nil pass0 (pa_cons (pv 0) (pa_cons (pe_lst (pa_cons pe_int (pa_cons pe_int (pa_cons pe_int pa_nil)))) pa_nil)))
          (pa_cons (pe_op op_add pe_int (pe_call GD (hr.mono (by decide)) rfl gD FD.kp bD .nil pass0 (pa_cons (pv 0) (pa_cons pe_int pa_nil)))) pa_nil)) (by rfl))
      (pss_cons (ps_set (i := 3) scSmall.nd rfl (Or.inl rfl) (pe_call GV (hr.mono (by decide)) rfl gV FV.kp bV .nil pass0 (pa_cons (pv 0) (pa_cons (pv 1) (pa_cons (pe_call GD (hr.mono (by decide)) rfl gD FD.kp bD .nil pass0 (pa_cons (pv 0) (pa_cons pe_int pa_nil))) (pa_cons (pv 2) pa_nil))))))
      (pss_cons (ps_par (i := 5) (j := 6) (by rfl) scSmall.nd rfl rfl (by decide) rfl rfl (pa_cons (pe_lc (own := [("_law_one", 4)]) (g := gName 4) (tt := tYes) (te := tCB (rLO K) (tCons (tVar 4) tNil)) rfl scSmall.nd (pi_list (pv 3))
            (blkOk_by (N := nSmall) (sc := defScope sSmall) (by decide +kernel)) (fun _ _ _ _ _ => pg_name (i := 4) scSmall.nd rfl (Or.inl rfl)) (fun _ _ _ _ _ => pts_nil) (fun _ _ _ _ _ => pe_callTy call_list_of (by rfl) gL boot_list2 (pa_cons (pv 4) pa_nil)))
          (pa_cons (pe_call GS (hr.mono (by decide)) rfl gS FS.kp bS .nil pass0 (pa_cons (pv 1) (pa_cons (pv 3) (pa_cons (pv 2) pa_nil)))) pa_nil)) (by rfl))
      (pss_cons (ps_set (i := 7) scSmall.nd rfl (Or.inl rfl) (pe_call GR (hr.mono (by decide)) rfl gRed FR.kp bR .nil pass0 (pa_cons (pv 1) (pa_cons (pv 3) pa_nil))))
      (pss_cons (ps_if (PW.pt (pw_or (pt_not (pt_val (pe_call GI (hr.mono (by decide)) rfl gI FI.kp bI .nil pass0 (pa_cons (pv 7) pa_nil)))) (pw_or (pt_cmpR (op_neD hr.units) (pe_call GS (hr.mono (by decide)) rfl gS FS.kp bS .nil pass0 (pa_cons (pv 1) (pa_cons (pv 7) (pa_cons (pv 2) pa_nil)))) (pv 6) (nomark _)) (pw_or1 (pt_cmpR (op_neD hr.units) (pv 3) (pv 5) (nomark _))))))
          (pss_one (ps_ret pe_bl)) pss_nil)
      (pss_cons (ps_set (i := 8) scSmall.nd rfl (Or.inl rfl) pe_int)
      (pss_cons (ps_for PassesOwn.never rfl (pi_list (pv 7)) (pg_name (i := 4) scSmall.nd rfl (Or.inl rfl)) (pss_one (ps_set (i := 8) scSmall.nd rfl (Or.inl rfl) (pe_op op_mul (pv 8) (pv 1)))))
      (pss_cons (ps_if (PW.pt (pw_or (pt_cmpR op_ne (pv 8) (pe_callB call_len_seq (by rfl) gLen PySem.boot_len (pa_cons (pv 6) pa_nil)) (nomark _)) (pw_or1 (pt_cmpR op_ne (pe_callB (call_repr hgd hr.units) (by rfl) gP boot_repr (pa_cons (pe_call GK hr rfl gK FK.kp bK .nil pass0 (pa_cons (pv 1) (pa_cons (pv 3) pa_nil))) pa_nil)) (pe_callB (call_repr hgd hr.units) (by rfl) gP boot_repr (pa_cons (pe_callB call_len_seq (by rfl) gLen PySem.boot_len (pa_cons (pv 7) pa_nil)) pa_nil)) (nomark _)))))
          (pss_one (ps_ret pe_bl)) pss_nil)
      (pss_cons (ps_setLc (i := 9) (own := [("_law_one", 4)]) (g := gName 4) (tt := tYes) (te := tCB (rLO K) (tCons (tVar 4) tNil)) rfl scSmall.nd rfl rfl (sw_true rfl rfl rfl (by decide +kernel)) (pi_list (pv 7))
            (blkOk_by (N := nSmall) (sc := defScope sSmall) (by decide +kernel)) (fun _ _ _ _ _ => pg_name (i := 4) scSmall.nd rfl (Or.inl rfl)) (fun _ _ _ _ _ => pts_nil) (fun _ _ _ _ _ => pe_callTy call_list_of (by rfl) gL boot_list2 (pa_cons (pv 4) pa_nil)))
      (C8.pss_cut (ps_set (i := 10) scSmall.nd rfl (Or.inl rfl) (pe_call GH (hr.mono (by decide)) rfl gH FH.kp bH .nil pass0 (pa_cons (pv 0) (pa_cons (pe_op op_cat (pv 3) (pe_lst (pa_cons (pe_call GO (hr.mono (by decide)) rfl gO FO.kp bO .nil pass0 (pa_cons (pv 0) (pa_cons (pv 6) pa_nil)))
            (pa_cons (pe_lc (own := [("_law_place", 12)]) (g := gName 12) (tt := tYes) rfl scSmall.nd (pi_range1 rfl gR (pa_cons (pv 2) pa_nil)) (blkOk_by (N := nSmall) (sc := defScope sSmall) (by decide +kernel)) (fun _ _ _ _ _ => pg_name (i := 12) scSmall.nd rfl (Or.inl rfl)) (fun _ _ _ _ _ => pts_nil) (fun _ _ _ _ _ => pe_int)) pa_nil)))) pa_nil))))
      (pss_cons (ps_for PassesOwn.never rfl (pi_list (pv 7)) (pg_name (i := 4) scSmall.nd rfl (Or.inl rfl)) (pss_one (ps_expr (pe_bm PySem.F.plainAttrs_list PySem.F.slot_list_append PySem.F.type_list_append mt_append (pv 4) (pa_cons pe_int pa_nil)))))
      (pss_cons (ps_expr (pe_bm PySem.F.plainAttrs_list PySem.F.slot_list_append PySem.F.type_list_append mt_append (pv 7) (pa_cons (pe_lst pa_nil) pa_nil)))
      (pss_cons (ps_if (pt_cmpR (op_neD hr.units) (pe_lst (pa_cons (pe_call GR (hr.mono (by decide)) rfl gRed FR.kp bR .nil pass0 (pa_cons (pv 1) (pa_cons (pv 3) pa_nil))) (pa_cons (pe_call GR (hr.mono (by decide)) rfl gRed FR.kp bR .nil pass0 (pa_cons (pv 1) (pa_cons (pv 10) pa_nil))) (pa_cons (pe_call GR (hr.mono (by decide)) rfl gRed FR.kp bR .nil pass0 (pa_cons (pv 1) (pa_cons (pv 9) pa_nil))) pa_nil))))
            (pe_lst (pa_cons (pv 9) (pa_cons (pv 9) (pa_cons (pv 9) pa_nil)))) (nomark _)) (pss_one (ps_ret pe_bl)) pss_nil)
      (C8.pss_cut (ps_if (PW.pt (pw_and (pt_cmpR (op_neD hr.units) (pv 3) (pe_lst pa_nil) (nomark _)) (pw_and1 (pt_not (pt_val (pe_callG GC hgd hr rfl gC FC.kp bC (pa_cons (pv 0) (pa_cons (pv 1) (pa_cons (pv 3) (pa_cons (pv 2) pa_nil)))))))))) (pss_one (ps_ret pe_bl)) pss_nil)
      (pss_cons (ps_setLc (i := 11) (own := [("_law_one", 4)]) (g := gName 4) (tt := tYes) (te := tCB (rLO K) (tCons (tVar 4) tNil)) rfl scSmall.nd rfl rfl (sw_true rfl rfl rfl (by decide +kernel)) (pi_list (pv 3))
            (blkOk_by (N := nSmall) (sc := defScope sSmall) (by decide +kernel)) (fun _ _ _ _ _ => pg_name (i := 4) scSmall.nd rfl (Or.inl rfl)) (fun _ _ _ _ _ => pts_nil) (fun _ _ _ _ _ => pe_callTy call_list_of (by rfl) gL boot_list2 (pa_cons (pv 4) pa_nil)))
      (pss_cons (ps_expr (pe_call GK hr rfl gK FK.kp bK .nil pass0 (pa_cons (pv 1) (pa_cons (pv 11) pa_nil))))
      (pss_cons (ps_expr (pe_call GT (hr.mono (by decide)) rfl gT FT.kp bT .nil pass0 (pa_cons (pv 11) (pa_cons (pe_slice sl_list (pv 9) po_none (po_some pe_int)) pa_nil))))
      (pss_one (ps_ret (pe_and (pe_cmpR (op_eqD hr.units) (pe_call GR (hr.mono (by decide)) rfl gRed FR.kp bR .nil pass0 (pa_cons (pv 1) (pa_cons (pv 11) pa_nil))) (pe_slice sl_list (pv 9) po_none (po_some pe_int)) (nomark _))
        (pe_one (pe_cmpR op_eq (pe_call GK hr rfl gK FK.kp bK .nil pass0 (pa_cons (pv 1) (pa_cons (pv 11) pa_nil))) (pe_callB call_len_seq (by rfl) gLen PySem.boot_len (pa_cons (pe_slice sl_list (pv 9) po_none (po_some pe_int)) pa_nil)) (nomark _)))))))))))))))))))))), ?_⟩
    -- 1
    refine ⟨_, rfl, by show 3 ≤ sizeLine; decide, fun l0 hl0 => ?_⟩
    have q0 := same_new (o := .lst [V.int 2, V.int 3, V.int 5]) hl0
    have na0 : a ≠ l0 := hp.ne hl0
    refine ⟨a, l0, _, t, rfl, hp.same q0, by omega, upd_same, Ne.symm na0, by decide, by decide, fun j x H1 hx b1 hp1 => ?_⟩
    obtain ⟨p, rfl, mgd, p5⟩ : ∃ p : Nat, x = V.int (p : Int) ∧ (p : Int) ∈ goods ∧ p ≤ 5 := by
      have m := List.mem_of_getElem? hx
      simp only [List.mem_cons, List.not_mem_nil, or_false] at m
      rcases m with rfl | rfl | rfl
      · exact ⟨2, rfl, by decide, by decide⟩
      · exact ⟨3, rfl, by decide, by decide⟩
      · exact ⟨5, rfl, by decide, by decide⟩
    obtain ⟨p2, p6, pr⟩ := good_prm mgd
    have p0 : 0 < p := by omega
    have bb1 : But a H H1 := (but_same q0).trans b1
    refine ⟨_, rfl, a, 3, t + 1, rfl, by decide, by decide, hp1, by omega, fun H2 d d0 d1 b2 hp2 => ?_⟩
    have bb2 := bb1.trans b2
    obtain ⟨L, eL, L3⟩ : ∃ L : Nat, (1 : Int) + d = (L : Int) ∧ L ≤ 3 := ⟨(1 + d).toNat, by omega, by omega⟩
    refine ⟨(1 : Int), d, rfl, rfl, V.int (p : Int), V.int (L : Int), by rw [← eL], ?_⟩
    -- 2
    refine ⟨_, rfl, _, rfl, _, rfl, a, 5, t + 1 + 1, rfl, by decide, by decide, hp2, by omega, fun H3 e e0 e1 b3 hp3 => ?_⟩
    obtain ⟨n, rfl⟩ : ∃ n : Nat, e = (n : Int) := ⟨e.toNat, by omega⟩
    refine ⟨_, rfl, a, p, n, L, t + 1 + 1 + 1, rfl, p2, p6, by omega, by omega, hp3, by omega, fun H4 v as T b4 hp4 nv hv hT vT lT frT => ?_⟩
    have bb3 := bb2.trans b3
    have bb4 := bb3.trans b4
    have nva : v ≠ a := (hp3.ne nv).symm
    have nas : ∀ b ∈ as, b ≠ a := fun b mb => (hp3.ne (frT b mb)).symm
    have T4 : T.length ≤ 4 := by omega
    -- 3
    refine ⟨_, rfl, v, rfl, ⟨_, SqL.of hv⟩, ?_⟩
    intro k hk
    refine lc_copy (by show 4 < 13; decide) hv hT hk (by omega) fun H5 ks s5 hk5 hks frk => ?_
    have hv5 := s5 _ _ hv
    have hT5 := rws_up hT s5
    have pw5 : ∀ i, i ≤ 5 → p ^ i ≤ 100000 := fun i hi => by
      have z1 : p ^ i ≤ 5 ^ i := Nat.pow_le_pow_left p5 i
      have z2 : 5 ^ i ≤ 5 ^ 5 := Nat.pow_le_pow_right (by decide) hi
      have z3 : 5 ^ 5 ≤ 100000 := by decide
      omega
    refine ⟨_, rfl, _, rfl, _, rfl, p, v, L, as, T, rfl, p2, p6, hv5, hT5, vT, by omega, pw5 _ (by omega), fun H6 y es S s6 ny hy hS span lS frS => ⟨_, _, rfl, ?_⟩⟩
    have s46 := same_trans s5 s6
    have hv6 := s46 _ _ hv
    have hT6 := rws_up hT s46
    -- 4
    refine ⟨_, rfl, _, rfl, p, v, L, as, T, rfl, mgd, hv6, hT6, vT, by omega, by omega, fun H7 h bs B tt ⟨s7, nh, hh, hB, frB, bas, lB⟩ => ?_⟩
    have lb := hB.len
    have B4 : B.length ≤ 4 := by omega
    -- 5
    refine ⟨_, rfl, p, L, h, bs, T, B, tt, rfl, hh, hB, bas, by omega, by omega, fun H8 s8 => ⟨_, rfl, iteF ?_⟩⟩
    have hh8 := s8 _ _ hh
    have hB8 := rws_up hB s8
    refine ⟨_, rfl, _, rfl, _, rfl, p, h, L, bs, B, rfl, p2, p6, hh8, hB8, bas.vec, by omega, pw5 _ (by omega), fun H9 z zs S2 s9 nz hz hS2 span2 lS2 frS2 => ⟨_, rfl, ?_⟩⟩
    have eS : S2 = S := span2.1.eq span.1 fun xs => by rw [span2.2, span.2, bas.same]
    have s69 := same_trans (same_trans s7 s8) s9
    have hy9 := s69 _ _ hy
    have hS9 := rws_up hS s69
    refine ne_mat hz hS2 hy9 hS9 ⟨_, rfl, ?_⟩
    rw [decide_eq_true eS]
    refine iteF ?_
    have s49 := same_trans s46 s69
    have hv9 := s49 _ _ hv
    have hT9 := rws_up hT s49
    have s59 := same_trans s6 s69
    have hk9 := s59 _ _ hk5
    have hks9 := rws_up hks s59
    refine ⟨_, rfl, _, rfl, ?_⟩
    refine ne_mat hv9 hT9 hk9 hks9 ⟨_, rfl, ?_⟩
    rw [decide_eq_true rfl]
    refine iteF ?_
    -- 6, 7
    have s79 := same_trans s8 s9
    have hh9 := s79 _ _ hh
    refine ⟨_, rfl, h, rfl, ⟨_, SqL.of hh9⟩, ?_⟩
    refine for_list (xs := bs.map V.ref) (fun i σ H' => H' = H9 ∧ ∃ u : Option V, σ = [some (.ref a), some (.int (p : Int)), some (.int (L : Int)), some (.ref v), u, some (.ref k), some (.ref y), some (.ref h), some (.int ((p ^ i : Nat) : Int)), none, none, none, none]) ⟨rfl, _, rfl⟩ (fun i σ H' _ z => by rw [z.1]; exact SqL.of hh9) ?_ ?_
    · rintro i x σ H' hx ⟨rfl, u, rfl⟩
      have i4 : i < 4 := by
        have z := (List.getElem?_eq_some_iff.mp hx).1
        rw [List.length_map] at z
        omega
      have pb := pw5 i (by omega)
      refine ⟨_, rfl, _, rfl, _, _, rfl, rfl, .inl ⟨by omega, by omega⟩, rfl, some x, ?_⟩
      have e : ((p ^ i : Nat) : Int) * (p : Int) = ((p ^ (i + 1) : Nat) : Int) := by
        rw [Nat.pow_succ, Int.natCast_mul]
      rw [← e]
      rfl
    rintro σ _ ⟨rfl, u, rfl⟩
    -- 8
    have eN : p ^ (bs.map V.ref).length = (es.map V.ref).length := by
      rw [List.length_map, List.length_map, hS.len, lb, bas.count (by omega) span]
    refine ⟨_, rfl, _, rfl, y, _, rfl, .inl (SqL.of hy9), rfl, _, rfl, ?_⟩
    rw [eN, int_ne rfl]
    refine iteF ?_
    refine ⟨_, rfl, _, rfl, p, v, L, as, T, rfl, mgd, hv9, hT9, vT, by omega, by omega, fun H10 B' t' s10 bas' => ?_⟩
    have eB' : B' = B := (bas'.uniq (by omega) bas fun _ => Iff.rfl).1
    subst eB'
    obtain ⟨g1, g2⟩ := show_int (x := (B'.length : Int)) (by omega) (by omega)
    have hh10 := s10 _ _ hh9
    refine ⟨_, .int (B'.length : Int), 0, rfl, .inr (.inr (.inl ⟨_, rfl, rfl⟩)), g1, by rw [PyData.depth]; decide, by rw [sizeLine_eq]; omega, ?_⟩
    refine ⟨_, rfl, h, _, rfl, .inl (SqL.of hh10), V.int ((bs.map V.ref).length : Int), .int (B'.length : Int), 0, rfl, .inr (.inr (.inl ⟨(B'.length : Int), by rw [List.length_map, lb], rfl⟩)), g1, by rw [PyData.depth]; decide, by rw [sizeLine_eq]; omega, rfl, _, rfl, ?_⟩
    have z1 : (!decide (V.str (PyData.int (B'.length : Int)).shown = V.str (PyData.int (B'.length : Int)).shown)) = false := by
      rw [decide_eq_true rfl]
      rfl
    rw [z1]
    refine iteF ?_
    -- 9
    refine ⟨_, rfl, h, rfl, ⟨_, SqL.of hh10⟩, ?_⟩
    intro d hd
    have s7_10 := same_trans s79 s10
    have hB10 := rws_up hB s7_10
    refine lc_copy (by show 4 < 13; decide) hh10 hB10 hd (by omega) fun H11 ds s11 hd11 hds frd => ?_
    have s4_11 := same_trans (same_trans s49 s10) s11
    have s6_11 := same_trans (same_trans s69 s10) s11
    have s7_11 := same_trans s7_10 s11
    have hv11 := s4_11 _ _ hv
    have hT11 := rws_up hT s4_11
    have hh11 := s11 _ _ hh10
    have hy11 := s6_11 _ _ hy
    have hS11 := rws_up hS s6_11
    have hp11 := hp4.same s4_11
    have nh4 : H4 h = none := s46.free nh
    have frB4 : ∀ b ∈ bs, H4 b = none := fun b mb => s46.free (frB b mb)
    have nha : h ≠ a := (hp4.ne nh4).symm
    have nda : d ≠ a := (((hp4.same s49).same s10).ne hd).symm
    have nya : y ≠ a := ((hp4.same s5).ne ny).symm
    have frda : ∀ c ∈ ds, c ≠ a := fun c mc => (((hp4.same s49).same s10).ne (frd c mc)).symm
    have zS : List.replicate L 0 ∈ S := (span.2 _).mpr (zeros_inS (by omega) vT)
    have S0 : 0 < S.length := List.length_pos_of_mem zS
    have Sle : S.length ≤ 100000 := Nat.le_trans lS (pw5 _ (by omega))
    have les := hS.len
    -- 10
    refine ⟨fun σ H' => ∃ (u w1 : Option V) (mm : Addr) (ms : List Addr) (M : List (List Int)), σ = [some (.ref a), some (.int (p : Int)), some (.int (L : Int)), some (.ref v), u, some (.ref k), some (.ref y), some (.ref h), w1, some (.ref d), some (.ref mm), none, none] ∧
        But a H11 H' ∧ Pur H' a (t + 220) ∧ mm ≠ h ∧ mm ∉ bs ∧ H' mm = some (.lst (ms.map V.ref)) ∧ Rws H' ms M ∧ (∀ b ∈ ms, b ∉ bs ∧ b ≠ h) ∧ M.length ≤ 10 ∧ (∀ xs ∈ M, Vc (p : Int) L xs) ∧ ∀ xs, InS p L M xs ↔ InS p L T xs, ?_, ?_⟩
    · have slarge : es.length < 100000 := by
        have z1 := pw5 T.length (by omega)
        have z2 : p ^ T.length ≤ 5 ^ 4 := Nat.le_trans (Nat.pow_le_pow_left p5 _) (Nat.pow_le_pow_right (by decide) T4)
        have z3 : 5 ^ 4 < 100000 := by decide
        omega
      refine ⟨_, rfl, _, rfl, _, rfl, _, rfl, a, y, es.map V.ref, _, rfl, hp11, by omega, hy11, nya, by rw [List.length_map]; omega, by rw [List.length_map]; exact slarge, fun j x H12 hx b12 hp12 => ?_⟩
      obtain ⟨e0, ev, rfl, he0, mev, _, he0m⟩ := rws_at hS11 hx
      have me0 : e0 ∈ es := List.mem_of_getElem? he0m
      refine ⟨_, rfl, (L : Int), rfl, by omega, by omega, ?_⟩
      intro Z hZ
      rw [Int.toNat_natCast]
      have naZ : a ≠ Z := hp12.ne hZ
      have tr : ∀ x o, H11 x = some o → x ≠ a → H12 x = some o := fun x o e n => b12 x n o e
      refine lc_range (lo := 0) (n := L) (fun i H' => Same H12 H' ∧ H' Z = some (.lst ((List.replicate i (0 : Int)).map V.int))) ⟨same_new hZ, upd_same⟩ ?_ ?_
      · rintro i H' hi ⟨sm, hZl⟩
        refine ⟨rfl, tyes ?_⟩
        refine ⟨_, hZl, by rw [List.length_map, List.length_replicate, sizeLine_eq]; omega, same_set sm hZ, ?_⟩
        rw [upd_same, List.replicate_succ', List.map_append]
        rfl
      · rintro H13 ⟨s13, hZ13⟩
        refine ⟨by show 2 ≤ sizeLine; decide, fun l hl => ?_⟩
        have sl := same_new (o := .lst [V.ref e0, V.ref Z]) hl
        have hv12 := b12 v nva _ hv11
        have s12l := same_trans s13 sl
        refine ⟨v, l, _, _, rfl, rfl, s12l _ _ hv12, upd_same, by rw [List.length_map, hT.len, sizeLine_eq]; show T.length + 2 ≤ _; omega, fun q hq => ?_⟩
        have eq1 : as.map V.ref ++ [V.ref e0, V.ref Z] = (as ++ [e0, Z]).map V.ref := by rw [List.map_append]; rfl
        have sq := same_new (o := .lst (as.map V.ref ++ [V.ref e0, V.ref Z])) hq
        have s12q := same_trans s12l sq
        have hpq := hp12.same s12q
        have naq : a ≠ q := ((hp12.same s12l)).ne hq
        have lenq : (as.map V.ref ++ [V.ref e0, V.ref Z]).length = T.length + 2 := by rw [List.length_append, List.length_map, hT.len]; rfl
        refine ⟨a, q, _, _, rfl, upd_same, Ne.symm naq, by rw [lenq]; omega, hpq, by omega, fun H14 mm ys b14 hp14 nmm hmm pm => ?_⟩
        rw [eq1] at pm
        obtain ⟨ms, rfl, pms⟩ := unrefs pm
        have bq : But a H11 H14 := (b12.trans (but_same s12q)).trans b14
        have hT14 : Rws H14 as T := but_rws bq hT11 nas
        have ne0 : e0 ≠ a := by
          have z1 : H5 e0 = none := frS e0 me0
          exact ((hp4.same s5).ne z1).symm
        have he14 : Rw H14 e0 ev := bq e0 ne0 _ he0
        have hZ14 : Rw H14 Z (List.replicate L 0) := b14 Z (Ne.symm naZ) _ (sq _ _ (sl _ _ hZ13))
        obtain ⟨M, hM, pM⟩ := rws_perm pms (rws_append hT14 (.cons he14 (.cons hZ14 .nil)))
        obtain ⟨vM, iM⟩ := inS_more (p := p) (L := L) (by omega) vT pM (fun xs m => by
          rcases List.mem_cons.mp m with z | z
          · rw [z]
            exact (span.2 ev).mp mev
          · rw [List.mem_singleton.mp z]
            exact zeros_inS (by omega) vT)
        have trb : ∀ x, (∃ o, H6 x = some o) → x ∉ bs ∧ x ≠ h := by
          intro x ⟨o, e⟩
          constructor
          · intro m
            rw [frB x m] at e
            cases e
          · intro m
            rw [m, nh] at e
            cases e
        -- what is new behind H11 is no row of the heard one
        have new12 : ∀ x, H12 x = none → x ∉ bs ∧ x ≠ h := by
          intro x e
          constructor
          · intro m
            have na : x ≠ a := (hp4.ne (frB4 x m)).symm
            obtain ⟨o, z⟩ := rws_some (rws_up hB s7_11) m
            rw [tr x o z na] at e
            cases e
          · intro m
            rw [m, tr h _ hh11 nha] at e
            cases e
        refine ⟨_, _, mm, ms, M, rfl, bq, hp14.mono (by rw [lenq]; omega), ?_, ?_, hmm, hM, fun b mb => ?_, ?_, vM, iM⟩
        · exact (new12 mm (s12q.free nmm)).2
        · exact (new12 mm (s12q.free nmm)).1
        · rcases List.mem_append.mp (pms.mem_iff.mp mb) with z | z
          · exact trb b (rws_some hT6 z)
          · rcases List.mem_cons.mp z with z | z
            · rw [z]
              exact trb e0 (rws_some hS me0)
            · rw [List.mem_singleton.mp z]
              exact new12 Z hZ
        · rw [pM.length_eq, List.length_append]
          show T.length + 2 ≤ 10
          omega
    rintro σ H14 ⟨u, w1, mm, ms, M, rfl, b14, hp14, nmh, nmb, hmm, hM, fms, lM, vM, iM⟩
    -- what stands at H14, beside the rows of the heard one
    have nvb : v ∉ bs := fun m => by
      have z := frB v m
      rw [hv6] at z
      cases z
    have nvh : v ≠ h := ne_of_none hv6 nh
    have nab : a ∉ bs := fun m => (hp4.ne (frB4 a m)) rfl
    have nasb : ∀ b ∈ as, b ∉ bs ∧ b ≠ h := fun b mb => by
      obtain ⟨o, z⟩ := rws_some hT6 mb
      constructor
      · intro m
        rw [frB b m] at z
        cases z
      · intro m
        rw [m, nh] at z
        cases z
    have ndb : d ∉ bs := fun m => by
      obtain ⟨o, z⟩ := rws_some hB10 m
      rw [hd] at z
      cases z
    have ndh : d ≠ h := (ne_of_none hh10 hd).symm
    have ndsb : ∀ b ∈ ds, b ∉ bs ∧ b ≠ h := fun b mb => by
      constructor
      · intro m
        obtain ⟨o, z⟩ := rws_some hB10 m
        rw [frd b mb] at z
        cases z
      · intro m
        have z := frd b mb
        rw [m, hh10] at z
        cases z
    have hh14 : H14 h = some (.lst (bs.map V.ref)) := b14 h nha _ hh11
    have hB14 : Rws H14 bs B' := but_rws b14 (rws_up hB s7_11) (fun b mb => (hp4.ne (frB4 b mb)).symm)
    have nbh : ∀ b ∈ bs, b ≠ h := rws_ne hh14 hB14
    have hv14 : H14 v = some (.lst (as.map V.ref)) := b14 v nva _ hv11
    have hT14 : Rws H14 as T := but_rws b14 hT11 nas
    have hd14 : H14 d = some (.lst (ds.map V.ref)) := b14 d nda _ hd11
    have hds14 : Rws H14 ds B' := but_rws b14 hds frda
    -- 11
    refine ⟨_, rfl, h, rfl, ⟨_, SqL.of hh14⟩, ?_⟩
    refine for_list (xs := bs.map V.ref) (fun i σ H' => (∃ u : Option V, σ = [some (.ref a), some (.int (p : Int)), some (.int (L : Int)), some (.ref v), u, some (.ref k), some (.ref y), some (.ref h), w1, some (.ref d), some (.ref mm), none, none]) ∧
        (∀ x, x ∉ bs → ∀ o, H14 x = some o → H' x = some o) ∧ ∀ b ∈ bs, ∃ ys : List Int, Rw H' b ys ∧ ys.length ≤ L + i) ⟨⟨_, rfl⟩, fun x _ o e => e, fun b mb => ?_⟩ (fun i σ H' _ z => SqL.of (z.2.1 h (fun m => nbh h m rfl) _ hh14)) ?_ ?_
    · obtain ⟨i, hi, e⟩ := List.mem_iff_getElem.mp mb
      have hx : (bs.map V.ref)[i]? = some (V.ref b) := by rw [List.getElem?_map, List.getElem?_eq_getElem hi, e]; rfl
      obtain ⟨c, xs, e1, r, m1, _, _⟩ := rws_at hB14 hx
      cases e1
      exact ⟨xs, r, by have := (bas.vec xs m1).1; omega⟩
    · rintro i x σ H' hx ⟨⟨u, rfl⟩, keep, rowsB⟩
      have i4 : i < 4 := by
        have z := (List.getElem?_eq_some_iff.mp hx).1
        rw [List.length_map] at z
        omega
      obtain ⟨b, rfl, mb⟩ : ∃ b, x = V.ref b ∧ b ∈ bs := by
        obtain ⟨b, mb, e⟩ := List.mem_map.mp (List.mem_of_getElem? hx)
        exact ⟨b, e.symm, mb⟩
      obtain ⟨ys, ry, ly⟩ := rowsB b mb
      have ry' : H' b = some (.lst (ys.map V.int)) := ry
      refine ⟨_, rfl, .inl ⟨rfl, _, SqL.of ry'⟩, b, _, _, rfl, rfl, ry', by rw [List.length_map, sizeLine_eq]; omega, ⟨_, rfl⟩, fun x nx o e => ?_, fun c mc => ?_⟩
      · have n : x ≠ b := fun q => nx (by rw [q]; exact mb)
        exact (upd_ne n).trans (keep x nx o e)
      · by_cases q : c = b
        · subst q
          refine ⟨ys ++ [0], ?_, by rw [List.length_append]; show ys.length + 1 ≤ _; omega⟩
          show upd H' c _ c = _
          rw [upd_same, List.map_append]
          rfl
        · obtain ⟨zs, rz, lz⟩ := rowsB c mc
          exact ⟨zs, (upd_ne q).trans rz, by omega⟩
    rintro σ H15 ⟨⟨u, rfl⟩, keep, _⟩
    have hh15 : H15 h = some (.lst (bs.map V.ref)) := keep h (fun m => nbh h m rfl) _ hh14
    -- 12
    refine ⟨_, rfl, .inl ⟨rfl, _, SqL.of hh15⟩, by show 0 ≤ sizeLine; omega, fun l hl => ?_⟩
    have sl := same_new (o := .lst []) hl
    have hhl := sl _ _ hh15
    refine ⟨h, _, _, rfl, rfl, hhl, by rw [List.length_map, sizeLine_eq]; omega, ?_⟩
    have keep2 : ∀ x, x ∉ bs → x ≠ h → ∀ o, H14 x = some o → upd (upd H15 l (.lst [])) h (.lst (bs.map V.ref ++ [V.ref l])) x = some o := fun x nx nxh o e => (upd_ne nxh).trans (sl _ _ (keep x nx o e))
    generalize upd (upd H15 l (.lst [])) h (.lst (bs.map V.ref ++ [V.ref l])) = H16 at keep2 ⊢
    have keepR : ∀ {cs : List Addr} {U : List (List Int)}, Rws H14 cs U → (∀ b ∈ cs, b ∉ bs ∧ b ≠ h) → Rws H16 cs U := fun r n => r.mono fun b mb o e => keep2 b (n b mb).1 (n b mb).2 o e
    have hv16 := keep2 v nvb nvh _ hv14
    have hT16 := keepR hT14 nasb
    have hd16 := keep2 d ndb ndh _ hd14
    have hds16 := keepR hds14 ndsb
    have hmm16 := keep2 mm nmb nmh _ hmm
    have hM16 := keepR hM fms
    have hp16 : Pur H16 a (t + 220) := by
      obtain ⟨q1, q2, q3, q4, z, y1, y2⟩ := hp14
      exact ⟨q1, q2, q3, q4, keep2 a nab (Ne.symm nha) _ z, y1, y2⟩
    have b16 : But a H H16 := fun x nx o e => by
      have z1 := s4_11 _ _ (bb4 x nx o e)
      have z0 := bb4 x nx o e
      refine keep2 x (fun m => ?_) (fun m => ?_) o (b14 x nx o z1)
      · rw [frB4 x m] at z0
        cases z0
      · rw [m, nh4] at z0
        cases z0
    -- 13
    refine ⟨_, rfl, _, rfl, p, v, L, as, T, rfl, mgd, hv16, hT16, vT, by omega, by omega, fun H17 r1 c1 B1 t1 ⟨s17, nr1, hr1, hB1, _, bas1, _⟩ => ?_⟩
    refine ⟨_, rfl, _, rfl, p, mm, L, ms, M, rfl, mgd, s17 _ _ hmm16, rws_up hM16 s17, vM, by omega, by omega, fun H18 r2 c2 B2 t2 ⟨s18, nr2, hr2, hB2, _, bas2, _⟩ => ?_⟩
    have s78 := same_trans s17 s18
    refine ⟨_, rfl, _, rfl, p, d, L, ds, B', rfl, mgd, s78 _ _ hd16, rws_up hds16 s78, bas.vec, by omega, by omega, fun H19 r3 c3 B3 t3 ⟨s19, nr3, hr3, hB3, _, bas3, _⟩ => ?_⟩
    refine ⟨by show 3 ≤ sizeLine; decide, fun l1 hl1 => ⟨_, rfl, _, rfl, _, rfl, by show 3 ≤ sizeLine; decide, fun l2 hl2 => ?_⟩⟩
    have sa := same_new (o := .lst [V.ref r1, V.ref r2, V.ref r3]) hl1
    have sb := same_new (o := .lst [V.ref d, V.ref d, V.ref d]) hl2
    have sab := same_trans sa sb
    have s9b := same_trans s19 sab
    have s8b := same_trans s18 s9b
    have s7b := same_trans s17 s8b
    have e1 : B1 = B' := (bas1.uniq (by omega) bas fun _ => Iff.rfl).1
    have e2 : B2 = B' := (bas2.uniq (by omega) bas iM).1
    have e3 : B3 = B' := (bas3.uniq (by omega) bas bas.same).1
    have md : Mt (upd (upd H19 l1 (.lst [V.ref r1, V.ref r2, V.ref r3])) l2 (.lst [V.ref d, V.ref d, V.ref d])) d B' := ⟨ds, s7b _ _ hd16, rws_up hds16 s7b⟩
    refine ne_mats (sb _ _ upd_same) upd_same ⟨c1, s8b _ _ hr1, rws_up hB1 s8b⟩ ⟨c2, s9b _ _ hr2, rws_up hB2 s9b⟩ ⟨c3, sab _ _ hr3, rws_up hB3 sab⟩ md md md ⟨_, rfl, ?_⟩
    rw [e1, e2, e3, decide_eq_true rfl]
    refine iteF ?_
    generalize upd (upd H19 l1 (.lst [V.ref r1, V.ref r2, V.ref r3])) l2 (.lst [V.ref d, V.ref d, V.ref d]) = H20 at s7b ⊢
    have b20 : But a H H20 := b16.trans (but_same s7b)
    have hv20 := s7b _ _ hv16
    have hT20 := rws_up hT16 s7b
    have hd20 := s7b _ _ hd16
    have hds20 := rws_up hds16 s7b
    have hp20 := hp16.same s7b
    -- 14
    refine ⟨fun σ H' => (∃ u : Option V, σ = [some (.ref a), some (.int (p : Int)), some (.int (L : Int)), some (.ref v), u, some (.ref k), some (.ref y), some (.ref h), w1, some (.ref d), some (.ref mm), none, none]) ∧ But a H20 H' ∧ Pur H' a (t + 250), ?_, ?_⟩
    · refine ⟨_, rfl, by show 0 ≤ sizeLine; omega, fun l hl => ?_⟩
      have sz := same_new (o := .lst []) hl
      refine ne_mat (sz _ _ hv20) (rws_up hT20 sz) (bs := []) (T := []) upd_same .nil ⟨_, rfl, ?_⟩
      by_cases T0 : T = []
      · rw [decide_eq_true T0]
        exact iteF (iteF ⟨⟨_, rfl⟩, but_same sz, (hp20.same sz).mono (by omega)⟩)
      · rw [decide_eq_false T0]
        refine iteT ?_
        have Tpos : 0 < T.length := List.length_pos_iff.mpr T0
        refine ⟨_, rfl, _, rfl, _, rfl, _, rfl, a, v, p, L, t + 220, as, T, rfl, mgd, sz _ _ hv20, rws_up hT20 sz, vT, by omega, Tpos, by omega, hp20.same sz, by omega, nva, nas, fun H21 b21 hp21 => ⟨_, rfl, iteF ⟨⟨_, rfl⟩, (but_same sz).trans b21, hp21.mono (by omega)⟩⟩⟩
    rintro σ H21 ⟨⟨u2, rfl⟩, b21, hp21⟩
    have hv21 : H21 v = some (.lst (as.map V.ref)) := b21 v nva _ hv20
    have hT21 : Rws H21 as T := but_rws b21 hT20 nas
    have hd21 : H21 d = some (.lst (ds.map V.ref)) := b21 d nda _ hd20
    have hds21 : Rws H21 ds B' := but_rws b21 hds20 frda
    -- 15
    refine ⟨_, rfl, v, rfl, ⟨_, SqL.of hv21⟩, ?_⟩
    intro g hg
    refine lc_copy (by show 4 < 13; decide) hv21 hT21 hg (by omega) fun H22 gs s22 hg22 hgs _ => ?_
    -- 16
    refine ⟨_, rfl, _, rfl, p, g, L, gs, T, rfl, mgd, hg22, hgs, vT, by omega, by omega, fun H23 B4' t4 s23 bas4 => ?_⟩
    -- 17
    have s13' := same_trans s22 s23
    have hg23 := s23 _ _ hg22
    have hd23 := s13' _ _ hd21
    have hds23 := rws_up hds21 s13'
    have ec : cutV (ds.map V.ref) none (some (1 : Int)) = (ds.take 1).map V.ref := by
      rw [show (1 : Int) = ((1 : Nat) : Int) from rfl, cut_take, List.map_take]
    refine ⟨_, rfl, _, rfl, _, rfl, d, _, rfl, SqL.of hd23, fun w hw => ?_⟩
    rw [ec]
    have sw := same_new (o := .lst ((ds.take 1).map V.ref)) hw
    have ngw : g ≠ w := ne_of_none hg23 hw
    refine ⟨g, w, _, _, rfl, sw _ _ hg23, upd_same, ngw, by rw [List.length_map, List.length_take]; omega, ?_⟩
    -- the given one is new
    have ndg : d ≠ g := ne_of_none hd21 hg
    have keep3 : ∀ x o, H21 x = some o → upd (upd H23 w (.lst ((ds.take 1).map V.ref))) g (.lst ((ds.take 1).map V.ref)) x = some o := fun x o e => (upd_ne (ne_of_none e hg)).trans (sw _ _ (s13' _ _ e))
    have hg25 : upd (upd H23 w (.lst ((ds.take 1).map V.ref))) g (.lst ((ds.take 1).map V.ref)) g = some (.lst ((ds.take 1).map V.ref)) := upd_same
    generalize upd (upd H23 w (.lst ((ds.take 1).map V.ref))) g (.lst ((ds.take 1).map V.ref)) = H25 at keep3 hg25 ⊢
    have hd25 := keep3 _ _ hd21
    have hds25 : Rws H25 ds B' := hds21.mono fun b _ o e => keep3 b o e
    have btk := bas_take bas
    have v1 : ∀ xs ∈ B'.take 1, Vc (p : Int) L xs := btk.vec
    have l1' : (B'.take 1).length ≤ 1 := by rw [List.length_take]; omega
    have ht25 := rws_take hds25 1
    -- 18
    refine ⟨_, rfl, _, rfl, p, g, L, ds.take 1, B'.take 1, rfl, mgd, hg25, ht25, v1, by omega, by omega, fun H26 r6 c6 B6 t6 ⟨s26, _, hr6, hB6, _, bas6, _⟩ => ?_⟩
    refine ⟨_, rfl, _, rfl, d, _, rfl, SqL.of (s26 _ _ hd25), fun w2 hw2 => ?_⟩
    rw [ec]
    have sw2 := same_new (o := .lst ((ds.take 1).map V.ref)) hw2
    have s2w := same_trans s26 sw2
    refine eq_mat (sw2 _ _ hr6) (rws_up hB6 sw2) upd_same (rws_up ht25 s2w) ⟨_, rfl, ?_⟩
    have e6 : B6 = B'.take 1 := (bas6.uniq (by omega) btk fun _ => Iff.rfl).1
    rw [decide_eq_true e6]
    refine iteT ?_
    refine ⟨_, rfl, _, rfl, p, g, L, ds.take 1, B'.take 1, rfl, mgd, s2w _ _ hg25, rws_up ht25 s2w, v1, by omega, by omega, fun H27 B7 t7 s27 bas7 => ?_⟩
    have s27' := same_trans s2w s27
    refine ⟨_, rfl, _, rfl, d, _, rfl, SqL.of (s27' _ _ hd25), fun w3 hw3 => ?_⟩
    have sw3 := same_new (o := .lst (cutV (ds.map V.ref) none (some (1 : Int)))) hw3
    refine ⟨w3, _, rfl, .inl (SqL.of upd_same), rfl, ?_⟩
    have e7 : B7 = B'.take 1 := (bas7.uniq (by omega) btk fun _ => Iff.rfl).1
    have e8 : decide (V.int (B7.length : Int) = V.int ((cutV (ds.map V.ref) none (some (1 : Int))).length : Int)) = true := by
      rw [ec, e7, List.length_map, ht25.len]
      exact decide_eq_true rfl
    have fin : Q (.bl true) (upd H27 w3 (.lst (cutV (ds.map V.ref) none (some (1 : Int))))) := by
      have sF := same_trans s27' sw3
      refine want _ (fun x nx o e => ?_) ?_
      · exact sF _ _ (keep3 x o (b21 x nx o (b20 x nx o e)))
      · obtain ⟨q1, q2, q3, q4, z, y1, y2⟩ := hp21
        exact ⟨q1, q2, q3, q4, sF _ _ (keep3 a _ z), y1, by omega⟩
    show Q (.bl (decide (V.int (B7.length : Int) = V.int ((cutV (ds.map V.ref) none (some (1 : Int))).length : Int)))) _
    rw [e8]
    exact fin
end
end Vb
end L2

set_option Elab.async false
set_option linter.all false
set_option maxRecDepth 100000
set_option maxHeartbeats 8000000
/-! Vb, part 29: great_right. -/
namespace L2
namespace Vb
open PySem PySem.Spec PyProof.Rows
open LinA (sumZ Bas InS)
abbrev sGreat : Stmt := topS 49
abbrev nGreat : List Str := ["_law_purse_here", "_law_prime", "_law_length", "_law_vectors_here", "_law_basis", "_law_tops", "_law_vector", "_law_some", "_law_place", "_law_one", "_law_turn"]
def scTopsO : Scope := { kind := .function, names := [(Str.ofString ".0", .local), (Str.ofString "_law_one", .cell), (Str.ofString "range", .globalImplicit), (Str.ofString "_law_length", .cell)], isGenerator := false, isCoroutine := false }
def scTopsI : Scope := { kind := .function, names := [(Str.ofString ".0", .local), (Str.ofString "_law_place", .local), (Str.ofString "_law_one", .free)], isGenerator := false, isCoroutine := false }
theorem blk_tops : BlkOk nGreat scTopsO scTopsI [("_law_place", 8)] := blkOk_by (by decide +kernel)
section
variable {P : Program} {w : World} {K : PySem.W.Frag} {mg : Str → Option Value} {base : Heap}
def spGreat : Sp := fun vs H Q _ => ∃ (a : Addr) (t : Nat), vs = [.ref a] ∧ Pur H a t ∧ t ≤ 450 ∧ ∀ H', But a H H' → Pur H' a (t + 400) → Q (.bl true) H'
theorem scGreat : FnScope nGreat ["_law_purse_here"] (defScope sGreat) := ⟨rfl, rfl, rfl, by decide +kernel, rfl, by decide +kernel, by decide +kernel⟩
theorem ok_great {f fO fD fV fR fI fK fH fM fN : Addr} {fd fdO fdD fdV fdR fdI fdK fdH fdM fdN : FuncData} (F : Fun K "_law_great_right" "_law_great_right" sGreat f fd)
    (FO : Fun K "_law_one_of" "_law_one_of" sOneOf fO fdO) (GO : FnOk P w K mg base CX0 3 fO fdO ["_law_purse_here", "_law_some"] spOneOf) (gO : mg "_law_one_of" = some (.ref fO))
    (FD : Fun K "_law_draw" "_law_draw" sDraw fD fdD) (GD : FnOk P w K mg base CX0 2 fD fdD ["_law_purse_here", "_law_many"] spDraw) (gD : mg "_law_draw" = some (.ref fD))
    (FV : Fun K "_law_vectors" "_law_vectors" sVecs fV fdV) (GV : FnOk P w K mg base CX0 4 fV fdV ["_law_purse_here", "_law_prime", "_law_many", "_law_length"] spVecs) (gV : mg "_law_vectors" = some (.ref fV))
    (FR : Fun K "reduced" "reduced" sRed fR fdR) (GR : FnOk P w K mg base CX0 6 fR fdR ["prime", "vectors"] spRed) (gRed : mg "reduced" = some (.ref fR))
    (FI : Fun K "_law_is_reduced" "_law_is_reduced" sIsRed fI fdI) (GI : FnOk P w K mg base CX0 1 fI fdI ["_law_basis"] spIsRed) (gI : mg "_law_is_reduced" = some (.ref fI))
    (FK : Fun K "rank" "rank" sRank fK fdK) (GK : FnOk P w K mg base CX0 7 fK fdK ["prime", "vectors"] spRank) (gK : mg "rank" = some (.ref fK))
    (FH : Fun K "_law_shuffled" "_law_shuffled" sShuf fH fdH) (GH : FnOk P w K mg base CX0 3 fH fdH ["_law_purse_here", "_law_some"] spShuf) (gH : mg "_law_shuffled" = some (.ref fH))
    (FM : Fun K "_law_sum_of" "_law_sum_of" sSumOf fM fdM) (GM : FnOk P w K mg base CX0 1 fM fdM ["_law_prime", "_law_vectors_here", "_law_factors", "_law_length"] spSumOf) (gM : mg "_law_sum_of" = some (.ref fM))
    (FN : Fun K "_law_numbers" "_law_numbers" sNums fN fdN) (GN : FnOk P w K mg base CX0 3 fN fdN ["_law_purse_here", "_law_prime", "_law_many"] spNums) (gN : mg "_law_numbers" = some (.ref fN))
    (gLen : mg "len" = none) (gR : mg "range" = none) : FnOk P w K mg base CX0 8 f fd ["_law_purse_here"] spGreat := by
  have bO : Binds K fdO ["_law_purse_here", "_law_some"] [] := FO.binds fun _ _ _ _ _ _ us hl => match us, hl with | [_, _], _ => rfl
  have bD : Binds K fdD ["_law_purse_here", "_law_many"] [] := FD.binds fun _ _ _ _ _ _ us hl => match us, hl with | [_, _], _ => rfl
  have bV : Binds K fdV ["_law_purse_here", "_law_prime", "_law_many", "_law_length"] [] := FV.binds fun _ _ _ _ _ _ us hl => match us, hl with | [_, _, _, _], _ => rfl
  have bR : Binds K fdR ["prime", "vectors"] [] := FR.binds fun _ _ _ _ _ _ us hl => match us, hl with | [_, _], _ => rfl
  have bI : Binds K fdI ["_law_basis"] [] := FI.binds fun _ _ _ _ _ _ us hl => match us, hl with | [_], _ => rfl
  have bK : Binds K fdK ["prime", "vectors"] [] := FK.binds fun _ _ _ _ _ _ us hl => match us, hl with | [_, _], _ => rfl
  have bH : Binds K fdH ["_law_purse_here", "_law_some"] [] := FH.binds fun _ _ _ _ _ _ us hl => match us, hl with | [_, _], _ => rfl
  have bM : Binds K fdM ["_law_prime", "_law_vectors_here", "_law_factors", "_law_length"] [] := FM.binds fun _ _ _ _ _ _ us hl => match us, hl with | [_, _, _, _], _ => rfl
  have bN : Binds K fdN ["_law_purse_here", "_law_prime", "_law_many"] [] := FN.binds fun _ _ _ _ _ _ us hl => match us, hl with | [_, _, _], _ => rfl
  refine F.ok scGreat (fun vs H Q E h => ?_) (fun cdv A outer s0 H vs Q E hr h => ?_)
  · obtain ⟨a, t, rfl, _⟩ := h
    rfl
  · obtain ⟨a, t, rfl, hp, t1, want⟩ := h
    refine ⟨_, pss_cons (ps_asg (pe_tup (pa_cons (pe_call GO (hr.mono (by decide)) rfl gO FO.kp bO .nil pass0 (pa_cons (pv 0) (pa_cons (pe_lst (pa_cons pe_int (pa_cons pe_int (pa_cons pe_int pa_nil)))) pa_nil)))
          (pa_cons (pe_op op_add pe_int (pe_call GD (hr.mono (by decide)) rfl gD FD.kp bD .nil pass0 (pa_cons (pv 0) (pa_cons pe_int pa_nil)))) pa_nil)))
          (pg_tup rfl (pgs_cons (pg_name (i := 1) scGreat.nd rfl (Or.inr rfl)) (pgs_cons (pg_name (i := 2) scGreat.nd rfl (Or.inr rfl)) pgs_nil))))
      (pss_cons (ps_set (i := 3) scGreat.nd rfl (Or.inl rfl) (pe_call GV (hr.mono (by decide)) rfl gV FV.kp bV .nil pass0 (pa_cons (pv 0) (pa_cons (pv 1) (pa_cons (pe_op op_add pe_int (pe_call GD (hr.mono (by decide)) rfl gD FD.kp bD .nil pass0 (pa_cons (pv 0) (pa_cons pe_int pa_nil)))) (pa_cons (pv 2) pa_nil))))))
      (pss_cons (ps_set (i := 4) scGreat.nd rfl (Or.inr rfl) (pe_call GR (hr.mono (by decide)) rfl gRed FR.kp bR .nil pass0 (pa_cons (pv 1) (pa_cons (pv 3) pa_nil))))
      (pss_cons (ps_if (PW.pt (pw_or (pt_not (pt_val (pe_call GI (hr.mono (by decide)) rfl gI FI.kp bI .nil pass0 (pa_cons (pv 4) pa_nil)))) (pw_or1 (pt_cmpR op_ne (pe_call GK hr rfl gK FK.kp bK .nil pass0 (pa_cons (pv 1) (pa_cons (pv 3) pa_nil))) (pe_callB call_len_seq (by rfl) gLen PySem.boot_len (pa_cons (pv 4) pa_nil)) (nomark _)))))
          (pss_one (ps_ret pe_bl)) pss_nil)
      (pss_cons (ps_setLc (i := 5) (own := [("_law_one", 9)]) (g := gName 9) (tt := tYes) (te := tOp (rIxL K) (tLc (iRng1 (tCons (tVar 2) tNil)) (gName 8) (tTest (tOp rNe (tOp (rIxL K) (tVar 9) (tVar 8)) (tC (.int 0)))) (tVar 8) [8]) (tC (.int 0))) rfl scGreat.nd rfl rfl (sw_true rfl rfl rfl (by decide +kernel)) (pi_list (pv 4))
            (blkOk_by (N := nGreat) (sc := defScope sGreat) (by decide +kernel)) (fun _ _ _ _ _ => pg_name (i := 9) scGreat.nd rfl (Or.inr rfl)) (fun _ _ _ _ _ => pts_nil)
            (fun _ _ _ _ _ => pe_ix ix_list (pe_lc (own := [("_law_place", 8)]) (g := gName 8) (tt := tTest (tOp rNe (tOp (rIxL K) (tVar 9) (tVar 8)) (tC (.int 0)))) (te := tVar 8) rfl scGreat.nd (pi_range1 rfl gR (pa_cons (pv 2) pa_nil))
              blk_tops (fun _ _ _ _ _ => pg_name (i := 8) scGreat.nd rfl (Or.inl rfl)) (fun _ _ _ _ _ => pts_one (pt_cmpR op_ne (pe_ix ix_list (pv 9) (pv 8) (fun _ _ => rfl)) pe_int (nomark _))) (fun _ _ _ _ _ => pv 8)) pe_int (fun _ _ => rfl)))
      (pss_cons (ps_for PassesOwn.never rfl (pi_list (pv 3)) (pg_name (i := 6) scGreat.nd rfl (Or.inr rfl))
        (pss_one (ps_if (pt_cmpR (op_neD hr.units) (pe_call GM (hr.mono (by decide)) rfl gM FM.kp bM .nil pass0 (pa_cons (pv 1) (pa_cons (pv 4) (pa_cons (pe_lc (own := [("_law_place", 8)]) (g := gName 8) (tt := tYes) (te := tOp (rIxL K) (tVar 6) (tVar 8)) rfl scGreat.nd (pi_list (pv 5))
            (blkOk_by (N := nGreat) (sc := defScope sGreat) (by decide +kernel)) (fun _ _ _ _ _ => pg_name (i := 8) scGreat.nd rfl (Or.inl rfl)) (fun _ _ _ _ _ => pts_nil) (fun _ _ _ _ _ => pe_ix ix_list (pv 6) (pv 8) (fun _ _ => rfl))) (pa_cons (pv 2) pa_nil))))) (pv 6) (nomark _)) (pss_one (ps_ret pe_bl)) pss_nil)))
      (pss_cons (ps_setLc (i := 7) (own := [("_law_turn", 10)]) (g := gName 10) (tt := tYes) (te := tCall spSumOf [] E0 (tCons (tVar 1) (tCons (tVar 4) (tCons (tCall spNums [] E0 (tCons (tVar 0) (tCons (tVar 1) (tCons (tCB (rLenQ K) (tCons (tVar 4) tNil)) tNil)))) (tCons (tVar 2) tNil))))) rfl scGreat.nd rfl rfl (sw_true rfl rfl rfl (by decide +kernel)) (pi_range1 rfl gR (pa_cons pe_int pa_nil))
            (blkOk_by (N := nGreat) (sc := defScope sGreat) (by decide +kernel)) (fun _ _ _ _ _ => pg_name (i := 10) scGreat.nd rfl (Or.inl rfl)) (fun _ _ _ _ _ => pts_nil)
            (fun _ _ _ _ _ => pe_call GM (hr.mono (by decide)) rfl gM FM.kp bM .nil pass0 (pa_cons (pv 1) (pa_cons (pv 4) (pa_cons (pe_call GN (hr.mono (by decide)) rfl gN FN.kp bN .nil pass0 (pa_cons (pv 0) (pa_cons (pv 1) (pa_cons (pe_callB call_len_seq (by rfl) gLen PySem.boot_len (pa_cons (pv 4) pa_nil)) pa_nil)))) (pa_cons (pv 2) pa_nil))))))
      (pss_one (ps_ret (pe_and (pe_cmpR (op_eqD hr.units) (pe_call GR (hr.mono (by decide)) rfl gRed FR.kp bR .nil pass0 (pa_cons (pv 1) (pa_cons (pe_call GH (hr.mono (by decide)) rfl gH FH.kp bH .nil pass0 (pa_cons (pv 0) (pa_cons (pe_op op_cat (pv 3) (pv 7)) pa_nil))) pa_nil))) (pv 4) (nomark _))
        (pe_one (pe_cmpR op_le (pe_call GK hr rfl gK FK.kp bK .nil pass0 (pa_cons (pv 1) (pa_cons (pv 7) pa_nil))) (pe_callB call_len_seq (by rfl) gLen PySem.boot_len (pa_cons (pv 4) pa_nil)) (nomark _)))))))))))), ?_⟩
    -- 1
    refine ⟨_, rfl, by show 3 ≤ sizeLine; decide, fun l0 hl0 => ?_⟩
    have q0 := same_new (o := .lst [V.int 251, V.int 4099, V.int 65537]) hl0
    have na0 : a ≠ l0 := hp.ne hl0
    refine ⟨a, l0, _, t, rfl, hp.same q0, by omega, upd_same, Ne.symm na0, by decide, by decide, fun j x H1 hx b1 hp1 => ?_⟩
    obtain ⟨p, rfl, mgd⟩ : ∃ p : Nat, x = V.int (p : Int) ∧ (p : Int) ∈ goods := by
      have m := List.mem_of_getElem? hx
      simp only [List.mem_cons, List.not_mem_nil, or_false] at m
      rcases m with rfl | rfl | rfl
      · exact ⟨251, rfl, by decide⟩
      · exact ⟨4099, rfl, by decide⟩
      · exact ⟨65537, rfl, by decide⟩
    obtain ⟨p2, p6, pr⟩ := good_prm mgd
    have p0 : 0 < p := by omega
    have bb1 : But a H H1 := (but_same q0).trans b1
    refine ⟨_, rfl, a, 4, t + 1, rfl, by decide, by decide, hp1, by omega, fun H2 d d0 d1 b2 hp2 => ?_⟩
    have bb2 := bb1.trans b2
    obtain ⟨L, eL, L5⟩ : ∃ L : Nat, (2 : Int) + d = (L : Int) ∧ L ≤ 5 := ⟨(2 + d).toNat, by omega, by omega⟩
    refine ⟨(2 : Int), d, rfl, rfl, by show 2 ≤ sizeLine; decide, fun tp htp => ?_⟩
    have st := same_new (o := .tup [V.int (p : Int), V.int ((2 : Int) + d)]) htp
    have hp2t := hp2.same st
    refine ⟨tp, [V.int (p : Int), V.int (L : Int)], rfl, SqT.of (by rw [← eL]; exact upd_same), rfl, _, _, rfl, _, _, rfl, rfl, ?_⟩
    have bb2t := bb2.trans (but_same st)
    -- 2
    refine ⟨_, rfl, _, rfl, _, rfl, a, 4, t + 1 + 1, rfl, by decide, by decide, hp2t, by omega, fun H3 e e0 e1 b3 hp3 => ?_⟩
    obtain ⟨n, en, n4⟩ : ∃ n : Nat, (1 : Int) + e = (n : Int) ∧ n ≤ 4 := ⟨(1 + e).toNat, by omega, by omega⟩
    refine ⟨(1 : Int), e, rfl, rfl, _, rfl, a, p, n, L, t + 1 + 1 + 1, by rw [← en]; rfl, p2, p6, by omega, by omega, hp3, by omega, fun H4 v as T b4 hp4 nv hv hT vT lT frT => ?_⟩
    have bb4 := (bb2t.trans b3).trans b4
    have nva : v ≠ a := (hp3.ne nv).symm
    have nas : ∀ b ∈ as, b ≠ a := fun b mb => (hp3.ne (frT b mb)).symm
    -- 3
    refine ⟨_, rfl, _, rfl, p, v, L, as, T, rfl, mgd, hv, hT, vT, by omega, by omega, fun H7 h bs B tt ⟨s7, nh, hh, hB, frB, bas, lB⟩ => ?_⟩
    have lb := hB.len
    have lt := bas.len
    have B4 : B.length ≤ 4 := by omega
    -- 4
    refine ⟨_, rfl, p, L, h, bs, T, B, tt, rfl, hh, hB, bas, by omega, by omega, fun H8 s8 => ⟨_, rfl, iteF ?_⟩⟩
    have s78 := same_trans s7 s8
    refine ⟨_, rfl, _, rfl, p, v, L, as, T, rfl, mgd, s78 _ _ hv, rws_up hT s78, vT, by omega, by omega, fun H9 B' t' s9 bas' => ?_⟩
    have eB' : B' = B := (bas'.uniq (by omega) bas fun _ => Iff.rfl).1
    have s79 := same_trans s8 s9
    have s49 := same_trans s7 s79
    have hh9 := s79 _ _ hh
    refine ⟨_, rfl, h, _, rfl, .inl (SqL.of hh9), rfl, _, rfl, ?_⟩
    rw [int_ne (show (B'.length : Int) = ((bs.map V.ref).length : Int) by rw [eB', List.length_map, lb])]
    refine iteF ?_
    have hB9 := rws_up hB s79
    -- 5
    refine ⟨_, rfl, h, rfl, ⟨_, SqL.of hh9⟩, ?_⟩
    intro D hD
    refine lc_list (xs := bs.map V.ref) (fun i H' => Same H9 H' ∧ H' D = some (.lst ((tt.take i).map nat_))) ⟨same_new hD, upd_same⟩ (fun i H' _ z => SqL.of (z.1 _ _ hh9)) ?_ ?_
    · rintro i x H' hx ⟨sm, hDl⟩
      obtain ⟨b, xs, rfl, hb, mx, hk, _⟩ := rws_at hB9 hx
      have kB : i < B.length := (List.getElem?_eq_some_iff.mp hk).1
      obtain ⟨c, hc⟩ : ∃ c, tt[i]? = some c := ⟨tt[i]'(by omega), List.getElem?_eq_getElem _⟩
      have mz := bas_zip bas hk hc
      have vx : xs.length = L := (bas.vec xs mx).1
      have cL : c < L := bas.top c (List.mem_of_getElem? hc)
      have hb' : H' b = some (.lst (xs.map V.int)) := sm _ _ hb
      refine ⟨rfl, tyes ?_⟩
      refine ⟨_, rfl, (L : Int), rfl, by omega, by omega, ?_⟩
      rw [Int.toNat_natCast]
      intro D2 hD2
      have nDD : D ≠ D2 := ne_of_none hDl hD2
      refine lc_range (lo := 0) (n := L) (fun j H2 => Same H' H2 ∧ H2 D2 = some (.lst ((filled xs j).map nat_))) ⟨same_new hD2, upd_same⟩ ?_ ?_
      · rintro j H2 hj ⟨s2, h2⟩
        have e0 : (0 : Int) + (j : Int) = (j : Int) := by omega
        rw [e0]
        have hb2 := s2 _ _ hb'
        refine ⟨rfl, _, rfl, _, rfl, b, _, (j : Int), _, rfl, rfl, SqL.of hb2, atI_nat (int_get vx hj), rfl, _, rfl, ?_⟩
        rw [filled_succ]
        by_cases z : xs.getD j 0 = 0
        · have z1 : (!decide (V.int (xs.getD j 0) = V.int 0)) = false := by rw [z]; rfl
          rw [z1, if_neg (fun q => q z)]
          exact iteF ⟨s2, h2⟩
        · have z1 : (!decide (V.int (xs.getD j 0) = V.int 0)) = true := by
            rw [decide_eq_false (fun q => z (by injection q))]
            rfl
          rw [z1, if_pos z]
          refine iteT ⟨_, rfl, _, h2, by have := filled_len xs j; rw [List.length_map, sizeLine_eq]; omega, same_set s2 hD2, ?_⟩
          rw [upd_same, List.map_append]
          rfl
      · rintro H2 ⟨s2, h2⟩
        obtain ⟨r, er⟩ := filled_head (bas.low _ mz) (by rw [bas.one _ mz]; decide) L cL
        rw [er] at h2
        have lk : (tt.take i).length ≤ i := by rw [List.length_take]; omega
        refine ⟨D2, _, (0 : Int), _, rfl, rfl, SqL.of h2, atI_nat (j := 0) rfl, _, s2 _ _ hDl, by rw [List.length_map, sizeLine_eq]; omega, same_set (same_trans sm s2) hD, ?_⟩
        rw [upd_same, List.take_succ, hc, List.map_append]
        rfl
    rintro H10 ⟨s10, hDt⟩
    rw [List.take_of_length_le (by rw [List.length_map]; omega)] at hDt
    have s4_10 := same_trans s49 s10
    have s7_10 := same_trans s79 s10
    have hv10 := s4_10 _ _ hv
    have hT10 := rws_up hT s4_10
    have hh10 := s10 _ _ hh9
    have hB10 := rws_up hB s7_10
    have hp10 := hp4.same s4_10
    have nh4 : H4 h = none := nh
    have nha : h ≠ a := (hp4.ne nh4).symm
    have frBa : ∀ b ∈ bs, b ≠ a := fun b mb => (hp4.ne (frB b mb)).symm
    haveI : NeZero p := ⟨by omega⟩
    have inT : ∀ xs ∈ T, InS p L T xs := fun xs m => LinA.inS_mem vT m
    -- 6
    refine ⟨_, rfl, v, rfl, ⟨_, SqL.of hv10⟩, ?_⟩
    refine for_list (xs := as.map V.ref) (fun i σ H' => (∃ u : Option V, σ = [some (.ref a), some (.int (p : Int)), some (.int (L : Int)), some (.ref v), some (.ref h), some (.ref D), u, none, none, none, none]) ∧ Same H10 H') ⟨⟨_, rfl⟩, same_rfl⟩ (fun i σ H' _ z => SqL.of (z.2 _ _ hv10)) ?_ ?_
    · rintro i x σ H' hx ⟨⟨u, rfl⟩, sm⟩
      obtain ⟨b, xs, rfl, hb, mx, hk, _⟩ := rws_at hT10 hx
      obtain ⟨vx, vr⟩ := vT xs mx
      have hb' : H' b = some (.lst (xs.map V.int)) := sm _ _ hb
      have hDt' := sm _ _ hDt
      refine ⟨_, rfl, _, rfl, _, rfl, D, rfl, ⟨_, SqL.of hDt'⟩, ?_⟩
      intro D2 hD2
      refine lc_list (xs := tt.map nat_) (fun j H2 => Same H' H2 ∧ H2 D2 = some (.lst (((tt.map fun c => xs.getD c 0).take j).map V.int))) ⟨same_new hD2, upd_same⟩ (fun j H2 _ z => SqL.of (z.1 _ _ hDt')) ?_ ?_
      · rintro j y H2 hy ⟨s2, h2⟩
        have hb2 := s2 _ _ hb'
        obtain ⟨c, hc, rfl⟩ : ∃ c, tt[j]? = some c ∧ y = V.int (c : Int) := by
          rw [List.getElem?_map] at hy
          obtain ⟨c, hc, e⟩ := Option.map_eq_some_iff.mp hy
          exact ⟨c, hc, e.symm⟩
        have jt : j < tt.length := (List.getElem?_eq_some_iff.mp hc).1
        have cL : c < L := bas.top c (List.mem_of_getElem? hc)
        refine ⟨rfl, tyes ?_⟩
        refine ⟨_, rfl, _, rfl, b, _, (c : Int), _, rfl, rfl, SqL.of hb2, atI_nat (int_get vx cL), _, h2, by rw [List.length_map, List.length_take, sizeLine_eq]; omega, same_set s2 hD2, ?_⟩
        have hz : (tt.map fun c => xs.getD c 0)[j]? = some (xs.getD c 0) := by rw [List.getElem?_map, hc]; rfl
        rw [upd_same, List.take_succ, hz, List.map_append]
        rfl
      · rintro H2 ⟨s2, h2⟩
        rw [List.take_of_length_le (by rw [List.length_map, List.length_map]; exact Nat.le_refl _)] at h2
        have s12 := same_trans sm s2
        refine ⟨_, rfl, p, h, D2, L, bs, B, tt.map fun c => xs.getD c 0, rfl, p2, p6, s12 _ _ hh10, rws_up hB10 s12, bas.vec, h2, fun f mf => ?_, by omega, fun H3 r s3 nr hr3 => ?_⟩
        · obtain ⟨c, mc, rfl⟩ := List.mem_map.mp mf
          have z : 0 ≤ xs.getD c 0 ∧ xs.getD c 0 < (p : Int) := LinA.vec_at (p := p) (vT xs mx) p0 c
          omega
        have ec := bas.coords (by omega) (inT xs mx)
        rw [ec] at hr3
        refine ⟨_, rfl, ?_⟩
        refine ne_row hr3 (s3 _ _ (s2 _ _ hb')) ⟨_, rfl, ?_⟩
        rw [decide_eq_true rfl]
        exact iteF ⟨⟨_, rfl⟩, same_trans s12 s3⟩
    rintro σ H11 ⟨⟨u, rfl⟩, s11⟩
    have hv11 := s11 _ _ hv10
    have hT11 := rws_up hT10 s11
    have hh11 := s11 _ _ hh10
    have hB11 := rws_up hB10 s11
    have hp11 := hp10.same s11
    -- 7
    refine ⟨2, rfl, by decide, by decide, ?_⟩
    intro Z hZ
    have naZ : a ≠ Z := hp11.ne hZ
    refine lc_range (lo := 0) (n := 2) (fun i H' => But a H11 H' ∧ Pur H' a (t + 203 + 10 * i) ∧ ∃ (cs : List Addr) (U : List (List Int)), H' Z = some (.lst (cs.map V.ref)) ∧ Rws H' cs U ∧ U.length = i ∧ (∀ xs ∈ U, InS p L T xs) ∧ (∀ b ∈ cs, b ≠ a) ∧ ∀ b ∈ cs, b ≠ Z)
      ⟨but_new hZ, (hp11.same (same_new hZ)).mono (by omega), [], [], upd_same, .nil, rfl, fun x m => (nomatch m), fun x m => (nomatch m), fun x m => (nomatch m)⟩ ?_ ?_
    · rintro i H' hi ⟨bt, hp', cs, U, hZl, hU, lU, inU, nca, ncZ⟩
      have hh' : H' h = some (.lst (bs.map V.ref)) := bt h nha _ hh11
      have hB' : Rws H' bs B := but_rws bt hB11 frBa
      refine ⟨rfl, tyes ?_⟩
      refine ⟨_, rfl, _, rfl, _, rfl, _, rfl, _, rfl, h, _, rfl, .inl (SqL.of hh'), a, p, B.length, t + 203 + 10 * i, by rw [List.length_map, lb]; rfl, by omega, by omega, by omega, hp', by omega, fun H2 g fs b2 hp2 ng hg vg => ?_⟩
      have hh2 : H2 h = some (.lst (bs.map V.ref)) := b2 h nha _ hh'
      have hB2 : Rws H2 bs B := but_rws b2 hB' frBa
      refine ⟨_, rfl, p, h, g, L, bs, B, fs, rfl, p2, p6, hh2, hB2, bas.vec, hg, fun f mf => ?_, by omega, fun H3 r s3 nr hr3 => ?_⟩
      · obtain ⟨z0, z1⟩ := vg.2 f mf
        omega
      have hZ2 : H2 Z = some (.lst (cs.map V.ref)) := b2 Z (Ne.symm naZ) _ hZl
      have hU2 : Rws H2 cs U := but_rws b2 hU nca
      have nrZ : r ≠ Z := fun z => by
        rw [z, hZ2] at nr
        cases nr
      have nra : r ≠ a := (hp2.ne nr).symm
      have hr3' : H3 r = some (.lst ((sumZ p L B fs).map V.int)) := hr3
      have up : ∀ x, x ≠ Z → ∀ o, H3 x = some o → upd H3 Z (.lst (cs.map V.ref ++ [V.ref r])) x = some o := fun x nx o e => (upd_ne nx).trans e
      refine ⟨_, s3 _ _ hZ2, by rw [List.length_map, hU.len, lU, sizeLine_eq]; omega, but_set ((bt.trans b2).trans (but_same s3)) (Ne.symm naZ) hZ, ?_, cs ++ [r], U ++ [sumZ p L B fs], by rw [upd_same, List.map_append]; rfl, ?_, by rw [List.length_append, lU]; rfl, fun xs m => ?_, fun b mb => ?_, fun b mb => ?_⟩
      · obtain ⟨q1, q2, q3, q4, z, y1, y2⟩ := hp2
        exact ⟨q1, q2, q3, q4, up a naZ _ (s3 _ _ z), y1, by omega⟩
      · exact paired_snoc (hU2.mono fun b mb o z => up b (ncZ b mb) o (s3 _ _ z)) (up r nrZ _ hr3')
      · rcases List.mem_append.mp m with z | z
        · exact inU xs z
        · rw [List.mem_singleton.mp z]
          exact (bas.same _).mp ⟨fs, vg, rfl⟩
      · rcases List.mem_append.mp mb with z | z
        · exact nca b z
        · rw [List.mem_singleton.mp z]
          exact nra
      · rcases List.mem_append.mp mb with z | z
        · exact ncZ b z
        · rw [List.mem_singleton.mp z]
          exact nrZ
    rintro H12 ⟨b12, hp12, cs, U, hZl, hU, lU, inU, nca, ncZ⟩
    have hv12 : H12 v = some (.lst (as.map V.ref)) := b12 v nva _ hv11
    have hT12 : Rws H12 as T := but_rws b12 hT11 nas
    have hh12 : H12 h = some (.lst (bs.map V.ref)) := b12 h nha _ hh11
    have hB12 : Rws H12 bs B := but_rws b12 hB11 frBa
    -- 8
    have lcs := hU.len
    refine ⟨_, rfl, _, rfl, _, rfl, _, rfl, v, Z, _, _, rfl, rfl, hv12, hZl, by rw [List.length_map, List.length_map, hT.len, lcs, lU, sizeLine_eq]; omega, fun q hq => ?_⟩
    have eq1 : as.map V.ref ++ cs.map V.ref = (as ++ cs).map V.ref := by rw [List.map_append]
    have sq := same_new (o := .lst (as.map V.ref ++ cs.map V.ref)) hq
    have lenq : (as.map V.ref ++ cs.map V.ref).length = T.length + 2 := by rw [List.length_append, List.length_map, List.length_map, hT.len, lcs, lU]
    refine ⟨a, q, _, _, rfl, upd_same, (hp12.ne hq).symm, by rw [lenq]; omega, hp12.same sq, by omega, fun H14 mm ys b14 hp14 nmm hmm pm => ?_⟩
    rw [eq1] at pm
    obtain ⟨ms, rfl, pms⟩ := unrefs pm
    have bq : But a H12 H14 := (but_same sq).trans b14
    have hT14 : Rws H14 as T := but_rws bq hT12 nas
    have hU14 : Rws H14 cs U := but_rws bq hU nca
    obtain ⟨M, hM, pM⟩ := rws_perm pms (rws_append hT14 hU14)
    obtain ⟨vM, iM⟩ := inS_more (p := p) (L := L) (by omega) vT pM inU
    have lM : M.length ≤ 10 := by
      rw [pM.length_eq, List.length_append, lU]
      omega
    have hh14 : H14 h = some (.lst (bs.map V.ref)) := bq h nha _ hh12
    have hB14 : Rws H14 bs B := but_rws bq hB12 frBa
    have nZa : Z ≠ a := Ne.symm naZ
    have hZ14 : H14 Z = some (.lst (cs.map V.ref)) := bq Z nZa _ hZl
    refine ⟨p, mm, L, ms, M, rfl, mgd, hmm, hM, vM, by omega, by omega, fun H15 r c1 B1 t1 ⟨s15, _, hr1, hB1, _, bas1, _⟩ => ?_⟩
    refine ⟨_, rfl, ?_⟩
    refine eq_mat hr1 hB1 (s15 _ _ hh14) (rws_up hB14 s15) ⟨_, rfl, ?_⟩
    have e1 : B1 = B := (bas1.uniq (by omega) bas iM).1
    rw [decide_eq_true e1]
    refine iteT ?_
    have vU : ∀ xs ∈ U, Vc (p : Int) L xs := fun xs m => (inU xs m).vec p0 vT
    refine ⟨_, rfl, _, rfl, p, Z, L, cs, U, rfl, mgd, s15 _ _ hZ14, rws_up hU14 s15, vU, by omega, by omega, fun H16 B7 t7 s16 bas7 => ?_⟩
    have s56 := same_trans s15 s16
    refine ⟨_, rfl, h, _, rfl, .inl (SqL.of (s56 _ _ hh14)), _, _, rfl, rfl, ?_⟩
    have le7 : B7.length ≤ B.length := bas7.rank_le (by omega) bas fun xs m => LinA.inS_sub vU vT inU m
    show Q (.bl (decide ((B7.length : Int) ≤ ((bs.map V.ref).length : Int)))) _
    rw [decide_eq_true (by rw [List.length_map, lb]; omega)]
    refine want _ ((bb4.trans (but_same (same_trans s4_10 s11))).trans ((b12.trans bq).trans (but_same s56))) ?_
    exact (hp14.same s56).mono (by rw [lenq]; omega)
end
end Vb
end L2

set_option Elab.async false
set_option linter.all false
set_option maxRecDepth 100000
set_option maxHeartbeats 8000000
/-! Vb, part 30: the law. -/
namespace L2
namespace Vb
open PySem PySem.Spec PyProof.Rows
open LinA (sumZ Bas InS Vec)
abbrev sLaw : Stmt := topS 50
abbrev nLaw : List Str := ["_law_script", "_law_purse_here", "_law_both"]
theorem vec2 {a b : Int} (h : 0 ≤ a ∧ a < 3 ∧ 0 ≤ b ∧ b < 3) : Vec 3 2 [a, b] := ⟨rfl, fun x m => by
  rcases List.mem_cons.mp m with q | q
  · omega
  · rw [List.mem_singleton] at q
    omega⟩
theorem two_vec {a b c d : Int} (h : 0 ≤ a ∧ a < 3 ∧ 0 ≤ b ∧ b < 3) (k : 0 ≤ c ∧ c < 3 ∧ 0 ≤ d ∧ d < 3) : ∀ xs ∈ [[a, b], [c, d]], Vec 3 2 xs := fun xs m => by
  rcases List.mem_cons.mp m with q | q
  · rw [q]
    exact vec2 h
  · rw [List.mem_singleton.mp q]
    exact vec2 k
theorem one_vec {a b : Int} (h : 0 ≤ a ∧ a < 3 ∧ 0 ≤ b ∧ b < 3) : ∀ xs ∈ [[a, b]], Vec 3 2 xs := fun xs m => by
  rw [List.mem_singleton.mp m]
  exact vec2 h
theorem in_two {T : List (List Int)} {xs : List Int} {f g : Int} (l : T.length = 2) (h : 0 ≤ f ∧ f < 3 ∧ 0 ≤ g ∧ g < 3) (e : xs = sumZ 3 2 T [f, g]) : InS 3 2 T xs := ⟨[f, g], by rw [l]; exact vec2 h, e⟩
theorem in_one {T : List (List Int)} {xs : List Int} {f : Int} (l : T.length = 1) (h : 0 ≤ f ∧ f < 3) (e : xs = sumZ 3 2 T [f]) : InS 3 2 T xs := ⟨[f], by
  rw [l]
  refine ⟨rfl, fun x m => ?_⟩
  rw [List.mem_singleton.mp m]
  exact h, e⟩
theorem bas_a : Bas 3 2 [[1, 2], [2, 2]] [[1, 0], [0, 1]] [0, 1] where
  vec := two_vec (by decide) (by decide)
  len := rfl
  top c m := by
    rcases List.mem_cons.mp m with q | q
    · omega
    · rw [List.mem_singleton] at q
      omega
  one x m := by
    rcases List.mem_cons.mp m with q | q
    · rw [q]; rfl
    · rw [show x = _ from List.mem_singleton.mp q]; rfl
  low x m j hj := by
    rcases List.mem_cons.mp m with q | q
    · rw [q] at hj
      exact absurd hj (Nat.not_lt_zero j)
    · rw [show x = _ from List.mem_singleton.mp q] at hj ⊢
      have z : j = 0 := by
        have : j < 1 := hj
        omega
      rw [z]
      rfl
  two := List.pairwise_pair.mpr ⟨by decide, rfl⟩
  same xs := by
    haveI : NeZero 3 := ⟨by decide⟩
    have v1 : ∀ xs ∈ [[(1 : Int), 0], [0, 1]], Vec 3 2 xs := two_vec (by decide) (by decide)
    have v2 : ∀ xs ∈ [[(1 : Int), 2], [2, 2]], Vec 3 2 xs := two_vec (by decide) (by decide)
    refine ⟨LinA.inS_sub v1 v2 fun v m => ?_, LinA.inS_sub v2 v1 fun v m => ?_⟩
    · rcases List.mem_cons.mp m with q | q
      · rw [q]; exact in_two (f := 2) (g := 1) rfl (by decide) (by decide +kernel)
      · rw [List.mem_singleton.mp q]; exact in_two (f := 1) (g := 1) rfl (by decide) (by decide +kernel)
    · rcases List.mem_cons.mp m with q | q
      · rw [q]; exact in_two (f := 1) (g := 2) rfl (by decide) (by decide +kernel)
      · rw [List.mem_singleton.mp q]; exact in_two (f := 2) (g := 2) rfl (by decide) (by decide +kernel)
theorem bas_b : Bas 3 2 [[2, 1], [1, 2]] [[1, 2]] [0] where
  vec := one_vec (by decide)
  len := rfl
  top c m := by
    rw [List.mem_singleton] at m
    omega
  one x m := by
    rw [show x = _ from List.mem_singleton.mp m]; rfl
  low x m j hj := by
    rw [show x = _ from List.mem_singleton.mp m] at hj
    exact absurd hj (Nat.not_lt_zero j)
  two := List.pairwise_singleton _ _
  same xs := by
    haveI : NeZero 3 := ⟨by decide⟩
    have v1 : ∀ xs ∈ [[(1 : Int), 2]], Vec 3 2 xs := one_vec (by decide)
    have v2 : ∀ xs ∈ [[(2 : Int), 1], [1, 2]], Vec 3 2 xs := two_vec (by decide) (by decide)
    refine ⟨LinA.inS_sub v1 v2 fun v m => ?_, LinA.inS_sub v2 v1 fun v m => ?_⟩
    · rw [List.mem_singleton.mp m]
      exact in_two (f := 0) (g := 1) rfl (by decide) (by decide +kernel)
    · rcases List.mem_cons.mp m with q | q
      · rw [q]; exact in_one (f := 2) rfl (by decide) (by decide +kernel)
      · rw [List.mem_singleton.mp q]; exact in_one (f := 1) rfl (by decide) (by decide +kernel)
theorem bas_flat {p : Nat} {T B : List (List Int)} {t : List Nat} (h : Bas p 0 T B t) : B = [] := by
  have e : t = [] := by
    cases t with
    | nil => rfl
    | cons c t => exact absurd (h.top c List.mem_cons_self) (Nat.not_lt_zero c)
  have len := h.len
  rw [e] at len
  exact List.eq_nil_of_length_eq_zero len
theorem ne_mats2 {K : PySem.W.Frag} {H : Hp} {a b x1 x2 y1 y2 : Addr} {S1 S2 T1 T2 : List (List Int)} {Q : VK} (ha : H a = some (.lst [.ref x1, .ref x2])) (hb : H b = some (.lst [.ref y1, .ref y2]))
    (h1 : Mt H x1 S1) (h2 : Mt H x2 S2) (k1 : Mt H y1 T1) (k2 : Mt H y2 T2) (q : Q (.bl (!decide ([S1, S2] = [T1, T2]))) H) : rNeD K (.ref a) (.ref b) H Q :=
  ⟨.list ([S1, S2].map matP), .list ([T1, T2].map matP), .lst (SqL.of ha) (.cons h1.dp (.cons h2.dp .nil)), .lst (SqL.of hb) (.cons k1.dp (.cons k2.dp .nil)), shaped_mats _, shaped_mats _, by rw [eqv_mats]; exact q⟩
def mixD : PyData := .list [.list [], .int 0, .int 0]
theorem mix_ok : SeqAt.shaped mixD = true ∧ PyData.eqv mixD mixD = true := by decide +kernel
theorem goods3 : ((3 : Nat) : Int) ∈ goods := by decide
theorem goods5 : ((5 : Nat) : Int) ∈ goods := by decide
theorem two_up {H H' : Hp} {a : Addr} {x y : Int} (s : Same (upd H a (.lst [V.int x, V.int y])) H') : Rw H' a [x, y] := s _ _ upd_same
theorem nodup_at {l : List Addr} (h : l.Nodup) {i j : Nat} {a : Addr} (hi : l[i]? = some a) (hj : l[j]? = some a) : i = j := by
  have h2 : l.Pairwise (· ≠ ·) := h
  have pw := List.pairwise_iff_getElem.mp h2
  obtain ⟨l1, e1⟩ := List.getElem?_eq_some_iff.mp hi
  obtain ⟨l2, e2⟩ := List.getElem?_eq_some_iff.mp hj
  rcases Nat.lt_trichotomy i j with q | q | q
  · exact absurd (e1.trans e2.symm) (pw i j l1 l2 q)
  · exact q
  · exact absurd (e2.trans e1.symm) (pw j i l2 l1 q)
/-- where all stands -/
structure Stands (P : Program) (w : World) (K : PySem.W.Frag) (mg : Str → Option Value) (base : Heap) : Prop where
  fn : ∀ x i, (x, i) ∈ defs → (∃ fd, Fun K x x (topS i) (He.ga K x) fd) ∧ mg x = some (.ref (He.ga K x))
  free : ∀ x ∈ frees, mg x = none
  prim : PrimG K mg
def spLaw (K : PySem.W.Frag) : Sp := fun vs H Q _ => ∃ (sc : Addr) (ns : List Int), vs = [.ref sc] ∧ SqL K H sc (ns.map V.int) ∧ ns.length ≤ 63 ∧ ∀ H', Q (.bl true) H'
theorem scLaw : FnScope nLaw ["_law_script"] (defScope sLaw) := ⟨rfl, rfl, rfl, by decide +kernel, rfl, by decide +kernel, by decide +kernel⟩
section
variable {P : Program} {w : World} {K : PySem.W.Frag} {mg : Str → Option Value} {base : Heap}
theorem ok_law {f : Addr} {fd : FuncData} (S : Stands P w K mg base) (F : Fun K "law" "law" sLaw f fd) : FnG P w K mg base 9 f fd ["_law_script"] (spLaw K) := by
  have g_all := S.free "all" (by decide)
  have g_int := S.free "int" (by decide)
  have g_len := S.free "len" (by decide)
  have g_list := S.free "list" (by decide)
  have g_max := S.free "max" (by decide)
  have g_min := S.free "min" (by decide)
  have g_range := S.free "range" (by decide)
  have g_repr := S.free "repr" (by decide)
  have g_set := S.free "set" (by decide)
  have g_sorted := S.free "sorted" (by decide)
  have g_sum := S.free "sum" (by decide)
  have g_type := S.free "type" (by decide)
  have g_zip := S.free "zip" (by decide)
  obtain ⟨⟨_, F8⟩, g8⟩ := S.fn "is_count" 10 (by decide)
  obtain ⟨⟨_, F9⟩, g9⟩ := S.fn "is_prime" 11 (by decide)
  obtain ⟨⟨_, F10⟩, g10⟩ := S.fn "require_prime" 12 (by decide)
  obtain ⟨⟨_, F11⟩, g11⟩ := S.fn "is_number" 13 (by decide)
  obtain ⟨⟨_, F12⟩, g12⟩ := S.fn "is_factor" 14 (by decide)
  obtain ⟨⟨_, F13⟩, g13⟩ := S.fn "is_vector" 15 (by decide)
  obtain ⟨⟨_, F14⟩, g14⟩ := S.fn "is_vector_of" 16 (by decide)
  obtain ⟨⟨_, F15⟩, g15⟩ := S.fn "is_vectors" 17 (by decide)
  obtain ⟨⟨_, F17⟩, g17⟩ := S.fn "inverse_of" 19 (by decide)
  obtain ⟨⟨_, F20⟩, g20⟩ := S.fn "added_up" 20 (by decide)
  obtain ⟨⟨_, F21⟩, g21⟩ := S.fn "pivot_row" 21 (by decide)
  obtain ⟨⟨_, F22⟩, g22⟩ := S.fn "clear_column" 22 (by decide)
  obtain ⟨⟨_, F23⟩, g23⟩ := S.fn "eliminated" 23 (by decide)
  obtain ⟨⟨_, F24⟩, g24⟩ := S.fn "basis_of" 24 (by decide)
  obtain ⟨⟨_, F26⟩, g26⟩ := S.fn "require_vectors" 26 (by decide)
  obtain ⟨⟨_, F27⟩, g27⟩ := S.fn "require_some_vectors" 27 (by decide)
  obtain ⟨⟨_, F28⟩, g28⟩ := S.fn "inverse" 28 (by decide)
  obtain ⟨⟨_, F29⟩, g29⟩ := S.fn "combined" 29 (by decide)
  obtain ⟨⟨_, F30⟩, g30⟩ := S.fn "reduced" 30 (by decide)
  obtain ⟨⟨_, F31⟩, g31⟩ := S.fn "rank" 31 (by decide)
  obtain ⟨⟨_, F33⟩, g33⟩ := S.fn "_law_purse" 33 (by decide)
  obtain ⟨⟨_, F34⟩, g34⟩ := S.fn "_law_mixed" 34 (by decide)
  obtain ⟨⟨_, F35⟩, g35⟩ := S.fn "_law_draw" 35 (by decide)
  obtain ⟨⟨_, F36⟩, g36⟩ := S.fn "_law_purses" 36 (by decide)
  obtain ⟨⟨_, F37⟩, g37⟩ := S.fn "_law_one_of" 37 (by decide)
  obtain ⟨⟨_, F38⟩, g38⟩ := S.fn "_law_shuffled" 38 (by decide)
  obtain ⟨⟨_, F39⟩, g39⟩ := S.fn "_law_numbers" 39 (by decide)
  obtain ⟨⟨_, F40⟩, g40⟩ := S.fn "_law_vectors" 40 (by decide)
  obtain ⟨⟨_, F41⟩, g41⟩ := S.fn "_law_sum_of" 41 (by decide)
  obtain ⟨⟨_, F42⟩, g42⟩ := S.fn "_law_unlike" 42 (by decide)
  obtain ⟨⟨_, F43⟩, g43⟩ := S.fn "_law_space" 43 (by decide)
  obtain ⟨⟨_, F44⟩, g44⟩ := S.fn "_law_is_reduced" 44 (by decide)
  obtain ⟨⟨_, F45⟩, g45⟩ := S.fn "_law_turn_into" 45 (by decide)
  obtain ⟨⟨_, F46⟩, g46⟩ := S.fn "_law_inverses_right" 46 (by decide)
  obtain ⟨⟨_, F47⟩, g47⟩ := S.fn "_law_combined_right" 47 (by decide)
  obtain ⟨⟨_, F48⟩, g48⟩ := S.fn "_law_small_right" 48 (by decide)
  obtain ⟨⟨_, F49⟩, g49⟩ := S.fn "_law_great_right" 49 (by decide)
  have G8 : FnOk P w K mg base CX0 1 _ _ ["value"] spCount := ok_count F8 g_type g_int
  have G9 : FnOk P w K mg base CX0 1 _ _ ["value"] spPrime := ok_prime F9 S.prim
  have G10 : FnOk P w K mg base CX0 2 _ _ ["prime"] spReqP := ok_reqP F10 F9 G9 g9
  have G11 : FnOk P w K mg base CX0 2 _ _ ["prime", "value"] spNumber := ok_number F11 F8 G8 g8
  have G12 : FnOk P w K mg base CX0 3 _ _ ["prime", "value"] spFactor := ok_factor F12 F11 G11 g11
  have G13 : FnOk P w K mg base CX0 3 _ _ ["prime", "value"] spVector := ok_vector F13 F11 G11 g11 g_type g_list g_all
  have G14 : FnOk P w K mg base CX0 4 _ _ ["prime", "value", "length"] spVectorOf := ok_vectorOf F14 F13 G13 g13 g_len
  have G15 : FnOk P w K mg base CX0 4 _ _ ["prime", "value"] spVectors := ok_vectors F15 F13 G13 g13 g_type g_list g_all g_len
  have G17 : FnOk P w K mg base CX0 1 _ _ ["prime", "number"] spInvOf := ok_invOf F17
  have G20 : FnOk P w K mg base CX0 1 _ _ ["prime", "vectors", "factors", "length"] spAdd := ok_add F20 g_zip
  have G21 : FnOk P w K mg base CX0 1 _ _ ["table", "start", "place"] spPivot := ok_pivot F21 g_range g_len
  have G22 : FnOk P w K mg base CX0 2 _ _ ["prime", "table", "at", "place"] spClear := ok_clear F22 F17 G17 g17 g_range g_len g_zip
  have G23 : FnOk P w K mg base CX0 3 _ _ ["prime", "vectors", "width"] spElim := ok_elim F23 F21 G21 g21 F22 G22 g22 g_range g_len g_list
  have G24 : FnOk P w K mg base CX0 4 _ _ ["prime", "vectors"] spBas := ok_bas F24 F23 G23 g23 g_len
  have G26 : FnOk P w K mg base CX0 5 _ _ ["prime", "vectors"] spReqV := ok_reqV F26 F15 G15 g15
  have G27 : FnOk P w K mg base CX0 5 _ _ ["prime", "vectors"] spReqS := ok_reqS F27 F15 G15 g15
  have G28 : FnOk P w K mg base CX0 4 _ _ ["prime", "number"] spInv := ok_inv F28 F10 G10 g10 F12 G12 g12 F17 G17 g17
  have G29 : FnOk P w K mg base CX0 6 _ _ ["prime", "vectors", "factors"] spComb := ok_comb F29 F10 G10 g10 F27 G27 g27 F14 G14 g14 F20 G20 g20 g_len
  have G30 : FnOk P w K mg base CX0 6 _ _ ["prime", "vectors"] spRed := ok_red F30 F10 G10 g10 F26 G26 g26 F24 G24 g24
  have G31 : FnOk P w K mg base CX0 7 _ _ ["prime", "vectors"] spRank := ok_rank F31 F30 G30 g30 g_len
  have G35 : FnOk P w K mg base CX0 2 _ _ ["_law_purse_here", "_law_many"] spDraw := ok_draw F35 F34 g34 g_range
  have G36 : FnOk P w K mg base CX0 2 _ _ ["_law_script", "_law_few"] (spPurses K) := ok_purses F36 F33 g33 g_sum g_max g_min g_range g_len
  have G37 : FnOk P w K mg base CX0 3 _ _ ["_law_purse_here", "_law_some"] spOneOf := ok_oneOf F37 F35 F34 g35 g34 g_range g_len
  have G38 : FnOk P w K mg base CX0 3 _ _ ["_law_purse_here", "_law_some"] spShuf := ok_shuf F38 F35 G35 g35 g_len
  have G39 : FnOk P w K mg base CX0 3 _ _ ["_law_purse_here", "_law_prime", "_law_many"] spNums := ok_nums F39 F35 G35 g35 g_range
  have G41 : FnOk P w K mg base CX0 1 _ _ ["_law_prime", "_law_vectors_here", "_law_factors", "_law_length"] spSumOf := ok_sumOf F41 g_range g_zip
  have G40 : FnOk P w K mg base CX0 4 _ _ ["_law_purse_here", "_law_prime", "_law_many", "_law_length"] spVecs := ok_vecs F40 F35 G35 g35 F39 G39 g39 F41 G41 g41 g_range
  have G42 : FnOk P w K mg base CX0 1 _ _ ["_law_some"] spUnlike := ok_unlike F42 g_sorted
  have G43 : FnOk P w K mg base CX0 2 _ _ ["_law_prime", "_law_vectors_here", "_law_length"] spSpace := ok_space F43 F41 G41 g41 F42 G42 g42 g_range
  have G44 : FnOk P w K mg base CX0 1 _ _ ["_law_basis"] spIsRed := ok_isRed F44 g_range g_len g_sorted g_set
  have G45 : FnOk P w K mg base CX0 1 _ _ ["_law_given", "_law_more"] spTurn := ok_turn F45
  have G46 : FnG P w K mg base 5 _ _ ["_law_purse_here"] spInvR := ok_invR F46 F35 G35 g35 F28 G28 g28 g_range g_repr
  have G47 : FnG P w K mg base 7 _ _ ["_law_purse_here", "_law_prime", "_law_vectors_here", "_law_length"] spCombR := ok_combR F47 F39 G39 g39 F41 G41 g41 F29 G29 g29 g_len g_list g_repr
  have G48 : FnG P w K mg base 8 _ _ ["_law_purse_here"] spSmall := ok_small F48 F37 G37 g37 F35 G35 g35 F40 G40 g40 F43 G43 g43 F30 G30 g30 F44 G44 g44 F31 G31 g31 F38 G38 g38 F47 G47 g47 F45 G45 g45 g_len g_list g_repr g_range
  have G49 : FnOk P w K mg base CX0 8 _ _ ["_law_purse_here"] spGreat := ok_great F49 F37 G37 g37 F35 G35 g35 F40 G40 g40 F30 G30 g30 F44 G44 g44 F31 G31 g31 F38 G38 g38 F41 G41 g41 F39 G39 g39 g_len g_range
  have b29 : Binds K _ ["prime", "vectors", "factors"] [] := F29.binds fun _ _ _ _ _ _ us hl => match us, hl with | [_, _, _], _ => rfl
  have b30 : Binds K _ ["prime", "vectors"] [] := F30.binds fun _ _ _ _ _ _ us hl => match us, hl with | [_, _], _ => rfl
  have b31 : Binds K _ ["prime", "vectors"] [] := F31.binds fun _ _ _ _ _ _ us hl => match us, hl with | [_, _], _ => rfl
  have b36 : Binds K _ ["_law_script", "_law_few"] [] := F36.binds fun _ _ _ _ _ _ us hl => match us, hl with | [_, _], _ => rfl
  have b46 : Binds K _ ["_law_purse_here"] [] := F46.binds fun _ _ _ _ _ _ us hl => match us, hl with | [_], _ => rfl
  have b48 : Binds K _ ["_law_purse_here"] [] := F48.binds fun _ _ _ _ _ _ us hl => match us, hl with | [_], _ => rfl
  have b49 : Binds K _ ["_law_purse_here"] [] := F49.binds fun _ _ _ _ _ _ us hl => match us, hl with | [_], _ => rfl
  refine fnG_of F scLaw (fun vs H Q h => ?_) (fun cdv A below s H vs Q hgd hr h => ?_)
  · obtain ⟨sc, ns, rfl, _⟩ := h
    rfl
  · obtain ⟨sc, ns, rfl, hs, hl63, want⟩ := h
    refine ⟨_, pss_cons (ps_for PassesOwn.never rfl (pi_list (pe_call G36 (hr.mono (by decide)) rfl g36 F36.kp b36 .nil pass0 (pa_cons (pv 0) (pa_cons pe_int pa_nil)))) (pg_name (i := 1) scLaw.nd rfl (Or.inl rfl))
        (pss_cons (ps_if (PW.pt (pw_or (pt_not (pt_val (pe_callG G46 hgd (hr.mono (by decide)) rfl g46 F46.kp b46 (pa_cons (pv 1) pa_nil)))) (pw_or (pt_not (pt_val (pe_callG G48 hgd hr rfl g48 F48.kp b48 (pa_cons (pv 1) pa_nil)))) (pw_or1 (pt_not (pt_val (pe_call G49 hr rfl g49 F49.kp b49 .nil pass0 (pa_cons (pv 1) pa_nil)))))))) (pss_one (ps_ret pe_bl)) pss_nil)
        (pss_cons (ps_set (i := 2) scLaw.nd rfl (Or.inl rfl) (pe_lst (pa_cons (pe_call G30 (hr.mono (by decide)) rfl g30 F30.kp b30 .nil pass0 (pa_cons pe_int (pa_cons (pe_lst (pa_cons (pe_lst (pa_cons pe_int (pa_cons pe_int pa_nil))) (pa_cons (pe_lst (pa_cons pe_int (pa_cons pe_int pa_nil))) pa_nil))) pa_nil)))
            (pa_cons (pe_call G30 (hr.mono (by decide)) rfl g30 F30.kp b30 .nil pass0 (pa_cons pe_int (pa_cons (pe_lst (pa_cons (pe_lst (pa_cons pe_int (pa_cons pe_int pa_nil))) (pa_cons (pe_lst (pa_cons pe_int (pa_cons pe_int pa_nil))) pa_nil))) pa_nil))) pa_nil))))
        (pss_cons (ps_if (PW.pt (pw_or (pt_cmpR (op_neD hr.units) (pv 2) (pe_lst (pa_cons (pe_lst (pa_cons (pe_lst (pa_cons pe_int (pa_cons pe_int pa_nil))) (pa_cons (pe_lst (pa_cons pe_int (pa_cons pe_int pa_nil))) pa_nil))) (pa_cons (pe_lst (pa_cons (pe_lst (pa_cons pe_int (pa_cons pe_int pa_nil))) pa_nil)) pa_nil))) (nomark _))
            (pw_or1 (pt_cmpR (op_neD hr.units) (pe_call G29 (hr.mono (by decide)) rfl g29 F29.kp b29 .nil pass0 (pa_cons pe_int (pa_cons (pe_lst (pa_cons (pe_lst pa_nil) pa_nil)) (pa_cons (pe_lst (pa_cons pe_int pa_nil)) pa_nil)))) (pe_lst pa_nil) (nomark _))))) (pss_one (ps_ret pe_bl)) pss_nil)
        (pss_one (ps_if (pt_cmpR (op_neD hr.units) (pe_lst (pa_cons (pe_call G30 (hr.mono (by decide)) rfl g30 F30.kp b30 .nil pass0 (pa_cons pe_int (pa_cons (pe_lst pa_nil) pa_nil))) (pa_cons (pe_call G31 (hr.mono (by decide)) rfl g31 F31.kp b31 .nil pass0 (pa_cons pe_int (pa_cons (pe_lst pa_nil) pa_nil)))
            (pa_cons (pe_call G31 (hr.mono (by decide)) rfl g31 F31.kp b31 .nil pass0 (pa_cons pe_int (pa_cons (pe_lst (pa_cons (pe_lst pa_nil) (pa_cons (pe_lst pa_nil) pa_nil))) pa_nil))) pa_nil)))) (pe_lst (pa_cons (pe_lst pa_nil) (pa_cons pe_int (pa_cons pe_int pa_nil)))) (nomark _)) (pss_one (ps_ret pe_bl)) pss_nil))))))
      (pss_one (ps_ret pe_bl)), ?_⟩
    refine ⟨_, rfl, sc, ns, 2, rfl, hs, hl63, by decide, by decide, fun H1 l as s1 nl hl l100 nod hall => ?_⟩
    refine ⟨l, rfl, ⟨_, SqL.of hl⟩, ?_⟩
    refine for_list (xs := as.map V.ref) (fun i σ H' => (∃ u v : Option V, σ = [some (.ref sc), u, v]) ∧ H' l = some (.lst (as.map V.ref)) ∧ ∀ j a, i ≤ j → as[j]? = some a → Pur H' a 0) ⟨⟨_, _, rfl⟩, hl, fun j a _ hj => ?_⟩ (fun i σ H' _ z => SqL.of z.2.1) ?_ ?_
    · obtain ⟨_, _, p, q, i, pu⟩ := hall a (List.mem_of_getElem? hj)
      exact ⟨p, q, 0, i, pu, Int.le_refl _, Int.le_refl _⟩
    · rintro i x σ H2 hx ⟨⟨u, v, rfl⟩, hl2, purs⟩
      obtain ⟨a, ha, rfl⟩ : ∃ a, as[i]? = some a ∧ x = V.ref a := by
        rw [List.getElem?_map] at hx
        obtain ⟨a, ha, e⟩ := Option.map_eq_some_iff.mp hx
        exact ⟨a, ha, e.symm⟩
      have hp := purs i a (Nat.le_refl _) ha
      have nla : l ≠ a := fun e => (hall a (List.mem_of_getElem? ha)).2.1 e.symm
      refine ⟨_, rfl, a, 0, rfl, hp, by omega, fun H3 b3 hp3 => ⟨_, rfl, iteF ?_⟩⟩
      refine ⟨_, rfl, a, 10, rfl, hp3, by omega, fun H4 b4 hp4 => ⟨_, rfl, iteF ?_⟩⟩
      refine ⟨_, rfl, a, 310, rfl, hp4, by omega, fun H5 b5 hp5 => ⟨_, rfl, iteF ?_⟩⟩
      have b25 := (b3.trans b4).trans b5
      -- what holds behind the rest, which makes new things alone
      have fin : ∀ H' : Hp, Same H5 H' → H' l = some (.lst (as.map V.ref)) ∧ ∀ j c, i + 1 ≤ j → as[j]? = some c → Pur H' c 0 := fun H' sm => by
        refine ⟨sm _ _ (b25 l nla _ hl2), fun j c hj hc => ?_⟩
        have nca : c ≠ a := fun e => by
          rw [e] at hc
          have z := nodup_at nod ha hc
          omega
        exact ((purs j c (by omega) hc).but b25 nca).same sm
      -- both
      refine ⟨by show 2 ≤ sizeLine; decide, fun x1 h1 => ⟨by show 2 ≤ sizeLine; decide, fun x2 h2 => ⟨by show 2 ≤ sizeLine; decide, fun x3 h3 => ?_⟩⟩⟩
      have t1 := same_new (o := .lst [V.int 1, V.int 2]) h1
      have t2 := same_new (o := .lst [V.int 2, V.int 2]) h2
      have t3 := same_new (o := .lst [V.ref x1, V.ref x2]) h3
      refine ⟨3, x3, 2, [x1, x2], [[1, 2], [2, 2]], rfl, goods3, upd_same, .cons (two_up (same_trans t2 t3)) (.cons (two_up t3) .nil), two_vec (by decide) (by decide), by decide, by decide, fun H6 r1 c1 B1 q1 ⟨s6, _, hr1, hB1, _, bas1, _⟩ => ?_⟩
      have e1 : B1 = [[1, 0], [0, 1]] := (bas1.uniq (by decide) bas_a fun _ => Iff.rfl).1
      refine ⟨by show 2 ≤ sizeLine; decide, fun x4 h4 => ⟨by show 2 ≤ sizeLine; decide, fun x5 h5 => ⟨by show 2 ≤ sizeLine; decide, fun x6 h6 => ?_⟩⟩⟩
      have t4 := same_new (o := .lst [V.int 2, V.int 1]) h4
      have t5 := same_new (o := .lst [V.int 1, V.int 2]) h5
      have t6 := same_new (o := .lst [V.ref x4, V.ref x5]) h6
      refine ⟨3, x6, 2, [x4, x5], [[2, 1], [1, 2]], rfl, goods3, upd_same, .cons (two_up (same_trans t5 t6)) (.cons (two_up t6) .nil), two_vec (by decide) (by decide), by decide, by decide, fun H7 r2 c2 B2 q2 ⟨s7, _, hr2, hB2, _, bas2, _⟩ => ?_⟩
      have e2 : B2 = [[1, 2]] := (bas2.uniq (by decide) bas_b fun _ => Iff.rfl).1
      refine ⟨by show 2 ≤ sizeLine; decide, fun x7 h7 => ?_⟩
      have t7 := same_new (o := .lst [V.ref r1, V.ref r2]) h7
      have s67 := same_trans (same_trans t4 (same_trans t5 t6)) (same_trans s7 t7)
      have s57 := same_trans (same_trans t1 (same_trans t2 t3)) (same_trans s6 s67)
      have hr1' := s67 _ _ hr1
      have hB1' := rws_up hB1 s67
      have hr2' := t7 _ _ hr2
      have hB2' := rws_up hB2 t7
      -- the literal beside it
      refine ⟨_, rfl, by show 2 ≤ sizeLine; decide, fun y1 k1 => ⟨by show 2 ≤ sizeLine; decide, fun y2 k2 => ⟨by show 2 ≤ sizeLine; decide, fun y3 k3 => ⟨by show 2 ≤ sizeLine; decide, fun y4 k4 => ⟨by show 1 ≤ sizeLine; decide, fun y5 k5 => ⟨by show 2 ≤ sizeLine; decide, fun y6 k6 => ?_⟩⟩⟩⟩⟩⟩
      have j1 := same_new (o := .lst [V.int 1, V.int 0]) k1
      have j2 := same_new (o := .lst [V.int 0, V.int 1]) k2
      have j3 := same_new (o := .lst [V.ref y1, V.ref y2]) k3
      have j4 := same_new (o := .lst [V.int 1, V.int 2]) k4
      have j5 := same_new (o := .lst [V.ref y4]) k5
      have j6 := same_new (o := .lst [V.ref y3, V.ref y5]) k6
      have j56 := same_trans j5 j6
      have j46 := same_trans j4 j56
      have j36 := same_trans j3 j46
      have j26 := same_trans j2 j36
      have j16 := same_trans j1 j26
      refine ne_mats2 (j16 _ _ upd_same) upd_same ⟨c1, j16 _ _ hr1', rws_up hB1' j16⟩ ⟨c2, j16 _ _ hr2', rws_up hB2' j16⟩
        ⟨[y1, y2], j46 _ _ upd_same, .cons (two_up j26) (.cons (two_up j36) .nil)⟩ ⟨[y4], j6 _ _ upd_same, .cons (two_up j56) .nil⟩ ⟨_, rfl, ?_⟩
      rw [e1, e2, decide_eq_true rfl]
      refine iteF ?_
      generalize upd _ y6 _ = H8 at j16 ⊢
      -- combined
      refine ⟨by show 0 ≤ sizeLine; decide, fun z1 m1 => ⟨by show 1 ≤ sizeLine; decide, fun z2 m2 => ⟨by show 1 ≤ sizeLine; decide, fun z3 m3 => ?_⟩⟩⟩
      have i1 := same_new (o := .lst []) m1
      have i2 := same_new (o := .lst [V.ref z1]) m2
      have i3 := same_new (o := .lst [V.int 3]) m3
      refine ⟨5, z2, z3, 0, [z1], [[]], [3], rfl, goods5, i3 _ _ upd_same, .cons (i3 _ _ (i2 _ _ upd_same)) .nil, fun xs m => ?_, upd_same, ?_, by decide, by decide, by decide, fun H9 d s9 nd hd => ?_⟩
      · rw [List.mem_singleton.mp m]
        exact ⟨rfl, fun x m => nomatch m⟩
      · refine ⟨rfl, fun x m => ?_⟩
        rw [List.mem_singleton.mp m]
        decide
      refine ⟨by show 0 ≤ sizeLine; decide, fun z4 m4 => ?_⟩
      have i4 := same_new (o := .lst []) m4
      refine ne_row (ys := []) (i4 _ _ hd) upd_same ⟨_, rfl, ?_⟩
      have e3 : addZ 5 [[]] [3] 0 = [] := rfl
      rw [decide_eq_true e3]
      refine iteF ?_
      have s89 := same_trans (same_trans i1 (same_trans i2 i3)) (same_trans s9 i4)
      have s59 := same_trans s57 (same_trans j16 s89)
      generalize upd H9 z4 (.lst []) = H10 at s59 ⊢
      -- the flat ones
      refine ⟨by show 0 ≤ sizeLine; decide, fun v1 n1 => ?_⟩
      have o1 := same_new (o := .lst []) n1
      refine ⟨5, v1, 0, [], [], rfl, goods5, upd_same, .nil, (fun xs m => nomatch m), by decide, by decide, fun H11 r3 c3 B3 q3 ⟨s11, _, hr3, hB3, _, bas3, _⟩ => ?_⟩
      have f3 : B3 = [] := bas_flat bas3
      refine ⟨by show 0 ≤ sizeLine; decide, fun v2 n2 => ?_⟩
      have o2 := same_new (o := .lst []) n2
      refine ⟨5, v2, 0, [], [], rfl, goods5, upd_same, .nil, (fun xs m => nomatch m), by decide, by decide, fun H12 B4 q4 s12 bas4 => ?_⟩
      have f4 : B4 = [] := bas_flat bas4
      refine ⟨by show 0 ≤ sizeLine; decide, fun v3 n3 => ⟨by show 0 ≤ sizeLine; decide, fun v4 n4 => ⟨by show 2 ≤ sizeLine; decide, fun v5 n5 => ?_⟩⟩⟩
      have o3 := same_new (o := .lst []) n3
      have o4 := same_new (o := .lst []) n4
      have o5 := same_new (o := .lst [V.ref v3, V.ref v4]) n5
      refine ⟨5, v5, 0, [v3, v4], [[], []], rfl, goods5, upd_same, .cons (o5 _ _ (o4 _ _ upd_same)) (.cons (o5 _ _ upd_same) .nil), fun xs m => ?_, by decide, by decide, fun H13 B5 q5 s13 bas5 => ?_⟩
      · rcases List.mem_cons.mp m with q | q
        · rw [q]
          exact ⟨rfl, fun x m => nomatch m⟩
        · rw [List.mem_singleton.mp q]
          exact ⟨rfl, fun x m => nomatch m⟩
      have f5 : B5 = [] := bas_flat bas5
      subst f3 f4 f5
      refine ⟨by show 3 ≤ sizeLine; decide, fun v6 n6 => ⟨by show 0 ≤ sizeLine; decide, fun v7 n7 => ⟨by show 3 ≤ sizeLine; decide, fun v8 n8 => ?_⟩⟩⟩
      have o6 := same_new (o := .lst [V.ref r3, V.int 0, V.int 0]) n6
      have o7 := same_new (o := .lst []) n7
      have o8 := same_new (o := .lst [V.ref v7, V.int 0, V.int 0]) n8
      have hc3 : c3 = [] := by
        cases hB3
        rfl
      subst hc3
      have o68 := same_trans o6 (same_trans o7 o8)
      have s11e := same_trans (same_trans o2 s12) (same_trans (same_trans o3 (same_trans o4 o5)) (same_trans s13 o68))
      have hr3' := s11e _ _ hr3
      refine ⟨mixD, mixD, ?_, ?_, mix_ok.1, mix_ok.1, ?_⟩
      · exact .lst (SqL.of (o8 _ _ (o7 _ _ upd_same))) (.cons (.lst (SqL.of hr3') .nil) (.cons (.int 0) (.cons (.int 0) .nil)))
      · exact .lst (SqL.of upd_same) (.cons (.lst (SqL.of (o8 _ _ upd_same)) .nil) (.cons (.int 0) (.cons (.int 0) .nil)))
      · rw [mix_ok.2]
        refine ⟨_, rfl, iteF ?_⟩
        obtain ⟨g1, g2⟩ := fin _ (same_trans s59 (same_trans (same_trans o1 s11) s11e))
        exact ⟨⟨_, _, rfl⟩, g1, g2⟩
    · rintro σ H' ⟨⟨u, v, rfl⟩, _, _⟩
      exact want H'
end
end Vb
end L2

set_option Elab.async false
set_option linter.all false
set_option maxRecDepth 100000
set_option maxHeartbeats 8000000
/-! Vb, part 31: the row. -/
namespace L2
namespace Vb
open PySem PySem.Spec PyProof.Rows
section
variable {P : Program} {w : World} {K : PySem.W.Frag} {mg : Str → Option Value} {h base : Heap}
theorem stands_of (G : h.Ns mainGlobals mg) (KX : K.In h) (c : He.SaysX fa fn [] [] ex w h K) : Stands P w K mg base := by
  have cd : He.SaysD fa fn K := c.t.d
  have glo : ∀ x i, (x, i) ∈ defs → mg x = some (.ref (He.ga K x)) := fun x i hx => He.glo_ok KX G (cd.facts (List.mem_append_right _ (List.mem_append_right _ (List.mem_append_left _ (List.mem_map_of_mem (f := fun z : Str × Nat => He.Fa.glo z.1) hx)))))
  refine ⟨fun x i hx => ⟨?_, glo x i hx⟩, fun x hx => He.free_ok KX G (cd.facts (List.mem_append_left _ (List.mem_map_of_mem (f := He.Fa.free) hx))), ?_⟩
  · obtain ⟨fd, F⟩ := cd.defs (d := dG x i) (List.mem_map_of_mem (f := fun z : Str × Nat => dG z.1 z.2) hx)
    exact ⟨fd, fun_of F⟩
  · have m : ex K = true := c.more
    obtain ⟨m1, m2⟩ := He.ba m
    have fr : ∀ x ∈ frees, mg x = none := fun x hx => He.free_ok KX G (cd.facts (List.mem_append_left _ (List.mem_map_of_mem (f := He.Fa.free) hx)))
    refine ⟨fr _ (by decide), fr _ (by decide), He.int_ok KX G (cd.facts (List.mem_append_right _ (List.mem_append_left _ List.mem_cons_self))), ⟨_, He.glo_ok KX G (cd.facts (List.mem_append_right _ (List.mem_append_right _ (List.mem_append_right _ List.mem_cons_self)))), fun H => ?_⟩, He.int_ok KX G (cd.facts (List.mem_append_right _ (List.mem_append_left _ (List.mem_cons_of_mem _ List.mem_cons_self)))), PySem.W.mg_of KX G (He.eqO_ok m1)⟩
    have z := He.tupB_ok m2 H
    rw [List.map_map] at z
    exact z
end
theorem law_end {P : Program} {w : World} {mg mb : Str → Option Value} {fa a : Addr} {s1 : Shared} {vs : List Value} {ns : List Int} (Y : hk.says w s1.heap) (hmg : mg ("law" : Str) = some (.ref fa))
    (gm : s1.heap.Ns mainGlobals mg) (gb : s1.heap.Ns builtinsNs mb) (bb : ∀ x : Str, x ≠ "__name__" → mb x = bootBuiltins x) (lim : s1.heap.NoLimit) (gn : s1.gens = #[])
    (ha : s1.heap.get? a = some { cls := .type "list", data := .seq vs.toArray }) (hi : IntsAre vs ns) (hl : ns.length ≤ 63) :
    codeAny (model P w) callerA (.call (.ref fa) ⟨[.ref a], []⟩) (fun r s' => r = .ok (.ret (.bool true)) ∧ OldK s1.heap s'.heap ∧ s'.os = s1.os ∧ AllBare s'.gens) s1 := by
  obtain ⟨K, KX, c⟩ := Y
  have cd : He.SaysD Vb.fa fn K := c.t.d
  have S : ∀ base : Heap, Stands P w K mg base := fun base => stands_of gm KX c
  obtain ⟨fd, F⟩ := cd.defs (d := dG "law" 50) (List.mem_map_of_mem (f := fun z : Str × Nat => dG z.1 z.2) (a := (("law" : Str), 50)) (by decide))
  have g := ((S s1.heap).fn "law" 50 (by decide)).2
  have e := hmg.symm.trans g
  obtain rfl : fa = He.ga K "law" := by
    cases e
    rfl
  have b := FunD.bindsA (ps := ["_law_script"]) F fun _ _ _ _ _ _ us hl => match us, hl with | [_], _ => rfl
  exact topG (k := 9) (sp := spLaw K) KX gm gb bb lim gn ha hi (Nat.le_trans hl (by decide)) ⟨rfl, by decide, by decide⟩ (fun base _ _ => ok_law (S base) (fun_of F)) (fun s v => b s [v] rfl) fun H hS => ⟨a, ns, rfl, hS, hl, fun _ => rfl⟩
end Vb
end L2
open PySem PySem.W PySem.Calls PyProof.Rows
theorem PySem.Challenge.cw_truestops_k02_whole_bases_holds : PySem.Challenge.rw_truestops_k02_whole_bases.Holds := by
  w_on; o_law
  refine HandSHeadRun.head_imp (r := OpenLaw.row PySem.Challenge.rw_truestops_k02_whole_bases) (q := view (OpenLaw.row PySem.Challenge.rw_truestops_k02_whole_bases).prog [0, 50]) (H := L2.Vb.hk) (ob := L2.Vb.ob) (M := 40000) (loose := L2.Vb.loose) (d := HandSHeadRun.topDef (OpenLaw.row PySem.Challenge.rw_truestops_k02_whole_bases).prog 50) (kwd := []) L2.Vb.ob_eq
    L2.Vb.run (by kernel_rfl) (by kernel_rfl) (by kernel_rfl) (by rfl) (by first | assumption | decide +kernel) (by decide +kernel) ⟨rfl, rfl, rfl, rfl, rfl, by decide +kernel⟩ ?hw ?hc
  case hw => w_witness2
  case hc =>
    refine Att.attach_call (l := PySem.Challenge.rw_truestops_k02_whole_bases) (n := 63) rfl (by kernel_rfl) fun w s₀ s₁ mg mb fa o pm cd doc a vs ns G Y ho hd hcd hmg hobj hints hlen hg => ?_
    have e : (HandSHeadRun.topDef (OpenLaw.row PySem.Challenge.rw_truestops_k02_whole_bases).prog 50).name = ("law" : PySem.Str) := by kernel_rfl
    rw [e] at hmg
    exact L2.Vb.law_end Y hmg G.T.g G.T.b G.T.builtins G.T.nolimit hg hobj hints hlen
