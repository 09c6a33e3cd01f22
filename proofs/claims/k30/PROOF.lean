import PyProof.Rows.All
import Wide.All
import OpenK.AllK
import Wide.FinOn
import HandS.ForMost
import HandS.ForExc
import HandS.Wide
import HandS.Style
import HandS.Walk
import HandS.IsInst
import HandS.Codes
import HandS.ExcOwn
import HandS.TupAny
import HandS.More
import HandS.Flow
import HandS.NoneIn
import HandS.Star
import HandS.Deep
import PyProof.NeKinds
import HandS.DeepEq
import HandS.ExcInit
import HandS.ExcField
import HandS.Property
import HandS.SortKw
import KE.DataMinMax
import HandS.Words
import PySem.Challenge.RW_tailpick_k30_costs
set_option Elab.async false
set_option linter.all false
set_option maxRecDepth 100000
/-! Data and a store above the heap: what a piece of the program does, as a plain function. -/
namespace DD
open PySem PySem.Spec PyProof.Rows L2
/-! ### data -/
/-- plain data; wl: a list that is only read; loc: a thing of the store; ref: a thing known by its place alone -/
inductive D where
  | non | bl (b : Bool) | int (i : Int) | str (s : Str) | ty (n : String) | ref (a : Addr)
  | tup (xs : List D) | lst (xs : List D) | wl (xs : List D) | ins (C : Str) (fs : List (Str × D)) | dk (kvs : List (Key × D)) | loc (n : Nat) | cls (C : Str)
  deriving Inhabited
/-- what the store holds -/
inductive Cell where
  | dead | lst (xs : List D) | ins (C : Str) (fs : List (Str × D)) | dk (kvs : List (Key × D))
  deriving Inhabited
abbrev Sto := List Cell
abbrev Env := List (Option D)
/-- the program's fixed part: K, and where each class stands -/
structure Cm where
  K : PySem.W.Frag
  cm : Str → Addr
/-- what stands where: R never changes any more, ρ the things of the store, F kept by everybody -/
structure Gh where
  R : Hp
  ρ : Nat → Option Addr
  F : Hp
section
variable (c : Cm) (g : Gh)
mutual
inductive Rep : V → D → Prop
  | non : Rep .non .non
  | bl (b : Bool) : Rep (.bl b) (.bl b)
  | int (i : Int) : Rep (.int i) (.int i)
  | str (s : Str) : Rep (.str s) (.str s)
  | ty (n : String) : Rep (.ty n) (.ty n)
  | ref (a : Addr) : Rep (.ref a) (.ref a)
  | tup {a : Addr} {us : List V} {xs : List D} : SqT c.K g.R a us → Reps us xs → Rep (.ref a) (.tup xs)
  | lst {a : Addr} {us : List V} {xs : List D} : g.R a = some (.lst us) → Reps us xs → Rep (.ref a) (.lst xs)
  | wl {a : Addr} {us : List V} {xs : List D} : SqL c.K g.R a us → Reps us xs → Rep (.ref a) (.wl xs)
  | ins {a dx : Addr} {C : Str} {us : List (Str × V)} {fs : List (Str × D)} : g.R a = some (.ins (c.cm C) dx us) → RepF us fs → Rep (.ref a) (.ins C fs)
  | dk {a : Addr} {us : List (Key × V)} {kvs : List (Key × D)} : g.R a = some (.dK us) → RepK us kvs → Rep (.ref a) (.dk kvs)
  | loc {n : Nat} {a : Addr} : g.ρ n = some a → Rep (.ref a) (.loc n)
  | cls (C : Str) : Rep (.ref (c.cm C)) (.cls C)
inductive Reps : List V → List D → Prop
  | nil : Reps [] []
  | cons {v : V} {d : D} {vs : List V} {ds : List D} : Rep v d → Reps vs ds → Reps (v :: vs) (d :: ds)
inductive RepF : List (Str × V) → List (Str × D) → Prop
  | nil : RepF [] []
  | cons {f : Str} {v : V} {d : D} {vs : List (Str × V)} {ds : List (Str × D)} : Rep v d → RepF vs ds → RepF ((f, v) :: vs) ((f, d) :: ds)
inductive RepK : List (Key × V) → List (Key × D) → Prop
  | nil : RepK [] []
  | cons {f : Key} {v : V} {d : D} {vs : List (Key × V)} {ds : List (Key × D)} : Rep v d → RepK vs ds → RepK ((f, v) :: vs) ((f, d) :: ds)
end
end
/-- the world has only grown -/
structure Ext (g g' : Gh) : Prop where
  R : Same g.R g'.R
  ρ : ∀ n a, g.ρ n = some a → g'.ρ n = some a
  F : g'.F = g.F
theorem Ext.refl (g : Gh) : Ext g g := ⟨Same.refl _, fun _ _ h => h, rfl⟩
theorem Ext.trans {a b d : Gh} (x : Ext a b) (y : Ext b d) : Ext a d := ⟨x.R.trans y.R, fun n p h => y.ρ n p (x.ρ n p h), y.F.trans x.F⟩
theorem sqT_same {K : PySem.W.Frag} {H H' : Hp} {a : Addr} {xs : List V} (s : Same H H') (h : SqT K H a xs) : SqT K H' a xs := by
  rcases h with (h | ⟨o, h⟩) | h
  · exact .inl (.inl (s _ _ h))
  · exact .inl (.inr ⟨o, s _ _ h⟩)
  · exact .inr h
section
variable {c : Cm} {g g' : Gh}
mutual
theorem Rep.lift (s : Same g.R g'.R) (t : ∀ n a, g.ρ n = some a → g'.ρ n = some a) {v : V} {d : D} : Rep c g v d → Rep c g' v d
  | .non => .non
  | .bl b => .bl b
  | .int i => .int i
  | .str z => .str z
  | .ty n => .ty n
  | .ref a => .ref a
  | .tup h r => .tup (sqT_same s h) (Reps.lift s t r)
  | .lst h r => .lst (s _ _ h) (Reps.lift s t r)
  | .wl h r => .wl (Same.seq s h) (Reps.lift s t r)
  | .ins h r => .ins (s _ _ h) (RepF.lift s t r)
  | .dk h r => .dk (s _ _ h) (RepK.lift s t r)
  | .loc h => .loc (t _ _ h)
  | .cls C => .cls C
theorem Reps.lift (s : Same g.R g'.R) (t : ∀ n a, g.ρ n = some a → g'.ρ n = some a) {vs : List V} {ds : List D} : Reps c g vs ds → Reps c g' vs ds
  | .nil => .nil
  | .cons h r => .cons (Rep.lift s t h) (Reps.lift s t r)
theorem RepF.lift (s : Same g.R g'.R) (t : ∀ n a, g.ρ n = some a → g'.ρ n = some a) {vs : List (Str × V)} {ds : List (Str × D)} : RepF c g vs ds → RepF c g' vs ds
  | .nil => .nil
  | .cons h r => .cons (Rep.lift s t h) (RepF.lift s t r)
theorem RepK.lift (s : Same g.R g'.R) (t : ∀ n a, g.ρ n = some a → g'.ρ n = some a) {vs : List (Key × V)} {ds : List (Key × D)} : RepK c g vs ds → RepK c g' vs ds
  | .nil => .nil
  | .cons h r => .cons (Rep.lift s t h) (RepK.lift s t r)
end
theorem Rep.mono (x : Ext g g') {v : V} {d : D} (r : Rep c g v d) : Rep c g' v d := Rep.lift x.R x.ρ r
theorem Reps.mono (x : Ext g g') {v : List V} {d : List D} (r : Reps c g v d) : Reps c g' v d := Reps.lift x.R x.ρ r
theorem RepF.mono (x : Ext g g') {v : List (Str × V)} {d : List (Str × D)} (r : RepF c g v d) : RepF c g' v d := RepF.lift x.R x.ρ r
theorem RepK.mono (x : Ext g g') {v : List (Key × V)} {d : List (Key × D)} (r : RepK c g v d) : RepK c g' v d := RepK.lift x.R x.ρ r
end
/-! ### which things of the store a value names -/
mutual
def cl (k : Nat) : D → Bool
  | .tup xs => cls k xs
  | .lst xs => cls k xs
  | .wl xs => cls k xs
  | .ins _ fs => clf k fs
  | .dk kvs => clk k kvs
  | .loc n => decide (n < k)
  | _ => true
def cls (k : Nat) : List D → Bool
  | [] => true
  | d :: r => cl k d && cls k r
def clf (k : Nat) : List (Str × D) → Bool
  | [] => true
  | (_, d) :: r => cl k d && clf k r
def clk (k : Nat) : List (Key × D) → Bool
  | [] => true
  | (_, d) :: r => cl k d && clk k r
end
section
variable {c : Cm} {g g' : Gh}
mutual
theorem Rep.cut (s : Same g.R g'.R) {k : Nat} (t : ∀ n a, n < k → g.ρ n = some a → g'.ρ n = some a) {v : V} {d : D} : Rep c g v d → cl k d = true → Rep c g' v d
  | .non, _ => .non
  | .bl b, _ => .bl b
  | .int i, _ => .int i
  | .str z, _ => .str z
  | .ty n, _ => .ty n
  | .ref a, _ => .ref a
  | .tup h r, q => .tup (sqT_same s h) (Reps.cut s t r q)
  | .lst h r, q => .lst (s _ _ h) (Reps.cut s t r q)
  | .wl h r, q => .wl (Same.seq s h) (Reps.cut s t r q)
  | .ins h r, q => .ins (s _ _ h) (RepF.cut s t r q)
  | .dk h r, q => .dk (s _ _ h) (RepK.cut s t r q)
  | .loc h, q => .loc (t _ _ (of_decide_eq_true q) h)
  | .cls C, _ => .cls C
theorem Reps.cut (s : Same g.R g'.R) {k : Nat} (t : ∀ n a, n < k → g.ρ n = some a → g'.ρ n = some a) {vs : List V} {ds : List D} : Reps c g vs ds → cls k ds = true → Reps c g' vs ds
  | .nil, _ => .nil
  | .cons h r, q => .cons (Rep.cut s t h ((Bool.and_eq_true_iff.mp q).1)) (Reps.cut s t r ((Bool.and_eq_true_iff.mp q).2))
theorem RepF.cut (s : Same g.R g'.R) {k : Nat} (t : ∀ n a, n < k → g.ρ n = some a → g'.ρ n = some a) {vs : List (Str × V)} {ds : List (Str × D)} : RepF c g vs ds → clf k ds = true → RepF c g' vs ds
  | .nil, _ => .nil
  | .cons h r, q => .cons (Rep.cut s t h ((Bool.and_eq_true_iff.mp q).1)) (RepF.cut s t r ((Bool.and_eq_true_iff.mp q).2))
theorem RepK.cut (s : Same g.R g'.R) {k : Nat} (t : ∀ n a, n < k → g.ρ n = some a → g'.ρ n = some a) {vs : List (Key × V)} {ds : List (Key × D)} : RepK c g vs ds → clk k ds = true → RepK c g' vs ds
  | .nil, _ => .nil
  | .cons h r, q => .cons (Rep.cut s t h ((Bool.and_eq_true_iff.mp q).1)) (RepK.cut s t r ((Bool.and_eq_true_iff.mp q).2))
end
mutual
theorem Rep.cl {k : Nat} (dm : ∀ n a, g.ρ n = some a → n < k) {v : V} {d : D} : Rep c g v d → DD.cl k d = true
  | .non => rfl
  | .bl b => rfl
  | .int i => rfl
  | .str z => rfl
  | .ty n => rfl
  | .ref a => rfl
  | .tup h r => Reps.cl dm r
  | .lst h r => Reps.cl dm r
  | .wl h r => Reps.cl dm r
  | .ins h r => RepF.cl dm r
  | .dk h r => RepK.cl dm r
  | .loc h => decide_eq_true (dm _ _ h)
  | .cls C => rfl
theorem Reps.cl {k : Nat} (dm : ∀ n a, g.ρ n = some a → n < k) {vs : List V} {ds : List D} : Reps c g vs ds → DD.cls k ds = true
  | .nil => rfl
  | .cons h r => Bool.and_eq_true_iff.mpr ⟨Rep.cl dm h, Reps.cl dm r⟩
theorem RepF.cl {k : Nat} (dm : ∀ n a, g.ρ n = some a → n < k) {vs : List (Str × V)} {ds : List (Str × D)} : RepF c g vs ds → DD.clf k ds = true
  | .nil => rfl
  | .cons h r => Bool.and_eq_true_iff.mpr ⟨Rep.cl dm h, RepF.cl dm r⟩
theorem RepK.cl {k : Nat} (dm : ∀ n a, g.ρ n = some a → n < k) {vs : List (Key × V)} {ds : List (Key × D)} : RepK c g vs ds → DD.clk k ds = true
  | .nil => rfl
  | .cons h r => Bool.and_eq_true_iff.mpr ⟨Rep.cl dm h, RepK.cl dm r⟩
end
theorem Reps.len : ∀ {vs : List V} {ds : List D}, Reps c g vs ds → vs.length = ds.length
  | _, _, .nil => rfl
  | _, _, .cons _ r => congrArg (· + 1) r.len
theorem Reps.app : ∀ {vs us : List V} {ds es : List D}, Reps c g vs ds → Reps c g us es → Reps c g (vs ++ us) (ds ++ es)
  | _, _, _, _, .nil, s => s
  | _, _, _, _, .cons h r, s => .cons h (r.app s)
theorem Reps.get : ∀ {vs : List V} {ds : List D} {i : Nat} {d : D}, Reps c g vs ds → ds[i]? = some d → ∃ v, vs[i]? = some v ∧ Rep c g v d
  | _, _, _, _, .nil, e => by simp at e
  | _, _, 0, _, .cons (v := v) h _, e => ⟨v, rfl, by obtain rfl := Option.some.inj e; exact h⟩
  | _, _, i + 1, _, .cons _ r, e => by
    obtain ⟨v, a, b⟩ := Reps.get (i := i) r (by simpa using e)
    exact ⟨v, by simpa using a, b⟩
theorem Reps.get' : ∀ {vs : List V} {ds : List D} {i : Nat} {v : V}, Reps c g vs ds → vs[i]? = some v → ∃ d, ds[i]? = some d ∧ Rep c g v d
  | _, _, _, _, .nil, e => by simp at e
  | _, _, 0, _, .cons (d := d) h _, e => ⟨d, rfl, by obtain rfl := Option.some.inj e; exact h⟩
  | _, _, i + 1, _, .cons _ r, e => by
    obtain ⟨v, a, b⟩ := Reps.get' (i := i) r (by simpa using e)
    exact ⟨v, by simpa using a, b⟩
theorem Reps.take : ∀ (n : Nat) {vs : List V} {ds : List D}, Reps c g vs ds → Reps c g (vs.take n) (ds.take n)
  | 0, _, _, _ => .nil
  | _ + 1, _, _, .nil => .nil
  | n + 1, _, _, .cons h r => .cons h (r.take n)
theorem Reps.drop : ∀ (n : Nat) {vs : List V} {ds : List D}, Reps c g vs ds → Reps c g (vs.drop n) (ds.drop n)
  | 0, _, _, r => r
  | _ + 1, _, _, .nil => .nil
  | n + 1, _, _, .cons _ r => r.drop n
theorem Reps.rev : ∀ {vs : List V} {ds : List D}, Reps c g vs ds → Reps c g vs.reverse ds.reverse
  | _, _, .nil => .nil
  | _, _, .cons h r => by
    rw [List.reverse_cons, List.reverse_cons]
    exact r.rev.app (.cons h .nil)
theorem Reps.set {v : V} {d : D} (h : Rep c g v d) : ∀ (n : Nat) {vs : List V} {ds : List D}, Reps c g vs ds → Reps c g (vs.set n v) (ds.set n d)
  | _, _, _, .nil => .nil
  | 0, _, _, .cons _ r => .cons h r
  | n + 1, _, _, .cons q r => .cons q (r.set h n)
theorem Reps.erase : ∀ (n : Nat) {vs : List V} {ds : List D}, Reps c g vs ds → Reps c g (vs.eraseIdx n) (ds.eraseIdx n)
  | _, _, _, .nil => .nil
  | 0, _, _, .cons _ r => r
  | n + 1, _, _, .cons q r => .cons q (r.erase n)
theorem RepF.get : ∀ {vs : List (Str × V)} {ds : List (Str × D)} {f : Str} {d : D}, RepF c g vs ds → ds.lookup f = some d → ∃ v, vs.lookup f = some v ∧ Rep c g v d
  | _, _, _, _, .nil, e => by simp at e
  | _, _, f, d, .cons (f := f0) (v := v) h r, e => by
    rw [List.lookup_cons] at e ⊢
    cases hb : f == f0 with
    | true => rw [hb] at e; obtain rfl := Option.some.inj e; exact ⟨v, rfl, h⟩
    | false => rw [hb] at e; exact RepF.get r e
theorem RepF.none : ∀ {vs : List (Str × V)} {ds : List (Str × D)} {f : Str}, RepF c g vs ds → ds.lookup f = none → vs.lookup f = none
  | _, _, _, .nil, e => rfl
  | _, _, f, .cons (f := f0) h r, e => by
    rw [List.lookup_cons] at e ⊢
    cases hb : f == f0 with
    | true => rw [hb] at e; cases e
    | false => rw [hb] at e; exact RepF.none r e
end
/-! ### the store is held -/
def CellOk (c : Cm) (g : Gh) (H : Hp) (n : Nat) : Cell → Prop
  | .dead => True
  | .lst ds => ∃ a us, g.ρ n = some a ∧ g.R a = none ∧ H a = some (.lst us) ∧ Reps c g us ds
  | .ins C fs => ∃ a dx us, g.ρ n = some a ∧ g.R a = none ∧ H a = some (.ins (c.cm C) dx us) ∧ RepF c g us fs
  | .dk kvs => ∃ a us, g.ρ n = some a ∧ g.R a = none ∧ H a = some (.dK us) ∧ RepK c g us kvs
structure Sat (c : Cm) (g : Gh) (H : Hp) (S : Sto) : Prop where
  sub : Same g.R H
  dom : ∀ n a, g.ρ n = some a → n < S.length
  there : ∀ n a, g.ρ n = some a → ∃ o, H a = some o
  inj : ∀ n m a, g.ρ n = some a → g.ρ m = some a → n = m
  cell : ∀ n k, S[n]? = some k → CellOk c g H n k
  kept : ∀ a o, g.F a = some o → H a = some o ∧ g.R a = none ∧ ∀ n, g.ρ n ≠ some a
structure EnvOk (c : Cm) (g : Gh) (σ : L2.St) (Γ : Env) : Prop where
  len : σ.length = Γ.length
  slot : ∀ (i : Nat) (d : D), Γ[i]? = some (some d) → ∃ v, σ[i]? = some (some v) ∧ Rep c g v d
section
variable {c : Cm} {g g' : Gh} {H H' : Hp} {S S' : Sto} {σ : L2.St} {Γ : Env}
theorem EnvOk.mono (x : Ext g g') (e : EnvOk c g σ Γ) : EnvOk c g' σ Γ := ⟨e.len, fun i d h => let ⟨v, a, r⟩ := e.slot i d h; ⟨v, a, r.mono x⟩⟩
theorem EnvOk.set (e : EnvOk c g σ Γ) {i : Nat} {v : V} {d : D} (r : Rep c g v d) : EnvOk c g (σ.set i (some v)) (Γ.set i (some d)) := by
  refine ⟨by rw [List.length_set, List.length_set, e.len], fun j u h => ?_⟩
  by_cases hj : i = j
  · subst hj
    by_cases hi : i < Γ.length
    · rw [List.getElem?_set_self hi] at h
      obtain rfl := Option.some.inj (Option.some.inj h)
      exact ⟨v, by rw [List.getElem?_set_self (by rw [e.len]; exact hi)], r⟩
    · rw [List.getElem?_eq_none (by rw [List.length_set]; omega)] at h
      cases h
  · rw [List.getElem?_set_ne hj] at h ⊢
    exact e.slot j u h
/-- a new thing that never changes -/
theorem Sat.new (s : Sat c g H S) {p : Addr} (hp : H p = none) (o : HO) : Sat c { g with R := upd g.R p o } (upd H p o) S ∧ Ext g { g with R := upd g.R p o } := by
  have hr : g.R p = none := by
    cases e : g.R p with
    | none => rfl
    | some u => rw [s.sub p u e] at hp; cases hp
  have np : ∀ n, g.ρ n ≠ some p := fun n e => by
    obtain ⟨u, z⟩ := s.there n p e
    rw [z] at hp; cases hp
  have sR : Same g.R (upd g.R p o) := fun a u e => by rw [upd_ne (ne_of_none e hr)]; exact e
  have x : Ext g { g with R := upd g.R p o } := ⟨sR, fun _ _ h => h, rfl⟩
  refine ⟨⟨fun a u e => ?_, s.dom, fun n a e => ?_, s.inj, fun n k e => ?_, fun a u e => ?_⟩, x⟩
  · by_cases ha : a = p
    · subst ha; rw [upd_same]; have e : upd g.R a o a = some u := e; rw [upd_same] at e; exact e
    · have e : upd g.R p o a = some u := e
      rw [upd_ne ha] at e ⊢; exact s.sub a u e
  · obtain ⟨u, z⟩ := s.there n a e
    exact ⟨u, by rw [upd_ne (ne_of_none z hp)]; exact z⟩
  · have q := s.cell n k e
    cases k with
    | dead => trivial
    | lst ds =>
      obtain ⟨a, us, h1, h2, h3, h4⟩ := q
      have ha : a ≠ p := fun z => np n (by rw [← z]; exact h1)
      exact ⟨a, us, h1, by show upd g.R p o a = none; rw [upd_ne ha]; exact h2, by rw [upd_ne ha]; exact h3, h4.mono x⟩
    | ins C fs =>
      obtain ⟨a, dx, us, h1, h2, h3, h4⟩ := q
      have ha : a ≠ p := fun z => np n (by rw [← z]; exact h1)
      exact ⟨a, dx, us, h1, by show upd g.R p o a = none; rw [upd_ne ha]; exact h2, by rw [upd_ne ha]; exact h3, h4.mono x⟩
    | dk kvs =>
      obtain ⟨a, us, h1, h2, h3, h4⟩ := q
      have ha : a ≠ p := fun z => np n (by rw [← z]; exact h1)
      exact ⟨a, us, h1, by show upd g.R p o a = none; rw [upd_ne ha]; exact h2, by rw [upd_ne ha]; exact h3, h4.mono x⟩
  · obtain ⟨h1, h2, h3⟩ := s.kept a u e
    have ha : a ≠ p := ne_of_none h1 hp
    exact ⟨by rw [upd_ne ha]; exact h1, by show upd g.R p o a = none; rw [upd_ne ha]; exact h2, h3⟩
/-- a new hidden thing -/
theorem Sat.hid (s : Sat c g H S) (k : Same H H') : Sat c g H' S := by
  refine ⟨s.sub.trans k, s.dom, fun n a e => ?_, s.inj, fun n k' e => ?_, fun a u e => ?_⟩
  · obtain ⟨u, z⟩ := s.there n a e
    exact ⟨u, k _ _ z⟩
  · have q := s.cell n k' e
    cases k' with
    | dead => trivial
    | lst ds =>
      obtain ⟨a, us, h1, h2, h3, h4⟩ := q
      exact ⟨a, us, h1, h2, k _ _ h3, h4⟩
    | ins C fs =>
      obtain ⟨a, dx, us, h1, h2, h3, h4⟩ := q
      exact ⟨a, dx, us, h1, h2, k _ _ h3, h4⟩
    | dk kvs =>
      obtain ⟨a, us, h1, h2, h3, h4⟩ := q
      exact ⟨a, us, h1, h2, k _ _ h3, h4⟩
  · obtain ⟨h1, h2, h3⟩ := s.kept a u e
    exact ⟨k _ _ h1, h2, h3⟩
end
end DD
namespace DD
open PySem PySem.Spec PyProof.Rows L2
/-! ### results -/
inductive Res (α : Type) where
  | ok (a : α) (S : Sto) | exc (C : Str) (fs : List (Str × D)) (S : Sto) | stk
def Res.bind {α β : Type} (r : Res α) (k : α → Sto → Res β) : Res β := match r with
  | .ok a S => k a S
  | .exc C fs S => .exc C fs S
  | .stk => .stk
@[simp] theorem Res.bind_ok {α β : Type} (a : α) (S : Sto) (k : α → Sto → Res β) : (Res.ok a S).bind k = k a S := rfl
@[simp] theorem Res.bind_exc {α β : Type} (C : Str) (fs : List (Str × D)) (S : Sto) (k : α → Sto → Res β) : (Res.exc C fs S : Res α).bind k = .exc C fs S := rfl
@[simp] theorem Res.bind_stk {α β : Type} (k : α → Sto → Res β) : (Res.stk : Res α).bind k = .stk := rfl
/-- an exception may not leave -/
def Res.noexc {α : Type} : Res α → Res α
  | .ok a S => .ok a S
  | _ => .stk
inductive SRes where
  | nx (Γ : Env) (S : Sto) | rt (d : D) (S : Sto) | bk (Γ : Env) (S : Sto) | ct (Γ : Env) (S : Sto) | exc (C : Str) (fs : List (Str × D)) (Γ : Env) (S : Sto) | stk
abbrev XF (α : Type) := Env → Sto → Res α
abbrev EF := XF D
abbrev TF := XF Bool
abbrev AF := XF (List D)
abbrev SF := Env → Sto → SRes
abbrev DF := List D → Sto → Res D
/-- from an expression to a statement -/
def SRes.of {α : Type} (r : Res α) (Γ : Env) (k : α → Sto → SRes) : SRes := match r with
  | .ok a S => k a S
  | .exc C fs S => .exc C fs Γ S
  | .stk => .stk
@[simp] theorem SRes.of_ok {α : Type} (a : α) (S : Sto) (Γ : Env) (k : α → Sto → SRes) : SRes.of (.ok a S) Γ k = k a S := rfl
@[simp] theorem SRes.of_exc {α : Type} (C : Str) (fs : List (Str × D)) (S : Sto) (Γ : Env) (k : α → Sto → SRes) : SRes.of (.exc C fs S : Res α) Γ k = .exc C fs Γ S := rfl
@[simp] theorem SRes.of_stk {α : Type} (Γ : Env) (k : α → Sto → SRes) : SRes.of (.stk : Res α) Γ k = .stk := rfl
def ExcRep (c : Cm) (g : Gh) : Option Addr → List (Str × D) → Prop
  | none, fs => fs = []
  | some a, fs => ∃ us, g.R a = some (.xd us) ∧ RepF c g us fs
def PostX (c : Cm) (g : Gh) (W : XK) (C : Str) (fs : List (Str × D)) (S : Sto) : Prop := ∀ d H' g', Ext g g' → Sat c g' H' S → ExcRep c g' d fs → W (.ref (c.cm C)) d H'
abbrev Rl (α β : Type) := Gh → β → α → Prop
def PostG {α β : Type} (rel : Rl α β) (c : Cm) (g : Gh) (Q : β → Hp → Prop) (W : XK) : Res α → Prop
  | .ok d S => ∀ v H' g', Ext g g' → Sat c g' H' S → rel g' v d → Q v H'
  | .exc C fs S => PostX c g W C fs S
  | .stk => False
theorem PostX.mono {c : Cm} {g g' : Gh} {W : XK} {C : Str} {fs : List (Str × D)} {S : Sto} (x : Ext g g') (h : PostX c g W C fs S) : PostX c g' W C fs S := fun d H' g1 x1 s r => h d H' g1 (x.trans x1) s r
theorem PostG.mono {α β : Type} {rel : Rl α β} {c : Cm} {g g' : Gh} {Q : β → Hp → Prop} {W : XK} {r : Res α} (x : Ext g g') (h : PostG rel c g Q W r) : PostG rel c g' Q W r := by
  cases r with
  | ok a S => exact fun v H' g1 x1 s r => h v H' g1 (x.trans x1) s r
  | exc C fs S => exact PostX.mono x h
  | stk => exact h
theorem PostG.bind {α β γ δ : Type} {rel : Rl α β} {rel' : Rl γ δ} {c : Cm} {g : Gh} {Q : δ → Hp → Prop} {Q1 : β → Hp → Prop} {W : XK} {r : Res α} {k : α → Sto → Res γ} (h : PostG rel' c g Q W (r.bind k))
    (q : ∀ a S1 v H1 g1, Ext g g1 → Sat c g1 H1 S1 → rel g1 v a → PostG rel' c g1 Q W (k a S1) → Q1 v H1) : PostG rel c g Q1 W r := by
  cases r with
  | ok a S => exact fun v H' g1 x1 s r => q a S v H' g1 x1 s r (PostG.mono x1 h)
  | exc C fs S => exact h
  | stk => exact h
def PostS (c : Cm) (g : Gh) (E : Ends) (W : WX) : SRes → Prop
  | .nx Γ S => ∀ σ' H' g', Ext g g' → Sat c g' H' S → EnvOk c g' σ' Γ → E.nx σ' H'
  | .rt d S => ∀ v H' g', Ext g g' → Sat c g' H' S → Rep c g' v d → E.rt v H'
  | .bk Γ S => ∀ σ' H' g', Ext g g' → Sat c g' H' S → EnvOk c g' σ' Γ → E.bk σ' H'
  | .ct Γ S => ∀ σ' H' g', Ext g g' → Sat c g' H' S → EnvOk c g' σ' Γ → E.ct σ' H'
  | .exc C fs Γ S => ∀ d σ' H' g', Ext g g' → Sat c g' H' S → EnvOk c g' σ' Γ → ExcRep c g' d fs → W (.ref (c.cm C)) d σ' H'
  | .stk => False
theorem PostS.mono {c : Cm} {g g' : Gh} {E : Ends} {W : WX} {r : SRes} (x : Ext g g') (h : PostS c g E W r) : PostS c g' E W r := by
  cases r with
  | nx Γ S => exact fun σ' H' g1 x1 s r => h σ' H' g1 (x.trans x1) s r
  | rt d S => exact fun v H' g1 x1 s r => h v H' g1 (x.trans x1) s r
  | bk Γ S => exact fun σ' H' g1 x1 s r => h σ' H' g1 (x.trans x1) s r
  | ct Γ S => exact fun σ' H' g1 x1 s r => h σ' H' g1 (x.trans x1) s r
  | exc C fs Γ S => exact fun d σ' H' g1 x1 s r => h d σ' H' g1 (x.trans x1) s r
  | stk => exact h
/-- from an expression's end to a statement's -/
theorem PostS.of {α β : Type} {rel : Rl α β} {c : Cm} {g : Gh} {E : Ends} {W : WX} {r : Res α} {Γ : Env} {σ : L2.St} {k : α → Sto → SRes} {Q1 : β → Hp → Prop} (e : EnvOk c g σ Γ) (h : PostS c g E W (SRes.of r Γ k))
    (q : ∀ a S1 v H1 g1, Ext g g1 → Sat c g1 H1 S1 → rel g1 v a → PostS c g1 E W (k a S1) → Q1 v H1) : PostG rel c g Q1 (fun cl d H => W cl d σ H) r := by
  cases r with
  | ok a S => exact fun v H' g1 x1 s r => q a S v H' g1 x1 s r (PostS.mono x1 h)
  | exc C fs S => exact fun d H' g' x s z => h d σ H' g' x s (e.mono x) z
  | stk => exact h
/-! ### judgements -/
def RefG {α β : Type} (rel : Rl α β) (c : Cm) (W : WX) (t : L2.St → Hp → (β → Hp → Prop) → Prop) (f : XF α) : Prop :=
  ∀ σ H g Γ S Q, Sat c g H S → EnvOk c g σ Γ → PostG rel c g Q (fun cl d H => W cl d σ H) (f Γ S) → t σ H Q
abbrev rD (c : Cm) : Rl D V := Rep c
abbrev rDs (c : Cm) : Rl (List D) (List V) := Reps c
abbrev rB : Rl Bool Bool := fun _ a b => a = b
def RefS (c : Cm) (W : WX) (t : TS) (f : SF) : Prop := ∀ E σ H g Γ S, Sat c g H S → EnvOk c g σ Γ → PostS c g E W (f Γ S) → t E σ H
def DE (X : Cx) (c : Cm) (W : WX) (e : Expr) (f : EF) : Prop := ∃ t, PE X e t ∧ RefG (rD c) c W t f
def DT (X : Cx) (c : Cm) (W : WX) (e : Expr) (f : TF) : Prop := ∃ t, PT X e t ∧ RefG rB c W t f
def DW (X : Cx) (c : Cm) (W : WX) (e : Expr) (f : TF) : Prop := ∃ t, PW X e t ∧ RefG rB c W t f
def DA (X : Cx) (c : Cm) (W : WX) (es : List Expr) (f : AF) : Prop := ∃ t, PA X es t ∧ RefG (rDs c) c W t f
def DS (X : Cx) (c : Cm) (W : WX) (st : Stmt) (f : SF) : Prop := ∃ t, PS X st t ∧ RefS c W t f
def DSs (X : Cx) (c : Cm) (W : WX) (st : List Stmt) (f : SF) : Prop := ∃ t, PSs X st t ∧ RefS c W t f
/-! ### what the pieces mean -/
def cVar (i : Nat) : EF := fun Γ S => match Γ[i]? with
  | some (some d) => .ok d S
  | _ => .stk
def cC {α : Type} (d : α) : XF α := fun _ S => .ok d S
def cOp (o : D → D → Sto → Res D) (fa fb : EF) : EF := fun Γ S => (fa Γ S).bind fun a S => (fb Γ S).bind fun b S => o a b S
def cUn (o : D → Sto → Res D) (fa : EF) : EF := fun Γ S => (fa Γ S).bind o
def toB : D → Sto → Res Bool
  | .bl b, S => .ok b S
  | _, _ => .stk
def cTest (f : EF) : TF := fun Γ S => (f Γ S).bind toB
def cAnd (f g : TF) : TF := fun Γ S => (f Γ S).bind fun b S => if b = true then g Γ S else .ok false S
def cOr (f g : TF) : TF := fun Γ S => (f Γ S).bind fun b S => if b = true then .ok true S else g Γ S
def cNot (f : TF) : TF := fun Γ S => (f Γ S).bind fun b S => .ok (!b) S
/-- and, or, not as values, of truths -/
def cAndV (f g : EF) : EF := fun Γ S => (f Γ S).bind fun d S => (toB d S).bind fun b S => if b = true then g Γ S else .ok (.bl false) S
def cOrV (f g : EF) : EF := fun Γ S => (f Γ S).bind fun d S => (toB d S).bind fun b S => if b = true then .ok (.bl true) S else g Γ S
def cNotV (f : EF) : EF := fun Γ S => (f Γ S).bind fun d S => (toB d S).bind fun b S => .ok (.bl (!b)) S
def cIf (t : TF) (f g : EF) : EF := fun Γ S => (t Γ S).bind fun b S => if b = true then f Γ S else g Γ S
def cChain (o o' : D → D → Sto → Res D) (fa fb fc : EF) : EF := fun Γ S => (fa Γ S).bind fun a S => (fb Γ S).bind fun b S => (o a b S).bind fun d S => (toB d S).bind fun k S =>
  if k = true then (fc Γ S).bind fun e S => o' b e S else .ok (.bl false) S
def cNil : AF := fun _ S => .ok [] S
def cCons (f : EF) (r : AF) : AF := fun Γ S => (f Γ S).bind fun d S => (r Γ S).bind fun ds S => .ok (d :: ds) S
def lim (n : Nat) : Bool := decide (n ≤ sizeLine)
def cTup (r : AF) : EF := fun Γ S => (r Γ S).bind fun ds S => if lim ds.length = true then .ok (.tup ds) S else .stk
def cLst (r : AF) : EF := fun Γ S => (r Γ S).bind fun ds S => if lim ds.length = true then .ok (.lst ds) S else .stk
def cNew (r : AF) : EF := fun Γ S => (r Γ S).bind fun ds S => if lim ds.length = true then .ok (.loc S.length) (S ++ [.lst ds]) else .stk
def cCB (b : List D → Sto → Res D) (r : AF) : EF := fun Γ S => (r Γ S).bind b
def sNext : SF := fun Γ S => .nx Γ S
def SRes.seq (r : SRes) (k : SF) : SRes := match r with
  | .nx Γ S => k Γ S
  | x => x
def sSeq (a b : SF) : SF := fun Γ S => (a Γ S).seq b
def sSet (i : Nat) (f : EF) : SF := fun Γ S => SRes.of (f Γ S) Γ fun d S => .nx (Γ.set i (some d)) S
def sExpr (f : EF) : SF := fun Γ S => SRes.of (f Γ S) Γ fun _ S => .nx Γ S
def sRet (f : EF) : SF := fun Γ S => SRes.of (f Γ S) Γ fun d S => .rt d S
def sRetN : SF := fun _ S => .rt .non S
def sIf (t : TF) (a b : SF) : SF := fun Γ S => SRes.of (t Γ S) Γ fun k S => if k = true then a Γ S else b Γ S
def sBreak : SF := fun Γ S => .bk Γ S
def sCont : SF := fun Γ S => .ct Γ S
/-! ### the rules -/
section
variable {X : Cx} {c : Cm} {W : WX} {a b e : Expr} {es : List Expr} {pos : Pos} {fa fb fc f : EF} {ft fu : TF} {r : AF}
theorem de_var (i : Nat) {x : Str} {pos : Pos} (hN : X.N[i]? = some x := by rfl) (hv : Vis X.env.scope x := by first | exact Or.inl rfl | exact Or.inr (Or.inl rfl) | exact Or.inr (Or.inr rfl)) (hd : (x == ("__debug__" : Str)) = false := by decide)
    (hcd : (x == ("__classdict__" : Str)) = false := by decide) : DE X c W (.Name x pos) (cVar i) := ⟨_, pe_var hN hv hd hcd, fun σ H g Γ S Q s e h => by
  unfold cVar at h
  cases q : Γ[i]? with
  | none => rw [q] at h; exact h.elim
  | some o =>
    cases o with
    | none => rw [q] at h; exact h.elim
    | some d =>
      rw [q] at h
      obtain ⟨v, a, r⟩ := e.slot i d q
      exact ⟨v, a, h v H g (Ext.refl g) s r⟩⟩
theorem refC {v : V} {d : D} (r : ∀ g, Rep c g v d) : RefG (rD c) c W (tC v) (cC d) := fun σ H g Γ S Q s e h => h v H g (Ext.refl g) s (r g)
theorem de_c {v : V} {d : D} (p : PE X e (tC v)) (r : ∀ g, Rep c g v d) : DE X c W e (cC d) := ⟨_, p, refC r⟩
theorem de_of {t : TE} (p : PE X e t) (r : RefG (rD c) c W t f) : DE X c W e f := ⟨t, p, r⟩
theorem dt_of {t : TT} (p : PT X e t) (r : RefG rB c W t ft) : DT X c W e ft := ⟨t, p, r⟩
/-- an operation on values -/
def OpD (c : Cm) (r : R2) (o : D → D → Sto → Res D) : Prop := ∀ H g S x y a b Q, Sat c g H S → Rep c g x a → Rep c g y b → PostG (rD c) c g Q (fun _ _ _ => False) (o a b S) → r x y H Q
theorem PostG.imp {α β : Type} {rel : Rl α β} {g : Gh} {Q : β → Hp → Prop} {Y Y' : XK} {r : Res α} (h : PostG rel c g Q Y r) (q : ∀ C fs S, r = .exc C fs S → PostX c g Y' C fs S) : PostG rel c g Q Y' r := by
  cases r with
  | ok a S => exact h
  | exc C fs S => exact q C fs S rfl
  | stk => exact h
/-- an operation raises nothing -/
def NoX {α : Type} (r : Res α) : Prop := match r with | .exc _ _ _ => False | _ => True
def OpN (o : D → D → Sto → Res D) : Prop := ∀ a b S, NoX (o a b S)
theorem PostG.nox {α β : Type} {rel : Rl α β} {g : Gh} {Q : β → Hp → Prop} {Y Y' : XK} {r : Res α} (n : NoX r) (h : PostG rel c g Q Y r) : PostG rel c g Q Y' r := by
  cases r with
  | ok a S => exact h
  | exc C fs S => exact n.elim
  | stk => exact h
theorem ref_op {rr : R2} {o : D → D → Sto → Res D} (od : OpD c rr o) (on : OpN o) {ta tb : TE} (ha : RefG (rD c) c W ta fa) (hb : RefG (rD c) c W tb fb) : RefG (rD c) c W (tOp rr ta tb) (cOp o fa fb) := fun σ H g Γ S Q s e h =>
  ha σ H g Γ S _ s e (h.bind fun a S1 v H1 g1 x1 s1 r1 h1 => hb σ H1 g1 Γ S1 _ s1 (e.mono x1) (h1.bind fun b S2 u H2 g2 x2 s2 r2 h2 => od H2 g2 S2 v u a b Q s2 (r1.mono x2) r2 (h2.nox (on a b S2))))
theorem de_op {op : Operator} {rr : R2} {o : D → D → Sto → Res D} (ho : OpR X (binaryOp op) rr) (od : OpD c rr o) (on : OpN o) (ha : DE X c W a fa) (hb : DE X c W b fb) : DE X c W (.BinOp a op b pos) (cOp o fa fb) :=
  let ⟨_, p1, r1⟩ := ha; let ⟨_, p2, r2⟩ := hb; ⟨_, pe_op ho p1 p2, ref_op od on r1 r2⟩
theorem de_cmp {op : CmpOp} {rr : R2} {o : D → D → Sto → Res D} (ho : OpR X (compareOp op) rr) (od : OpD c rr o) (on : OpN o) (ha : DE X c W a fa) (hb : DE X c W b fb) (hm : behindInMarks op b = false) : DE X c W (.Compare a [op] [b] pos) (cOp o fa fb) :=
  let ⟨_, p1, r1⟩ := ha; let ⟨_, p2, r2⟩ := hb; ⟨_, pe_cmpR ho p1 p2 hm, ref_op od on r1 r2⟩
theorem toB_of {rel : Rl Bool Bool} {g : Gh} {Y : XK} {Q : Bool → Hp → Prop} {d : D} {S : Sto} {v : V} {H : Hp} (s : Sat c g H S) (r : Rep c g v d) (h : PostG rB c g Q Y (toB d S)) : ∃ k, v = .bl k ∧ Q k H := by
  cases d with
  | bl k => cases r; exact ⟨k, rfl, h k H g (Ext.refl g) s rfl⟩
  | _ => exact h.elim
theorem ref_test {t : TE} (h : RefG (rD c) c W t f) : RefG rB c W (tTest t) (cTest f) := fun σ H g Γ S Q s e q =>
  h σ H g Γ S _ s e (q.bind fun d S1 v H1 g1 x1 s1 r1 h1 => toB_of (rel := rB) s1 r1 h1)
theorem dt_cmp {op : CmpOp} {rr : R2} {o : D → D → Sto → Res D} (ho : OpR X (compareOp op) rr) (od : OpD c rr o) (on : OpN o) (ha : DE X c W a fa) (hb : DE X c W b fb) (hm : behindInMarks op b = false) : DT X c W (.Compare a [op] [b] pos) (cTest (cOp o fa fb)) :=
  let ⟨_, p1, r1⟩ := ha; let ⟨_, p2, r2⟩ := hb; ⟨_, pt_cmpR ho p1 p2 hm, ref_test (ref_op od on r1 r2)⟩
theorem dt_val (h : DE X c W e f) (hh : ∀ {pl : TE}, PE X e pl → PT X e (tB pl)) : DT X c W e (cTest f) :=
  let ⟨_, p1, r1⟩ := h; ⟨_, hh p1, ref_test r1⟩
theorem ref_chain {rr rr' : R2} {o o' : D → D → Sto → Res D} (od : OpD c rr o) (on : OpN o) (od' : OpD c rr' o') (on' : OpN o') {ta tb tc : TE} (ha : RefG (rD c) c W ta fa) (hb : RefG (rD c) c W tb fb) (hc : RefG (rD c) c W tc fc) :
    RefG (rD c) c W (tChain rr rr' ta tb tc) (cChain o o' fa fb fc) := fun σ H g Γ S Q s e h =>
  ha σ H g Γ S _ s e (h.bind fun a S1 v H1 g1 x1 s1 r1 h1 => hb σ H1 g1 Γ S1 _ s1 (e.mono x1) (h1.bind fun b S2 u H2 g2 x2 s2 r2 h2 =>
    od H2 g2 S2 v u a b _ s2 (r1.mono x2) r2 (PostG.nox (Y := fun cl d H => W cl d σ H) (on a b S2) (h2.bind fun d S3 z H3 g3 x3 s3 r3 h3 => by
      refine toB_of (c := c) (Y := fun cl d H => W cl d σ H) (rel := rB) (Q := fun k H3 => if k = true then tc σ H3 fun w' H4 => rr' u w' H4 Q else Q (.bl false) H3) s3 r3 (h3.bind fun k S4 k' H4 g4 x4 s4 r4 h4 => ?_)
      subst r4
      cases k' with
      | true =>
        rw [if_pos rfl] at h4 ⊢
        exact hc σ H4 g4 Γ S4 _ s4 ((((e.mono x1).mono x2).mono x3).mono x4) (h4.bind fun d' S5 w' H5 g5 x5 s5 r5 h5 => od' H5 g5 S5 u w' b d' Q s5 (((r2.mono x3).mono x4).mono x5) r5 (h5.nox (on' b d' S5)))
      | false =>
        rw [if_neg Bool.false_ne_true] at h4 ⊢
        exact h4 _ H4 g4 (Ext.refl g4) s4 (.bl false)))))
theorem de_chain {e3 : Expr} {op op' : CmpOp} {rr rr' : R2} {o o' : D → D → Sto → Res D} (ho : OpR X (compareOp op) rr) (od : OpD c rr o) (on : OpN o) (ho' : OpR X (compareOp op') rr') (od' : OpD c rr' o') (on' : OpN o') (ha : DE X c W a fa) (hb : DE X c W b fb) (hc : DE X c W e3 fc)
    (hm : lastMarks [op, op'] [b, e3] = false := by with_unfolding_all rfl) : DE X c W (.Compare a [op, op'] [b, e3] pos) (cChain o o' fa fb fc) :=
  let ⟨_, p1, r1⟩ := ha; let ⟨_, p2, r2⟩ := hb; let ⟨_, p3, r3⟩ := hc; ⟨_, pe_chain ho ho' p1 p2 p3 hm, ref_chain od on od' on' r1 r2 r3⟩
theorem dt_chain {e3 : Expr} {op op' : CmpOp} {rr rr' : R2} {o o' : D → D → Sto → Res D} (ho : OpR X (compareOp op) rr) (od : OpD c rr o) (on : OpN o) (ho' : OpR X (compareOp op') rr') (od' : OpD c rr' o') (on' : OpN o') (ha : DE X c W a fa) (hb : DE X c W b fb) (hc : DE X c W e3 fc)
    (hm : lastMarks [op, op'] [b, e3] = false := by with_unfolding_all rfl) : DT X c W (.Compare a [op, op'] [b, e3] pos) (cTest (cChain o o' fa fb fc)) :=
  let ⟨_, p1, r1⟩ := ha; let ⟨_, p2, r2⟩ := hb; let ⟨_, p3, r3⟩ := hc; ⟨_, pt_chain ho ho' p1 p2 p3 hm, ref_test (ref_chain od on od' on' r1 r2 r3)⟩
theorem da_nil : DA X c W [] cNil := ⟨_, pa_nil, fun σ H g Γ S Q s e h => h [] H g (Ext.refl g) s .nil⟩
theorem da_cons (ha : DE X c W e f) (hr : DA X c W es r) (hs : starEach (e :: es) X.env = (false, eval e X.env) :: starEach es X.env := by rfl) : DA X c W (e :: es) (cCons f r) :=
  let ⟨_, p1, r1⟩ := ha; let ⟨_, p2, r2⟩ := hr; ⟨_, pa_cons p1 p2 hs, fun σ H g Γ S Q s e h => r1 σ H g Γ S _ s e (h.bind fun a S1 v H1 g1 x1 s1 q1 h1 => r2 σ H1 g1 Γ S1 _ s1 (e.mono x1) (h1.bind fun ds S2 us H2 g2 x2 s2 q2 h2 =>
    h2 (v :: us) H2 g2 (Ext.refl g2) s2 (.cons (q1.mono x2) q2)))⟩
theorem lim_le {n : Nat} (h : lim n = true) : n ≤ sizeLine := of_decide_eq_true h
theorem de_tup {x1} (hr : DA X c W es r) : DE X c W (.Tuple es x1 pos) (cTup r) :=
  let ⟨_, p, q⟩ := hr; ⟨_, pe_tup p, fun σ H g Γ S Q s e h => q σ H g Γ S _ s e (h.bind fun ds S1 us H1 g1 x1 s1 r1 h1 => by
    cases hl : lim ds.length with
    | false => rw [hl, if_neg Bool.false_ne_true] at h1; exact h1.elim
    | true =>
      rw [hl, if_pos rfl] at h1
      refine ⟨by rw [r1.len]; exact lim_le hl, fun p hp => ?_⟩
      obtain ⟨s2, x2⟩ := s1.new hp (.tup us)
      exact h1 _ _ _ x2 s2 (.tup (SqT.of upd_same) (r1.mono x2)))⟩
theorem de_lst (hr : DA X c W es r) : DE X c W (.List es pos) (cLst r) :=
  let ⟨_, p, q⟩ := hr; ⟨_, pe_lst p, fun σ H g Γ S Q s e h => q σ H g Γ S _ s e (h.bind fun ds S1 us H1 g1 x1 s1 r1 h1 => by
    cases hl : lim ds.length with
    | false => rw [hl, if_neg Bool.false_ne_true] at h1; exact h1.elim
    | true =>
      rw [hl, if_pos rfl] at h1
      refine ⟨by rw [r1.len]; exact lim_le hl, fun p hp => ?_⟩
      obtain ⟨s2, x2⟩ := s1.new hp (.lst us)
      exact h1 _ _ _ x2 s2 (.lst upd_same (r1.mono x2)))⟩
/-- a new thing of the store -/
theorem Sat.alloc {g : Gh} {H : Hp} {S : Sto} (s : Sat c g H S) {p : Addr} (hp : H p = none) {o : HO} {k : Cell} (ok : ∀ g', Ext g g' → g'.ρ S.length = some p → g'.R p = none → CellOk c g' (upd H p o) S.length k) :
    ∃ g', Ext g g' ∧ g'.ρ S.length = some p ∧ Sat c g' (upd H p o) (S ++ [k]) := by
  have hr : g.R p = none := by
    cases e : g.R p with
    | none => rfl
    | some u => rw [s.sub p u e] at hp; cases hp
  have np : ∀ n, g.ρ n ≠ some p := fun n e => by
    obtain ⟨u, z⟩ := s.there n p e
    rw [z] at hp; cases hp
  have x : Ext g { g with ρ := fun n => if n = S.length then some p else g.ρ n } := ⟨Same.refl _, fun n a h => by
    show (if n = S.length then some p else g.ρ n) = some a
    rw [if_neg (Nat.ne_of_lt (s.dom n a h))]; exact h, rfl⟩
  have eρ : (if S.length = S.length then some p else g.ρ S.length) = some p := if_pos rfl
  refine ⟨_, x, eρ, fun a u e => ?_, fun n a e => ?_, fun n a e => ?_, fun n m a e1 e2 => ?_, fun n k' e => ?_, fun a u e => ?_⟩
  · rw [upd_ne (fun z => by subst z; rw [show g.R a = some u from e] at hr; cases hr)]; exact s.sub a u e
  · rw [List.length_append, List.length_singleton]
    by_cases hn : n = S.length
    · omega
    · have e : (if n = S.length then some p else g.ρ n) = some a := e
      rw [if_neg hn] at e
      have := s.dom n a e
      omega
  · have e : (if n = S.length then some p else g.ρ n) = some a := e
    by_cases hn : n = S.length
    · rw [if_pos hn] at e
      obtain rfl := Option.some.inj e
      exact ⟨o, upd_same⟩
    · rw [if_neg hn] at e
      obtain ⟨u, z⟩ := s.there n a e
      exact ⟨u, by rw [upd_ne (fun w => by subst w; rw [hp] at z; cases z)]; exact z⟩
  · have e1 : (if n = S.length then some p else g.ρ n) = some a := e1
    have e2 : (if m = S.length then some p else g.ρ m) = some a := e2
    by_cases hn : n = S.length
    · by_cases hm : m = S.length
      · rw [hn, hm]
      · rw [if_pos hn] at e1; rw [if_neg hm] at e2
        obtain rfl := Option.some.inj e1
        exact (np m e2).elim
    · by_cases hm : m = S.length
      · rw [if_neg hn] at e1; rw [if_pos hm] at e2
        obtain rfl := Option.some.inj e2
        exact (np n e1).elim
      · rw [if_neg hn] at e1; rw [if_neg hm] at e2
        exact s.inj n m a e1 e2
  · by_cases hn : n < S.length
    · rw [List.getElem?_append_left hn] at e
      have q := s.cell n k' e
      have nm : ∀ {a}, g.ρ n = some a → a ≠ p := fun {a} h z => np n (by rw [← z]; exact h)
      cases k' with
      | dead => trivial
      | lst ds =>
        obtain ⟨a, us, h1, h2, h3, h4⟩ := q
        exact ⟨a, us, x.ρ _ _ h1, h2, by rw [upd_ne (nm h1)]; exact h3, h4.mono x⟩
      | ins C fs =>
        obtain ⟨a, dx, us, h1, h2, h3, h4⟩ := q
        exact ⟨a, dx, us, x.ρ _ _ h1, h2, by rw [upd_ne (nm h1)]; exact h3, h4.mono x⟩
      | dk kvs =>
        obtain ⟨a, us, h1, h2, h3, h4⟩ := q
        exact ⟨a, us, x.ρ _ _ h1, h2, by rw [upd_ne (nm h1)]; exact h3, h4.mono x⟩
    · have hn' : n = S.length := by
        have := (List.getElem?_eq_some_iff.mp e).1
        rw [List.length_append, List.length_singleton] at this
        omega
      subst hn'
      rw [List.getElem?_append_right (Nat.le_refl _), Nat.sub_self] at e
      obtain rfl := Option.some.inj e
      exact ok _ x eρ hr
  · obtain ⟨h1, h2, h3⟩ := s.kept a u e
    refine ⟨by rw [upd_ne (ne_of_none h1 hp)]; exact h1, h2, fun n z => ?_⟩
    have z : (if n = S.length then some p else g.ρ n) = some a := z
    by_cases hn : n = S.length
    · rw [if_pos hn] at z
      obtain rfl := Option.some.inj z
      rw [h1] at hp; cases hp
    · rw [if_neg hn] at z
      exact h3 n z
theorem de_new (hr : DA X c W es r) : DE X c W (.List es pos) (cNew r) :=
  let ⟨_, p, q⟩ := hr; ⟨_, pe_lst p, fun σ H g Γ S Q s e h => q σ H g Γ S _ s e (h.bind fun ds S1 us H1 g1 x1 s1 r1 h1 => by
    cases hl : lim ds.length with
    | false => rw [hl, if_neg Bool.false_ne_true] at h1; exact h1.elim
    | true =>
      rw [hl, if_pos rfl] at h1
      refine ⟨by rw [r1.len]; exact lim_le hl, fun p hp => ?_⟩
      obtain ⟨g2, x2, e2, s2⟩ := s1.alloc hp (o := .lst us) (k := .lst ds) fun g' x' e' r' => ⟨p, us, e', r', upd_same, r1.mono x'⟩
      exact h1 _ _ g2 x2 s2 (.loc e2))⟩
end
end DD
namespace DD
open PySem PySem.Spec PyProof.Rows L2
/-- a value's truth -/
def truD : D → Sto → Res Bool
  | .non, S => .ok false S
  | .bl b, S => .ok b S
  | .int i, S => .ok (i != 0) S
  | .str z, S => if lim z.length = true then .ok ((z.length : Int) != 0) S else .stk
  | .tup xs, S => .ok (!xs.isEmpty) S
  | .lst xs, S => .ok (!xs.isEmpty) S
  | .wl xs, S => .ok (!xs.isEmpty) S
  | .loc n, S => match S[n]? with
    | some (.lst xs) => .ok (!xs.isEmpty) S
    | _ => .stk
  | _, _ => .stk
def cTruth (f : EF) : TF := fun Γ S => (f Γ S).bind truD
/-! ### statements -/
section
variable {X : Cx} {c : Cm} {W : WX} {a b e : Expr} {es : List Expr} {st : Stmt} {sts : List Stmt} {pos : Pos} {fa fb fc f : EF} {ft fu : TF} {r : AF} {s1 s2 : SF}
theorem ref_next : RefS c W tNext sNext := fun E σ H g Γ S s e h => h σ H g (Ext.refl g) s e
theorem dss_nil : DSs X c W [] sNext := ⟨_, pss_nil, ref_next⟩
theorem dss_one (h : DS X c W st s1) : DSs X c W [st] s1 := let ⟨_, p, q⟩ := h; ⟨_, pss_one p, q⟩
theorem PostS.seq {g : Gh} {E : Ends} {r : SRes} {k : SF} {nx' : L2.St → Hp → Prop} (h : PostS c g E W (r.seq k)) (q : ∀ Γ S σ' H' g', Ext g g' → Sat c g' H' S → EnvOk c g' σ' Γ → PostS c g' E W (k Γ S) → nx' σ' H') : PostS c g { E with nx := nx' } W r := by
  cases r with
  | nx Γ S => exact fun σ' H' g1 x1 s e => q Γ S σ' H' g1 x1 s e (PostS.mono x1 h)
  | rt d S => exact h
  | bk Γ S => exact h
  | ct Γ S => exact h
  | exc C fs Γ S => exact h
  | stk => exact h
theorem ref_seq {t u : TS} (h1 : RefS c W t s1) (h2 : RefS c W u s2) : RefS c W (tSeq t u) (sSeq s1 s2) := fun E σ H g Γ S s e h =>
  h1 _ σ H g Γ S s e (h.seq fun Γ' S' σ' H' g' x s' e' h' => h2 E σ' H' g' Γ' S' s' e' h')
theorem dss_cons (h1 : DS X c W st s1) (h2 : DSs X c W sts s2) : DSs X c W (st :: sts) (sSeq s1 s2) :=
  let ⟨_, p1, r1⟩ := h1; let ⟨_, p2, r2⟩ := h2; ⟨_, pss_cons p1 p2, ref_seq r1 r2⟩
theorem ds_break : DS X c W (.Break pos) sBreak := ⟨_, ps_break, fun E σ H g Γ S s e h => h σ H g (Ext.refl g) s e⟩
theorem ds_continue : DS X c W (.Continue pos) sCont := ⟨_, ps_continue, fun E σ H g Γ S s e h => h σ H g (Ext.refl g) s e⟩
theorem ds_pass : DS X c W (.Pass pos) sNext := ⟨_, ps_pass, ref_next⟩
theorem ds_expr (h : DE X c W e f) (hs : swapsWith e none pos.line X.env = pure false := by rfl) : DS X c W (.Expr e pos) (sExpr f) :=
  let ⟨_, p, q⟩ := h; ⟨_, ps_expr p hs, fun E σ H g Γ S s e h => q σ H g Γ S _ s e (PostS.of e h fun d S1 v H1 g1 x1 s1 r1 h1 => h1 σ H1 g1 (Ext.refl g1) s1 (e.mono x1))⟩
theorem ds_ret (h : DE X c W e f) : DS X c W (.Return (some e) pos) (sRet f) :=
  let ⟨_, p, q⟩ := h; ⟨_, ps_ret p, fun E σ H g Γ S s e h => q σ H g Γ S _ s e (PostS.of e h fun d S1 v H1 g1 x1 s1 r1 h1 => h1 v H1 g1 (Ext.refl g1) s1 r1)⟩
theorem ds_retN : DS X c W (.Return none pos) sRetN := ⟨_, ps_retN, fun E σ H g Γ S s e h => h _ H g (Ext.refl g) s .non⟩
theorem ds_if {t : Expr} {x y : List Stmt} (ht : DT X c W t ft) (h1 : DSs X c W x s1) (h2 : DSs X c W y s2) : DS X c W (.If t x y pos) (sIf ft s1 s2) :=
  let ⟨_, p, q⟩ := ht; let ⟨_, p1, r1⟩ := h1; let ⟨_, p2, r2⟩ := h2; ⟨_, ps_if p p1 p2, fun E σ H g Γ S s e h => q σ H g Γ S _ s e (PostS.of (rel := rB) e h fun k S1 k' H1 g1 x1 s1 r1' h1 => by
    subst r1'
    cases k' with
    | true => rw [if_pos rfl] at h1 ⊢; exact r1 E σ H1 g1 Γ S1 s1 (e.mono x1) h1
    | false => rw [if_neg Bool.false_ne_true] at h1 ⊢; exact r2 E σ H1 g1 Γ S1 s1 (e.mono x1) h1)⟩
/-! ### tests -/
theorem isEmpty_reps {g : Gh} {us : List V} {ds : List D} (r : Reps c g us ds) : (!us.isEmpty) = !ds.isEmpty := by
  cases r <;> rfl
theorem dt_and1 (h : DT X c W a ft) : DW X c W (.BoolOp .And [a] pos) ft := let ⟨_, p, q⟩ := h; ⟨_, pw_and1 p, q⟩
theorem dt_or1 (h : DT X c W a ft) : DW X c W (.BoolOp .Or [a] pos) ft := let ⟨_, p, q⟩ := h; ⟨_, pw_or1 p, q⟩
theorem dt_and {rest : List Expr} (h : DT X c W a ft) (h2 : DW X c W (.BoolOp .And (b :: rest) pos) fu) : DW X c W (.BoolOp .And (a :: b :: rest) pos) (cAnd ft fu) :=
  let ⟨_, p1, q1⟩ := h; let ⟨_, p2, q2⟩ := h2; ⟨_, pw_and p1 p2, fun σ H g Γ S Q s e h => q1 σ H g Γ S _ s e (h.bind (rel := rB) fun k S1 k' H1 g1 x1 s1 r1 h1 => by
    subst r1
    cases k' with
    | true => rw [if_pos rfl] at h1 ⊢; exact q2 σ H1 g1 Γ S1 _ s1 (e.mono x1) h1
    | false => rw [if_neg Bool.false_ne_true] at h1 ⊢; exact h1 _ H1 g1 (Ext.refl g1) s1 rfl)⟩
theorem dt_or {rest : List Expr} (h : DT X c W a ft) (h2 : DW X c W (.BoolOp .Or (b :: rest) pos) fu) : DW X c W (.BoolOp .Or (a :: b :: rest) pos) (cOr ft fu) :=
  let ⟨_, p1, q1⟩ := h; let ⟨_, p2, q2⟩ := h2; ⟨_, pw_or p1 p2, fun σ H g Γ S Q s e h => q1 σ H g Γ S _ s e (h.bind (rel := rB) fun k S1 k' H1 g1 x1 s1 r1 h1 => by
    subst r1
    cases k' with
    | true => rw [if_pos rfl] at h1 ⊢; exact h1 _ H1 g1 (Ext.refl g1) s1 rfl
    | false => rw [if_neg Bool.false_ne_true] at h1 ⊢; exact q2 σ H1 g1 Γ S1 _ s1 (e.mono x1) h1)⟩
theorem dt_w (h : DW X c W e ft) : DT X c W e ft := let ⟨_, p, q⟩ := h; ⟨_, p.pt, q⟩
theorem dt_not (h : DT X c W a ft) : DT X c W (.UnaryOp .Not a pos) (cNot ft) :=
  let ⟨_, p, q⟩ := h; ⟨_, pt_not p, fun σ H g Γ S Q s e h => q σ H g Γ S _ s e (h.bind (rel := rB) fun k S1 k' H1 g1 x1 s1 r1 h1 => by
    subst r1; exact h1 _ H1 g1 (Ext.refl g1) s1 rfl)⟩
theorem de_if {t : Expr} (ht : DT X c W t ft) (h1 : DE X c W a fa) (h2 : DE X c W b fb) : DE X c W (.IfExp t a b pos) (cIf ft fa fb) :=
  let ⟨_, p, q⟩ := ht; let ⟨_, p1, r1⟩ := h1; let ⟨_, p2, r2⟩ := h2; ⟨_, pe_ifExp p p1 p2, fun σ H g Γ S Q s e h => q σ H g Γ S _ s e (h.bind (rel := rB) fun k S1 k' H1 g1 x1 s1 r1' h1 => by
    subst r1'
    cases k' with
    | true => rw [if_pos rfl] at h1 ⊢; exact r1 σ H1 g1 Γ S1 _ s1 (e.mono x1) h1
    | false => rw [if_neg Bool.false_ne_true] at h1 ⊢; exact r2 σ H1 g1 Γ S1 _ s1 (e.mono x1) h1)⟩
theorem de_one {op} (h : DE X c W a fa) : DE X c W (.BoolOp op [a] pos) fa := let ⟨_, p, q⟩ := h; ⟨_, pe_one p, q⟩
theorem de_and {rest : List Expr} (h : DE X c W a fa) (h2 : DE X c W (.BoolOp .And (b :: rest) pos) fb) : DE X c W (.BoolOp .And (a :: b :: rest) pos) (cAndV fa fb) :=
  let ⟨_, p1, q1⟩ := h; let ⟨_, p2, q2⟩ := h2; ⟨_, pe_and p1 p2, fun σ H g Γ S Q s e h => q1 σ H g Γ S _ s e (h.bind fun d S1 v H1 g1 x1 s1 r1 h1 => by
    cases d with
    | bl k =>
      cases r1
      refine ⟨k, rfl, ?_⟩
      cases k with
      | true => rw [if_pos rfl]; exact q2 σ H1 g1 Γ S1 _ s1 (e.mono x1) h1
      | false => rw [if_neg Bool.false_ne_true]; exact h1 _ H1 g1 (Ext.refl g1) s1 (.bl false)
    | _ => exact h1.elim)⟩
theorem de_or {rest : List Expr} (h : DE X c W a fa) (h2 : DE X c W (.BoolOp .Or (b :: rest) pos) fb) : DE X c W (.BoolOp .Or (a :: b :: rest) pos) (cOrV fa fb) :=
  let ⟨_, p1, q1⟩ := h; let ⟨_, p2, q2⟩ := h2; ⟨_, pe_or p1 p2, fun σ H g Γ S Q s e h => q1 σ H g Γ S _ s e (h.bind fun d S1 v H1 g1 x1 s1 r1 h1 => by
    cases d with
    | bl k =>
      cases r1
      refine ⟨k, rfl, ?_⟩
      cases k with
      | true => rw [if_pos rfl]; exact h1 _ H1 g1 (Ext.refl g1) s1 (.bl true)
      | false => rw [if_neg Bool.false_ne_true]; exact q2 σ H1 g1 Γ S1 _ s1 (e.mono x1) h1
    | _ => exact h1.elim)⟩
theorem de_not (h : DE X c W a fa) : DE X c W (.UnaryOp .Not a pos) (cNotV fa) :=
  let ⟨_, p1, q1⟩ := h; ⟨_, pe_not p1, fun σ H g Γ S Q s e h => q1 σ H g Γ S _ s e (h.bind fun d S1 v H1 g1 x1 s1 r1 h1 => by
    cases d with
    | bl k => cases r1; exact ⟨k, rfl, h1 _ H1 g1 (Ext.refl g1) s1 (.bl _)⟩
    | _ => exact h1.elim)⟩
theorem ref_truth {t : TE} (hK : c.K = X.K) (h : RefG (rD c) c W t f) : RefG rB c W (fun σ H Q => t σ H fun x H' => ∃ k, TruV X.K x H' k ∧ Q k H') (cTruth f) := fun σ H g Γ S Q s e q =>
  h σ H g Γ S _ s e (q.bind fun d S1 v H1 g1 x1 s1 r1 h1 => by
    have fin : ∀ {k : Bool}, PostG rB c g1 Q (fun cl d H => W cl d σ H) (.ok k S1) → Q k H1 := fun {k} z => z k H1 g1 (Ext.refl g1) s1 rfl
    cases d with
    | non => cases r1; exact ⟨false, rfl, fin h1⟩
    | bl k => cases r1; exact ⟨k, rfl, fin h1⟩
    | int i => cases r1; exact ⟨_, rfl, fin h1⟩
    | str z =>
      cases r1
      have h1 : PostG rB c g1 Q _ (if lim z.length = true then Res.ok ((z.length : Int) != 0) S1 else .stk) := h1
      cases hl : lim z.length with
      | false => rw [hl, if_neg Bool.false_ne_true] at h1; exact h1.elim
      | true => rw [hl, if_pos rfl] at h1; exact ⟨_, ⟨lim_le hl, rfl⟩, fin h1⟩
    | tup xs =>
      cases r1 with
      | tup hq r => exact ⟨_, .inr (.inl ⟨_, hK ▸ sqT_same s1.sub hq, by rw [isEmpty_reps r]⟩), fin h1⟩
    | lst xs =>
      cases r1 with
      | lst hq r => exact ⟨_, .inl ⟨_, SqL.of (s1.sub _ _ hq), by rw [isEmpty_reps r]⟩, fin h1⟩
    | wl xs =>
      cases r1 with
      | wl hq r => exact ⟨_, .inl ⟨_, hK ▸ Same.seq s1.sub hq, by rw [isEmpty_reps r]⟩, fin h1⟩
    | loc n =>
      cases r1 with
      | loc hn =>
        have h1 : PostG rB c g1 Q _ (match S1[n]? with | some (.lst xs) => Res.ok (!xs.isEmpty) S1 | _ => .stk) := h1
        cases hc : S1[n]? with
        | none => rw [hc] at h1; exact h1.elim
        | some k =>
          rw [hc] at h1
          cases k with
          | lst xs =>
            obtain ⟨a, us, e1, e2, e3, e4⟩ := s1.cell n _ hc
            rw [hn] at e1
            obtain rfl := Option.some.inj e1
            exact ⟨_, .inl ⟨_, SqL.of e3, by rw [isEmpty_reps e4]⟩, fin h1⟩
          | _ => exact h1.elim
    | _ => exact h1.elim)
theorem dt_truth (hK : c.K = X.K) (h : DE X c W e f) (he : ∀ whole, isTrue e X.env whole = (do let v ← whole; standAt e.pos; holding [v] (truthy v)) := by intro _; rfl) : DT X c W e (cTruth f) :=
  let ⟨_, p, q⟩ := h; ⟨_, pt_truth p he, ref_truth hK q⟩
end
/-! ### targets -/
abbrev GF := D → Env → Option Env
def gN (i : Nat) : GF := fun d Γ => some (Γ.set i (some d))
abbrev GsF := List D → Env → Option Env
def gsNil : GsF := fun ds Γ => match ds with
  | [] => some Γ
  | _ => none
def gsCons (a : GF) (r : GsF) : GsF := fun ds Γ => match ds with
  | d :: ds => (a d Γ).bind (r ds)
  | [] => none
/-- (a, b, ..) = a tuple of n things -/
def gT (n : Nat) (r : GsF) : GF := fun d Γ => match d with
  | .tup xs => if xs.length = n then r xs Γ else none
  | _ => none
def sAsg (gf : GF) (f : EF) : SF := fun Γ S => SRes.of (f Γ S) Γ fun d S => match gf d Γ with
  | some Γ' => .nx Γ' S
  | none => .stk
def RefT (c : Cm) (t : TG) (f : GF) : Prop := ∀ v d σ H g Γ Γ' S Q, Sat c g H S → EnvOk c g σ Γ → Rep c g v d → f d Γ = some Γ' → (∀ σ', EnvOk c g σ' Γ' → Q σ' H) → t v σ H Q
def RefTs (c : Cm) (t : TGs) (f : GsF) : Prop := ∀ vs ds σ H g Γ Γ' S Q, Sat c g H S → EnvOk c g σ Γ → Reps c g vs ds → f ds Γ = some Γ' → (∀ σ', EnvOk c g σ' Γ' → Q σ' H) → t vs σ H Q
/-- the target stores in these slots alone -/
def InV (t : TG) (vs : List Nat) : Prop := ∀ v σ H (Q Q' : L2.St → Hp → Prop), t v σ H Q → (∀ σ' H', Q σ' H' → wipe σ' vs = wipe σ vs → Q' σ' H') → t v σ H Q'
def InVs (t : TGs) (vs : List Nat) : Prop := ∀ v σ H (Q Q' : L2.St → Hp → Prop), t v σ H Q → (∀ σ' H', Q σ' H' → wipe σ' vs = wipe σ vs → Q' σ' H') → t v σ H Q'
def DG (X : Cx) (c : Cm) (tg : Expr) (f : GF) (vs : List Nat) : Prop := ∃ t, PG X tg t ∧ RefT c t f ∧ InV t vs
def DGs (X : Cx) (c : Cm) (tg : List Expr) (f : GsF) (vs : List Nat) : Prop := ∃ t, PGs X tg t ∧ RefTs c t f ∧ InVs t vs
theorem wipe_eqv {σ σ' : L2.St} (hl : σ.length = σ'.length) : ∀ {vs : List Nat}, (∀ i, i ∉ vs → σ[i]? = σ'[i]?) → wipe σ vs = wipe σ' vs := by
  intro vs h
  have key : ∀ (vs : List Nat) (τ : L2.St) (i : Nat), (wipe τ vs)[i]? = if i ∈ vs then (if i < τ.length then some none else none) else τ[i]? := by
    intro vs τ
    induction vs with
    | nil => intro i; simp [wipe]
    | cons v r ih =>
      intro i
      show ((wipe τ r).set v none)[i]? = _
      by_cases hv : v = i
      · subst hv
        rw [List.getElem?_set]
        simp [wipe_length]
      · rw [List.getElem?_set_ne hv, ih i]
        have : i ≠ v := fun z => hv z.symm
        by_cases hr : i ∈ r
        · simp [hr]
        · simp [hr, this]
  apply List.ext_getElem?
  intro i
  rw [key, key]
  by_cases hi : i ∈ vs
  · rw [if_pos hi, if_pos hi, hl]
  · rw [if_neg hi, if_neg hi]
    exact h i hi
section
variable {X : Cx} {c : Cm} {W : WX} {a b e : Expr} {es : List Expr} {pos : Pos} {f : EF} {gf : GF} {gr : GsF} {vs : List Nat}
theorem dg_name {i : Nat} {x : Str} (hN : X.N.Nodup) (hi : X.N[i]? = some x) (hx : Loc X.env.scope x) (hv : i ∈ vs) (hf : X.fn x = true ∨ X.env.scope.names.lookup x = some .local := by first | exact .inl rfl | exact .inr rfl | assumption) : DG X c (.Name x pos) (gN i) vs := by
  refine ⟨_, pg_name hN hi hx hf, fun v d σ H g Γ Γ' S Q s e r h q => ?_, fun v σ H Q Q' q k => k _ _ q ?_⟩
  · obtain rfl := Option.some.inj h
    exact q _ (e.set r)
  · exact wipe_eqv (by rw [List.length_set]) fun j hj => by rw [List.getElem?_set_ne (fun z => hj (by subst z; exact hv))]
theorem dgs_nil : DGs X c [] gsNil vs := by
  refine ⟨_, pgs_nil, fun us ds σ H g Γ Γ' S Q s e r h q => ?_, fun v σ H Q Q' q k => ⟨q.1, k _ _ q.2 rfl⟩⟩
  cases r with
  | nil =>
    obtain rfl := Option.some.inj h
    exact ⟨rfl, q _ e⟩
  | cons r rs => cases h
theorem dgs_cons (h1 : DG X c a gf vs) (h2 : DGs X c es gr vs) (hs : (assignEach (a :: es) X.env).map (·.2) = assign a X.env :: (assignEach es X.env).map (·.2) := by rfl) : DGs X c (a :: es) (gsCons gf gr) vs := by
  obtain ⟨t, p, q, i1⟩ := h1
  obtain ⟨u, p2, q2, i2⟩ := h2
  refine ⟨_, pgs_cons p p2 hs, fun us ds σ H g Γ Γ' S Q s e r h k => ?_, fun v σ H Q Q' q k => ?_⟩
  · cases r with
    | nil => cases h
    | cons r rs =>
      have h : (gf _ Γ).bind (gr _) = some Γ' := h
      obtain ⟨Γ1, h1, h2⟩ := Option.bind_eq_some_iff.mp h
      exact ⟨_, _, rfl, q _ _ σ H g Γ Γ1 S _ s e r h1 fun σ1 e1 => q2 _ _ σ1 H g Γ1 Γ' S Q s e1 rs h2 k⟩
  · obtain ⟨v0, r0, rfl, q⟩ := q
    exact ⟨v0, r0, rfl, i1 v0 σ H _ _ q fun σ1 H1 q1 w1 => i2 r0 σ1 H1 _ _ q1 fun σ2 H2 q2 w2 => k σ2 H2 q2 (w2.trans w1)⟩
theorem dg_tup {k n : Nat} (hK : c.K = X.K) (hc : X.calm = true) (h : DGs X c es gr vs) (hn : (assignEach es X.env).length = n := by rfl) (hst : (assignEach es X.env).findIdx? (·.1) = none := by rfl) : DG X c (.Tuple es k pos) (gT n gr) vs := by
  obtain ⟨t, p, q, i1⟩ := h
  refine ⟨_, pg_tup hc p hn hst, fun v d σ H g Γ Γ' S Q s e r h k => ?_, fun v σ H Q Q' q k => ?_⟩
  · cases d with
    | tup xs =>
      cases r with
      | tup hq r =>
        have h : (if xs.length = n then gr xs Γ else none) = some Γ' := h
        by_cases hl : xs.length = n
        · rw [if_pos hl] at h
          exact ⟨_, _, rfl, hK ▸ sqT_same s.sub hq, by rw [r.len, hl], q _ _ σ H g Γ Γ' S Q s e r h k⟩
        · rw [if_neg hl] at h; cases h
    | _ => cases h
  · obtain ⟨a, xs, rfl, h1, h2, q⟩ := q
    exact ⟨a, xs, rfl, h1, h2, i1 xs σ H _ _ q k⟩
theorem ds_asg {tg : Expr} (he : DE X c W e f) (hg : DG X c tg gf vs) (hs : swapsWithSole [tg] e pos.line X.env = pure false := by rfl) (hw : swappedStores [tg] e X.env = pure none := by rfl) (ha : (assignEach [tg] X.env).map (·.2) = [assign tg X.env] := by rfl) : DS X c W (.Assign [tg] e pos) (sAsg gf f) := by
  obtain ⟨t, p, q⟩ := he
  obtain ⟨u, p2, q2, _⟩ := hg
  refine ⟨_, ps_asg p p2 hs hw ha, fun E σ H g Γ S s e h => q σ H g Γ S _ s e (PostS.of e h fun d S1 v H1 g1 x1 s1 r1 h1 => ?_)⟩
  cases hg : gf d Γ with
  | none => have h1 : PostS c g1 E W (match gf d Γ with | some Γ' => SRes.nx Γ' S1 | none => .stk) := h1; rw [hg] at h1; exact h1.elim
  | some Γ' =>
    have h1 : PostS c g1 E W (match gf d Γ with | some Γ' => SRes.nx Γ' S1 | none => .stk) := h1
    rw [hg] at h1
    exact q2 v d σ H1 g1 Γ Γ' S1 _ s1 (e.mono x1) r1 hg fun σ' e' => h1 σ' H1 g1 (Ext.refl g1) s1 e'
theorem ds_set {i : Nat} {x : Str} {pos' : Pos} (hN : X.N.Nodup) (hi : X.N[i]? = some x) (hx : Loc X.env.scope x) (he : DE X c W e f) (hs : swapsWith e (some (.Name x pos')) pos.line X.env = pure false := by rfl) (hf : X.fn x = true ∨ X.env.scope.names.lookup x = some .local := by first | exact .inl rfl | exact .inr rfl | assumption) :
    DS X c W (.Assign [.Name x pos'] e pos) (sSet i f) := by
  obtain ⟨t, p, q⟩ := he
  exact ⟨_, ps_set hN hi hx p hs hf, fun E σ H g Γ S s e h => q σ H g Γ S _ s e (PostS.of e h fun d S1 v H1 g1 x1 s1 r1 h1 => h1 _ H1 g1 (Ext.refl g1) s1 ((e.mono x1).set r1))⟩
end
end DD
namespace DD
open PySem PySem.Spec PyProof.Rows L2
/-! ### equal data, as a test -/
mutual
def eqb : D → D → Bool
  | .non, .non => true
  | .bl a, .bl b => a == b
  | .int a, .int b => decide (a = b)
  | .str a, .str b => decide (a = b)
  | .ty a, .ty b => a == b
  | .ref a, .ref b => decide (a = b)
  | .tup a, .tup b => eqbs a b
  | .lst a, .lst b => eqbs a b
  | .wl a, .wl b => eqbs a b
  | .ins C a, .ins C' b => decide (C = C') && eqbf a b
  | .dk a, .dk b => eqbk a b
  | .loc a, .loc b => decide (a = b)
  | .cls a, .cls b => decide (a = b)
  | _, _ => false
def eqbs : List D → List D → Bool
  | [], [] => true
  | a :: r, b :: t => eqb a b && eqbs r t
  | _, _ => false
def eqbf : List (Str × D) → List (Str × D) → Bool
  | [], [] => true
  | (f, a) :: r, (g, b) :: t => decide (f = g) && (eqb a b && eqbf r t)
  | _, _ => false
def eqbk : List (Key × D) → List (Key × D) → Bool
  | [], [] => true
  | (f, a) :: r, (g, b) :: t => decide (f = g) && (eqb a b && eqbk r t)
  | _, _ => false
end
mutual
theorem eqb_eq : ∀ {a b : D}, eqb a b = true → a = b
  | .non, b, h => by cases b <;> simp_all [eqb]
  | .bl a, b, h => by cases b <;> simp_all [eqb]
  | .int a, b, h => by cases b <;> simp_all [eqb]
  | .str a, b, h => by cases b <;> simp_all [eqb]
  | .ty a, b, h => by cases b <;> simp_all [eqb]
  | .ref a, b, h => by cases b <;> simp_all [eqb]
  | .loc a, b, h => by cases b <;> simp_all [eqb]
  | .cls a, b, h => by cases b <;> simp_all [eqb]
  | .tup a, b, h => by
    cases b with
    | tup b => exact congrArg D.tup (eqbs_eq (by simpa [eqb] using h))
    | _ => simp [eqb] at h
  | .lst a, b, h => by
    cases b with
    | lst b => exact congrArg D.lst (eqbs_eq (by simpa [eqb] using h))
    | _ => simp [eqb] at h
  | .wl a, b, h => by
    cases b with
    | wl b => exact congrArg D.wl (eqbs_eq (by simpa [eqb] using h))
    | _ => simp [eqb] at h
  | .ins C a, b, h => by
    cases b with
    | ins C' b =>
      have h : C = C' ∧ eqbf a b = true := by simpa [eqb] using h
      rw [h.1, eqbf_eq h.2]
    | _ => simp [eqb] at h
  | .dk a, b, h => by
    cases b with
    | dk b => exact congrArg D.dk (eqbk_eq (by simpa [eqb] using h))
    | _ => simp [eqb] at h
theorem eqbs_eq : ∀ {a b : List D}, eqbs a b = true → a = b
  | [], [], _ => rfl
  | a :: r, b :: t, h => by
    have h : eqb a b = true ∧ eqbs r t = true := by simpa [eqbs] using h
    rw [eqb_eq h.1, eqbs_eq h.2]
  | [], _ :: _, h => by simp [eqbs] at h
  | _ :: _, [], h => by simp [eqbs] at h
theorem eqbf_eq : ∀ {a b : List (Str × D)}, eqbf a b = true → a = b
  | [], [], _ => rfl
  | (f, a) :: r, (g, b) :: t, h => by
    have h : f = g ∧ eqb a b = true ∧ eqbf r t = true := by simpa [eqbf] using h
    rw [h.1, eqb_eq h.2.1, eqbf_eq h.2.2]
  | [], _ :: _, h => by simp [eqbf] at h
  | _ :: _, [], h => by simp [eqbf] at h
theorem eqbk_eq : ∀ {a b : List (Key × D)}, eqbk a b = true → a = b
  | [], [], _ => rfl
  | (f, a) :: r, (g, b) :: t, h => by
    have h : f = g ∧ eqb a b = true ∧ eqbk r t = true := by simpa [eqbk] using h
    rw [h.1, eqb_eq h.2.1, eqbk_eq h.2.2]
  | [], _ :: _, h => by simp [eqbk] at h
  | _ :: _, [], h => by simp [eqbk] at h
end
mutual
theorem eqb_refl : ∀ a : D, eqb a a = true
  | .non => by simp [eqb]
  | .bl a => by simp [eqb]
  | .int a => by simp [eqb]
  | .str a => by simp [eqb]
  | .ty a => by simp [eqb]
  | .ref a => by simp [eqb]
  | .tup a => by simp [eqb, eqbs_refl a]
  | .lst a => by simp [eqb, eqbs_refl a]
  | .wl a => by simp [eqb, eqbs_refl a]
  | .ins C a => by simp [eqb, eqbf_refl a]
  | .dk a => by simp [eqb, eqbk_refl a]
  | .loc a => by simp [eqb]
  | .cls a => by simp [eqb]
theorem eqbs_refl : ∀ a : List D, eqbs a a = true
  | [] => by simp [eqbs]
  | a :: r => by simp [eqbs, eqb_refl a, eqbs_refl r]
theorem eqbf_refl : ∀ a : List (Str × D), eqbf a a = true
  | [] => by simp [eqbf]
  | (f, a) :: r => by simp [eqbf, eqb_refl a, eqbf_refl r]
theorem eqbk_refl : ∀ a : List (Key × D), eqbk a a = true
  | [] => by simp [eqbk]
  | (f, a) :: r => by simp [eqbk, eqb_refl a, eqbk_refl r]
end
/-! ### what is walked -/
structure Src where
  xs : List D
  lk : Option Nat
/-- the walked list still holds these items -/
def grd (s : Src) (S : Sto) : Bool := match s.lk with
  | none => true
  | some n => match S[n]? with
    | some (.lst ys) => eqbs ys s.xs
    | _ => false
@[simp] theorem grd_none (xs : List D) (S : Sto) : grd ⟨xs, none⟩ S = true := rfl
/-- as Ext, whatever is kept -/
structure Ext0 (g g' : Gh) : Prop where
  R : Same g.R g'.R
  ρ : ∀ n a, g.ρ n = some a → g'.ρ n = some a
theorem Ext.e0 {g g' : Gh} (x : Ext g g') : Ext0 g g' := ⟨x.R, x.ρ⟩
theorem Ext0.refl (g : Gh) : Ext0 g g := ⟨Same.refl _, fun _ _ h => h⟩
theorem Ext0.trans {a b d : Gh} (x : Ext0 a b) (y : Ext0 b d) : Ext0 a d := ⟨x.R.trans y.R, fun n p h => y.ρ n p (x.ρ n p h)⟩
section
variable {c : Cm} {g g' : Gh}
theorem Rep.mono0 (x : Ext0 g g') {v : V} {d : D} (r : Rep c g v d) : Rep c g' v d := Rep.lift x.R x.ρ r
theorem Reps.mono0 (x : Ext0 g g') {v : List V} {d : List D} (r : Reps c g v d) : Reps c g' v d := Reps.lift x.R x.ρ r
theorem RepF.mono0 (x : Ext0 g g') {v : List (Str × V)} {d : List (Str × D)} (r : RepF c g v d) : RepF c g' v d := RepF.lift x.R x.ρ r
theorem RepK.mono0 (x : Ext0 g g') {v : List (Key × V)} {d : List (Key × D)} (r : RepK c g v d) : RepK c g' v d := RepK.lift x.R x.ρ r
theorem EnvOk.mono0 (x : Ext0 g g') {σ : L2.St} {Γ : Env} (e : EnvOk c g σ Γ) : EnvOk c g' σ Γ := ⟨e.len, fun i d h => let ⟨v, a, r⟩ := e.slot i d h; ⟨v, a, r.mono0 x⟩⟩
end
/-- J walks what src says -/
def Walks (c : Cm) (g : Gh) (J : It) (src : Src) : Prop := ∀ g' H' S' i, Ext0 g g' → Sat c g' H' S' → grd src S' = true →
  (∀ d, src.xs[i]? = some d → J.go i H' ∧ ∀ x H'', J.yld i H' x H'' → ∃ g'', Ext g' g'' ∧ Sat c g'' H'' S' ∧ Rep c g'' x d) ∧ (src.xs.length ≤ i → J.stop i H')
def PostI (c : Cm) (g : Gh) (R : It → Hp → Prop) (W : XK) : Res Src → Prop
  | .ok src S => ∀ J H' g', Ext g g' → Sat c g' H' S → Walks c g' J src → R J H'
  | .exc C fs S => PostX c g W C fs S
  | .stk => False
def RefI (c : Cm) (W : WX) (wi : TI) (f : XF Src) : Prop := ∀ σ H g Γ S R, Sat c g H S → EnvOk c g σ Γ → PostI c g R (fun cl d H => W cl d σ H) (f Γ S) → wi σ H R
def DI (X : Cx) (c : Cm) (W : WX) (tg iter : Expr) (f : XF Src) : Prop := ∃ wi, PI X tg iter wi ∧ RefI c W wi f
def cSeq (f : EF) : XF Src := fun Γ S => (f Γ S).bind fun d S => match d with
  | .lst xs => .ok ⟨xs, none⟩ S
  | .tup xs => .ok ⟨xs, none⟩ S
  | .wl xs => .ok ⟨xs, none⟩ S
  | .loc n => match S[n]? with
    | some (.lst xs) => .ok ⟨xs, some n⟩ S
    | _ => .stk
  | _ => .stk
/-- within these bounds; stuck at once when the number is not known -/
def inR : Int → Bool
  | .ofNat n => Nat.ble n 4611686018427387903
  | .negSucc n => Nat.ble n 4611686018427387903
theorem inR_of {j : Int} (h : inR j = true) : -(2 ^ 62) ≤ j ∧ j < 2 ^ 62 := by
  cases j with
  | ofNat n => have h := Nat.le_of_ble_eq_true h; rw [Int.ofNat_eq_natCast]; exact ⟨by omega, by omega⟩
  | negSucc n => have h := Nat.le_of_ble_eq_true h; exact ⟨by omega, by omega⟩
def cRange1 (f : EF) : XF Src := fun Γ S => (f Γ S).bind fun d S => match d with
  | .int j => if inR j = true then .ok ⟨(List.range j.toNat).map fun (k : Nat) => D.int k, none⟩ S else .stk
  | _ => .stk
def cRange2 (f f' : EF) : XF Src := fun Γ S => (f Γ S).bind fun d S => (f' Γ S).bind fun d' S => match d, d' with
  | .int i, .int j => if (inR i && inR j) = true then .ok ⟨(List.range (j - i).toNat).map fun (k : Nat) => D.int (i + k), none⟩ S else .stk
  | _, _ => .stk
/-- a list or a tuple, walked -/
def iSq (K : PySem.W.Frag) (t0 : TE) : TI := fun σ H R => t0 σ H fun x G => ∃ b ys, x = .ref b ∧ ((SqL K G b ys ∧ R (Itl K b) G) ∨ (SqT K G b ys ∧ R (Itt K b) G))
section
variable {X : Cx} {tg l : Expr} {t0 : TE}
theorem pi_sq (hl : PE X l t0) : PI X tg l (iSq X.K t0) := by
  constructor
  intro pins s σ H R I h
  refine thn (hl.run pins s σ H _ I h) ?_
  rintro v s1 ⟨x, G, I1, r1, b, ys, rfl, q⟩
  cases r1
  have fresh : ∀ c ∈ [s1.heap.objs.size], _ := fun c (hc : c ∈ [s1.heap.objs.size]) => by
    obtain rfl : c = s1.heap.objs.size := List.mem_singleton.mp hc
    exact I1.fpOk (Nat.le_refl _) (I1.hok.fresh (Nat.le_refl _))
  rcases q with ⟨hq, q⟩ | ⟨hq, q⟩
  · obtain ⟨its, rv, pl, hz⟩ := I1.list hq
    exact wpAny_pyIter_list pl.isList ⟨s1.heap.objs.size, [s1.heap.objs.size], _, _, G, rfl, I1.kept (t' := s1.toks) (fun _ _ z => Heap.get?_push_of_some _ z), turn_list b _, ⟨_, Heap.get?_push_size _ rfl, rfl, rfl⟩, fresh, q⟩
  · obtain ⟨its, rv, pl, hz⟩ := I1.tuple hq
    exact wpAny_pyIter_tuple (show s1.heap.IsTuple b its.toArray from pl) ⟨s1.heap.objs.size, [s1.heap.objs.size], _, _, G, rfl, I1.kept (t' := s1.toks) (fun _ _ z => Heap.get?_push_of_some _ z), turn_tuple b _, ⟨_, Heap.get?_push_size _ rfl, rfl, rfl⟩, fresh, q⟩
end
section
variable {X : Cx} {c : Cm} {W : WX} {tg l e : Expr} {f f' : EF} {pos : Pos}
theorem walks_lst {g : Gh} {a : Addr} {us : List V} {xs : List D} (hR : SqL c.K g.R a us) (r : Reps c g us xs) : Walks c g (Itl c.K a) ⟨xs, none⟩ := fun g' H' S' i x s _ => by
  have q : SqL c.K H' a us := Same.seq (x.R.trans s.sub) hR
  have r' := r.mono0 x
  refine ⟨fun d hd => ?_, fun hi => ⟨us, q, by rw [r.len]; exact hi⟩⟩
  obtain ⟨v, hv, rv⟩ := r'.get hd
  refine ⟨⟨us, v, q, hv⟩, fun y H'' ⟨e, h⟩ => ⟨g', Ext.refl g', e ▸ s, ?_⟩⟩
  have := h us q
  rw [hv] at this
  obtain rfl := Option.some.inj this
  exact rv
theorem walks_tup {g : Gh} {a : Addr} {us : List V} {xs : List D} (hR : SqT c.K g.R a us) (r : Reps c g us xs) : Walks c g (Itt c.K a) ⟨xs, none⟩ := fun g' H' S' i x s _ => by
  have q : SqT c.K H' a us := sqT_same (x.R.trans s.sub) hR
  have r' := r.mono0 x
  refine ⟨fun d hd => ?_, fun hi => ⟨us, q, by rw [r.len]; exact hi⟩⟩
  obtain ⟨v, hv, rv⟩ := r'.get hd
  refine ⟨⟨us, v, q, hv⟩, fun y H'' ⟨e, h⟩ => ⟨g', Ext.refl g', e ▸ s, ?_⟩⟩
  have := h us q
  rw [hv] at this
  obtain rfl := Option.some.inj this
  exact rv
theorem walks_loc {g : Gh} {a : Addr} {n : Nat} {xs : List D} (hρ : g.ρ n = some a) : Walks c g (Itl c.K a) ⟨xs, some n⟩ := fun g' H' S' i x s hg => by
  have hg : (match S'[n]? with | some (.lst ys) => eqbs ys xs | _ => false) = true := hg
  cases hc : S'[n]? with
  | none => rw [hc] at hg; exact (Bool.false_ne_true hg).elim
  | some k =>
    rw [hc] at hg
    cases k with
    | lst ys =>
      obtain rfl := eqbs_eq hg
      obtain ⟨a', us, e1, e2, e3, r'⟩ := s.cell n _ hc
      rw [x.ρ n a hρ] at e1
      obtain rfl := Option.some.inj e1
      have q : SqL c.K H' a us := SqL.of e3
      refine ⟨fun d hd => ?_, fun hi => ⟨us, q, by rw [r'.len]; exact hi⟩⟩
      obtain ⟨v, hv, rv⟩ := r'.get hd
      refine ⟨⟨us, v, q, hv⟩, fun y H'' ⟨e, h⟩ => ⟨g', Ext.refl g', e ▸ s, ?_⟩⟩
      have := h us q
      rw [hv] at this
      obtain rfl := Option.some.inj this
      exact rv
    | _ => exact (Bool.false_ne_true hg).elim
theorem PostI.bind {α β : Type} {rel : Rl α β} {g : Gh} {R : It → Hp → Prop} {Q1 : β → Hp → Prop} {W : XK} {r : Res α} {k : α → Sto → Res Src} (h : PostI c g R W (r.bind k))
    (q : ∀ a S1 v H1 g1, Ext g g1 → Sat c g1 H1 S1 → rel g1 v a → PostI c g1 R W (k a S1) → Q1 v H1) : PostG rel c g Q1 W r := by
  cases r with
  | ok a S =>
    refine fun v H' g1 x1 s r => q a S v H' g1 x1 s r ?_
    have h : PostI c g R W (k a S) := h
    cases hk : k a S with
    | ok a' S' => rw [hk] at h; exact fun J H2 g2 x2 s2 w => h J H2 g2 (x1.trans x2) s2 w
    | exc C fs S' => rw [hk] at h; exact PostX.mono x1 h
    | stk => rw [hk] at h; exact h
  | exc C fs S => exact h
  | stk => exact h
theorem di_seq (hK : c.K = X.K) (h : DE X c W l f) : DI X c W tg l (cSeq f) :=
  let ⟨_, p, q⟩ := h; ⟨_, pi_sq p, fun σ H g Γ S R s e h => q σ H g Γ S _ s e (PostI.bind h fun d S1 v H1 g1 x1 s1 r1 h1 => by
    rw [← hK]
    cases d with
    | lst xs =>
      cases r1 with
      | lst hq r => exact ⟨_, _, rfl, .inl ⟨SqL.of (s1.sub _ _ hq), h1 _ H1 g1 (Ext.refl g1) s1 (walks_lst (SqL.of hq) r)⟩⟩
    | tup xs =>
      cases r1 with
      | tup hq r => exact ⟨_, _, rfl, .inr ⟨sqT_same s1.sub hq, h1 _ H1 g1 (Ext.refl g1) s1 (walks_tup hq r)⟩⟩
    | wl xs =>
      cases r1 with
      | wl hq r => exact ⟨_, _, rfl, .inl ⟨Same.seq s1.sub hq, h1 _ H1 g1 (Ext.refl g1) s1 (walks_lst hq r)⟩⟩
    | loc n =>
      cases r1 with
      | loc hn =>
        have h1 : PostI c g1 R _ (match S1[n]? with | some (.lst xs) => Res.ok ⟨xs, some n⟩ S1 | _ => .stk) := h1
        cases hc : S1[n]? with
        | none => rw [hc] at h1; exact h1.elim
        | some k =>
          rw [hc] at h1
          cases k with
          | lst xs =>
            obtain ⟨a, us, e1, e2, e3, e4⟩ := s1.cell n _ hc
            rw [hn] at e1
            obtain rfl := Option.some.inj e1
            exact ⟨_, _, rfl, .inl ⟨SqL.of e3, h1 _ H1 g1 (Ext.refl g1) s1 (walks_loc hn)⟩⟩
          | _ => exact h1.elim
    | _ => exact h1.elim)⟩
theorem walks_rng {g : Gh} {lo : Int} {n : Nat} : Walks c g (Itr lo n) ⟨(List.range n).map fun (k : Nat) => D.int (lo + k), none⟩ := fun g' H' S' i x s _ => by
  refine ⟨fun d hd => ?_, fun hi => ?_⟩
  · have hi : i < n := by
      have := (List.getElem?_eq_some_iff.mp hd).1
      simpa using this
    rw [List.getElem?_map, List.getElem?_range hi] at hd
    obtain rfl := Option.some.inj hd
    refine ⟨hi, fun y H'' ⟨e1, e2⟩ => ?_⟩
    subst e1 e2
    exact ⟨g', Ext.refl g', s, .int _⟩
  · rw [List.length_map, List.length_range] at hi
    exact hi
theorem di_range1 {p p' : Pos} (hg : Gl X "range") (hm : X.mg "range" = none) (h : DE X c W e f) (h1 : starEach [e] X.env = (false, eval e X.env) :: starEach [] X.env := by rfl) (hs : starEach [e] X.env = [(false, eval e X.env)] := by rfl) : DI X c W tg (.Call (.Name "range" p) [e] [] p') (cRange1 f) :=
  let ⟨_, p, q⟩ := h; ⟨_, pi_range1 hg hm (pa_cons p pa_nil h1) hs, fun σ H g Γ S R s e h => q σ H g Γ S _ s e (PostI.bind h fun d S1 v H1 g1 x1 s1 r1 h1 => by
    cases d with
    | int j =>
      cases r1
      have h1 : PostI c g1 R _ (if inR j = true then Res.ok ⟨(List.range j.toNat).map fun (k : Nat) => D.int k, none⟩ S1 else .stk) := h1
      by_cases hb : inR j = true
      · rw [if_pos hb] at h1
        have hb := inR_of hb
        refine ⟨j, rfl, hb.1, hb.2, h1 _ H1 g1 (Ext.refl g1) s1 ?_⟩
        have w := walks_rng (c := c) (g := g1) (lo := 0) (n := j.toNat)
        simpa using w
      · rw [if_neg hb] at h1; exact h1.elim
    | _ => exact h1.elim)⟩
theorem di_range2 {p p' : Pos} {e' : Expr} (hg : Gl X "range") (hm : X.mg "range" = none) (h : DE X c W e f) (h' : DE X c W e' f') (ha : starEach [e, e'] X.env = (false, eval e X.env) :: starEach [e'] X.env := by rfl) (hb : starEach [e'] X.env = (false, eval e' X.env) :: starEach [] X.env := by rfl)
    (hs : starEach [e, e'] X.env = [(false, eval e X.env), (false, eval e' X.env)] := by rfl) (hs2 : starEach [e'] X.env = [(false, eval e' X.env)] := by rfl) : DI X c W tg (.Call (.Name "range" p) [e, e'] [] p') (cRange2 f f') :=
  let ⟨_, p1, q1⟩ := h; let ⟨_, p2, q2⟩ := h'; ⟨_, pi_range2 hg hm (pa_cons p1 (pa_cons p2 pa_nil hb) ha) hs hs2, fun σ H g Γ S R s e h => q1 σ H g Γ S _ s e (PostI.bind h fun d S1 v H1 g1 x1 s1 r1 h1 => q2 σ H1 g1 Γ S1 _ s1 (e.mono x1) (PostI.bind h1 fun d' S2 v' H2 g2 x2 s2 r2 h2 => by
    cases d with
    | int i =>
      cases r1
      cases d' with
      | int j =>
        cases r2
        have h1 : PostI c g2 R _ (if (inR i && inR j) = true then Res.ok ⟨(List.range (j - i).toNat).map fun (k : Nat) => D.int (i + k), none⟩ S2 else .stk) := h2
        by_cases hb : (inR i && inR j) = true
        · rw [if_pos hb] at h1
          have hi := inR_of (Bool.and_eq_true_iff.mp hb).1
          have hj := inR_of (Bool.and_eq_true_iff.mp hb).2
          exact ⟨i, j, rfl, ⟨hi.1, hi.2, hj.1, hj.2⟩, h1 _ H2 g2 (Ext.refl g2) s2 walks_rng⟩
        · rw [if_neg hb] at h1; exact h1.elim
      | _ => exact h2.elim
    | _ => cases d' <;> exact h2.elim))⟩
/-! ### for -/
end
def SRes.turn (r : SRes) (k : SF) : SRes := match r with
  | .nx Γ S => k Γ S
  | .ct Γ S => k Γ S
  | .bk Γ S => .nx Γ S
  | x => x
def sLoop (gf : GF) (body : SF) (src : Src) : List D → SF
  | [], Γ, S => if grd src S = true then .nx Γ S else .stk
  | x :: r, Γ, S => if grd src S = true then match gf x Γ with
    | none => .stk
    | some Γ1 => (body Γ1 S).turn (sLoop gf body src r)
    else .stk
def sFor (gf : GF) (fi : XF Src) (body : SF) : SF := fun Γ S => SRes.of (fi Γ S) Γ fun src S => sLoop gf body src src.xs Γ S
section
variable {X : Cx} {c : Cm} {W : WX} {tg l e : Expr} {f f' : EF} {pos : Pos} {gf : GF} {vs : List Nat} {fi : XF Src} {sb : SF} {bd : List Stmt}
theorem PostS.turn {g : Gh} {E : Ends} {r : SRes} {k : SF} {nx' : L2.St → Hp → Prop} (h : PostS c g E W (r.turn k)) (q : ∀ Γ S σ' H' g', Ext g g' → Sat c g' H' S → EnvOk c g' σ' Γ → PostS c g' E W (k Γ S) → nx' σ' H') : PostS c g { E with nx := nx', ct := nx', bk := E.nx } W r := by
  cases r with
  | nx Γ S => exact fun σ' H' g1 x1 s e => q Γ S σ' H' g1 x1 s e (PostS.mono x1 h)
  | rt d S => exact h
  | bk Γ S => exact h
  | ct Γ S => exact fun σ' H' g1 x1 s e => q Γ S σ' H' g1 x1 s e (PostS.mono x1 h)
  | exc C fs Γ S => exact h
  | stk => exact h
theorem ds_for (hp : PassesOwn (model X.prog X.w) X.A X.env X.xe) (hc : X.calm = true) (hi : DI X c W tg l fi) (hg : DG X c tg gf vs) (hb : DSs X c W bd sb) (hs : ∀ x, foldedSetIterable l X.env x = pure x := by intro _; rfl) : DS X c W (.For tg l bd [] pos) (sFor gf fi sb) := by
  obtain ⟨wi, p1, q1⟩ := hi
  obtain ⟨tt, p2, q2, _⟩ := hg
  obtain ⟨tb, p3, q3⟩ := hb
  refine ⟨_, ps_for hp hc p1 p2 p3 hs, fun E σ H g Γ S s e h => q1 σ H g Γ S _ s e ?_⟩
  have h : PostS c g E W (SRes.of (fi Γ S) Γ fun src S => sLoop gf sb src src.xs Γ S) := h
  cases hf : fi Γ S with
  | stk => rw [hf] at h; exact h
  | exc C fs S1 => rw [hf] at h; exact fun d H' g' x s z => h d σ H' g' x s (e.mono x) z
  | ok src S1 =>
    rw [hf] at h
    have h : PostS c g E W (sLoop gf sb src src.xs Γ S1) := h
    intro J H1 g1 x1 s1 w
    refine ⟨fun i m σ' H' => m = src.xs.length - i ∧ i ≤ src.xs.length ∧ ∃ g' Γ' S', Ext g1 g' ∧ Sat c g' H' S' ∧ EnvOk c g' σ' Γ' ∧ PostS c g' E W (sLoop gf sb src (src.xs.drop i) Γ' S'), ⟨_, rfl, Nat.zero_le _, g1, Γ, S1, Ext.refl g1, s1, e.mono x1, by rw [List.drop_zero]; exact PostS.mono x1 h⟩, ?_⟩
    rintro i m σ' H' ⟨rfl, hi, g', Γ', S', x', s', e', h'⟩
    by_cases hlt : i < src.xs.length
    · right
      rw [List.drop_eq_getElem_cons hlt] at h'
      have h' : PostS c g' E W (if grd src S' = true then match gf src.xs[i] Γ' with
        | none => .stk
        | some Γ1 => (sb Γ1 S').turn (sLoop gf sb src (src.xs.drop (i + 1))) else .stk) := h'
      by_cases hgr : grd src S' = true
      · rw [if_pos hgr] at h'
        cases hgf : gf src.xs[i] Γ' with
        | none => rw [hgf] at h'; exact h'.elim
        | some Γ1 =>
          rw [hgf] at h'
          have h' : PostS c g' E W ((sb Γ1 S').turn (sLoop gf sb src (src.xs.drop (i + 1)))) := h'
          obtain ⟨go, yl⟩ := (w g' H' S' i x'.e0 s' hgr).1 _ (List.getElem?_eq_getElem hlt)
          refine ⟨go, fun σ2 H2 => i + 1 ≤ src.xs.length ∧ ∃ g2 Γ2 S2, Ext g1 g2 ∧ Sat c g2 H2 S2 ∧ EnvOk c g2 σ2 Γ2 ∧ PostS c g2 E W (sLoop gf sb src (src.xs.drop (i + 1)) Γ2 S2), fun σ2 H2 ⟨n1, n2⟩ => ⟨src.xs.length - (i + 1), by omega, rfl, n1, n2⟩, fun y H'' hy => ?_⟩
          obtain ⟨g2, x2, s2, r2⟩ := yl y H'' hy
          refine q2 y _ σ' H'' g2 Γ' Γ1 S' _ s2 (e'.mono x2) r2 hgf fun σ3 e3 => q3 _ σ3 H'' g2 Γ1 S' s2 e3 ?_
          exact (PostS.mono x2 h').turn fun Γ4 S4 σ4 H4 g4 x4 s4 e4 h4 => ⟨hlt, g4, Γ4, S4, (x'.trans x2).trans x4, s4, e4, h4⟩
      · rw [if_neg hgr] at h'; exact h'.elim
    · left
      have e0 : src.xs.drop i = [] := List.drop_eq_nil_of_le (by omega)
      rw [e0] at h'
      have h' : PostS c g' E W (if grd src S' = true then .nx Γ' S' else .stk) := h'
      by_cases hgr : grd src S' = true
      · rw [if_pos hgr] at h'
        exact ⟨(w g' H' S' i x'.e0 s' hgr).2 (by omega), h' σ' H' g' (Ext.refl g') s' e'⟩
      · rw [if_neg hgr] at h'; exact h'.elim
end
end DD
namespace DD
open PySem PySem.Spec PyProof.Rows L2
/-! ### comprehensions -/
def wipeD (Γ : Env) : List Nat → Env
  | [] => Γ
  | v :: vs => (wipeD Γ vs).set v none
def cLoop (gf : GF) (ft : TF) (fe : EF) (src : Src) (Γ : Env) : List D → List D → Sto → Res (List D)
  | [], acc, S => if grd src S = true then .ok acc S else .stk
  | x :: r, acc, S => if grd src S = true then match gf x Γ with
    | none => .stk
    | some Γ1 => (ft Γ1 S).noexc.bind fun b S => if b = true then (fe Γ1 S).noexc.bind fun y S => if lim (acc.length + 1) = true then cLoop gf ft fe src Γ r (acc ++ [y]) S else .stk
      else cLoop gf ft fe src Γ r acc S
    else .stk
def cYes : TF := fun _ S => .ok true S
section
variable {c : Cm} {g : Gh} {H : Hp} {S : Sto}
theorem EnvOk.wipe {σ : L2.St} {Γ : Env} (e : EnvOk c g σ Γ) : ∀ vs : List Nat, EnvOk c g (L2.wipe σ vs) (wipeD Γ vs)
  | [] => e
  | v :: vs => by
    have q := EnvOk.wipe e vs
    refine ⟨by show ((L2.wipe σ vs).set v none).length = ((wipeD Γ vs).set v none).length; rw [List.length_set, List.length_set, q.len], fun i d h => ?_⟩
    have h : ((wipeD Γ vs).set v none)[i]? = some (some d) := h
    show ∃ x, ((L2.wipe σ vs).set v none)[i]? = some (some x) ∧ _
    by_cases hv : v = i
    · subst hv
      by_cases hl : v < (wipeD Γ vs).length
      · rw [List.getElem?_set_self hl] at h; cases h
      · rw [List.getElem?_eq_none (by rw [List.length_set]; omega)] at h; cases h
    · rw [List.getElem?_set_ne hv] at h ⊢
      exact q.slot i d h
theorem Sat.free' (s : Sat c g H S) {p : Addr} (hp : H p = none) : g.R p = none ∧ g.F p = none ∧ ∀ n, g.ρ n ≠ some p := by
  refine ⟨?_, ?_, fun n e => ?_⟩
  · cases e : g.R p with
    | none => rfl
    | some u => rw [s.sub p u e] at hp; cases hp
  · cases e : g.F p with
    | none => rfl
    | some u => rw [(s.kept p u e).1] at hp; cases hp
  · obtain ⟨u, z⟩ := s.there n p e
    rw [z] at hp; cases hp
/-- another heap, another thing kept: what is not the store's and not R's may change -/
theorem Sat.alter (s : Sat c g H S) {p : Addr} {o : HO} {F' : Hp} (hR : g.R p = none) (hρ : ∀ n, g.ρ n ≠ some p) (hF : ∀ a u, F' a = some u → (a = p ∧ u = o) ∨ (a ≠ p ∧ g.F a = some u)) : Sat c { g with F := F' } (upd H p o) S := by
  have x : Ext0 g { g with F := F' } := ⟨Same.refl _, fun _ _ h => h⟩
  refine ⟨fun a u e => ?_, s.dom, fun n a e => ?_, s.inj, fun n k e => ?_, fun a u e => ?_⟩
  · rw [upd_ne (fun z => by subst z; rw [show g.R a = some u from e] at hR; cases hR)]; exact s.sub a u e
  · obtain ⟨u, z⟩ := s.there n a e
    exact ⟨u, by rw [upd_ne (fun w => by subst w; exact hρ n e)]; exact z⟩
  · have q := s.cell n k e
    have nm : ∀ {a}, g.ρ n = some a → a ≠ p := fun {a} h z => hρ n (by rw [← z]; exact h)
    cases k with
    | dead => trivial
    | lst ds =>
      obtain ⟨a, us, h1, h2, h3, h4⟩ := q
      exact ⟨a, us, h1, h2, by rw [upd_ne (nm h1)]; exact h3, h4.mono0 x⟩
    | ins C fs =>
      obtain ⟨a, dx, us, h1, h2, h3, h4⟩ := q
      exact ⟨a, dx, us, h1, h2, by rw [upd_ne (nm h1)]; exact h3, h4.mono0 x⟩
    | dk kvs =>
      obtain ⟨a, us, h1, h2, h3, h4⟩ := q
      exact ⟨a, us, h1, h2, by rw [upd_ne (nm h1)]; exact h3, h4.mono0 x⟩
  · rcases hF a u e with ⟨rfl, rfl⟩ | ⟨ne, e⟩
    · exact ⟨upd_same, hR, hρ⟩
    · obtain ⟨h1, h2, h3⟩ := s.kept a u e
      exact ⟨by rw [upd_ne ne]; exact h1, h2, h3⟩
theorem Sat.keepF (s : Sat c g H S) {p : Addr} (hp : H p = none) (o : HO) : Sat c { g with F := upd g.F p o } (upd H p o) S := by
  obtain ⟨h1, h2, h3⟩ := s.free' hp
  refine s.alter h1 h3 fun a u e => ?_
  by_cases ha : a = p
  · subst ha; rw [upd_same] at e; exact .inl ⟨rfl, (Option.some.inj e).symm⟩
  · rw [upd_ne ha] at e; exact .inr ⟨ha, e⟩
theorem Sat.turnF {F0 : Hp} {p : Addr} {o1 : HO} (s : Sat c g H S) (hF : g.F = upd F0 p o1) (o2 : HO) : Sat c { g with F := upd F0 p o2 } (upd H p o2) S := by
  obtain ⟨_, h2, h3⟩ := s.kept p o1 (by rw [hF, upd_same])
  refine s.alter h2 h3 fun a u e => ?_
  by_cases ha : a = p
  · subst ha; rw [upd_same] at e; exact .inl ⟨rfl, (Option.some.inj e).symm⟩
  · rw [upd_ne ha] at e; exact .inr ⟨ha, by rw [hF, upd_ne ha]; exact e⟩
/-- the kept thing is let go -/
theorem Sat.dropF {F0 : Hp} {p : Addr} {o1 : HO} (s : Sat c g H S) (hF : g.F = upd F0 p o1) (h0 : F0 p = none) : Sat c { g with F := F0 } H S := by
  have x : Ext0 g { g with F := F0 } := ⟨Same.refl _, fun _ _ h => h⟩
  refine ⟨s.sub, s.dom, s.there, s.inj, fun n k e => ?_, fun a u e => s.kept a u ?_⟩
  · have q := s.cell n k e
    cases k with
    | dead => trivial
    | lst ds => obtain ⟨a, us, h1, h2, h3, h4⟩ := q; exact ⟨a, us, h1, h2, h3, h4.mono0 x⟩
    | ins C fs => obtain ⟨a, dx, us, h1, h2, h3, h4⟩ := q; exact ⟨a, dx, us, h1, h2, h3, h4.mono0 x⟩
    | dk kvs => obtain ⟨a, us, h1, h2, h3, h4⟩ := q; exact ⟨a, us, h1, h2, h3, h4.mono0 x⟩
  · have e : F0 a = some u := e
    rw [hF, upd_ne (fun z => by subst z; rw [h0] at e; cases e)]; exact e
/-- a thing that is there, and that nothing names, never changes from now on -/
theorem Sat.seal (s : Sat c g H S) {p : Addr} {o : HO} (hp : H p = some o) (hF : g.F p = none) (hρ : ∀ n, g.ρ n ≠ some p) (hR : g.R p = none) : Sat c { g with R := upd g.R p o } H S ∧ Ext g { g with R := upd g.R p o } := by
  have sR : Same g.R (upd g.R p o) := fun a u e => by rw [upd_ne (ne_of_none e hR)]; exact e
  have x : Ext g { g with R := upd g.R p o } := ⟨sR, fun _ _ h => h, rfl⟩
  have nR : ∀ {a : Addr}, a ≠ p → g.R a = none → upd g.R p o a = none := fun ne h => by rw [upd_ne ne]; exact h
  refine ⟨⟨fun a u e => ?_, s.dom, s.there, s.inj, fun n k e => ?_, fun a u e => ?_⟩, x⟩
  · have e : upd g.R p o a = some u := e
    by_cases ha : a = p
    · subst ha; rw [upd_same] at e; obtain rfl := Option.some.inj e; exact hp
    · rw [upd_ne ha] at e; exact s.sub a u e
  · have q := s.cell n k e
    have nm : ∀ {a}, g.ρ n = some a → a ≠ p := fun {a} h z => hρ n (by rw [← z]; exact h)
    cases k with
    | dead => trivial
    | lst ds => obtain ⟨a, us, h1, h2, h3, h4⟩ := q; exact ⟨a, us, h1, nR (nm h1) h2, h3, h4.mono x⟩
    | ins C fs => obtain ⟨a, dx, us, h1, h2, h3, h4⟩ := q; exact ⟨a, dx, us, h1, nR (nm h1) h2, h3, h4.mono x⟩
    | dk kvs => obtain ⟨a, us, h1, h2, h3, h4⟩ := q; exact ⟨a, us, h1, nR (nm h1) h2, h3, h4.mono x⟩
  · obtain ⟨h1, h2, h3⟩ := s.kept a u e
    exact ⟨h1, nR (fun z => by subst z; rw [hF] at e; cases e) h2, h3⟩
end
theorem wipe_wipe (σ : L2.St) (vs : List Nat) : L2.wipe (L2.wipe σ vs) vs = L2.wipe σ vs := wipe_eqv (by rw [L2.wipe_length]) fun i hi => by
  induction vs with
  | nil => rfl
  | cons v r ih =>
    show ((L2.wipe σ r).set v none)[i]? = σ[i]?
    rw [List.getElem?_set_ne (fun z => hi (by rw [z]; exact List.mem_cons_self))]
    exact ih fun z => hi (List.mem_cons_of_mem _ z)
/-- one reading for all of them -/
def tAll {ι β : Type} (t : ι → L2.St → Hp → (β → Hp → Prop) → Prop) : L2.St → Hp → (β → Hp → Prop) → Prop := fun σ H Q => ∀ i, t i σ H Q
theorem RefG.all {ι α β : Type} {rel : Rl α β} {c : Cm} {W : WX} {t : ι → L2.St → Hp → (β → Hp → Prop) → Prop} {f : XF α} (h : ∀ i, RefG rel c W (t i) f) : RefG rel c W (tAll t) f := fun σ H g Γ S Q s e q i => h i σ H g Γ S Q s e q
/-- within a comprehension nothing is raised -/
abbrev W0 : WX := fun _ _ _ _ => False
theorem noexc_post {α β : Type} {rel : Rl α β} {c : Cm} {g : Gh} {Q : β → Hp → Prop} {Y Y' : XK} {r : Res α} (h : PostG rel c g Q Y r.noexc) : PostG rel c g Q Y' r := by
  cases r with
  | ok a S => exact h
  | exc C fs S => exact h.elim
  | stk => exact h
abbrev Ctx5 := Shared × Hp × Addr × List (Str × Addr) × List Addr
section
variable {X : Cx} {c : Cm} {W : WX} {tg l elt : Expr} {ifs : List Expr} {scope : Scope} {own : List (Str × Nat)} {fe : EF} {ft : TF} {fi : XF Src} {gf : GF} {pos : Pos}
def DTs (X : Cx) (c : Cm) (W : WX) (ifs : List Expr) (f : TF) : Prop := ∃ t, PTs X ifs t ∧ RefG rB c W t f
theorem dts_nil : DTs X c W [] cYes := ⟨_, pts_nil, fun σ H g Γ S Q s e h => h true H g (Ext.refl g) s rfl⟩
theorem dts_one {t : Expr} (h : DT X c W t ft) : DTs X c W [t] ft := let ⟨_, p, q⟩ := h; ⟨_, pts_one p, q⟩
/-- the state of a comprehension's walk -/
def LcInv (c : Cm) (ga : Gh) (F0 : Hp) (p : Addr) (H' : Hp) (S' : Sto) (ds : List D) (P : Gh → Prop) : Prop := ∃ g' us, Ext0 ga g' ∧ g'.F = upd F0 p (.lst us) ∧ Sat c g' H' S' ∧ Reps c g' us ds ∧ P { g' with F := F0 }
theorem LcInv.mono {ga gb : Gh} {F0 : Hp} {p : Addr} {H' : Hp} {S' : Sto} {ds : List D} {P : Gh → Prop} (x : Ext0 ga gb) (h : LcInv c gb F0 p H' S' ds P) : LcInv c ga F0 p H' S' ds P :=
  let ⟨g', us, x', r⟩ := h; ⟨g', us, x.trans x', r⟩
def LcTurn (g : TG) (tt : TT) (te : TE) (vs : List Nat) (σ : L2.St) (p : Addr) (Nx : Hp → Prop) (x : V) (H' : Hp) : Prop := g x (L2.wipe σ vs) H' fun σ2 H2 => L2.wipe σ2 vs = L2.wipe σ vs ∧ tt σ2 H2 fun b H3 =>
  if b = true then te σ2 H3 fun y H4 => ∃ acc, H4 p = some (.lst acc) ∧ acc.length < sizeLine ∧ Nx (upd H4 p (.lst (acc ++ [y]))) else Nx H3
theorem lc_walk {g : TG} {tt : TT} {te : TE} {vs : List Nat} (qg : RefT c g gf) (iv : InV g vs) (qt : RefG rB c W0 tt ft) (qe : RefG (rD c) c W0 te fe) {ga : Gh} {F0 : Hp} {p : Addr} {σ : L2.St} {Γ : Env} {J : It} {src : Src} {k : List D → Sto → Res D} {Q : VK} {Y : XK} {Fin : Hp → Prop}
    (w : Walks c ga J src) (ea : EnvOk c ga σ Γ) (fin : ∀ H' S' ds, LcInv c ga F0 p H' S' ds (fun gF => PostG (rD c) c gF Q Y (k ds S')) → Fin H') {H1 : Hp} {S1 : Sto} {ds1 : List D}
    (h : LcInv c ga F0 p H1 S1 ds1 fun gF => PostG (rD c) c gF Q Y ((cLoop gf ft fe src (wipeD Γ vs) src.xs ds1 S1).bind k)) :
    ∃ W : Nat → Nat → Hp → Prop, (∃ m, W 0 m H1) ∧ ∀ i m H, W i m H → (J.stop i H ∧ Fin H) ∨ (J.go i H ∧ ∃ Nx : Hp → Prop, (∀ H', Nx H' → ∃ m', m' < m ∧ W (i + 1) m' H') ∧ ∀ x H', J.yld i H x H' → LcTurn g tt te vs σ p Nx x H') := by
  refine ⟨fun i m H' => m = src.xs.length - i ∧ i ≤ src.xs.length ∧ ∃ S' ds, LcInv c ga F0 p H' S' ds fun gF => PostG (rD c) c gF Q Y ((cLoop gf ft fe src (wipeD Γ vs) (src.xs.drop i) ds S').bind k), ⟨_, rfl, Nat.zero_le _, S1, ds1, by rw [List.drop_zero]; exact h⟩, ?_⟩
  rintro i m H' ⟨rfl, hi, S', ds, g', us, x', eF, s', r', h'⟩
  have hlen := r'.len
  by_cases hlt : i < src.xs.length
  · right
    rw [List.drop_eq_getElem_cons hlt] at h'
    have h' : PostG (rD c) c { g' with F := F0 } Q Y ((if grd src S' = true then match gf src.xs[i] (wipeD Γ vs) with
      | none => Res.stk
      | some Γ1 => (ft Γ1 S').noexc.bind fun b S => if b = true then (fe Γ1 S).noexc.bind fun y S => if lim (ds.length + 1) = true then cLoop gf ft fe src (wipeD Γ vs) (src.xs.drop (i + 1)) (ds ++ [y]) S else .stk
        else cLoop gf ft fe src (wipeD Γ vs) (src.xs.drop (i + 1)) ds S
      else .stk).bind k) := h'
    by_cases hgr : grd src S' = true
    · rw [if_pos hgr] at h'
      cases hgf : gf src.xs[i] (wipeD Γ vs) with
      | none => rw [hgf] at h'; exact h'.elim
      | some Γ1 =>
        rw [hgf] at h'
        have h' : PostG (rD c) c { g' with F := F0 } Q Y (((ft Γ1 S').noexc.bind fun b S => if b = true then (fe Γ1 S).noexc.bind fun y S => if lim (ds.length + 1) = true then cLoop gf ft fe src (wipeD Γ vs) (src.xs.drop (i + 1)) (ds ++ [y]) S else .stk
          else cLoop gf ft fe src (wipeD Γ vs) (src.xs.drop (i + 1)) ds S).bind k) := h'
        obtain ⟨go, yl⟩ := (w g' H' S' i x' s' hgr).1 _ (List.getElem?_eq_getElem hlt)
        refine ⟨go, fun H2 => i + 1 ≤ src.xs.length ∧ ∃ S2 ds2, LcInv c ga F0 p H2 S2 ds2 fun gF => PostG (rD c) c gF Q Y ((cLoop gf ft fe src (wipeD Γ vs) (src.xs.drop (i + 1)) ds2 S2).bind k),
          fun H2 ⟨n1, n2⟩ => ⟨src.xs.length - (i + 1), by omega, rfl, n1, n2⟩, fun y H'' hy => ?_⟩
        obtain ⟨g2, x2, s2, r2⟩ := yl y H'' hy
        have eW : EnvOk c g2 (L2.wipe σ vs) (wipeD Γ vs) := ((ea.mono0 (x'.trans x2.e0)).wipe vs)
        refine iv _ _ _ _ _ (qg y _ _ H'' g2 _ Γ1 S' (fun σ3 H3 => H3 = H'' ∧ EnvOk c g2 σ3 Γ1) s2 eW r2 hgf fun σ3 e3 => ⟨rfl, e3⟩) fun σ3 H3 ⟨eh, e3⟩ w3 => ⟨w3.trans (wipe_wipe σ vs), ?_⟩
        subst eh
        -- the tests
        cases hft : ft Γ1 S' with
        | stk => rw [hft] at h'; exact h'.elim
        | exc C fs S3 => rw [hft] at h'; exact h'.elim
        | ok b S3 =>
          rw [hft] at h'
          have h' : PostG (rD c) c { g' with F := F0 } Q Y ((if b = true then (fe Γ1 S3).noexc.bind fun y S => if lim (ds.length + 1) = true then cLoop gf ft fe src (wipeD Γ vs) (src.xs.drop (i + 1)) (ds ++ [y]) S else .stk
            else cLoop gf ft fe src (wipeD Γ vs) (src.xs.drop (i + 1)) ds S3).bind k) := h'
          refine qt σ3 H3 g2 Γ1 S' _ s2 e3 ?_
          rw [hft]
          intro b' H4 g4 x4 s4 eb
          subst eb
          have eF4 : g4.F = upd F0 p (.lst us) := by rw [x4.F, x2.F, eF]
          have xx : Ext { g' with F := F0 } { g4 with F := F0 } := ⟨x2.R.trans x4.R, fun n a q => x4.ρ n a (x2.ρ n a q), rfl⟩
          cases b' with
          | false =>
            rw [if_neg Bool.false_ne_true] at h' ⊢
            exact ⟨hlt, S3, ds, g4, us, x'.trans (x2.trans x4).e0, eF4, s4, r'.mono0 (x2.trans x4).e0, PostG.mono xx h'⟩
          | true =>
            rw [if_pos rfl] at h' ⊢
            cases hfe : fe Γ1 S3 with
            | stk => rw [hfe] at h'; exact h'.elim
            | exc C fs S5 => rw [hfe] at h'; exact h'.elim
            | ok y S5 =>
              rw [hfe] at h'
              have h' : PostG (rD c) c { g' with F := F0 } Q Y ((if lim (ds.length + 1) = true then cLoop gf ft fe src (wipeD Γ vs) (src.xs.drop (i + 1)) (ds ++ [y]) S5 else .stk).bind k) := h'
              by_cases hl : lim (ds.length + 1) = true
              · rw [if_pos hl] at h'
                refine qe σ3 H4 g4 Γ1 S3 _ s4 (e3.mono x4) ?_
                rw [hfe]
                intro v H5 g5 x5 s5 r5
                have eF5 : g5.F = upd F0 p (.lst us) := by rw [x5.F, eF4]
                refine ⟨us, (s5.kept p _ (by rw [eF5, upd_same])).1, ?_, hlt, S5, ds ++ [y], { g5 with F := upd F0 p (.lst (us ++ [v])) }, us ++ [v], ⟨x'.R.trans (x2.R.trans (x4.R.trans x5.R)), fun n a q => x5.ρ n a (x4.ρ n a (x2.ρ n a (x'.ρ n a q)))⟩, rfl, s5.turnF eF5 _, ?_, ?_⟩
                · have := lim_le hl
                  omega
                · exact Reps.mono0 (g := g5) (g' := { g5 with F := upd F0 p (.lst (us ++ [v])) }) ⟨Same.refl _, fun _ _ h => h⟩ (((r'.mono0 (x2.trans x4).e0).mono x5).app (.cons r5 .nil))
                · exact PostG.mono (⟨x2.R.trans (x4.R.trans x5.R), fun n a q => x5.ρ n a (x4.ρ n a (x2.ρ n a q)), rfl⟩ : Ext { g' with F := F0 } { g5 with F := F0 }) h'
              · rw [if_neg hl] at h'; exact h'.elim
    · rw [if_neg hgr] at h'; exact h'.elim
  · left
    have e0 : src.xs.drop i = [] := List.drop_eq_nil_of_le (by omega)
    rw [e0] at h'
    have h' : PostG (rD c) c { g' with F := F0 } Q Y ((if grd src S' = true then Res.ok ds S' else .stk).bind k) := h'
    by_cases hgr : grd src S' = true
    · rw [if_pos hgr] at h'
      exact ⟨(w g' H' S' i x' s' hgr).2 (by omega), fin H' S' ds ⟨g', us, x', eF, s', r', h'⟩⟩
    · rw [if_neg hgr] at h'; exact h'.elim
/-- what becomes of the list at the end -/
def FinOk (c : Cm) (fin : List D → Sto → Res D) : Prop := ∀ {g : Gh} {H : Hp} {S : Sto} {p : Addr} {us : List V} {ds : List D} {Q : VK} {Y : XK}, Sat c g H S → H p = some (.lst us) → g.F p = none → (∀ n, g.ρ n ≠ some p) → g.R p = none → Reps c g us ds → PostG (rD c) c g Q Y (fin ds S) → Q (.ref p) H
theorem LcInv.fin {ga : Gh} {F0 : Hp} {p : Addr} {H : Hp} {S : Sto} {ds : List D} {Q : VK} {Y : XK} {fin : List D → Sto → Res D} (hf : FinOk c fin) (h0 : F0 p = none) (h : LcInv c ga F0 p H S ds fun gF => PostG (rD c) c gF Q Y (fin ds S)) : Q (.ref p) H := by
  obtain ⟨g', us, x', eF, s', r', h'⟩ := h
  obtain ⟨k1, k2, k3⟩ := s'.kept p _ (by rw [eF, upd_same])
  exact hf (s'.dropF eF h0) k1 h0 k3 k2 (Reps.mono0 (g := g') (g' := { g' with F := F0 }) ⟨Same.refl _, fun _ _ h => h⟩ r') h'
def finL : List D → Sto → Res D := fun ds S => .ok (.lst ds) S
def finN : List D → Sto → Res D := fun ds S => .ok (.loc S.length) (S ++ [.lst ds])
theorem finL_ok : FinOk c finL := fun {g H S p us ds Q Y} s hp hF hρ hR r h => by
  obtain ⟨s2, x2⟩ := s.seal hp hF hρ hR
  exact h _ H _ x2 s2 (.lst upd_same (r.mono x2))
/-- a thing that is there, and that nothing names, becomes one of the store -/
theorem Sat.adopt {g : Gh} {H : Hp} {S : Sto} (s : Sat c g H S) {p : Addr} {o : HO} {k : Cell} (hp : H p = some o) (hF : g.F p = none) (hρ : ∀ n, g.ρ n ≠ some p) (hR : g.R p = none) (ok : ∀ g', Ext g g' → g'.ρ S.length = some p → g'.R p = none → CellOk c g' H S.length k) :
    ∃ g', Ext g g' ∧ g'.ρ S.length = some p ∧ Sat c g' H (S ++ [k]) := by
  have x : Ext g { g with ρ := fun n => if n = S.length then some p else g.ρ n } := ⟨Same.refl _, fun n a h => by
    show (if n = S.length then some p else g.ρ n) = some a
    rw [if_neg (Nat.ne_of_lt (s.dom n a h))]; exact h, rfl⟩
  have eρ : (if S.length = S.length then some p else g.ρ S.length) = some p := if_pos rfl
  refine ⟨_, x, eρ, s.sub, fun n a e => ?_, fun n a e => ?_, fun n m a e1 e2 => ?_, fun n k' e => ?_, fun a u e => ?_⟩
  · rw [List.length_append, List.length_singleton]
    by_cases hn : n = S.length
    · omega
    · have e : (if n = S.length then some p else g.ρ n) = some a := e
      rw [if_neg hn] at e
      have := s.dom n a e
      omega
  · have e : (if n = S.length then some p else g.ρ n) = some a := e
    by_cases hn : n = S.length
    · rw [if_pos hn] at e
      obtain rfl := Option.some.inj e
      exact ⟨o, hp⟩
    · rw [if_neg hn] at e
      exact s.there n a e
  · have e1 : (if n = S.length then some p else g.ρ n) = some a := e1
    have e2 : (if m = S.length then some p else g.ρ m) = some a := e2
    by_cases hn : n = S.length
    · by_cases hm : m = S.length
      · rw [hn, hm]
      · rw [if_pos hn] at e1; rw [if_neg hm] at e2
        obtain rfl := Option.some.inj e1
        exact (hρ m e2).elim
    · by_cases hm : m = S.length
      · rw [if_neg hn] at e1; rw [if_pos hm] at e2
        obtain rfl := Option.some.inj e2
        exact (hρ n e1).elim
      · rw [if_neg hn] at e1; rw [if_neg hm] at e2
        exact s.inj n m a e1 e2
  · by_cases hn : n < S.length
    · rw [List.getElem?_append_left hn] at e
      have q := s.cell n k' e
      cases k' with
      | dead => trivial
      | lst ds => obtain ⟨a, us, h1, h2, h3, h4⟩ := q; exact ⟨a, us, x.ρ _ _ h1, h2, h3, h4.mono x⟩
      | ins C fs => obtain ⟨a, dx, us, h1, h2, h3, h4⟩ := q; exact ⟨a, dx, us, x.ρ _ _ h1, h2, h3, h4.mono x⟩
      | dk kvs => obtain ⟨a, us, h1, h2, h3, h4⟩ := q; exact ⟨a, us, x.ρ _ _ h1, h2, h3, h4.mono x⟩
    · have hn' : n = S.length := by
        have := (List.getElem?_eq_some_iff.mp e).1
        rw [List.length_append, List.length_singleton] at this
        omega
      subst hn'
      rw [List.getElem?_append_right (Nat.le_refl _), Nat.sub_self] at e
      obtain rfl := Option.some.inj e
      exact ok _ x eρ hR
  · obtain ⟨h1, h2, h3⟩ := s.kept a u e
    refine ⟨h1, h2, fun n z => ?_⟩
    have z : (if n = S.length then some p else g.ρ n) = some a := z
    by_cases hn : n = S.length
    · rw [if_pos hn] at z
      obtain rfl := Option.some.inj z
      rw [hF] at e; cases e
    · rw [if_neg hn] at z
      exact h3 n z
theorem finN_ok : FinOk c finN := fun {g H S p us ds Q Y} s hp hF hρ hR r h => by
  obtain ⟨g2, x2, e2, s2⟩ := s.adopt (k := .lst ds) hp hF hρ hR fun g' x' e' r' => ⟨p, us, e', r', hp, r.mono x'⟩
  exact h _ H _ x2 s2 (.loc e2)
theorem ref_lc {wi : TI} {g : TG} {tt : TT} {te : TE} {vs : List Nat} {fin : List D → Sto → Res D} (hf : FinOk c fin) (qi : RefI c W wi fi) (qg : RefT c g gf) (iv : InV g vs) (qt : RefG rB c W0 tt ft) (qe : RefG (rD c) c W0 te fe) :
    RefG (rD c) c W (tLc wi g tt te vs) (fun Γ S => (fi Γ S).bind fun src S => (cLoop gf ft fe src (wipeD Γ vs) src.xs [] S).bind fin) := by
  intro σ H g0 Γ S Q s e h
  have h : PostG (rD c) c g0 Q (fun cl d H => W cl d σ H) ((fi Γ S).bind fun src S => (cLoop gf ft fe src (wipeD Γ vs) src.xs [] S).bind fin) := h
  refine qi σ H g0 Γ S _ s e ?_
  cases hff : fi Γ S with
  | stk => rw [hff] at h; exact h
  | exc C fs S1 => rw [hff] at h; exact h
  | ok src S1 =>
    rw [hff] at h
    intro J H1 g1 x1 s1 w p hp
    obtain ⟨f1, f2, f3⟩ := s1.free' hp
    exact lc_walk qg iv qt qe (F0 := g1.F) (k := fin) (Q := Q) (Y := fun cl d H => W cl d σ H) w (e.mono x1) (fun H' S' ds q => q.fin hf f2) ⟨{ g1 with F := upd g1.F p (.lst []) }, [], ⟨Same.refl _, fun _ _ h => h⟩, rfl, s1.keepF hp _, .nil, PostG.mono x1 h⟩
/-! two clauses -/
def cLoop2 (gf : GF) (ft : TF) (gf1 : GF) (fi1 : XF Src) (ft1 : TF) (fe : EF) (vs1 : List Nat) (src : Src) (Γ : Env) : List D → List D → Sto → Res (List D)
  | [], acc, S => if grd src S = true then .ok acc S else .stk
  | x :: r, acc, S => if grd src S = true then match gf x Γ with
    | none => .stk
    | some Γ1 => (ft Γ1 S).noexc.bind fun b S => if b = true then (fi1 Γ1 S).noexc.bind fun src1 S => (cLoop gf1 ft1 fe src1 (wipeD Γ1 vs1) src1.xs acc S).bind fun acc S => cLoop2 gf ft gf1 fi1 ft1 fe vs1 src Γ r acc S
      else cLoop2 gf ft gf1 fi1 ft1 fe vs1 src Γ r acc S
    else .stk
theorem bind_assoc {α β γ : Type} (r : Res α) (k : α → Sto → Res β) (l : β → Sto → Res γ) : (r.bind k).bind l = r.bind fun a S => (k a S).bind l := by
  cases r <;> rfl
theorem ref_lc2 {wi wi1 : TI} {g gg1 : TG} {tt tt1 : TT} {te : TE} {vs vs1 : List Nat} {gf1 : GF} {fi1 : XF Src} {ft1 : TF} {fin : List D → Sto → Res D} (hf : FinOk c fin) (qi : RefI c W wi fi) (qg : RefT c g gf) (iv : InV g vs) (qt : RefG rB c W0 tt ft)
    (qi1 : RefI c W0 wi1 fi1) (qg1 : RefT c gg1 gf1) (iv1 : InV gg1 vs1) (qt1 : RefG rB c W0 tt1 ft1) (qe : RefG (rD c) c W0 te fe) :
    RefG (rD c) c W (tLc2 wi g tt wi1 gg1 tt1 te vs vs1) (fun Γ S => (fi Γ S).bind fun src S => (cLoop2 gf ft gf1 fi1 ft1 fe vs1 src (wipeD Γ vs) src.xs [] S).bind fin) := by
  intro σ H g0 Γ S Q s e h
  have h : PostG (rD c) c g0 Q (fun cl d H => W cl d σ H) ((fi Γ S).bind fun src S => (cLoop2 gf ft gf1 fi1 ft1 fe vs1 src (wipeD Γ vs) src.xs [] S).bind fin) := h
  refine qi σ H g0 Γ S _ s e ?_
  cases hff : fi Γ S with
  | stk => rw [hff] at h; exact h
  | exc C fs S1 => rw [hff] at h; exact h
  | ok src S1 =>
    rw [hff] at h
    have h : PostG (rD c) c g0 Q (fun cl d H => W cl d σ H) ((cLoop2 gf ft gf1 fi1 ft1 fe vs1 src (wipeD Γ vs) src.xs [] S1).bind fin) := h
    intro J H1 g1 x1 s1 w p hp
    obtain ⟨f1, f2, f3⟩ := s1.free' hp
    generalize hY : (fun cl d H => W cl d σ H) = Y at h
    refine ⟨fun i m H' => m = src.xs.length - i ∧ i ≤ src.xs.length ∧ ∃ S' ds, LcInv c g1 g1.F p H' S' ds fun gF => PostG (rD c) c gF Q Y ((cLoop2 gf ft gf1 fi1 ft1 fe vs1 src (wipeD Γ vs) (src.xs.drop i) ds S').bind fin),
      ⟨_, rfl, Nat.zero_le _, S1, [], { g1 with F := upd g1.F p (.lst []) }, [], ⟨Same.refl _, fun _ _ h => h⟩, rfl, s1.keepF hp _, .nil, by rw [List.drop_zero]; exact PostG.mono x1 h⟩, ?_⟩
    rintro i m H' ⟨rfl, hi, S', ds, g', us, x', eF, s', r', h'⟩
    by_cases hlt : i < src.xs.length
    · right
      rw [List.drop_eq_getElem_cons hlt] at h'
      have h' : PostG (rD c) c { g' with F := g1.F } Q Y ((if grd src S' = true then match gf src.xs[i] (wipeD Γ vs) with
        | none => Res.stk
        | some Γ1 => (ft Γ1 S').noexc.bind fun b S => if b = true then (fi1 Γ1 S).noexc.bind fun src1 S => (cLoop gf1 ft1 fe src1 (wipeD Γ1 vs1) src1.xs ds S).bind fun acc S => cLoop2 gf ft gf1 fi1 ft1 fe vs1 src (wipeD Γ vs) (src.xs.drop (i + 1)) acc S
          else cLoop2 gf ft gf1 fi1 ft1 fe vs1 src (wipeD Γ vs) (src.xs.drop (i + 1)) ds S
        else .stk).bind fin) := h'
      by_cases hgr : grd src S' = true
      · rw [if_pos hgr] at h'
        cases hgf : gf src.xs[i] (wipeD Γ vs) with
        | none => rw [hgf] at h'; exact h'.elim
        | some Γ1 =>
          rw [hgf] at h'
          have h' : PostG (rD c) c { g' with F := g1.F } Q Y (((ft Γ1 S').noexc.bind fun b S => if b = true then (fi1 Γ1 S).noexc.bind fun src1 S => (cLoop gf1 ft1 fe src1 (wipeD Γ1 vs1) src1.xs ds S).bind fun acc S => cLoop2 gf ft gf1 fi1 ft1 fe vs1 src (wipeD Γ vs) (src.xs.drop (i + 1)) acc S
            else cLoop2 gf ft gf1 fi1 ft1 fe vs1 src (wipeD Γ vs) (src.xs.drop (i + 1)) ds S).bind fin) := h'
          obtain ⟨go, yl⟩ := (w g' H' S' i x' s' hgr).1 _ (List.getElem?_eq_getElem hlt)
          refine ⟨go, fun H2 => i + 1 ≤ src.xs.length ∧ ∃ S2 ds2, LcInv c g1 g1.F p H2 S2 ds2 fun gF => PostG (rD c) c gF Q Y ((cLoop2 gf ft gf1 fi1 ft1 fe vs1 src (wipeD Γ vs) (src.xs.drop (i + 1)) ds2 S2).bind fin),
            fun H2 ⟨n1, n2⟩ => ⟨src.xs.length - (i + 1), by omega, rfl, n1, n2⟩, fun y H'' hy => ?_⟩
          obtain ⟨g2, x2, s2, r2⟩ := yl y H'' hy
          have eW : EnvOk c g2 (L2.wipe σ vs) (wipeD Γ vs) := ((e.mono0 (x1.e0.trans (x'.trans x2.e0))).wipe vs)
          refine iv _ _ _ _ _ (qg y _ _ H'' g2 _ Γ1 S' (fun σ3 H3 => H3 = H'' ∧ EnvOk c g2 σ3 Γ1) s2 eW r2 hgf fun σ3 e3 => ⟨rfl, e3⟩) fun σ3 H3 ⟨eh, e3⟩ w3 => ⟨w3.trans (wipe_wipe σ vs), ?_⟩
          subst eh
          cases hft : ft Γ1 S' with
          | stk => rw [hft] at h'; exact h'.elim
          | exc C fs S3 => rw [hft] at h'; exact h'.elim
          | ok b S3 =>
            rw [hft] at h'
            have h' : PostG (rD c) c { g' with F := g1.F } Q Y ((if b = true then (fi1 Γ1 S3).noexc.bind fun src1 S => (cLoop gf1 ft1 fe src1 (wipeD Γ1 vs1) src1.xs ds S).bind fun acc S => cLoop2 gf ft gf1 fi1 ft1 fe vs1 src (wipeD Γ vs) (src.xs.drop (i + 1)) acc S
              else cLoop2 gf ft gf1 fi1 ft1 fe vs1 src (wipeD Γ vs) (src.xs.drop (i + 1)) ds S3).bind fin) := h'
            refine qt σ3 H3 g2 Γ1 S' _ s2 e3 ?_
            rw [hft]
            intro b' H4 g4 x4 s4 eb
            subst eb
            have eF4 : g4.F = upd g1.F p (.lst us) := by rw [x4.F, x2.F, eF]
            have xx : Ext { g' with F := g1.F } { g4 with F := g1.F } := ⟨x2.R.trans x4.R, fun n a q => x4.ρ n a (x2.ρ n a q), rfl⟩
            cases b' with
            | false =>
              rw [if_neg Bool.false_ne_true] at h' ⊢
              exact ⟨hlt, S3, ds, g4, us, x'.trans (x2.trans x4).e0, eF4, s4, r'.mono0 (x2.trans x4).e0, PostG.mono xx h'⟩
            | true =>
              rw [if_pos rfl] at h' ⊢
              refine qi1 σ3 H4 g4 Γ1 S3 _ s4 (e3.mono x4) ?_
              cases hfe : fi1 Γ1 S3 with
              | stk => rw [hfe] at h'; exact h'.elim
              | exc C fs S5 => rw [hfe] at h'; exact h'.elim
              | ok src1 S5 =>
                rw [hfe] at h'
                have h' : PostG (rD c) c { g' with F := g1.F } Q Y (((cLoop gf1 ft1 fe src1 (wipeD Γ1 vs1) src1.xs ds S5).bind fun acc S => cLoop2 gf ft gf1 fi1 ft1 fe vs1 src (wipeD Γ vs) (src.xs.drop (i + 1)) acc S).bind fin) := h'
                rw [bind_assoc] at h'
                intro J1 H5 g5 x5 s5 w5
                have eF5 : g5.F = upd g1.F p (.lst us) := by rw [x5.F, eF4]
                refine lc_walk qg1 iv1 qt1 qe (ga := g5) (F0 := g1.F) (p := p) (k := fun acc S => (cLoop2 gf ft gf1 fi1 ft1 fe vs1 src (wipeD Γ vs) (src.xs.drop (i + 1)) acc S).bind fin) (Q := Q) (Y := Y) w5 ((e3.mono x4).mono x5) (fun H6 S6 ds6 q => ⟨hlt, S6, ds6, q.mono (x'.trans ((x2.trans x4).trans x5).e0)⟩)
                  ⟨g5, us, Ext0.refl g5, eF5, s5, r'.mono0 ((x2.trans x4).trans x5).e0, PostG.mono (⟨x2.R.trans (x4.R.trans x5.R), fun n a q => x5.ρ n a (x4.ρ n a (x2.ρ n a q)), rfl⟩ : Ext { g' with F := g1.F } { g5 with F := g1.F }) h'⟩
      · rw [if_neg hgr] at h'; exact h'.elim
    · left
      have e0 : src.xs.drop i = [] := List.drop_eq_nil_of_le (by omega)
      rw [e0] at h'
      have h' : PostG (rD c) c { g' with F := g1.F } Q Y ((if grd src S' = true then Res.ok ds S' else .stk).bind fin) := h'
      by_cases hgr : grd src S' = true
      · rw [if_pos hgr] at h'
        exact ⟨(w g' H' S' i x' s' hgr).2 (by omega), LcInv.fin hf f2 ⟨g', us, x', eF, s', r', h'⟩⟩
      · rw [if_neg hgr] at h'; exact h'.elim
end
end DD
namespace DD
open PySem PySem.Spec PyProof.Rows L2
def cLc (fin : List D → Sto → Res D) (vs : List Nat) (gf : GF) (fi : XF Src) (ft : TF) (fe : EF) : EF := fun Γ S => (fi Γ S).bind fun src S => (cLoop gf ft fe src (wipeD Γ vs) src.xs [] S).bind fin
def cLc2 (fin : List D → Sto → Res D) (vs vs1 : List Nat) (gf : GF) (fi : XF Src) (ft : TF) (gf1 : GF) (fi1 : XF Src) (ft1 : TF) (fe : EF) : EF := fun Γ S => (fi Γ S).bind fun src S => (cLoop2 gf ft gf1 fi1 ft1 fe vs1 src (wipeD Γ vs) src.xs [] S).bind fin
section
variable {X : Cx} {c : Cm} {W : WX} {tg l elt tg1 l1 : Expr} {ifs ifs1 : List Expr} {scope : Scope} {own : List (Str × Nat)} {fe : EF} {ft ft1 : TF} {fi fi1 : XF Src} {gf gf1 : GF} {pos : Pos} {fin : List D → Sto → Res D} {vs1 : List Nat}
theorem pe_all {X : Ctx5 → Cx} {e : Expr} {f : EF} (h : ∀ i, DE (X i) c W0 e f) : ∃ t, (∀ i, PE (X i) e t) ∧ RefG (rD c) c W0 t f :=
  ⟨tAll fun i => Classical.choose (h i), fun i => ⟨fun pins s σ H Q I q => (Classical.choose_spec (h i)).1.run pins s σ H Q I (q i)⟩, RefG.all fun i => (Classical.choose_spec (h i)).2⟩
theorem pts_all {X : Ctx5 → Cx} {e : List Expr} {f : TF} (h : ∀ i, DTs (X i) c W0 e f) : ∃ t, (∀ i, PTs (X i) e t) ∧ RefG rB c W0 t f :=
  ⟨tAll fun i => Classical.choose (h i), fun i => ⟨fun pins s σ H Q I q => (Classical.choose_spec (h i)).1.run pins s σ H Q I (q i)⟩, RefG.all fun i => (Classical.choose_spec (h i)).2⟩
theorem pg_all {X : Ctx5 → Cx} {e : Expr} {f : GF} {vs : List Nat} (h : ∀ i, DG (X i) c e f vs) : ∃ t, (∀ i, PG (X i) e t) ∧ RefT c t f ∧ InV t vs :=
  ⟨fun v σ H Q => ∀ i, Classical.choose (h i) v σ H Q, fun i => ⟨fun pins s σ H v u Q I r q => (Classical.choose_spec (h i)).1.run pins s σ H v u Q I r (q i)⟩,
    fun v d σ H g Γ Γ' S Q s e r q k i => (Classical.choose_spec (h i)).2.1 v d σ H g Γ Γ' S Q s e r q k, fun v σ H Q Q' q k i => (Classical.choose_spec (h i)).2.2 v σ H Q Q' (q i) k⟩
theorem pi_all {X : Ctx5 → Cx} {e l : Expr} {f : XF Src} (h : ∀ i, DI (X i) c W0 e l f) : ∃ t, (∀ i, PI (X i) e l t) ∧ RefI c W0 t f :=
  ⟨fun σ H R => ∀ i, Classical.choose (h i) σ H R, fun i => ⟨fun pins s σ H R I q => (Classical.choose_spec (h i)).1.run pins s σ H R I (q i)⟩,
    fun σ H g Γ S R s e q i => (Classical.choose_spec (h i)).2 σ H g Γ S R s e q⟩
/-- the contexts of a comprehension's block -/
abbrev blkX (X : Cx) (scope : Scope) (i : Ctx5) : Cx := X.blk i.1 i.2.1 scope (compEnvC scope i.2.2.2.1 i.2.2.1 X.env) i.2.2.2.2
theorem de_lc (hf : FinOk c fin) (hc : X.calm = true) (hN : X.N.Nodup) (hi : DI X c W tg l fi) (ok : BlkOk X.N X.env.scope scope own) (hg : ∀ i, DG (blkX X scope i) c tg gf (own.map (·.2))) (ht : ∀ i, DTs (blkX X scope i) c W0 ifs ft) (he : ∀ i, DE (blkX X scope i) c W0 elt fe)
    (hs : ∀ x, foldedSetIterable l X.env x = pure x := by intro _; rfl) : DE X c W (.ListComp elt [⟨tg, l, ifs, 0⟩] scope pos) (cLc fin (own.map (·.2)) gf fi ft fe) := by
  obtain ⟨wi, p1, q1⟩ := hi
  obtain ⟨tg', p2, q2, i2⟩ := pg_all hg
  obtain ⟨tt, p3, q3⟩ := pts_all ht
  obtain ⟨te, p4, q4⟩ := pe_all he
  exact ⟨_, pe_lc hc hN p1 ok (fun s H C cl fp => p2 (s, H, C, cl, fp)) (fun s H C cl fp => p3 (s, H, C, cl, fp)) (fun s H C cl fp => p4 (s, H, C, cl, fp)) hs, ref_lc hf q1 q2 i2 q3 q4⟩
theorem ds_setLc (hf : FinOk c fin) {i : Nat} {y : Str} {py spos : Pos} (hc : X.calm = true) (hN : X.N.Nodup) (hy : X.N[i]? = some y) (hyl : X.env.scope.names.lookup y = some .local) (hsw : swapsWith (.ListComp elt [⟨tg, l, ifs, 0⟩] scope pos) (some (.Name y py)) spos.line X.env = pure true)
    (hi : DI X c W tg l fi) (ok : BlkOk X.N X.env.scope scope own) (hg : ∀ i, DG (blkX X scope i) c tg gf (own.map (·.2))) (ht : ∀ i, DTs (blkX X scope i) c W0 ifs ft) (he : ∀ i, DE (blkX X scope i) c W0 elt fe)
    (hs : ∀ x, foldedSetIterable l X.env x = pure x := by intro _; rfl) : DS X c W (.Assign [.Name y py] (.ListComp elt [⟨tg, l, ifs, 0⟩] scope pos) spos) (sSet i (cLc fin (own.map (·.2)) gf fi ft fe)) := by
  obtain ⟨wi, p1, q1⟩ := hi
  obtain ⟨tg', p2, q2, i2⟩ := pg_all hg
  obtain ⟨tt, p3, q3⟩ := pts_all ht
  obtain ⟨te, p4, q4⟩ := pe_all he
  refine ⟨_, ps_setLc hc hN hy hyl hsw p1 ok (fun s H C cl fp => p2 (s, H, C, cl, fp)) (fun s H C cl fp => p3 (s, H, C, cl, fp)) (fun s H C cl fp => p4 (s, H, C, cl, fp)) hs, fun E σ H g Γ S s e h => ?_⟩
  exact ref_lc hf q1 q2 i2 q3 q4 σ H g Γ S _ s e (PostS.of e h fun d S1 v H1 g1 x1 s1 r1 h1 => h1 _ H1 g1 (Ext.refl g1) s1 ((e.mono x1).set r1))
theorem de_lc2 (hf : FinOk c fin) (hc : X.calm = true) (hN : X.N.Nodup) (hi : DI X c W tg l fi) (ok : BlkOk X.N X.env.scope scope own) (hv : ∀ i ∈ vs1, i ∈ own.map (·.2)) (hg : ∀ i, DG (blkX X scope i) c tg gf (own.map (·.2))) (ht : ∀ i, DTs (blkX X scope i) c W0 ifs ft)
    (hi1 : ∀ i, DI (blkX X scope i) c W0 tg1 l1 fi1) (hg1 : ∀ i, DG (blkX X scope i) c tg1 gf1 vs1) (ht1 : ∀ i, DTs (blkX X scope i) c W0 ifs1 ft1) (he : ∀ i, DE (blkX X scope i) c W0 elt fe)
    (hs : ∀ x, foldedSetIterable l X.env x = pure x := by intro _; rfl) (hs1 : ∀ env x, foldedSetIterable l1 env x = pure x := by intro _ _; rfl) :
    DE X c W (.ListComp elt [⟨tg, l, ifs, 0⟩, ⟨tg1, l1, ifs1, 0⟩] scope pos) (cLc2 fin (own.map (·.2)) vs1 gf fi ft gf1 fi1 ft1 fe) := by
  obtain ⟨wi, p1, q1⟩ := hi
  obtain ⟨tg', p2, q2, i2⟩ := pg_all hg
  obtain ⟨tt, p3, q3⟩ := pts_all ht
  obtain ⟨te, p4, q4⟩ := pe_all he
  obtain ⟨wi1, p5, q5⟩ := pi_all hi1
  obtain ⟨tg1', p6, q6, i6⟩ := pg_all hg1
  obtain ⟨tt1, p7, q7⟩ := pts_all ht1
  exact ⟨_, pe_lc2 hc hN p1 ok hv (fun s H C cl fp => p2 (s, H, C, cl, fp)) (fun s H C cl fp => p3 (s, H, C, cl, fp)) (fun s H C cl fp => p5 (s, H, C, cl, fp)) (fun s H C cl fp => p6 (s, H, C, cl, fp)) (fun s H C cl fp => p7 (s, H, C, cl, fp)) (fun s H C cl fp => p4 (s, H, C, cl, fp)) hs hs1, ref_lc2 hf q1 q2 i2 q3 q5 q6 i6 q7 q4⟩
theorem ds_setLc2 (hf : FinOk c fin) {i : Nat} {y : Str} {py spos : Pos} (hc : X.calm = true) (hN : X.N.Nodup) (hy : X.N[i]? = some y) (hyl : X.env.scope.names.lookup y = some .local) (hsw : swapsWith (.ListComp elt [⟨tg, l, ifs, 0⟩, ⟨tg1, l1, ifs1, 0⟩] scope pos) (some (.Name y py)) spos.line X.env = pure true)
    (hi : DI X c W tg l fi) (ok : BlkOk X.N X.env.scope scope own) (hv : ∀ i ∈ vs1, i ∈ own.map (·.2)) (hg : ∀ i, DG (blkX X scope i) c tg gf (own.map (·.2))) (ht : ∀ i, DTs (blkX X scope i) c W0 ifs ft)
    (hi1 : ∀ i, DI (blkX X scope i) c W0 tg1 l1 fi1) (hg1 : ∀ i, DG (blkX X scope i) c tg1 gf1 vs1) (ht1 : ∀ i, DTs (blkX X scope i) c W0 ifs1 ft1) (he : ∀ i, DE (blkX X scope i) c W0 elt fe)
    (hs : ∀ x, foldedSetIterable l X.env x = pure x := by intro _; rfl) (hs1 : ∀ env x, foldedSetIterable l1 env x = pure x := by intro _ _; rfl) :
    DS X c W (.Assign [.Name y py] (.ListComp elt [⟨tg, l, ifs, 0⟩, ⟨tg1, l1, ifs1, 0⟩] scope pos) spos) (sSet i (cLc2 fin (own.map (·.2)) vs1 gf fi ft gf1 fi1 ft1 fe)) := by
  obtain ⟨wi, p1, q1⟩ := hi
  obtain ⟨tg', p2, q2, i2⟩ := pg_all hg
  obtain ⟨tt, p3, q3⟩ := pts_all ht
  obtain ⟨te, p4, q4⟩ := pe_all he
  obtain ⟨wi1, p5, q5⟩ := pi_all hi1
  obtain ⟨tg1', p6, q6, i6⟩ := pg_all hg1
  obtain ⟨tt1, p7, q7⟩ := pts_all ht1
  refine ⟨_, ps_setLc2 hc hN hy hyl hsw p1 ok hv (fun s H C cl fp => p2 (s, H, C, cl, fp)) (fun s H C cl fp => p3 (s, H, C, cl, fp)) (fun s H C cl fp => p5 (s, H, C, cl, fp)) (fun s H C cl fp => p6 (s, H, C, cl, fp)) (fun s H C cl fp => p7 (s, H, C, cl, fp)) (fun s H C cl fp => p4 (s, H, C, cl, fp)) hs hs1, fun E σ H g Γ S s e h => ?_⟩
  exact ref_lc2 hf q1 q2 i2 q3 q5 q6 i6 q7 q4 σ H g Γ S _ s e (PostS.of e h fun d S1 v H1 g1 x1 s1 r1 h1 => h1 _ H1 g1 (Ext.refl g1) s1 ((e.mono x1).set r1))
end
/-! ### defs -/
def spD (c : Cm) (n : Nat) (F : DF) : Sp := fun vs H Q E => ∃ g S ds, vs.length = n ∧ Sat c g H S ∧ Reps c g vs ds ∧ PostG (rD c) c g Q E (F ds S)
/-- the def at f does what F says -/
def DOk (P : Program) (w : World) (mg : Str → Option Value) (base : Heap) (c : Cm) (k : Nat) (f : Addr) (fd : FuncData) (ps : List Str) (F : DF) : Prop := FnOk P w c.K mg base (L2.CX P w) k f fd ps (spD c ps.length F)
def SRes.out : SRes → Res D
  | .nx _ S => .ok .non S
  | .rt d S => .ok d S
  | .exc C fs _ S => .exc C fs S
  | _ => .stk
/-- a body as a def: n names -/
def dDef (n : Nat) (body : SF) : DF := fun ds S => (body (ds.map some ++ List.replicate (n - ds.length) none) S).out
theorem reps_env {c : Cm} {g : Gh} : ∀ {vs : List V} {ds : List D} (m : Nat), Reps c g vs ds → EnvOk c g (vs.map some ++ List.replicate m none) (ds.map some ++ List.replicate m none) := fun {vs ds} m r => by
  refine ⟨by simp [r.len], fun i d h => ?_⟩
  by_cases hi : i < ds.length
  · rw [List.getElem?_append_left (by simpa using hi), List.getElem?_map] at h
    obtain ⟨d', h1, h2⟩ := Option.map_eq_some_iff.mp h
    obtain rfl := Option.some.inj h2
    obtain ⟨v, e, rv⟩ := r.get h1
    exact ⟨v, by rw [List.getElem?_append_left (by rw [List.length_map, r.len]; exact hi), List.getElem?_map, e]; rfl, rv⟩
  · rw [List.getElem?_append_right (by simpa using Nat.le_of_not_lt hi)] at h
    rw [List.getElem?_replicate] at h
    split at h <;> cases h
section
variable {P : Program} {w : World} {mg : Str → Option Value} {base : Heap} {c : Cm}
theorem dok_of {x qual : Str} {st : Stmt} {f : Addr} {fd : FuncData} {N ps : List Str} {k : Nat} {body : SF} (F : Fun c.K x qual st f fd) (S : FnScope N ps (defScope st))
    (hbody : ∀ (cdv : Value) (A : Around) (outer : List PySem.Env) (s : Shared) (H : Hp) (E : XK), Room k (A.deeper (envOfC qual (defScope st) s.heap.objs.size f cdv)) →
      DSs (cxOf (L2.CX P w) P w c.K mg base N qual (defScope st) f cdv A outer s H E) c (fun cl d _ H => E cl d H) (defBody st) body) : DOk P w mg base c (k + 1) f fd ps (dDef N.length body) := by
  refine F.okX S (fun vs H Q E h => ?_) fun cdv A outer s H vs Q E hr h => ?_
  · obtain ⟨_, _, _, h, _⟩ := h
    exact h
  · obtain ⟨g, S', ds, hl, s', r, h⟩ := h
    obtain ⟨t, p, q⟩ := hbody cdv A outer s H E hr
    refine ⟨t, p, q _ _ H g _ S' s' (reps_env (c := c) (g := g) (N.length - vs.length) r) ?_⟩
    rw [r.len]
    have h : PostG (rD c) c g Q E (body (ds.map some ++ List.replicate (N.length - ds.length) none) S').out := h
    cases hb : body (ds.map some ++ List.replicate (N.length - ds.length) none) S' with
    | nx Γ S1 => rw [hb] at h; exact fun σ' H' g' x s e => h _ H' g' x s .non
    | rt d S1 => rw [hb] at h; exact h
    | bk Γ S1 => rw [hb] at h; exact h.elim
    | ct Γ S1 => rw [hb] at h; exact h.elim
    | exc C fs Γ S1 => rw [hb] at h; exact fun d σ' H' g' x s e z => h d H' g' x s z
    | stk => rw [hb] at h; exact h
/-- another function that says less -/
theorem DOk.imp {k : Nat} {f : Addr} {fd : FuncData} {ps : List Str} {F F' : DF} (h : DOk P w mg base c k f fd ps F) (le : ∀ vs ds S H g Q E, Sat c g H S → Reps c g vs ds → PostG (rD c) c g Q E (F' ds S) → PostG (rD c) c g Q E (F ds S)) : DOk P w mg base c k f fd ps F' :=
  FnOk.imp h fun vs H Q E ⟨g, S, ds, hl, s, r, q⟩ => ⟨g, S, ds, hl, s, r, le vs ds S H g Q E s r q⟩
theorem DOk.eq {k : Nat} {f : Addr} {fd : FuncData} {ps : List Str} {F F' : DF} (h : DOk P w mg base c k f fd ps F) (e : ∀ ds S, F' ds S = .stk ∨ F' ds S = F ds S) : DOk P w mg base c k f fd ps F' :=
  h.imp fun vs ds S H g Q E s r q => by
    rcases e ds S with z | z
    · rw [z] at q; exact q.elim
    · rw [z] at q; exact q
theorem DOk.up {j k : Nat} {f : Addr} {fd : FuncData} {ps : List Str} {F : DF} (h : DOk P w mg base c j f fd ps F) (le : j ≤ k) : DOk P w mg base c k f fd ps F := FnOk.mono h le
end
section
variable {X : Cx} {c : Cm} {W : WX} {k : Nat} {f : Addr} {fd : FuncData} {ps : List Str} {F : DF} {x : Str} {p pos : Pos} {e : Expr} {es : List Expr} {r : AF}
def cCall (F : DF) (r : AF) : EF := fun Γ S => (r Γ S).bind F
theorem ref_call {t : TA} (hl : ∀ {σ H g Γ S Q}, Sat c g H S → EnvOk c g σ Γ → PostG (rDs c) c g Q (fun cl d H => W cl d σ H) (r Γ S) → t σ H Q) (hn : ∀ {Γ S ds S1}, r Γ S = .ok ds S1 → ds.length = ps.length) :
    RefG (rD c) c W (tCallS (spD c ps.length F) (L2.WE W) t) (cCall F r) := fun σ H g Γ S Q s e h => by
  have h : PostG (rD c) c g Q (fun cl d H => W cl d σ H) ((r Γ S).bind F) := h
  refine hl s e ?_
  cases hr : r Γ S with
  | stk => rw [hr] at h; exact h
  | exc C fs S1 => rw [hr] at h; exact h
  | ok ds S1 =>
    rw [hr] at h
    exact fun vs H1 g1 x1 s1 r1 => ⟨g1, S1, ds, by rw [r1.len]; exact hn hr, s1, r1, PostG.mono x1 h⟩
/-- how many values an argument list gives -/
def LenA (r : AF) (n : Nat) : Prop := ∀ {Γ S ds S1}, r Γ S = .ok ds S1 → ds.length = n
theorem len_nil : LenA cNil 0 := fun h => by
  cases h; rfl
theorem len_cons {f : EF} {r : AF} {n : Nat} (h : LenA r n) : LenA (cCons f r) (n + 1) := fun {Γ S ds S1} q => by
  have q : ((f Γ S).bind fun d S => (r Γ S).bind fun ds S => .ok (d :: ds) S) = Res.ok ds S1 := q
  cases hf : f Γ S with
  | stk => rw [hf] at q; cases q
  | exc C fs S1 => rw [hf] at q; cases q
  | ok d S2 =>
    rw [hf] at q
    have q : ((r Γ S2).bind fun ds S => .ok (d :: ds) S) = Res.ok ds S1 := q
    cases hr : r Γ S2 with
    | stk => rw [hr] at q; cases q
    | exc C fs S1 => rw [hr] at q; cases q
    | ok d' S3 =>
      rw [hr] at q
      cases q
      rw [List.length_cons, h hr]
theorem de_call (hK : c = ⟨X.K, c.cm⟩) (tk : Takes X W) (D : DOk X.prog X.w X.mg X.base c k f fd ps F) (hr : Room k X.A) (hg : Gl X x) (hm : X.mg x = some (.ref f)) (hk : PySem.W.keepIn c.K (.ref f) = true) (hb : L2.Binds c.K fd ps []) (ha : DA X c W (e :: es) r) (hn : LenA r ps.length)
    (hdb : (x == ("__debug__" : Str)) = false := by decide) (he : starEach (e :: es) X.env = (false, eval e X.env) :: starEach es X.env := by rfl) (hpl : (backTo pos (starEach es X.env)).any (·.1) = false := by rfl) :
    DE X c W (.Call (.Name x p) (e :: es) [] pos) (cCall F r) := by
  obtain ⟨t, p, q⟩ := ha
  have eK : c.K = X.K := by rw [hK]
  unfold DOk at D
  rw [eK] at D hk hb
  exact ⟨_, pe_callS D hr hg hm hk hb (fun σ => passAt tk σ) p hdb he hpl, ref_call (fun s e h => q _ _ _ _ _ _ s e h) hn⟩
end
end DD
namespace DD
open PySem PySem.Spec PyProof.Rows L2
section
variable {X : Cx} {c : Cm} {W : WX}
theorem opr_or {f : Value → Value → Sem Value} {r1 r2 : R2} (h1 : OpR X f r1) (h2 : OpR X f r2) : OpR X f (fun x y H Q => r1 x y H Q ∨ r2 x y H Q) := fun pins s σ H x y v u Q I rx ry h => h.elim (h1 pins s σ H x y v u Q I rx ry) (h2 pins s σ H x y v u Q I rx ry)
theorem callr_or {f : Value} {r1 r2 : List V → Hp → VK → Prop} (h1 : CallR X f r1) (h2 : CallR X f r2) : CallR X f (fun xs H Q => r1 xs H Q ∨ r2 xs H Q) := fun pins s σ H xs us Q I rx h => h.elim (h1 pins s σ H xs us Q I rx) (h2 pins s σ H xs us Q I rx)
/-! ### places -/
/-- the items of a list -/
def lstOf (S : Sto) : D → Option (List D)
  | .lst xs => some xs
  | .loc n => match S[n]? with
    | some (.lst xs) => some xs
    | _ => none
  | _ => none
/-- .. or of one that is only read -/
def rdOf (S : Sto) : D → Option (List D)
  | .wl xs => some xs
  | d => lstOf S d
/-- .. or of a tuple -/
def sqOf (S : Sto) : D → Option (List D)
  | .tup xs => some xs
  | d => rdOf S d
variable {g : Gh} {H : Hp} {S : Sto}
theorem lst_at (s : Sat c g H S) {v : V} {d : D} (r : Rep c g v d) {xs : List D} (h : lstOf S d = some xs) : ∃ a us, v = .ref a ∧ H a = some (.lst us) ∧ Reps c g us xs := by
  cases d with
  | lst ys =>
    obtain rfl := Option.some.inj h
    cases r with
    | lst hq r => exact ⟨_, _, rfl, s.sub _ _ hq, r⟩
  | loc n =>
    have h : (match S[n]? with | some (.lst xs) => some xs | _ => none) = some xs := h
    cases r with
    | loc hn =>
      cases hc : S[n]? with
      | none => rw [hc] at h; cases h
      | some k =>
        rw [hc] at h
        cases k with
        | lst ys =>
          obtain rfl := Option.some.inj h
          obtain ⟨a, us, e1, e2, e3, e4⟩ := s.cell n _ hc
          rw [hn] at e1
          obtain rfl := Option.some.inj e1
          exact ⟨_, us, rfl, e3, e4⟩
        | _ => cases h
  | _ => cases h
theorem rd_at (s : Sat c g H S) {v : V} {d : D} (r : Rep c g v d) {xs : List D} (h : rdOf S d = some xs) : ∃ a us, v = .ref a ∧ SqL c.K H a us ∧ Reps c g us xs := by
  cases d with
  | wl ys =>
    obtain rfl := Option.some.inj h
    cases r with
    | wl hq r => exact ⟨_, _, rfl, Same.seq s.sub hq, r⟩
  | lst ys => obtain ⟨a, us, e1, e2, e3⟩ := lst_at s r (show lstOf S (.lst ys) = some xs from h); exact ⟨a, us, e1, SqL.of e2, e3⟩
  | loc n => obtain ⟨a, us, e1, e2, e3⟩ := lst_at s r (show lstOf S (.loc n) = some xs from h); exact ⟨a, us, e1, SqL.of e2, e3⟩
  | _ => cases h
theorem tup_at (s : Sat c g H S) {v : V} {xs : List D} (r : Rep c g v (.tup xs)) : ∃ a us, v = .ref a ∧ SqT c.K H a us ∧ Reps c g us xs := by
  cases r with
  | tup hq r => exact ⟨_, _, rfl, sqT_same s.sub hq, r⟩
theorem sq_at (s : Sat c g H S) {v : V} {d : D} (r : Rep c g v d) {xs : List D} (h : sqOf S d = some xs) : ∃ a us, v = .ref a ∧ (SqL c.K H a us ∨ SqT c.K H a us) ∧ Reps c g us xs := by
  cases d with
  | tup ys => obtain rfl := Option.some.inj h; obtain ⟨a, us, e1, e2, e3⟩ := tup_at s r; exact ⟨a, us, e1, .inr e2, e3⟩
  | wl ys => obtain ⟨a, us, e1, e2, e3⟩ := rd_at s r (show rdOf S (.wl ys) = some xs from h); exact ⟨a, us, e1, .inl e2, e3⟩
  | lst ys => obtain ⟨a, us, e1, e2, e3⟩ := rd_at s r (show rdOf S (.lst ys) = some xs from h); exact ⟨a, us, e1, .inl e2, e3⟩
  | loc n => obtain ⟨a, us, e1, e2, e3⟩ := rd_at s r (show rdOf S (.loc n) = some xs from h); exact ⟨a, us, e1, .inl e2, e3⟩
  | _ => cases h
/-! ### + - * // % ** -/
def guard1 (b : Bool) (r : Res D) : Res D := if b = true then r else .stk
theorem guard_of {b : Bool} {r : Res D} {Q : VK} {Y : XK} (h : PostG (rD c) c g Q Y (guard1 b r)) : b = true ∧ PostG (rD c) c g Q Y r := by
  unfold guard1 at h
  cases b with
  | true => exact ⟨rfl, h⟩
  | false => exact h.elim
theorem nox_guard {b : Bool} {r : Res D} (h : NoX r) : NoX (guard1 b r) := by
  unfold guard1
  cases b
  · exact trivial
  · exact h
def oAdd : D → D → Sto → Res D := fun a b S => match a, b with
  | .int i, .int j => .ok (.int (i + j)) S
  | .int i, .bl k => .ok (.int (i + b2i k)) S
  | .str x, .str y => guard1 (lim (x.length + y.length)) (.ok (.str (x ++ y)) S)
  | .tup xs, .tup ys => guard1 (lim (xs.length + ys.length)) (.ok (.tup (xs ++ ys)) S)
  | a, b => match lstOf S a, lstOf S b with
    | some xs, some ys => guard1 (lim (xs.length + ys.length)) (.ok (.lst (xs ++ ys)) S)
    | _, _ => .stk
def rAddAny (K : PySem.W.Frag) : R2 := fun x y H Q => ((rI0 fun i j => .int (i + j)) x y H Q ∨ (fun x y H Q => ∃ i k, x = .int i ∧ y = .bl k ∧ Q (.int (i + b2i k)) H : R2) x y H Q) ∨
  ((fun x y H Q => ∃ i j, x = .str i ∧ y = .str j ∧ i.length + j.length ≤ sizeLine ∧ Q (.str (i ++ j)) H : R2) x y H Q ∨ (rCatA K x y H Q ∨ rCat x y H Q))
theorem opr_add : OpR X (binaryOp .Add) (rAddAny X.K) := opr_or (opr_or op_add op_add_ib) (opr_or op_add_str (opr_or op_catA op_cat))
theorem opd_add_lst {x y : V} {a b : D} {Q : VK} (s : Sat c g H S) (rx : Rep c g x a) (ry : Rep c g y b) (h : PostG (rD c) c g Q (fun _ _ _ => False) (match lstOf S a, lstOf S b with
    | some xs, some ys => guard1 (lim (xs.length + ys.length)) (.ok (.lst (xs ++ ys)) S)
    | _, _ => Res.stk)) : rCat x y H Q := by
  cases ha : lstOf S a with
  | none => rw [ha] at h; exact h.elim
  | some xs =>
    cases hb : lstOf S b with
    | none => rw [ha, hb] at h; exact h.elim
    | some ys =>
      rw [ha, hb] at h
      obtain ⟨hl, h⟩ := guard_of h
      obtain ⟨p, us, rfl, h1, r1⟩ := lst_at s rx ha
      obtain ⟨q, ws, rfl, h2, r2⟩ := lst_at s ry hb
      refine ⟨_, _, us, ws, rfl, rfl, h1, h2, by rw [r1.len, r2.len]; exact lim_le hl, fun z hz => ?_⟩
      obtain ⟨s2, x2⟩ := s.new hz (.lst (us ++ ws))
      exact h _ _ _ x2 s2 (.lst upd_same ((r1.app r2).mono x2))
theorem opd_add (hK : c.K = X.K) : OpD c (rAddAny X.K) oAdd := fun H g S x y a b Q s rx ry h => by
  rw [← hK]
  have key : ∀ (h : PostG (rD c) c g Q (fun _ _ _ => False) (match lstOf S a, lstOf S b with
    | some xs, some ys => guard1 (lim (xs.length + ys.length)) (.ok (.lst (xs ++ ys)) S)
    | _, _ => Res.stk)), rAddAny c.K x y H Q := fun h => .inr (.inr (.inr (opd_add_lst s rx ry h)))
  cases a with
  | int i =>
    cases b with
    | int j => cases rx; cases ry; exact .inl (.inl ⟨i, j, rfl, rfl, h _ H g (Ext.refl g) s (.int _)⟩)
    | bl k => cases rx; cases ry; exact .inl (.inr ⟨i, k, rfl, rfl, h _ H g (Ext.refl g) s (.int _)⟩)
    | _ => exact key h
  | str z =>
    cases b with
    | str w =>
      cases rx; cases ry
      obtain ⟨hl, h⟩ := guard_of (show PostG (rD c) c g Q _ (guard1 _ _) from h)
      exact .inr (.inl ⟨z, w, rfl, rfl, lim_le hl, h _ H g (Ext.refl g) s (.str _)⟩)
    | _ => exact key h
  | tup xs =>
    cases b with
    | tup ys =>
      obtain ⟨hl, h⟩ := guard_of (show PostG (rD c) c g Q _ (guard1 _ _) from h)
      have ry' := ry
      have rx' := rx
      obtain ⟨p, us, rfl, h1, r1⟩ := tup_at s rx
      obtain ⟨q, ws, rfl, h2, r2⟩ := tup_at s ry
      refine .inr (.inr (.inl ⟨p, q, us, ws, rfl, rfl, h1, h2, by rw [r1.len, r2.len]; exact lim_le hl, fun e => ?_, fun n e => ?_, fun n1 n2 z hz => ?_⟩))
      · subst e; cases r1; exact h _ H g (Ext.refl g) s ry'
      · subst e; cases r2; rw [List.append_nil] at h; exact h _ H g (Ext.refl g) s rx'
      · obtain ⟨s2, x2⟩ := s.new hz (.tup (us ++ ws))
        exact h _ _ _ x2 s2 (.tup (SqT.of upd_same) ((r1.app r2).mono x2))
    | _ => exact key h
  | _ => exact key h
theorem nox_add : OpN oAdd := fun a b S => by
  have key : NoX (match lstOf S a, lstOf S b with
    | some xs, some ys => guard1 (lim (xs.length + ys.length)) (.ok (.lst (xs ++ ys)) S)
    | _, _ => Res.stk) := by
    cases lstOf S a with
    | none => exact trivial
    | some xs => cases lstOf S b with
      | none => exact trivial
      | some ys => exact nox_guard trivial
  cases a with
  | int i => cases b <;> first | exact trivial | exact key
  | str z => cases b <;> first | exact nox_guard trivial | exact key
  | tup xs => cases b <;> first | exact nox_guard trivial | exact key
  | _ => exact key
/-- two ints under a test -/
def oInt (C : Int → Int → Bool) (f : Int → Int → D) : D → D → Sto → Res D := fun a b S => match a, b with
  | .int i, .int j => guard1 (C i j) (.ok (f i j) S)
  | _, _ => .stk
theorem opd_int {C : Int → Int → Bool} {C' : Int → Int → Prop} {f : Int → Int → D} {f' : Int → Int → V} (hC : ∀ i j, C i j = true → C' i j) (hf : ∀ g i j, Rep c g (f' i j) (f i j)) : OpD c (rI C' f') (oInt C f) := fun H g S x y a b Q s rx ry h => by
  cases a with
  | int i =>
    cases b with
    | int j =>
      cases rx; cases ry
      obtain ⟨hl, h⟩ := guard_of (show PostG (rD c) c g Q _ (guard1 _ _) from h)
      exact ⟨i, j, rfl, rfl, hC _ _ hl, h _ H g (Ext.refl g) s (hf g i j)⟩
    | _ => exact h.elim
  | _ => cases b <;> exact h.elim
theorem opd_int0 {f : Int → Int → D} {f' : Int → Int → V} (hf : ∀ g i j, Rep c g (f' i j) (f i j)) : OpD c (rI0 f') (oInt (fun _ _ => true) f) := fun H g S x y a b Q s rx ry h => by
  cases a with
  | int i =>
    cases b with
    | int j =>
      cases rx; cases ry
      exact ⟨i, j, rfl, rfl, h _ H g (Ext.refl g) s (hf g i j)⟩
    | _ => exact h.elim
  | _ => cases b <;> exact h.elim
theorem nox_int {C : Int → Int → Bool} {f : Int → Int → D} : OpN (oInt C f) := fun a b S => by
  cases a with
  | int i => cases b <;> first | exact trivial | exact nox_guard trivial
  | _ => cases b <;> exact trivial
def oSub := oInt (fun _ _ => true) fun i j => .int (i - j)
def bMul (i j : Int) : Bool := decide ((-(2 ^ 64) < i ∧ i < 2 ^ 64) ∨ (-(2 ^ 64) < j ∧ j < 2 ^ 64))
def oMulI := oInt bMul fun i j => .int (i * j)
def bDiv (i j : Int) : Bool := decide (j ≠ 0 ∧ j.natAbs < 2 ^ 100)
def CDivB (_ j : Int) : Prop := j ≠ 0 ∧ j.natAbs < 2 ^ 100
theorem op_divB {X : Cx} : OpR X (binaryOp .FloorDiv) (rI CDivB fun i j => .int (i.fdiv j)) := opI fun _ _ _ _ _ _ _ hc q => floordiv_int hc.1 q (.inl (PyProof.noPylong_of_log2 (Nat.lt_trans (Nat.log2_lt (by have := hc.1; omega) |>.mpr hc.2) (by decide))))
def oDiv := oInt bDiv fun i j => .int (i.fdiv j)
def oMod := oInt (fun _ j => decide (j ≠ 0)) fun i j => .int (i.fmod j)
def bPow (i j : Int) : Bool := decide (0 ≤ j ∧ j ≤ 1000000 ∧ i.natAbs < 2 ^ 64)
def oPow := oInt bPow fun i j => .int (i ^ j.toNat)
def oLt := oInt (fun _ _ => true) fun i j => .bl (decide (i < j))
def oLe := oInt (fun _ _ => true) fun i j => .bl (decide (i ≤ j))
def oGt := oInt (fun _ _ => true) fun i j => .bl (decide (j < i))
def oGe := oInt (fun _ _ => true) fun i j => .bl (decide (j ≤ i))
theorem opd_sub : OpD c (rI0 fun i j => .int (i - j)) oSub := opd_int0 fun _ _ _ => .int _
theorem opd_mul : OpD c (rI CMul fun i j => .int (i * j)) oMulI := opd_int (fun _ _ h => by unfold bMul at h; have q := of_decide_eq_true h; exact q) fun _ _ _ => .int _
theorem opd_div : OpD c (rI CDivB fun i j => .int (i.fdiv j)) oDiv := opd_int (fun _ _ h => by unfold bDiv at h; have q := of_decide_eq_true h; exact q) fun _ _ _ => .int _
theorem opd_mod : OpD c (rI (fun _ j => j ≠ 0) fun i j => .int (i.fmod j)) oMod := opd_int (fun _ _ h => of_decide_eq_true h) fun _ _ _ => .int _
theorem opd_pow : OpD c (rI CPow fun i j => .int (i ^ j.toNat)) oPow := opd_int (fun _ _ h => by unfold bPow at h; have q := of_decide_eq_true h; exact q) fun _ _ _ => .int _
theorem opd_lt : OpD c (rI0 fun i j => .bl (decide (i < j))) oLt := opd_int0 fun _ _ _ => .bl _
theorem opd_le : OpD c (rI0 fun i j => .bl (decide (i ≤ j))) oLe := opd_int0 fun _ _ _ => .bl _
theorem opd_gt : OpD c (rI0 fun i j => .bl (decide (j < i))) oGt := opd_int0 fun _ _ _ => .bl _
theorem opd_ge : OpD c (rI0 fun i j => .bl (decide (j ≤ i))) oGe := opd_int0 fun _ _ _ => .bl _
end
end DD
namespace DD
open PySem PySem.Spec PyProof.Rows L2
/-! ### data as the library knows it -/
def mapO {α β : Type} (f : α → Option β) : List α → Option (List β)
  | [] => some []
  | a :: r => match f a, mapO f r with
    | some b, some t => some (b :: t)
    | _, _ => none
def toP (S : Sto) : Nat → D → Option PyData
  | _, .non => some .none
  | _, .bl b => some (.bool b)
  | _, .int i => some (.int i)
  | _, .str x => if PyData.strOk x = true then some (.str x) else none
  | n + 1, .tup xs => (mapO (toP S n) xs).map .tuple
  | n + 1, .lst xs => (mapO (toP S n) xs).map .list
  | n + 1, .wl xs => (mapO (toP S n) xs).map .list
  | n + 1, .loc m => match S[m]? with
    | some (.lst xs) => (mapO (toP S n) xs).map .list
    | _ => none
  | _, _ => none
section
variable {c : Cm} {g : Gh} {H : Hp} {S : Sto}
theorem mapO_dp {n : Nat} (ih : ∀ v d p, Rep c g v d → toP S n d = some p → Dp c.K H v p) : ∀ (xs : List D) (us : List V) (ps : List PyData), Reps c g us xs → mapO (toP S n) xs = some ps → DpAll c.K H us ps
  | [], _, _, r, h => by
    cases r
    obtain rfl := Option.some.inj h
    exact .nil
  | x :: xs, _, ps, r, h => by
    cases r with
    | cons r1 r2 =>
      rw [mapO] at h
      cases h1 : toP S n x with
      | none => rw [h1] at h; cases h
      | some p =>
        cases h2 : mapO (toP S n) xs with
        | none => rw [h1, h2] at h; cases h
        | some t =>
          rw [h1, h2] at h
          obtain rfl := Option.some.inj h
          exact .cons (ih _ _ _ r1 h1) (mapO_dp ih xs _ _ r2 h2)
theorem dp_of (s : Sat c g H S) : ∀ (n : Nat) (v : V) (d : D) (p : PyData), Rep c g v d → toP S n d = some p → Dp c.K H v p := by
  intro n
  induction n with
  | zero =>
    intro v d p r h
    cases d with
    | non => cases r; obtain rfl := Option.some.inj (show some PyData.none = some p from h); exact .non
    | bl b => cases r; obtain rfl := Option.some.inj (show some (PyData.bool b) = some p from h); exact .bl b
    | int i => cases r; obtain rfl := Option.some.inj (show some (PyData.int i) = some p from h); exact .int i
    | str x =>
      cases r
      have h : (if PyData.strOk x = true then some (PyData.str x) else none) = some p := h
      split at h
      · obtain rfl := Option.some.inj h; exact .str x
      · cases h
    | _ => cases h
  | succ n ih =>
    intro v d p r h
    cases d with
    | non => cases r; obtain rfl := Option.some.inj (show some PyData.none = some p from h); exact .non
    | bl b => cases r; obtain rfl := Option.some.inj (show some (PyData.bool b) = some p from h); exact .bl b
    | int i => cases r; obtain rfl := Option.some.inj (show some (PyData.int i) = some p from h); exact .int i
    | str x =>
      cases r
      have h : (if PyData.strOk x = true then some (PyData.str x) else none) = some p := h
      split at h
      · obtain rfl := Option.some.inj h; exact .str x
      · cases h
    | tup xs =>
      obtain ⟨ps, h1, h2⟩ := Option.map_eq_some_iff.mp (show (mapO (toP S n) xs).map .tuple = some p from h)
      subst h2
      obtain ⟨a, us, rfl, e2, e3⟩ := tup_at s r
      exact .tup e2 (mapO_dp ih xs us ps e3 h1)
    | lst xs =>
      obtain ⟨ps, h1, h2⟩ := Option.map_eq_some_iff.mp (show (mapO (toP S n) xs).map .list = some p from h)
      subst h2
      obtain ⟨a, us, rfl, e2, e3⟩ := lst_at s r (show lstOf S (.lst xs) = some xs from rfl)
      exact .lst (SqL.of e2) (mapO_dp ih xs us ps e3 h1)
    | wl xs =>
      obtain ⟨ps, h1, h2⟩ := Option.map_eq_some_iff.mp (show (mapO (toP S n) xs).map .list = some p from h)
      subst h2
      obtain ⟨a, us, rfl, e2, e3⟩ := rd_at s r (show rdOf S (.wl xs) = some xs from rfl)
      exact .lst e2 (mapO_dp ih xs us ps e3 h1)
    | loc m =>
      have h : (match S[m]? with | some (.lst xs) => (mapO (toP S n) xs).map PyData.list | _ => none) = some p := h
      cases hc : S[m]? with
      | none => rw [hc] at h; cases h
      | some k =>
        rw [hc] at h
        cases k with
        | lst xs =>
          obtain ⟨ps, h1, h2⟩ := Option.map_eq_some_iff.mp h
          subst h2
          obtain ⟨a, us, rfl, e2, e3⟩ := lst_at s r (show lstOf S (.loc m) = some xs by show (match S[m]? with | some (.lst xs) => some xs | _ => none) = some xs; rw [hc])
          exact .lst (SqL.of e2) (mapO_dp ih xs us ps e3 h1)
        | _ => cases h
    | _ => cases h
/-- all of it is of the shapes that == knows -/
theorem mapO_lay {n : Nat} (ih : ∀ d p, toP S n d = some p → p.canLay0 = true ∧ p.depth ≤ n) : ∀ (xs : List D) (ps : List PyData), mapO (toP S n) xs = some ps → PyData.canLayAll0 ps = true ∧ PyData.depthAll ps ≤ n
  | [], _, h => by
    obtain rfl := Option.some.inj h
    exact ⟨by simp [PyData.canLayAll0], by simp [PyData.depthAll]⟩
  | x :: xs, ps, h => by
    rw [mapO] at h
    cases h1 : toP S n x with
    | none => rw [h1] at h; cases h
    | some p =>
      cases h2 : mapO (toP S n) xs with
      | none => rw [h1, h2] at h; cases h
      | some t =>
        rw [h1, h2] at h
        obtain rfl := Option.some.inj h
        obtain ⟨a1, a2⟩ := ih _ _ h1
        obtain ⟨b1, b2⟩ := mapO_lay ih xs t h2
        exact ⟨by simp [PyData.canLayAll0, a1, b1], by simp only [PyData.depthAll]; omega⟩
theorem toP_lay : ∀ (n : Nat) (d : D) (p : PyData), toP S n d = some p → p.canLay0 = true ∧ p.depth ≤ n := by
  intro n
  induction n with
  | zero =>
    intro d p h
    cases d with
    | non => obtain rfl := Option.some.inj (show some PyData.none = some p from h); simp [PyData.canLay0, PyData.depth]
    | bl b => obtain rfl := Option.some.inj (show some (PyData.bool b) = some p from h); simp [PyData.canLay0, PyData.depth]
    | int i => obtain rfl := Option.some.inj (show some (PyData.int i) = some p from h); simp [PyData.canLay0, PyData.depth]
    | str x =>
      have h : (if PyData.strOk x = true then some (PyData.str x) else none) = some p := h
      split at h
      · rename_i hx
        obtain rfl := Option.some.inj h; simp [PyData.canLay0, PyData.depth, hx]
      · cases h
    | _ => cases h
  | succ n ih =>
    have key : ∀ (xs : List D) (p : PyData) (k : List PyData → PyData), (∀ ps, (k ps).canLay0 = PyData.canLayAll0 ps) → (∀ ps, (k ps).depth = PyData.depthAll ps + 1) → (mapO (toP S n) xs).map k = some p → p.canLay0 = true ∧ p.depth ≤ n + 1 := fun xs p k k1 k2 h => by
      obtain ⟨ps, h1, h2⟩ := Option.map_eq_some_iff.mp h
      subst h2
      obtain ⟨b1, b2⟩ := mapO_lay ih xs ps h1
      exact ⟨by rw [k1, b1], by rw [k2]; omega⟩
    intro d p h
    cases d with
    | non => obtain rfl := Option.some.inj (show some PyData.none = some p from h); simp [PyData.canLay0, PyData.depth]
    | bl b => obtain rfl := Option.some.inj (show some (PyData.bool b) = some p from h); simp [PyData.canLay0, PyData.depth]
    | int i => obtain rfl := Option.some.inj (show some (PyData.int i) = some p from h); simp [PyData.canLay0, PyData.depth]
    | str x =>
      have h : (if PyData.strOk x = true then some (PyData.str x) else none) = some p := h
      split at h
      · rename_i hx
        obtain rfl := Option.some.inj h; simp [PyData.canLay0, PyData.depth, hx]
      · cases h
    | tup xs => exact key xs p .tuple (fun _ => by simp [PyData.canLay0]) (fun _ => by simp [PyData.depth]) h
    | lst xs => exact key xs p .list (fun _ => by simp [PyData.canLay0]) (fun _ => by simp [PyData.depth]) h
    | wl xs => exact key xs p .list (fun _ => by simp [PyData.canLay0]) (fun _ => by simp [PyData.depth]) h
    | loc m =>
      have h : (match S[m]? with | some (.lst xs) => (mapO (toP S n) xs).map PyData.list | _ => none) = some p := h
      cases hc : S[m]? with
      | none => rw [hc] at h; cases h
      | some k =>
        rw [hc] at h
        cases k with
        | lst xs => exact key xs p .list (fun _ => by simp [PyData.canLay0]) (fun _ => by simp [PyData.depth]) h
        | _ => cases h
    | _ => cases h
theorem toP_shaped {d : D} {p : PyData} (h : toP S 20 d = some p) : SeqAt.shaped p = true := by
  obtain ⟨h1, h2⟩ := toP_lay 20 d p h
  exact Bool.and_eq_true_iff.mpr ⟨h1, decide_eq_true (by omega)⟩
end
end DD
namespace DD
open PySem PySem.Spec PyProof.Rows L2
/-! ### == of anything that holds no object of the program's own -/
mutual
inductive EqH (K : PySem.W.Frag) (H : Hp) : Nat → V → V → Bool → Prop
  | fl {n x y} : flatV x = true → flatV y = true → EqH K H n x y (eqV x y)
  | ll {n a b xs ys k} : SqL K H a xs → SqL K H b ys → xs.length = ys.length → EqHs K H n xs ys k → EqH K H (n + 1) (.ref a) (.ref b) k
  | lx {n a b xs ys} : SqL K H a xs → SqL K H b ys → xs.length ≠ ys.length → EqH K H n (.ref a) (.ref b) false
  | tt {n a b xs ys k} : SqT K H a xs → SqT K H b ys → EqHs K H n xs ys k → EqH K H (n + 1) (.ref a) (.ref b) (k && xs.length == ys.length)
  | lt {n a b xs ys} : SqL K H a xs → SqT K H b ys → EqH K H n (.ref a) (.ref b) false
  | tl {n a b xs ys} : SqT K H a xs → SqL K H b ys → EqH K H n (.ref a) (.ref b) false
  | fL {n x b ys} : flatV x = true → SqL K H b ys → EqH K H n x (.ref b) false
  | Lf {n x b ys} : flatV x = true → SqL K H b ys → EqH K H n (.ref b) x false
  | fT {n x b ys} : flatV x = true → SqT K H b ys → EqH K H n x (.ref b) false
  | Tf {n x b ys} : flatV x = true → SqT K H b ys → EqH K H n (.ref b) x false
inductive EqHs (K : PySem.W.Frag) (H : Hp) : Nat → List V → List V → Bool → Prop
  | nl {n ys} : EqHs K H n [] ys true
  | nr {n xs} : EqHs K H n xs [] true
  | cons {n x y xs ys k m} : EqH K H n x y k → EqHs K H n xs ys m → EqHs K H n (x :: xs) (y :: ys) (k && m)
  | dd {n a b xs ys m} : H a = some (.dK []) → H b = some (.dK []) → EqHs K H n xs ys m → EqHs K H n (.ref a :: xs) (.ref b :: ys) (true && m)
end
section
variable {X : Cx} {pins : List (Addr × Obj)} {σ : L2.St} {H : Hp} {s : Shared}
theorem EqHs.get : ∀ {n : Nat} {xs ys : List V} {k : Bool}, EqHs X.K H n xs ys k → ∃ e : Nat → Bool, (∀ j x y, xs[j]? = some x → ys[j]? = some y → EqH X.K H n x y (e j) ∨ (e j = true ∧ ∃ a b, x = .ref a ∧ y = .ref b ∧ H a = some (.dK []) ∧ H b = some (.dK []))) ∧ (List.range (min xs.length ys.length)).all e = k
  | _, _, _, _, .nl => ⟨fun _ => true, fun j x y h _ => by simp at h, by simp⟩
  | _, _, _, _, .nr => ⟨fun _ => true, fun j x y _ h => by simp at h, by simp⟩
  | n, _, _, _, .cons (xs := xs) (ys := ys) (k := k) (m := m) h r => by
    obtain ⟨e, h1, h2⟩ := EqHs.get r
    refine ⟨fun j => match j with | 0 => k | j + 1 => e j, fun j x y hx hy => ?_, ?_⟩
    · cases j with
      | zero =>
        obtain rfl := Option.some.inj (show some _ = some x from hx)
        obtain rfl := Option.some.inj (show some _ = some y from hy)
        exact .inl h
      | succ j => exact h1 j x y (by simpa using hx) (by simpa using hy)
    · have hm : min (xs.length + 1) (ys.length + 1) = min xs.length ys.length + 1 := by omega
      show (List.range (min (xs.length + 1) (ys.length + 1))).all _ = _
      rw [hm, List.range_succ_eq_map, List.all_cons, List.all_map]
      rw [← h2]
      rfl
  | n, _, _, _, .dd (xs := xs) (ys := ys) (m := m) d1 d2 r => by
    obtain ⟨e, h1, h2⟩ := EqHs.get r
    refine ⟨fun j => match j with | 0 => true | j + 1 => e j, fun j x y hx hy => ?_, ?_⟩
    · cases j with
      | zero =>
        obtain rfl := Option.some.inj (show some _ = some x from hx)
        obtain rfl := Option.some.inj (show some _ = some y from hy)
        exact .inr ⟨rfl, _, _, rfl, rfl, d1, d2⟩
      | succ j => exact h1 j x y (by simpa using hx) (by simpa using hy)
    · have hm : min (xs.length + 1) (ys.length + 1) = min xs.length ys.length + 1 := by omega
      show (List.range (min (xs.length + 1) (ys.length + 1))).all _ = _
      rw [hm, List.range_succ_eq_map, List.all_cons, List.all_map]
      rw [← h2]
      rfl
theorem not_list_tuple {h : Heap} {a : Addr} {xs ys : Array Value} (h1 : h.IsList a xs) (h2 : h.IsTuple a ys) : False := by
  obtain ⟨o, ho, hc, _⟩ := h1
  obtain ⟨o2, ho2, hc2, _⟩ := h2
  rw [ho] at ho2
  cases ho2
  rw [hc] at hc2
  exact absurd hc2 (by simp)
theorem eqV_refl {x : V} (h : flatV x = true) : eqV x x = true := by
  cases x <;> simp_all [eqV, flatV]
mutual
/-- a thing is equal to itself -/
theorem EqH.self (I : Inv X pins σ H s) : ∀ {n : Nat} {x y : V} {k : Bool}, EqH X.K H n x y k → x = y → k = true
  | _, _, _, _, .fl f1 f2, e => by subst e; exact eqV_refl f1
  | _, _, _, _, .ll (a := a) (b := b) h1 h2 hl r, e => by
    cases e
    obtain rfl := I.list_inj h1 h2
    exact EqHs.self I r rfl
  | _, _, _, _, .lx h1 h2 hl, e => by
    cases e
    obtain rfl := I.list_inj h1 h2
    exact absurd rfl hl
  | _, _, _, _, .tt h1 h2 r, e => by
    cases e
    obtain rfl := I.tuple_inj h1 h2
    rw [EqHs.self I r rfl]
    simp
  | _, _, _, _, .lt h1 h2, e => by
    cases e
    obtain ⟨_, _, p1, _⟩ := I.list h1
    obtain ⟨_, _, p2, _⟩ := I.tuple h2
    exact (not_list_tuple p1.isList p2).elim
  | _, _, _, _, .tl h1 h2, e => by
    cases e
    obtain ⟨_, _, p1, _⟩ := I.list h2
    obtain ⟨_, _, p2, _⟩ := I.tuple h1
    exact (not_list_tuple p1.isList p2).elim
  | _, _, _, _, .fL f _, e => by subst e; cases f
  | _, _, _, _, .Lf f _, e => by subst e; cases f
  | _, _, _, _, .fT f _, e => by subst e; cases f
  | _, _, _, _, .Tf f _, e => by subst e; cases f
theorem EqHs.self (I : Inv X pins σ H s) : ∀ {n : Nat} {xs ys : List V} {k : Bool}, EqHs X.K H n xs ys k → xs = ys → k = true
  | _, _, _, _, .nl, _ => rfl
  | _, _, _, _, .nr, _ => rfl
  | _, _, _, _, .cons h r, e => by
    injection e with e1 e2
    rw [EqH.self I h e1, EqHs.self I r e2]
    rfl
  | _, _, _, _, .dd d1 d2 r, e => by
    injection e with e1 e2
    rw [EqHs.self I r e2]
    rfl
end
theorem empty_dict (I : Inv X pins σ H s) {a : Addr} (h : H a = some (.dK [])) (P : Program) (w : World) : (a == sysModules) = false ∧ s.heap.DictOf (mixKind P w) a [] := by
  obtain ⟨_, hS, vs, r, o, es, ep, h1, h2, h3, h4, h5⟩ := (show ObjOk X.prog X.w H s.heap a (.dK []) from I.hok a _ h)
  cases r
  have e : es.toList = [] := by
    generalize es.toList = l at h5
    obtain ⟨h5, _⟩ := h5
    cases h5
    rfl
  have e' : es = #[] := by simpa using e
  subst e'
  exact ⟨hS, o, #[], ep, h1, h2, h3, by unfold PySem.KeysOf; simp, .nil, .nil⟩
abbrev Three (A : Around) (s : Shared) (v u : Value) (k : Bool) : Prop := SeqAt.RcAt A s v u k ∧ SeqAt.RcNeAt A s v u (!k) ∧ SeqAt.EqAt A s v u k
theorem three_refs {A : Around} {a b : Addr} {k : Bool} (h : a = b → k = true) (h1 : SeqAt.RcAt A s (.ref a) (.ref b) k) (h2 : SeqAt.RcNeAt A s (.ref a) (.ref b) (!k)) : Three A s (.ref a) (.ref b) k := by
  refine ⟨h1, h2, ?_⟩
  by_cases e : a = b
  · rw [h e, e]; exact SeqAt.EqAt.same _
  · exact .of_refs e h1
theorem three_flat {A : Around} {x y : V} {v u : Value} (f1 : flatV x = true) (f2 : flatV y = true) (rx : RelV x v) (ry : RelV y u) : Three A s v u (eqV x y) := by
  refine ⟨?_, ?_, eqAt_V rx ry f1 f2⟩
  · cases x with
    | non => cases rx; cases y with
      | non => cases ry; exact .none_none
      | bl b => cases ry; exact .none_bool b
      | int b => obtain ⟨t, rfl⟩ := ry; exact .none_int b t
      | str b => obtain ⟨t, rfl⟩ := ry; exact .none_str b t
      | _ => cases f2
    | bl a => cases rx; cases y with
      | non => cases ry; exact .bool_none a
      | bl b => cases ry; exact .bool_bool a b
      | int b => obtain ⟨t, rfl⟩ := ry; exact .bool_int a b t
      | str b => obtain ⟨t, rfl⟩ := ry; exact .bool_str a b t
      | _ => cases f2
    | int a => obtain ⟨t', rfl⟩ := rx; cases y with
      | non => cases ry; exact .int_none a t'
      | bl b => cases ry; exact .int_bool a t' b
      | int b => obtain ⟨t, rfl⟩ := ry; exact .int_int a t' b t
      | str b => obtain ⟨t, rfl⟩ := ry; exact .int_str a t' b t
      | _ => cases f2
    | str a => obtain ⟨t', rfl⟩ := rx; cases y with
      | non => cases ry; exact .str_none a t'
      | bl b => cases ry; exact .str_bool a t' b
      | int b => obtain ⟨t, rfl⟩ := ry; exact .str_int a t' b t
      | str b => obtain ⟨t, rfl⟩ := ry; exact .str_str a t' b t
      | _ => cases f2
    | _ => cases f1
  · cases x with
    | non => cases rx; cases y with
      | non => cases ry; exact .none_none
      | bl b => cases ry; exact .none_bool b
      | int b => obtain ⟨t, rfl⟩ := ry; exact .none_int b t
      | str b => obtain ⟨t, rfl⟩ := ry; exact .none_str b t
      | _ => cases f2
    | bl a => cases rx; cases y with
      | non => cases ry; exact .bool_none a
      | bl b => cases ry; exact .bool_bool a b
      | int b => obtain ⟨t, rfl⟩ := ry; exact .bool_int a b t
      | str b => obtain ⟨t, rfl⟩ := ry; exact .bool_str a b t
      | _ => cases f2
    | int a => obtain ⟨t', rfl⟩ := rx; cases y with
      | non => cases ry; exact .int_none a t'
      | bl b => cases ry; exact .int_bool a t' b
      | int b => obtain ⟨t, rfl⟩ := ry; exact .int_int a t' b t
      | str b => obtain ⟨t, rfl⟩ := ry; exact .int_str a t' b t
      | _ => cases f2
    | str a => obtain ⟨t', rfl⟩ := rx; cases y with
      | non => cases ry; exact .str_none a t'
      | bl b => cases ry; exact .str_bool a t' b
      | int b => obtain ⟨t, rfl⟩ := ry; exact .str_int a t' b t
      | str b => obtain ⟨t, rfl⟩ := ry; exact .str_str a t' b t
      | _ => cases f2
    | _ => cases f1
theorem three_list {A : Around} {x : V} {v : Value} {b : Addr} {its : Array Value} (hu : A.units < cLine) (f : flatV x = true) (rx : RelV x v) (h : s.heap.IsList b its) : Three A s v (.ref b) false ∧ Three A s (.ref b) v false := by
  cases x with
  | non => cases rx; exact ⟨⟨.none_list h hu, .none_list h hu, .none_list h hu⟩, .list_none h hu, .list_none h hu, .list_none h hu⟩
  | bl a => cases rx; exact ⟨⟨.bool_list a h hu, .bool_list a h hu, .bool_list a h hu⟩, .list_bool a h hu, .list_bool a h hu, .list_bool a h hu⟩
  | int a => obtain ⟨t, rfl⟩ := rx; exact ⟨⟨.int_list a t h hu, .int_list a t h hu, .int_list a t h hu⟩, .list_int a t h hu, .list_int a t h hu, .list_int a t h hu⟩
  | str a => obtain ⟨t, rfl⟩ := rx; exact ⟨⟨.str_list a t h hu, .str_list a t h hu, .str_list a t h hu⟩, .list_str a t h hu, .list_str a t h hu, .list_str a t h hu⟩
  | _ => cases f
theorem three_tup {A : Around} {x : V} {v : Value} {b : Addr} {its : Array Value} (hu : A.units < cLine) (f : flatV x = true) (rx : RelV x v) (h : s.heap.IsTuple b its) : Three A s v (.ref b) false ∧ Three A s (.ref b) v false := by
  cases x with
  | non => cases rx; exact ⟨⟨.none_tuple h hu, .none_tuple h hu, .none_tuple h hu⟩, .tuple_none h hu, .tuple_none h hu, .tuple_none h hu⟩
  | bl a => cases rx; exact ⟨⟨.bool_tuple a h hu, .bool_tuple a h hu, .bool_tuple a h hu⟩, .tuple_bool a h hu, .tuple_bool a h hu, .tuple_bool a h hu⟩
  | int a => obtain ⟨t, rfl⟩ := rx; exact ⟨⟨.int_tuple a t h hu, .int_tuple a t h hu, .int_tuple a t h hu⟩, .tuple_int a t h hu, .tuple_int a t h hu, .tuple_int a t h hu⟩
  | str a => obtain ⟨t, rfl⟩ := rx; exact ⟨⟨.str_tuple a t h hu, .str_tuple a t h hu, .str_tuple a t h hu⟩, .tuple_str a t h hu, .tuple_str a t h hu, .tuple_str a t h hu⟩
  | _ => cases f
theorem rc_dicts (I : Inv X pins σ H s) {A : Around} (hu : A.units < cLine) {a b : Addr} (h1 : H a = some (.dK [])) (h2 : H b = some (.dK [])) : SeqAt.RcAt A s (.ref a) (.ref b) true := fun prog w E Q q => by
  obtain ⟨a1, d1⟩ := empty_dict I h1 prog w
  obtain ⟨a2, d2⟩ := empty_dict I h2 prog w
  exact PySem.W.rcP_dicts (r := true) a1 a2 d1 d2 hu (fun _ => .nil) E Q q
/-- what == and != give, and == among the items of another -/
theorem EqH.three (I : Inv X pins σ H s) : ∀ (n : Nat) (A : Around), A.units + n + 1 < cLine → ∀ (x y : V) (k : Bool) (v u : Value), EqH X.K H n x y k → RelV x v → RelV y u → Three A s v u k := by
  intro n
  induction n with
  | zero =>
    intro A hA x y k v u h rx ry
    have hu : A.units < cLine := by omega
    cases h with
    | fl f1 f2 => exact (three_flat f1 f2 rx ry)
    | lx h1 h2 hl =>
      cases rx; cases ry
      obtain ⟨i1, r1, p1, _⟩ := I.list h1
      obtain ⟨i2, r2, p2, _⟩ := I.list h2
      have hne : (i1.toArray.size != i2.toArray.size) = true := by rw [List.size_toArray, List.size_toArray, ← r1.length, ← r2.length]; simpa using hl
      exact (three_refs (fun e => by subst e; exact absurd (by rw [I.list_inj h1 h2]) hl) (.lists_lengths p1.isList p2.isList hne hu) (.lists_lengths p1.isList p2.isList hne hu))
    | lt h1 h2 =>
      cases rx; cases ry
      obtain ⟨i1, r1, p1, _⟩ := I.list h1
      obtain ⟨i2, r2, p2, _⟩ := I.tuple h2
      exact ⟨.list_tuple p1.isList p2 hu, .list_tuple p1.isList p2 hu, .list_tuple p1.isList p2 hu⟩
    | tl h1 h2 =>
      cases rx; cases ry
      obtain ⟨i1, r1, p1, _⟩ := I.tuple h1
      obtain ⟨i2, r2, p2, _⟩ := I.list h2
      exact ⟨.tuple_list p1 p2.isList hu, .tuple_list p1 p2.isList hu, .tuple_list p1 p2.isList hu⟩
    | fL f h2 => cases ry; obtain ⟨i2, r2, p2, _⟩ := I.list h2; exact (three_list hu f rx p2.isList).1
    | Lf f h2 => cases rx; obtain ⟨i2, r2, p2, _⟩ := I.list h2; exact (three_list hu f ry p2.isList).2
    | fT f h2 => cases ry; obtain ⟨i2, r2, p2, _⟩ := I.tuple h2; exact (three_tup hu f rx p2).1
    | Tf f h2 => cases rx; obtain ⟨i2, r2, p2, _⟩ := I.tuple h2; exact (three_tup hu f ry p2).2
  | succ n ih =>
    intro A hA x y k v u h rx ry
    have hu : A.units < cLine := by omega
    have items : ∀ {xs ys : List V} {i1 i2 : List Value} {k : Bool}, Vals xs i1 → Vals ys i2 → EqHs X.K H n xs ys k → ∃ e : Nat → Bool, (∀ j (h1 : j < i1.toArray.size) (h2 : j < i2.toArray.size), SeqAt.EqAt A.in1 s i1.toArray[j] i2.toArray[j] (e j)) ∧ (List.range (min i1.toArray.size i2.toArray.size)).all e = k := fun {xs ys i1 i2 k} r1 r2 hs => by
      obtain ⟨e, e1, e2⟩ := hs.get
      refine ⟨e, fun j h1 h2 => ?_, by rw [List.size_toArray, List.size_toArray, ← r1.length, ← r2.length]; exact e2⟩
      have h1' : j < xs.length := by rw [r1.length]; simpa using h1
      have h2' : j < ys.length := by rw [r2.length]; simpa using h2
      obtain ⟨v', g1, g2⟩ := r1.get (List.getElem?_eq_getElem h1')
      obtain ⟨u', g3, g4⟩ := r2.get (List.getElem?_eq_getElem h2')
      have w1 : i1.toArray[j] = v' := by
        have := (List.getElem?_eq_some_iff.mp g1).2
        simpa using this
      have w2 : i2.toArray[j] = u' := by
        have := (List.getElem?_eq_some_iff.mp g3).2
        simpa using this
      rw [w1, w2]
      rcases e1 j _ _ (List.getElem?_eq_getElem h1') (List.getElem?_eq_getElem h2') with q | ⟨q, a, b, ea, eb, d1, d2⟩
      · exact (ih A.in1 (by show A.units + 1 + n + 1 < cLine; omega) _ _ _ v' u' q g2 g4).2.2
      · rw [ea] at g2
        rw [eb] at g4
        cases g2; cases g4
        rw [q]
        by_cases e : a = b
        · rw [e]; exact SeqAt.EqAt.same _
        · exact .of_refs e (rc_dicts I (by show A.units + 1 < cLine; omega) d1 d2)
    have self := EqH.self I h
    cases h with
    | fl f1 f2 => exact (three_flat f1 f2 rx ry)
    | ll h1 h2 hl hs =>
      cases rx; cases ry
      obtain ⟨i1, r1, p1, _⟩ := I.list h1
      obtain ⟨i2, r2, p2, _⟩ := I.list h2
      obtain ⟨e, e1, e2⟩ := items r1 r2 hs
      have hsz : i1.toArray.size = i2.toArray.size := by rw [List.size_toArray, List.size_toArray, ← r1.length, ← r2.length]; exact hl
      rw [← hsz, Nat.min_self] at e2
      subst e2
      exact (three_refs (fun e => self (by rw [e])) (.lists p1.isList p2.isList hsz hu e1) (.lists p1.isList p2.isList hsz hu e1))
    | tt h1 h2 hs =>
      rename_i ta tb txs tys tk
      cases rx; cases ry
      obtain ⟨i1, r1, p1, _⟩ := I.tuple h1
      obtain ⟨i2, r2, p2, _⟩ := I.tuple h2
      obtain ⟨e, e1, e2⟩ := items r1 r2 hs
      subst e2
      have hb : (i1.toArray.size == i2.toArray.size) = (txs.length == tys.length) := by rw [List.size_toArray, List.size_toArray, ← r1.length, ← r2.length]
      have q1 := SeqAt.RcAt.tuples p1 p2 hu e1
      have q2 := SeqAt.RcNeAt.tuples p1 p2 hu e1
      rw [hb] at q1 q2
      exact (three_refs (fun e => self (by rw [e])) q1 q2)
    | lx h1 h2 hl =>
      cases rx; cases ry
      obtain ⟨i1, r1, p1, _⟩ := I.list h1
      obtain ⟨i2, r2, p2, _⟩ := I.list h2
      have hne : (i1.toArray.size != i2.toArray.size) = true := by rw [List.size_toArray, List.size_toArray, ← r1.length, ← r2.length]; simpa using hl
      exact (three_refs (fun e => by subst e; exact absurd (by rw [I.list_inj h1 h2]) hl) (.lists_lengths p1.isList p2.isList hne hu) (.lists_lengths p1.isList p2.isList hne hu))
    | lt h1 h2 =>
      cases rx; cases ry
      obtain ⟨i1, r1, p1, _⟩ := I.list h1
      obtain ⟨i2, r2, p2, _⟩ := I.tuple h2
      exact ⟨.list_tuple p1.isList p2 hu, .list_tuple p1.isList p2 hu, .list_tuple p1.isList p2 hu⟩
    | tl h1 h2 =>
      cases rx; cases ry
      obtain ⟨i1, r1, p1, _⟩ := I.tuple h1
      obtain ⟨i2, r2, p2, _⟩ := I.list h2
      exact ⟨.tuple_list p1 p2.isList hu, .tuple_list p1 p2.isList hu, .tuple_list p1 p2.isList hu⟩
    | fL f h2 => cases ry; obtain ⟨i2, r2, p2, _⟩ := I.list h2; exact (three_list hu f rx p2.isList).1
    | Lf f h2 => cases rx; obtain ⟨i2, r2, p2, _⟩ := I.list h2; exact (three_list hu f ry p2.isList).2
    | fT f h2 => cases ry; obtain ⟨i2, r2, p2, _⟩ := I.tuple h2; exact (three_tup hu f rx p2).1
    | Tf f h2 => cases rx; obtain ⟨i2, r2, p2, _⟩ := I.tuple h2; exact (three_tup hu f ry p2).2
end
/-! ### the same on data -/
inductive Vw where
  | fl (v : V) | l (xs : List D) | t (xs : List D) | e
def vw (S : Sto) : D → Option Vw
  | .non => some (.fl .non)
  | .bl b => some (.fl (.bl b))
  | .int i => some (.fl (.int i))
  | .str x => some (.fl (.str x))
  | .tup xs => some (.t xs)
  | .lst xs => some (.l xs)
  | .wl xs => some (.l xs)
  | .dk [] => some .e
  | .loc n => match S[n]? with
    | some (.lst xs) => some (.l xs)
    | _ => none
  | _ => none
def eqI (S : Sto) (f : D → D → Option Bool) (a b : D) : Option Bool := match vw S a, vw S b with
  | some .e, some .e => some true
  | _, _ => f a b
def eqDs (S : Sto) (f : D → D → Option Bool) : List D → List D → Option Bool
  | [], _ => some true
  | _ :: _, [] => some true
  | x :: xs, y :: ys => match eqI S f x y, eqDs S f xs ys with
    | some k, some m => some (k && m)
    | _, _ => none
def eqStep (S : Sto) (f : Option (D → D → Option Bool)) (a b : D) : Option Bool := match vw S a, vw S b with
  | some (.fl v), some (.fl w) => some (eqV v w)
  | some (.l xs), some (.l ys) => if xs.length = ys.length then f.bind (fun f => eqDs S f xs ys) else some false
  | some (.t xs), some (.t ys) => f.bind fun f => (eqDs S f xs ys).map (· && xs.length == ys.length)
  | some (.l _), some (.t _) => some false
  | some (.t _), some (.l _) => some false
  | some (.fl _), some (.l _) => some false
  | some (.l _), some (.fl _) => some false
  | some (.fl _), some (.t _) => some false
  | some (.t _), some (.fl _) => some false
  | _, _ => none
def eqD (S : Sto) : Nat → D → D → Option Bool
  | 0 => eqStep S none
  | n + 1 => eqStep S (some (eqD S n))
section
variable {c : Cm} {g : Gh} {H : Hp} {S : Sto}
/-- what a view tells of the value -/
def VwOk (c : Cm) (g : Gh) (H : Hp) (v : V) : Vw → Prop
  | .fl w => v = w ∧ flatV w = true
  | .l xs => ∃ a us, v = .ref a ∧ SqL c.K H a us ∧ Reps c g us xs
  | .t xs => ∃ a us, v = .ref a ∧ SqT c.K H a us ∧ Reps c g us xs
  | .e => ∃ a, v = .ref a ∧ H a = some (.dK [])
theorem vw_ok (s : Sat c g H S) {v : V} {d : D} (r : Rep c g v d) {w : Vw} (h : vw S d = some w) : VwOk c g H v w := by
  cases d with
  | non => cases r; obtain rfl := Option.some.inj h; exact ⟨rfl, rfl⟩
  | bl b => cases r; obtain rfl := Option.some.inj h; exact ⟨rfl, rfl⟩
  | int b => cases r; obtain rfl := Option.some.inj h; exact ⟨rfl, rfl⟩
  | str b => cases r; obtain rfl := Option.some.inj h; exact ⟨rfl, rfl⟩
  | tup xs => obtain rfl := Option.some.inj h; exact tup_at s r
  | lst xs => obtain rfl := Option.some.inj h; exact rd_at s r (show rdOf S (.lst xs) = some xs from rfl)
  | wl xs => obtain rfl := Option.some.inj h; exact rd_at s r (show rdOf S (.wl xs) = some xs from rfl)
  | dk kvs =>
    cases kvs with
    | nil =>
      obtain rfl := Option.some.inj h
      cases r with
      | dk hq r => cases r; exact ⟨_, rfl, s.sub _ _ hq⟩
    | cons p r => cases h
  | loc n =>
    have h : (match S[n]? with | some (.lst xs) => some (Vw.l xs) | _ => none) = some w := h
    cases hc : S[n]? with
    | none => rw [hc] at h; cases h
    | some k =>
      rw [hc] at h
      cases k with
      | lst xs =>
        obtain rfl := Option.some.inj h
        exact rd_at s r (show rdOf S (.loc n) = some xs by show (match S[n]? with | some (.lst xs) => some xs | _ => none) = some xs; rw [hc])
      | _ => cases h
  | _ => cases h
theorem eqDs_ok (s : Sat c g H S) {f : D → D → Option Bool} {n : Nat} (ih : ∀ v u a b k, Rep c g v a → Rep c g u b → f a b = some k → EqH c.K H n v u k) : ∀ {xs ys : List D} {vs us : List V} {k : Bool}, Reps c g vs xs → Reps c g us ys → eqDs S f xs ys = some k → EqHs c.K H n vs us k
  | [], _, _, _, _, r, _, h => by
    cases r
    obtain rfl := Option.some.inj h
    exact .nl
  | _ :: _, [], _, _, _, _, r, h => by
    cases r
    obtain rfl := Option.some.inj h
    exact .nr
  | x :: xs, y :: ys, _, _, k, .cons r1 r2, .cons q1 q2, h => by
    rw [eqDs] at h
    cases h1 : eqI S f x y with
    | none => rw [h1] at h; cases h
    | some k1 =>
      cases h2 : eqDs S f xs ys with
      | none => rw [h1, h2] at h; cases h
      | some k2 =>
        rw [h1, h2] at h
        obtain rfl := Option.some.inj h
        have rest := eqDs_ok s ih r2 q2 h2
        unfold eqI at h1
        cases v1 : vw S x with
        | none => rw [v1] at h1; exact .cons (ih _ _ _ _ _ r1 q1 h1) rest
        | some w1 =>
          rw [v1] at h1
          cases v2 : vw S y with
          | none => rw [v2] at h1; cases w1 <;> exact .cons (ih _ _ _ _ _ r1 q1 h1) rest
          | some w2 =>
            rw [v2] at h1
            cases w1 with
            | e =>
              cases w2 with
              | e =>
                obtain rfl := Option.some.inj h1
                obtain ⟨a1, rfl, d1⟩ := vw_ok s r1 v1
                obtain ⟨a2, rfl, d2⟩ := vw_ok s q1 v2
                exact .dd d1 d2 rest
              | _ => exact .cons (ih _ _ _ _ _ r1 q1 h1) rest
            | _ => exact .cons (ih _ _ _ _ _ r1 q1 h1) rest
theorem eqStep_ok (s : Sat c g H S) {f : Option (D → D → Option Bool)} {n : Nat} (ih : ∀ f', f = some f' → ∃ m, n = m + 1 ∧ ∀ v u a b k, Rep c g v a → Rep c g u b → f' a b = some k → EqH c.K H m v u k) {v u : V} {a b : D} {k : Bool} (r1 : Rep c g v a) (r2 : Rep c g u b) (h : eqStep S f a b = some k) : EqH c.K H n v u k := by
  unfold eqStep at h
  cases h1 : vw S a with
  | none => rw [h1] at h; cases h
  | some w1 =>
    cases h2 : vw S b with
    | none => rw [h1, h2] at h; cases w1 <;> cases h
    | some w2 =>
      rw [h1, h2] at h
      have o1 := vw_ok s r1 h1
      have o2 := vw_ok s r2 h2
      cases w1 with
      | fl x =>
        obtain ⟨rfl, f1⟩ := o1
        cases w2 with
        | fl y => obtain ⟨rfl, f2⟩ := o2; obtain rfl := Option.some.inj h; exact .fl f1 f2
        | l ys => obtain ⟨a, us, rfl, q, _⟩ := o2; obtain rfl := Option.some.inj h; exact .fL f1 q
        | t ys => obtain ⟨a, us, rfl, q, _⟩ := o2; obtain rfl := Option.some.inj h; exact .fT f1 q
        | e => cases h
      | l xs =>
        obtain ⟨a1, us1, rfl, q1, p1⟩ := o1
        cases w2 with
        | fl y => obtain ⟨rfl, f2⟩ := o2; obtain rfl := Option.some.inj h; exact .Lf f2 q1
        | l ys =>
          obtain ⟨a2, us2, rfl, q2, p2⟩ := o2
          have h : (if xs.length = ys.length then f.bind (fun f => eqDs S f xs ys) else some false) = some k := h
          by_cases hl : xs.length = ys.length
          · rw [if_pos hl] at h
            obtain ⟨f', e1, e2⟩ := Option.bind_eq_some_iff.mp h
            obtain ⟨m, rfl, ih'⟩ := ih f' e1
            exact .ll q1 q2 (by rw [p1.len, p2.len, hl]) (eqDs_ok s ih' p1 p2 e2)
          · rw [if_neg hl] at h
            obtain rfl := Option.some.inj h
            exact .lx q1 q2 (by rw [p1.len, p2.len]; exact hl)
        | t ys => obtain ⟨a2, us2, rfl, q2, p2⟩ := o2; obtain rfl := Option.some.inj h; exact .lt q1 q2
        | e => cases h
      | t xs =>
        obtain ⟨a1, us1, rfl, q1, p1⟩ := o1
        cases w2 with
        | fl y => obtain ⟨rfl, f2⟩ := o2; obtain rfl := Option.some.inj h; exact .Tf f2 q1
        | l ys => obtain ⟨a2, us2, rfl, q2, p2⟩ := o2; obtain rfl := Option.some.inj h; exact .tl q1 q2
        | t ys =>
          obtain ⟨a2, us2, rfl, q2, p2⟩ := o2
          have h : (f.bind fun f => (eqDs S f xs ys).map (· && xs.length == ys.length)) = some k := h
          obtain ⟨f', e1, e2⟩ := Option.bind_eq_some_iff.mp h
          obtain ⟨m, rfl, ih'⟩ := ih f' e1
          obtain ⟨k', e3, e4⟩ := Option.map_eq_some_iff.mp e2
          subst e4
          have := EqH.tt q1 q2 (eqDs_ok s ih' p1 p2 e3)
          rw [p1.len, p2.len] at this
          exact this
        | e => cases h
      | e => cases w2 <;> cases h
theorem eqD_ok (s : Sat c g H S) : ∀ (n : Nat) (v u : V) (a b : D) (k : Bool), Rep c g v a → Rep c g u b → eqD S n a b = some k → EqH c.K H n v u k := by
  intro n
  induction n with
  | zero => exact fun v u a b k r1 r2 h => eqStep_ok s (f := none) (fun f' e => nomatch e) r1 r2 h
  | succ n ih => exact fun v u a b k r1 r2 h => eqStep_ok s (f := some (eqD S n)) (fun f' e => ⟨n, rfl, by cases e; exact ih⟩) r1 r2 h
end
def rEqA (K : PySem.W.Frag) (f : Bool → Bool) : R2 := fun x y H Q => ∃ n k, n ≤ 60 ∧ EqH K H n x y k ∧ Q (.bl (f k)) H
section
variable {X : Cx}
theorem op_eqA (hu : X.A.units + 64 < cLine) : OpR X (compareOp .Eq) (rEqA X.K id) := by
  intro pins s σ H x y v u Q I rx ry ⟨n, k, hn, h, q⟩
  exact (EqH.three I n X.A (by omega) x y k v u h rx ry).1 X.prog X.w X.xe _ ⟨.bl k, H, I, rfl, q⟩
theorem op_neA (hu : X.A.units + 64 < cLine) : OpR X (compareOp .NotEq) (rEqA X.K (!·)) := by
  intro pins s σ H x y v u Q I rx ry ⟨n, k, hn, h, q⟩
  exact (EqH.three I n X.A (by omega) x y k v u h rx ry).2.1 X.prog X.w X.xe _ ⟨.bl (!k), H, I, rfl, q⟩
end
def oEq2 (f : Bool → Bool) : D → D → Sto → Res D := fun a b S => match eqD S 12 a b with
  | some k => .ok (.bl (f k)) S
  | none => .stk
def oEq := oEq2 id
def oNe := oEq2 (!·)
section
variable {c : Cm}
theorem opd_eq2 {X : Cx} (hK : c.K = X.K) {f : Bool → Bool} : OpD c (rEqA X.K f) (oEq2 f) := fun H g S x y a b Q s rx ry h => by
  have h : PostG (rD c) c g Q _ (match eqD S 12 a b with | some k => Res.ok (.bl (f k)) S | none => .stk) := h
  cases h1 : eqD S 12 a b with
  | none => rw [h1] at h; exact h.elim
  | some k =>
    rw [h1] at h
    exact ⟨12, k, by decide, hK ▸ eqD_ok s 12 x y a b k rx ry h1, h _ H g (Ext.refl g) s (.bl _)⟩
theorem nox_eq2 {f : Bool → Bool} : OpN (oEq2 f) := fun a b S => by
  unfold oEq2
  cases eqD S 12 a b <;> exact trivial
end
end DD
namespace DD
open PySem PySem.Spec PyProof.Rows L2
/-! ### in, not in -/
def rInT (K : PySem.W.Frag) (f : Bool → Bool) : R2 := fun x y H Q => ∃ d ds, Dp K H x d ∧ Dp K H y (.tuple ds) ∧ SeqAt.shaped d = true ∧ SeqAt.shaped (.tuple ds) = true ∧ Q (.bl (f (ds.any fun z => PyData.eqv z d))) H
theorem room_T {A : Around} {d : PyData} {ds : List PyData} (h : SeqAt.shaped d = true) (hu : A.units + 66 < cLine) : A.units + 1 + min (PyData.depthAll ds) d.depth < cLine := by
  have h1 := SeqAt.depth_of_shaped h
  have h2 : min (PyData.depthAll ds) d.depth ≤ d.depth := Nat.min_le_right _ _
  omega
section
variable {X : Cx}
theorem op_inT (hu : X.A.units + 66 < cLine) : OpR X (compareOp .In) (rInT X.K id) := by
  intro pins s σ H x y v u Q I rx ry ⟨d, ds, hd, he, sd, se, q⟩
  obtain ⟨as, r1⟩ := Dp.reads I d x v hd rx
  obtain ⟨bs, r2⟩ := Dp.reads I (.tuple ds) y u he ry
  have lay : PyData.canLayAll0 ds = true := by simpa [PyData.canLay0] using SeqAt.canLay_of_shaped se
  exact SeqAt.in_tuple_reads r2 r1 lay (SeqAt.canLay_of_shaped sd) (room_T sd hu) ⟨.bl _, H, I, rfl, q⟩
theorem op_notInT (hu : X.A.units + 66 < cLine) : OpR X (compareOp .NotIn) (rInT X.K (!·)) := by
  intro pins s σ H x y v u Q I rx ry ⟨d, ds, hd, he, sd, se, q⟩
  obtain ⟨as, r1⟩ := Dp.reads I d x v hd rx
  obtain ⟨bs, r2⟩ := Dp.reads I (.tuple ds) y u he ry
  have lay : PyData.canLayAll0 ds = true := by simpa [PyData.canLay0] using SeqAt.canLay_of_shaped se
  exact SeqAt.notIn_tuple_reads r2 r1 lay (SeqAt.canLay_of_shaped sd) (room_T sd hu) ⟨.bl _, H, I, rfl, q⟩
end
def flD : D → Option V
  | .non => some .non
  | .bl b => some (.bl b)
  | .int i => some (.int i)
  | .str x => some (.str x)
  | _ => none
def inStr (x y : Str) : Bool := !(Builtin.Str.occurrences y x 0 y.length 1).isEmpty
def inSeq (S : Sto) (a : D) (ys : List D) : Option Bool := match flD a, mapO flD ys with
  | some v, some vs => some (inV v vs)
  | _, _ => match toP S 19 a, mapO (toP S 19) ys with
    | some p, some qs => some (qs.any fun z => PyData.eqv z p)
    | _, _ => none
def oIn2 (f : Bool → Bool) : D → D → Sto → Res D := fun a b S => match a, b with
  | .str x, .str y => .ok (.bl (f (inStr x y))) S
  | a, b => match sqOf S b with
    | some ys => match inSeq S a ys with
      | some k => .ok (.bl (f k)) S
      | none => .stk
    | none => .stk
def oIn := oIn2 id
def oNotIn := oIn2 (!·)
/-- what the rules of in ask, all together -/
def rInA (K : PySem.W.Frag) (f : Bool → Bool) : R2 := fun x y H Q => (∃ p xs, y = .ref p ∧ (SqL K H p xs ∨ SqT K H p xs) ∧ flatV x = true ∧ xs.all flatV = true ∧ Q (.bl (f (inV x xs))) H) ∨
  (rInT K f x y H Q ∨ ((∃ d ds, Dp K H x d ∧ Dp K H y (.list ds) ∧ SeqAt.shaped d = true ∧ SeqAt.shaped (.list ds) = true ∧ Q (.bl (f (ds.any fun z => PyData.eqv z d))) H) ∨
    ∃ i j, x = .str i ∧ y = .str j ∧ Q (.bl (f (inStr i j))) H))
theorem opr_in {X : Cx} (hu : X.A.units + 66 < cLine) : OpR X (compareOp .In) (rInA X.K id) := fun pins s σ H x y v u Q I rx ry h => by
  rcases h with ⟨p, xs, h1, h2, h3, h4, q⟩ | h | h | h
  · exact op_in_seq pins s σ H x y v u Q I rx ry ⟨p, xs, h1, h2, h3, h4, q⟩
  · exact op_inT hu pins s σ H x y v u Q I rx ry h
  · exact op_inD (by omega) pins s σ H x y v u Q I rx ry h
  · exact op_in_str pins s σ H x y v u Q I rx ry h
theorem opr_notIn {X : Cx} (hu : X.A.units + 66 < cLine) : OpR X (compareOp .NotIn) (rInA X.K (!·)) := fun pins s σ H x y v u Q I rx ry h => by
  rcases h with ⟨p, xs, h1, h2, h3, h4, q⟩ | h | h | ⟨i, j, h1, h2, q⟩
  · exact op_notIn_seq pins s σ H x y v u Q I rx ry ⟨p, xs, h1, h2, h3, h4, q⟩
  · exact op_notInT hu pins s σ H x y v u Q I rx ry h
  · exact op_notInD (by omega) pins s σ H x y v u Q I rx ry h
  · exact op_notIn_str pins s σ H x y v u Q I rx ry ⟨i, j, h1, h2, by unfold inStr at q; simpa using q⟩
section
variable {c : Cm} {g : Gh} {H : Hp} {S : Sto}
theorem flD_ok {v w : V} {d : D} (r : Rep c g v d) (h : flD d = some w) : v = w ∧ flatV v = true := by
  cases d with
  | non => cases r; obtain rfl := Option.some.inj h; exact ⟨rfl, rfl⟩
  | bl b => cases r; obtain rfl := Option.some.inj h; exact ⟨rfl, rfl⟩
  | int b => cases r; obtain rfl := Option.some.inj h; exact ⟨rfl, rfl⟩
  | str b => cases r; obtain rfl := Option.some.inj h; exact ⟨rfl, rfl⟩
  | _ => cases h
theorem flDs_ok : ∀ {vs ws : List V} {ds : List D}, Reps c g vs ds → mapO flD ds = some ws → vs = ws ∧ vs.all flatV = true
  | _, _, [], .nil, h => by obtain rfl := Option.some.inj h; exact ⟨rfl, rfl⟩
  | _, _, d :: ds, .cons r rs, h => by
    rw [mapO] at h
    cases h1 : flD d with
    | none => rw [h1] at h; cases h
    | some w =>
      cases h2 : mapO flD ds with
      | none => rw [h1, h2] at h; cases h
      | some ws =>
        rw [h1, h2] at h
        obtain rfl := Option.some.inj h
        obtain ⟨rfl, a⟩ := flD_ok r h1
        obtain ⟨rfl, b⟩ := flDs_ok rs h2
        exact ⟨rfl, by rw [List.all_cons, a, b]; rfl⟩
theorem opd_in2 {X : Cx} (hK : c.K = X.K) {f : Bool → Bool} : OpD c (rInA X.K f) (oIn2 f) := fun H g S x y a b Q s rx ry h => by
  rw [← hK]
  have seq : ∀ (h : PostG (rD c) c g Q (fun _ _ _ => False) (match sqOf S b with
    | some ys => match inSeq S a ys with
      | some k => Res.ok (.bl (f k)) S
      | none => .stk
    | none => .stk)), rInA c.K f x y H Q := fun h => by
    cases hb : sqOf S b with
    | none => rw [hb] at h; exact h.elim
    | some ys =>
      rw [hb] at h
      have h : PostG (rD c) c g Q _ (match inSeq S a ys with | some k => Res.ok (.bl (f k)) S | none => .stk) := h
      cases hi : inSeq S a ys with
      | none => rw [hi] at h; exact h.elim
      | some k =>
        rw [hi] at h
        have fin : Q (.bl (f k)) H := h _ H g (Ext.refl g) s (.bl _)
        obtain ⟨p, us, rfl, hp, ru⟩ := sq_at s ry hb
        -- by way of the data
        have deep : (match toP S 19 a, mapO (toP S 19) ys with | some p, some qs => some (qs.any fun z => PyData.eqv z p) | _, _ => none) = some k → rInA c.K f x (.ref p) H Q := fun hi => by
          cases h3 : toP S 19 a with
          | none => rw [h3] at hi; cases hi
          | some d =>
            cases h4 : mapO (toP S 19) ys with
            | none => rw [h3, h4] at hi; cases hi
            | some ds =>
              rw [h3, h4] at hi
              obtain rfl := Option.some.inj hi
              have hd := dp_of s 19 x a d rx h3
              have hds := mapO_dp (fun v d p => dp_of s 19 v d p) ys us ds ru h4
              obtain ⟨l1, l2⟩ := mapO_lay (fun d p => toP_lay 19 d p) ys ds h4
              obtain ⟨m1, m2⟩ := toP_lay 19 a d h3
              have sd : SeqAt.shaped d = true := Bool.and_eq_true_iff.mpr ⟨m1, decide_eq_true (by omega)⟩
              rcases hp with hp | hp
              · exact .inr (.inr (.inl ⟨d, ds, hd, .lst hp hds, sd, Bool.and_eq_true_iff.mpr ⟨by simp [PyData.canLay0, l1], decide_eq_true (by simp only [PyData.depth]; omega)⟩, fin⟩))
              · exact .inr (.inl ⟨d, ds, hd, .tup hp hds, sd, Bool.and_eq_true_iff.mpr ⟨by simp [PyData.canLay0, l1], decide_eq_true (by simp only [PyData.depth]; omega)⟩, fin⟩)
        unfold inSeq at hi
        cases h1 : flD a with
        | none => rw [h1] at hi; exact deep hi
        | some v =>
          cases h2 : mapO flD ys with
          | none => rw [h1, h2] at hi; exact deep hi
          | some vs =>
            rw [h1, h2] at hi
            obtain rfl := Option.some.inj hi
            obtain ⟨rfl, f1⟩ := flD_ok rx h1
            obtain ⟨rfl, f2⟩ := flDs_ok ru h2
            exact .inl ⟨p, _, rfl, hp, f1, f2, fin⟩
  cases a with
  | str i =>
    cases b with
    | str j => cases rx; cases ry; exact .inr (.inr (.inr ⟨i, j, rfl, rfl, h _ H g (Ext.refl g) s (.bl _)⟩))
    | _ => exact seq h
  | _ => exact seq h
theorem nox_in2 {f : Bool → Bool} : OpN (oIn2 f) := fun a b S => by
  unfold oIn2
  repeat' split
  all_goals exact trivial
/-! ### is None -/
def isNon : D → Bool
  | .non => true
  | _ => false
def oIsN : D → D → Sto → Res D := fun a b S => match b with
  | .non => .ok (.bl (isNon a)) S
  | _ => .stk
def oNotN : D → D → Sto → Res D := fun a b S => match b with
  | .non => .ok (.bl (!isNon a)) S
  | _ => .stk
theorem isNon_ok {x : V} {a : D} (r : Rep c g x a) : decide (x = .non) = isNon a := by
  cases r <;> first | rfl | exact decide_eq_false (fun z => nomatch z)
theorem opd_isN : OpD c (fun x y H Q => y = .non ∧ Q (.bl (decide (x = .non))) H) oIsN := fun H g S x y a b Q s rx ry h => by
  cases b with
  | non => cases ry; exact ⟨rfl, by rw [isNon_ok rx]; exact h _ H g (Ext.refl g) s (.bl _)⟩
  | _ => exact h.elim
theorem opd_notN : OpD c (fun x y H Q => y = .non ∧ Q (.bl (!decide (x = .non))) H) oNotN := fun H g S x y a b Q s rx ry h => by
  cases b with
  | non => cases ry; exact ⟨rfl, by rw [isNon_ok rx]; exact h _ H g (Ext.refl g) s (.bl _)⟩
  | _ => exact h.elim
theorem nox_isN : OpN oIsN := fun a b S => by cases b <;> exact trivial
theorem nox_notN : OpN oNotN := fun a b S => by cases b <;> exact trivial
/-! ### xs[i] -/
def atD (xs : List D) (i : Int) : Option D := match ixN xs.length i with
  | some j => xs[j]?
  | none => none
def oIx : D → D → Sto → Res D := fun a b S => match a, b with
  | .str z, .int i => match lim z.length, atI z.cps.toList i with
    | true, some n => .ok (.str ⟨#[n]⟩) S
    | _, _ => .stk
  | a, .int i => match sqOf S a with
    | some xs => match atD xs i with
      | some d => .ok d S
      | none => .stk
    | none => .stk
  | _, _ => .stk
theorem opd_ix {X : Cx} (hK : c.K = X.K) : OpD c (rIx X.K) oIx := fun H g S x y a b Q s rx ry h => by
  rw [← hK]
  cases b with
  | int i =>
    cases ry
    have seq : ∀ (h : PostG (rD c) c g Q (fun _ _ _ => False) (match sqOf S a with
      | some xs => match atD xs i with
        | some d => Res.ok d S
        | none => .stk
      | none => .stk)), rIx c.K x (.int i) H Q := fun h => by
      cases ha : sqOf S a with
      | none => rw [ha] at h; exact h.elim
      | some xs =>
        rw [ha] at h
        have h : PostG (rD c) c g Q _ (match atD xs i with | some d => Res.ok d S | none => .stk) := h
        cases hd : atD xs i with
        | none => rw [hd] at h; exact h.elim
        | some d =>
          rw [hd] at h
          obtain ⟨p, us, rfl, hp, ru⟩ := sq_at s rx ha
          unfold atD at hd
          cases hj : ixN xs.length i with
          | none => rw [hj] at hd; cases hd
          | some j =>
            rw [hj] at hd
            obtain ⟨v, e, rv⟩ := ru.get hd
            have ea : atI us i = some v := by unfold atI; rw [ru.len, hj]; exact e
            have fin := h v H g (Ext.refl g) s rv
            rcases hp with hp | hp
            · exact .inl ⟨p, us, i, v, rfl, rfl, hp, ea, fin⟩
            · exact .inr (.inl ⟨p, us, i, v, rfl, rfl, hp, ea, fin⟩)
    cases a with
    | str z =>
      cases rx
      have h : PostG (rD c) c g Q _ (match lim z.length, atI z.cps.toList i with | true, some n => Res.ok (.str ⟨#[n]⟩) S | _, _ => .stk) := h
      cases hl : lim z.length with
      | false => rw [hl] at h; exact h.elim
      | true =>
        cases hn : atI z.cps.toList i with
        | none => rw [hl, hn] at h; exact h.elim
        | some n => rw [hl, hn] at h; exact .inr (.inr ⟨z, i, n, rfl, rfl, lim_le hl, hn, h _ H g (Ext.refl g) s (.str _)⟩)
    | _ => exact seq h
  | _ => cases a <;> exact h.elim
theorem nox_ix : OpN oIx := fun a b S => by
  cases b with
  | int i =>
    have key : NoX (match sqOf S a with
      | some xs => match atD xs i with
        | some d => Res.ok d S
        | none => .stk
      | none => .stk) := by
      cases sqOf S a with
      | none => exact trivial
      | some xs => cases h : atD xs i <;> simp only [h] <;> exact trivial
    cases a with
    | str z =>
      show NoX (match lim z.length, atI z.cps.toList i with | true, some n => Res.ok (D.str ⟨#[n]⟩) S | _, _ => .stk)
      cases lim z.length with
      | false => exact trivial
      | true => cases atI z.cps.toList i <;> exact trivial
    | _ => exact key
  | _ => cases a <;> exact trivial
end
section
variable {X : Cx} {c : Cm} {W : WX} {a b e : Expr} {es : List Expr} {pos : Pos} {fa fb f : EF} {r : AF}
theorem de_ix (hK : c.K = X.K) (ha : DE X c W a fa) (hb : DE X c W b fb) (hs : PlainIx b) : DE X c W (.Subscript a b pos) (cOp oIx fa fb) :=
  let ⟨_, p1, r1⟩ := ha; let ⟨_, p2, r2⟩ := hb; ⟨_, pe_ix ix_seq p1 p2 hs, ref_op (opd_ix hK) nox_ix r1 r2⟩
/-! ### slices -/
def DO (X : Cx) (c : Cm) (W : WX) (e : Option Expr) (f : XF (Option Int)) : Prop := ∃ t, PO X e t ∧ RefG (fun _ a b => a = b) c W t f
def cNoPart : XF (Option Int) := fun _ S => .ok none S
def cPart (f : EF) : XF (Option Int) := fun Γ S => (f Γ S).bind fun d S => match d with
  | .int i => .ok (some i) S
  | _ => .stk
theorem do_none : DO X c W none cNoPart := ⟨_, po_none, fun σ H g Γ S Q s e h => h none H g (Ext.refl g) s rfl⟩
theorem do_some (h : DE X c W e f) : DO X c W (some e) (cPart f) := let ⟨_, p, q⟩ := h; ⟨_, po_some p, fun σ H g Γ S Q s e h => q σ H g Γ S _ s e (PostG.bind (rel' := fun _ a b => a = b) h fun d S1 v H1 g1 x1 s1 r1 h1 => by
  cases d with
  | int i => cases r1; exact ⟨i, rfl, h1 _ H1 g1 (Ext.refl g1) s1 rfl⟩
  | _ => exact h1.elim)⟩
def cutD (xs : List D) (lo hi : Option Int) : List D := (xs.drop (HT.sIx xs.length 0 lo)).take (HT.sIx xs.length xs.length hi - HT.sIx xs.length 0 lo)
def oSl (a : D) (lo hi : Option Int) (S : Sto) : Res D := match a with
  | .tup xs => .ok (.tup (cutD xs lo hi)) S
  | .str z => if lim z.length = true then .ok (.str (cutS z lo hi)) S else .stk
  | a => match rdOf S a with
    | some xs => .ok (.lst (cutD xs lo hi)) S
    | none => .stk
def cSl (f : EF) (lo hi : XF (Option Int)) : EF := fun Γ S => (f Γ S).bind fun a S => (lo Γ S).bind fun l S => (hi Γ S).bind fun h S => oSl a l h S
/-- what the rules of slices ask, all together -/
def rSlAll (K : PySem.W.Frag) : V → Option Int → Option Int → Hp → VK → Prop := fun x lo hi H Q => rSlL K x lo hi H Q ∨ (rSlA K x lo hi H Q ∨ (∃ z, x = .str z ∧ z.length ≤ sizeLine ∧ Q (.str (cutS z lo hi)) H))
theorem reps_cut {g : Gh} {us : List V} {xs : List D} (r : Reps c g us xs) (lo hi : Option Int) : Reps c g (cutV us lo hi) (cutD xs lo hi) := by
  unfold cutV cutD
  rw [r.len]
  exact (r.drop _).take _
theorem ref_sl (hK : c.K = X.K) {te : TE} {tl th : TO} {fl fh : XF (Option Int)} (h1 : RefG (rD c) c W te f) (h2 : RefG (fun _ a b => a = b) c W tl fl) (h3 : RefG (fun _ a b => a = b) c W th fh) : RefG (rD c) c W (tSl (rSlAll X.K) te tl th) (cSl f fl fh) := fun σ H g Γ S Q s e h =>
  h1 σ H g Γ S _ s e (h.bind fun a S1 v H1 g1 x1 s1 r1 h1 => h2 σ H1 g1 Γ S1 _ s1 (e.mono x1) (PostG.bind (rel := fun _ a b => a = b) h1 fun lo S2 lo' H2 g2 x2 s2 r2 h2 => h3 σ H2 g2 Γ S2 _ s2 ((e.mono x1).mono x2) (PostG.bind (rel := fun _ a b => a = b) h2 fun hi S3 hi' H3 g3 x3 s3 r3 h3 => by
    subst r2; subst r3
    rw [← hK]
    have rx := (r1.mono x2).mono x3
    have lst : ∀ (h : PostG (rD c) c g3 Q (fun cl d H => W cl d σ H) (match rdOf S3 a with | some xs => Res.ok (.lst (cutD xs lo' hi')) S3 | none => .stk)), rSlAll c.K v lo' hi' H3 Q := fun h => by
      cases ha : rdOf S3 a with
      | none => rw [ha] at h; exact h.elim
      | some xs =>
        rw [ha] at h
        obtain ⟨p, us, rfl, hp, ru⟩ := rd_at s3 rx ha
        refine .inl ⟨p, us, rfl, hp, fun q hq => ?_⟩
        obtain ⟨s4, x4⟩ := s3.new hq (.lst (cutV us lo' hi'))
        exact h _ _ _ x4 s4 (.lst upd_same ((reps_cut ru lo' hi').mono x4))
    cases a with
    | tup xs =>
      have rx' := rx
      obtain ⟨p, us, rfl, hp, ru⟩ := tup_at s3 rx
      refine .inr (.inl ⟨p, us, rfl, hp, fun hw => ?_, fun hw q hq => ?_⟩)
      · have : cutD xs lo' hi' = xs := by
          unfold cutD
          rw [← ru.len, hw.1, hw.2, List.drop_zero, Nat.sub_zero, ru.len, List.take_length]
        have h3 : PostG (rD c) c g3 Q _ (Res.ok (.tup (cutD xs lo' hi')) S3) := h3
        rw [this] at h3
        exact h3 _ H3 g3 (Ext.refl g3) s3 rx'
      · obtain ⟨s4, x4⟩ := s3.new hq (.tup (cutV us lo' hi'))
        exact h3 _ _ _ x4 s4 (.tup (SqT.of upd_same) ((reps_cut ru lo' hi').mono x4))
    | str z =>
      cases rx
      have h3 : PostG (rD c) c g3 Q _ (if lim z.length = true then Res.ok (.str (cutS z lo' hi')) S3 else .stk) := h3
      cases hl : lim z.length with
      | false => rw [hl, if_neg Bool.false_ne_true] at h3; exact h3.elim
      | true => rw [hl, if_pos rfl] at h3; exact .inr (.inr ⟨z, rfl, lim_le hl, h3 _ H3 g3 (Ext.refl g3) s3 (.str _)⟩)
    | _ => exact lst h3)))
theorem de_slice {lo hi : Option Expr} {fl fh : XF (Option Int)} {p2 : Pos} (hK : c.K = X.K) (hsl : SlR X (rSlAll X.K)) (he : DE X c W e f) (hl : DO X c W lo fl) (hh : DO X c W hi fh) : DE X c W (.Subscript e (.Slice lo hi none p2) pos) (cSl f fl fh) :=
  let ⟨_, p1, r1⟩ := he; let ⟨_, p2, r2⟩ := hl; let ⟨_, p3, r3⟩ := hh; ⟨_, pe_slice hsl p1 p2 p3, ref_sl hK r1 r2 r3⟩
/-! ### stars -/
def cStar (f : EF) (r : AF) : AF := fun Γ S => (f Γ S).bind fun d S => match sqOf S d with
  | some xs => (r Γ S).bind fun ds S => .ok (xs ++ ds) S
  | none => .stk
theorem da_star {p : Pos} (hK : c.K = X.K) (ha : DE X c W e f) (hr : DA X c W es r) (hs : starEach (.Starred e p :: es) X.env = (true, eval e X.env) :: starEach es X.env := by rfl) : DA X c W (.Starred e p :: es) (cStar f r) :=
  let ⟨_, p1, r1⟩ := ha; let ⟨_, p2, r2⟩ := hr; ⟨_, StX.pa_star p1 p2 hs, fun σ H g Γ S Q s e h => r1 σ H g Γ S _ s e (h.bind fun d S1 v H1 g1 x1 s1 q1 h1 => by
    cases hd : sqOf S1 d with
    | none =>
      have h1 : PostG (rDs c) c g1 Q (fun cl d H => W cl d σ H) (match sqOf S1 d with | some xs => (r Γ S1).bind fun ds S => Res.ok (xs ++ ds) S | none => .stk) := h1
      rw [hd] at h1; exact h1.elim
    | some xs =>
      have h1 : PostG (rDs c) c g1 Q (fun cl d H => W cl d σ H) (match sqOf S1 d with | some xs => (r Γ S1).bind fun ds S => Res.ok (xs ++ ds) S | none => .stk) := h1
      rw [hd] at h1
      obtain ⟨p, us, rfl, hp, ru⟩ := sq_at s1 q1 hd
      refine ⟨p, us, rfl, by rw [← hK]; exact hp.symm, r2 σ H1 g1 Γ S1 _ s1 (e.mono x1) (PostG.bind h1 fun ds S2 ws H2 g2 x2 s2 q2 h2 => h2 _ H2 g2 (Ext.refl g2) s2 ((ru.mono x2).app q2))⟩)⟩
end
end DD
namespace DD
open PySem PySem.Spec PyProof.Rows L2
/-! ### built-ins by name -/
abbrev BF := List D → Sto → Res D
def CallD (c : Cm) (r : List V → Hp → VK → Prop) (b : BF) : Prop := ∀ H g S vs ds Q, Sat c g H S → Reps c g vs ds → PostG (rD c) c g Q (fun _ _ _ => False) (b ds S) → r vs H Q
def BN (b : BF) : Prop := ∀ ds S, NoX (b ds S)
section
variable {X : Cx} {c : Cm} {W : WX} {e : Expr} {es : List Expr} {pos p : Pos} {r : AF} {x : Str} {id T : String}
theorem ref_cb {rr : List V → Hp → VK → Prop} {b : BF} {t : TA} (hb : CallD c rr b) (bn : BN b) (h : RefG (rDs c) c W t r) : RefG (rD c) c W (tCB rr t) (cCB b r) := fun σ H g Γ S Q s e q =>
  h σ H g Γ S _ s e (PostG.bind q fun ds S1 vs H1 g1 x1 s1 r1 h1 => hb H1 g1 S1 vs ds Q s1 r1 (h1.nox (bn ds S1)))
theorem de_callB {rr : List V → Hp → VK → Prop} {b : BF} (hc : CallR X (.builtin id) rr) (hb : CallD c rr b) (bn : BN b) (hg : Gl X x) (hm : X.mg x = none) (hv : bootBuiltins x = some (.builtin id)) (ha : DA X c W (e :: es) r) (hn : x ≠ "__name__" := by decide) (hdb : (x == ("__debug__" : Str)) = false := by decide)
    (hs : starEach (e :: es) X.env = (false, eval e X.env) :: starEach es X.env := by rfl) (hpl : (backTo pos (starEach es X.env)).any (·.1) = false := by rfl) : DE X c W (.Call (.Name x p) (e :: es) [] pos) (cCB b r) :=
  let ⟨_, p1, q1⟩ := ha; ⟨_, pe_callB hc hg hm hv p1 hn hdb hs hpl, ref_cb hb bn q1⟩
theorem de_callTy {rr : List V → Hp → VK → Prop} {b : BF} (hc : CallR X (.type T) rr) (hb : CallD c rr b) (bn : BN b) (hg : Gl X x) (hm : X.mg x = none) (hv : bootBuiltins x = some (.type T)) (ha : DA X c W (e :: es) r) (hn : x ≠ "__name__" := by decide) (hdb : (x == ("__debug__" : Str)) = false := by decide)
    (hs : starEach (e :: es) X.env = (false, eval e X.env) :: starEach es X.env := by rfl) (hpl : (backTo pos (starEach es X.env)).any (·.1) = false := by rfl) : DE X c W (.Call (.Name x p) (e :: es) [] pos) (cCB b r) :=
  let ⟨_, p1, q1⟩ := ha; ⟨_, pe_callTy hc hg hm hv p1 hn hdb hs hpl, ref_cb hb bn q1⟩
end
section
variable {c : Cm}
/-- a built-in of one thing -/
def b1 (f : D → Sto → Res D) : BF := fun ds S => match ds with
  | [d] => f d S
  | _ => .stk
def b2 (f : D → D → Sto → Res D) : BF := fun ds S => match ds with
  | [a, b] => f a b S
  | _ => .stk
theorem bn1 {f : D → Sto → Res D} (h : ∀ d S, NoX (f d S)) : BN (b1 f) := fun ds S => by
  unfold b1
  split
  · exact h _ _
  · exact trivial
theorem bn2 {f : D → D → Sto → Res D} (h : ∀ a b S, NoX (f a b S)) : BN (b2 f) := fun ds S => by
  unfold b2
  split
  · exact h _ _ _
  · exact trivial
theorem cd1 {rr : List V → Hp → VK → Prop} {f : D → Sto → Res D} (h : ∀ H g S v d Q, Sat c g H S → Rep c g v d → PostG (rD c) c g Q (fun _ _ _ => False) (f d S) → rr [v] H Q) : CallD c rr (b1 f) := fun H g S vs ds Q s r q => by
  cases r with
  | nil => exact q.elim
  | cons r1 rs => cases rs with
    | nil => exact h H g S _ _ Q s r1 q
    | cons _ _ => exact q.elim
theorem cd2 {rr : List V → Hp → VK → Prop} {f : D → D → Sto → Res D} (h : ∀ H g S v u a b Q, Sat c g H S → Rep c g v a → Rep c g u b → PostG (rD c) c g Q (fun _ _ _ => False) (f a b S) → rr [v, u] H Q) : CallD c rr (b2 f) := fun H g S vs ds Q s r q => by
  cases r with
  | nil => exact q.elim
  | cons r1 rs => cases rs with
    | nil => exact q.elim
    | cons r2 rs => cases rs with
      | nil => exact h H g S _ _ _ _ Q s r1 r2 q
      | cons _ _ => exact q.elim
/-! len, abs, int, max, min -/
def oLen (d : D) (S : Sto) : Res D := match d with
  | .str z => guard1 (lim z.length) (.ok (.int z.length) S)
  | d => match sqOf S d with
    | some xs => .ok (.int xs.length) S
    | none => .stk
theorem cd_len {X : Cx} (hK : c.K = X.K) : CallD c (fun xs H Q => ∃ x n, xs = [x] ∧ LenV X.K x H n ∧ Q (.int n) H) (b1 oLen) := cd1 fun H g S v d Q s r q => by
  rw [← hK]
  have seq : ∀ (q : PostG (rD c) c g Q (fun _ _ _ => False) (match sqOf S d with | some xs => Res.ok (.int xs.length) S | none => .stk)), ∃ x n, [v] = [x] ∧ LenV c.K x H n ∧ Q (.int n) H := fun q => by
    cases hd : sqOf S d with
    | none => rw [hd] at q; exact q.elim
    | some xs =>
      rw [hd] at q
      obtain ⟨p, us, rfl, hp, ru⟩ := sq_at s r hd
      refine ⟨_, us.length, rfl, ?_, by rw [ru.len]; exact q _ H g (Ext.refl g) s (.int _)⟩
      rcases hp with hp | hp
      · exact .inl ⟨us, hp, rfl⟩
      · exact .inr ⟨us, hp, rfl⟩
  cases d with
  | str z =>
    cases r
    obtain ⟨hl, q⟩ := guard_of (show PostG (rD c) c g Q _ (guard1 _ _) from q)
    exact ⟨_, z.length, rfl, ⟨lim_le hl, rfl⟩, q _ H g (Ext.refl g) s (.int _)⟩
  | _ => exact seq q
theorem bn_len : BN (b1 oLen) := bn1 fun d S => by
  unfold oLen guard1
  repeat' split
  all_goals exact trivial
def oAbs (d : D) (S : Sto) : Res D := match d with
  | .int i => .ok (.int (if i < 0 then -i else i)) S
  | _ => .stk
theorem cd_abs : CallD c (fun xs H Q => ∃ i, xs = [.int i] ∧ Q (.int (if i < 0 then -i else i)) H) (b1 oAbs) := cd1 fun H g S v d Q s r q => by
  cases d with
  | int i => cases r; exact ⟨i, rfl, q _ H g (Ext.refl g) s (.int _)⟩
  | _ => exact q.elim
theorem bn_abs : BN (b1 oAbs) := bn1 fun d S => by cases d <;> exact trivial
def oToInt (d : D) (S : Sto) : Res D := match d with
  | .int i => .ok (.int i) S
  | .bl k => .ok (.int (if k then 1 else 0)) S
  | .str z => match PySem.intText? z, decide (z.length ≤ 640) with
    | some n, true => .ok (.int n) S
    | _, _ => .stk
  | _ => .stk
def rToInt : List V → Hp → VK → Prop := fun xs H Q => ((∃ i, xs = [.int i] ∧ Q (.int i) H) ∨ ∃ k, xs = [.bl k] ∧ Q (.int (if k then 1 else 0)) H) ∨ (∃ a n, xs = [.str a] ∧ PySem.intText? a = some n ∧ a.length ≤ 640 ∧ Q (.int n) H)
theorem cr_toInt {X : Cx} : CallR X (.type "int") rToInt := callr_or call_int1 call_int_str
theorem cd_toInt : CallD c rToInt (b1 oToInt) := cd1 fun H g S v d Q s r q => by
  cases d with
  | int i => cases r; exact .inl (.inl ⟨i, rfl, q _ H g (Ext.refl g) s (.int _)⟩)
  | bl i => cases r; exact .inl (.inr ⟨i, rfl, q _ H g (Ext.refl g) s (.int _)⟩)
  | str z =>
    cases r
    have q : PostG (rD c) c g Q _ (match PySem.intText? z, decide (z.length ≤ 640) with | some n, true => Res.ok (.int n) S | _, _ => .stk) := q
    cases h1 : PySem.intText? z with
    | none => rw [h1] at q; exact q.elim
    | some n =>
      cases h2 : decide (z.length ≤ 640) with
      | false => rw [h1, h2] at q; exact q.elim
      | true => rw [h1, h2] at q; exact .inr ⟨z, n, rfl, h1, of_decide_eq_true h2, q _ H g (Ext.refl g) s (.int _)⟩
  | _ => exact q.elim
theorem bn_toInt : BN (b1 oToInt) := bn1 fun d S => by
  unfold oToInt
  repeat' split
  all_goals exact trivial
def oMax2 (a b : D) (S : Sto) : Res D := match a, b with
  | .int i, .int j => .ok (.int (if j > i then j else i)) S
  | _, _ => .stk
def oMin2 (a b : D) (S : Sto) : Res D := match a, b with
  | .int i, .int j => .ok (.int (if j < i then j else i)) S
  | _, _ => .stk
theorem cd_max2 : CallD c (fun xs H Q => ∃ i j, xs = [.int i, .int j] ∧ Q (.int (if j > i then j else i)) H) (b2 oMax2) := cd2 fun H g S v u a b Q s r1 r2 q => by
  cases a with
  | int i => cases b with
    | int j => cases r1; cases r2; exact ⟨i, j, rfl, q _ H g (Ext.refl g) s (.int _)⟩
    | _ => exact q.elim
  | _ => cases b <;> exact q.elim
theorem cd_min2 : CallD c (fun xs H Q => ∃ i j, xs = [.int i, .int j] ∧ Q (.int (if j < i then j else i)) H) (b2 oMin2) := cd2 fun H g S v u a b Q s r1 r2 q => by
  cases a with
  | int i => cases b with
    | int j => cases r1; cases r2; exact ⟨i, j, rfl, q _ H g (Ext.refl g) s (.int _)⟩
    | _ => exact q.elim
  | _ => cases b <;> exact q.elim
theorem bn_max2 : BN (b2 oMax2) := bn2 fun a b S => by cases a <;> cases b <;> exact trivial
theorem bn_min2 : BN (b2 oMin2) := bn2 fun a b S => by cases a <;> cases b <;> exact trivial
/-! list(..), tuple(..) -/
def oList (d : D) (S : Sto) : Res D := match sqOf S d with
  | some xs => .ok (.lst xs) S
  | none => .stk
def oListN (d : D) (S : Sto) : Res D := match sqOf S d with
  | some xs => .ok (.loc S.length) (S ++ [.lst xs])
  | none => .stk
def rList (K : PySem.W.Frag) : List V → Hp → VK → Prop := fun xs H Q => ∃ p ys, xs = [.ref p] ∧ (SqL K H p ys ∨ SqT K H p ys) ∧ ∀ l, H l = none → Q (.ref l) (upd H l (.lst ys))
theorem cd_list {X : Cx} (hK : c.K = X.K) : CallD c (rList X.K) (b1 oList) := cd1 fun H g S v d Q s r q => by
  rw [← hK]
  have q : PostG (rD c) c g Q _ (match sqOf S d with | some xs => Res.ok (.lst xs) S | none => .stk) := q
  cases hd : sqOf S d with
  | none => rw [hd] at q; exact q.elim
  | some xs =>
    rw [hd] at q
    obtain ⟨p, us, rfl, hp, ru⟩ := sq_at s r hd
    refine ⟨p, us, rfl, hp, fun l hl => ?_⟩
    obtain ⟨s2, x2⟩ := s.new hl (.lst us)
    exact q _ _ _ x2 s2 (.lst upd_same (ru.mono x2))
theorem cd_listN {X : Cx} (hK : c.K = X.K) : CallD c (rList X.K) (b1 oListN) := cd1 fun H g S v d Q s r q => by
  rw [← hK]
  have q : PostG (rD c) c g Q _ (match sqOf S d with | some xs => Res.ok (.loc S.length) (S ++ [.lst xs]) | none => .stk) := q
  cases hd : sqOf S d with
  | none => rw [hd] at q; exact q.elim
  | some xs =>
    rw [hd] at q
    obtain ⟨p, us, rfl, hp, ru⟩ := sq_at s r hd
    refine ⟨p, us, rfl, hp, fun l hl => ?_⟩
    obtain ⟨g2, x2, e2, s2⟩ := s.alloc hl (o := .lst us) (k := .lst xs) fun g' x' e' r' => ⟨l, us, e', r', upd_same, ru.mono x'⟩
    exact q _ _ g2 x2 s2 (.loc e2)
theorem bn_list : BN (b1 oList) := bn1 fun d S => by
  unfold oList; split <;> exact trivial
theorem bn_listN : BN (b1 oListN) := bn1 fun d S => by
  unfold oListN; split <;> exact trivial
def oTuple (d : D) (S : Sto) : Res D := match sqOf S d with
  | some xs => .ok (.tup xs) S
  | none => .stk
def rTuple (K : PySem.W.Frag) : List V → Hp → VK → Prop := fun xs H Q => ∃ p ys, xs = [.ref p] ∧ ((SqL K H p ys ∧ ∀ l, H l = none → Q (.ref l) (upd H l (.tup ys))) ∨ (SqT K H p ys ∧ Q (.ref p) H))
theorem cd_tuple {X : Cx} (hK : c.K = X.K) : CallD c (rTuple X.K) (b1 oTuple) := cd1 fun H g S v d Q s r q => by
  rw [← hK]
  have q2 : PostG (rD c) c g Q (fun _ _ _ => False) (match sqOf S d with | some xs => Res.ok (.tup xs) S | none => .stk) := q
  clear q
  have rd : ∀ xs, rdOf S d = some xs → (PostG (rD c) c g Q (fun _ _ _ => False) (.ok (.tup xs) S)) → rTuple c.K [v] H Q := fun xs hd q => by
    obtain ⟨p, us, rfl, hp, ru⟩ := rd_at s r hd
    refine ⟨p, us, rfl, .inl ⟨hp, fun l hl => ?_⟩⟩
    obtain ⟨s2, x2⟩ := s.new hl (.tup us)
    exact q _ _ _ x2 s2 (.tup (SqT.of upd_same) (ru.mono x2))
  cases hd : sqOf S d with
  | none => rw [hd] at q2; exact q2.elim
  | some xs =>
    rw [hd] at q2
    cases d with
    | tup ys =>
      obtain rfl := Option.some.inj hd
      have r' := r
      obtain ⟨p, us, rfl, hp, ru⟩ := tup_at s r
      exact ⟨p, us, rfl, .inr ⟨hp, q2 _ H g (Ext.refl g) s r'⟩⟩
    | lst ys => exact rd xs hd q2
    | wl ys => exact rd xs hd q2
    | loc n => exact rd xs hd q2
    | _ => cases hd
theorem bn_tuple : BN (b1 oTuple) := bn1 fun d S => by
  unfold oTuple; split <;> exact trivial
/-! ### isinstance -/
def tyD (S : Sto) : D → Option String
  | .non => some "NoneType"
  | .bl _ => some "bool"
  | .int _ => some "int"
  | .str _ => some "str"
  | .tup _ => some "tuple"
  | .lst _ => some "list"
  | .dk _ => some "dict"
  | .loc n => match S[n]? with
    | some (.lst _) => some "list"
    | some (.dk _) => some "dict"
    | _ => none
  | _ => none
def isB (t n : String) : Bool := t == n || (t == "bool" && n == "int")
def kinds : List String := ["NoneType", "bool", "int", "str", "tuple", "list", "dict"]
theorem kitB_isB : ∀ t ∈ kinds, ∀ n ∈ kinds, kitB t n = some (isB t n) := by decide +kernel
theorem tyD_kind {S : Sto} {d : D} {t : String} (h : tyD S d = some t) : t ∈ kinds := by
  unfold tyD at h
  repeat' split at h
  all_goals first
    | (obtain rfl := Option.some.inj h; decide)
    | cases h
/-- isinstance(x, T); own: what isinstance(x, an own class) says of other things is told by isC -/
def oIsi (ns : List Str) (a b : D) (S : Sto) : Res D := match b with
  | .ty n => match tyD S a, kinds.contains n with
    | some t, true => .ok (.bl (isB t n)) S
    | _, _ => .stk
  | .cls C => if C ∈ ns then match a with
    | .ins C' _ => if C' ∈ ns then .ok (.bl (decide (C' = C))) S else .stk
    | a => match tyD S a with
      | some _ => .ok (.bl false) S
      | none => .stk else .stk
  | _ => .stk
/-- the facts of the own classes that isinstance asks -/
structure IsiF (c : Cm) (ns : List Str) : Prop where
  base : ∀ C ∈ ns, ∀ t ∈ kinds, PySem.W.kitOne c.K (.type t) (.ref (c.cm C)) = some false
  own : ∀ C ∈ ns, ∀ C' ∈ ns, PySem.W.kitOne c.K (.ref (c.cm C')) (.ref (c.cm C)) = some (decide (C' = C))
  ty : ∀ C ∈ ns, ∀ H a dx fs, H a = some (.ins (c.cm C) dx fs) → TyX c.K H (.ref a) (.ref (c.cm C))
theorem tyx_of {g : Gh} {H : Hp} {S : Sto} (s : Sat c g H S) {v : V} {d : D} (r : Rep c g v d) {t : String} (h : tyD S d = some t) : TyX c.K H v (.type t) := by
  cases d with
  | non => cases r; obtain rfl := Option.some.inj h; exact .base .non
  | bl b => cases r; obtain rfl := Option.some.inj h; exact .base (.bl b)
  | int b => cases r; obtain rfl := Option.some.inj h; exact .base (.int b)
  | str b => cases r; obtain rfl := Option.some.inj h; exact .base (.str b)
  | tup xs =>
    obtain rfl := Option.some.inj h
    obtain ⟨a, us, rfl, hp, _⟩ := tup_at s r
    rcases hp with (hp | ⟨o, hp⟩) | ⟨o, its, n, hk, hc, _⟩
    · exact .base (.tup hp)
    · exact .fTuple hp
    · exact .kTuple hk hc
  | lst xs =>
    obtain rfl := Option.some.inj h
    obtain ⟨a, us, rfl, hp, _⟩ := lst_at s r (show lstOf S (.lst xs) = some xs from rfl)
    exact .base (.lst hp)
  | dk kvs =>
    obtain rfl := Option.some.inj h
    cases r with
    | dk hq _ => exact .base (.dK (s.sub _ _ hq))
  | loc n =>
    cases r with
    | loc hn =>
      have h : (match S[n]? with | some (.lst _) => some "list" | some (.dk _) => some "dict" | _ => none) = some t := h
      cases hc : S[n]? with
      | none => rw [hc] at h; cases h
      | some k =>
        rw [hc] at h
        cases k with
        | lst xs =>
          obtain rfl := Option.some.inj h
          obtain ⟨a, us, e1, e2, e3, _⟩ := s.cell n _ hc
          rw [hn] at e1
          obtain rfl := Option.some.inj e1
          exact .base (.lst e3)
        | dk kvs =>
          obtain rfl := Option.some.inj h
          obtain ⟨a, us, e1, e2, e3, _⟩ := s.cell n _ hc
          rw [hn] at e1
          obtain rfl := Option.some.inj e1
          exact .base (.dK e3)
        | _ => cases h
  | _ => cases h
theorem cd_isi {X : Cx} {ns : List Str} (hK : c.K = X.K) (F : IsiF c ns) : CallD c (rIsi X.K) (b2 (oIsi ns)) := cd2 fun H g S v u a b Q s r1 r2 q => by
  rw [← hK]
  cases b with
  | ty n =>
    cases r2
    have q : PostG (rD c) c g Q _ (match tyD S a, kinds.contains n with | some t, true => Res.ok (.bl (isB t n)) S | _, _ => .stk) := q
    cases h1 : tyD S a with
    | none => rw [h1] at q; exact q.elim
    | some t =>
      cases h2 : kinds.contains n with
      | false => rw [h1, h2] at q; exact q.elim
      | true =>
        rw [h1, h2] at q
        exact ⟨v, _, _, _, _, rfl, .ty n, tyx_of s r1 h1, kit_ty (kitB_isB t (tyD_kind h1) n (by simpa using h2)), q _ H g (Ext.refl g) s (.bl _)⟩
  | cls C =>
    cases r2
    by_cases hC : C ∈ ns
    · have other : ∀ (q : PostG (rD c) c g Q (fun _ _ _ => False) (match tyD S a with | some _ => Res.ok (.bl false) S | none => .stk)), rIsi c.K [v, .ref (c.cm C)] H Q := fun q => by
        cases h1 : tyD S a with
        | none => rw [h1] at q; exact q.elim
        | some t =>
          rw [h1] at q
          exact ⟨v, _, _, _, _, rfl, .own _, tyx_of s r1 h1, F.base C hC t (tyD_kind h1), q _ H g (Ext.refl g) s (.bl _)⟩
      have q : PostG (rD c) c g Q _ (if C ∈ ns then _ else Res.stk) := q
      rw [if_pos hC] at q
      cases a with
      | ins C' fs =>
        by_cases hC' : C' ∈ ns
        · have q : PostG (rD c) c g Q _ (if C' ∈ ns then Res.ok (.bl (decide (C' = C))) S else Res.stk) := q
          rw [if_pos hC'] at q
          cases r1 with
          | ins hq _ => exact ⟨_, _, _, _, _, rfl, .own _, F.ty C' hC' H _ _ _ (s.sub _ _ hq), F.own C hC C' hC', q _ H g (Ext.refl g) s (.bl _)⟩
        · have q : PostG (rD c) c g Q (fun _ _ _ => False) (if C' ∈ ns then Res.ok (.bl (decide (C' = C))) S else Res.stk) := q
          rw [if_neg hC'] at q; exact q.elim
      | _ => exact other q
    · have q : PostG (rD c) c g Q (fun _ _ _ => False) (if C ∈ ns then _ else Res.stk) := q
      rw [if_neg hC] at q; exact q.elim
  | _ => exact q.elim
theorem bn_isi {ns : List Str} : BN (b2 (oIsi ns)) := bn2 fun a b S => by
  unfold oIsi
  repeat' split
  all_goals exact trivial
end
end DD
namespace DD
open PySem PySem.Spec PyProof.Rows L2
/-! ### methods of built-in things -/
abbrev MF := D → List D → Sto → Res D
def MetD (c : Cm) (T : String) (r : V → List V → Hp → VK → Prop) (m : MF) : Prop := (∀ H g S S' v d ds, Sat c g H S → Rep c g v d → NoX (m d ds S')) ∧
  ∀ H g S v d vs ds Q, Sat c g H S → Rep c g v d → Reps c g vs ds → PostG (rD c) c g Q (fun _ _ _ => False) (m d ds S) → r v vs H Q
/-- the receiver's kind -/
def isT (T : String) (S : Sto) (d : D) : Bool := match d with
  | .str _ => T == "str"
  | .int _ => T == "int"
  | d => match rdOf S d with
    | some _ => T == "list"
    | none => false
def cBM (T : String) (m : MF) (f : EF) (r : AF) : EF := fun Γ S => (f Γ S).bind fun d S => if isT T S d = true then (r Γ S).bind fun ds S => m d ds S else .stk
section
variable {c : Cm} {g : Gh} {H : Hp} {S : Sto}
theorem isT_ok {K : PySem.W.Frag} (hK : c.K = K) {T : String} (s : Sat c g H S) {v : V} {d : D} (r : Rep c g v d) (h : isT T S d = true) : tyV K T v H := by
  subst hK
  have seq : (match rdOf S d with | some _ => T == "list" | none => false) = true → tyV c.K T v H := fun h => by
    cases hd : rdOf S d with
    | none => rw [hd] at h; cases h
    | some xs =>
      rw [hd] at h
      obtain ⟨a, us, rfl, hp, _⟩ := rd_at s r hd
      exact .inl ⟨beq_iff_eq.mp h, us, hp⟩
  cases d with
  | str z => cases r; exact beq_iff_eq.mp h
  | int z => cases r; exact beq_iff_eq.mp h
  | _ => exact seq h
/-- a thing of the store is changed -/
theorem Sat.put (s : Sat c g H S) {n : Nat} {a : Addr} {k k' : Cell} {o : HO} (hn : S[n]? = some k) (hρ : g.ρ n = some a) (hR : g.R a = none) (ok : CellOk c g (upd H a o) n k') : Sat c g (upd H a o) (S.set n k') := by
  have hl : n < S.length := (List.getElem?_eq_some_iff.mp hn).1
  refine ⟨fun b u e => ?_, fun m b e => by rw [List.length_set]; exact s.dom m b e, fun m b e => ?_, s.inj, fun m j e => ?_, fun b u e => ?_⟩
  · rw [upd_ne (fun z => by subst z; rw [hR] at e; cases e)]; exact s.sub b u e
  · by_cases hb : b = a
    · subst hb; exact ⟨o, upd_same⟩
    · rw [upd_ne hb]; exact s.there m b e
  · by_cases hm : n = m
    · subst hm
      rw [List.getElem?_set_self hl] at e
      obtain rfl := Option.some.inj e
      exact ok
    · rw [List.getElem?_set_ne hm] at e
      have q := s.cell m j e
      have nm : ∀ {b}, g.ρ m = some b → b ≠ a := fun {b} h z => hm (s.inj n m a hρ (by rw [← z]; exact h))
      cases j with
      | dead => trivial
      | lst ds => obtain ⟨b, us, h1, h2, h3, h4⟩ := q; exact ⟨b, us, h1, h2, by rw [upd_ne (nm h1)]; exact h3, h4⟩
      | ins C fs => obtain ⟨b, dx, us, h1, h2, h3, h4⟩ := q; exact ⟨b, dx, us, h1, h2, by rw [upd_ne (nm h1)]; exact h3, h4⟩
      | dk kvs => obtain ⟨b, us, h1, h2, h3, h4⟩ := q; exact ⟨b, us, h1, h2, by rw [upd_ne (nm h1)]; exact h3, h4⟩
  · obtain ⟨h1, h2, h3⟩ := s.kept b u e
    exact ⟨by rw [upd_ne (fun z => by subst z; exact h3 n hρ)]; exact h1, h2, h3⟩
/-- what may be changed: a list of the store -/
def locOf (S : Sto) : D → Option (Nat × List D)
  | .loc n => match S[n]? with
    | some (.lst xs) => some (n, xs)
    | _ => none
  | _ => none
theorem loc_at (s : Sat c g H S) {v : V} {d : D} (r : Rep c g v d) {n : Nat} {xs : List D} (h : locOf S d = some (n, xs)) : ∃ a us, v = .ref a ∧ g.ρ n = some a ∧ g.R a = none ∧ H a = some (.lst us) ∧ Reps c g us xs ∧ S[n]? = some (.lst xs) := by
  cases d with
  | loc m =>
    cases r with
    | loc hn =>
      have h : (match S[m]? with | some (.lst xs) => some (m, xs) | _ => none) = some (n, xs) := h
      cases hc : S[m]? with
      | none => rw [hc] at h; cases h
      | some k =>
        rw [hc] at h
        cases k with
        | lst ys =>
          cases h
          obtain ⟨a, us, e1, e2, e3, e4⟩ := s.cell n _ hc
          rw [hn] at e1
          obtain rfl := Option.some.inj e1
          exact ⟨_, us, rfl, hn, e2, e3, e4, hc⟩
        | _ => cases h
  | _ => cases h
/-- the list of the store is another -/
theorem Sat.putL (s : Sat c g H S) {n : Nat} {a : Addr} {us us' : List V} {xs xs' : List D} (hn : S[n]? = some (.lst xs)) (hρ : g.ρ n = some a) (hR : g.R a = none) (r : Reps c g us' xs') : Sat c g (upd H a (.lst us')) (S.set n (.lst xs')) :=
  s.put hn hρ hR ⟨a, us', hρ, hR, upd_same, r⟩
end
section
variable {X : Cx} {c : Cm} {W : WX} {e o : Expr} {es : List Expr} {pos apos cpos : Pos} {r : AF} {f : EF} {T id : String} {name : Str}
theorem ref_bm (hK : c.K = X.K) {rr : V → List V → Hp → VK → Prop} {mf : MF} {to : TE} {t : TA} (hm : MetD c T rr mf) (h1 : RefG (rD c) c W to f) (h2 : RefG (rDs c) c W t r) : RefG (rD c) c W (tBM X.K T rr to t) (cBM T mf f r) := fun σ H g Γ S Q s e q =>
  h1 σ H g Γ S _ s e (q.bind fun d S1 v H1 g1 x1 s1 r1 q1 => by
    by_cases hT : isT T S1 d = true
    · have q1 : PostG (rD c) c g1 Q (fun cl d H => W cl d σ H) ((r Γ S1).bind fun ds S => mf d ds S) := by
        have q1 : PostG (rD c) c g1 Q (fun cl d H => W cl d σ H) (if isT T S1 d = true then (r Γ S1).bind fun ds S => mf d ds S else .stk) := q1
        rw [if_pos hT] at q1; exact q1
      exact ⟨isT_ok hK s1 r1 hT, h2 σ H1 g1 Γ S1 _ s1 (e.mono x1) (PostG.bind q1 fun ds S2 vs H2 g2 x2 s2 r2 q2 => hm.2 H2 g2 S2 v d vs ds Q s2 (r1.mono x2) r2 (q2.nox (hm.1 H2 g2 S2 S2 v d ds s2 (r1.mono x2))))⟩
    · have q1 : PostG (rD c) c g1 Q (fun cl d H => W cl d σ H) (if isT T S1 d = true then (r Γ S1).bind fun ds S => mf d ds S else .stk) := q1
      rw [if_neg hT] at q1; exact q1.elim)
theorem de_bm (hK : c.K = X.K) {rr : V → List V → Hp → VK → Prop} {mf : MF} (pa : PlainAttrs T) (slot : Slot T name id) (hty : typeOf (.builtin id) = pure (.type "method_descriptor")) (hr : MtR X id rr) (hm : MetD c T rr mf) (ho : DE X c W o f) (ha : DA X c W (e :: es) r)
    (hbase : attributeBase o name X.env (eval o X.env) = eval o X.env := by rfl)
    (hfew : ((backTo cpos (starEach (e :: es) X.env)).all (fun x => !x.1) && (backToKw cpos (keywordEach [] X.env)).all (fun x => x.1.isSome)
      && decide ((e :: es).length + ([] : List Keyword).length + (if ([] : List Keyword).isEmpty then 0 else 1) < 30)) = true := by rfl)
    (hline : (apos.endLine == cpos.line) = true := by rfl) (hs : starEach (e :: es) X.env = (false, eval e X.env) :: starEach es X.env := by rfl) (hplain : (backTo cpos (starEach es X.env)).any (·.1) = false := by rfl) :
    DE X c W (.Call (.Attribute o name apos) (e :: es) [] cpos) (cBM T mf f r) :=
  let ⟨_, p1, q1⟩ := ho; let ⟨_, p2, q2⟩ := ha; ⟨_, pe_bm pa slot hty hr p1 p2 hbase hfew hline hs hplain, ref_bm hK hm q1 q2⟩
theorem de_bm0 (hK : c.K = X.K) {rr : V → List V → Hp → VK → Prop} {mf : MF} (pa : PlainAttrs T) (slot : Slot T name id) (hty : typeOf (.builtin id) = pure (.type "method_descriptor")) (hr : MtR X id rr) (hm : MetD c T rr mf) (ho : DE X c W o f)
    (hbase : attributeBase o name X.env (eval o X.env) = eval o X.env := by rfl) (hline : (apos.endLine == cpos.line) = true := by rfl) : DE X c W (.Call (.Attribute o name apos) [] [] cpos) (cBM T mf f cNil) := by
  obtain ⟨t, p1, q1⟩ := ho
  refine ⟨_, pe_bm0 pa slot hty hr p1 hbase hline, fun σ H g Γ S Q s e q => q1 σ H g Γ S _ s e (q.bind fun d S1 v H1 g1 x1 s1 r1 q1 => ?_)⟩
  have q1 : PostG (rD c) c g1 Q (fun cl d H => W cl d σ H) (if isT T S1 d = true then mf d [] S1 else .stk) := q1
  by_cases hT : isT T S1 d = true
  · rw [if_pos hT] at q1
    exact ⟨isT_ok hK s1 r1 hT, hm.2 H1 g1 S1 v d [] [] Q s1 r1 .nil (q1.nox (hm.1 H1 g1 S1 S1 v d [] s1 r1))⟩
  · rw [if_neg hT] at q1; exact q1.elim
end
/-! lists -/
def mAppend : MF := fun d ds S => match locOf S d, ds with
  | some (n, xs), [y] => guard1 (lim (xs.length + 1)) (.ok .non (S.set n (.lst (xs ++ [y]))))
  | _, _ => .stk
def inW : Int → Bool
  | .ofNat n => Nat.ble n 9223372036854775807
  | .negSucc n => Nat.ble n 9223372036854775807
theorem inW_of {j : Int} (h : inW j = true) : -(2 ^ 63) ≤ j ∧ j < 2 ^ 63 := by
  cases j with
  | ofNat n => have h := Nat.le_of_ble_eq_true h; rw [Int.ofNat_eq_natCast]; exact ⟨by omega, by omega⟩
  | negSucc n => have h := Nat.le_of_ble_eq_true h; exact ⟨by omega, by omega⟩
def mPopAt : MF := fun d ds S => match locOf S d, ds with
  | some (n, xs), [.int i] => match inW i, seqIndex? i xs.length with
    | true, some k => match xs[k]? with
      | some y => .ok y (S.set n (.lst (xs.eraseIdx k)))
      | none => .stk
    | _, _ => .stk
  | _, _ => .stk
def mPop : MF := fun d ds S => match locOf S d, ds with
  | some (n, xs), [] => match xs[xs.length - 1]? with
    | some y => .ok y (S.set n (.lst xs.dropLast))
    | none => .stk
  | _, _ => .stk
def mClear : MF := fun d ds S => match locOf S d, ds with
  | some (n, _), [] => .ok .non (S.set n (.lst []))
  | _, _ => .stk
def mReverse : MF := fun d ds S => match locOf S d, ds with
  | some (n, xs), [] => .ok .non (S.set n (.lst xs.reverse))
  | _, _ => .stk
section
variable {c : Cm}
theorem guard_nox {α : Type} {b : Bool} {r : Res D} (h : NoX r) : NoX (guard1 b r) := nox_guard h
theorem reps_last {g : Gh} : ∀ {us : List V} {xs : List D}, Reps c g us xs → Reps c g us.dropLast xs.dropLast
  | _, _, .nil => .nil
  | _, _, .cons h .nil => .nil
  | _, _, .cons h (.cons h2 r) => .cons h (reps_last (.cons h2 r))
theorem md_append : MetD c "list" rAppend mAppend := by
  refine ⟨fun H g S S' v d ds s r => ?_, fun H g S v d vs ds Q s r rs q => ?_⟩
  · unfold mAppend guard1
    repeat' split
    all_goals exact trivial
  · unfold mAppend at q
    cases hl : locOf S d with
    | none => rw [hl] at q; exact q.elim
    | some p =>
      obtain ⟨n, xs⟩ := p
      rw [hl] at q
      cases rs with
      | nil => exact q.elim
      | cons r1 rs => cases rs with
        | cons _ _ => exact q.elim
        | nil =>
          obtain ⟨hz, q⟩ := guard_of (show PostG (rD c) c g Q _ (guard1 _ _) from q)
          obtain ⟨a, us, rfl, h1, h2, h3, h4, h5⟩ := loc_at s r hl
          refine ⟨a, us, _, rfl, rfl, h3, ?_, q _ _ g (Ext.refl g) (s.putL (us := us) h5 h1 h2 (h4.app (.cons r1 .nil))) .non⟩
          have := lim_le hz
          rw [h4.len]; omega
theorem md_popAt : MetD c "list" rPopAt mPopAt := by
  refine ⟨fun H g S S' v d ds s r => ?_, fun H g S v d vs ds Q s r rs q => ?_⟩
  · unfold mPopAt
    repeat' split
    all_goals exact trivial
  · unfold mPopAt at q
    cases hl : locOf S d with
    | none => rw [hl] at q; exact q.elim
    | some p =>
      obtain ⟨n, xs⟩ := p
      rw [hl] at q
      cases rs with
      | nil => exact q.elim
      | cons r1 rs => cases rs with
        | cons _ _ => split at q <;> first | exact q.elim | (rename_i h1 h2; cases h2)
        | nil =>
          obtain ⟨a, us, rfl, h1, h2, h3, h4, h5⟩ := loc_at s r hl
          split at q
          · rename_i e1 e2
            cases e1; cases e2
            cases r1
            split at q
            · rename_i k b1 b2
              split at q
              · rename_i y hy
                obtain ⟨v, ev, rv⟩ := h4.get hy
                have hb := inW_of b1
                exact ⟨a, us, _, k, v, rfl, rfl, h3, hb.1, hb.2, by rw [h4.len]; exact b2, ev, q _ _ g (Ext.refl g) (s.putL (us := us) h5 h1 h2 (h4.erase k)) rv⟩
              · exact q.elim
            · exact q.elim
          · exact q.elim
theorem md_pop : MetD c "list" rPop mPop := by
  refine ⟨fun H g S S' v d ds s r => ?_, fun H g S v d vs ds Q s r rs q => ?_⟩
  · unfold mPop
    repeat' split
    all_goals exact trivial
  · unfold mPop at q
    cases hl : locOf S d with
    | none => rw [hl] at q; exact q.elim
    | some p =>
      obtain ⟨n, xs⟩ := p
      rw [hl] at q
      cases rs with
      | cons _ _ => exact q.elim
      | nil =>
        obtain ⟨a, us, rfl, h1, h2, h3, h4, h5⟩ := loc_at s r hl
        cases hy : xs[xs.length - 1]? with
        | none => simp only [hy] at q; exact q.elim
        | some y =>
          simp only [hy] at q
          obtain ⟨v, ev, rv⟩ := h4.get hy
          exact ⟨a, us, v, rfl, rfl, h3, by rw [h4.len]; exact ev, q _ _ g (Ext.refl g) (s.putL (us := us) h5 h1 h2 (reps_last h4)) rv⟩
theorem md_clear : MetD c "list" rClear mClear := by
  refine ⟨fun H g S S' v d ds s r => ?_, fun H g S v d vs ds Q s r rs q => ?_⟩
  · unfold mClear
    repeat' split
    all_goals exact trivial
  · unfold mClear at q
    cases hl : locOf S d with
    | none => rw [hl] at q; exact q.elim
    | some p =>
      obtain ⟨n, xs⟩ := p
      rw [hl] at q
      cases rs with
      | cons _ _ => exact q.elim
      | nil =>
        obtain ⟨a, us, rfl, h1, h2, h3, h4, h5⟩ := loc_at s r hl
        exact ⟨a, us, rfl, rfl, h3, q _ _ g (Ext.refl g) (s.putL (us := us) h5 h1 h2 .nil) .non⟩
theorem md_reverse : MetD c "list" rReverse mReverse := by
  refine ⟨fun H g S S' v d ds s r => ?_, fun H g S v d vs ds Q s r rs q => ?_⟩
  · unfold mReverse
    repeat' split
    all_goals exact trivial
  · unfold mReverse at q
    cases hl : locOf S d with
    | none => rw [hl] at q; exact q.elim
    | some p =>
      obtain ⟨n, xs⟩ := p
      rw [hl] at q
      cases rs with
      | cons _ _ => exact q.elim
      | nil =>
        obtain ⟨a, us, rfl, h1, h2, h3, h4, h5⟩ := loc_at s r hl
        exact ⟨a, us, rfl, rfl, h3, q _ _ g (Ext.refl g) (s.putL (us := us) h5 h1 h2 h4.rev) .non⟩
end
/-! ### xs[i] = e -/
def putAt (S : Sto) (d i v : D) : Option Sto := match locOf S d, i with
  | some (n, xs), .int i => (ixN xs.length i).map fun j => S.set n (.lst (xs.set j v))
  | _, _ => none
def sPut (fe fo fi : EF) : SF := fun Γ S => SRes.of (fe Γ S) Γ fun v S => SRes.of (fo Γ S) Γ fun d S => SRes.of (fi Γ S) Γ fun i S => match putAt S d i v with
  | some S' => .nx Γ S'
  | none => .stk
theorem putAt_ok {c : Cm} {g : Gh} {H : Hp} {S S' : Sto} {o x w : V} {d i v : D} (s : Sat c g H S) (r1 : Rep c g o d) (r2 : Rep c g x i) (r3 : Rep c g w v) (h : putAt S d i v = some S') : ∃ p xs k j, o = .ref p ∧ x = .int k ∧ H p = some (.lst xs) ∧ ixN xs.length k = some j ∧ Sat c g (upd H p (.lst (xs.set j w))) S' := by
  unfold putAt at h
  cases hl : locOf S d with
  | none => rw [hl] at h; cases h
  | some p =>
    obtain ⟨n, xs⟩ := p
    rw [hl] at h
    cases i with
    | int i =>
      cases r2
      obtain ⟨j, h1, h2⟩ := Option.map_eq_some_iff.mp (show (ixN xs.length i).map _ = some S' from h)
      subst h2
      obtain ⟨a, us, rfl, k1, k2, k3, k4, k5⟩ := loc_at s r1 hl
      exact ⟨a, us, i, j, rfl, rfl, k3, by rw [k4.len]; exact h1, s.putL (us := us) k5 k1 k2 (k4.set r3 j)⟩
    | _ => cases h
section
variable {X : Cx} {c : Cm} {W : WX} {e o i : Expr} {fe fo fi : EF} {pos spos : Pos}
theorem ds_put (he : DE X c W e fe) (ho : DE X c W o fo) (hi : DE X c W i fi) (hg : ∀ {to ti : TE}, PE X o to → PE X i ti → PG X (.Subscript o i pos) (gSub to ti rSetL))
    (hs : swapsWithSole [.Subscript o i pos] e spos.line X.env = pure false := by rfl) (hw : swappedStores [.Subscript o i pos] e X.env = pure none := by rfl) (ha : (assignEach [.Subscript o i pos] X.env).map (·.2) = [assign (.Subscript o i pos) X.env] := by rfl) :
    DS X c W (.Assign [.Subscript o i pos] e spos) (sPut fe fo fi) := by
  obtain ⟨t1, p1, q1⟩ := he
  obtain ⟨t2, p2, q2⟩ := ho
  obtain ⟨t3, p3, q3⟩ := hi
  refine ⟨_, ps_asg p1 (hg p2 p3) hs hw ha, fun E σ H g Γ S s e h => q1 σ H g Γ S _ s e (PostS.of e h fun v S1 v' H1 g1 x1 s1 r1 h1 =>
    q2 σ H1 g1 Γ S1 _ s1 (e.mono x1) (PostS.of (e.mono x1) h1 fun d S2 o' H2 g2 x2 s2 r2 h2 => q3 σ H2 g2 Γ S2 _ s2 ((e.mono x1).mono x2) (PostS.of ((e.mono x1).mono x2) h2 fun i S3 i' H3 g3 x3 s3 r3 h3 => ?_)))⟩
  cases hp : putAt S3 d i v with
  | none => simp only [hp] at h3; exact h3.elim
  | some S4 =>
    simp only [hp] at h3
    obtain ⟨p, xs, k, j, e1, e2, e3, e4, s4⟩ := putAt_ok s3 (r2.mono x3) r3 ((r1.mono x2).mono x3) hp
    exact ⟨p, xs, k, j, e1, e2, e3, e4, h3 σ _ g3 (Ext.refl g3) s4 (((e.mono x1).mono x2).mono x3)⟩
end
end DD
namespace DD
open PySem PySem.Spec PyProof.Rows L2
/-! ### except clauses, each with a name or without -/
abbrev HTS := Addr → Value → Option Addr → TS
abbrev HSpec := Value × Option Nat × HTS
def goneE (D : Ends) (i : Nat) : Ends := { nx := fun τ G => D.nx (τ.set i none) G, rt := D.rt, bk := fun τ G => D.bk (τ.set i none) G, ct := fun τ G => D.ct (τ.set i none) G }
def suiteR (D : Ends) (oi : Option Nat) (ts : HTS) (a : Addr) (cls : Value) (d : Option Addr) (σ : L2.St) (H : Hp) : Prop := match oi with
  | none => ts a cls d D σ H
  | some i => ts a cls d (goneE D i) (σ.set i (some (.ref a))) H
def wHs (K : PySem.W.Frag) (Wout : WX) (D : Ends) : List HSpec → WX
  | [] => Wout
  | (c, oi, ts) :: r => fun cls d σ H => ∃ b, PySem.W.exmOne K cls c = some b ∧ (b = true → ∀ a, H a = none → suiteR D oi ts a cls d σ H) ∧ (b = false → wHs K Wout D r cls d σ H)
inductive HOk (X : Cx) : List ExceptHandler → List HSpec → Prop
  | nil : HOk X [] []
  | bare {x : Str} {c : Value} {ts : HTS} {b₀ : Stmt} {suite : List Stmt} {np q : Pos} {hds : List ExceptHandler} {l : List HSpec} : Names X x c →
      (∀ (a : Addr) (ob : Obj) (cls : Value) (d : Option Addr) (pn : List (Addr × Obj)), Zc cls d ob → (∃ vs, ob.data = .fields vs) → PSs (X.suite a ((a, ob) :: pn)) (b₀ :: suite) (ts a cls d)) → HOk X hds l →
      HOk X (.ExceptHandler (some (.Name x np)) none (b₀ :: suite) q :: hds) ((c, none, ts) :: l)
  | named {x n : Str} {i : Nat} {c : Value} {ts : HTS} {b₀ : Stmt} {suite : List Stmt} {np q : Pos} {hds : List ExceptHandler} {l : List HSpec} : X.N[i]? = some n → X.env.kindOf n = some .local → Names X x c →
      (∀ (a : Addr) (ob : Obj) (cls : Value) (d : Option Addr) (pn : List (Addr × Obj)), Zc cls d ob → (∃ vs, ob.data = .fields vs) → PSs (X.suite a ((a, ob) :: pn)) (b₀ :: suite) (ts a cls d)) → HOk X hds l →
      HOk X (.ExceptHandler (some (.Name x np)) (some n) (b₀ :: suite) q :: hds) ((c, some i, ts) :: l)
section
variable {X : Cx} {body : List Stmt} {h₀ : ExceptHandler} {hds : List ExceptHandler} {l : List HSpec} {pos : Pos} {tb : WX → TS} {Wout : WX}
theorem ps_try_hs (est : X.stack = X.env :: X.outer) (efr : X.env.frame = some X.env.locals) (nd : X.N.Nodup) (tk : Takes X Wout)
    (hb : ∀ (W : WX) (pn : List (Addr × Obj)) (xe : Value → Shared → Prop), Takes (X.tr pn xe) W → PassesOwn (model X.prog X.w) X.A X.env xe → PSs (X.tr pn xe) body (tb W))
    (hh : HOk X (h₀ :: hds) l) : PS X (.Try body (h₀ :: hds) [] [] pos) (fun D σ H => tb (wHs X.K Wout D l) D σ H) := by
  refine ⟨fun pins s σ H D I q0 => ?_⟩
  have okX := I.ok
  have efs : X.A.frames = some (X.env :: X.outer) := okX.frames.trans (congrArg some est)
  refine wpAny_Try_except ?_
  refine wpAny_mono ((hb (wHs X.K Wout D l) (X.pn ++ pins) (fun er sa => wpAny (model X.prog X.w) X.A (noteFrame er X.env) (fun _ sb => wpAny (model X.prog X.w) X.A (setFlight er none) (fun _ sc =>
    wpAny (model X.prog X.w) X.A (handleBy er X.env (h₀ :: hds)) (SP X pins D) X.xe sc) X.xe sb) X.xe sa) (fun u s' xx => ?land) PassesOwn.looking).run [] s σ H D (I.toTry _) q0) (fun f sg q => ?tail) (fun _ _ z => z)
  case land =>
    obtain ⟨a, B, sI, pins', τ, G, cls, d, rfl, J0, nb, up0, sky0, na, eos, ag, wish⟩ := xx
    have J : Inv X pins τ G sI := J0.ofTry okX
    have sky1 : Sky B (X.env :: X.outer) a (Zc cls d) X.env.locals s'.heap := est ▸ sky0
    show wpAny (model X.prog X.w) X.A (noteFrame (.ref a) X.env) _ _ _
    refine Sky.land Zc.steady efs efr sky1 fun hp1 fl1 up1 => ?_
    have J1 : Inv X pins τ G { s' with heap := hp1 } := J.landed nb fl1.1 (up0.trans up1) eos ag
    obtain ⟨ob1, vs1, ea1, ez1, ed1⟩ := fl1.there
    have nofr : a ∉ frs (X.env :: X.outer) := fun hm => by
      obtain ⟨_, o', e', hnf⟩ := (fl1.2.2.1).mem hm
      rw [ea1] at e'; cases e'
      exact hnf _ ed1
    have nL : a ≠ X.env.locals := fun z => nofr (List.mem_filterMap.mpr ⟨X.env, List.mem_cons_self, efr.trans (congrArg some z.symm)⟩)
    have nF : a ∉ X.fs := fun hm => by
      obtain ⟨e, he, q⟩ := List.mem_filterMap.mp hm
      exact nofr (List.mem_filterMap.mpr ⟨e, List.mem_cons_of_mem _ he, q⟩)
    have T1 := J1.suite ea1 ed1 na nL nF
    -- what the clause's class is asked
    have ask : ∀ (x : Str) (np : Pos) (c : Value), Names X x c → ∀ (Q : Value → Shared → Prop) (E : Value → Shared → Prop),
        Q c { s' with heap := hp1 } → wpAny (model X.prog X.w) (X.A.mark (some (.ref a))) (eval (.Name x np) X.env) Q E { s' with heap := hp1 } := by
      intro x np c nm Q E k
      rcases nm with ⟨n1, n2, m1 | ⟨m1, m2, m3⟩⟩
      · exact ld_glob (X := X.suite a ((a, ob1) :: (X.pn ++ pins))) T1 n1 m1 k n2
      · exact ld_blt (X := X.suite a ((a, ob1) :: (X.pn ++ pins))) T1 n1 m1 m2 k m3 n2
    have ltype : PySem.W.Looks (model X.prog X.w) hp1 (typeOf (.ref a)) cls := fun A Q E s k q => wpAny_typeOf_ref (k _ _ ea1) ((congrArg (fun v => Q v s) ez1.1).mpr q)
    have go : ∀ {hs' : List ExceptHandler} {l' : List HSpec}, HOk X hs' l' → wHs X.K Wout D l' cls d τ G → wpAny (model X.prog X.w) X.A (handleBy (.ref a) X.env hs') (SP X pins D) X.xe { s' with heap := hp1 } := by
      intro hs' l' hk
      induction hk with
      | nil =>
        intro wish
        refine wpAny_handleBy_nil ?_
        obtain ⟨_, _, _, ob, vs, T, oT, ts', g1, g2, g3, g4, _⟩ := id fl1
        unfold PySem.passOn
        refine wpAny_bind (wpAny_field g1 g3 g4 ?_)
        rw [if_neg (by simp : ¬ (Value.ref T == Value.none) = true)]
        have last : wpAny (model X.prog X.w) X.A (setFlight (.ref a) X.env.frame) (fun _ sd => wpAny (model X.prog X.w) X.A (throw (.ref a) : Sem Flow) (SP X pins D) X.xe sd) X.xe { s' with heap := hp1 } := by
          rw [efr]
          exact HandSPX.setFlight_upZ fl1 fun hp2 f2 up2 => wpAny_throw (tk _ _ ⟨a, B, sI, pins, τ, G, cls, d, rfl, J, nb, (up0.trans up1).trans up2, .inr (.inr (est ▸ f2)), na, eos, ag, wish⟩)
        first
          | exact wpAny_bind (wpAny_pure (wpAny_bind last))
          | exact wpAny_bind last
      | bare nm su _ ih =>
        intro ⟨b, e1, yes, no⟩
        refine wpAny_handleBy_cons (codeAny_handlers_test ?_) (fun q => nomatch q)
        refine ask _ _ _ nm _ _ ((PySem.W.exm_one (M := model X.prog X.w) J1.kIn ltype e1).here ?_)
        cases b with
        | false =>
          show wpAny _ X.A (handleBy (.ref a) X.env _) _ _ _
          exact ih (no rfl)
        | true =>
          refine codeAny_handlers_suite (HandSPX.lands_againZ fl1 fun hp2 f2 up2 => ?_)
          have J2 : Inv X pins τ G { s' with heap := hp2 } := J.landed nb f2.1 ((up0.trans up1).trans up2) eos ag
          obtain ⟨ob2, vs2, ea2, ez2, ed2⟩ := f2.there
          have T2 := J2.suite ea2 ed2 na nL nF
          refine wpAny_mono ((su a ob2 cls d (X.pn ++ pins) ez2 ⟨_, ed2⟩).run [] _ _ G D T2 (yes rfl a na)) (fun f se q => ?_) (fun _ _ z => False.elim z)
          cases f with
          | next => obtain ⟨τ', G', U, k⟩ := q; exact ⟨τ', G', U.unsuite okX, k⟩
          | brk => obtain ⟨τ', G', U, k⟩ := q; exact ⟨τ', G', U.unsuite okX, k⟩
          | cont => obtain ⟨τ', G', U, k⟩ := q; exact ⟨τ', G', U.unsuite okX, k⟩
          | ret u => obtain ⟨v, τ', G', U, r, k⟩ := q; exact ⟨v, τ', G', U.unsuite okX, r, k⟩
      | @named x n i c ts b₀ suite np qp hds2 l2 ni nl nm su _ ih =>
        intro ⟨b, e1, yes, no⟩
        refine wpAny_handleBy_cons (codeAny_handlers_test ?_) (fun q => nomatch q)
        refine ask _ _ _ nm _ _ ((PySem.W.exm_one (M := model X.prog X.w) J1.kIn ltype e1).here ?_)
        cases b with
        | false =>
          show wpAny _ X.A (handleBy (.ref a) X.env _) _ _ _
          exact ih (no rfl)
        | true =>
          refine codeAny_handlers_suite_as (HandSPX.lands_againZ fl1 fun hp2 f2 up2 => ?_)
          have J2 : Inv X pins τ G { s' with heap := hp2 } := J.landed nb f2.1 ((up0.trans up1).trans up2) eos ag
          obtain ⟨ob2, vs2, ea2, ez2, ed2⟩ := f2.there
          have T2 := J2.suite ea2 ed2 na nL nF
          refine store_ok (X := X.suite a ((a, ob2) :: (X.pn ++ pins))) (v := .ref a) T2 nd ni (.inl nl) rfl (fun sd T3 => ?_) (.inr nl)
          refine wpAny_mono ((su a ob2 cls d (X.pn ++ pins) ez2 ⟨_, ed2⟩).run [] sd _ G (goneE D i) T3 (yes rfl a na)) (fun f se q => ?_) (fun _ _ z => False.elim z)
          have over : ∀ {τ' : L2.St} {G' : Hp} {P : Shared → Prop}, Inv (X.suite a ((a, ob2) :: (X.pn ++ pins))) [] τ' G' se → (∀ sf, Inv X pins (τ'.set i none) G' sf → P sf) →
              wpAny (model X.prog X.w) X.A (do bindName X.env n .none; unbindBehindTheSuite X.env n qp) (fun _ sf => P sf) X.xe se := fun U k => gone_ok (U.unsuite okX) nd ni nl k
          cases f with
          | next => obtain ⟨τ', G', U, k⟩ := q; exact over U fun sf V => ⟨_, _, V, k⟩
          | brk => obtain ⟨τ', G', U, k⟩ := q; exact over U fun sf V => ⟨_, _, V, k⟩
          | cont => obtain ⟨τ', G', U, k⟩ := q; exact over U fun sf V => ⟨_, _, V, k⟩
          | ret u => obtain ⟨v, τ', G', U, r, k⟩ := q; exact over U fun sf V => ⟨_, _, _, V, r, k⟩
    exact go hh wish
  case tail =>
    cases f with
    | next => obtain ⟨τ, G, V, k⟩ := q; exact wpAny_execs_nil ⟨τ, G, V.ofTry okX, k⟩
    | brk => obtain ⟨τ, G, V, k⟩ := q; exact ⟨τ, G, V.ofTry okX, k⟩
    | cont => obtain ⟨τ, G, V, k⟩ := q; exact ⟨τ, G, V.ofTry okX, k⟩
    | ret u => obtain ⟨v, τ, G, V, r, k⟩ := q; exact ⟨v, τ, G, V.ofTry okX, r, k⟩
end
end DD
namespace DD
open PySem PySem.Spec PyProof.Rows L2
/-! ### raise C(e), C with an __init__ that keeps its one argument -/
def spXI (K : PySem.W.Frag) (f : Str) : Sp := fun vs H Q _ => ∃ a C v, vs = [.ref a, v] ∧ H a = some (exo a C none) ∧ OexC K C ∧ PySem.W.findIn K (.ref C) f = some none ∧ ∀ dx, H dx = none → dx ≠ a → Q .non (upd (upd H dx (exd dx [(f, v)])) a (exo a C (some dx)))
/-- what a class of errors with one field has -/
structure XCls (P : Program) (w : World) (mg : Str → Option Value) (base : Heap) (c : Cm) (C f : Str) : Prop where
  made : ∃ fI fd ps, OexC c.K (c.cm C) ∧ PySem.W.findIn c.K (.ref (c.cm C)) "__init__" = some (some (.ref fI)) ∧ PySem.W.typeIn c.K (.ref fI) = some (.type "function") ∧ PySem.W.findIn c.K (.ref (c.cm C)) f = some none ∧
    FnOk P w c.K mg base CX0 1 fI fd ps (spXI c.K f) ∧ L2.Binds c.K fd ps []
  xf : XfC c.K (c.cm C)
  gl : mg C = some (.ref (c.cm C))
def sRaise (C f : Str) (fe : EF) : SF := fun Γ S => SRes.of (fe Γ S) Γ fun d S => .exc C [(f, d)] Γ S
section
variable {X : Cx} {c : Cm} {W : WX} {e : Expr} {fe : EF} {C f : Str} {p pos pos2 : Pos}
theorem ds_raise (hK : c.K = X.K) (T : XCls X.prog X.w X.mg X.base c C f) (hc : X.calm = true) (tk : Takes X W) (hr : Room 2 X.A) (hg : Gl X C) (ha : DE X c W e fe)
    (hdb : (C == ("__debug__" : Str)) = false := by decide) (h1 : starEach (e :: []) X.env = (false, eval e X.env) :: starEach [] X.env := by rfl) (hpl : (backTo pos (starEach [] X.env)).any (·.1) = false := by rfl) :
    DS X c W (.Raise (some (.Call (.Name C p) (e :: []) [] pos)) none pos2) (sRaise C f fe) := by
  obtain ⟨t, p1, q1⟩ := ha
  obtain ⟨fI, fd, ps, T1, T2, T3, T4, T5, T6⟩ := T.made
  rw [hK] at T1 T2 T3 T4 T5 T6
  refine ⟨_, ps_raise hc tk (pmk_oex T1 T2 T3 T5 hr T6 .nil pass0 hg T.gl (pa_cons p1 pa_nil h1) hdb h1 hpl), fun E σ H g Γ S s e h => q1 σ H g Γ S _ s e (PostS.of e h fun d S1 v H1 g1 x1 s1 r1 h1 => ⟨by show 1 ≤ 1000; decide, fun a ha => ?_⟩)⟩
  refine ⟨a, _, v, rfl, upd_same, T1, T4, fun dx hdx hne => ⟨rfl, dx, _, upd_same, by rw [upd_ne hne, upd_same], by rw [upd_ne hne] at hdx; exact hdx, ?_⟩⟩
  have hdx1 : H1 dx = none := by rw [upd_ne hne] at hdx; exact hdx
  have eH : upd (del (upd (upd (upd H1 a (exo a (c.cm C) none)) dx (exd dx [(f, v)])) a (exo a (c.cm C) (some dx))) a) dx (.xd [(f, v)]) = upd H1 dx (.xd [(f, v)]) := by
    funext b
    by_cases hb : b = dx
    · rw [hb, upd_same, upd_same]
    · rw [upd_ne hb, upd_ne hb]
      by_cases hb2 : b = a
      · rw [hb2, del_same, ha]
      · rw [del_ne hb2, upd_ne hb2, upd_ne hb, upd_ne hb2]
  rw [eH]
  obtain ⟨s2, x2⟩ := s1.new hdx1 (.xd [(f, v)])
  exact h1 (some dx) σ _ _ x2 s2 ((e.mono x1).mono x2) ⟨_, upd_same, .cons (r1.mono x2) .nil⟩
end
/-! ### try .. except C as n: return .. -/
/-- in a suite: i holds the exception at a, of the class cls, its dict d -/
def RefX (c : Cm) (oi : Option Nat) (a : Addr) (cls : Value) (d : Option Addr) (t : TE) (f : Str → List (Str × D) → EF) : Prop := ∀ σ H g Γ S Q C fs, (∀ i, oi = some i → σ[i]? = some (some (.ref a))) → cls = .ref (c.cm C) → ExcRep c g d fs → Sat c g H S → EnvOk c g σ Γ →
  PostG (rD c) c g Q (fun _ _ _ => False) (f C fs Γ S) → t σ H Q
def DX (X : Cx) (c : Cm) (oi : Option Nat) (e : Expr) (f : Str → List (Str × D) → EF) : Prop := ∀ (a : Addr) (ob : Obj) (cls : Value) (d : Option Addr) (pn : List (Addr × Obj)), Zc cls d ob → (∃ vs, ob.data = .fields vs) → ∃ t, PE (X.suite a ((a, ob) :: pn)) e t ∧ RefX c oi a cls d t f
def DXs (X : Cx) (c : Cm) (oi : Option Nat) (es : List Expr) (f : Str → List (Str × D) → AF) : Prop := ∀ (a : Addr) (ob : Obj) (cls : Value) (d : Option Addr) (pn : List (Addr × Obj)), Zc cls d ob → (∃ vs, ob.data = .fields vs) → ∃ t, PA (X.suite a ((a, ob) :: pn)) es t ∧
  ∀ σ H g Γ S Q C fs, (∀ i, oi = some i → σ[i]? = some (some (.ref a))) → cls = .ref (c.cm C) → ExcRep c g d fs → Sat c g H S → EnvOk c g σ Γ → PostG (rDs c) c g Q (fun _ _ _ => False) (f C fs Γ S) → t σ H Q
def xC (f : EF) : Str → List (Str × D) → EF := fun _ _ => f
def xFld (C0 f : Str) : Str → List (Str × D) → EF := fun C fs _ S => if C = C0 then match fs.lookup f with
  | some d => .ok d S
  | none => .stk
  else .stk
def xNil : Str → List (Str × D) → AF := fun _ _ => cNil
def xCons (f : Str → List (Str × D) → EF) (r : Str → List (Str × D) → AF) : Str → List (Str × D) → AF := fun C fs => cCons (f C fs) (r C fs)
def xTup (r : Str → List (Str × D) → AF) : Str → List (Str × D) → EF := fun C fs => cTup (r C fs)
def xLst (r : Str → List (Str × D) → AF) : Str → List (Str × D) → EF := fun C fs => cLst (r C fs)
theorem ExcRep.mono {c : Cm} {g g' : Gh} {d : Option Addr} {fs : List (Str × D)} (x : Ext g g') (h : ExcRep c g d fs) : ExcRep c g' d fs := by
  cases d with
  | none => exact h
  | some a => obtain ⟨us, h1, h2⟩ := h; exact ⟨us, x.R _ _ h1, h2.mono x⟩
section
variable {X : Cx} {c : Cm} {oi : Option Nat} {e : Expr} {es : List Expr} {f : Str → List (Str × D) → EF} {r : Str → List (Str × D) → AF} {pos : Pos}
theorem dx_of (h : ∀ (a : Addr) (ob : Obj) (pn : List (Addr × Obj)), DE (X.suite a ((a, ob) :: pn)) c W0 e fe) : DX X c oi e (xC fe) := fun a ob cls d pn _ _ => by
  obtain ⟨t, p, q⟩ := h a ob pn
  exact ⟨t, p, fun σ H g Γ S Q C fs _ _ _ s e k => q σ H g Γ S Q s e (k.imp fun C' fs' S' er => by rw [show xC fe C fs Γ S = _ from er] at k; exact fun d H' g' x s z => (k d H' g' x s z).elim)⟩
theorem dx_fld {i : Nat} {C0 n : Str} (hi : oi = some i) (hK : c.K = X.K) (T : XfC c.K (c.cm C0)) (hno : PySem.W.findIn c.K (.ref (c.cm C0)) n = some none) (he : ∀ (a : Addr) (ob : Obj) (pn : List (Addr × Obj)), PE (X.suite a ((a, ob) :: pn)) e (tVar i)) (hb : attributeBase e n X.env (eval e X.env) = eval e X.env := by rfl) :
    DX X c oi (.Attribute e n pos) (xFld C0 n) := fun a ob cls d pn hz hf => by
  rw [hK] at T hno
  refine ⟨_, pe_xf T hno hz hf (he a ob pn) hb, fun σ H g Γ S Q C fs hσ hcls hx s e k => ?_⟩
  unfold xFld at k
  by_cases hC : C = C0
  · rw [if_pos hC] at k
    subst hC
    cases hl : fs.lookup n with
    | none => simp only [hl] at k; exact k.elim
    | some v =>
      simp only [hl] at k
      cases d with
      | none => rw [show fs = [] from hx] at hl; cases hl
      | some dd =>
        obtain ⟨us, h1, h2⟩ := hx
        obtain ⟨u, e1, e2⟩ := h2.get hl
        exact ⟨_, hσ i hi, rfl, hcls, dd, us, u, rfl, s.sub _ _ h1, e1, k u H g (Ext.refl g) s e2⟩
  · rw [if_neg hC] at k; exact k.elim
theorem dxs_nil : DXs X c oi [] xNil := fun a ob cls d pn _ _ => ⟨_, pa_nil, fun σ H g Γ S Q C fs _ _ _ s e h => h [] H g (Ext.refl g) s .nil⟩
theorem dxs_cons (h1 : DX X c oi e f) (h2 : DXs X c oi es r) (hs : starEach (e :: es) X.env = (false, eval e X.env) :: starEach es X.env := by rfl) : DXs X c oi (e :: es) (xCons f r) := fun a ob cls d pn z w => by
  obtain ⟨t, p1, q1⟩ := h1 a ob cls d pn z w
  obtain ⟨u, p2, q2⟩ := h2 a ob cls d pn z w
  refine ⟨_, pa_cons p1 p2 hs, fun σ H g Γ S Q C fs hσ hc hx s e h => q1 σ H g Γ S _ C fs hσ hc hx s e (PostG.bind h fun v S1 v' H1 g1 x1 s1 r1 h1 => q2 σ H1 g1 Γ S1 _ C fs hσ hc (hx.mono x1) s1 (e.mono x1) (PostG.bind h1 fun ds S2 us H2 g2 x2 s2 r2 h2 =>
    h2 (v' :: us) H2 g2 (Ext.refl g2) s2 (.cons (r1.mono x2) r2)))⟩
theorem dx_tup {x1} (h : DXs X c oi es r) : DX X c oi (.Tuple es x1 pos) (xTup r) := fun a ob cls d pn z w => by
  obtain ⟨t, p1, q1⟩ := h a ob cls d pn z w
  refine ⟨_, pe_tup p1, fun σ H g Γ S Q C fs hσ hc hx s e h => q1 σ H g Γ S _ C fs hσ hc hx s e (PostG.bind h fun ds S1 us H1 g1 x1 s1 r1 h1 => ?_)⟩
  cases hl : lim ds.length with
  | false => rw [hl, if_neg Bool.false_ne_true] at h1; exact h1.elim
  | true =>
    rw [hl, if_pos rfl] at h1
    refine ⟨by rw [r1.len]; exact lim_le hl, fun p hp => ?_⟩
    obtain ⟨s2, x2⟩ := s1.new hp (.tup us)
    exact h1 _ _ _ x2 s2 (.tup (SqT.of upd_same) (r1.mono x2))
theorem dx_lst (h : DXs X c oi es r) : DX X c oi (.List es pos) (xLst r) := fun a ob cls d pn z w => by
  obtain ⟨t, p1, q1⟩ := h a ob cls d pn z w
  refine ⟨_, pe_lst p1, fun σ H g Γ S Q C fs hσ hc hx s e h => q1 σ H g Γ S _ C fs hσ hc hx s e (PostG.bind h fun ds S1 us H1 g1 x1 s1 r1 h1 => ?_)⟩
  cases hl : lim ds.length with
  | false => rw [hl, if_neg Bool.false_ne_true] at h1; exact h1.elim
  | true =>
    rw [hl, if_pos rfl] at h1
    refine ⟨by rw [r1.len]; exact lim_le hl, fun p hp => ?_⟩
    obtain ⟨s2, x2⟩ := s1.new hp (.lst us)
    exact h1 _ _ _ x2 s2 (.lst upd_same (r1.mono x2))
end
/-- a clause: its class, its slot, what it returns -/
structure Hnd where
  C : Str
  oi : Option Nat
  f : Str → List (Str × D) → EF
def subE (C C0 : Str) : Bool := decide (C = C0) || decide (C0 = "TailError")
def unset (oi : Option Nat) (Γ : Env) : Env := match oi with
  | none => Γ
  | some i => Γ.set i none
def okSlot (oi : Option Nat) (Γ : Env) : Bool := match oi with
  | none => true
  | some i => decide (i < Γ.length)
def sHs (ns : List Str) : List Hnd → Str → List (Str × D) → SF
  | [], C, fs, Γ, S => .exc C fs Γ S
  | h :: r, C, fs, Γ, S => if (decide (C ∈ ns) && okSlot h.oi Γ) = true then (if subE C h.C = true then SRes.of (h.f C fs (unset h.oi Γ) S).noexc Γ fun d S => .rt d S else sHs ns r C fs Γ S) else .stk
def sTry (ns : List Str) (body : SF) (hs : List Hnd) : SF := fun Γ S => match body Γ S with
  | .exc C fs Γ' S' => sHs ns hs C fs Γ' S'
  | r => r
/-- which errors are of which class -/
def ExF (c : Cm) (ns : List Str) : Prop := ∀ C ∈ ns, ∀ C0 ∈ ns, PySem.W.exmOne c.K (.ref (c.cm C)) (.ref (c.cm C0)) = some (subE C C0)
inductive DHs (X : Cx) (c : Cm) (ns : List Str) : List ExceptHandler → List Hnd → Prop
  | nil : DHs X c ns [] []
  | bare {x : Str} {e : Expr} {np q rp : Pos} {hds : List ExceptHandler} {l : List Hnd} {f : Str → List (Str × D) → EF} : x ∈ ns → Names X x (.ref (c.cm x)) → DX X c none e f → DHs X c ns hds l →
      DHs X c ns (.ExceptHandler (some (.Name x np)) none [.Return (some e) rp] q :: hds) (⟨x, none, f⟩ :: l)
  | named {x n : Str} {i : Nat} {e : Expr} {np q rp : Pos} {hds : List ExceptHandler} {l : List Hnd} {f : Str → List (Str × D) → EF} : x ∈ ns → X.N[i]? = some n → X.env.kindOf n = some .local → Names X x (.ref (c.cm x)) → DX X c (some i) e f → DHs X c ns hds l →
      DHs X c ns (.ExceptHandler (some (.Name x np)) (some n) [.Return (some e) rp] q :: hds) (⟨x, some i, f⟩ :: l)
section
variable {X : Cx} {c : Cm} {W : WX} {body : List Stmt} {h₀ : ExceptHandler} {hds : List ExceptHandler} {l : List Hnd} {pos : Pos} {fb : SF} {ns : List Str}
theorem EnvOk.unset {g : Gh} {σ : L2.St} {Γ : Env} (e : EnvOk c g σ Γ) (i : Nat) (x : Option V) : EnvOk c g (σ.set i x) (Γ.set i none) := by
  refine ⟨by rw [List.length_set, List.length_set, e.len], fun j d h => ?_⟩
  by_cases hj : i = j
  · subst hj
    by_cases hi : i < Γ.length
    · rw [List.getElem?_set_self hi] at h; cases h
    · rw [List.getElem?_eq_none (by rw [List.length_set]; omega)] at h; cases h
  · rw [List.getElem?_set_ne hj] at h ⊢
    exact e.slot j d h
/-- the clauses' readings -/
theorem hs_read (hK : c.K = X.K) (ex : ExF c ns) {Wout : WX} (h : DHs X c ns hds l) : ∃ l' : List HSpec, HOk X hds l' ∧ ∀ D σ H g Γ S C fs d, Sat c g H S → EnvOk c g σ Γ → ExcRep c g d fs → PostS c g D Wout (sHs ns l C fs Γ S) → wHs X.K Wout D l' (.ref (c.cm C)) d σ H := by
  induction h with
  | nil => exact ⟨[], .nil, fun D σ H g Γ S C fs d s e z k => k d σ H g (Ext.refl g) s e z⟩
  | @bare x e np q rp hds l f hx nm dx _ ih =>
    obtain ⟨l', ok, rd⟩ := ih
    refine ⟨(.ref (c.cm x), none, fun a cls d => tRet (fun σ H Q => ∀ (ob : Obj) (pn : List (Addr × Obj)) (h1 : Zc cls d ob) (h2 : ∃ vs, ob.data = .fields vs), Classical.choose (dx a ob cls d pn h1 h2) σ H Q)) :: l', .bare nm (fun a ob cls d pn h1 h2 => pss_one (ps_ret ⟨fun pins s σ H Q I k =>
      (Classical.choose_spec (dx a ob cls d pn h1 h2)).1.run pins s σ H Q I (k ob pn h1 h2)⟩)) ok, fun D σ H g Γ S C fs d s e z k => ?_⟩
    have k : PostS c g D Wout (if (decide (C ∈ ns) && okSlot none Γ) = true then (if subE C x = true then SRes.of (f C fs Γ S).noexc Γ fun d S => .rt d S else sHs ns l C fs Γ S) else .stk) := k
    by_cases hb : (decide (C ∈ ns) && okSlot none Γ) = true
    · rw [if_pos hb] at k
      have hC : C ∈ ns := of_decide_eq_true (Bool.and_eq_true_iff.mp hb).1
      refine ⟨subE C x, by rw [← hK]; exact ex C hC x hx, fun hs a ha => ?_, fun hs => ?_⟩
      · rw [if_pos hs] at k
        show ∀ (ob : Obj) (pn : List (Addr × Obj)) (h1 : Zc (.ref (c.cm C)) d ob) (h2 : ∃ vs, ob.data = .fields vs), Classical.choose (dx a ob (.ref (c.cm C)) d pn h1 h2) σ H D.rt
        intro ob pn h1 h2
        refine (Classical.choose_spec (dx a ob (.ref (c.cm C)) d pn h1 h2)).2 σ H g Γ S _ C fs (fun i h => nomatch h) rfl z s e ?_
        cases hr : f C fs Γ S with
        | stk => rw [hr] at k; exact k
        | exc C' fs' S' => rw [hr] at k; exact k.elim
        | ok v S' => rw [hr] at k; exact fun v H' g' x s r => k v H' g' x s r
      · rw [if_neg (by rw [hs]; exact Bool.false_ne_true)] at k
        exact rd D σ H g Γ S C fs d s e z k
    · rw [if_neg hb] at k; exact k.elim
  | @named x n i e np q rp hds l f hx ni nl nm dx _ ih =>
    obtain ⟨l', ok, rd⟩ := ih
    refine ⟨(.ref (c.cm x), some i, fun a cls d => tRet (fun σ H Q => ∀ (ob : Obj) (pn : List (Addr × Obj)) (h1 : Zc cls d ob) (h2 : ∃ vs, ob.data = .fields vs), Classical.choose (dx a ob cls d pn h1 h2) σ H Q)) :: l', .named ni nl nm (fun a ob cls d pn h1 h2 => pss_one (ps_ret ⟨fun pins s σ H Q I k =>
      (Classical.choose_spec (dx a ob cls d pn h1 h2)).1.run pins s σ H Q I (k ob pn h1 h2)⟩)) ok, fun D σ H g Γ S C fs d s e z k => ?_⟩
    have k : PostS c g D Wout (if (decide (C ∈ ns) && okSlot (some i) Γ) = true then (if subE C x = true then SRes.of (f C fs (Γ.set i none) S).noexc Γ fun d S => .rt d S else sHs ns l C fs Γ S) else .stk) := k
    by_cases hb : (decide (C ∈ ns) && okSlot (some i) Γ) = true
    · rw [if_pos hb] at k
      obtain ⟨hC, hi⟩ := Bool.and_eq_true_iff.mp hb
      have hC : C ∈ ns := of_decide_eq_true hC
      have hi : i < Γ.length := of_decide_eq_true hi
      refine ⟨subE C x, by rw [← hK]; exact ex C hC x hx, fun hs a ha => ?_, fun hs => ?_⟩
      · rw [if_pos hs] at k
        show ∀ (ob : Obj) (pn : List (Addr × Obj)) (h1 : Zc (.ref (c.cm C)) d ob) (h2 : ∃ vs, ob.data = .fields vs), Classical.choose (dx a ob (.ref (c.cm C)) d pn h1 h2) (σ.set i (some (.ref a))) H D.rt
        intro ob pn h1 h2
        refine (Classical.choose_spec (dx a ob (.ref (c.cm C)) d pn h1 h2)).2 _ H g (Γ.set i none) S _ C fs (fun j h => ?_) rfl z s (e.unset i _) ?_
        · obtain rfl := Option.some.inj h
          rw [List.getElem?_set_self (by rw [e.len]; exact hi)]
        cases hr : f C fs (Γ.set i none) S with
        | stk => rw [hr] at k; exact k
        | exc C' fs' S' => rw [hr] at k; exact k.elim
        | ok v S' => rw [hr] at k; exact fun v H' g' x s r => k v H' g' x s r
      · rw [if_neg (by rw [hs]; exact Bool.false_ne_true)] at k
        exact rd D σ H g Γ S C fs d s e z k
    · rw [if_neg hb] at k; exact k.elim
theorem ds_try (hK : c.K = X.K) (ex : ExF c ns) (est : X.stack = X.env :: X.outer) (efr : X.env.frame = some X.env.locals) (nd : X.N.Nodup) (tk : Takes X W)
    (hb : ∀ (W' : WX) (pn : List (Addr × Obj)) (xe : Value → Shared → Prop), Takes (X.tr pn xe) W' → PassesOwn (model X.prog X.w) X.A X.env xe → DSs (X.tr pn xe) c W' body fb) (hh : DHs X c ns (h₀ :: hds) l) : DS X c W (.Try body (h₀ :: hds) [] [] pos) (sTry ns fb l) := by
  obtain ⟨l', ok, rd⟩ := hs_read hK ex (Wout := W) hh
  refine ⟨_, ps_try_hs est efr nd tk (tb := fun W' => fun D σ H => ∀ pn xe (h1 : Takes (X.tr pn xe) W') (h2 : PassesOwn (model X.prog X.w) X.A X.env xe), Classical.choose (hb W' pn xe h1 h2) D σ H) (fun W' pn xe h1 h2 => ⟨fun pins s σ H D I k => (Classical.choose_spec (hb W' pn xe h1 h2)).1.run pins s σ H D I (k pn xe h1 h2)⟩) ok,
    fun E σ H g Γ S s e h => fun pn xe h1 h2 => ?_⟩
  refine (Classical.choose_spec (hb _ pn xe h1 h2)).2 E σ H g Γ S s e ?_
  have h : PostS c g E W (match fb Γ S with | .exc C fs Γ' S' => sHs ns l C fs Γ' S' | r => r) := h
  cases hr : fb Γ S with
  | exc C fs Γ' S' =>
    rw [hr] at h
    exact fun d σ' H' g' x s' e' z => rd E σ' H' g' Γ' S' C fs d s' e' z (PostS.mono x h)
  | nx Γ' S' => rw [hr] at h; exact h
  | rt d S' => rw [hr] at h; exact h
  | bk Γ' S' => rw [hr] at h; exact h
  | ct Γ' S' => rw [hr] at h; exact h
  | stk => rw [hr] at h; exact h
end
end DD
namespace DD
open PySem PySem.Spec PyProof.Rows L2
/-! ### calls: by position, by name; of defs, classes, methods -/
/-- how the positional values and those by name come to the parameters: one behind the other -/
def BindK (K : PySem.W.Frag) (fd : FuncData) (ps : List Str) (n : Nat) (ks : List Str) : Prop := ∀ (s : Shared) (us ws : List Value), K.In s.heap → us.length = n → ws.length = ks.length → BindsTo s fd ⟨us, ks.zip ws⟩ (ps.zip (us ++ ws))
section
variable {X : Cx} {CX : CXT} {k n : Nat} {f C : Addr} {fd : FuncData} {ps ks : List Str} {sp : Sp} {E : XK}
theorem run_at {pins : List (Addr × Obj)} {σ : L2.St} {H : Hp} {s : Shared} {Q : VK} {us us' : List Value} {kw : List (Str × Value)} {vs : List V} (F : FnOk X.prog X.w X.K X.mg X.base CX k f fd ps sp) (hr : Room k X.A) (hx : PassesAt CX X σ E) (I : Inv X pins σ H s)
    (hb : BindsTo s fd ⟨us, kw⟩ (ps.zip us')) (r : Vals vs us') (q : sp vs H Q E) : wpAny (model X.prog X.w) X.A (call (.ref f) us kw) (EP X pins σ Q) X.xe s := by
  refine wpAny_call (codeAny_mono (F.run X.A X.stack s H ⟨us, kw⟩ us' vs Q E hr I.env0 hb r q) fun res s' back => ?_)
  match res, back with
  | .error er, back => exact hx pins H s er s' I back
  | .ok (.ret u), back => exact I.after back
  | .ok .next, back => exact False.elim back
  | .ok .brk, back => exact False.elim back
  | .ok .cont, back => exact False.elim back
theorem make_at {pins : List (Addr × Obj)} {σ : L2.St} {H : Hp} {s : Shared} {Q : VK} {us ws : List Value} {kw : List (Str × Value)} {vs : List V} (M : Mk X.K C f) (F : FnOk X.prog X.w X.K X.mg X.base CX k f fd ps sp) (hr : Room (k + 1) X.A) (hx : PassesAt CX X σ E) (I : Inv X pins σ H s)
    (hb : ∀ (a : Value) (s' : Shared), X.K.In s'.heap → BindsTo s' fd ⟨a :: us, kw⟩ (ps.zip (a :: ws))) (r : Vals vs ws)
    (q : ∀ x dx, H x = none → H dx = none → dx ≠ x → sp (.ref x :: vs) (upd (upd H dx (.own x)) x (.ins C dx [])) (fun v H2 => v = .non ∧ Q (.ref x) H2) E) :
    wpAny (model X.prog X.w) X.A (call (.ref C) us kw) (EP X pins σ Q) X.xe s := by
  have q0 := q (s.heap.objs.size + 1) s.heap.objs.size (I.hok.fresh (Nat.le_succ _)) (I.hok.fresh (Nat.le_refl _)) (Nat.ne_of_lt (Nat.lt_succ_self _))
  have I2 := Inv.made (C := C) I
  have r2 : Vals (V.ref (s.heap.objs.size + 1) :: vs) (Value.ref (s.heap.objs.size + 1) :: ws) := .cons rfl r
  refine wpAny_call (make_map (f := f) I.kIn M.makes M.init (beq_iff_eq.mp M.fn) (codeAny_mono (F.run _ X.stack _ _ ⟨Value.ref (s.heap.objs.size + 1) :: us, kw⟩ (Value.ref (s.heap.objs.size + 1) :: ws) _ _ E (hr.make C us kw) (I2.env0.make C us kw) (hb _ _ I2.kIn) r2 q0) fun res s' back => ?_))
  match res, back with
  | .error er, back => exact hx pins _ _ er s' I2 back
  | .ok (.ret u), back =>
    obtain ⟨v, H', I3, rv, ev, q3⟩ := I2.after back
    subst ev
    exact ⟨rv, ⟨V.ref (s.heap.objs.size + 1), H', I3, rfl, q3⟩⟩
  | .ok .next, back => exact False.elim back
  | .ok .brk, back => exact False.elim back
  | .ok .cont, back => exact False.elim back
end
/-- the values by name -/
def DK (X : Cx) (c : Cm) (W : WX) (kws : List Keyword) (f : AF) : Prop := ∃ t, PK X kws t ∧ RefG (rDs c) c W t f
def cArgs (r rk : AF) : AF := fun Γ S => (r Γ S).bind fun ds S => (rk Γ S).bind fun es S => .ok (ds ++ es) S
def tArgs (t tk : TA) : TA := fun σ H Q => t σ H fun vs H1 => tk σ H1 fun zs H2 => Q (vs ++ zs) H2
section
variable {X : Cx} {c : Cm} {W : WX} {k n m : Nat} {f C : Addr} {fd : FuncData} {ps ks : List Str} {F : DF} {x : Str} {p pos apos kpos : Pos} {e o : Expr} {es : List Expr} {kws : List Keyword} {r rk : AF} {fo fe : EF} {nm : Option Str} {t tk : TA} {to : TE}
theorem dk_nil : DK X c W [] cNil := ⟨_, pk_nil, fun σ H g Γ S Q s e h => h [] H g (Ext.refl g) s .nil⟩
theorem dk_cons (ha : DE X c W e fe) (hr : DK X c W kws rk) : DK X c W (⟨nm, e, kpos⟩ :: kws) (cCons fe rk) :=
  let ⟨_, p1, r1⟩ := ha; let ⟨_, p2, r2⟩ := hr; ⟨_, pk_cons p1 p2, fun σ H g Γ S Q s e h => r1 σ H g Γ S _ s e (h.bind fun a S1 v H1 g1 x1 s1 q1 h1 => r2 σ H1 g1 Γ S1 _ s1 (e.mono x1) (h1.bind fun ds S2 us H2 g2 x2 s2 q2 h2 =>
    h2 (v :: us) H2 g2 (Ext.refl g2) s2 (.cons (q1.mono x2) q2)))⟩
theorem ref_args (h1 : RefG (rDs c) c W t r) (h2 : RefG (rDs c) c W tk rk) : RefG (rDs c) c W (tArgs t tk) (cArgs r rk) := fun σ H g Γ S Q s e h =>
  h1 σ H g Γ S _ s e (PostG.bind h fun ds S1 vs H1 g1 x1 s1 r1 h1 => h2 σ H1 g1 Γ S1 _ s1 (e.mono x1) (PostG.bind h1 fun es S2 zs H2 g2 x2 s2 r2 h2 => h2 _ H2 g2 (Ext.refl g2) s2 ((r1.mono x2).app r2)))
/-- a call's reading: the arguments, then the promise -/
def tCl (sp : Sp) (W : WX) (t : TA) : TE := fun σ H Q => t σ H fun vs H1 => sp vs H1 Q (L2.WE W σ)
theorem ref_cl (hn : LenA r ps.length) (h : RefG (rDs c) c W t r) : RefG (rD c) c W (tCl (spD c ps.length F) W t) (cCall F r) := fun σ H g Γ S Q s e q => by
  have q : PostG (rD c) c g Q (fun cl d H => W cl d σ H) ((r Γ S).bind F) := q
  refine h σ H g Γ S _ s e ?_
  cases hr : r Γ S with
  | stk => rw [hr] at q; exact q
  | exc C fs S1 => rw [hr] at q; exact q
  | ok ds S1 =>
    rw [hr] at q
    exact fun vs H1 g1 x1 s1 r1 => ⟨g1, S1, ds, by rw [r1.len]; exact hn hr, s1, r1, PostG.mono x1 q⟩
theorem len_args {a b : Nat} (h1 : LenA r a) (h2 : LenA rk b) : LenA (cArgs r rk) (a + b) := fun {Γ S ds S1} q => by
  have q : ((r Γ S).bind fun ds S => (rk Γ S).bind fun es S => .ok (ds ++ es) S) = Res.ok ds S1 := q
  cases hr : r Γ S with
  | stk => rw [hr] at q; cases q
  | exc C fs S1 => rw [hr] at q; cases q
  | ok d S2 =>
    rw [hr] at q
    have q : ((rk Γ S2).bind fun es S => .ok (d ++ es) S) = Res.ok ds S1 := q
    cases hk : rk Γ S2 with
    | stk => rw [hk] at q; cases q
    | exc C fs S1 => rw [hk] at q; cases q
    | ok d' S3 =>
      rw [hk] at q
      cases q
      rw [List.length_append, h1 hr, h2 hk]
theorem PostG.bindE {α β γ δ : Type} {rel : Rl α β} {rel' : Rl γ δ} {g : Gh} {Q : δ → Hp → Prop} {Q1 : β → Hp → Prop} {Y : XK} {r : Res α} {k : α → Sto → Res γ} (h : PostG rel' c g Q Y (r.bind k))
    (q : ∀ a S1 v H1 g1, r = .ok a S1 → Ext g g1 → Sat c g1 H1 S1 → rel g1 v a → PostG rel' c g1 Q Y (k a S1) → Q1 v H1) : PostG rel c g Q1 Y r := by
  cases r with
  | ok a S => exact fun v H' g1 x1 s r => q a S v H' g1 rfl x1 s r (PostG.mono x1 h)
  | exc C fs S => exact h
  | stk => exact h
/-- positional values and those by name, then the promise -/
def tClK (sp : Sp) (W : WX) (n m : Nat) (t tk : TA) : TE := fun σ H Q => t σ H fun vs H1 => tk σ H1 fun zs H2 => vs.length = n ∧ zs.length = m ∧ sp (vs ++ zs) H2 Q (L2.WE W σ)
theorem ref_clK (hps : ps.length = n + m) (hn : LenA r n) (hm : LenA rk m) (h1 : RefG (rDs c) c W t r) (h2 : RefG (rDs c) c W tk rk) : RefG (rD c) c W (tClK (spD c ps.length F) W n m t tk) (cCall F (cArgs r rk)) := fun σ H g Γ S Q s e q => by
  have q : PostG (rD c) c g Q (fun cl d H => W cl d σ H) (((r Γ S).bind fun ds S => (rk Γ S).bind fun es S => .ok (ds ++ es) S).bind F) := q
  rw [bind_assoc] at q
  refine h1 σ H g Γ S _ s e (PostG.bindE q fun ds S1 vs H1 g1 er x1 s1 r1 q1 => ?_)
  have q1 : PostG (rD c) c g1 Q (fun cl d H => W cl d σ H) (((rk Γ S1).bind fun es S => .ok (ds ++ es) S).bind F) := q1
  rw [bind_assoc] at q1
  refine h2 σ H1 g1 Γ S1 _ s1 (e.mono x1) (PostG.bindE q1 fun es S2 zs H2 g2 ek x2 s2 r2 q2 => ?_)
  have l1 := hn er
  have l2 := hm ek
  exact ⟨by rw [r1.len]; exact l1, by rw [r2.len]; exact l2, g2, S2, ds ++ es, by rw [List.length_append, r1.len, r2.len, l1, l2, hps], s2, (r1.mono x2).app r2, q2⟩
/-- f(.., k = ..) -/
theorem de_callK (hK : c.K = X.K) (tkk : Takes X W) (D : DOk X.prog X.w X.mg X.base c k f fd ps F) (hr : Room k X.A) (hg : Gl X x) (hm : X.mg x = some (.ref f)) (hk : PySem.W.keepIn c.K (.ref f) = true) (hb : BindK c.K fd ps n ks) (ha : DA X c W (e :: es) r) (hn : LenA r n) (hkw : DK X c W kws rk) (hm2 : LenA rk ks.length) (hps : ps.length = n + ks.length)
    (hall : (backToKw pos (keywordEach kws X.env)).all (·.1.isSome) = true := by rfl) (hks : (backToKw pos (keywordEach kws X.env)).filterMap (·.1) = ks := by rfl) (hdb : (x == ("__debug__" : Str)) = false := by decide) (he : starEach (e :: es) X.env = (false, eval e X.env) :: starEach es X.env := by rfl)
    (hpl : ((backTo pos (starEach (e :: es) X.env)).any (·.1) || (backToKw pos (keywordEach kws X.env)).any (·.1.isNone)) = false := by rfl) :
    DE X c W (.Call (.Name x p) (e :: es) kws pos) (cCall F (cArgs r rk)) := by
  obtain ⟨t1, p1, q1⟩ := ha
  obtain ⟨t2, p2, q2⟩ := hkw
  unfold DOk at D
  rw [hK] at D hk hb
  refine ⟨_, ⟨fun pins s σ H Q I h => ?_⟩, ref_clK hps hn hm2 q1 q2⟩
  refine wpAny_Call_Name_kw (ld_glob I hg hm ?_ hdb)
  refine PySem.W.callWith_KW (h₀ := X.base) I.ok.mod.kin hk hall (thn (p1.run pos pins s σ H _ I h) fun us s1 ⟨vs, H1, I1, rv, h1⟩ => ?_) hpl he
  refine thn (p2.run pos pins s1 σ H1 _ I1 h1) fun ws s2 ⟨zs, H2, I2, rz, l1, l2, h2⟩ => ⟨I2.kIn, ?_⟩
  rw [hks]
  exact run_at D hr (passAt tkk σ) I2 (hb s2 us ws I2.kIn (by rw [← rv.length]; exact l1) (by rw [← rz.length]; exact l2)) (rv.append rz) h2
/-- f(k = ..) -/
theorem de_callK0 (hK : c.K = X.K) (tkk : Takes X W) (D : DOk X.prog X.w X.mg X.base c k f fd ps F) (hr : Room k X.A) (hg : Gl X x) (hm : X.mg x = some (.ref f)) (hk : PySem.W.keepIn c.K (.ref f) = true) (hb : BindK c.K fd ps 0 ks) (hkw : DK X c W kws rk) (hm2 : LenA rk ks.length) (hps : ps.length = 0 + ks.length)
    (hall : (backToKw pos (keywordEach kws X.env)).all (·.1.isSome) = true := by rfl) (hks : (backToKw pos (keywordEach kws X.env)).filterMap (·.1) = ks := by rfl) (hdb : (x == ("__debug__" : Str)) = false := by decide)
    (hpl : ((backTo pos (starEach [] X.env)).any (·.1) || (backToKw pos (keywordEach kws X.env)).any (·.1.isNone)) = false := by rfl) : DE X c W (.Call (.Name x p) [] kws pos) (cCall F (cArgs cNil rk)) := by
  obtain ⟨t2, p2, q2⟩ := hkw
  unfold DOk at D
  rw [hK] at D hk hb
  refine ⟨_, ⟨fun pins s σ H Q I h => ?_⟩, ref_clK hps len_nil hm2 (t := tNil) (fun σ H g Γ S Q s e h => h [] H g (Ext.refl g) s .nil) q2⟩
  refine wpAny_Call_Name_kw (ld_glob I hg hm ?_ hdb)
  refine PySem.W.callWith_KW0 (h₀ := X.base) I.ok.mod.kin hk hall (thn (p2.run pos pins s σ H _ I h) fun ws s2 ⟨zs, H2, I2, rz, _, l2, h2⟩ => ?_) hpl
  rw [hks]
  exact ⟨I2.kIn, run_at (us' := ws) D hr (passAt tkk σ) I2 (hb s2 [] ws I2.kIn rfl (by rw [← rz.length]; exact l2)) rz h2⟩
/-- f() -/
theorem de_call0 (hK : c.K = X.K) (tkk : Takes X W) (D : DOk X.prog X.w X.mg X.base c k f fd ps F) (hr : Room k X.A) (hg : Gl X x) (hm : X.mg x = some (.ref f)) (hk : PySem.W.keepIn c.K (.ref f) = true) (hb : L2.Binds c.K fd ps []) (hps : ps.length = 0) (hdb : (x == ("__debug__" : Str)) = false := by decide) : DE X c W (.Call (.Name x p) [] [] pos) (cCall F cNil) := by
  unfold DOk at D
  rw [hK] at D hk hb
  refine ⟨_, ⟨fun pins s σ H Q I h => ?_⟩, ref_cl (ps := ps) (F := F) (t := tNil) (by rw [hps]; exact len_nil) (fun σ H g Γ S Q s e h => h [] H g (Ext.refl g) s .nil)⟩
  refine wpAny_Call_Name_kw (ld_glob I hg hm ?_ hdb)
  refine PySem.W.callWith_K0 I.kIn hk (run_at (us' := []) D hr (passAt tkk σ) I ?_ .nil h)
  have b := hb s [] I.kIn (by simp [hps])
  simpa using b
/-! methods -/
def isIns (C : Str) (S : Sto) (m : Str) : D → Bool
  | .ins C' fs => decide (C' = C) && (fs.lookup m).isNone
  | .loc n => match S[n]? with
    | some (.ins C' fs) => decide (C' = C) && (fs.lookup m).isNone
    | _ => false
  | _ => false
theorem ins_at {g : Gh} {H : Hp} {S : Sto} (s : Sat c g H S) {v : V} {d : D} (r : Rep c g v d) {C m : Str} (h : isIns C S m d = true) : ∃ a dx us, v = .ref a ∧ H a = some (.ins (c.cm C) dx us) ∧ us.lookup m = none := by
  cases d with
  | ins C' fs =>
    obtain ⟨h1, h2⟩ := Bool.and_eq_true_iff.mp h
    have h1 := of_decide_eq_true h1
    subst h1
    cases r with
    | ins hq r => exact ⟨_, _, _, rfl, s.sub _ _ hq, r.none (by simpa using h2)⟩
  | loc n =>
    cases r with
    | loc hn =>
      have h : (match S[n]? with | some (.ins C' fs) => decide (C' = C) && (fs.lookup m).isNone | _ => false) = true := h
      cases hc : S[n]? with
      | none => rw [hc] at h; cases h
      | some k =>
        rw [hc] at h
        cases k with
        | ins C' fs =>
          obtain ⟨h1, h2⟩ := Bool.and_eq_true_iff.mp h
          have h1 := of_decide_eq_true h1
          subst h1
          obtain ⟨a, dx, us, e1, _, e3, e4⟩ := s.cell n _ hc
          rw [hn] at e1
          obtain rfl := Option.some.inj e1
          exact ⟨_, dx, us, rfl, e3, e4.none (by simpa using h2)⟩
        | _ => cases h
  | _ => cases h
def cMeth (C m : Str) (F : DF) (fo : EF) (r : AF) : EF := fun Γ S => (fo Γ S).bind fun d S => if isIns C S m d = true then (r Γ S).bind fun ds S => F (d :: ds) S else .stk
/-- o.m(..): the receiver, the values, then the promise -/
def tMt (Ca : Addr) (m : Str) (sp : Sp) (W : WX) (n k : Nat) (to : TE) (t tk : TA) : TE := fun σ H Q => to σ H fun x H1 => ∃ a dx fs, x = .ref a ∧ H1 a = some (.ins Ca dx fs) ∧ fs.lookup m = none ∧ t σ H1 fun vs H2 => tk σ H2 fun zs H3 => vs.length = n ∧ zs.length = k ∧ sp (x :: (vs ++ zs)) H3 Q (L2.WE W σ)
theorem ref_mt {C m : Str} {b : Nat} (hps : ps.length = n + b + 1) (ho : RefG (rD c) c W to fo) (hn : LenA r n) (hm : LenA rk b) (h1 : RefG (rDs c) c W t r) (h2 : RefG (rDs c) c W tk rk) : RefG (rD c) c W (tMt (c.cm C) m (spD c ps.length F) W n b to t tk) (cMeth C m F fo (cArgs r rk)) := fun σ H g Γ S Q s e q =>
  ho σ H g Γ S _ s e (q.bind fun d S1 v H1 g1 x1 s1 r1 q1 => by
    by_cases hi : isIns C S1 m d = true
    · have q1 : PostG (rD c) c g1 Q (fun cl d H => W cl d σ H) (((r Γ S1).bind fun ds S => (rk Γ S).bind fun es S => .ok (ds ++ es) S).bind fun ds S => F (d :: ds) S) := by
        have q1 : PostG (rD c) c g1 Q (fun cl d H => W cl d σ H) (if isIns C S1 m d = true then (cArgs r rk Γ S1).bind fun ds S => F (d :: ds) S else .stk) := q1
        rw [if_pos hi] at q1; exact q1
      obtain ⟨a, dx, us, rfl, e2, e3⟩ := ins_at s1 r1 hi
      refine ⟨a, dx, us, rfl, e2, e3, h1 σ H1 g1 Γ S1 _ s1 (e.mono x1) ?_⟩
      rw [bind_assoc] at q1
      refine PostG.bindE q1 fun ds S2 vs H2 g2 er x2 s2 r2 q2 => h2 σ H2 g2 Γ S2 _ s2 ((e.mono x1).mono x2) ?_
      have q2 : PostG (rD c) c g2 Q (fun cl d H => W cl d σ H) (((rk Γ S2).bind fun es S => .ok (ds ++ es) S).bind fun ds S => F (d :: ds) S) := q2
      rw [bind_assoc] at q2
      refine PostG.bindE q2 fun es S3 zs H3 g3 ek x3 s3 r3 q3 => ?_
      have l1 := hn er
      have l2 := hm ek
      exact ⟨by rw [r2.len]; exact l1, by rw [r3.len]; exact l2, g3, S3, d :: (ds ++ es), by rw [List.length_cons, List.length_append, r2.len, r3.len, l1, l2, hps], s3, .cons ((r1.mono x2).mono x3) ((r2.mono x3).app r3), q3⟩
    · have q1 : PostG (rD c) c g1 Q (fun cl d H => W cl d σ H) (if isIns C S1 m d = true then (cArgs r rk Γ S1).bind fun ds S => F (d :: ds) S else .stk) := q1
      rw [if_neg hi] at q1; exact q1.elim)
variable {Cn mn : Str}
theorem de_meth {pl : Sem Bool} (hK : c.K = X.K) (tkk : Takes X W) (cC : L2.Cls c.K (c.cm Cn)) (hm : Meth c.K (c.cm Cn) mn f) (D : DOk X.prog X.w X.mg X.base c k f fd ps F) (hr : Room k X.A) (hb : L2.Binds c.K fd ps []) (ho : DE X c W o fo) (ha : DA X c W (e :: es) r) (hn : LenA r n) (hps : ps.length = n + 0 + 1)
    (hst : starEach (e :: es) X.env = (false, eval e X.env) :: starEach es X.env := by rfl) (hpl : (backTo pos (starEach es X.env)).any (·.1) = false := by rfl)
    (ht : eval (.Call (.Attribute o mn apos) (e :: es) [] pos) X.env = (do
      let ov ← eval o X.env
      standAt apos.atName
      let (f, first) ← holding [ov] (getMethod ov mn pl)
      callWith pos f first (backTo pos (starEach (e :: es) X.env)) (backToKw pos (keywordEach [] X.env))) := by rfl) :
    DE X c W (.Call (.Attribute o mn apos) (e :: es) [] pos) (cMeth Cn mn F fo (cArgs r cNil)) := by
  obtain ⟨t0, p0, q0⟩ := ho
  obtain ⟨t1, p1, q1⟩ := ha
  unfold DOk at D
  rw [hK] at D hb cC hm
  refine ⟨_, ⟨fun pins s σ H Q I h => ?_⟩, ref_mt (t := t1) (tk := tNil) hps q0 hn len_nil q1 (fun σ H g Γ S Q s e h => h [] H g (Ext.refl g) s .nil)⟩
  refine PySem.W.methodCall_KW (pl := pl) (thn (p0.run pins s σ H _ I h) fun u s1 ⟨x, H1, I1, rx, a, dx, fs, ex, ea, l, q⟩ => ?_) ht
  subst ex
  have rx' := rx
  obtain rfl : u = Value.ref a := rx
  refine getmeth_ok I1 ea cC hm l ?_
  refine PySem.W.callWith_K (first := [.ref a]) (h₀ := X.base) I.ok.mod.kin hm.kp (thn (p1.run pos pins s1 σ H1 _ I1 q) fun us s2 ⟨vs, H2, I2, rv, l1, _, q2⟩ => ⟨I2.kIn, ?_⟩) hst hpl
  have b := hb s2 (.ref a :: us) I2.kIn (by rw [List.append_nil, List.length_cons, ← rv.length, l1, hps])
  rw [List.append_nil] at b
  rw [List.append_nil] at q2
  exact run_at (us := .ref a :: us) D hr (passAt tkk σ) I2 b (.cons rx' rv) q2
theorem de_meth0 {pl : Sem Bool} (hK : c.K = X.K) (tkk : Takes X W) (cC : L2.Cls c.K (c.cm Cn)) (hm : Meth c.K (c.cm Cn) mn f) (D : DOk X.prog X.w X.mg X.base c k f fd ps F) (hr : Room k X.A) (hb : L2.Binds c.K fd ps []) (ho : DE X c W o fo) (hps : ps.length = 0 + 0 + 1)
    (ht : eval (.Call (.Attribute o mn apos) [] [] pos) X.env = (do
      let ov ← eval o X.env
      standAt apos.atName
      let (f, first) ← holding [ov] (getMethod ov mn pl)
      callWith pos f first (backTo pos (starEach [] X.env)) (backToKw pos (keywordEach [] X.env))) := by rfl) :
    DE X c W (.Call (.Attribute o mn apos) [] [] pos) (cMeth Cn mn F fo (cArgs cNil cNil)) := by
  obtain ⟨t0, p0, q0⟩ := ho
  unfold DOk at D
  rw [hK] at D hb cC hm
  refine ⟨_, ⟨fun pins s σ H Q I h => ?_⟩, ref_mt (t := tNil) (tk := tNil) hps q0 len_nil len_nil (fun σ H g Γ S Q s e h => h [] H g (Ext.refl g) s .nil) (fun σ H g Γ S Q s e h => h [] H g (Ext.refl g) s .nil)⟩
  refine PySem.W.methodCall_KW (pl := pl) (thn (p0.run pins s σ H _ I h) fun u s1 ⟨x, H1, I1, rx, a, dx, fs, ex, ea, l, _, _, q2⟩ => ?_) ht
  subst ex
  have rx' := rx
  obtain rfl : u = Value.ref a := rx
  refine getmeth_ok I1 ea cC hm l ?_
  have b := hb s1 [.ref a] I1.kIn (by rw [hps]; rfl)
  rw [List.append_nil] at b
  exact PySem.W.callWith_K0 (first := [.ref a]) I1.kIn hm.kp (run_at (us := [.ref a]) D hr (passAt tkk σ) I1 b (.cons rx' .nil) q2)
theorem de_methK0 {pl : Sem Bool} (hK : c.K = X.K) (tkk : Takes X W) (cC : L2.Cls c.K (c.cm Cn)) (hm : Meth c.K (c.cm Cn) mn f) (D : DOk X.prog X.w X.mg X.base c k f fd ps F) (hr : Room k X.A) (hb : BindK c.K fd ps 1 ks) (ho : DE X c W o fo) (hkw : DK X c W kws rk) (hm2 : LenA rk ks.length) (hps : ps.length = 0 + ks.length + 1)
    (hall : (backToKw pos (keywordEach kws X.env)).all (·.1.isSome) = true := by rfl) (hks : (backToKw pos (keywordEach kws X.env)).filterMap (·.1) = ks := by rfl)
    (hpl : ((backTo pos (starEach [] X.env)).any (·.1) || (backToKw pos (keywordEach kws X.env)).any (·.1.isNone)) = false := by rfl)
    (ht : eval (.Call (.Attribute o mn apos) [] kws pos) X.env = (do
      let ov ← eval o X.env
      standAt apos.atName
      let (f, first) ← holding [ov] (getMethod ov mn pl)
      callWith pos f first (backTo pos (starEach [] X.env)) (backToKw pos (keywordEach kws X.env))) := by rfl) :
    DE X c W (.Call (.Attribute o mn apos) [] kws pos) (cMeth Cn mn F fo (cArgs cNil rk)) := by
  obtain ⟨t0, p0, q0⟩ := ho
  obtain ⟨t2, p2, q2⟩ := hkw
  unfold DOk at D
  rw [hK] at D hb cC hm
  refine ⟨_, ⟨fun pins s σ H Q I h => ?_⟩, ref_mt (t := tNil) (tk := t2) hps q0 len_nil hm2 (fun σ H g Γ S Q s e h => h [] H g (Ext.refl g) s .nil) q2⟩
  refine PySem.W.methodCall_KW (pl := pl) (thn (p0.run pins s σ H _ I h) fun u s1 ⟨x, H1, I1, rx, a, dx, fs, ex, ea, l, q⟩ => ?_) ht
  subst ex
  have rx' := rx
  obtain rfl : u = Value.ref a := rx
  refine getmeth_ok I1 ea cC hm l ?_
  refine PySem.W.callWith_KW0 (first := [.ref a]) (h₀ := X.base) I.ok.mod.kin hm.kp hall (thn (p2.run pos pins s1 σ H1 _ I1 q) fun ws s2 ⟨zs, H2, I2, rz, _, l2, q2⟩ => ?_) hpl
  rw [hks]
  exact ⟨I2.kIn, run_at (us := [.ref a]) (us' := .ref a :: ws) D hr (passAt tkk σ) I2 (hb s2 [.ref a] ws I2.kIn rfl (by rw [← rz.length]; exact l2)) (.cons rx' rz) q2⟩
end
end DD
namespace DD
open PySem PySem.Spec PyProof.Rows L2
/-! ### objects of own classes: attributes, properties, their creation -/
/-- class and attributes of a thing -/
def objD (S : Sto) : D → Option (Str × List (Str × D))
  | .ins C fs => some (C, fs)
  | .loc n => match S[n]? with
    | some (.ins C fs) => some (C, fs)
    | _ => none
  | _ => none
def putD (f : Str) (v : D) : List (Str × D) → List (Str × D)
  | [] => [(f, v)]
  | (g, x) :: r => if g = f then (g, v) :: r else (g, x) :: putD f v r
section
variable {c : Cm} {g : Gh} {H : Hp} {S : Sto}
theorem obj_of (s : Sat c g H S) {v : V} {d : D} (r : Rep c g v d) {C : Str} {fs : List (Str × D)} (h : objD S d = some (C, fs)) : ∃ a dx us, v = .ref a ∧ H a = some (.ins (c.cm C) dx us) ∧ RepF c g us fs := by
  cases d with
  | ins C' fs' =>
    cases h
    cases r with
    | ins hq r => exact ⟨_, _, _, rfl, s.sub _ _ hq, r⟩
  | loc n =>
    cases r with
    | loc hn =>
      have h : (match S[n]? with | some (.ins C fs) => some (C, fs) | _ => none) = some (C, fs) := h
      cases hc : S[n]? with
      | none => rw [hc] at h; cases h
      | some k =>
        rw [hc] at h
        cases k with
        | ins C' fs' =>
          cases h
          obtain ⟨a, dx, us, e1, _, e3, e4⟩ := s.cell n _ hc
          rw [hn] at e1
          obtain rfl := Option.some.inj e1
          exact ⟨_, dx, us, rfl, e3, e4⟩
        | _ => cases h
  | _ => cases h
/-- a thing of the store that changes no more -/
theorem Sat.freeze (s : Sat c g H S) {n : Nat} {a : Addr} {o : HO} (hρ : g.ρ n = some a) (hH : H a = some o) (hR : g.R a = none) : Sat c { g with R := upd g.R a o } H (S.set n .dead) ∧ Ext g { g with R := upd g.R a o } := by
  have sR : Same g.R (upd g.R a o) := fun b u e => by rw [upd_ne (ne_of_none e hR)]; exact e
  have x : Ext g { g with R := upd g.R a o } := ⟨sR, fun _ _ h => h, rfl⟩
  refine ⟨⟨fun b u e => ?_, fun m b e => by rw [List.length_set]; exact s.dom m b e, s.there, s.inj, fun m j e => ?_, fun b u e => ?_⟩, x⟩
  · have e : upd g.R a o b = some u := e
    by_cases hb : b = a
    · subst hb; rw [upd_same] at e; rw [hH, e]
    · rw [upd_ne hb] at e; exact s.sub b u e
  · by_cases hm : n = m
    · subst hm
      by_cases hl : n < S.length
      · rw [List.getElem?_set_self hl] at e
        obtain rfl := Option.some.inj e
        trivial
      · rw [List.getElem?_eq_none (by rw [List.length_set]; omega)] at e
        cases e
    · rw [List.getElem?_set_ne hm] at e
      have q := s.cell m j e
      have nm : ∀ {b}, g.ρ m = some b → upd g.R a o b = g.R b := fun {b} h => upd_ne (fun z => hm (s.inj n m a hρ (by rw [← z]; exact h)))
      cases j with
      | dead => trivial
      | lst ds => obtain ⟨b, us, h1, h2, h3, h4⟩ := q; exact ⟨b, us, h1, (nm h1).trans h2, h3, h4.mono x⟩
      | ins C fs => obtain ⟨b, dx, us, h1, h2, h3, h4⟩ := q; exact ⟨b, dx, us, h1, (nm h1).trans h2, h3, h4.mono x⟩
      | dk kvs => obtain ⟨b, us, h1, h2, h3, h4⟩ := q; exact ⟨b, us, h1, (nm h1).trans h2, h3, h4.mono x⟩
  · obtain ⟨h1, h2, h3⟩ := s.kept b u e
    exact ⟨h1, by show upd g.R a o b = none; rw [upd_ne (fun z => by subst z; exact h3 n hρ)]; exact h2, h3⟩
theorem RepF.put {f : Str} {v : V} {d : D} (h : Rep c g v d) : ∀ {us : List (Str × V)} {fs : List (Str × D)}, RepF c g us fs → RepF c g (putF f v us) (putD f d fs)
  | _, _, .nil => .cons h .nil
  | _, _, .cons (f := f0) (v := v0) (d := d0) (vs := vs) (ds := ds) q r => by
    show RepF c g (if f0 = f then (f0, v) :: vs else (f0, v0) :: putF f v vs) (if f0 = f then (f0, d) :: ds else (f0, d0) :: putD f d ds)
    by_cases hf : f0 = f
    · rw [if_pos hf, if_pos hf]
      exact .cons h r
    · rw [if_neg hf, if_neg hf]
      exact .cons q (RepF.put h r)
theorem RepF.len : ∀ {us : List (Str × V)} {fs : List (Str × D)}, RepF c g us fs → us.length = fs.length
  | _, _, .nil => rfl
  | _, _, .cons _ r => congrArg (· + 1) r.len
end
/-- what is asked of the classes that a name may be read of -/
def FldF (c : Cm) (ns : List Str) (f : Str) : Prop := ∀ C ∈ ns, L2.Cls c.K (c.cm C) ∧ NoAttr c.K (c.cm C) f
def getD (ns : List Str) (f : Str) (d : D) (S : Sto) : Res D := match objD S d with
  | some (C, fs) => if C ∈ ns then match fs.lookup f with
    | some x => .ok x S
    | none => .stk else .stk
  | none => .stk
def cFld (ns : List Str) (f : Str) (fo : EF) : EF := fun Γ S => (fo Γ S).bind (getD ns f)
/-- o.f = e -/
def putIns (ns : List Str) (f : Str) (v : D) (n : Nat) (Γ : Env) (S : Sto) : Option Cell → SRes
  | some (.ins C fs) => if C ∈ ns ∧ fs.length < 1000 then .nx Γ (S.set n (.ins C (putD f v fs))) else .stk
  | _ => .stk
def putFld (ns : List Str) (f : Str) (v : D) (d : D) (Γ : Env) (S : Sto) : SRes := match d with
  | .loc n => putIns ns f v n Γ S S[n]?
  | _ => .stk
def sFldD (ns : List Str) (f : Str) (fv fo : EF) : SF := fun Γ S => SRes.of (fv Γ S) Γ fun v S => SRes.of (fo Γ S) Γ fun d S => putFld ns f v d Γ S
def Res.nox {α : Type} : Res α → Res α
  | .exc .. => .stk
  | r => r
def cProp (Cn : Str) (F : DF) (fo : EF) : EF := fun Γ S => (fo Γ S).bind fun d S => match objD S d with
  | some (C, _) => if C = Cn then (F [d] S).nox else .stk
  | none => .stk
section
variable {X : Cx} {c : Cm} {W : WX} {k n m : Nat} {f C p0 : Addr} {fd : FuncData} {ps ks : List Str} {F : DF} {x a Cn : Str} {p pos apos kpos : Pos} {e o : Expr} {es : List Expr} {kws : List Keyword} {r rk : AF} {fo fe : EF} {ns : List Str}
theorem de_fld (hK : c.K = X.K) (cf : FldF c ns a) (ho : DE X c W o fo) (hb : attributeBase o a X.env (eval o X.env) = eval o X.env := by rfl) : DE X c W (.Attribute o a pos) (cFld ns a fo) := by
  obtain ⟨t, p, q⟩ := ho
  refine ⟨_, pe_fld p hb, fun σ H g Γ S Q s e h => q σ H g Γ S _ s e (h.bind fun d S1 v H1 g1 x1 s1 r1 q1 => ?_)⟩
  cases ho : objD S1 d with
  | none => rw [show getD ns a d S1 = .stk from by unfold getD; rw [ho]] at q1; exact q1.elim
  | some z =>
    obtain ⟨C, fs⟩ := z
    by_cases hc : C ∈ ns
    · cases hl : fs.lookup a with
      | none => rw [show getD ns a d S1 = .stk from by unfold getD; rw [ho]; simp only [if_pos hc, hl]] at q1; exact q1.elim
      | some y =>
        rw [show getD ns a d S1 = .ok y S1 from by unfold getD; rw [ho]; simp only [if_pos hc, hl]] at q1
        obtain ⟨b, dx, us, ev, eb, ru⟩ := obj_of s1 r1 ho
        obtain ⟨w, lw, rw⟩ := ru.get hl
        unfold FldF at cf
        rw [hK] at cf
        exact ⟨b, _, dx, us, w, ev, eb, (cf C hc).1, (cf C hc).2, lw, q1 w H1 g1 (Ext.refl g1) s1 rw⟩
    · rw [show getD ns a d S1 = .stk from by unfold getD; rw [ho]; simp only [if_neg hc]] at q1; exact q1.elim
theorem ds_fld {pos' : Pos} (hK : c.K = X.K) (cf : FldF c ns a) (hv : DE X c W e fe) (ho : DE X c W o fo) (hs : swapsWith e (some (.Attribute o a pos')) pos.line X.env = pure false := by rfl) : DS X c W (.Assign [.Attribute o a pos'] e pos) (sFldD ns a fe fo) := by
  obtain ⟨t1, p1, q1⟩ := hv
  obtain ⟨t2, p2, q2⟩ := ho
  refine ⟨_, ps_fld p2 p1 hs, fun E σ H g Γ S s e h => q1 σ H g Γ S _ s e (PostS.of e h fun v S1 y H1 g1 x1 s1 r1 h1 => q2 σ H1 g1 Γ S1 _ s1 (e.mono x1) (PostS.of (e.mono x1) h1 fun d S2 w H2 g2 x2 s2 r2 h2 => ?_))⟩
  cases d with
  | loc n =>
    cases r2 with
    | loc hn =>
      have h2 : PostS c g2 E W (putIns ns a v n Γ S2 S2[n]?) := h2
      cases hc : S2[n]? with
      | none => rw [hc] at h2; exact h2.elim
      | some k =>
        rw [hc] at h2
        cases k with
        | ins C fs =>
          by_cases hh : C ∈ ns ∧ fs.length < 1000
          · have h2 : PostS c g2 E W (if C ∈ ns ∧ fs.length < 1000 then .nx Γ (S2.set n (.ins C (putD a v fs))) else .stk) := h2
            rw [if_pos hh] at h2
            obtain ⟨b, dx, us, e1, e2, e3, e4⟩ := s2.cell n _ hc
            rw [hn] at e1
            obtain rfl := Option.some.inj e1
            unfold FldF at cf
            rw [hK] at cf
            have ry := r1.mono x2
            exact ⟨_, _, dx, us, rfl, e3, (cf C hh.1).1, (cf C hh.1).2, by rw [e4.len]; exact hh.2, h2 σ _ g2 (Ext.refl g2) (s2.put hc hn e2 ⟨_, dx, _, hn, e2, upd_same, e4.put ry⟩) ((e.mono x1).mono x2)⟩
          · have h2 : PostS c g2 E W (if C ∈ ns ∧ fs.length < 1000 then .nx Γ (S2.set n (.ins C (putD a v fs))) else .stk) := h2
            rw [if_neg hh] at h2; exact h2.elim
        | _ => exact h2.elim
  | _ => exact h2.elim
theorem de_prop (hK : c.K = X.K) (cC : L2.Cls c.K (c.cm Cn)) (hp : PropOf c.K (c.cm Cn) a p0 f) (D : DOk X.prog X.w X.mg X.base c k f fd ps F) (hr : Room (k + 1) X.A) (hb : L2.Binds c.K fd ps []) (hps : ps.length = 1) (ho : DE X c W o fo)
    (hab : attributeBase o a X.env (eval o X.env) = eval o X.env := by rfl) : DE X c W (.Attribute o a pos) (cProp Cn F fo) := by
  obtain ⟨t, p, q⟩ := ho
  unfold DOk at D
  rw [hK] at D hb cC hp
  refine ⟨_, pe_prop p cC hp D hr hb .nil (E := E0) passL hab, fun σ H g Γ S Q s e h => q σ H g Γ S _ s e (h.bind fun d S1 v H1 g1 x1 s1 r1 q1 => ?_)⟩
  cases ho : objD S1 d with
  | none => rw [ho] at q1; exact q1.elim
  | some z =>
    obtain ⟨C, fs⟩ := z
    rw [ho] at q1
    by_cases hc : C = Cn
    · subst hc
      have q1 : PostG (rD c) c g1 Q (fun cl d H => W cl d σ H) (if C = C then (F [d] S1).nox else .stk) := q1
      rw [if_pos rfl] at q1
      obtain ⟨b, dx, us, ev, eb, ru⟩ := obj_of s1 r1 ho
      refine ⟨b, dx, us, ev, eb, g1, S1, [d], hps.symm, s1, .cons (by rw [← ev]; exact r1) .nil, ?_⟩
      cases hF : F [d] S1 with
      | ok y S2 => rw [hF] at q1; exact q1
      | exc C fs S2 => rw [hF] at q1; exact q1.elim
      | stk => rw [hF] at q1; exact q1.elim
    · have q1 : PostG (rD c) c g1 Q (fun cl d H => W cl d σ H) (if C = Cn then (F [d] S1).nox else .stk) := q1
      rw [if_neg hc] at q1; exact q1.elim
end
end DD
namespace DD
open PySem PySem.Spec PyProof.Rows L2
/-! ### objects of own classes are made -/
/-- what has been made changes no more -/
def finIns (Cn : Str) (n : Nat) (d : D) (S : Sto) : Res D := match d with
  | .non => match S[n]? with
    | some (.ins C fs) => if C = Cn then .ok (.ins C fs) (S.set n .dead) else .stk
    | _ => .stk
  | _ => .stk
/-- what has been made may change -/
def finLoc (Cn : Str) (n : Nat) (d : D) (S : Sto) : Res D := match d with
  | .non => .ok (.loc n) S
  | _ => .stk
def cMake (Cn : Str) (F : DF) (fin : Str → Nat → D → Sto → Res D) (args : AF) : EF := fun Γ S => (args Γ S).bind fun ds S => (F (.loc S.length :: ds) (S ++ [.ins Cn []])).bind (fin Cn S.length)
/-- the reading of the end -/
def FinI (c : Cm) (fin : Str → Nat → D → Sto → Res D) : Prop := ∀ (Cn : Str) (g : Gh) (H : Hp) (S : Sto) (n : Nat) (a : Addr) (v : V) (d : D) (Q : VK) (Y : XK), Sat c g H S → g.ρ n = some a → Rep c g v d → PostG (rD c) c g Q Y (fin Cn n d S) → v = .non ∧ Q (.ref a) H
theorem fin_ins {c : Cm} : FinI c finIns := fun Cn g H S n a v d Q Y s hρ r q => by
  cases d with
  | non =>
    cases r
    have q : PostG (rD c) c g Q Y (match S[n]? with | some (.ins C fs) => if C = Cn then .ok (.ins C fs) (S.set n .dead) else .stk | _ => .stk) := q
    cases hc : S[n]? with
    | none => rw [hc] at q; exact q.elim
    | some k =>
      rw [hc] at q
      cases k with
      | ins C fs =>
        by_cases h : C = Cn
        · have q : PostG (rD c) c g Q Y (if C = Cn then .ok (.ins C fs) (S.set n .dead) else .stk) := q
          rw [if_pos h] at q
          obtain ⟨b, dx, us, e1, e2, e3, e4⟩ := s.cell n _ hc
          rw [hρ] at e1
          obtain rfl := Option.some.inj e1
          obtain ⟨s2, x2⟩ := s.freeze hρ e3 e2
          exact ⟨rfl, q _ H _ x2 s2 (.ins upd_same (e4.mono x2))⟩
        · have q : PostG (rD c) c g Q Y (if C = Cn then .ok (.ins C fs) (S.set n .dead) else .stk) := q
          rw [if_neg h] at q; exact q.elim
      | _ => exact q.elim
  | _ => exact q.elim
theorem fin_loc {c : Cm} : FinI c finLoc := fun Cn g H S n a v d Q Y s hρ r q => by
  cases d with
  | non =>
    cases r
    exact ⟨rfl, q _ H g (Ext.refl g) s (.loc hρ)⟩
  | _ => exact q.elim
/-- C(..): the values, then the promise of what fills it -/
def tMake (Ca : Addr) (sp : Sp) (W : WX) (n : Nat) (t : TA) : TE := fun σ H Q => t σ H fun vs H1 => vs.length = n ∧ ∀ x dx, H1 x = none → H1 dx = none → dx ≠ x → sp (.ref x :: vs) (upd (upd H1 dx (.own x)) x (.ins Ca dx [])) (fun v H2 => v = .non ∧ Q (.ref x) H2) (L2.WE W σ)
section
variable {X : Cx} {c : Cm} {W : WX} {k n m : Nat} {f : Addr} {fd : FuncData} {ps ks : List Str} {F : DF} {x Cn : Str} {p pos kpos : Pos} {e : Expr} {es : List Expr} {kws : List Keyword} {r rk : AF} {fin : Str → Nat → D → Sto → Res D} {t tk : TA}
theorem make_sp {g : Gh} {H1 : Hp} {S : Sto} {vs : List V} {ds : List D} {Q : VK} {Y : XK} (hf : FinI c fin) (hps : ps.length = ds.length + 1) (s : Sat c g H1 S) (r : Reps c g vs ds) (q : PostG (rD c) c g Q Y ((F (.loc S.length :: ds) (S ++ [.ins Cn []])).bind (fin Cn S.length))) :
    ∀ x dx, H1 x = none → H1 dx = none → dx ≠ x → spD c ps.length F (.ref x :: vs) (upd (upd H1 dx (.own x)) x (.ins (c.cm Cn) dx [])) (fun v H2 => v = .non ∧ Q (.ref x) H2) Y := fun x dx hx hd hne => by
  have s1 : Sat c g (upd H1 dx (.own x)) S := s.hid fun a u e => by rw [upd_ne (ne_of_none e hd)]; exact e
  have hx1 : upd H1 dx (.own x) x = none := by rw [upd_ne (Ne.symm hne)]; exact hx
  obtain ⟨g', x', eρ, s2⟩ := s1.alloc (k := .ins Cn []) hx1 (o := .ins (c.cm Cn) dx []) fun g' _ hρ hR => ⟨x, dx, [], hρ, hR, upd_same, .nil⟩
  refine ⟨g', _, .loc S.length :: ds, by rw [List.length_cons, r.len, hps], s2, .cons (.loc eρ) (r.mono x'), ?_⟩
  exact PostG.bind (PostG.mono x' q) fun d S3 v H3 g3 x3 s3 r3 q3 => hf Cn g3 H3 S3 S.length x v d Q Y s3 (x3.ρ _ _ eρ) r3 q3
theorem ref_make (hf : FinI c fin) (hn : LenA r n) (hps : ps.length = n + 1) (h : RefG (rDs c) c W t r) : RefG (rD c) c W (tMake (c.cm Cn) (spD c ps.length F) W n t) (cMake Cn F fin r) := fun σ H g Γ S Q s e q =>
  h σ H g Γ S _ s e (PostG.bindE q fun ds S1 vs H1 g1 er x1 s1 r1 q1 => ⟨by rw [r1.len]; exact hn er, make_sp hf (by rw [hn er, hps]) s1 r1 q1⟩)
/-- positional values and those by name -/
def tMakeK (Ca : Addr) (sp : Sp) (W : WX) (n m : Nat) (t tk : TA) : TE := fun σ H Q => t σ H fun vs H0 => tk σ H0 fun zs H1 => vs.length = n ∧ zs.length = m ∧
  ∀ x dx, H1 x = none → H1 dx = none → dx ≠ x → sp (.ref x :: (vs ++ zs)) (upd (upd H1 dx (.own x)) x (.ins Ca dx [])) (fun v H2 => v = .non ∧ Q (.ref x) H2) (L2.WE W σ)
theorem ref_makeK (hf : FinI c fin) (hn : LenA r n) (hm : LenA rk m) (hps : ps.length = n + m + 1) (h1 : RefG (rDs c) c W t r) (h2 : RefG (rDs c) c W tk rk) : RefG (rD c) c W (tMakeK (c.cm Cn) (spD c ps.length F) W n m t tk) (cMake Cn F fin (cArgs r rk)) := fun σ H g Γ S Q s e q => by
  have q : PostG (rD c) c g Q (fun cl d H => W cl d σ H) (((r Γ S).bind fun ds S => (rk Γ S).bind fun es S => .ok (ds ++ es) S).bind fun ds S => (F (.loc S.length :: ds) (S ++ [.ins Cn []])).bind (fin Cn S.length)) := q
  rw [bind_assoc] at q
  refine h1 σ H g Γ S _ s e (PostG.bindE q fun ds S1 vs H1 g1 er x1 s1 r1 q1 => ?_)
  have q1 : PostG (rD c) c g1 Q (fun cl d H => W cl d σ H) (((rk Γ S1).bind fun es S => .ok (ds ++ es) S).bind fun ds S => (F (.loc S.length :: ds) (S ++ [.ins Cn []])).bind (fin Cn S.length)) := q1
  rw [bind_assoc] at q1
  refine h2 σ H1 g1 Γ S1 _ s1 (e.mono x1) (PostG.bindE q1 fun es S2 zs H2 g2 ek x2 s2 r2 q2 => ?_)
  have l1 := hn er
  have l2 := hm ek
  exact ⟨by rw [r1.len]; exact l1, by rw [r2.len]; exact l2, make_sp hf (by rw [List.length_append, l1, l2, hps]) s2 ((r1.mono x2).app r2) q2⟩
/-- C(..) -/
theorem de_make (hK : c.K = X.K) (tkk : Takes X W) (M : Mk c.K (c.cm Cn) f) (D : DOk X.prog X.w X.mg X.base c k f fd ps F) (hr : Room (k + 1) X.A) (hg : Gl X x) (hm : X.mg x = some (.ref (c.cm Cn))) (hb : L2.Binds c.K fd ps []) (ha : DA X c W (e :: es) r) (hn : LenA r n) (hf : FinI c fin) (hps : ps.length = n + 1)
    (hdb : (x == ("__debug__" : Str)) = false := by decide) (he : starEach (e :: es) X.env = (false, eval e X.env) :: starEach es X.env := by rfl) (hpl : (backTo pos (starEach es X.env)).any (·.1) = false := by rfl) : DE X c W (.Call (.Name x p) (e :: es) [] pos) (cMake Cn F fin r) := by
  obtain ⟨t1, p1, q1⟩ := ha
  unfold DOk at D
  rw [hK] at D M hb
  refine ⟨_, ⟨fun pins s σ H Q I h => ?_⟩, ref_make hf hn hps q1⟩
  refine wpAny_Call_Name_kw (ld_glob I hg hm ?_ hdb)
  refine PySem.W.callWith_K (first := []) (h₀ := X.base) I.ok.mod.kin M.kp (thn (p1.run pos pins s σ H _ I h) fun us s1 ⟨vs, H1, I1, rv, l1, h1⟩ => ⟨I1.kIn, ?_⟩) he hpl
  have lu : us.length = n := by rw [← rv.length]; exact l1
  refine make_at (ws := us) M D hr (passAt tkk σ) I1 (fun a s' i => ?_) rv h1
  have b := hb s' (a :: us) i (by rw [List.append_nil, List.length_cons, lu, hps])
  rw [List.append_nil] at b
  exact b
/-- C(k = ..) -/
theorem de_makeK0 (hK : c.K = X.K) (tkk : Takes X W) (M : Mk c.K (c.cm Cn) f) (D : DOk X.prog X.w X.mg X.base c k f fd ps F) (hr : Room (k + 1) X.A) (hg : Gl X x) (hm : X.mg x = some (.ref (c.cm Cn))) (hb : BindK c.K fd ps 1 ks) (hkw : DK X c W kws rk) (hm2 : LenA rk ks.length) (hf : FinI c fin) (hps : ps.length = ks.length + 1)
    (hall : (backToKw pos (keywordEach kws X.env)).all (·.1.isSome) = true := by rfl) (hks : (backToKw pos (keywordEach kws X.env)).filterMap (·.1) = ks := by rfl) (hdb : (x == ("__debug__" : Str)) = false := by decide)
    (hpl : ((backTo pos (starEach [] X.env)).any (·.1) || (backToKw pos (keywordEach kws X.env)).any (·.1.isNone)) = false := by rfl) : DE X c W (.Call (.Name x p) [] kws pos) (cMake Cn F fin (cArgs cNil rk)) := by
  obtain ⟨t2, p2, q2⟩ := hkw
  unfold DOk at D
  rw [hK] at D M hb
  refine ⟨_, ⟨fun pins s σ H Q I h => ?_⟩, ref_makeK (n := 0) hf len_nil hm2 (by rw [hps]; omega) (t := tNil) (fun σ H g Γ S Q s e h => h [] H g (Ext.refl g) s .nil) q2⟩
  refine wpAny_Call_Name_kw (ld_glob I hg hm ?_ hdb)
  refine PySem.W.callWith_KW0 (h₀ := X.base) I.ok.mod.kin M.kp hall (thn (p2.run pos pins s σ H _ I h) fun ws s2 ⟨zs, H2, I2, rz, _, l2, h2⟩ => ?_) hpl
  rw [hks]
  exact ⟨I2.kIn, make_at (us := []) (ws := ws) M D hr (passAt tkk σ) I2 (fun a s' i => hb s' [a] ws i rfl (by rw [← rz.length]; exact l2)) rz h2⟩
/-- C(.., k = ..) -/
theorem de_makeK (hK : c.K = X.K) (tkk : Takes X W) (M : Mk c.K (c.cm Cn) f) (D : DOk X.prog X.w X.mg X.base c k f fd ps F) (hr : Room (k + 1) X.A) (hg : Gl X x) (hm : X.mg x = some (.ref (c.cm Cn))) (hb : BindK c.K fd ps (n + 1) ks) (ha : DA X c W (e :: es) r) (hn : LenA r n) (hkw : DK X c W kws rk) (hm2 : LenA rk ks.length) (hf : FinI c fin) (hps : ps.length = n + ks.length + 1)
    (hall : (backToKw pos (keywordEach kws X.env)).all (·.1.isSome) = true := by rfl) (hks : (backToKw pos (keywordEach kws X.env)).filterMap (·.1) = ks := by rfl) (hdb : (x == ("__debug__" : Str)) = false := by decide) (he : starEach (e :: es) X.env = (false, eval e X.env) :: starEach es X.env := by rfl)
    (hpl : ((backTo pos (starEach (e :: es) X.env)).any (·.1) || (backToKw pos (keywordEach kws X.env)).any (·.1.isNone)) = false := by rfl) : DE X c W (.Call (.Name x p) (e :: es) kws pos) (cMake Cn F fin (cArgs r rk)) := by
  obtain ⟨t1, p1, q1⟩ := ha
  obtain ⟨t2, p2, q2⟩ := hkw
  unfold DOk at D
  rw [hK] at D M hb
  refine ⟨_, ⟨fun pins s σ H Q I h => ?_⟩, ref_makeK hf hn hm2 hps q1 q2⟩
  refine wpAny_Call_Name_kw (ld_glob I hg hm ?_ hdb)
  refine PySem.W.callWith_KW (h₀ := X.base) I.ok.mod.kin M.kp hall (thn (p1.run pos pins s σ H _ I h) fun us s1 ⟨vs, H1, I1, rv, h1⟩ => ?_) hpl he
  refine thn (p2.run pos pins s1 σ H1 _ I1 h1) fun ws s2 ⟨zs, H2, I2, rz, l1, l2, h2⟩ => ⟨I2.kIn, ?_⟩
  rw [hks]
  exact make_at (us := us) (ws := us ++ ws) M D hr (passAt tkk σ) I2 (fun a s' i => hb s' (a :: us) ws i (by rw [List.length_cons, ← rv.length, l1]) (by rw [← rz.length]; exact l2)) (rv.append rz) h2
end
end DD
namespace DD
open PySem PySem.Spec PyProof.Rows L2
/-! ### == and != of own classes -/
section
variable {prog : Program} {w : World} {A : Around} {E : Value → Shared → Prop} {s : Shared} {K : PySem.W.Frag} {x C f L : Addr} {h₀ : Heap} {m : Str → Option Value} {ox : Obj} {od : Option Obj} {b tb : Value}
theorem ne_entry (X : K.In s.heap) (I : PySem.W.InstAt s.heap x ox C od) (hu : A.units < cLine) (hs : PySem.W.findIn K (.ref C) "__eq__" = some (some (.ref f))) (hf : PySem.W.isFn K (.ref f) = true) {Q : Fin → Shared → Prop}
    (h : wpAny (model prog w) A (call (.ref f) [.ref x, b]) (fun v s' => ∃ k, v = .bool k ∧ Q (.done (.ret (.bool (!k)))) s') E s) : wpAny (model prog w) A (Builtin.«object.__ne__» ⟨[.ref x, b], []⟩) Q E s := by
  unfold Builtin.«object.__ne__»
  repeat (first
    | with_reducible refine wpAny_cRoomFor hu ?_
    | (refine wpAny_bind (m := callSpecialIfBound? (.ref x) (Str.ofString "__eq__") [b])
        (PySem.W.ifBound_K X I hs hf (wpAny_mono h (fun r s' hr => by
          obtain ⟨k, rfl, hq⟩ := hr
          repeat (first | exact hq | exact wpAny_pure hq | exact wpAny_truthy_bool hq | (refine wpAny_bind (m := truthy (.bool _)) (wpAny_truthy_bool ?_)) | wp_step)) fun _ _ e => e)))
    | wp_step)
theorem call_ne (X : K.In s.heap) (I : PySem.W.InstAt s.heap x ox C od) (hu : A.units + 1 < cLine) (hm : PySem.W.mroIn K C (.type "object") = some true) (hs : PySem.W.findIn K (.ref C) "__eq__" = some (some (.ref f))) (hf : PySem.W.isFn K (.ref f) = true) {Q : Value → Shared → Prop}
    (h : wpAny (model prog w) A.in1 (call (.ref f) [.ref x, b]) (fun v s' => ∃ k, v = .bool k ∧ Q (.bool (!k)) s') E s) : wpAny (model prog w) A (call (.builtin "object.__ne__") [.ref x, b]) Q E s :=
  wpAny_call (codeAny_call_builtin F.cmp_object.ne.plain F.cmpEntry_ne (PySem.W.check_slot F.cmpKind_ne F.cmpSplit_ne (I.type.andThen (PySem.W.looks_mroIn X hm)) (F.cmpArgs_ne _ _) (ne_entry (A := A.in1) X I hu hs hf (wpAny_mono h (fun v s' z => by
    obtain ⟨k, rfl, q⟩ := z
    exact ⟨k, rfl, q⟩) fun _ _ e => e))))
theorem ifBound_ne {M : Model} {args : List Value} {Q : Option Value → Shared → Prop} (X : K.In s.heap) (I : PySem.W.InstAt s.heap x ox C od) (hs : PySem.W.findIn K (.ref C) "__ne__" = some (some (.builtin "object.__ne__")))
    (h : wpAny M A (call (.builtin "object.__ne__") (.ref x :: args)) (fun v => Q (some v)) E s) : wpAny M A (callSpecialIfBound? (.ref x) "__ne__" args) Q E s := by
  simp only [callSpecialIfBound?, bindSpecialIfBound?]
  refine wpAny_holding (wpAny_bind (wpAny_bind (wpAny_bind (I.type.here ((PySem.W.looks_findIn X hs).here ?_)))))
  refine wpAny_bind (wpAny_askSetting (wpAny_ite ?_))
  have rest : wpAny M A (call (.builtin "object.__ne__") ([.ref x] ++ args) >>= fun v => pure (some v)) Q E s := wpAny_bind (wpAny_mono h (fun v s' q => wpAny_pure q) fun _ _ q => q)
  split
  · exact wpAny_bind (wpAny_of_eq (F.cmp_object.ne.bind _) (wpAny_pure (by exact rest)))
  · exact wpAny_tryCatch (wpAny_bind (wpAny_of_eq (F.cmp_object.ne.bind _) (wpAny_pure (by exact rest))))
theorem ne_K {Q : Value → Shared → Prop} (hu : A.units + 1 < cLine) (X : K.In s.heap) (I : PySem.W.InstAt s.heap x ox C od) (hb : PySem.W.Looks (model prog w) s.heap (typeOf b) tb) (hn : PySem.W.notFirst K C tb = true) (hm : PySem.W.mroIn K C (.type "object") = some true)
    (hne : PySem.W.findIn K (.ref C) "__ne__" = some (some (.builtin "object.__ne__"))) (hs : PySem.W.findIn K (.ref C) "__eq__" = some (some (.ref f))) (hf : PySem.W.isFn K (.ref f) = true)
    (h : wpAny (model prog w) A.in1 (call (.ref f) [.ref x, b]) (fun v s' => ∃ k, v = .bool k ∧ Q (.bool (!k)) s') E s) : wpAny (model prog w) A (richCompare .NotEq (.ref x) b) Q E s := by
  have one : wpAny (model prog w) A (tryCompare (.ref x) "__ne__" b) (fun r s' => ∃ k, r = some (.bool k) ∧ Q (.bool k) s') E s := by
    unfold tryCompare
    refine wpAny_bind (ifBound_ne X I hne (call_ne X I hu hm hs hf (wpAny_mono h (fun v s' hv => ?_) fun _ _ e => e)))
    obtain ⟨k, rfl, q⟩ := hv
    exact ⟨k, rfl, wpAny_pure ⟨_, rfl, q⟩⟩
  unfold richCompare
  simp only [oneThing_ref]
  refine wpAny_holding (wpAny_bind (wpAny_cRoomFor (Nat.lt_of_succ_lt hu) ?_))
  rw [cmpInfo_NotEq]
  dsimp only
  refine wpAny_bind (I.type.here (wpAny_bind (hb.here ?_)))
  split
  · rename_i q
    have e : PySem.W.subIn K tb (.ref C) = some false := by
      rcases Bool.or_eq_true_iff.mp hn with e | e
      · rw [beq_iff_eq.mp e] at q; simp at q
      · exact beq_iff_eq.mp e
    refine wpAny_bind ((PySem.W.looks_subIn X e).here ?_)
    simp only [Bool.false_eq_true, if_false]
    refine wpAny_bind (wpAny_mono one (fun r s' z => ?_) fun _ _ e => e)
    obtain ⟨k, rfl, hq⟩ := z
    exact wpAny_pure hq
  · refine wpAny_bind (wpAny_pure ?_)
    simp only [Bool.false_eq_true, if_false]
    refine wpAny_bind (wpAny_mono one (fun r s' z => ?_) fun _ _ e => e)
    obtain ⟨k, rfl, hq⟩ := z
    exact wpAny_pure hq
end
/-- facts of a class with an own == -/
structure EqF (c : Cm) (Cn : Str) (f : Addr) : Prop where
  eq : PySem.W.findIn c.K (.ref (c.cm Cn)) "__eq__" = some (some (.ref f))
  ne : PySem.W.findIn c.K (.ref (c.cm Cn)) "__ne__" = some (some (.builtin "object.__ne__"))
  fn : PySem.W.isFn c.K (.ref f) = true
  ob : PySem.W.mroIn c.K (c.cm Cn) (.type "object") = some true
  oth : ∀ t ∈ kinds, PySem.W.subIn c.K (.type t) (.ref (c.cm Cn)) = some false
/-- x == y, x of the class at C with the def f for it; no: turned round -/
def rOwnEq (K : PySem.W.Frag) (C : Addr) (no : Bool) (sp : Sp) : R2 := fun x y H Q => ∃ a dx fs t, x = .ref a ∧ H a = some (.ins C dx fs) ∧ ((TyX K H y t ∧ PySem.W.notFirst K C t = true) ∨ ∃ b dy gs, y = .ref b ∧ H b = some (.ins C dy gs)) ∧ sp [x, y] H (fun z H' => ∃ k, z = .bl k ∧ Q (.bl (if no then !k else k)) H') E0
section
variable {X : Cx} {c : Cm} {k : Nat} {f : Addr} {fd : FuncData} {ps : List Str} {Cn : Str} {F : DF}
theorem run_eq {A : Around} {pins : List (Addr × Obj)} {σ : L2.St} {H : Hp} {s : Shared} {Q : VK} {us : List Value} {vs : List V} (G : FnOk X.prog X.w X.K X.mg X.base (L2.CX X.prog X.w) k f fd ps (spD c ps.length F)) (hr : Room k A) (hfr : A.frames = X.A.frames)
    (hb : L2.Binds X.K fd ps []) (I : Inv X pins σ H s) (r : Vals vs us) (hl : us.length = ps.length) (q : spD c ps.length F vs H Q E0) {E : Value → Shared → Prop} : wpAny (model X.prog X.w) A (call (.ref f) us) (EP X pins σ Q) E s := by
  have e0 : Env0 X.prog X.w X.K X.mg X.base A X.stack s H := by
    have e := I.env0
    exact ⟨by rw [hfr]; exact e.frames, e.mod, e.bs, e.bsz, e.funs, e.frf, e.hok, e.bare⟩
  refine wpAny_call (codeAny_mono (G.run A X.stack s H ⟨us, []⟩ us vs Q E0 hr e0 (by
    have z := hb s us I.kIn (by rw [List.append_nil]; exact hl)
    rw [List.append_nil] at z
    exact z) r q) fun res s' back => ?_)
  cases res with
  | error er =>
    obtain ⟨_, _, _, _, _, _, _, _, _, _, _, _, z⟩ := (show L2.CX X.prog X.w X.stack H s E0 er s' from back)
    exact z.elim
  | ok fl =>
    cases fl with
    | ret w => exact I.after back
    | next => exact False.elim back
    | brk => exact False.elim back
    | cont => exact False.elim back
theorem looks_ty {pins : List (Addr × Obj)} {σ : L2.St} {H : Hp} {s : Shared} {C : Addr} {y : V} {u t : Value} (I : Inv X pins σ H s) (ry : RelV y u) (h : (TyX X.K H y t ∧ PySem.W.notFirst X.K C t = true) ∨ ∃ b dy gs, y = .ref b ∧ H b = some (.ins C dy gs)) : ∃ tb, PySem.W.Looks (model X.prog X.w) s.heap (typeOf u) tb ∧ PySem.W.notFirst X.K C tb = true := by
  rcases h with ⟨ty, hn⟩ | ⟨b, dy, gs, rfl, hb⟩
  · obtain ⟨P, kt, p, _⟩ := kit_of I ry ty
    exact ⟨t, kt.ty _ _ I.kIn p, hn⟩
  · cases ry
    obtain ⟨mB, J, _⟩ := ins_get I.hok hb
    obtain ⟨od, J, _⟩ := J.look
    exact ⟨_, J.type, by simp [PySem.W.notFirst]⟩
theorem op_ownEq (hK : c.K = X.K) (e : EqF c Cn f) (D : DOk X.prog X.w X.mg X.base c k f fd ps F) (hr : Room k X.A) (hb : L2.Binds c.K fd ps []) (hps : ps.length = 2) : OpR X (compareOp .Eq) (rOwnEq c.K (c.cm Cn) false (spD c ps.length F)) := by
  intro pins s σ H x y v u Q I rx ry h
  unfold DOk at D
  obtain ⟨eq, _, fn, _, _⟩ := e
  rw [hK] at D hb h eq fn
  obtain ⟨a, dx, fs, t, rfl, ha, hy, q⟩ := h
  have rx' := rx
  cases rx
  obtain ⟨tb, lt, hn⟩ := looks_ty I ry hy
  obtain ⟨mA, J, _⟩ := ins_get I.hok ha
  obtain ⟨od, J, _⟩ := J.look
  obtain ⟨m, hF⟩ := I.fr
  refine PySem.W.cmp_K (op := .Eq) hr.units0 hF I.ok.mod.kin J lt hn eq fn ?_
  refine wpAny_mono (run_eq (E := X.xe) D hr rfl hb I (.cons rx' (.cons ry .nil)) (by rw [hps]; rfl) q) (fun w s' z => ?_) fun _ _ x => x
  obtain ⟨z', H', I', rz, k, rfl, qz⟩ := z
  cases rz
  exact ⟨V.bl k, H', I', rfl, qz⟩
theorem op_ownNe (hK : c.K = X.K) (e : EqF c Cn f) (D : DOk X.prog X.w X.mg X.base c k f fd ps F) (hr : Room (k + 1) X.A) (hb : L2.Binds c.K fd ps []) (hps : ps.length = 2) : OpR X (compareOp .NotEq) (rOwnEq c.K (c.cm Cn) true (spD c ps.length F)) := by
  intro pins s σ H x y v u Q I rx ry h
  unfold DOk at D
  obtain ⟨eq, ne, fn, ob, _⟩ := e
  rw [hK] at D hb h eq fn ne ob
  obtain ⟨a, dx, fs, t, rfl, ha, hy, q⟩ := h
  have rx' := rx
  cases rx
  obtain ⟨tb, lt, hn⟩ := looks_ty I ry hy
  obtain ⟨mA, J, _⟩ := ins_get I.hok ha
  obtain ⟨od, J, _⟩ := J.look
  have hr1 : Room k X.A.in1 := hr.in1
  refine ne_K (hr1.units0) I.kIn J lt hn ob ne eq fn ?_
  refine wpAny_mono (run_eq (E := X.xe) D hr1 rfl hb I (.cons rx' (.cons ry .nil)) (by rw [hps]; rfl) q) (fun w s' z => ?_) fun _ _ x => x
  obtain ⟨z', H', I', rz, k, rfl, qz⟩ := z
  cases rz
  exact ⟨k, rfl, V.bl (!k), H', I', rfl, qz⟩
end
end DD
namespace DD
open PySem PySem.Spec PyProof.Rows L2
/-! ### == and != of own classes, on data -/
def isOf (Cn : Str) (S : Sto) (d : D) : Bool := match objD S d with
  | some (C, _) => decide (C = Cn)
  | none => false
def Res.bool (no : Bool) : Res D → Res D
  | .ok (.bl k) S => .ok (.bl (if no then !k else k)) S
  | _ => .stk
def oOwn (Cn : Str) (no : Bool) (F : DF) (a b : D) (S : Sto) : Res D := if isOf Cn S a && ((tyD S b).isSome || isOf Cn S b) then (F [a, b] S).bool no else .stk
theorem nox_own {Cn : Str} {no : Bool} {F : DF} : OpN (oOwn Cn no F) := fun a b S => by
  unfold oOwn
  split
  · cases F [a, b] S with
    | ok d S => cases d <;> exact trivial
    | exc C fs S => exact trivial
    | stk => exact trivial
  · exact trivial
section
variable {X : Cx} {c : Cm} {k : Nat} {f : Addr} {ps : List Str} {Cn : Str} {F : DF} {no : Bool}
theorem isOf_at {g : Gh} {H : Hp} {S : Sto} (s : Sat c g H S) {v : V} {d : D} (r : Rep c g v d) (h : isOf Cn S d = true) : ∃ a dx us, v = .ref a ∧ H a = some (.ins (c.cm Cn) dx us) := by
  unfold isOf at h
  cases ho : objD S d with
  | none => rw [ho] at h; cases h
  | some z =>
    obtain ⟨C, fs⟩ := z
    rw [ho] at h
    obtain rfl : C = Cn := of_decide_eq_true h
    obtain ⟨a, dx, us, e, h2, _⟩ := obj_of s r ho
    exact ⟨a, dx, us, e, h2⟩
theorem opd_own (e : EqF c Cn f) (hps : ps.length = 2) : OpD c (rOwnEq c.K (c.cm Cn) no (spD c ps.length F)) (oOwn Cn no F) := fun H g S x y a b Q s rx ry h => by
  unfold oOwn at h
  by_cases hi : (isOf Cn S a && ((tyD S b).isSome || isOf Cn S b)) = true
  · rw [if_pos hi] at h
    obtain ⟨h1, h2⟩ := Bool.and_eq_true_iff.mp hi
    obtain ⟨p, dx, us, rfl, hp⟩ := isOf_at s rx h1
    have hd : ∃ t, (TyX c.K H y t ∧ PySem.W.notFirst c.K (c.cm Cn) t = true) ∨ ∃ b dy gs, y = .ref b ∧ H b = some (.ins (c.cm Cn) dy gs) := by
      rcases Bool.or_eq_true_iff.mp h2 with h3 | h3
      · cases ht : tyD S b with
        | none => rw [ht] at h3; cases h3
        | some t =>
          refine ⟨_, .inl ⟨tyx_of s ry ht, ?_⟩⟩
          show (_ || PySem.W.subIn c.K (.type t) (.ref (c.cm Cn)) == some false) = true
          rw [e.oth t (tyD_kind ht)]
          simp
      · exact ⟨.none, .inr (isOf_at s ry h3)⟩
    obtain ⟨t, ht⟩ := hd
    refine ⟨p, dx, us, t, rfl, hp, ht, g, S, [a, b], hps.symm, s, .cons rx (.cons ry .nil), ?_⟩
    cases hF : F [a, b] S with
    | ok d S' =>
      rw [hF] at h
      cases d with
      | bl k =>
        intro v H' g' x' s' r'
        cases r'
        exact ⟨k, rfl, h _ H' g' x' s' (.bl _)⟩
      | _ => exact h.elim
    | exc C fs S' => rw [hF] at h; exact h.elim
    | stk => rw [hF] at h; exact h.elim
  · rw [if_neg hi] at h; exact h.elim
end
end DD
namespace DD
open PySem PySem.Spec PyProof.Rows L2
/-! ### built-ins by name; max, min, sum of ints; xs[::-1] -/
def intsOf : List D → Option (List Int)
  | [] => some []
  | .int i :: r => (intsOf r).map (i :: ·)
  | _ :: _ => none
theorem ints_map : ∀ {xs : List D} {ns : List Int}, intsOf xs = some ns → xs = ns.map D.int
  | [], ns, h => by cases h; rfl
  | .int i :: r, ns, h => by
    have h : (intsOf r).map (i :: ·) = some ns := h
    cases hr : intsOf r with
    | none => rw [hr] at h; cases h
    | some ms => rw [hr] at h; cases h; rw [ints_map hr]; rfl
theorem intsOf_map : ∀ ns : List Int, intsOf (ns.map D.int) = some ns
  | [] => rfl
  | i :: r => by show (intsOf (r.map D.int)).map (i :: ·) = _; rw [intsOf_map r]; rfl
section
variable {c : Cm} {g : Gh}
theorem reps_ints : ∀ {ns : List Int} {us : List V}, Reps c g us (ns.map D.int) → us = ns.map V.int
  | [], _, .nil => rfl
  | i :: r, _, .cons h t => by cases h; rw [reps_ints t]; rfl
end
def cCBK (b : List D → List D → Sto → Res D) (r rk : AF) : EF := fun Γ S => (r Γ S).bind fun ds S => (rk Γ S).bind fun es S => b ds es S
def CallDK (c : Cm) (r : List V → List V → Hp → VK → Prop) (b : List D → List D → Sto → Res D) : Prop := ∀ H g S vs zs ds es Q, Sat c g H S → Reps c g vs ds → Reps c g zs es → PostG (rD c) c g Q (fun _ _ _ => False) (b ds es S) → r vs zs H Q
section
variable {X : Cx} {c : Cm} {W : WX} {x : Str} {p pos : Pos} {e : Expr} {es : List Expr} {kws : List Keyword} {r rk : AF} {id : String} {ks : List Str} {rr : List V → List V → Hp → VK → Prop} {b : List D → List D → Sto → Res D}
theorem de_callBK (hc : CallRK X (.builtin id) ks rr) (hb : CallDK c rr b) (bn : ∀ ds es S, NoX (b ds es S)) (hg : Gl X x) (hm : X.mg x = none) (hv : bootBuiltins x = some (.builtin id)) (ha : DA X c W (e :: es) r) (hk : DK X c W kws rk) (hn : x ≠ "__name__" := by decide) (hdb : (x == ("__debug__" : Str)) = false := by decide)
    (he : backTo pos (starEach (e :: es) X.env) = (false, eval e X.env) :: backTo pos (starEach es X.env) := by rfl) (hpl : (backTo pos (starEach (e :: es) X.env)).any (·.1) = false := by rfl)
    (hall : (backToKw pos (keywordEach kws X.env)).all (·.1.isSome) = true := by rfl) (hnone : (backToKw pos (keywordEach kws X.env)).any (·.1.isNone) = false := by rfl) (hks : (backToKw pos (keywordEach kws X.env)).filterMap (·.1) = ks := by rfl) :
    DE X c W (.Call (.Name x p) (e :: es) kws pos) (cCBK b r rk) := by
  obtain ⟨t1, p1, q1⟩ := ha
  obtain ⟨t2, p2, q2⟩ := hk
  refine ⟨_, pe_callBK hc hg hm hv p1 p2 hn hdb he hpl hall hnone hks, fun σ H g Γ S Q s e h => q1 σ H g Γ S _ s e (PostG.bind h fun ds S1 vs H1 g1 x1 s1 r1 h1 => q2 σ H1 g1 Γ S1 _ s1 (e.mono x1) (PostG.bind h1 fun es S2 zs H2 g2 x2 s2 r2 h2 => hb H2 g2 S2 vs zs ds es Q s2 (r1.mono x2) r2 (h2.nox (bn ds es S2))))⟩
/-- max(xs, default = d) of a list of ints -/
def rMaxDf (K : PySem.W.Frag) : List V → List V → Hp → VK → Prop := fun vs zs H Q => ∃ (a : Addr) (ns : List Int) (d : V), vs = [V.ref a] ∧ zs = [d] ∧ SqL K H a (ns.map V.int) ∧ match ns with
  | [] => Q d H
  | n :: r => Q (.int (r.foldl max n)) H
theorem reads_ints {h : Heap} {ns : List Int} {its : List Value} (r : Vals (ns.map V.int) its) : ReadsAll h its (ns.map PyData.int) [] := by
  induction ns generalizing its with
  | nil => cases r; exact .nil
  | cons n ns ih => cases r with
    | cons h1 t =>
      obtain ⟨u, e⟩ := (show ∃ t, _ = Value.int n t from h1)
      subst e
      exact .cons (as := []) (.int _ _) (ih t)
theorem alike_ints {ns : List Int} : PySem.W.AlikeAll (ns.map PyData.int) := by
  refine ⟨fun x hx y hy => ?_, fun x hx => ?_⟩
  · obtain ⟨i, _, rfl⟩ := List.mem_map.mp hx
    obtain ⟨j, _, rfl⟩ := List.mem_map.mp hy
    first | rfl | decide
  · obtain ⟨i, _, rfl⟩ := List.mem_map.mp hx
    exact nofun
theorem cr_maxDf (hc : X.calm = true) (hu : X.A.units + 66 < cLine) : CallRK X (.builtin "max") [Str.ofString "default"] (rMaxDf X.K) := by
  intro pins s σ H vs zs us ws Q I r rz h
  obtain ⟨a, ns, d, rfl, rfl, hs, q⟩ := h
  obtain rfl := Vals.ref1 r
  obtain ⟨w1, rfl, e1⟩ := rz.one
  obtain ⟨its, rv, hl, _⟩ := I.list hs
  have dep : ∀ ms : List Int, PyData.depthAll (ms.map PyData.int) ≤ 1 := fun ms => by
    induction ms with
    | nil => exact Nat.zero_le _
    | cons m r ih => exact Nat.max_le.mpr ⟨by show PyData.depth (.int m) ≤ 1; simp [PyData.depth], ih⟩
  refine PySem.W.max_list_default (xs := ns.map PyData.int) (as := []) (I.ok.hd hc) hl.isList (by simpa using reads_ints rv) alike_ints (by have := dep ns; omega) (fun e h' tk hk => ?_) fun y ys i v h' tk bs e hv hr hk => ?_
  · cases ns with
    | nil => exact ⟨d, H, I.kept hk, e1, q⟩
    | cons n r => cases e
  · cases ns with
    | nil => cases e
    | cons n r =>
      cases e
      rw [PySem.W.maxD_ints] at hr
      cases hr with
      | int => exact ⟨.int _, H, I.kept hk, ⟨_, rfl⟩, q⟩
def bMaxDf (ds es : List D) (S : Sto) : Res D := match ds, es with
  | [x], [d] => match (lstOf S x).bind intsOf with
    | some [] => .ok d S
    | some (n :: r) => .ok (.int (r.foldl max n)) S
    | none => .stk
  | _, _ => .stk
theorem nox_maxDf : ∀ ds es S, NoX (bMaxDf ds es S) := fun ds es S => by
  unfold bMaxDf
  repeat' split
  all_goals exact trivial
theorem cd_maxDf (hK : c.K = X.K) : CallDK c (rMaxDf X.K) bMaxDf := fun H g S vs zs ds es Q s r1 r2 q => by
  cases r1 with
  | nil => exact q.elim
  | cons h1 t1 => cases t1 with
    | cons _ _ => exact q.elim
    | nil => cases r2 with
      | nil => exact q.elim
      | cons h2 t2 => cases t2 with
        | cons _ _ => exact q.elim
        | nil =>
          rename_i v x w d
          have q : PostG (rD c) c g Q _ (match (lstOf S x).bind intsOf with | some [] => Res.ok d S | some (n :: r) => .ok (.int (r.foldl max n)) S | none => .stk) := q
          cases hl : lstOf S x with
          | none => rw [hl] at q; exact q.elim
          | some xs =>
            rw [hl] at q
            cases hn : intsOf xs with
            | none => rw [show (some xs).bind intsOf = none from hn] at q; exact q.elim
            | some ns =>
              rw [show (some xs).bind intsOf = some ns from hn] at q
              obtain ⟨a, us, rfl, hq, hr⟩ := lst_at s h1 hl
              rw [ints_map hn] at hr
              rw [reps_ints hr] at hq
              refine ⟨a, ns, w, rfl, rfl, .inl (.inl hq), ?_⟩
              cases ns with
              | nil => exact q w H g (Ext.refl g) s h2
              | cons n r => exact q _ H g (Ext.refl g) s (.int _)
/-- xs[::-1] -/
def revD (d : D) (S : Sto) : Res D := match lstOf S d with
  | some xs => .ok (.lst xs.reverse) S
  | none => .stk
def cRev (f : EF) : EF := fun Γ S => (f Γ S).bind revD
theorem de_rev {k : Nat} {p1 p2 p3 : Pos} {f : EF} (ho : DE X c W e f) : DE X c W (.Subscript e (.Slice none none (some (.UnaryOp .USub (.Constant (.int 1) k p1) p2)) p3) pos) (cRev f) := by
  obtain ⟨t, p, q⟩ := ho
  refine ⟨_, pe_revL p, fun σ H g Γ S Q s e h => q σ H g Γ S _ s e (h.bind fun d S1 v H1 g1 x1 s1 r1 q1 => ?_)⟩
  have q1 : PostG (rD c) c g1 Q (fun cl d H => W cl d σ H) (match lstOf S1 d with | some xs => Res.ok (.lst xs.reverse) S1 | none => .stk) := q1
  cases hl : lstOf S1 d with
  | none => rw [hl] at q1; exact q1.elim
  | some xs =>
    rw [hl] at q1
    obtain ⟨a, us, rfl, hq, hr⟩ := lst_at s1 r1 hl
    refine ⟨a, us, rfl, .inl (.inl hq), fun p hp => ?_⟩
    obtain ⟨s2, x2⟩ := s1.new hp (.lst us.reverse)
    exact q1 _ _ _ x2 s2 (.lst upd_same (hr.rev.mono x2))
end
end DD
namespace DD
open PySem PySem.Spec PyProof.Rows L2
/-! ### small rules; the facts of a text -/
theorem takes0 {X : Cx} : Takes X W0 := fun u s' ⟨_, _, _, _, _, _, _, _, _, _, _, _, _, _, _, _, z⟩ => z.elim
theorem un66 {k : Nat} {A : Around} (h : Room k A) : A.units + 66 < cLine := by
  have := h.un
  omega
theorem sl_all {X : Cx} : SlR X (rSlAll X.K) := sl_list.or (sl_tupA.or sl_str)
def cNeg (f : EF) : EF := fun Γ S => (f Γ S).bind fun d S => match d with
  | .int i => .ok (.int (-i)) S
  | _ => .stk
def cDict0 : EF := fun _ S => .ok (.dk []) S
section
variable {X : Cx} {c : Cm} {W : WX} {e : Expr} {f : EF} {pos : Pos}
theorem de_neg (h : DE X c W e f) : DE X c W (.UnaryOp .USub e pos) (cNeg f) := by
  obtain ⟨t, p, q⟩ := h
  refine ⟨_, pe_un un_neg p, fun σ H g Γ S Q s e h => q σ H g Γ S _ s e (h.bind fun d S1 v H1 g1 x1 s1 r1 q1 => ?_)⟩
  cases d with
  | int i => cases r1; exact ⟨i, rfl, q1 _ H1 g1 (Ext.refl g1) s1 (.int _)⟩
  | _ => exact q1.elim
theorem de_dict0 : DE X c W (.Dict [] [] pos) cDict0 := ⟨_, pe_dnewK, fun σ H g Γ S Q s e h p hp => by
  obtain ⟨s2, x2⟩ := s.new hp (.dK [])
  exact h _ _ _ x2 s2 (.dk upd_same .nil)⟩
end
/-- the k-th statement of a class -/
def clsBody : Stmt → Nat → Stmt
  | .ClassDef (body := b) .., k => b.getD k (.Pass ⟨0, 0, 0, 0⟩)
  | _, _ => .Pass ⟨0, 0, 0, 0⟩
/-- a def of the text -/
structure DefF (c : Cm) (mg : Str → Option Value) (x qual : Str) (st : Stmt) (ps : List Str) (f : Addr) (fd : FuncData) : Prop where
  fn : Fun c.K x qual st f fd
  bd : L2.Binds c.K fd ps []
  gl : mg x = some (.ref f)
  kp : PySem.W.keepIn c.K (.ref f) = true
/-- a def of a class of the text -/
structure MetF (c : Cm) (x qual : Str) (st : Stmt) (ps : List Str) (f : Addr) (fd : FuncData) : Prop where
  fn : Fun c.K x qual st f fd
  bd : L2.Binds c.K fd ps []
end DD
namespace DD
open PySem PySem.Spec
/-! ### what is left to show of a piece: its run, step by step -/
def Res.wp {α : Type} (r : Res α) (Q : α → Sto → Prop) (E : Str → List (Str × D) → Sto → Prop) : Prop := match r with
  | .ok a S => Q a S
  | .exc C fs S => E C fs S
  | .stk => False
structure En where
  nx : Env → Sto → Prop
  rt : D → Sto → Prop
  bk : Env → Sto → Prop
  ct : Env → Sto → Prop
  ex : Str → List (Str × D) → Env → Sto → Prop
def SRes.wp (r : SRes) (e : En) : Prop := match r with
  | .nx Γ S => e.nx Γ S
  | .rt d S => e.rt d S
  | .bk Γ S => e.bk Γ S
  | .ct Γ S => e.ct Γ S
  | .exc C fs Γ S => e.ex C fs Γ S
  | .stk => False
section
variable {α β : Type} {Q : α → Sto → Prop} {E : Str → List (Str × D) → Sto → Prop} {e : En} {Γ : Env} {S : Sto}
theorem wp_ok {a : α} : (Res.ok a S).wp Q E = Q a S := rfl
theorem wp_exc {C : Str} {fs : List (Str × D)} : (Res.exc C fs S : Res α).wp Q E = E C fs S := rfl
theorem wp_stk : (Res.stk : Res α).wp Q E = False := rfl
theorem wp_bind {r : Res β} {k : β → Sto → Res α} : (r.bind k).wp Q E = r.wp (fun a S => (k a S).wp Q E) E := by cases r <;> rfl
theorem wp_of {r : Res β} {k : β → Sto → SRes} : (SRes.of r Γ k).wp e = r.wp (fun a S => (k a S).wp e) (fun C fs S => e.ex C fs Γ S) := by cases r <;> rfl
theorem wp_seq {r : SRes} {k : SF} : (r.seq k).wp e = r.wp { e with nx := fun Γ S => (k Γ S).wp e } := by cases r <;> rfl
theorem wp_turn {r : SRes} {k : SF} : (r.turn k).wp e = r.wp { nx := fun Γ S => (k Γ S).wp e, rt := e.rt, bk := e.nx, ct := fun Γ S => (k Γ S).wp e, ex := e.ex } := by cases r <;> rfl
theorem wp_out {r : SRes} {Q : D → Sto → Prop} : r.out.wp Q E = r.wp { nx := fun _ S => Q .non S, rt := Q, bk := fun _ _ => False, ct := fun _ _ => False, ex := fun C fs _ S => E C fs S } := by cases r <;> rfl
theorem wp_ite {r r' : Res α} {p : Prop} [Decidable p] : (if p then r else r').wp Q E = if p then r.wp Q E else r'.wp Q E := by split <;> rfl
theorem wps_ite {r r' : SRes} {p : Prop} [Decidable p] : (if p then r else r').wp e = if p then r.wp e else r'.wp e := by split <;> rfl
theorem wp_nx : (SRes.nx Γ S).wp e = e.nx Γ S := rfl
theorem wp_rt {d : D} : (SRes.rt d S).wp e = e.rt d S := rfl
theorem wp_bk : (SRes.bk Γ S).wp e = e.bk Γ S := rfl
theorem wp_ct : (SRes.ct Γ S).wp e = e.ct Γ S := rfl
theorem wp_xc {C : Str} {fs : List (Str × D)} : (SRes.exc C fs Γ S).wp e = e.ex C fs Γ S := rfl
theorem wp_st : SRes.stk.wp e = False := rfl
theorem wp_try {ns : List Str} {b : SF} {hs : List Hnd} : (sTry ns b hs Γ S).wp e = (b Γ S).wp { e with ex := fun C fs Γ S => (sHs ns hs C fs Γ S).wp e } := by
  show SRes.wp (match b Γ S with | .exc C fs Γ' S' => sHs ns hs C fs Γ' S' | r => r) e = _
  cases b Γ S <;> rfl
theorem Res.wp_mono {r : Res α} {Q' : α → Sto → Prop} {E' : Str → List (Str × D) → Sto → Prop} (h : r.wp Q E) (q : ∀ a S, Q a S → Q' a S) (x : ∀ C fs S, E C fs S → E' C fs S) : r.wp Q' E' := by
  cases r with
  | ok a S => exact q a S h
  | exc C fs S => exact x C fs S h
  | stk => exact h
/-- of a result that is known -/
theorem wp_eq {r r' : Res α} (h : r = r') (k : r'.wp Q E) : r.wp Q E := by rw [h]; exact k
/-- a loop, by what holds when these items are left -/
theorem wp_loop {gf : GF} {body : SF} {src : Src} (I : List D → Env → Sto → Prop) (hg : ∀ r Γ S, I r Γ S → grd src S = true) (hnil : ∀ Γ S, I [] Γ S → e.nx Γ S)
    (hstep : ∀ x r Γ S, I (x :: r) Γ S → ∃ Γ1, gf x Γ = some Γ1 ∧ (body Γ1 S).wp { nx := fun Γ S => I r Γ S, rt := e.rt, bk := e.nx, ct := fun Γ S => I r Γ S, ex := e.ex }) : ∀ (xs : List D) (Γ : Env) (S : Sto), I xs Γ S → (sLoop gf body src xs Γ S).wp e
  | [], Γ, S, h => by
    show SRes.wp (if grd src S = true then .nx Γ S else .stk) e
    rw [if_pos (hg _ _ _ h)]
    exact hnil _ _ h
  | x :: r, Γ, S, h => by
    show SRes.wp (if grd src S = true then (match gf x Γ with | none => SRes.stk | some Γ1 => (body Γ1 S).turn (sLoop gf body src r)) else .stk) e
    rw [if_pos (hg _ _ _ h)]
    obtain ⟨Γ1, e1, w⟩ := hstep x r Γ S h
    rw [e1]
    show SRes.wp ((body Γ1 S).turn (sLoop gf body src r)) e
    rw [wp_turn]
    have ih := wp_loop I hg hnil hstep r
    revert w
    cases body Γ1 S with
    | nx Γ2 S2 => exact fun w => ih Γ2 S2 w
    | ct Γ2 S2 => exact fun w => ih Γ2 S2 w
    | rt d S2 => exact fun w => w
    | bk Γ2 S2 => exact fun w => w
    | exc C fs Γ2 S2 => exact fun w => w
    | stk => exact fun w => w
/-- a comprehension that changes nothing -/
theorem cLoop_pure {gf : GF} {ft : TF} {fe : EF} {src : Src} {Γ : Env} {S : Sto} (p : D → Bool) (h : D → D) (hg : grd src S = true) : ∀ (xs acc : List D), acc.length + xs.length ≤ sizeLine →
    (∀ x ∈ xs, ∃ Γ1, gf x Γ = some Γ1 ∧ ft Γ1 S = .ok (p x) S ∧ (p x = true → fe Γ1 S = .ok (h x) S)) → cLoop gf ft fe src Γ xs acc S = .ok (acc ++ (xs.filter p).map h) S
  | [], acc, _, _ => by
    show (if grd src S = true then Res.ok acc S else .stk) = _
    rw [if_pos hg]; simp
  | x :: r, acc, hl, hx => by
    obtain ⟨Γ1, e1, e2, e3⟩ := hx x (List.mem_cons_self ..)
    have hl' : acc.length + 1 + r.length ≤ sizeLine := by simpa [Nat.add_assoc, Nat.add_comm, Nat.add_left_comm] using hl
    rw [cLoop, if_pos hg, e1]
    simp only [e2, Res.noexc, Res.bind]
    cases hp : p x with
    | true =>
      rw [if_pos rfl, e3 hp]
      simp only [Res.noexc, Res.bind]
      rw [if_pos (by show lim (acc.length + 1) = true; unfold lim; exact decide_eq_true (by omega)), cLoop_pure p h hg r (acc ++ [h x]) (by rw [List.length_append, List.length_singleton]; exact hl') fun y hy => hx y (List.mem_cons_of_mem _ hy)]
      rw [List.filter_cons_of_pos hp, List.map_cons, List.append_assoc]; rfl
    | false =>
      rw [if_neg Bool.false_ne_true, cLoop_pure p h hg r acc (by omega) fun y hy => hx y (List.mem_cons_of_mem _ hy), List.filter_cons_of_neg (by rw [hp]; exact Bool.false_ne_true)]
end
/-! ### equality of plain data -/
/-- plain data of at most this depth -/
def pd : Nat → D → Bool
  | n + 1, .tup xs => xs.all (pd n)
  | n + 1, .lst xs => xs.all (pd n)
  | _, .non => true
  | _, .bl _ => true
  | _, .int _ => true
  | _, .str _ => true
  | _, .dk [] => true
  | _, _ => false
theorem eqDs_refl {S : Sto} {f : D → D → Option Bool} : ∀ {xs : List D}, (∀ x ∈ xs, eqI S f x x = some true) → eqDs S f xs xs = some true
  | [], _ => rfl
  | x :: r, h => by
    rw [eqDs, h x (List.mem_cons_self ..), eqDs_refl fun y hy => h y (List.mem_cons_of_mem _ hy)]; rfl
theorem eqI_refl {S : Sto} : ∀ (m n : Nat) (d : D), pd n d = true → n ≤ m → eqI S (eqD S m) d d = some true
  | m, n, d, h, le => by
    cases d with
    | non => have q := eqV_refl (x := .non) rfl; cases m <;> simpa [eqI, vw, eqD, eqStep] using q
    | bl b => have q := eqV_refl (x := .bl b) rfl; cases m <;> simpa [eqI, vw, eqD, eqStep] using q
    | int b => have q := eqV_refl (x := .int b) rfl; cases m <;> simpa [eqI, vw, eqD, eqStep] using q
    | str b => have q := eqV_refl (x := .str b) rfl; cases m <;> simpa [eqI, vw, eqD, eqStep] using q
    | dk kvs => cases kvs with
      | nil => simp [eqI, vw]
      | cons _ _ => cases n <;> simp [pd] at h
    | tup xs => cases n with
      | zero => simp [pd] at h
      | succ n => cases m with
        | zero => omega
        | succ m =>
          have hx : ∀ x ∈ xs, pd n x = true := by simpa [pd] using h
          have e := eqDs_refl (S := S) (f := eqD S m) fun x hm => eqI_refl m n x (hx x hm) (by omega)
          simp [eqI, vw, eqD, eqStep, e]
    | lst xs => cases n with
      | zero => simp [pd] at h
      | succ n => cases m with
        | zero => omega
        | succ m =>
          have hx : ∀ x ∈ xs, pd n x = true := by simpa [pd] using h
          have e := eqDs_refl (S := S) (f := eqD S m) fun x hm => eqI_refl m n x (hx x hm) (by omega)
          simp [eqI, vw, eqD, eqStep, e]
    | _ => cases n <;> simp [pd] at h
theorem eqD_tup {S : Sto} {xs : List D} {m n : Nat} (h : ∀ x ∈ xs, pd n x = true) (le : n ≤ m) : eqD S (m + 1) (.tup xs) (.tup xs) = some true := by
  have e := eqDs_refl (S := S) (f := eqD S m) fun x hm => eqI_refl m n x (h x hm) le
  simp [vw, eqD, eqStep, e]
/-- lists, wherever they stand -/
theorem eqD_lst {S : Sto} {a b : D} {xs : List D} {m n : Nat} (ha : lstOf S a = some xs) (hb : lstOf S b = some xs) (h : ∀ x ∈ xs, pd n x = true) (le : n ≤ m) : eqD S (m + 1) a b = some true := by
  have v : ∀ {d : D}, lstOf S d = some xs → vw S d = some (.l xs) := fun {d} hd => by
    cases d with
    | lst ys => cases hd; rfl
    | loc k =>
      have hd : (match S[k]? with | some (.lst xs) => some xs | _ => none) = some xs := hd
      show (match S[k]? with | some (.lst xs) => some (Vw.l xs) | _ => none) = _
      cases hk : S[k]? with
      | none => rw [hk] at hd; cases hd
      | some q => rw [hk] at hd; cases q <;> first | (cases hd; rfl) | cases hd
    | _ => cases hd
  have e := eqDs_refl (S := S) (f := eqD S m) fun x hm => eqI_refl m n x (h x hm) le
  simp [eqD, eqStep, v ha, v hb, e]
end DD
namespace DD
open PySem PySem.Spec
/-! ### the steps, for simp: what comes later waits as a constant -/
def En.thn (e : En) (b : SF) : En := { e with nx := fun Γ S => (b Γ S).wp e }
def En.tr (e : En) (ns : List Str) (hs : List Hnd) : En := { e with ex := fun C fs Γ S => (sHs ns hs C fs Γ S).wp e }
def En.dEf (P : D → Sto → Prop) (E : Str → List (Str × D) → Sto → Prop) : En := { nx := fun _ S => P .non S, rt := P, bk := fun _ _ => False, ct := fun _ _ => False, ex := fun C fs _ S => E C fs S }
def kSet (n : Nat) (e : En) (Γ : Env) (d : D) (S : Sto) : Prop := e.nx (Γ.set n (some d)) S
theorem g_kSet {n : Nat} {e : En} {Γ : Env} {d : D} {S : Sto} : kSet n e Γ d S = (e.nx (Γ.set n (some d)) S) := rfl
def kEx (e : En) (Γ : Env) (C : Str) (fs : List (Str × D)) (S : Sto) : Prop := e.ex C fs Γ S
theorem g_kEx {e : En} {Γ : Env} {C : Str} {fs : List (Str × D)} {S : Sto} : kEx e Γ C fs S = (e.ex C fs Γ S) := rfl
def kRet (e : En) (d : D) (S : Sto) : Prop := e.rt d S
theorem g_kRet {e : En} {d : D} {S : Sto} : kRet e d S = (e.rt d S) := rfl
def kDrop (e : En) (Γ : Env) (d : D) (S : Sto) : Prop := e.nx Γ S
theorem g_kDrop {e : En} {Γ : Env} {d : D} {S : Sto} : kDrop e Γ d S = (e.nx Γ S) := rfl
def kIf (a : SF) (b : SF) (e : En) (Γ : Env) (k : Bool) (S : Sto) : Prop := if k = true then (a Γ S).wp e else (b Γ S).wp e
theorem g_kIf {a : SF} {b : SF} {e : En} {Γ : Env} {k : Bool} {S : Sto} : kIf a b e Γ k S = (if k = true then (a Γ S).wp e else (b Γ S).wp e) := rfl
def kAsg (gf : GF) (e : En) (Γ : Env) (d : D) (S : Sto) : Prop := match gf d Γ with | some Γ' => e.nx Γ' S | none => False
theorem g_kAsg {gf : GF} {e : En} {Γ : Env} {d : D} {S : Sto} : kAsg gf e Γ d S = (match gf d Γ with | some Γ' => e.nx Γ' S | none => False) := rfl
def kPut3 (v : D) (o : D) (e : En) (Γ : Env) (d : D) (S : Sto) : Prop := match DD.putAt S o d v with | some S' => e.nx Γ S' | none => False
theorem g_kPut3 {v : D} {o : D} {e : En} {Γ : Env} {d : D} {S : Sto} : kPut3 v o e Γ d S = (match DD.putAt S o d v with | some S' => e.nx Γ S' | none => False) := rfl
def kPut2 (fi : EF) (v : D) (e : En) (Γ : Env) (d : D) (S : Sto) : Prop := (fi Γ S).wp (kPut3 v d e Γ) (kEx e Γ)
theorem g_kPut2 {fi : EF} {v : D} {e : En} {Γ : Env} {d : D} {S : Sto} : kPut2 fi v e Γ d S = ((fi Γ S).wp (kPut3 v d e Γ) (kEx e Γ)) := rfl
def kPut1 (fo : EF) (fi : EF) (e : En) (Γ : Env) (d : D) (S : Sto) : Prop := (fo Γ S).wp (kPut2 fi d e Γ) (kEx e Γ)
theorem g_kPut1 {fo : EF} {fi : EF} {e : En} {Γ : Env} {d : D} {S : Sto} : kPut1 fo fi e Γ d S = ((fo Γ S).wp (kPut2 fi d e Γ) (kEx e Γ)) := rfl
def kFor (gf : GF) (body : SF) (e : En) (Γ : Env) (src : Src) (S : Sto) : Prop := (sLoop gf body src src.xs Γ S).wp e
theorem g_kFor {gf : GF} {body : SF} {e : En} {Γ : Env} {src : Src} {S : Sto} : kFor gf body e Γ src S = ((sLoop gf body src src.xs Γ S).wp e) := rfl
def kRaise (C : Str) (f : Str) (e : En) (Γ : Env) (d : D) (S : Sto) : Prop := e.ex C [(f, d)] Γ S
theorem g_kRaise {C : Str} {f : Str} {e : En} {Γ : Env} {d : D} {S : Sto} : kRaise C f e Γ d S = (e.ex C [(f, d)] Γ S) := rfl
def kOp2 (o : D → D → Sto → Res D) (x : D) (P : D → Sto → Prop) (E : Str → List (Str × D) → Sto → Prop) (d : D) (S : Sto) : Prop := (o x d S).wp P E
theorem g_kOp2 {o : D → D → Sto → Res D} {x : D} {P : D → Sto → Prop} {E : Str → List (Str × D) → Sto → Prop} {d : D} {S : Sto} : kOp2 o x P E d S = ((o x d S).wp P E) := rfl
def kOp1 (o : D → D → Sto → Res D) (g : EF) (P : D → Sto → Prop) (E : Str → List (Str × D) → Sto → Prop) (Γ : Env) (d : D) (S : Sto) : Prop := (g Γ S).wp (kOp2 o d P E) E
theorem g_kOp1 {o : D → D → Sto → Res D} {g : EF} {P : D → Sto → Prop} {E : Str → List (Str × D) → Sto → Prop} {Γ : Env} {d : D} {S : Sto} : kOp1 o g P E Γ d S = ((g Γ S).wp (kOp2 o d P E) E) := rfl
def kB (b : List D → Sto → Res D) (P : D → Sto → Prop) (E : Str → List (Str × D) → Sto → Prop) (ds : List D) (S : Sto) : Prop := (b ds S).wp P E
theorem g_kB {b : List D → Sto → Res D} {P : D → Sto → Prop} {E : Str → List (Str × D) → Sto → Prop} {ds : List D} {S : Sto} : kB b P E ds S = ((b ds S).wp P E) := rfl
def kCons2 (x : D) (PL : List D → Sto → Prop) (ds : List D) (S : Sto) : Prop := PL (x :: ds) S
theorem g_kCons2 {x : D} {PL : List D → Sto → Prop} {ds : List D} {S : Sto} : kCons2 x PL ds S = (PL (x :: ds) S) := rfl
def kCons1 (r : AF) (PL : List D → Sto → Prop) (E : Str → List (Str × D) → Sto → Prop) (Γ : Env) (d : D) (S : Sto) : Prop := (r Γ S).wp (kCons2 d PL) E
theorem g_kCons1 {r : AF} {PL : List D → Sto → Prop} {E : Str → List (Str × D) → Sto → Prop} {Γ : Env} {d : D} {S : Sto} : kCons1 r PL E Γ d S = ((r Γ S).wp (kCons2 d PL) E) := rfl
def kToB (PB : Bool → Sto → Prop) (E : Str → List (Str × D) → Sto → Prop) (d : D) (S : Sto) : Prop := (toB d S).wp PB E
theorem g_kToB {PB : Bool → Sto → Prop} {E : Str → List (Str × D) → Sto → Prop} {d : D} {S : Sto} : kToB PB E d S = ((toB d S).wp PB E) := rfl
def kTru (PB : Bool → Sto → Prop) (E : Str → List (Str × D) → Sto → Prop) (d : D) (S : Sto) : Prop := (truD d S).wp PB E
theorem g_kTru {PB : Bool → Sto → Prop} {E : Str → List (Str × D) → Sto → Prop} {d : D} {S : Sto} : kTru PB E d S = ((truD d S).wp PB E) := rfl
def kNot (PB : Bool → Sto → Prop) (k : Bool) (S : Sto) : Prop := PB (!k) S
theorem g_kNot {PB : Bool → Sto → Prop} {k : Bool} {S : Sto} : kNot PB k S = (PB (!k) S) := rfl
def kAnd (u : TF) (PB : Bool → Sto → Prop) (E : Str → List (Str × D) → Sto → Prop) (Γ : Env) (k : Bool) (S : Sto) : Prop := if k = true then (u Γ S).wp PB E else PB false S
theorem g_kAnd {u : TF} {PB : Bool → Sto → Prop} {E : Str → List (Str × D) → Sto → Prop} {Γ : Env} {k : Bool} {S : Sto} : kAnd u PB E Γ k S = (if k = true then (u Γ S).wp PB E else PB false S) := rfl
def kOr (u : TF) (PB : Bool → Sto → Prop) (E : Str → List (Str × D) → Sto → Prop) (Γ : Env) (k : Bool) (S : Sto) : Prop := if k = true then PB true S else (u Γ S).wp PB E
theorem g_kOr {u : TF} {PB : Bool → Sto → Prop} {E : Str → List (Str × D) → Sto → Prop} {Γ : Env} {k : Bool} {S : Sto} : kOr u PB E Γ k S = (if k = true then PB true S else (u Γ S).wp PB E) := rfl
def kAndV2 (g : EF) (P : D → Sto → Prop) (E : Str → List (Str × D) → Sto → Prop) (Γ : Env) (k : Bool) (S : Sto) : Prop := if k = true then (g Γ S).wp P E else P (.bl false) S
theorem g_kAndV2 {g : EF} {P : D → Sto → Prop} {E : Str → List (Str × D) → Sto → Prop} {Γ : Env} {k : Bool} {S : Sto} : kAndV2 g P E Γ k S = (if k = true then (g Γ S).wp P E else P (.bl false) S) := rfl
def kAndV1 (g : EF) (P : D → Sto → Prop) (E : Str → List (Str × D) → Sto → Prop) (Γ : Env) (d : D) (S : Sto) : Prop := (toB d S).wp (kAndV2 g P E Γ) E
theorem g_kAndV1 {g : EF} {P : D → Sto → Prop} {E : Str → List (Str × D) → Sto → Prop} {Γ : Env} {d : D} {S : Sto} : kAndV1 g P E Γ d S = ((toB d S).wp (kAndV2 g P E Γ) E) := rfl
def kOrV2 (g : EF) (P : D → Sto → Prop) (E : Str → List (Str × D) → Sto → Prop) (Γ : Env) (k : Bool) (S : Sto) : Prop := if k = true then P (.bl true) S else (g Γ S).wp P E
theorem g_kOrV2 {g : EF} {P : D → Sto → Prop} {E : Str → List (Str × D) → Sto → Prop} {Γ : Env} {k : Bool} {S : Sto} : kOrV2 g P E Γ k S = (if k = true then P (.bl true) S else (g Γ S).wp P E) := rfl
def kOrV1 (g : EF) (P : D → Sto → Prop) (E : Str → List (Str × D) → Sto → Prop) (Γ : Env) (d : D) (S : Sto) : Prop := (toB d S).wp (kOrV2 g P E Γ) E
theorem g_kOrV1 {g : EF} {P : D → Sto → Prop} {E : Str → List (Str × D) → Sto → Prop} {Γ : Env} {d : D} {S : Sto} : kOrV1 g P E Γ d S = ((toB d S).wp (kOrV2 g P E Γ) E) := rfl
def kNotV2 (P : D → Sto → Prop) (k : Bool) (S : Sto) : Prop := P (.bl (!k)) S
theorem g_kNotV2 {P : D → Sto → Prop} {k : Bool} {S : Sto} : kNotV2 P k S = (P (.bl (!k)) S) := rfl
def kNotV1 (P : D → Sto → Prop) (E : Str → List (Str × D) → Sto → Prop) (d : D) (S : Sto) : Prop := (toB d S).wp (kNotV2 P) E
theorem g_kNotV1 {P : D → Sto → Prop} {E : Str → List (Str × D) → Sto → Prop} {d : D} {S : Sto} : kNotV1 P E d S = ((toB d S).wp (kNotV2 P) E) := rfl
def kIfx (f : EF) (g : EF) (P : D → Sto → Prop) (E : Str → List (Str × D) → Sto → Prop) (Γ : Env) (k : Bool) (S : Sto) : Prop := if k = true then (f Γ S).wp P E else (g Γ S).wp P E
theorem g_kIfx {f : EF} {g : EF} {P : D → Sto → Prop} {E : Str → List (Str × D) → Sto → Prop} {Γ : Env} {k : Bool} {S : Sto} : kIfx f g P E Γ k S = (if k = true then (f Γ S).wp P E else (g Γ S).wp P E) := rfl
def kTup (P : D → Sto → Prop) (ds : List D) (S : Sto) : Prop := if lim ds.length = true then P (.tup ds) S else False
theorem g_kTup {P : D → Sto → Prop} {ds : List D} {S : Sto} : kTup P ds S = (if lim ds.length = true then P (.tup ds) S else False) := rfl
def kLst (P : D → Sto → Prop) (ds : List D) (S : Sto) : Prop := if lim ds.length = true then P (.lst ds) S else False
theorem g_kLst {P : D → Sto → Prop} {ds : List D} {S : Sto} : kLst P ds S = (if lim ds.length = true then P (.lst ds) S else False) := rfl
def kNew (P : D → Sto → Prop) (ds : List D) (S : Sto) : Prop := if lim ds.length = true then P (.loc S.length) (S ++ [.lst ds]) else False
theorem g_kNew {P : D → Sto → Prop} {ds : List D} {S : Sto} : kNew P ds S = (if lim ds.length = true then P (.loc S.length) (S ++ [.lst ds]) else False) := rfl
def kNeg (P : D → Sto → Prop) (d : D) (S : Sto) : Prop := match d with | .int i => P (.int (-i)) S | _ => False
theorem g_kNeg {P : D → Sto → Prop} {d : D} {S : Sto} : kNeg P d S = (match d with | .int i => P (.int (-i)) S | _ => False) := rfl
def kArgs2 (xs : List D) (PL : List D → Sto → Prop) (ds : List D) (S : Sto) : Prop := PL (xs ++ ds) S
theorem g_kArgs2 {xs : List D} {PL : List D → Sto → Prop} {ds : List D} {S : Sto} : kArgs2 xs PL ds S = (PL (xs ++ ds) S) := rfl
def kArgs1 (r : AF) (PL : List D → Sto → Prop) (E : Str → List (Str × D) → Sto → Prop) (Γ : Env) (ds : List D) (S : Sto) : Prop := (r Γ S).wp (kArgs2 ds PL) E
theorem g_kArgs1 {r : AF} {PL : List D → Sto → Prop} {E : Str → List (Str × D) → Sto → Prop} {Γ : Env} {ds : List D} {S : Sto} : kArgs1 r PL E Γ ds S = ((r Γ S).wp (kArgs2 ds PL) E) := rfl
def kBm2 (m : MF) (x : D) (P : D → Sto → Prop) (E : Str → List (Str × D) → Sto → Prop) (ds : List D) (S : Sto) : Prop := (m x ds S).wp P E
theorem g_kBm2 {m : MF} {x : D} {P : D → Sto → Prop} {E : Str → List (Str × D) → Sto → Prop} {ds : List D} {S : Sto} : kBm2 m x P E ds S = ((m x ds S).wp P E) := rfl
def kBm1 (T : String) (m : MF) (r : AF) (P : D → Sto → Prop) (E : Str → List (Str × D) → Sto → Prop) (Γ : Env) (d : D) (S : Sto) : Prop := if isT T S d = true then (r Γ S).wp (kBm2 m d P E) E else False
theorem g_kBm1 {T : String} {m : MF} {r : AF} {P : D → Sto → Prop} {E : Str → List (Str × D) → Sto → Prop} {Γ : Env} {d : D} {S : Sto} : kBm1 T m r P E Γ d S = (if isT T S d = true then (r Γ S).wp (kBm2 m d P E) E else False) := rfl
def kFld (ns : List Str) (x : Str) (P : D → Sto → Prop) (E : Str → List (Str × D) → Sto → Prop) (d : D) (S : Sto) : Prop := (getD ns x d S).wp P E
theorem g_kFld {ns : List Str} {x : Str} {P : D → Sto → Prop} {E : Str → List (Str × D) → Sto → Prop} {d : D} {S : Sto} : kFld ns x P E d S = ((getD ns x d S).wp P E) := rfl
def kProp (Cn : Str) (F : DF) (P : D → Sto → Prop) (E : Str → List (Str × D) → Sto → Prop) (d : D) (S : Sto) : Prop := (match objD S d with | some (C, _) => if C = Cn then (F [d] S).nox else .stk | none => .stk : Res D).wp P E
theorem g_kProp {Cn : Str} {F : DF} {P : D → Sto → Prop} {E : Str → List (Str × D) → Sto → Prop} {d : D} {S : Sto} : kProp Cn F P E d S = ((match objD S d with | some (C, _) => if C = Cn then (F [d] S).nox else .stk | none => .stk : Res D).wp P E) := rfl
def kMeth2 (F : DF) (x : D) (P : D → Sto → Prop) (E : Str → List (Str × D) → Sto → Prop) (ds : List D) (S : Sto) : Prop := (F (x :: ds) S).wp P E
theorem g_kMeth2 {F : DF} {x : D} {P : D → Sto → Prop} {E : Str → List (Str × D) → Sto → Prop} {ds : List D} {S : Sto} : kMeth2 F x P E ds S = ((F (x :: ds) S).wp P E) := rfl
def kMeth1 (C : Str) (m : Str) (F : DF) (r : AF) (P : D → Sto → Prop) (E : Str → List (Str × D) → Sto → Prop) (Γ : Env) (d : D) (S : Sto) : Prop := if isIns C S m d = true then (r Γ S).wp (kMeth2 F d P E) E else False
theorem g_kMeth1 {C : Str} {m : Str} {F : DF} {r : AF} {P : D → Sto → Prop} {E : Str → List (Str × D) → Sto → Prop} {Γ : Env} {d : D} {S : Sto} : kMeth1 C m F r P E Γ d S = (if isIns C S m d = true then (r Γ S).wp (kMeth2 F d P E) E else False) := rfl
def kMake2 (Cn : Str) (fin : Str → Nat → D → Sto → Res D) (n : Nat) (P : D → Sto → Prop) (E : Str → List (Str × D) → Sto → Prop) (d : D) (S : Sto) : Prop := (fin Cn n d S).wp P E
theorem g_kMake2 {Cn : Str} {fin : Str → Nat → D → Sto → Res D} {n : Nat} {P : D → Sto → Prop} {E : Str → List (Str × D) → Sto → Prop} {d : D} {S : Sto} : kMake2 Cn fin n P E d S = ((fin Cn n d S).wp P E) := rfl
def kMake1 (Cn : Str) (F : DF) (fin : Str → Nat → D → Sto → Res D) (P : D → Sto → Prop) (E : Str → List (Str × D) → Sto → Prop) (ds : List D) (S : Sto) : Prop := (F (.loc S.length :: ds) (S ++ [.ins Cn []])).wp (kMake2 Cn fin S.length P E) E
theorem g_kMake1 {Cn : Str} {F : DF} {fin : Str → Nat → D → Sto → Res D} {P : D → Sto → Prop} {E : Str → List (Str × D) → Sto → Prop} {ds : List D} {S : Sto} : kMake1 Cn F fin P E ds S = ((F (.loc S.length :: ds) (S ++ [.ins Cn []])).wp (kMake2 Cn fin S.length P E) E) := rfl
def kCbk2 (b : List D → List D → Sto → Res D) (xs : List D) (P : D → Sto → Prop) (E : Str → List (Str × D) → Sto → Prop) (ds : List D) (S : Sto) : Prop := (b xs ds S).wp P E
theorem g_kCbk2 {b : List D → List D → Sto → Res D} {xs : List D} {P : D → Sto → Prop} {E : Str → List (Str × D) → Sto → Prop} {ds : List D} {S : Sto} : kCbk2 b xs P E ds S = ((b xs ds S).wp P E) := rfl
def kCbk1 (b : List D → List D → Sto → Res D) (r : AF) (P : D → Sto → Prop) (E : Str → List (Str × D) → Sto → Prop) (Γ : Env) (ds : List D) (S : Sto) : Prop := (r Γ S).wp (kCbk2 b ds P E) E
theorem g_kCbk1 {b : List D → List D → Sto → Res D} {r : AF} {P : D → Sto → Prop} {E : Str → List (Str × D) → Sto → Prop} {Γ : Env} {ds : List D} {S : Sto} : kCbk1 b r P E Γ ds S = ((r Γ S).wp (kCbk2 b ds P E) E) := rfl
def kRev (P : D → Sto → Prop) (E : Str → List (Str × D) → Sto → Prop) (d : D) (S : Sto) : Prop := (revD d S).wp P E
theorem g_kRev {P : D → Sto → Prop} {E : Str → List (Str × D) → Sto → Prop} {d : D} {S : Sto} : kRev P E d S = ((revD d S).wp P E) := rfl
def kSl3 (a : D) (l : Option Int) (P : D → Sto → Prop) (E : Str → List (Str × D) → Sto → Prop) (h : Option Int) (S : Sto) : Prop := (oSl a l h S).wp P E
theorem g_kSl3 {a : D} {l : Option Int} {P : D → Sto → Prop} {E : Str → List (Str × D) → Sto → Prop} {h : Option Int} {S : Sto} : kSl3 a l P E h S = ((oSl a l h S).wp P E) := rfl
def kSl2 (a : D) (hi : XF (Option Int)) (P : D → Sto → Prop) (E : Str → List (Str × D) → Sto → Prop) (Γ : Env) (l : Option Int) (S : Sto) : Prop := (hi Γ S).wp (kSl3 a l P E) E
theorem g_kSl2 {a : D} {hi : XF (Option Int)} {P : D → Sto → Prop} {E : Str → List (Str × D) → Sto → Prop} {Γ : Env} {l : Option Int} {S : Sto} : kSl2 a hi P E Γ l S = ((hi Γ S).wp (kSl3 a l P E) E) := rfl
def kSl1 (lo : XF (Option Int)) (hi : XF (Option Int)) (P : D → Sto → Prop) (E : Str → List (Str × D) → Sto → Prop) (Γ : Env) (d : D) (S : Sto) : Prop := (lo Γ S).wp (kSl2 d hi P E Γ) E
theorem g_kSl1 {lo : XF (Option Int)} {hi : XF (Option Int)} {P : D → Sto → Prop} {E : Str → List (Str × D) → Sto → Prop} {Γ : Env} {d : D} {S : Sto} : kSl1 lo hi P E Γ d S = ((lo Γ S).wp (kSl2 d hi P E Γ) E) := rfl
def kPart (PO : Option Int → Sto → Prop) (d : D) (S : Sto) : Prop := match d with | .int i => PO (some i) S | _ => False
theorem g_kPart {PO : Option Int → Sto → Prop} {d : D} {S : Sto} : kPart PO d S = (match d with | .int i => PO (some i) S | _ => False) := rfl
def kCh5 (o : D → D → Sto → Res D) (x : D) (P : D → Sto → Prop) (E : Str → List (Str × D) → Sto → Prop) (d : D) (S : Sto) : Prop := (o x d S).wp P E
theorem g_kCh5 {o : D → D → Sto → Res D} {x : D} {P : D → Sto → Prop} {E : Str → List (Str × D) → Sto → Prop} {d : D} {S : Sto} : kCh5 o x P E d S = ((o x d S).wp P E) := rfl
def kCh4 (o : D → D → Sto → Res D) (x : D) (g : EF) (P : D → Sto → Prop) (E : Str → List (Str × D) → Sto → Prop) (Γ : Env) (k : Bool) (S : Sto) : Prop := if k = true then (g Γ S).wp (kCh5 o x P E) E else P (.bl false) S
theorem g_kCh4 {o : D → D → Sto → Res D} {x : D} {g : EF} {P : D → Sto → Prop} {E : Str → List (Str × D) → Sto → Prop} {Γ : Env} {k : Bool} {S : Sto} : kCh4 o x g P E Γ k S = (if k = true then (g Γ S).wp (kCh5 o x P E) E else P (.bl false) S) := rfl
def kCh3 (o : D → D → Sto → Res D) (x : D) (g : EF) (P : D → Sto → Prop) (E : Str → List (Str × D) → Sto → Prop) (Γ : Env) (d : D) (S : Sto) : Prop := (toB d S).wp (kCh4 o x g P E Γ) E
theorem g_kCh3 {o : D → D → Sto → Res D} {x : D} {g : EF} {P : D → Sto → Prop} {E : Str → List (Str × D) → Sto → Prop} {Γ : Env} {d : D} {S : Sto} : kCh3 o x g P E Γ d S = ((toB d S).wp (kCh4 o x g P E Γ) E) := rfl
def kCh2 (o : D → D → Sto → Res D) (o' : D → D → Sto → Res D) (x : D) (g : EF) (P : D → Sto → Prop) (E : Str → List (Str × D) → Sto → Prop) (Γ : Env) (d : D) (S : Sto) : Prop := (o x d S).wp (kCh3 o' d g P E Γ) E
theorem g_kCh2 {o : D → D → Sto → Res D} {o' : D → D → Sto → Res D} {x : D} {g : EF} {P : D → Sto → Prop} {E : Str → List (Str × D) → Sto → Prop} {Γ : Env} {d : D} {S : Sto} : kCh2 o o' x g P E Γ d S = ((o x d S).wp (kCh3 o' d g P E Γ) E) := rfl
def kCh1 (o : D → D → Sto → Res D) (o' : D → D → Sto → Res D) (f : EF) (g : EF) (P : D → Sto → Prop) (E : Str → List (Str × D) → Sto → Prop) (Γ : Env) (d : D) (S : Sto) : Prop := (f Γ S).wp (kCh2 o o' d g P E Γ) E
theorem g_kCh1 {o : D → D → Sto → Res D} {o' : D → D → Sto → Res D} {f : EF} {g : EF} {P : D → Sto → Prop} {E : Str → List (Str × D) → Sto → Prop} {Γ : Env} {d : D} {S : Sto} : kCh1 o o' f g P E Γ d S = ((f Γ S).wp (kCh2 o o' d g P E Γ) E) := rfl
def kSeq1 (PI : Src → Sto → Prop) (d : D) (S : Sto) : Prop := match d with | .lst xs => PI ⟨xs, none⟩ S | .tup xs => PI ⟨xs, none⟩ S | .wl xs => PI ⟨xs, none⟩ S | .loc n => (match S[n]? with | some (.lst xs) => PI ⟨xs, some n⟩ S | _ => False) | _ => False
theorem g_kSeq1 {PI : Src → Sto → Prop} {d : D} {S : Sto} : kSeq1 PI d S = (match d with | .lst xs => PI ⟨xs, none⟩ S | .tup xs => PI ⟨xs, none⟩ S | .wl xs => PI ⟨xs, none⟩ S | .loc n => (match S[n]? with | some (.lst xs) => PI ⟨xs, some n⟩ S | _ => False) | _ => False) := rfl
def kRg1 (PI : Src → Sto → Prop) (d : D) (S : Sto) : Prop := match d with | .int j => if inR j = true then PI ⟨(List.range j.toNat).map fun (k : Nat) => D.int k, none⟩ S else False | _ => False
theorem g_kRg1 {PI : Src → Sto → Prop} {d : D} {S : Sto} : kRg1 PI d S = (match d with | .int j => if inR j = true then PI ⟨(List.range j.toNat).map fun (k : Nat) => D.int k, none⟩ S else False | _ => False) := rfl
def kFin (fin : List D → Sto → Res D) (P : D → Sto → Prop) (E : Str → List (Str × D) → Sto → Prop) (ds : List D) (S : Sto) : Prop := (fin ds S).wp P E
theorem g_kFin {fin : List D → Sto → Res D} {P : D → Sto → Prop} {E : Str → List (Str × D) → Sto → Prop} {ds : List D} {S : Sto} : kFin fin P E ds S = ((fin ds S).wp P E) := rfl
def kLc (fin : List D → Sto → Res D) (vs : List Nat) (gf : GF) (ft : TF) (fe : EF) (P : D → Sto → Prop) (E : Str → List (Str × D) → Sto → Prop) (Γ : Env) (src : Src) (S : Sto) : Prop := (cLoop gf ft fe src (wipeD Γ vs) src.xs [] S).wp (kFin fin P E) E
theorem g_kLc {fin : List D → Sto → Res D} {vs : List Nat} {gf : GF} {ft : TF} {fe : EF} {P : D → Sto → Prop} {E : Str → List (Str × D) → Sto → Prop} {Γ : Env} {src : Src} {S : Sto} : kLc fin vs gf ft fe P E Γ src S = ((cLoop gf ft fe src (wipeD Γ vs) src.xs [] S).wp (kFin fin P E) E) := rfl
def kFp2 (ns : List Str) (x : Str) (v : D) (e : En) (Γ : Env) (d : D) (S : Sto) : Prop := (putFld ns x v d Γ S).wp e
theorem g_kFp2 {ns : List Str} {x : Str} {v : D} {e : En} {Γ : Env} {d : D} {S : Sto} : kFp2 ns x v e Γ d S = ((putFld ns x v d Γ S).wp e) := rfl
def kFp1 (ns : List Str) (x : Str) (fo : EF) (e : En) (Γ : Env) (d : D) (S : Sto) : Prop := (fo Γ S).wp (kFp2 ns x d e Γ) (kEx e Γ)
theorem g_kFp1 {ns : List Str} {x : Str} {fo : EF} {e : En} {Γ : Env} {d : D} {S : Sto} : kFp1 ns x fo e Γ d S = ((fo Γ S).wp (kFp2 ns x d e Γ) (kEx e Γ)) := rfl
section
variable {α : Type} {Q : α → Sto → Prop} {P : D → Sto → Prop} {PB : Bool → Sto → Prop} {PL : List D → Sto → Prop} {PI : Src → Sto → Prop} {PO : Option Int → Sto → Prop} {E : Str → List (Str × D) → Sto → Prop} {e : En} {Γ : Env} {S : Sto} {a b : SF} {f g f1 f2 : EF} {t u : TF} {r : AF} {i j : Int} {d d' : D} {xs ys : List D} {n : Nat}
theorem w_seq : (sSeq a b Γ S).wp e = (a Γ S).wp (e.thn b) := by
  exact wp_seq
theorem t_rt : (e.thn b).rt = e.rt := rfl
theorem t_bk : (e.thn b).bk = e.bk := rfl
theorem t_ct : (e.thn b).ct = e.ct := rfl
theorem t_ex : (e.thn b).ex = e.ex := rfl
theorem t_nx : (e.thn b).nx Γ S = (b Γ S).wp e := rfl
theorem w_set : (sSet n f Γ S).wp e = (f Γ S).wp (kSet n e Γ) (kEx e Γ) := by
  show (SRes.of _ _ _).wp e = _
  rw [wp_of]; rfl
theorem w_ret : (sRet f Γ S).wp e = (f Γ S).wp (kRet e) (kEx e Γ) := by
  show (SRes.of _ _ _).wp e = _
  rw [wp_of]; rfl
theorem w_retN : (sRetN Γ S).wp e = e.rt .non S := by
  rfl
theorem w_next : (sNext Γ S).wp e = e.nx Γ S := by
  rfl
theorem w_break : (sBreak Γ S).wp e = e.bk Γ S := by
  rfl
theorem w_cont : (sCont Γ S).wp e = e.ct Γ S := by
  rfl
theorem w_expr : (sExpr f Γ S).wp e = (f Γ S).wp (kDrop e Γ) (kEx e Γ) := by
  show (SRes.of _ _ _).wp e = _
  rw [wp_of]; rfl
theorem w_if : (sIf t a b Γ S).wp e = (t Γ S).wp (kIf a b e Γ) (kEx e Γ) := by
  show (SRes.of _ _ _).wp e = _
  rw [wp_of]
  congr
  funext k S
  exact wps_ite
theorem w_asg {gf : GF} : (sAsg gf f Γ S).wp e = (f Γ S).wp (kAsg gf e Γ) (kEx e Γ) := by
  show (SRes.of _ _ _).wp e = _
  rw [wp_of]
  congr
  funext d S
  unfold kAsg
  cases gf d Γ <;> rfl
theorem w_put {fe fo fi : EF} : (sPut fe fo fi Γ S).wp e = (fe Γ S).wp (kPut1 fo fi e Γ) (kEx e Γ) := by
  show (SRes.of _ _ _).wp e = _
  rw [wp_of]
  congr
  funext v S
  rw [wp_of]
  unfold kPut1
  congr
  funext d S
  rw [wp_of]
  unfold kPut2
  congr
  funext i S
  unfold kPut3
  cases DD.putAt S d i v <;> rfl
theorem w_for {gf : GF} {fi : XF Src} {body : SF} : (sFor gf fi body Γ S).wp e = (fi Γ S).wp (kFor gf body e Γ) (kEx e Γ) := by
  show (SRes.of _ _ _).wp e = _
  rw [wp_of]; rfl
theorem w_raise {C x : Str} : (sRaise C x f Γ S).wp e = (f Γ S).wp (kRaise C x e Γ) (kEx e Γ) := by
  show (SRes.of _ _ _).wp e = _
  rw [wp_of]; rfl
theorem w_op {o : D → D → Sto → Res D} : (cOp o f g Γ S).wp P E = (f Γ S).wp (kOp1 o g P E Γ) E := by
  show (Res.bind _ _).wp _ _ = _
  rw [wp_bind]
  congr
  funext d S
  unfold kOp1
  rw [wp_bind]
  rfl
theorem w_c {x : α} : (cC x Γ S).wp Q E = Q x S := by
  rfl
theorem w_cb {b : List D → Sto → Res D} : (cCB b r Γ S).wp P E = (r Γ S).wp (kB b P E) E := by
  show (Res.bind _ _).wp _ _ = _
  rw [wp_bind]
  rfl
theorem w_cons : (cCons f r Γ S).wp PL E = (f Γ S).wp (kCons1 r PL E Γ) E := by
  show (Res.bind _ _).wp _ _ = _
  rw [wp_bind]
  congr
  funext d S
  unfold kCons1
  rw [wp_bind]
  rfl
theorem w_nil : (cNil Γ S).wp PL E = PL [] S := by
  rfl
theorem w_test : (cTest f Γ S).wp PB E = (f Γ S).wp (kToB PB E) E := by
  show (Res.bind _ _).wp _ _ = _
  rw [wp_bind]
  rfl
theorem w_truth : (cTruth f Γ S).wp PB E = (f Γ S).wp (kTru PB E) E := by
  show (Res.bind _ _).wp _ _ = _
  rw [wp_bind]
  rfl
theorem w_not : (cNot t Γ S).wp PB E = (t Γ S).wp (kNot PB) E := by
  show (Res.bind _ _).wp _ _ = _
  rw [wp_bind]
  rfl
theorem w_and : (cAnd t u Γ S).wp PB E = (t Γ S).wp (kAnd u PB E Γ) E := by
  show (Res.bind _ _).wp _ _ = _
  rw [wp_bind]
  congr
  funext k S
  exact wp_ite
theorem w_or : (cOr t u Γ S).wp PB E = (t Γ S).wp (kOr u PB E Γ) E := by
  show (Res.bind _ _).wp _ _ = _
  rw [wp_bind]
  congr
  funext k S
  exact wp_ite
theorem w_andV : (cAndV f g Γ S).wp P E = (f Γ S).wp (kAndV1 g P E Γ) E := by
  show (Res.bind _ _).wp _ _ = _
  rw [wp_bind]
  congr
  funext d S
  unfold kAndV1
  rw [wp_bind]
  congr
  funext k S
  exact wp_ite
theorem w_orV : (cOrV f g Γ S).wp P E = (f Γ S).wp (kOrV1 g P E Γ) E := by
  show (Res.bind _ _).wp _ _ = _
  rw [wp_bind]
  congr
  funext d S
  unfold kOrV1
  rw [wp_bind]
  congr
  funext k S
  exact wp_ite
theorem w_notV : (cNotV f Γ S).wp P E = (f Γ S).wp (kNotV1 P E) E := by
  show (Res.bind _ _).wp _ _ = _
  rw [wp_bind]
  congr
  funext d S
  unfold kNotV1
  rw [wp_bind]
  rfl
theorem w_ifx : (cIf t f g Γ S).wp P E = (t Γ S).wp (kIfx f g P E Γ) E := by
  show (Res.bind _ _).wp _ _ = _
  rw [wp_bind]
  congr
  funext k S
  exact wp_ite
theorem w_tup : (cTup r Γ S).wp P E = (r Γ S).wp (kTup P) E := by
  show (Res.bind _ _).wp _ _ = _
  rw [wp_bind]
  congr
  funext k S
  exact wp_ite
theorem w_lst : (cLst r Γ S).wp P E = (r Γ S).wp (kLst P) E := by
  show (Res.bind _ _).wp _ _ = _
  rw [wp_bind]
  congr
  funext k S
  exact wp_ite
theorem w_new : (cNew r Γ S).wp P E = (r Γ S).wp (kNew P) E := by
  show (Res.bind _ _).wp _ _ = _
  rw [wp_bind]
  congr
  funext k S
  exact wp_ite
theorem w_neg : (cNeg f Γ S).wp P E = (f Γ S).wp (kNeg P) E := by
  show (Res.bind _ _).wp _ _ = _
  rw [wp_bind]
  congr
  funext d S
  cases d <;> rfl
theorem w_dict0 : (cDict0 Γ S).wp P E = P (.dk []) S := by
  rfl
theorem w_call {F : DF} : (cCall F r Γ S).wp P E = (r Γ S).wp (kB F P E) E := by
  show (Res.bind _ _).wp _ _ = _
  rw [wp_bind]
  rfl
theorem w_args {rk : AF} : (cArgs r rk Γ S).wp PL E = (r Γ S).wp (kArgs1 rk PL E Γ) E := by
  show (Res.bind _ _).wp _ _ = _
  rw [wp_bind]
  congr
  funext d S
  unfold kArgs1
  rw [wp_bind]
  rfl
theorem w_bm {T : String} {m : MF} : (cBM T m f r Γ S).wp P E = (f Γ S).wp (kBm1 T m r P E Γ) E := by
  show (Res.bind _ _).wp _ _ = _
  rw [wp_bind]
  congr
  funext d S
  unfold kBm1
  rw [wp_ite, wp_bind]
  rfl
theorem w_fld {ns : List Str} {x : Str} : (cFld ns x f Γ S).wp P E = (f Γ S).wp (kFld ns x P E) E := by
  show (Res.bind _ _).wp _ _ = _
  rw [wp_bind]
  rfl
theorem w_prop {Cn : Str} {F : DF} : (cProp Cn F f Γ S).wp P E = (f Γ S).wp (kProp Cn F P E) E := by
  show (Res.bind _ _).wp _ _ = _
  rw [wp_bind]
  rfl
theorem w_meth {C m : Str} {F : DF} : (cMeth C m F f r Γ S).wp P E = (f Γ S).wp (kMeth1 C m F r P E Γ) E := by
  show (Res.bind _ _).wp _ _ = _
  rw [wp_bind]
  congr
  funext d S
  unfold kMeth1
  rw [wp_ite, wp_bind]
  rfl
theorem w_make {Cn : Str} {F : DF} {fin : Str → Nat → D → Sto → Res D} : (cMake Cn F fin r Γ S).wp P E = (r Γ S).wp (kMake1 Cn F fin P E) E := by
  show (Res.bind _ _).wp _ _ = _
  rw [wp_bind]
  congr
  funext ds S
  unfold kMake1
  rw [wp_bind]
  rfl
theorem w_cbk {b : List D → List D → Sto → Res D} {rk : AF} : (cCBK b r rk Γ S).wp P E = (r Γ S).wp (kCbk1 b rk P E Γ) E := by
  show (Res.bind _ _).wp _ _ = _
  rw [wp_bind]
  congr
  funext ds S
  unfold kCbk1
  rw [wp_bind]
  rfl
theorem w_rev : (cRev f Γ S).wp P E = (f Γ S).wp (kRev P E) E := by
  show (Res.bind _ _).wp _ _ = _
  rw [wp_bind]
  rfl
theorem w_sl {lo hi : XF (Option Int)} : (cSl f lo hi Γ S).wp P E = (f Γ S).wp (kSl1 lo hi P E Γ) E := by
  show (Res.bind _ _).wp _ _ = _
  rw [wp_bind]
  congr
  funext d S
  unfold kSl1
  rw [wp_bind]
  congr
  funext l S
  unfold kSl2
  rw [wp_bind]
  rfl
theorem w_nopart : (cNoPart Γ S).wp PO E = PO none S := by
  rfl
theorem w_part : (cPart f Γ S).wp PO E = (f Γ S).wp (kPart PO) E := by
  show (Res.bind _ _).wp _ _ = _
  rw [wp_bind]
  congr
  funext d S
  cases d <;> rfl
theorem w_chain {o o' : D → D → Sto → Res D} : (cChain o o' f f1 f2 Γ S).wp P E = (f Γ S).wp (kCh1 o o' f1 f2 P E Γ) E := by
  show (Res.bind _ _).wp _ _ = _
  rw [wp_bind]
  congr
  funext a S
  unfold kCh1
  rw [wp_bind]
  congr
  funext b S
  unfold kCh2
  rw [wp_bind]
  congr
  funext d S
  unfold kCh3
  rw [wp_bind]
  congr
  funext k S
  unfold kCh4
  cases k
  · rfl
  · exact wp_bind
theorem w_cseq : (cSeq f Γ S).wp PI E = (f Γ S).wp (kSeq1 PI) E := by
  show (Res.bind _ _).wp _ _ = _
  rw [wp_bind]
  congr
  funext d S
  cases d with
  | loc n =>
    show (match S[n]? with | some (.lst xs) => (Res.ok ⟨xs, some n⟩ S : Res Src) | _ => .stk).wp PI E = (match S[n]? with | some (.lst xs) => PI ⟨xs, some n⟩ S | _ => False)
    cases S[n]? with
    | none => rfl
    | some k => cases k <;> rfl
  | _ => rfl
theorem w_rg1 : (cRange1 f Γ S).wp PI E = (f Γ S).wp (kRg1 PI) E := by
  show (Res.bind _ _).wp _ _ = _
  rw [wp_bind]
  congr
  funext d S
  cases d with
  | int j =>
    unfold kRg1
    by_cases h : inR j = true
    · simp only [if_pos h, wp_ok]
    · simp only [if_neg h, wp_stk]
  | _ => rfl
theorem w_lc {fin : List D → Sto → Res D} {vs : List Nat} {gf : GF} {fi : XF Src} {fe : EF} : (cLc fin vs gf fi t fe Γ S).wp P E = (fi Γ S).wp (kLc fin vs gf t fe P E Γ) E := by
  show (Res.bind _ _).wp _ _ = _
  rw [wp_bind]
  congr
  funext src S
  unfold kLc
  rw [wp_bind]
  rfl
theorem w_yes : (cYes Γ S).wp PB E = PB true S := by
  rfl
theorem w_def {body : SF} {ds : List D} : (dDef n body ds S).wp P E = (body (ds.map some ++ List.replicate (n - ds.length) none) S).wp (En.dEf P E) := by
  exact wp_out
theorem f_nx : (En.dEf P E).nx Γ S = P .non S := rfl
theorem f_rt : (En.dEf P E).rt d S = P d S := rfl
theorem f_ex {C : Str} {fs : List (Str × D)} : (En.dEf P E).ex C fs Γ S = E C fs S := rfl
theorem w_try {ns : List Str} {hs : List Hnd} : (sTry ns a hs Γ S).wp e = (a Γ S).wp (e.tr ns hs) := wp_try
theorem r_nx {ns : List Str} {hs : List Hnd} : (e.tr ns hs).nx = e.nx := rfl
theorem r_rt {ns : List Str} {hs : List Hnd} : (e.tr ns hs).rt = e.rt := rfl
theorem r_ex {ns : List Str} {hs : List Hnd} {C : Str} {fs : List (Str × D)} : (e.tr ns hs).ex C fs Γ S = (sHs ns hs C fs Γ S).wp e := rfl
theorem w_fput {ns : List Str} {x : Str} {fv fo : EF} : (sFldD ns x fv fo Γ S).wp e = (fv Γ S).wp (kFp1 ns x fo e Γ) (kEx e Γ) := by
  show (SRes.of _ _ _).wp e = _
  rw [wp_of]
  congr
  funext v S
  exact wp_of
theorem w_var : (cVar n Γ S).wp P E = match Γ[n]? with | some (some d) => P d S | _ => False := by
  unfold cVar
  cases h : Γ[n]? with
  | none => rfl
  | some o => cases o <;> rfl
theorem lm0 : lim 0 = true := by decide
theorem lm1 : lim 1 = true := by decide
theorem lm2 : lim 2 = true := by decide
theorem lm3 : lim 3 = true := by decide
theorem lm4 : lim 4 = true := by decide
theorem lm5 : lim 5 = true := by decide
theorem lm6 : lim 6 = true := by decide
theorem lm7 : lim 7 = true := by decide
theorem lm8 : lim 8 = true := by decide
theorem lm9 : lim 9 = true := by decide
theorem lm10 : lim 10 = true := by decide
theorem lm11 : lim 11 = true := by decide
theorem lm12 : lim 12 = true := by decide
theorem lm13 : lim 13 = true := by decide
theorem lm14 : lim 14 = true := by decide
theorem lm15 : lim 15 = true := by decide
theorem lm16 : lim 16 = true := by decide
theorem lm17 : lim 17 = true := by decide
theorem lm18 : lim 18 = true := by decide
theorem lm19 : lim 19 = true := by decide
/-! operators on what is known -/
theorem x_add : oAdd (.int i) (.int j) S = .ok (.int (i + j)) S := rfl
theorem x_sub : oSub (.int i) (.int j) S = .ok (.int (i - j)) S := rfl
theorem x_lt : oLt (.int i) (.int j) S = .ok (.bl (decide (i < j))) S := rfl
theorem x_le : oLe (.int i) (.int j) S = .ok (.bl (decide (i ≤ j))) S := rfl
theorem x_gt : oGt (.int i) (.int j) S = .ok (.bl (decide (j < i))) S := rfl
theorem x_ge : oGe (.int i) (.int j) S = .ok (.bl (decide (j ≤ i))) S := rfl
theorem x_mul (h : bMul i j = true) : oMulI (.int i) (.int j) S = .ok (.int (i * j)) S := if_pos h
theorem x_mod (h : j ≠ 0) : oMod (.int i) (.int j) S = .ok (.int (i.fmod j)) S := if_pos (decide_eq_true h)
theorem x_div (h : j ≠ 0) (h2 : j.natAbs < 2 ^ 100) : oDiv (.int i) (.int j) S = .ok (.int (i.fdiv j)) S := if_pos (decide_eq_true ⟨h, h2⟩)
theorem x_pow (h : 0 ≤ j ∧ j ≤ 1000000 ∧ i.natAbs < 2 ^ 64) : oPow (.int i) (.int j) S = .ok (.int (i ^ j.toNat)) S := if_pos (decide_eq_true h)
theorem x_bl {k : Bool} : toB (.bl k) S = .ok k S := rfl
theorem x_tbl {k : Bool} : truD (.bl k) S = .ok k S := rfl
theorem x_max {k : Int} : oMax2 (D.int i) (D.int k) S = .ok (D.int (if k > i then k else i)) S := rfl
theorem x_abs : oAbs (D.int i) S = .ok (D.int (if i < 0 then -i else i)) S := rfl
theorem x_int : oToInt (.int i) S = .ok (.int i) S := rfl
theorem x_b1 {h : D → Sto → Res D} : b1 h [d] S = h d S := rfl
theorem x_b2 {h : D → D → Sto → Res D} : b2 h [d, d'] S = h d d' S := rfl
theorem x_lenL : oLen (.lst xs) S = .ok (.int xs.length) S := rfl
theorem x_lenT : oLen (.tup xs) S = .ok (.int xs.length) S := rfl
theorem x_lenO (h : S[n]? = some (.lst xs)) : oLen (.loc n) S = .ok (.int xs.length) S := by
  show (match sqOf S (.loc n) with | some xs => Res.ok (D.int xs.length) S | none => .stk) = _
  rw [show sqOf S (.loc n) = some xs from by show (match S[n]? with | some (.lst xs) => some xs | _ => none) = _; rw [h]]
theorem x_truO (h : S[n]? = some (.lst xs)) : truD (.loc n) S = .ok (!xs.isEmpty) S := by
  show (match S[n]? with | some (.lst xs) => Res.ok (!xs.isEmpty) S | _ => .stk) = _
  rw [h]
theorem x_loc (h : S[n]? = some (.lst xs)) : lstOf S (.loc n) = some xs := by
  show (match S[n]? with | some (.lst xs) => some xs | _ => none) = _
  rw [h]
theorem x_sqOf (h : lstOf S d = some xs) : sqOf S d = some xs := by
  cases d with
  | lst ys => exact h
  | loc k => exact h
  | _ => cases h
theorem x_ix {m : Nat} (h : sqOf S d = some xs) (hi : i = m) (hm : m < xs.length) : oIx d (.int i) S = .ok xs[m] S := by
  subst hi
  have e : atD xs (m : Int) = some xs[m] := by simp [atD, L2.ixN, hm]
  cases d with
  | str z => cases h
  | tup ys => show (match sqOf S (.tup ys) with | some xs => (match atD xs (m : Int) with | some d => Res.ok d S | none => .stk) | none => .stk) = _; rw [h]; simp only [e]
  | lst ys => show (match sqOf S (.lst ys) with | some xs => (match atD xs (m : Int) with | some d => Res.ok d S | none => .stk) | none => .stk) = _; rw [h]; simp only [e]
  | wl ys => show (match sqOf S (.wl ys) with | some xs => (match atD xs (m : Int) with | some d => Res.ok d S | none => .stk) | none => .stk) = _; rw [h]; simp only [e]
  | loc k => show (match sqOf S (.loc k) with | some xs => (match atD xs (m : Int) with | some d => Res.ok d S | none => .stk) | none => .stk) = _; rw [h]; simp only [e]
  | _ => cases h
theorem x_put {m : Nat} (h : S[n]? = some (.lst xs)) (hi : i = m) (hm : m < xs.length) : DD.putAt S (.loc n) (.int i) d = some (S.set n (.lst (xs.set m d))) := by
  subst hi
  simp [DD.putAt, locOf, h, L2.ixN, hm]
theorem x_app (h : S[n]? = some (.lst xs)) (hl : xs.length + 1 ≤ sizeLine) : mAppend (.loc n) [d] S = .ok .non (S.set n (.lst (xs ++ [d]))) := by
  simp [mAppend, locOf, h, guard1, lim, hl]
theorem x_isT (h : S[n]? = some (.lst xs)) : isT "list" S (.loc n) = true := by
  simp [isT, rdOf, lstOf, h]
end
end DD
set_option maxHeartbeats 4000000
namespace TP
open PySem PySem.Spec PyProof.Rows L2 DD
def topS (i : Nat) : Stmt := PySem.Challenge.pw_tailpick_k30_costs.main.body.getD i (.Pass ⟨0, 0, 0, 0⟩)
def inS (i k : Nat) : Stmt := clsBody (topS i) k
abbrev s_l_start : Stmt := topS 27
theorem sc_l_start : FnScope ["_law_script", "_law_cell"] ["_law_script"] (defScope s_l_start) := ⟨rfl, rfl, rfl, by decide +kernel, rfl, by decide +kernel, by decide +kernel⟩
abbrev s_l_take : Stmt := topS 28
theorem sc_l_take : FnScope ["_law_state", "_law_limit", "_law_cells", "_law_at_here", "_law_cell", "_law_number"] ["_law_state", "_law_limit"] (defScope s_l_take) := ⟨rfl, rfl, rfl, by decide +kernel, rfl, by decide +kernel, by decide +kernel⟩
abbrev s_l_steps : Stmt := topS 30
theorem sc_l_steps : FnScope ["_law_state", "_law_told_here", "_law_begin1", "_law_amount", "_law_turn"] ["_law_state"] (defScope s_l_steps) := ⟨rfl, rfl, rfl, by decide +kernel, rfl, by decide +kernel, by decide +kernel⟩
abbrev s_l_is_pair : Stmt := topS 35
theorem sc_l_is_pair : FnScope ["_law_item", "_law_part"] ["_law_item"] (defScope s_l_is_pair) := ⟨rfl, rfl, rfl, by decide +kernel, rfl, by decide +kernel, by decide +kernel⟩
abbrev s_l_spoiled : Stmt := topS 36
theorem sc_l_spoiled : FnScope ["_law_state", "_law_pairs", "_law_told_here", "_law_plan", "_law_k", "_law_begin1", "_law_amount", "_law_near"] ["_law_state", "_law_pairs"] (defScope s_l_spoiled) := ⟨rfl, rfl, rfl, by decide +kernel, rfl, by decide +kernel, by decide +kernel⟩
abbrev s_l_is_number : Stmt := topS 32
theorem sc_l_is_number : FnScope ["_law_value"] ["_law_value"] (defScope s_l_is_number) := ⟨rfl, rfl, rfl, by decide +kernel, rfl, by decide +kernel, by decide +kernel⟩
abbrev s_l_due : Stmt := topS 33
theorem sc_l_due : FnScope ["_law_pairs1", "_law_before", "_law_step"] ["_law_pairs1"] (defScope s_l_due) := ⟨rfl, rfl, rfl, by decide +kernel, rfl, by decide +kernel, by decide +kernel⟩
abbrev s_Cost_steps : Stmt := inS 25 2
theorem sc_Cost_steps : FnScope ["self"] ["self"] (defScope s_Cost_steps) := ⟨rfl, rfl, rfl, by decide +kernel, rfl, by decide +kernel, by decide +kernel⟩
abbrev s_check_count : Stmt := topS 10
theorem sc_check_count : FnScope ["count", "least", "most"] ["count", "least", "most"] (defScope s_check_count) := ⟨rfl, rfl, rfl, by decide +kernel, rfl, by decide +kernel, by decide +kernel⟩
abbrev s_is_integer : Stmt := topS 8
theorem sc_is_integer : FnScope ["value"] ["value"] (defScope s_is_integer) := ⟨rfl, rfl, rfl, by decide +kernel, rfl, by decide +kernel, by decide +kernel⟩
abbrev s_is_number : Stmt := topS 9
theorem sc_is_number : FnScope ["value"] ["value"] (defScope s_is_number) := ⟨rfl, rfl, rfl, by decide +kernel, rfl, by decide +kernel, by decide +kernel⟩
abbrev s_is_step : Stmt := topS 16
theorem sc_is_step : FnScope ["value", "before", "time", "cost"] ["value", "before"] (defScope s_is_step) := ⟨rfl, rfl, rfl, by decide +kernel, rfl, by decide +kernel, by decide +kernel⟩
abbrev s_check_steps : Stmt := topS 17
theorem sc_check_steps : FnScope ["steps", "before", "value"] ["steps"] (defScope s_check_steps) := ⟨rfl, rfl, rfl, by decide +kernel, rfl, by decide +kernel, by decide +kernel⟩
abbrev s_Cost_init : Stmt := inS 25 0
theorem sc_Cost_init : FnScope ["self", "steps"] ["self", "steps"] (defScope s_Cost_init) := ⟨rfl, rfl, rfl, by decide +kernel, rfl, by decide +kernel, by decide +kernel⟩
abbrev s_l_told : Stmt := topS 34
theorem sc_l_told : FnScope ["_law_way", "_law_pairs", "e"] ["_law_way", "_law_pairs"] (defScope s_l_told) := ⟨rfl, rfl, rfl, by decide +kernel, rfl, by decide +kernel, by decide +kernel⟩
abbrev s_l_shuffled : Stmt := topS 29
theorem sc_l_shuffled : FnScope ["_law_state", "_law_items", "_law_left", "_law_told_here", "_law_k"] ["_law_state", "_law_items"] (defScope s_l_shuffled) := ⟨rfl, rfl, rfl, by decide +kernel, rfl, by decide +kernel, by decide +kernel⟩
abbrev s_l_latest : Stmt := topS 38
theorem sc_l_latest : FnScope ["_law_pairs", "_law_limit1", "_law_begin", "_law_amount"] ["_law_pairs", "_law_limit1"] (defScope s_l_latest) := ⟨rfl, rfl, rfl, by decide +kernel, rfl, by decide +kernel, by decide +kernel⟩
abbrev s_l_at : Stmt := topS 31
theorem sc_l_at : FnScope ["_law_pairs1", "_law_begin1", "_law_amount", "_law_begin", "_law_later"] ["_law_pairs1", "_law_begin1"] (defScope s_l_at) := ⟨rfl, rfl, rfl, by decide +kernel, rfl, by decide +kernel, by decide +kernel⟩
abbrev s_check_number : Stmt := topS 11
theorem sc_check_number : FnScope ["value"] ["value"] (defScope s_check_number) := ⟨rfl, rfl, rfl, by decide +kernel, rfl, by decide +kernel, by decide +kernel⟩
abbrev s_cost_at : Stmt := topS 18
theorem sc_cost_at : FnScope ["steps", "time", "start", "cost"] ["steps", "time"] (defScope s_cost_at) := ⟨rfl, rfl, rfl, by decide +kernel, rfl, by decide +kernel, by decide +kernel⟩
abbrev s_Cost_at : Stmt := inS 25 3
theorem sc_Cost_at : FnScope ["self", "time"] ["self", "time"] (defScope s_Cost_at) := ⟨rfl, rfl, rfl, by decide +kernel, rfl, by decide +kernel, by decide +kernel⟩
abbrev s_Cost_latest : Stmt := inS 25 4
theorem sc_Cost_latest : FnScope ["self", "bound", "start", "cost"] ["self", "bound"] (defScope s_Cost_latest) := ⟨rfl, rfl, rfl, by decide +kernel, rfl, by decide +kernel, by decide +kernel⟩
abbrev s_l_ask : Stmt := topS 37
theorem sc_l_ask : FnScope ["_law_way", "_law_cost", "_law_number", "e"] ["_law_way", "_law_cost", "_law_number"] (defScope s_l_ask) := ⟨rfl, rfl, rfl, by decide +kernel, rfl, by decide +kernel, by decide +kernel⟩
abbrev s_l_asked_right : Stmt := topS 39
theorem sc_l_asked_right : FnScope ["_law_state", "_law_pairs", "_law_cost", "_law_marks", "_law_begin", "_law_amount", "_law_turn", "_law_number", "_law_way", "_law_due_here", "_law_told_here"] ["_law_state", "_law_pairs", "_law_cost"] (defScope s_l_asked_right) := ⟨rfl, rfl, rfl, by decide +kernel, rfl, by decide +kernel, by decide +kernel⟩
abbrev s_Cost_eq : Stmt := inS 25 8
theorem sc_Cost_eq : FnScope ["self", "other"] ["self", "other"] (defScope s_Cost_eq) := ⟨rfl, rfl, rfl, by decide +kernel, rfl, by decide +kernel, by decide +kernel⟩
abbrev s_law : Stmt := topS 40
theorem sc_law : FnScope ["_law_script", "_law_state", "_law_pairs", "_law_turn", "_law_due_here", "_law_handed", "_law_cost", "_law_near", "_law_same", "_law_thing"] ["_law_script"] (defScope s_law) := ⟨rfl, rfl, rfl, by decide +kernel, rfl, by decide +kernel, by decide +kernel⟩
end TP
set_option maxHeartbeats 4000000
namespace TP
open PySem PySem.Spec PyProof.Rows L2 DD
def f_l_start : DF := dDef 2 (sRet (cNew (cCons (cLc finN [1] (gN 1) (cSeq (cVar 0)) cYes (cCB (b1 oToInt) (cCons (cVar 1) cNil))) (cCons (cC (.int 0)) (cCons (cC (.int 0)) cNil)))))
def f_l_take : DF := dDef 6 (sSeq (sSet 2 (cOp oIx (cVar 0) (cC (.int 0))))
    (sSeq (sPut (cOp oAdd (cOp oIx (cVar 0) (cC (.int 2))) (cC (.int 1))) (cVar 0) (cC (.int 2)))
    (sSeq (sSet 3 (cOp oMod (cCB (b1 oToInt) (cCons (cOp oIx (cVar 0) (cC (.int 1))) cNil)) (cCB (b2 oMax2) (cCons (cC (.int 1)) (cCons (cCB (b1 oLen) (cCons (cVar 2) cNil)) cNil)))))
    (sSeq (sSet 4 (cC (.int 0)))
    (sSeq (sIf (cTruth (cVar 2)) (sSet 4 (cOp oIx (cVar 2) (cVar 3))) sNext)
    (sSeq (sIf (cTest (cOp oGe (cCB (b1 oAbs) (cCons (cVar 4) cNil)) (cOp oPow (cC (.int 10)) (cC (.int 18))))) (sSeq (sPut (cOp oDiv (cCB (b1 oAbs) (cCons (cVar 4) cNil)) (cVar 1)) (cVar 2) (cVar 3))
    (sRet (cOp oMod (cCB (b1 oAbs) (cCons (cVar 4) cNil)) (cVar 1)))) sNext)
    (sSeq (sPut (cOp oAdd (cOp oIx (cVar 0) (cC (.int 1))) (cC (.int 1))) (cVar 0) (cC (.int 1)))
    (sSeq (sSet 5 (cOp oMod (cOp oPow (cCB (b1 oToInt) (cCons (cOp oAdd (cOp oAdd (cOp oMulI (cOp oMod (cCB (b1 oToInt) (cCons (cVar 4) cNil)) (cC (.int 2147483647))) (cC (.int 48271))) (cOp oMulI (cOp oIx (cVar 0) (cC (.int 2))) (cC (.int 69621)))) (cC (.int 11))) cNil)) (cC (.int 5))) (cC (.int 2147483647))))
    (sSeq (sSet 5 (cOp oMod (cOp oPow (cCB (b1 oToInt) (cCons (cOp oAdd (cOp oAdd (cOp oMulI (cVar 5) (cC (.int 16807))) (cOp oMulI (cOp oIx (cVar 0) (cC (.int 2))) (cC (.int 40692)))) (cC (.int 7))) cNil)) (cC (.int 5))) (cC (.int 2147483629))))
    (sRet (cOp oMod (cOp oDiv (cVar 5) (cC (.int 16))) (cVar 1))))))))))))
def f_l_steps : DF := dDef 5 (sSeq (sSet 1 (cNew cNil))
    (sSeq (sAsg (gT 2 (gsCons (gN 2) (gsCons (gN 3) gsNil))) (cTup (cCons (cNeg (cC (.int 1))) (cCons (cC (.int 0)) cNil))))
    (sSeq (sFor (gN 4) (cRange1 (cCall f_l_take (cCons (cVar 0) (cCons (cOp oIx (cLst (cCons (cC (.int 2)) (cCons (cC (.int 4)) (cCons (cC (.int 7)) cNil)))) (cCall f_l_take (cCons (cVar 0) (cCons (cC (.int 3)) cNil)))) cNil)))) (sSeq (sSet 2 (cOp oAdd (cOp oAdd (cVar 2) (cC (.int 1))) (cCall f_l_take (cCons (cVar 0) (cCons (cOp oIx (cLst (cCons (cC (.int 2)) (cCons (cC (.int 6)) (cCons (cOp oPow (cC (.int 10)) (cC (.int 9))) cNil)))) (cCall f_l_take (cCons (cVar 0) (cCons (cC (.int 3)) cNil)))) cNil)))))
    (sSeq (sSet 3 (cOp oAdd (cOp oAdd (cVar 3) (cC (.int 1))) (cCall f_l_take (cCons (cVar 0) (cCons (cOp oIx (cLst (cCons (cC (.int 1)) (cCons (cC (.int 3)) (cCons (cOp oPow (cC (.int 10)) (cC (.int 20))) cNil)))) (cCall f_l_take (cCons (cVar 0) (cCons (cC (.int 3)) cNil)))) cNil)))))
    (sExpr (cBM "list" mAppend (cVar 1) (cCons (cTup (cCons (cVar 2) (cCons (cVar 3) cNil))) cNil))))))
    (sRet (cVar 1)))))
def f_l_is_pair : DF := dDef 2 (sSeq (sIf (cOr (cNot (cTruth (cCB (b2 (oIsi ["Cost"])) (cCons (cVar 0) (cCons (cC (.ty "tuple")) cNil))))) (cTest (cOp (oEq2 (!·)) (cCB (b1 oLen) (cCons (cVar 0) cNil)) (cC (.int 2))))) (sRet (cC (.bl false))) sNext)
    (sRet (cOp (oEq2 id) (cLc finL [1] (gN 1) (cSeq (cVar 0)) (cOr (cNot (cTruth (cCB (b2 (oIsi ["Cost"])) (cCons (cVar 1) (cCons (cC (.ty "int")) cNil))))) (cTruth (cCB (b2 (oIsi ["Cost"])) (cCons (cVar 1) (cCons (cC (.ty "bool")) cNil))))) (cVar 1)) (cLst cNil))))
def f_l_spoiled : DF := dDef 8 (sSeq (sSet 2 (cCB (b1 oListN) (cCons (cVar 1) cNil)))
    (sSeq (sSet 3 (cCall f_l_take (cCons (cVar 0) (cCons (cC (.int 9)) cNil))))
    (sSeq (sIf (cTest (cOp (oEq2 id) (cVar 3) (cC (.int 0)))) (sSet 2 (cLc finN [4] (gN 4) (cRange1 (cOp oAdd (cC (.int 39)) (cCall f_l_take (cCons (cVar 0) (cCons (cC (.int 4)) cNil))))) cYes (cTup (cCons (cVar 4) (cCons (cOp oAdd (cVar 4) (cC (.int 1))) cNil))))) sNext)
    (sSeq (sSet 4 (cCall f_l_take (cCons (cVar 0) (cCons (cCB (b2 oMax2) (cCons (cC (.int 1)) (cCons (cCB (b1 oLen) (cCons (cVar 2) cNil)) cNil))) cNil))))
    (sSeq (sIf (cAnd (cTest (cOp (oIn2 id) (cVar 3) (cLst (cCons (cC (.int 1)) (cCons (cC (.int 2)) (cCons (cC (.int 3)) (cCons (cC (.int 4)) cNil))))))) (cAnd (cTest (cOp (oEq2 (!·)) (cVar 2) (cLst cNil))) (cTruth (cCall f_l_is_pair (cCons (cOp oIx (cVar 2) (cVar 4)) cNil))))) (sSeq (sAsg (gT 2 (gsCons (gN 5) (gsCons (gN 6) gsNil))) (cOp oIx (cVar 2) (cVar 4)))
    (sSeq (sSet 7 (cLst (cCons (cTup (cCons (cVar 5) (cCons (cNeg (cC (.int 1))) cNil))) (cCons (cTup (cCons (cNeg (cC (.int 1))) (cCons (cVar 6) cNil))) (cCons (cTup (cCons (cVar 5) (cCons (cC (.int 0)) cNil))) (cCons (cTup (cCons (cC (.bl true)) (cCons (cVar 6) cNil))) (cCons (cTup (cCons (cVar 5) (cCons (cC .non) cNil))) (cCons (cTup (cCons (cC (.str "1")) (cCons (cVar 6) cNil))) (cCons (cTup (cCons (cVar 5) cNil)) cNil)))))))))
    (sSeq (sSet 7 (cOp oAdd (cVar 7) (cLst (cCons (cLst (cCons (cVar 5) (cCons (cVar 6) cNil))) (cCons (cTup (cCons (cVar 5) (cCons (cVar 6) (cCons (cC (.int 1)) cNil)))) (cCons (cC .non) (cCons (cC (.int 7)) (cCons (cTup (cCons (cOp oSub (cVar 5) (cC (.int 1))) (cCons (cVar 6) cNil))) (cCons (cTup (cCons (cVar 5) (cCons (cOp oSub (cVar 6) (cC (.int 1))) cNil))) cNil)))))))))
    (sSeq (sSet 7 (cOp oAdd (cVar 7) (cLst (cCons (cOp oIx (cVar 2) (cC (.int 0))) (cCons (cOp oIx (cVar 2) (cNeg (cC (.int 1)))) (cCons cDict0 (cCons (cC (.str "4:1")) (cCons (cTup (cCons (cVar 5) (cCons (cC (.bl true)) cNil))) cNil))))))))
    (sPut (cOp oIx (cVar 7) (cCall f_l_take (cCons (cVar 0) (cCons (cC (.int 18)) cNil)))) (cVar 2) (cVar 4)))))) sNext)
    (sSeq (sIf (cTest (cOp (oEq2 id) (cVar 3) (cC (.int 5)))) (sSet 2 (cOp oAdd (cVar 2) (cSl (cVar 2) cNoPart (cPart (cC (.int 1)))))) sNext)
    (sSeq (sIf (cTest (cOp (oEq2 id) (cVar 3) (cC (.int 6)))) (sSet 2 (cRev (cVar 2))) sNext)
    (sRet (cVar 2)))))))))
def f_l_is_number : DF := dDef 1 (sRet (cAndV (cCB (b2 (oIsi ["Cost"])) (cCons (cVar 0) (cCons (cC (.ty "int")) cNil))) (cNotV (cCB (b2 (oIsi ["Cost"])) (cCons (cVar 0) (cCons (cC (.ty "bool")) cNil))))))
def f_l_due : DF := dDef 3 (sSeq (sIf (cTest (cOp oGt (cCB (b1 oLen) (cCons (cVar 0) cNil)) (cC (.int 40)))) (sRet (cTup (cCons (cC (.str "count")) (cCons (cCB (b1 oLen) (cCons (cVar 0) cNil)) cNil)))) sNext)
    (sSeq (sSet 1 (cTup (cCons (cNeg (cC (.int 1))) (cCons (cC (.int 0)) cNil))))
    (sSeq (sFor (gN 2) (cSeq (cVar 0)) (sSeq (sIf (cOr (cNot (cTruth (cCB (b2 (oIsi ["Cost"])) (cCons (cVar 2) (cCons (cC (.ty "tuple")) cNil))))) (cTest (cOp (oEq2 (!·)) (cCB (b1 oLen) (cCons (cVar 2) cNil)) (cC (.int 2))))) (sRet (cTup (cCons (cC (.str "steps")) (cCons (cVar 2) cNil)))) sNext)
    (sSeq (sIf (cOr (cNot (cTruth (cCall f_l_is_number (cCons (cOp oIx (cVar 2) (cC (.int 0))) cNil)))) (cOr (cTest (cOp oLe (cOp oIx (cVar 2) (cC (.int 0))) (cOp oIx (cVar 1) (cC (.int 0))))) (cOr (cNot (cTruth (cCall f_l_is_number (cCons (cOp oIx (cVar 2) (cC (.int 1))) cNil)))) (cTest (cOp oLe (cOp oIx (cVar 2) (cC (.int 1))) (cOp oIx (cVar 1) (cC (.int 1)))))))) (sRet (cTup (cCons (cC (.str "steps")) (cCons (cVar 2) cNil)))) sNext)
    (sSet 1 (cVar 2)))))
    (sRet (cTup (cCons (cC (.str "told")) (cCons (cCB (b1 oTuple) (cCons (cVar 0) cNil)) cNil)))))))
def f_Cost_steps : DF := dDef 1 (sRet (cFld ["Cost"] "_steps" (cVar 0)))
def f_check_count : DF := dDef 3 (sIf (cNot (cTest (cChain oLe oLe (cVar 1) (cVar 0) (cVar 2)))) (sRaise "BadCount" "count" (cVar 0)) sNext)
def f_is_integer : DF := dDef 1 (sRet (cAndV (cCB (b2 (oIsi ["Cost"])) (cCons (cVar 0) (cCons (cC (.ty "int")) cNil))) (cNotV (cCB (b2 (oIsi ["Cost"])) (cCons (cVar 0) (cCons (cC (.ty "bool")) cNil))))))
def f_is_number : DF := dDef 1 (sRet (cAndV (cCall f_is_integer (cCons (cVar 0) cNil)) (cOp oGe (cVar 0) (cC (.int 0)))))
def f_is_step : DF := dDef 4 (sSeq (sIf (cOr (cNot (cTruth (cCB (b2 (oIsi ["Cost"])) (cCons (cVar 0) (cCons (cC (.ty "tuple")) cNil))))) (cTest (cOp (oEq2 (!·)) (cCB (b1 oLen) (cCons (cVar 0) cNil)) (cC (.int 2))))) (sRet (cC (.bl false))) sNext)
    (sSeq (sAsg (gT 2 (gsCons (gN 2) (gsCons (gN 3) gsNil))) (cVar 0))
    (sRet (cAndV (cCall f_is_number (cCons (cVar 2) cNil)) (cAndV (cCall f_is_number (cCons (cVar 3) cNil)) (cAndV (cOp oGt (cVar 2) (cOp oIx (cVar 1) (cC (.int 0)))) (cOp oGt (cVar 3) (cOp oIx (cVar 1) (cC (.int 1))))))))))
def f_check_steps : DF := dDef 3 (sSeq (sExpr (cCall f_check_count (cCons (cCB (b1 oLen) (cCons (cVar 0) cNil)) (cCons (cC (.int 0)) (cCons (cC (.int 40)) cNil)))))
    (sSeq (sSet 1 (cTup (cCons (cNeg (cC (.int 1))) (cCons (cC (.int 0)) cNil))))
    (sFor (gN 2) (cSeq (cVar 0)) (sSeq (sIf (cNot (cTruth (cCall f_is_step (cCons (cVar 2) (cCons (cVar 1) cNil))))) (sRaise "BadSteps" "value" (cVar 2)) sNext)
    (sSet 1 (cVar 2))))))
def f_Cost_init : DF := dDef 2 (sSeq (sExpr (cCall f_check_steps (cCons (cVar 1) cNil)))
    (sFldD ["Cost"] "_steps" (cCB (b1 oTuple) (cCons (cVar 1) cNil)) (cVar 0)))
def f_l_told : DF := dDef 3 (sTry ["BadCount", "BadNumber", "BadSteps"] (sSeq (sIf (cTest (cOp (oEq2 id) (cVar 0) (cC (.int 0)))) (sRet (cTup (cCons (cC (.str "told")) (cCons (cProp "Cost" f_Cost_steps (cMake "Cost" f_Cost_init finIns (cCons (cVar 1) cNil))) cNil)))) sNext)
    (sRet (cTup (cCons (cC (.str "told")) (cCons (cProp "Cost" f_Cost_steps (cMake "Cost" f_Cost_init finIns (cArgs cNil (cCons (cVar 1) cNil)))) cNil))))) (⟨"BadCount", (some 2), (xTup (xCons (xC (cC (.str "count"))) (xCons (xFld "BadCount" "count") xNil)))⟩ :: ⟨"BadSteps", (some 2), (xTup (xCons (xC (cC (.str "steps"))) (xCons (xFld "BadSteps" "value") xNil)))⟩ :: []))
def f_l_shuffled : DF := dDef 5 (sSeq (sSet 2 (cCB (b1 oListN) (cCons (cVar 1) cNil)))
    (sSeq (sSet 3 (cNew cNil))
    (sSeq (sFor (gN 4) (cRange1 (cCB (b1 oLen) (cCons (cVar 1) cNil))) (sExpr (cBM "list" mAppend (cVar 3) (cCons (cBM "list" mPopAt (cVar 2) (cCons (cCall f_l_take (cCons (cVar 0) (cCons (cCB (b1 oLen) (cCons (cVar 2) cNil)) cNil))) cNil)) cNil))))
    (sRet (cVar 3)))))
def f_l_latest : DF := dDef 4 (sSeq (sFor (gT 2 (gsCons (gN 2) (gsCons (gN 3) gsNil))) (cSeq (cVar 0)) (sIf (cTest (cOp oGt (cVar 3) (cVar 1))) (sRet (cOp oSub (cVar 2) (cC (.int 1)))) sNext))
    (sRet (cC .non)))
def f_l_at : DF := dDef 5 (sSeq (sSet 2 (cC (.int 0)))
    (sSeq (sFor (gT 2 (gsCons (gN 3) (gsCons (gN 4) gsNil))) (cSeq (cVar 0)) (sIf (cTest (cOp oLe (cVar 3) (cVar 1))) (sSet 2 (cVar 4)) sNext))
    (sRet (cVar 2))))
def f_check_number : DF := dDef 1 (sIf (cNot (cTruth (cCall f_is_number (cCons (cVar 0) cNil)))) (sRaise "BadNumber" "value" (cVar 0)) sNext)
def f_cost_at : DF := dDef 4 (sRet (cCBK bMaxDf (cCons (cLc finL [2, 3] (gT 2 (gsCons (gN 2) (gsCons (gN 3) gsNil))) (cSeq (cVar 0)) (cTest (cOp oLe (cVar 2) (cVar 1))) (cVar 3)) cNil) (cCons (cC (.int 0)) cNil)))
def f_Cost_at : DF := dDef 2 (sSeq (sExpr (cCall f_check_number (cCons (cVar 1) cNil)))
    (sRet (cCall f_cost_at (cCons (cFld ["Cost"] "_steps" (cVar 0)) (cCons (cVar 1) cNil)))))
def f_Cost_latest : DF := dDef 4 (sSeq (sExpr (cCall f_check_number (cCons (cVar 1) cNil)))
    (sSeq (sFor (gT 2 (gsCons (gN 2) (gsCons (gN 3) gsNil))) (cSeq (cFld ["Cost"] "_steps" (cVar 0))) (sIf (cTest (cOp oGt (cVar 3) (cVar 1))) (sRet (cOp oSub (cVar 2) (cC (.int 1)))) sNext))
    (sRet (cC .non))))
def f_l_ask : DF := dDef 4 (sTry ["BadCount", "BadNumber", "BadSteps"] (sSeq (sIf (cTest (cOp (oEq2 id) (cVar 0) (cC (.int 0)))) (sRet (cTup (cCons (cC (.str "told")) (cCons (cMeth "Cost" "at" f_Cost_at (cVar 1) (cArgs (cCons (cVar 2) cNil) cNil)) cNil)))) sNext)
    (sSeq (sIf (cTest (cOp (oEq2 id) (cVar 0) (cC (.int 1)))) (sRet (cTup (cCons (cC (.str "told")) (cCons (cMeth "Cost" "latest" f_Cost_latest (cVar 1) (cArgs (cCons (cVar 2) cNil) cNil)) cNil)))) sNext)
    (sSeq (sIf (cTest (cOp (oEq2 id) (cVar 0) (cC (.int 2)))) (sRet (cTup (cCons (cC (.str "told")) (cCons (cMeth "Cost" "at" f_Cost_at (cVar 1) (cArgs cNil (cCons (cVar 2) cNil))) cNil)))) sNext)
    (sRet (cTup (cCons (cC (.str "told")) (cCons (cMeth "Cost" "latest" f_Cost_latest (cVar 1) (cArgs cNil (cCons (cVar 2) cNil))) cNil))))))) (⟨"BadNumber", (some 3), (xTup (xCons (xC (cC (.str "number"))) (xCons (xFld "BadNumber" "value") xNil)))⟩ :: []))
def f_l_asked_right : DF := dDef 11 (sSeq (sSet 3 (cLst (cCons (cC (.int 0)) (cCons (cC (.int 1)) cNil))))
    (sSeq (sFor (gT 2 (gsCons (gN 4) (gsCons (gN 5) gsNil))) (cSeq (cVar 1)) (sSet 3 (cOp oAdd (cVar 3) (cLst (cCons (cOp oSub (cVar 4) (cC (.int 1))) (cCons (cVar 4) (cCons (cOp oAdd (cVar 4) (cC (.int 1))) (cCons (cOp oSub (cVar 5) (cC (.int 1))) (cCons (cVar 5) (cCons (cOp oAdd (cVar 5) (cC (.int 1))) cNil))))))))))
    (sSeq (sFor (gN 6) (cRange1 (cC (.int 8))) (sSeq (sSet 7 (cOp oIx (cOp oAdd (cVar 3) (cLst (cCons (cNeg (cC (.int 1))) (cCons (cC (.bl true)) (cCons (cC .non) (cCons (cC (.str "1")) (cCons (cOp oPow (cC (.int 10)) (cC (.int 25))) (cCons (cLst (cCons (cC (.int 1)) cNil)) cNil)))))))) (cCall f_l_take (cCons (cVar 0) (cCons (cOp oAdd (cCB (b1 oLen) (cCons (cVar 3) cNil)) (cC (.int 6))) cNil)))))
    (sFor (gN 8) (cSeq (cCall f_l_shuffled (cCons (cVar 0) (cCons (cLst (cCons (cC (.int 0)) (cCons (cC (.int 1)) (cCons (cC (.int 2)) (cCons (cC (.int 3)) cNil))))) cNil)))) (sSeq (sSet 9 (cTup (cCons (cC (.str "number")) (cCons (cVar 7) cNil))))
    (sSeq (sIf (cAnd (cTruth (cCall f_l_is_number (cCons (cVar 7) cNil))) (cTest (cOp oGe (cVar 7) (cC (.int 0))))) (sSet 9 (cTup (cCons (cC (.str "told")) (cCons (cOp oIx (cLst (cCons (cCall f_l_at (cCons (cVar 1) (cCons (cVar 7) cNil))) (cCons (cCall f_l_latest (cCons (cVar 1) (cCons (cVar 7) cNil))) cNil))) (cOp oMod (cVar 8) (cC (.int 2)))) cNil)))) sNext)
    (sSeq (sSet 10 (cCall f_l_ask (cCons (cVar 8) (cCons (cVar 2) (cCons (cVar 7) cNil)))))
    (sIf (cOr (cTest (cOp (oEq2 (!·)) (cVar 10) (cVar 9))) (cAnd (cTest (cOp (oEq2 id) (cOp oIx (cVar 9) (cC (.int 0))) (cC (.str "told")))) (cTruth (cCB (b2 (oIsi ["Cost"])) (cCons (cOp oIx (cVar 10) (cC (.int 1))) (cCons (cC (.ty "bool")) cNil)))))) (sRet (cC (.bl false))) sNext)))))))
    (sRet (cC (.bl true))))))
def f_Cost_eq : DF := dDef 2 (sRet (cAndV (cCB (b2 (oIsi ["Cost"])) (cCons (cVar 1) (cCons (cC (.cls "Cost")) cNil))) (cOp (oEq2 id) (cFld ["Cost"] "_steps" (cVar 0)) (cFld ["Cost"] "_steps" (cVar 1)))))
def f_law : DF := dDef 10 (sSeq (sSet 1 (cCall f_l_start (cCons (cVar 0) cNil)))
    (sSeq (sSet 2 (cCall f_l_steps (cCons (cVar 1) cNil)))
    (sSeq (sFor (gN 3) (cRange1 (cOp oIx (cLst (cCons (cC (.int 0)) (cCons (cC (.int 0)) (cCons (cC (.int 1)) (cCons (cC (.int 2)) cNil))))) (cCall f_l_take (cCons (cVar 1) (cCons (cC (.int 4)) cNil))))) (sSet 2 (cCall f_l_spoiled (cCons (cVar 1) (cCons (cVar 2) cNil)))))
    (sSeq (sSet 4 (cCall f_l_due (cCons (cVar 2) cNil)))
    (sSeq (sSet 5 (cCB (b1 oListN) (cCons (cVar 2) cNil)))
    (sSeq (sIf (cOr (cTest (cOp (oEq2 (!·)) (cCall f_l_told (cCons (cC (.int 0)) (cCons (cVar 5) cNil))) (cVar 4))) (cOr (cTest (cOp (oEq2 (!·)) (cCall f_l_told (cCons (cC (.int 1)) (cCons (cCB (b1 oTuple) (cCons (cVar 2) cNil)) cNil))) (cVar 4))) (cTest (cOp (oEq2 (!·)) (cVar 5) (cVar 2))))) (sRet (cC (.bl false))) sNext)
    (sSeq (sIf (cTest (cOp (oEq2 (!·)) (cOp oIx (cVar 4) (cC (.int 0))) (cC (.str "told")))) (sRet (cC (.bl true))) sNext)
    (sSeq (sSet 6 (cMake "Cost" f_Cost_init finIns (cCons (cVar 5) cNil)))
    (sSeq (sExpr (cBM "list" mAppend (cVar 5) (cCons (cTup (cCons (cOp oPow (cC (.int 10)) (cC (.int 30))) (cCons (cOp oPow (cC (.int 10)) (cC (.int 30))) cNil))) cNil)))
    (sSeq (sIf (cOr (cTest (cOp (oEq2 (!·)) (cProp "Cost" f_Cost_steps (cVar 6)) (cOp oIx (cVar 4) (cC (.int 1))))) (cOr (cNot (cTruth (cCB (b2 (oIsi ["Cost"])) (cCons (cProp "Cost" f_Cost_steps (cVar 6)) (cCons (cC (.ty "tuple")) cNil))))) (cNot (cTruth (cCall f_l_asked_right (cCons (cVar 1) (cCons (cOp oIx (cVar 4) (cC (.int 1))) (cCons (cVar 6) cNil)))))))) (sRet (cC (.bl false))) sNext)
    (sSeq (sSet 7 (cCall f_l_steps (cCons (cVar 1) cNil)))
    (sSeq (sSet 8 (cOp (oEq2 id) (cCB (b1 oTuple) (cCons (cVar 7) cNil)) (cOp oIx (cVar 4) (cC (.int 1)))))
    (sSeq (sIf (cOr (cTest (cOp (oEq2 (!·)) (cOp (oOwn "Cost" false f_Cost_eq) (cVar 6) (cMake "Cost" f_Cost_init finIns (cCons (cVar 7) cNil))) (cVar 8))) (cOr (cTest (cOp (oEq2 (!·)) (cOp (oOwn "Cost" false f_Cost_eq) (cMake "Cost" f_Cost_init finIns (cCons (cVar 7) cNil)) (cVar 6)) (cVar 8))) (cTest (cOp (oOwn "Cost" true f_Cost_eq) (cVar 6) (cMake "Cost" f_Cost_init finIns (cCons (cCB (b1 oList) (cCons (cOp oIx (cVar 4) (cC (.int 1))) cNil)) cNil)))))) (sRet (cC (.bl false))) sNext)
    (sRet (cOp (oEq2 id) (cLc finL [9] (gN 9) (cSeq (cLst (cCons (cC .non) (cCons (cC (.int 0)) (cCons (cC (.str "free")) (cCons (cTup cNil) (cCons (cLst cNil) (cCons cDict0 (cCons (cOp oIx (cVar 4) (cC (.int 1))) cNil))))))))) (cTest (cOp (oOwn "Cost" false f_Cost_eq) (cVar 6) (cVar 9))) (cVar 9)) (cLst cNil))))))))))))))))
/-- what the heap holds of the text -/
structure Facts (P : Program) (w : World) (mg : Str → Option Value) (c : Cm) where
  z_abs : mg "abs" = none
  z_bool : mg "bool" = none
  z_int : mg "int" = none
  z_isinstance : mg "isinstance" = none
  z_len : mg "len" = none
  z_list : mg "list" = none
  z_max : mg "max" = none
  z_range : mg "range" = none
  z_tuple : mg "tuple" = none
  g_MOST_STEPS : ∃ t, mg "MOST_STEPS" = some (.int 40 t)
  c_BadCount : mg "BadCount" = some (.ref (c.cm "BadCount"))
  x_BadCount : ∀ base, XCls P w mg base c "BadCount" "count"
  n_BadCount : PySem.W.findIn c.K (.ref (c.cm "BadCount")) "count" = some none
  c_BadNumber : mg "BadNumber" = some (.ref (c.cm "BadNumber"))
  x_BadNumber : ∀ base, XCls P w mg base c "BadNumber" "value"
  n_BadNumber : PySem.W.findIn c.K (.ref (c.cm "BadNumber")) "value" = some none
  c_BadSteps : mg "BadSteps" = some (.ref (c.cm "BadSteps"))
  x_BadSteps : ∀ base, XCls P w mg base c "BadSteps" "value"
  n_BadSteps : PySem.W.findIn c.K (.ref (c.cm "BadSteps")) "value" = some none
  exf : ExF c ["BadCount", "BadNumber", "BadSteps"]
  isi : IsiF c ["Cost"]
  c_Cost : mg "Cost" = some (.ref (c.cm "Cost"))
  f_steps : FldF c ["Cost"] "_steps"
  p_l_start : Addr
  d_l_start : FuncData
  l_start : DefF c mg "_law_start" "_law_start" s_l_start ["_law_script"] p_l_start d_l_start
  p_l_take : Addr
  d_l_take : FuncData
  l_take : DefF c mg "_law_take" "_law_take" s_l_take ["_law_state", "_law_limit"] p_l_take d_l_take
  p_l_steps : Addr
  d_l_steps : FuncData
  l_steps : DefF c mg "_law_steps" "_law_steps" s_l_steps ["_law_state"] p_l_steps d_l_steps
  p_l_is_pair : Addr
  d_l_is_pair : FuncData
  l_is_pair : DefF c mg "_law_is_pair" "_law_is_pair" s_l_is_pair ["_law_item"] p_l_is_pair d_l_is_pair
  p_l_spoiled : Addr
  d_l_spoiled : FuncData
  l_spoiled : DefF c mg "_law_spoiled" "_law_spoiled" s_l_spoiled ["_law_state", "_law_pairs"] p_l_spoiled d_l_spoiled
  p_l_is_number : Addr
  d_l_is_number : FuncData
  l_is_number : DefF c mg "_law_is_number" "_law_is_number" s_l_is_number ["_law_value"] p_l_is_number d_l_is_number
  p_l_due : Addr
  d_l_due : FuncData
  l_due : DefF c mg "_law_due" "_law_due" s_l_due ["_law_pairs1"] p_l_due d_l_due
  p_Cost_steps : Addr
  d_Cost_steps : FuncData
  Cost_steps : MetF c "steps" "Cost.steps" s_Cost_steps ["self"] p_Cost_steps d_Cost_steps
  a_Cost_steps : Addr
  q_Cost_steps : PropOf c.K (c.cm "Cost") "steps" a_Cost_steps p_Cost_steps
  p_check_count : Addr
  d_check_count : FuncData
  check_count : DefF c mg "check_count" "check_count" s_check_count ["count", "least", "most"] p_check_count d_check_count
  p_is_integer : Addr
  d_is_integer : FuncData
  is_integer : DefF c mg "is_integer" "is_integer" s_is_integer ["value"] p_is_integer d_is_integer
  p_is_number : Addr
  d_is_number : FuncData
  is_number : DefF c mg "is_number" "is_number" s_is_number ["value"] p_is_number d_is_number
  p_is_step : Addr
  d_is_step : FuncData
  is_step : DefF c mg "is_step" "is_step" s_is_step ["value", "before"] p_is_step d_is_step
  p_check_steps : Addr
  d_check_steps : FuncData
  check_steps : DefF c mg "check_steps" "check_steps" s_check_steps ["steps"] p_check_steps d_check_steps
  p_Cost_init : Addr
  d_Cost_init : FuncData
  Cost_init : MetF c "__init__" "Cost.__init__" s_Cost_init ["self", "steps"] p_Cost_init d_Cost_init
  mk_Cost : Mk c.K (c.cm "Cost") p_Cost_init
  b1_Cost_init : BindK c.K d_Cost_init ["self", "steps"] 1 ["steps"]
  p_l_told : Addr
  d_l_told : FuncData
  l_told : DefF c mg "_law_told" "_law_told" s_l_told ["_law_way", "_law_pairs"] p_l_told d_l_told
  p_l_shuffled : Addr
  d_l_shuffled : FuncData
  l_shuffled : DefF c mg "_law_shuffled" "_law_shuffled" s_l_shuffled ["_law_state", "_law_items"] p_l_shuffled d_l_shuffled
  p_l_latest : Addr
  d_l_latest : FuncData
  l_latest : DefF c mg "_law_latest" "_law_latest" s_l_latest ["_law_pairs", "_law_limit1"] p_l_latest d_l_latest
  p_l_at : Addr
  d_l_at : FuncData
  l_at : DefF c mg "_law_at" "_law_at" s_l_at ["_law_pairs1", "_law_begin1"] p_l_at d_l_at
  p_check_number : Addr
  d_check_number : FuncData
  check_number : DefF c mg "check_number" "check_number" s_check_number ["value"] p_check_number d_check_number
  p_cost_at : Addr
  d_cost_at : FuncData
  cost_at : DefF c mg "cost_at" "cost_at" s_cost_at ["steps", "time"] p_cost_at d_cost_at
  p_Cost_at : Addr
  d_Cost_at : FuncData
  Cost_at : MetF c "at" "Cost.at" s_Cost_at ["self", "time"] p_Cost_at d_Cost_at
  m_Cost_at : Meth c.K (c.cm "Cost") "at" p_Cost_at
  b1_Cost_at : BindK c.K d_Cost_at ["self", "time"] 1 ["time"]
  p_Cost_latest : Addr
  d_Cost_latest : FuncData
  Cost_latest : MetF c "latest" "Cost.latest" s_Cost_latest ["self", "bound"] p_Cost_latest d_Cost_latest
  m_Cost_latest : Meth c.K (c.cm "Cost") "latest" p_Cost_latest
  b1_Cost_latest : BindK c.K d_Cost_latest ["self", "bound"] 1 ["bound"]
  p_l_ask : Addr
  d_l_ask : FuncData
  l_ask : DefF c mg "_law_ask" "_law_ask" s_l_ask ["_law_way", "_law_cost", "_law_number"] p_l_ask d_l_ask
  p_l_asked_right : Addr
  d_l_asked_right : FuncData
  l_asked_right : DefF c mg "_law_asked_right" "_law_asked_right" s_l_asked_right ["_law_state", "_law_pairs", "_law_cost"] p_l_asked_right d_l_asked_right
  p_Cost_eq : Addr
  d_Cost_eq : FuncData
  Cost_eq : MetF c "__eq__" "Cost.__eq__" s_Cost_eq ["self", "other"] p_Cost_eq d_Cost_eq
  eq_Cost : EqF c "Cost" p_Cost_eq
  p_law : Addr
  d_law : FuncData
  law : DefF c mg "law" "law" s_law ["_law_script"] p_law d_law
  cls_Cost : L2.Cls c.K (c.cm "Cost")
section
variable {P : Program} {w : World} {mg : Str → Option Value} {base : Heap} {c : Cm}
theorem ok_l_start (L : Facts P w mg c) : DOk P w mg base c 2 L.p_l_start L.d_l_start ["_law_script"] f_l_start := by
  have nd := sc_l_start.nd
  exact dok_of (k := 1) L.l_start.fn sc_l_start fun cdv A outer s H E hr =>
    (dss_one (ds_ret (de_new (da_cons (de_lc (own := [("_law_cell", 1)]) finN_ok rfl nd (di_seq rfl (de_var 0)) (by exact blkOk_by (N := ["_law_script", "_law_cell"]) (sc := defScope s_l_start) (by decide +kernel)) (fun _ => (dg_name nd (i := 1) rfl (by first | exact .inl rfl | exact .inr rfl) (by decide))) (fun _ => dts_nil) (fun _ => (de_callTy cr_toInt cd_toInt bn_toInt (by rfl) L.z_int PyProof.Rows.boot_int (da_cons (de_var 1) da_nil)))) (da_cons (de_c pe_int fun _ => .int 0) (da_cons (de_c pe_int fun _ => .int 0) da_nil))))))
theorem ok_l_take (L : Facts P w mg c) : DOk P w mg base c 2 L.p_l_take L.d_l_take ["_law_state", "_law_limit"] f_l_take := by
  have nd := sc_l_take.nd
  exact dok_of (k := 1) L.l_take.fn sc_l_take fun cdv A outer s H E hr =>
    (dss_cons (ds_set (i := 2) nd rfl (by first | exact .inl rfl | exact .inr rfl) (de_ix rfl (de_var 0) (de_c pe_int fun _ => .int 0) (fun _ _ => rfl)))
    (dss_cons (ds_put (de_op opr_add (opd_add rfl) nox_add (de_ix rfl (de_var 0) (de_c pe_int fun _ => .int 2) (fun _ _ => rfl)) (de_c pe_int fun _ => .int 1)) (de_var 0) (de_c pe_int fun _ => .int 2) (fun p q => pg_sub p q set_list))
    (dss_cons (ds_set (i := 3) nd rfl (by first | exact .inl rfl | exact .inr rfl) (de_op op_modN opd_mod nox_int (de_callTy cr_toInt cd_toInt bn_toInt (by rfl) L.z_int PyProof.Rows.boot_int (da_cons (de_ix rfl (de_var 0) (de_c pe_int fun _ => .int 1) (fun _ _ => rfl)) da_nil)) (de_callB (call_max2 rfl) cd_max2 bn_max2 (by rfl) L.z_max PyProof.Rows.boot_max (da_cons (de_c pe_int fun _ => .int 1) (da_cons (de_callB call_len (cd_len rfl) bn_len (by rfl) L.z_len PySem.boot_len (da_cons (de_var 2) da_nil)) da_nil)))))
    (dss_cons (ds_set (i := 4) nd rfl (by first | exact .inl rfl | exact .inr rfl) (de_c pe_int fun _ => .int 0))
    (dss_cons (ds_if (dt_truth rfl (de_var 2)) (dss_one (ds_set (i := 4) nd rfl (by first | exact .inl rfl | exact .inr rfl) (de_ix rfl (de_var 2) (de_var 3) (fun _ _ => rfl)))) dss_nil)
    (dss_cons (ds_if (dt_cmp op_ge opd_ge nox_int (de_callB call_abs cd_abs bn_abs (by rfl) L.z_abs PyProof.Rows.boot_abs (da_cons (de_var 4) da_nil)) (de_op op_pow opd_pow nox_int (de_c pe_int fun _ => .int 10) (de_c pe_int fun _ => .int 18)) (by rfl)) (dss_cons (ds_put (de_op op_divB opd_div nox_int (de_callB call_abs cd_abs bn_abs (by rfl) L.z_abs PyProof.Rows.boot_abs (da_cons (de_var 4) da_nil)) (de_var 1)) (de_var 2) (de_var 3) (fun p q => pg_sub p q set_list))
    (dss_one (ds_ret (de_op op_modN opd_mod nox_int (de_callB call_abs cd_abs bn_abs (by rfl) L.z_abs PyProof.Rows.boot_abs (da_cons (de_var 4) da_nil)) (de_var 1))))) dss_nil)
    (dss_cons (ds_put (de_op opr_add (opd_add rfl) nox_add (de_ix rfl (de_var 0) (de_c pe_int fun _ => .int 1) (fun _ _ => rfl)) (de_c pe_int fun _ => .int 1)) (de_var 0) (de_c pe_int fun _ => .int 1) (fun p q => pg_sub p q set_list))
    (dss_cons (ds_set (i := 5) nd rfl (by first | exact .inl rfl | exact .inr rfl) (de_op op_modN opd_mod nox_int (de_op op_pow opd_pow nox_int (de_callTy cr_toInt cd_toInt bn_toInt (by rfl) L.z_int PyProof.Rows.boot_int (da_cons (de_op opr_add (opd_add rfl) nox_add (de_op opr_add (opd_add rfl) nox_add (de_op op_mul opd_mul nox_int (de_op op_modN opd_mod nox_int (de_callTy cr_toInt cd_toInt bn_toInt (by rfl) L.z_int PyProof.Rows.boot_int (da_cons (de_var 4) da_nil)) (de_c pe_int fun _ => .int 2147483647)) (de_c pe_int fun _ => .int 48271)) (de_op op_mul opd_mul nox_int (de_ix rfl (de_var 0) (de_c pe_int fun _ => .int 2) (fun _ _ => rfl)) (de_c pe_int fun _ => .int 69621))) (de_c pe_int fun _ => .int 11)) da_nil)) (de_c pe_int fun _ => .int 5)) (de_c pe_int fun _ => .int 2147483647)))
    (dss_cons (ds_set (i := 5) nd rfl (by first | exact .inl rfl | exact .inr rfl) (de_op op_modN opd_mod nox_int (de_op op_pow opd_pow nox_int (de_callTy cr_toInt cd_toInt bn_toInt (by rfl) L.z_int PyProof.Rows.boot_int (da_cons (de_op opr_add (opd_add rfl) nox_add (de_op opr_add (opd_add rfl) nox_add (de_op op_mul opd_mul nox_int (de_var 5) (de_c pe_int fun _ => .int 16807)) (de_op op_mul opd_mul nox_int (de_ix rfl (de_var 0) (de_c pe_int fun _ => .int 2) (fun _ _ => rfl)) (de_c pe_int fun _ => .int 40692))) (de_c pe_int fun _ => .int 7)) da_nil)) (de_c pe_int fun _ => .int 5)) (de_c pe_int fun _ => .int 2147483629)))
    (dss_one (ds_ret (de_op op_modN opd_mod nox_int (de_op op_divB opd_div nox_int (de_var 5) (de_c pe_int fun _ => .int 16)) (de_var 1)))))))))))))
theorem ok_l_steps (L : Facts P w mg c) : DOk P w mg base c 3 L.p_l_steps L.d_l_steps ["_law_state"] f_l_steps := by
  have nd := sc_l_steps.nd
  exact dok_of (k := 2) L.l_steps.fn sc_l_steps fun cdv A outer s H E hr =>
    (dss_cons (ds_set (i := 1) nd rfl (by first | exact .inl rfl | exact .inr rfl) (de_new da_nil))
    (dss_cons (ds_asg (vs := [2, 3]) (de_tup (da_cons (de_neg (de_c pe_int fun _ => .int 1)) (da_cons (de_c pe_int fun _ => .int 0) da_nil))) (dg_tup rfl rfl (dgs_cons (dg_name nd (i := 2) rfl (by first | exact .inl rfl | exact .inr rfl) (by decide)) (dgs_cons (dg_name nd (i := 3) rfl (by first | exact .inl rfl | exact .inr rfl) (by decide)) dgs_nil))))
    (dss_cons (ds_for (vs := [4]) (passes_of rfl) rfl (di_range1 (by rfl) L.z_range (de_call rfl (takes_of rfl rfl rfl rfl) (ok_l_take L) (hr.mono (by decide)) (by rfl) L.l_take.gl L.l_take.kp L.l_take.bd (da_cons (de_var 0) (da_cons (de_ix rfl (de_lst (da_cons (de_c pe_int fun _ => .int 2) (da_cons (de_c pe_int fun _ => .int 4) (da_cons (de_c pe_int fun _ => .int 7) da_nil)))) (de_call rfl (takes_of rfl rfl rfl rfl) (ok_l_take L) (hr.mono (by decide)) (by rfl) L.l_take.gl L.l_take.kp L.l_take.bd (da_cons (de_var 0) (da_cons (de_c pe_int fun _ => .int 3) da_nil)) (len_cons (len_cons len_nil))) (fun _ _ => rfl)) da_nil)) (len_cons (len_cons len_nil)))) (dg_name nd (i := 4) rfl (by first | exact .inl rfl | exact .inr rfl) (by decide)) (dss_cons (ds_set (i := 2) nd rfl (by first | exact .inl rfl | exact .inr rfl) (de_op opr_add (opd_add rfl) nox_add (de_op opr_add (opd_add rfl) nox_add (de_var 2) (de_c pe_int fun _ => .int 1)) (de_call rfl (takes_of rfl rfl rfl rfl) (ok_l_take L) (hr.mono (by decide)) (by rfl) L.l_take.gl L.l_take.kp L.l_take.bd (da_cons (de_var 0) (da_cons (de_ix rfl (de_lst (da_cons (de_c pe_int fun _ => .int 2) (da_cons (de_c pe_int fun _ => .int 6) (da_cons (de_op op_pow opd_pow nox_int (de_c pe_int fun _ => .int 10) (de_c pe_int fun _ => .int 9)) da_nil)))) (de_call rfl (takes_of rfl rfl rfl rfl) (ok_l_take L) (hr.mono (by decide)) (by rfl) L.l_take.gl L.l_take.kp L.l_take.bd (da_cons (de_var 0) (da_cons (de_c pe_int fun _ => .int 3) da_nil)) (len_cons (len_cons len_nil))) (fun _ _ => rfl)) da_nil)) (len_cons (len_cons len_nil)))))
    (dss_cons (ds_set (i := 3) nd rfl (by first | exact .inl rfl | exact .inr rfl) (de_op opr_add (opd_add rfl) nox_add (de_op opr_add (opd_add rfl) nox_add (de_var 3) (de_c pe_int fun _ => .int 1)) (de_call rfl (takes_of rfl rfl rfl rfl) (ok_l_take L) (hr.mono (by decide)) (by rfl) L.l_take.gl L.l_take.kp L.l_take.bd (da_cons (de_var 0) (da_cons (de_ix rfl (de_lst (da_cons (de_c pe_int fun _ => .int 1) (da_cons (de_c pe_int fun _ => .int 3) (da_cons (de_op op_pow opd_pow nox_int (de_c pe_int fun _ => .int 10) (de_c pe_int fun _ => .int 20)) da_nil)))) (de_call rfl (takes_of rfl rfl rfl rfl) (ok_l_take L) (hr.mono (by decide)) (by rfl) L.l_take.gl L.l_take.kp L.l_take.bd (da_cons (de_var 0) (da_cons (de_c pe_int fun _ => .int 3) da_nil)) (len_cons (len_cons len_nil))) (fun _ _ => rfl)) da_nil)) (len_cons (len_cons len_nil)))))
    (dss_one (ds_expr (de_bm rfl PySem.F.plainAttrs_list PySem.F.slot_list_append PySem.F.type_list_append mt_append md_append (de_var 1) (da_cons (de_tup (da_cons (de_var 2) (da_cons (de_var 3) da_nil))) da_nil)))))))
    (dss_one (ds_ret (de_var 1))))))
theorem ok_l_is_pair (L : Facts P w mg c) : DOk P w mg base c 2 L.p_l_is_pair L.d_l_is_pair ["_law_item"] f_l_is_pair := by
  have nd := sc_l_is_pair.nd
  exact dok_of (k := 1) L.l_is_pair.fn sc_l_is_pair fun cdv A outer s H E hr =>
    (dss_cons (ds_if (dt_w (dt_or (dt_not (dt_truth rfl (de_callB call_isi (cd_isi rfl L.isi) bn_isi (by rfl) L.z_isinstance PyProof.Rows.boot_isinstance (da_cons (de_var 0) (da_cons (de_c (pe_bltn (v := .ty "tuple") (by rfl) L.z_tuple (by decide +kernel) rfl) fun _ => .ty "tuple") da_nil))))) (dt_or1 (dt_cmp (op_neA hr.units) (opd_eq2 rfl) nox_eq2 (de_callB call_len (cd_len rfl) bn_len (by rfl) L.z_len PySem.boot_len (da_cons (de_var 0) da_nil)) (de_c pe_int fun _ => .int 2) (by rfl))))) (dss_one (ds_ret (de_c pe_bl fun _ => .bl false))) dss_nil)
    (dss_one (ds_ret (de_cmp (op_eqA hr.units) (opd_eq2 rfl) nox_eq2 (de_lc (own := [("_law_part", 1)]) finL_ok rfl nd (di_seq rfl (de_var 0)) (by exact blkOk_by (N := ["_law_item", "_law_part"]) (sc := defScope s_l_is_pair) (by decide +kernel)) (fun _ => (dg_name nd (i := 1) rfl (by first | exact .inl rfl | exact .inr rfl) (by decide))) (fun _ => (dts_one (dt_w (dt_or (dt_not (dt_truth rfl (de_callB call_isi (cd_isi rfl L.isi) bn_isi (by rfl) L.z_isinstance PyProof.Rows.boot_isinstance (da_cons (de_var 1) (da_cons (de_c (pe_bltn (v := .ty "int") (by rfl) L.z_int (by decide +kernel) rfl) fun _ => .ty "int") da_nil))))) (dt_or1 (dt_truth rfl (de_callB call_isi (cd_isi rfl L.isi) bn_isi (by rfl) L.z_isinstance PyProof.Rows.boot_isinstance (da_cons (de_var 1) (da_cons (de_c (pe_bltn (v := .ty "bool") (by rfl) L.z_bool (by decide +kernel) rfl) fun _ => .ty "bool") da_nil))))))))) (fun _ => (de_var 1))) (de_lst da_nil) (by rfl)))))
theorem ok_l_spoiled (L : Facts P w mg c) : DOk P w mg base c 3 L.p_l_spoiled L.d_l_spoiled ["_law_state", "_law_pairs"] f_l_spoiled := by
  have nd := sc_l_spoiled.nd
  exact dok_of (k := 2) L.l_spoiled.fn sc_l_spoiled fun cdv A outer s H E hr =>
    (dss_cons (ds_set (i := 2) nd rfl (by first | exact .inl rfl | exact .inr rfl) (de_callTy call_list_of (cd_listN rfl) bn_listN (by rfl) L.z_list PyProof.Rows.boot_list (da_cons (de_var 1) da_nil)))
    (dss_cons (ds_set (i := 3) nd rfl (by first | exact .inl rfl | exact .inr rfl) (de_call rfl (takes_of rfl rfl rfl rfl) (ok_l_take L) (hr.mono (by decide)) (by rfl) L.l_take.gl L.l_take.kp L.l_take.bd (da_cons (de_var 0) (da_cons (de_c pe_int fun _ => .int 9) da_nil)) (len_cons (len_cons len_nil))))
    (dss_cons (ds_if (dt_cmp (op_eqA hr.units) (opd_eq2 rfl) nox_eq2 (de_var 3) (de_c pe_int fun _ => .int 0) (by rfl)) (dss_one (ds_setLc (own := [("_law_k", 4)]) finN_ok rfl nd (i := 2) rfl rfl (by rfl) (di_range1 (by rfl) L.z_range (de_op opr_add (opd_add rfl) nox_add (de_c pe_int fun _ => .int 39) (de_call rfl (takes_of rfl rfl rfl rfl) (ok_l_take L) (hr.mono (by decide)) (by rfl) L.l_take.gl L.l_take.kp L.l_take.bd (da_cons (de_var 0) (da_cons (de_c pe_int fun _ => .int 4) da_nil)) (len_cons (len_cons len_nil))))) (by exact blkOk_by (N := ["_law_state", "_law_pairs", "_law_told_here", "_law_plan", "_law_k", "_law_begin1", "_law_amount", "_law_near"]) (sc := defScope s_l_spoiled) (by decide +kernel)) (fun _ => (dg_name nd (i := 4) rfl (by first | exact .inl rfl | exact .inr rfl) (by decide))) (fun _ => dts_nil) (fun _ => (de_tup (da_cons (de_var 4) (da_cons (de_op opr_add (opd_add rfl) nox_add (de_var 4) (de_c pe_int fun _ => .int 1)) da_nil)))))) dss_nil)
    (dss_cons (ds_set (i := 4) nd rfl (by first | exact .inl rfl | exact .inr rfl) (de_call rfl (takes_of rfl rfl rfl rfl) (ok_l_take L) (hr.mono (by decide)) (by rfl) L.l_take.gl L.l_take.kp L.l_take.bd (da_cons (de_var 0) (da_cons (de_callB (call_max2 rfl) cd_max2 bn_max2 (by rfl) L.z_max PyProof.Rows.boot_max (da_cons (de_c pe_int fun _ => .int 1) (da_cons (de_callB call_len (cd_len rfl) bn_len (by rfl) L.z_len PySem.boot_len (da_cons (de_var 2) da_nil)) da_nil))) da_nil)) (len_cons (len_cons len_nil))))
    (dss_cons (ds_if (dt_w (dt_and (dt_cmp (opr_in (un66 hr)) (opd_in2 rfl) nox_in2 (de_var 3) (de_lst (da_cons (de_c pe_int fun _ => .int 1) (da_cons (de_c pe_int fun _ => .int 2) (da_cons (de_c pe_int fun _ => .int 3) (da_cons (de_c pe_int fun _ => .int 4) da_nil))))) (by rfl)) (dt_and (dt_cmp (op_neA hr.units) (opd_eq2 rfl) nox_eq2 (de_var 2) (de_lst da_nil) (by rfl)) (dt_and1 (dt_truth rfl (de_call rfl (takes_of rfl rfl rfl rfl) (ok_l_is_pair L) (hr.mono (by decide)) (by rfl) L.l_is_pair.gl L.l_is_pair.kp L.l_is_pair.bd (da_cons (de_ix rfl (de_var 2) (de_var 4) (fun _ _ => rfl)) da_nil) (len_cons len_nil))))))) (dss_cons (ds_asg (vs := [5, 6]) (de_ix rfl (de_var 2) (de_var 4) (fun _ _ => rfl)) (dg_tup rfl rfl (dgs_cons (dg_name nd (i := 5) rfl (by first | exact .inl rfl | exact .inr rfl) (by decide)) (dgs_cons (dg_name nd (i := 6) rfl (by first | exact .inl rfl | exact .inr rfl) (by decide)) dgs_nil))))
    (dss_cons (ds_set (i := 7) nd rfl (by first | exact .inl rfl | exact .inr rfl) (de_lst (da_cons (de_tup (da_cons (de_var 5) (da_cons (de_neg (de_c pe_int fun _ => .int 1)) da_nil))) (da_cons (de_tup (da_cons (de_neg (de_c pe_int fun _ => .int 1)) (da_cons (de_var 6) da_nil))) (da_cons (de_tup (da_cons (de_var 5) (da_cons (de_c pe_int fun _ => .int 0) da_nil))) (da_cons (de_tup (da_cons (de_c pe_bl fun _ => .bl true) (da_cons (de_var 6) da_nil))) (da_cons (de_tup (da_cons (de_var 5) (da_cons (de_c pe_non fun _ => .non) da_nil))) (da_cons (de_tup (da_cons (de_c pe_str fun _ => .str "1") (da_cons (de_var 6) da_nil))) (da_cons (de_tup (da_cons (de_var 5) da_nil)) da_nil)))))))))
    (dss_cons (ds_set (i := 7) nd rfl (by first | exact .inl rfl | exact .inr rfl) (de_op opr_add (opd_add rfl) nox_add (de_var 7) (de_lst (da_cons (de_lst (da_cons (de_var 5) (da_cons (de_var 6) da_nil))) (da_cons (de_tup (da_cons (de_var 5) (da_cons (de_var 6) (da_cons (de_c pe_int fun _ => .int 1) da_nil)))) (da_cons (de_c pe_non fun _ => .non) (da_cons (de_c pe_int fun _ => .int 7) (da_cons (de_tup (da_cons (de_op op_sub opd_sub nox_int (de_var 5) (de_c pe_int fun _ => .int 1)) (da_cons (de_var 6) da_nil))) (da_cons (de_tup (da_cons (de_var 5) (da_cons (de_op op_sub opd_sub nox_int (de_var 6) (de_c pe_int fun _ => .int 1)) da_nil))) da_nil)))))))))
    (dss_cons (ds_set (i := 7) nd rfl (by first | exact .inl rfl | exact .inr rfl) (de_op opr_add (opd_add rfl) nox_add (de_var 7) (de_lst (da_cons (de_ix rfl (de_var 2) (de_c pe_int fun _ => .int 0) (fun _ _ => rfl)) (da_cons (de_ix rfl (de_var 2) (de_neg (de_c pe_int fun _ => .int 1)) (fun _ _ => rfl)) (da_cons de_dict0 (da_cons (de_c pe_str fun _ => .str "4:1") (da_cons (de_tup (da_cons (de_var 5) (da_cons (de_c pe_bl fun _ => .bl true) da_nil))) da_nil))))))))
    (dss_one (ds_put (de_ix rfl (de_var 7) (de_call rfl (takes_of rfl rfl rfl rfl) (ok_l_take L) (hr.mono (by decide)) (by rfl) L.l_take.gl L.l_take.kp L.l_take.bd (da_cons (de_var 0) (da_cons (de_c pe_int fun _ => .int 18) da_nil)) (len_cons (len_cons len_nil))) (fun _ _ => rfl)) (de_var 2) (de_var 4) (fun p q => pg_sub p q set_list))))))) dss_nil)
    (dss_cons (ds_if (dt_cmp (op_eqA hr.units) (opd_eq2 rfl) nox_eq2 (de_var 3) (de_c pe_int fun _ => .int 5) (by rfl)) (dss_one (ds_set (i := 2) nd rfl (by first | exact .inl rfl | exact .inr rfl) (de_op opr_add (opd_add rfl) nox_add (de_var 2) (de_slice rfl sl_all (de_var 2) do_none (do_some (de_c pe_int fun _ => .int 1)))))) dss_nil)
    (dss_cons (ds_if (dt_cmp (op_eqA hr.units) (opd_eq2 rfl) nox_eq2 (de_var 3) (de_c pe_int fun _ => .int 6) (by rfl)) (dss_one (ds_set (i := 2) nd rfl (by first | exact .inl rfl | exact .inr rfl) (de_rev (de_var 2)))) dss_nil)
    (dss_one (ds_ret (de_var 2))))))))))
theorem ok_l_is_number (L : Facts P w mg c) : DOk P w mg base c 2 L.p_l_is_number L.d_l_is_number ["_law_value"] f_l_is_number := by
  have nd := sc_l_is_number.nd
  exact dok_of (k := 1) L.l_is_number.fn sc_l_is_number fun cdv A outer s H E hr =>
    (dss_one (ds_ret (de_and (de_callB call_isi (cd_isi rfl L.isi) bn_isi (by rfl) L.z_isinstance PyProof.Rows.boot_isinstance (da_cons (de_var 0) (da_cons (de_c (pe_bltn (v := .ty "int") (by rfl) L.z_int (by decide +kernel) rfl) fun _ => .ty "int") da_nil))) (de_one (de_not (de_callB call_isi (cd_isi rfl L.isi) bn_isi (by rfl) L.z_isinstance PyProof.Rows.boot_isinstance (da_cons (de_var 0) (da_cons (de_c (pe_bltn (v := .ty "bool") (by rfl) L.z_bool (by decide +kernel) rfl) fun _ => .ty "bool") da_nil))))))))
theorem ok_l_due (L : Facts P w mg c) : DOk P w mg base c 3 L.p_l_due L.d_l_due ["_law_pairs1"] f_l_due := by
  have nd := sc_l_due.nd
  exact dok_of (k := 2) L.l_due.fn sc_l_due fun cdv A outer s H E hr =>
    (dss_cons (ds_if (dt_cmp op_gt opd_gt nox_int (de_callB call_len (cd_len rfl) bn_len (by rfl) L.z_len PySem.boot_len (da_cons (de_var 0) da_nil)) (de_c pe_int fun _ => .int 40) (by rfl)) (dss_one (ds_ret (de_tup (da_cons (de_c pe_str fun _ => .str "count") (da_cons (de_callB call_len (cd_len rfl) bn_len (by rfl) L.z_len PySem.boot_len (da_cons (de_var 0) da_nil)) da_nil))))) dss_nil)
    (dss_cons (ds_set (i := 1) nd rfl (by first | exact .inl rfl | exact .inr rfl) (de_tup (da_cons (de_neg (de_c pe_int fun _ => .int 1)) (da_cons (de_c pe_int fun _ => .int 0) da_nil))))
    (dss_cons (ds_for (vs := [2]) (passes_of rfl) rfl (di_seq rfl (de_var 0)) (dg_name nd (i := 2) rfl (by first | exact .inl rfl | exact .inr rfl) (by decide)) (dss_cons (ds_if (dt_w (dt_or (dt_not (dt_truth rfl (de_callB call_isi (cd_isi rfl L.isi) bn_isi (by rfl) L.z_isinstance PyProof.Rows.boot_isinstance (da_cons (de_var 2) (da_cons (de_c (pe_bltn (v := .ty "tuple") (by rfl) L.z_tuple (by decide +kernel) rfl) fun _ => .ty "tuple") da_nil))))) (dt_or1 (dt_cmp (op_neA hr.units) (opd_eq2 rfl) nox_eq2 (de_callB call_len (cd_len rfl) bn_len (by rfl) L.z_len PySem.boot_len (da_cons (de_var 2) da_nil)) (de_c pe_int fun _ => .int 2) (by rfl))))) (dss_one (ds_ret (de_tup (da_cons (de_c pe_str fun _ => .str "steps") (da_cons (de_var 2) da_nil))))) dss_nil)
    (dss_cons (ds_if (dt_w (dt_or (dt_not (dt_truth rfl (de_call rfl (takes_of rfl rfl rfl rfl) (ok_l_is_number L) (hr.mono (by decide)) (by rfl) L.l_is_number.gl L.l_is_number.kp L.l_is_number.bd (da_cons (de_ix rfl (de_var 2) (de_c pe_int fun _ => .int 0) (fun _ _ => rfl)) da_nil) (len_cons len_nil)))) (dt_or (dt_cmp op_le opd_le nox_int (de_ix rfl (de_var 2) (de_c pe_int fun _ => .int 0) (fun _ _ => rfl)) (de_ix rfl (de_var 1) (de_c pe_int fun _ => .int 0) (fun _ _ => rfl)) (by rfl)) (dt_or (dt_not (dt_truth rfl (de_call rfl (takes_of rfl rfl rfl rfl) (ok_l_is_number L) (hr.mono (by decide)) (by rfl) L.l_is_number.gl L.l_is_number.kp L.l_is_number.bd (da_cons (de_ix rfl (de_var 2) (de_c pe_int fun _ => .int 1) (fun _ _ => rfl)) da_nil) (len_cons len_nil)))) (dt_or1 (dt_cmp op_le opd_le nox_int (de_ix rfl (de_var 2) (de_c pe_int fun _ => .int 1) (fun _ _ => rfl)) (de_ix rfl (de_var 1) (de_c pe_int fun _ => .int 1) (fun _ _ => rfl)) (by rfl))))))) (dss_one (ds_ret (de_tup (da_cons (de_c pe_str fun _ => .str "steps") (da_cons (de_var 2) da_nil))))) dss_nil)
    (dss_one (ds_set (i := 1) nd rfl (by first | exact .inl rfl | exact .inr rfl) (de_var 2))))))
    (dss_one (ds_ret (de_tup (da_cons (de_c pe_str fun _ => .str "told") (da_cons (de_callTy call_tuple_of (cd_tuple rfl) bn_tuple (by rfl) L.z_tuple PyProof.Rows.boot_tuple (da_cons (de_var 0) da_nil)) da_nil))))))))
theorem ok_Cost_steps (L : Facts P w mg c) : DOk P w mg base c 2 L.p_Cost_steps L.d_Cost_steps ["self"] f_Cost_steps := by
  have nd := sc_Cost_steps.nd
  exact dok_of (k := 1) L.Cost_steps.fn sc_Cost_steps fun cdv A outer s H E hr =>
    (dss_one (ds_ret (de_fld rfl L.f_steps (de_var 0))))
theorem ok_check_count (L : Facts P w mg c) : DOk P w mg base c 3 L.p_check_count L.d_check_count ["count", "least", "most"] f_check_count := by
  have nd := sc_check_count.nd
  exact dok_of (k := 2) L.check_count.fn sc_check_count fun cdv A outer s H E hr =>
    (dss_one (ds_if (dt_not (dt_chain op_le opd_le nox_int op_le opd_le nox_int (de_var 1) (de_var 0) (de_var 2))) (dss_one (ds_raise rfl (L.x_BadCount base) rfl (takes_of rfl rfl rfl rfl) (hr.mono (by decide)) (by rfl) (de_var 0))) dss_nil))
theorem ok_is_integer (L : Facts P w mg c) : DOk P w mg base c 2 L.p_is_integer L.d_is_integer ["value"] f_is_integer := by
  have nd := sc_is_integer.nd
  exact dok_of (k := 1) L.is_integer.fn sc_is_integer fun cdv A outer s H E hr =>
    (dss_one (ds_ret (de_and (de_callB call_isi (cd_isi rfl L.isi) bn_isi (by rfl) L.z_isinstance PyProof.Rows.boot_isinstance (da_cons (de_var 0) (da_cons (de_c (pe_bltn (v := .ty "int") (by rfl) L.z_int (by decide +kernel) rfl) fun _ => .ty "int") da_nil))) (de_one (de_not (de_callB call_isi (cd_isi rfl L.isi) bn_isi (by rfl) L.z_isinstance PyProof.Rows.boot_isinstance (da_cons (de_var 0) (da_cons (de_c (pe_bltn (v := .ty "bool") (by rfl) L.z_bool (by decide +kernel) rfl) fun _ => .ty "bool") da_nil))))))))
theorem ok_is_number (L : Facts P w mg c) : DOk P w mg base c 3 L.p_is_number L.d_is_number ["value"] f_is_number := by
  have nd := sc_is_number.nd
  exact dok_of (k := 2) L.is_number.fn sc_is_number fun cdv A outer s H E hr =>
    (dss_one (ds_ret (de_and (de_call rfl (takes_of rfl rfl rfl rfl) (ok_is_integer L) (hr.mono (by decide)) (by rfl) L.is_integer.gl L.is_integer.kp L.is_integer.bd (da_cons (de_var 0) da_nil) (len_cons len_nil)) (de_one (de_cmp op_ge opd_ge nox_int (de_var 0) (de_c pe_int fun _ => .int 0) (by rfl))))))
theorem ok_is_step (L : Facts P w mg c) : DOk P w mg base c 4 L.p_is_step L.d_is_step ["value", "before"] f_is_step := by
  have nd := sc_is_step.nd
  exact dok_of (k := 3) L.is_step.fn sc_is_step fun cdv A outer s H E hr =>
    (dss_cons (ds_if (dt_w (dt_or (dt_not (dt_truth rfl (de_callB call_isi (cd_isi rfl L.isi) bn_isi (by rfl) L.z_isinstance PyProof.Rows.boot_isinstance (da_cons (de_var 0) (da_cons (de_c (pe_bltn (v := .ty "tuple") (by rfl) L.z_tuple (by decide +kernel) rfl) fun _ => .ty "tuple") da_nil))))) (dt_or1 (dt_cmp (op_neA hr.units) (opd_eq2 rfl) nox_eq2 (de_callB call_len (cd_len rfl) bn_len (by rfl) L.z_len PySem.boot_len (da_cons (de_var 0) da_nil)) (de_c pe_int fun _ => .int 2) (by rfl))))) (dss_one (ds_ret (de_c pe_bl fun _ => .bl false))) dss_nil)
    (dss_cons (ds_asg (vs := [2, 3]) (de_var 0) (dg_tup rfl rfl (dgs_cons (dg_name nd (i := 2) rfl (by first | exact .inl rfl | exact .inr rfl) (by decide)) (dgs_cons (dg_name nd (i := 3) rfl (by first | exact .inl rfl | exact .inr rfl) (by decide)) dgs_nil))))
    (dss_one (ds_ret (de_and (de_call rfl (takes_of rfl rfl rfl rfl) (ok_is_number L) (hr.mono (by decide)) (by rfl) L.is_number.gl L.is_number.kp L.is_number.bd (da_cons (de_var 2) da_nil) (len_cons len_nil)) (de_and (de_call rfl (takes_of rfl rfl rfl rfl) (ok_is_number L) (hr.mono (by decide)) (by rfl) L.is_number.gl L.is_number.kp L.is_number.bd (da_cons (de_var 3) da_nil) (len_cons len_nil)) (de_and (de_cmp op_gt opd_gt nox_int (de_var 2) (de_ix rfl (de_var 1) (de_c pe_int fun _ => .int 0) (fun _ _ => rfl)) (by rfl)) (de_one (de_cmp op_gt opd_gt nox_int (de_var 3) (de_ix rfl (de_var 1) (de_c pe_int fun _ => .int 1) (fun _ _ => rfl)) (by rfl))))))))))
theorem ok_check_steps (L : Facts P w mg c) : DOk P w mg base c 5 L.p_check_steps L.d_check_steps ["steps"] f_check_steps := by
  have nd := sc_check_steps.nd
  exact dok_of (k := 4) L.check_steps.fn sc_check_steps fun cdv A outer s H E hr =>
    (dss_cons (ds_expr (de_call rfl (takes_of rfl rfl rfl rfl) (ok_check_count L) (hr.mono (by decide)) (by rfl) L.check_count.gl L.check_count.kp L.check_count.bd (da_cons (de_callB call_len (cd_len rfl) bn_len (by rfl) L.z_len PySem.boot_len (da_cons (de_var 0) da_nil)) (da_cons (de_c pe_int fun _ => .int 0) (da_cons (de_c (pe_glob (v := .int 40) (by rfl) L.g_MOST_STEPS.choose_spec ⟨_, rfl⟩) fun _ => .int 40) da_nil))) (len_cons (len_cons (len_cons len_nil)))))
    (dss_cons (ds_set (i := 1) nd rfl (by first | exact .inl rfl | exact .inr rfl) (de_tup (da_cons (de_neg (de_c pe_int fun _ => .int 1)) (da_cons (de_c pe_int fun _ => .int 0) da_nil))))
    (dss_one (ds_for (vs := [2]) (passes_of rfl) rfl (di_seq rfl (de_var 0)) (dg_name nd (i := 2) rfl (by first | exact .inl rfl | exact .inr rfl) (by decide)) (dss_cons (ds_if (dt_not (dt_truth rfl (de_call rfl (takes_of rfl rfl rfl rfl) (ok_is_step L) (hr.mono (by decide)) (by rfl) L.is_step.gl L.is_step.kp L.is_step.bd (da_cons (de_var 2) (da_cons (de_var 1) da_nil)) (len_cons (len_cons len_nil))))) (dss_one (ds_raise rfl (L.x_BadSteps base) rfl (takes_of rfl rfl rfl rfl) (hr.mono (by decide)) (by rfl) (de_var 2))) dss_nil)
    (dss_one (ds_set (i := 1) nd rfl (by first | exact .inl rfl | exact .inr rfl) (de_var 2))))))))
theorem ok_Cost_init (L : Facts P w mg c) : DOk P w mg base c 6 L.p_Cost_init L.d_Cost_init ["self", "steps"] f_Cost_init := by
  have nd := sc_Cost_init.nd
  exact dok_of (k := 5) L.Cost_init.fn sc_Cost_init fun cdv A outer s H E hr =>
    (dss_cons (ds_expr (de_call rfl (takes_of rfl rfl rfl rfl) (ok_check_steps L) (hr.mono (by decide)) (by rfl) L.check_steps.gl L.check_steps.kp L.check_steps.bd (da_cons (de_var 1) da_nil) (len_cons len_nil)))
    (dss_one (ds_fld rfl L.f_steps (de_callTy call_tuple_of (cd_tuple rfl) bn_tuple (by rfl) L.z_tuple PyProof.Rows.boot_tuple (da_cons (de_var 1) da_nil)) (de_var 0))))
theorem ok_l_told (L : Facts P w mg c) : DOk P w mg base c 8 L.p_l_told L.d_l_told ["_law_way", "_law_pairs"] f_l_told := by
  have nd := sc_l_told.nd
  exact dok_of (k := 7) L.l_told.fn sc_l_told fun cdv A outer s H E hr =>
    (dss_one (ds_try rfl L.exf rfl rfl nd (takes_of rfl rfl rfl rfl) (fun W' pn xe htk hps => (dss_cons (ds_if (dt_cmp (op_eqA hr.units) (opd_eq2 rfl) nox_eq2 (de_var 0) (de_c pe_int fun _ => .int 0) (by rfl)) (dss_one (ds_ret (de_tup (da_cons (de_c pe_str fun _ => .str "told") (da_cons (de_prop rfl L.cls_Cost L.q_Cost_steps (ok_Cost_steps L) (hr.mono (by decide)) L.Cost_steps.bd rfl (de_make rfl htk L.mk_Cost (ok_Cost_init L) (hr.mono (by decide)) (by rfl) L.c_Cost L.Cost_init.bd (da_cons (de_var 1) da_nil) (len_cons len_nil) fin_ins rfl)) da_nil))))) dss_nil)
    (dss_one (ds_ret (de_tup (da_cons (de_c pe_str fun _ => .str "told") (da_cons (de_prop rfl L.cls_Cost L.q_Cost_steps (ok_Cost_steps L) (hr.mono (by decide)) L.Cost_steps.bd rfl (de_makeK0 rfl htk L.mk_Cost (ok_Cost_init L) (hr.mono (by decide)) (by rfl) L.c_Cost (ks := ["steps"]) L.b1_Cost_init (dk_cons (de_var 1) dk_nil) (len_cons len_nil) fin_ins rfl)) da_nil))))))) (.named (by decide) rfl rfl ⟨by rfl, by decide, .inl L.c_BadCount⟩ (dx_tup (dxs_cons (dx_of fun _ _ _ => (de_c pe_str fun _ => .str "count")) (dxs_cons (dx_fld (i := 2) rfl rfl (L.x_BadCount base).xf L.n_BadCount (fun _ _ _ => pe_var rfl (.inl rfl))) dxs_nil))) (.named (by decide) rfl rfl ⟨by rfl, by decide, .inl L.c_BadSteps⟩ (dx_tup (dxs_cons (dx_of fun _ _ _ => (de_c pe_str fun _ => .str "steps")) (dxs_cons (dx_fld (i := 2) rfl rfl (L.x_BadSteps base).xf L.n_BadSteps (fun _ _ _ => pe_var rfl (.inl rfl))) dxs_nil))) .nil))))
theorem ok_l_shuffled (L : Facts P w mg c) : DOk P w mg base c 3 L.p_l_shuffled L.d_l_shuffled ["_law_state", "_law_items"] f_l_shuffled := by
  have nd := sc_l_shuffled.nd
  exact dok_of (k := 2) L.l_shuffled.fn sc_l_shuffled fun cdv A outer s H E hr =>
    (dss_cons (ds_set (i := 2) nd rfl (by first | exact .inl rfl | exact .inr rfl) (de_callTy call_list_of (cd_listN rfl) bn_listN (by rfl) L.z_list PyProof.Rows.boot_list (da_cons (de_var 1) da_nil)))
    (dss_cons (ds_set (i := 3) nd rfl (by first | exact .inl rfl | exact .inr rfl) (de_new da_nil))
    (dss_cons (ds_for (vs := [4]) (passes_of rfl) rfl (di_range1 (by rfl) L.z_range (de_callB call_len (cd_len rfl) bn_len (by rfl) L.z_len PySem.boot_len (da_cons (de_var 1) da_nil))) (dg_name nd (i := 4) rfl (by first | exact .inl rfl | exact .inr rfl) (by decide)) (dss_one (ds_expr (de_bm rfl PySem.F.plainAttrs_list PySem.F.slot_list_append PySem.F.type_list_append mt_append md_append (de_var 3) (da_cons (de_bm rfl PySem.F.plainAttrs_list PySem.F.slot_list_pop PySem.F.type_list_pop mt_popAt md_popAt (de_var 2) (da_cons (de_call rfl (takes_of rfl rfl rfl rfl) (ok_l_take L) (hr.mono (by decide)) (by rfl) L.l_take.gl L.l_take.kp L.l_take.bd (da_cons (de_var 0) (da_cons (de_callB call_len (cd_len rfl) bn_len (by rfl) L.z_len PySem.boot_len (da_cons (de_var 2) da_nil)) da_nil)) (len_cons (len_cons len_nil))) da_nil)) da_nil)))))
    (dss_one (ds_ret (de_var 3))))))
theorem ok_l_latest (L : Facts P w mg c) : DOk P w mg base c 2 L.p_l_latest L.d_l_latest ["_law_pairs", "_law_limit1"] f_l_latest := by
  have nd := sc_l_latest.nd
  exact dok_of (k := 1) L.l_latest.fn sc_l_latest fun cdv A outer s H E hr =>
    (dss_cons (ds_for (vs := [2, 3]) (passes_of rfl) rfl (di_seq rfl (de_var 0)) (dg_tup rfl rfl (dgs_cons (dg_name nd (i := 2) rfl (by first | exact .inl rfl | exact .inr rfl) (by decide)) (dgs_cons (dg_name nd (i := 3) rfl (by first | exact .inl rfl | exact .inr rfl) (by decide)) dgs_nil))) (dss_one (ds_if (dt_cmp op_gt opd_gt nox_int (de_var 3) (de_var 1) (by rfl)) (dss_one (ds_ret (de_op op_sub opd_sub nox_int (de_var 2) (de_c pe_int fun _ => .int 1)))) dss_nil)))
    (dss_one (ds_ret (de_c pe_non fun _ => .non))))
theorem ok_l_at (L : Facts P w mg c) : DOk P w mg base c 2 L.p_l_at L.d_l_at ["_law_pairs1", "_law_begin1"] f_l_at := by
  have nd := sc_l_at.nd
  exact dok_of (k := 1) L.l_at.fn sc_l_at fun cdv A outer s H E hr =>
    (dss_cons (ds_set (i := 2) nd rfl (by first | exact .inl rfl | exact .inr rfl) (de_c pe_int fun _ => .int 0))
    (dss_cons (ds_for (vs := [3, 4]) (passes_of rfl) rfl (di_seq rfl (de_var 0)) (dg_tup rfl rfl (dgs_cons (dg_name nd (i := 3) rfl (by first | exact .inl rfl | exact .inr rfl) (by decide)) (dgs_cons (dg_name nd (i := 4) rfl (by first | exact .inl rfl | exact .inr rfl) (by decide)) dgs_nil))) (dss_one (ds_if (dt_cmp op_le opd_le nox_int (de_var 3) (de_var 1) (by rfl)) (dss_one (ds_set (i := 2) nd rfl (by first | exact .inl rfl | exact .inr rfl) (de_var 4))) dss_nil)))
    (dss_one (ds_ret (de_var 2)))))
theorem ok_check_number (L : Facts P w mg c) : DOk P w mg base c 4 L.p_check_number L.d_check_number ["value"] f_check_number := by
  have nd := sc_check_number.nd
  exact dok_of (k := 3) L.check_number.fn sc_check_number fun cdv A outer s H E hr =>
    (dss_one (ds_if (dt_not (dt_truth rfl (de_call rfl (takes_of rfl rfl rfl rfl) (ok_is_number L) (hr.mono (by decide)) (by rfl) L.is_number.gl L.is_number.kp L.is_number.bd (da_cons (de_var 0) da_nil) (len_cons len_nil)))) (dss_one (ds_raise rfl (L.x_BadNumber base) rfl (takes_of rfl rfl rfl rfl) (hr.mono (by decide)) (by rfl) (de_var 0))) dss_nil))
theorem ok_cost_at (L : Facts P w mg c) : DOk P w mg base c 2 L.p_cost_at L.d_cost_at ["steps", "time"] f_cost_at := by
  have nd := sc_cost_at.nd
  exact dok_of (k := 1) L.cost_at.fn sc_cost_at fun cdv A outer s H E hr =>
    (dss_one (ds_ret (de_callBK (cr_maxDf rfl (un66 hr)) (cd_maxDf rfl) nox_maxDf (by rfl) L.z_max PyProof.Rows.boot_max (da_cons (de_lc (own := [("start", 2), ("cost", 3)]) finL_ok rfl nd (di_seq rfl (de_var 0)) (by exact blkOk_by (N := ["steps", "time", "start", "cost"]) (sc := defScope s_cost_at) (by decide +kernel)) (fun _ => (dg_tup rfl rfl (dgs_cons (dg_name nd (i := 2) rfl (by first | exact .inl rfl | exact .inr rfl) (by decide)) (dgs_cons (dg_name nd (i := 3) rfl (by first | exact .inl rfl | exact .inr rfl) (by decide)) dgs_nil)))) (fun _ => (dts_one (dt_cmp op_le opd_le nox_int (de_var 2) (de_var 1) (by rfl)))) (fun _ => (de_var 3))) da_nil) (dk_cons (de_c pe_int fun _ => .int 0) dk_nil))))
theorem ok_Cost_at (L : Facts P w mg c) : DOk P w mg base c 5 L.p_Cost_at L.d_Cost_at ["self", "time"] f_Cost_at := by
  have nd := sc_Cost_at.nd
  exact dok_of (k := 4) L.Cost_at.fn sc_Cost_at fun cdv A outer s H E hr =>
    (dss_cons (ds_expr (de_call rfl (takes_of rfl rfl rfl rfl) (ok_check_number L) (hr.mono (by decide)) (by rfl) L.check_number.gl L.check_number.kp L.check_number.bd (da_cons (de_var 1) da_nil) (len_cons len_nil)))
    (dss_one (ds_ret (de_call rfl (takes_of rfl rfl rfl rfl) (ok_cost_at L) (hr.mono (by decide)) (by rfl) L.cost_at.gl L.cost_at.kp L.cost_at.bd (da_cons (de_fld rfl L.f_steps (de_var 0)) (da_cons (de_var 1) da_nil)) (len_cons (len_cons len_nil))))))
theorem ok_Cost_latest (L : Facts P w mg c) : DOk P w mg base c 5 L.p_Cost_latest L.d_Cost_latest ["self", "bound"] f_Cost_latest := by
  have nd := sc_Cost_latest.nd
  exact dok_of (k := 4) L.Cost_latest.fn sc_Cost_latest fun cdv A outer s H E hr =>
    (dss_cons (ds_expr (de_call rfl (takes_of rfl rfl rfl rfl) (ok_check_number L) (hr.mono (by decide)) (by rfl) L.check_number.gl L.check_number.kp L.check_number.bd (da_cons (de_var 1) da_nil) (len_cons len_nil)))
    (dss_cons (ds_for (vs := [2, 3]) (passes_of rfl) rfl (di_seq rfl (de_fld rfl L.f_steps (de_var 0))) (dg_tup rfl rfl (dgs_cons (dg_name nd (i := 2) rfl (by first | exact .inl rfl | exact .inr rfl) (by decide)) (dgs_cons (dg_name nd (i := 3) rfl (by first | exact .inl rfl | exact .inr rfl) (by decide)) dgs_nil))) (dss_one (ds_if (dt_cmp op_gt opd_gt nox_int (de_var 3) (de_var 1) (by rfl)) (dss_one (ds_ret (de_op op_sub opd_sub nox_int (de_var 2) (de_c pe_int fun _ => .int 1)))) dss_nil)))
    (dss_one (ds_ret (de_c pe_non fun _ => .non)))))
theorem ok_l_ask (L : Facts P w mg c) : DOk P w mg base c 6 L.p_l_ask L.d_l_ask ["_law_way", "_law_cost", "_law_number"] f_l_ask := by
  have nd := sc_l_ask.nd
  exact dok_of (k := 5) L.l_ask.fn sc_l_ask fun cdv A outer s H E hr =>
    (dss_one (ds_try rfl L.exf rfl rfl nd (takes_of rfl rfl rfl rfl) (fun W' pn xe htk hps => (dss_cons (ds_if (dt_cmp (op_eqA hr.units) (opd_eq2 rfl) nox_eq2 (de_var 0) (de_c pe_int fun _ => .int 0) (by rfl)) (dss_one (ds_ret (de_tup (da_cons (de_c pe_str fun _ => .str "told") (da_cons (de_meth rfl htk L.cls_Cost L.m_Cost_at (ok_Cost_at L) (hr.mono (by decide)) L.Cost_at.bd (de_var 1) (da_cons (de_var 2) da_nil) (len_cons len_nil) rfl) da_nil))))) dss_nil)
    (dss_cons (ds_if (dt_cmp (op_eqA hr.units) (opd_eq2 rfl) nox_eq2 (de_var 0) (de_c pe_int fun _ => .int 1) (by rfl)) (dss_one (ds_ret (de_tup (da_cons (de_c pe_str fun _ => .str "told") (da_cons (de_meth rfl htk L.cls_Cost L.m_Cost_latest (ok_Cost_latest L) (hr.mono (by decide)) L.Cost_latest.bd (de_var 1) (da_cons (de_var 2) da_nil) (len_cons len_nil) rfl) da_nil))))) dss_nil)
    (dss_cons (ds_if (dt_cmp (op_eqA hr.units) (opd_eq2 rfl) nox_eq2 (de_var 0) (de_c pe_int fun _ => .int 2) (by rfl)) (dss_one (ds_ret (de_tup (da_cons (de_c pe_str fun _ => .str "told") (da_cons (de_methK0 rfl htk L.cls_Cost L.m_Cost_at (ok_Cost_at L) (hr.mono (by decide)) (ks := ["time"]) L.b1_Cost_at (de_var 1) (dk_cons (de_var 2) dk_nil) (len_cons len_nil) rfl) da_nil))))) dss_nil)
    (dss_one (ds_ret (de_tup (da_cons (de_c pe_str fun _ => .str "told") (da_cons (de_methK0 rfl htk L.cls_Cost L.m_Cost_latest (ok_Cost_latest L) (hr.mono (by decide)) (ks := ["bound"]) L.b1_Cost_latest (de_var 1) (dk_cons (de_var 2) dk_nil) (len_cons len_nil) rfl) da_nil))))))))) (.named (by decide) rfl rfl ⟨by rfl, by decide, .inl L.c_BadNumber⟩ (dx_tup (dxs_cons (dx_of fun _ _ _ => (de_c pe_str fun _ => .str "number")) (dxs_cons (dx_fld (i := 3) rfl rfl (L.x_BadNumber base).xf L.n_BadNumber (fun _ _ _ => pe_var rfl (.inl rfl))) dxs_nil))) .nil)))
theorem ok_l_asked_right (L : Facts P w mg c) : DOk P w mg base c 7 L.p_l_asked_right L.d_l_asked_right ["_law_state", "_law_pairs", "_law_cost"] f_l_asked_right := by
  have nd := sc_l_asked_right.nd
  exact dok_of (k := 6) L.l_asked_right.fn sc_l_asked_right fun cdv A outer s H E hr =>
    (dss_cons (ds_set (i := 3) nd rfl (by first | exact .inl rfl | exact .inr rfl) (de_lst (da_cons (de_c pe_int fun _ => .int 0) (da_cons (de_c pe_int fun _ => .int 1) da_nil))))
    (dss_cons (ds_for (vs := [4, 5]) (passes_of rfl) rfl (di_seq rfl (de_var 1)) (dg_tup rfl rfl (dgs_cons (dg_name nd (i := 4) rfl (by first | exact .inl rfl | exact .inr rfl) (by decide)) (dgs_cons (dg_name nd (i := 5) rfl (by first | exact .inl rfl | exact .inr rfl) (by decide)) dgs_nil))) (dss_one (ds_set (i := 3) nd rfl (by first | exact .inl rfl | exact .inr rfl) (de_op opr_add (opd_add rfl) nox_add (de_var 3) (de_lst (da_cons (de_op op_sub opd_sub nox_int (de_var 4) (de_c pe_int fun _ => .int 1)) (da_cons (de_var 4) (da_cons (de_op opr_add (opd_add rfl) nox_add (de_var 4) (de_c pe_int fun _ => .int 1)) (da_cons (de_op op_sub opd_sub nox_int (de_var 5) (de_c pe_int fun _ => .int 1)) (da_cons (de_var 5) (da_cons (de_op opr_add (opd_add rfl) nox_add (de_var 5) (de_c pe_int fun _ => .int 1)) da_nil)))))))))))
    (dss_cons (ds_for (vs := [6]) (passes_of rfl) rfl (di_range1 (by rfl) L.z_range (de_c pe_int fun _ => .int 8)) (dg_name nd (i := 6) rfl (by first | exact .inl rfl | exact .inr rfl) (by decide)) (dss_cons (ds_set (i := 7) nd rfl (by first | exact .inl rfl | exact .inr rfl) (de_ix rfl (de_op opr_add (opd_add rfl) nox_add (de_var 3) (de_lst (da_cons (de_neg (de_c pe_int fun _ => .int 1)) (da_cons (de_c pe_bl fun _ => .bl true) (da_cons (de_c pe_non fun _ => .non) (da_cons (de_c pe_str fun _ => .str "1") (da_cons (de_op op_pow opd_pow nox_int (de_c pe_int fun _ => .int 10) (de_c pe_int fun _ => .int 25)) (da_cons (de_lst (da_cons (de_c pe_int fun _ => .int 1) da_nil)) da_nil)))))))) (de_call rfl (takes_of rfl rfl rfl rfl) (ok_l_take L) (hr.mono (by decide)) (by rfl) L.l_take.gl L.l_take.kp L.l_take.bd (da_cons (de_var 0) (da_cons (de_op opr_add (opd_add rfl) nox_add (de_callB call_len (cd_len rfl) bn_len (by rfl) L.z_len PySem.boot_len (da_cons (de_var 3) da_nil)) (de_c pe_int fun _ => .int 6)) da_nil)) (len_cons (len_cons len_nil))) (fun _ _ => rfl)))
    (dss_one (ds_for (vs := [8]) (passes_of rfl) rfl (di_seq rfl (de_call rfl (takes_of rfl rfl rfl rfl) (ok_l_shuffled L) (hr.mono (by decide)) (by rfl) L.l_shuffled.gl L.l_shuffled.kp L.l_shuffled.bd (da_cons (de_var 0) (da_cons (de_lst (da_cons (de_c pe_int fun _ => .int 0) (da_cons (de_c pe_int fun _ => .int 1) (da_cons (de_c pe_int fun _ => .int 2) (da_cons (de_c pe_int fun _ => .int 3) da_nil))))) da_nil)) (len_cons (len_cons len_nil)))) (dg_name nd (i := 8) rfl (by first | exact .inl rfl | exact .inr rfl) (by decide)) (dss_cons (ds_set (i := 9) nd rfl (by first | exact .inl rfl | exact .inr rfl) (de_tup (da_cons (de_c pe_str fun _ => .str "number") (da_cons (de_var 7) da_nil))))
    (dss_cons (ds_if (dt_w (dt_and (dt_truth rfl (de_call rfl (takes_of rfl rfl rfl rfl) (ok_l_is_number L) (hr.mono (by decide)) (by rfl) L.l_is_number.gl L.l_is_number.kp L.l_is_number.bd (da_cons (de_var 7) da_nil) (len_cons len_nil))) (dt_and1 (dt_cmp op_ge opd_ge nox_int (de_var 7) (de_c pe_int fun _ => .int 0) (by rfl))))) (dss_one (ds_set (i := 9) nd rfl (by first | exact .inl rfl | exact .inr rfl) (de_tup (da_cons (de_c pe_str fun _ => .str "told") (da_cons (de_ix rfl (de_lst (da_cons (de_call rfl (takes_of rfl rfl rfl rfl) (ok_l_at L) (hr.mono (by decide)) (by rfl) L.l_at.gl L.l_at.kp L.l_at.bd (da_cons (de_var 1) (da_cons (de_var 7) da_nil)) (len_cons (len_cons len_nil))) (da_cons (de_call rfl (takes_of rfl rfl rfl rfl) (ok_l_latest L) (hr.mono (by decide)) (by rfl) L.l_latest.gl L.l_latest.kp L.l_latest.bd (da_cons (de_var 1) (da_cons (de_var 7) da_nil)) (len_cons (len_cons len_nil))) da_nil))) (de_op op_modN opd_mod nox_int (de_var 8) (de_c pe_int fun _ => .int 2)) (fun _ _ => rfl)) da_nil))))) dss_nil)
    (dss_cons (ds_set (i := 10) nd rfl (by first | exact .inl rfl | exact .inr rfl) (de_call rfl (takes_of rfl rfl rfl rfl) (ok_l_ask L) (hr.mono (by decide)) (by rfl) L.l_ask.gl L.l_ask.kp L.l_ask.bd (da_cons (de_var 8) (da_cons (de_var 2) (da_cons (de_var 7) da_nil))) (len_cons (len_cons (len_cons len_nil)))))
    (dss_one (ds_if (dt_w (dt_or (dt_cmp (op_neA hr.units) (opd_eq2 rfl) nox_eq2 (de_var 10) (de_var 9) (by rfl)) (dt_or1 (dt_w (dt_and (dt_cmp (op_eqA hr.units) (opd_eq2 rfl) nox_eq2 (de_ix rfl (de_var 9) (de_c pe_int fun _ => .int 0) (fun _ _ => rfl)) (de_c pe_str fun _ => .str "told") (by rfl)) (dt_and1 (dt_truth rfl (de_callB call_isi (cd_isi rfl L.isi) bn_isi (by rfl) L.z_isinstance PyProof.Rows.boot_isinstance (da_cons (de_ix rfl (de_var 10) (de_c pe_int fun _ => .int 1) (fun _ _ => rfl)) (da_cons (de_c (pe_bltn (v := .ty "bool") (by rfl) L.z_bool (by decide +kernel) rfl) fun _ => .ty "bool") da_nil)))))))))) (dss_one (ds_ret (de_c pe_bl fun _ => .bl false))) dss_nil)))))))))
    (dss_one (ds_ret (de_c pe_bl fun _ => .bl true))))))
theorem ok_Cost_eq (L : Facts P w mg c) : DOk P w mg base c 2 L.p_Cost_eq L.d_Cost_eq ["self", "other"] f_Cost_eq := by
  have nd := sc_Cost_eq.nd
  exact dok_of (k := 1) L.Cost_eq.fn sc_Cost_eq fun cdv A outer s H E hr =>
    (dss_one (ds_ret (de_and (de_callB call_isi (cd_isi rfl L.isi) bn_isi (by rfl) L.z_isinstance PyProof.Rows.boot_isinstance (da_cons (de_var 1) (da_cons (de_c (pe_glob (v := .ref (c.cm "Cost")) (by rfl) L.c_Cost rfl) fun _ => .cls "Cost") da_nil))) (de_one (de_cmp (op_eqA hr.units) (opd_eq2 rfl) nox_eq2 (de_fld rfl L.f_steps (de_var 0)) (de_fld rfl L.f_steps (de_var 1)) (by rfl))))))
theorem ok_law (L : Facts P w mg c) : DOk P w mg base c 9 L.p_law L.d_law ["_law_script"] f_law := by
  have nd := sc_law.nd
  exact dok_of (k := 8) L.law.fn sc_law fun cdv A outer s H E hr =>
    (dss_cons (ds_set (i := 1) nd rfl (by first | exact .inl rfl | exact .inr rfl) (de_call rfl (takes_of rfl rfl rfl rfl) (ok_l_start L) (hr.mono (by decide)) (by rfl) L.l_start.gl L.l_start.kp L.l_start.bd (da_cons (de_var 0) da_nil) (len_cons len_nil)))
    (dss_cons (ds_set (i := 2) nd rfl (by first | exact .inl rfl | exact .inr rfl) (de_call rfl (takes_of rfl rfl rfl rfl) (ok_l_steps L) (hr.mono (by decide)) (by rfl) L.l_steps.gl L.l_steps.kp L.l_steps.bd (da_cons (de_var 1) da_nil) (len_cons len_nil)))
    (dss_cons (ds_for (vs := [3]) (passes_of rfl) rfl (di_range1 (by rfl) L.z_range (de_ix rfl (de_lst (da_cons (de_c pe_int fun _ => .int 0) (da_cons (de_c pe_int fun _ => .int 0) (da_cons (de_c pe_int fun _ => .int 1) (da_cons (de_c pe_int fun _ => .int 2) da_nil))))) (de_call rfl (takes_of rfl rfl rfl rfl) (ok_l_take L) (hr.mono (by decide)) (by rfl) L.l_take.gl L.l_take.kp L.l_take.bd (da_cons (de_var 1) (da_cons (de_c pe_int fun _ => .int 4) da_nil)) (len_cons (len_cons len_nil))) (fun _ _ => rfl))) (dg_name nd (i := 3) rfl (by first | exact .inl rfl | exact .inr rfl) (by decide)) (dss_one (ds_set (i := 2) nd rfl (by first | exact .inl rfl | exact .inr rfl) (de_call rfl (takes_of rfl rfl rfl rfl) (ok_l_spoiled L) (hr.mono (by decide)) (by rfl) L.l_spoiled.gl L.l_spoiled.kp L.l_spoiled.bd (da_cons (de_var 1) (da_cons (de_var 2) da_nil)) (len_cons (len_cons len_nil))))))
    (dss_cons (ds_set (i := 4) nd rfl (by first | exact .inl rfl | exact .inr rfl) (de_call rfl (takes_of rfl rfl rfl rfl) (ok_l_due L) (hr.mono (by decide)) (by rfl) L.l_due.gl L.l_due.kp L.l_due.bd (da_cons (de_var 2) da_nil) (len_cons len_nil)))
    (dss_cons (ds_set (i := 5) nd rfl (by first | exact .inl rfl | exact .inr rfl) (de_callTy call_list_of (cd_listN rfl) bn_listN (by rfl) L.z_list PyProof.Rows.boot_list (da_cons (de_var 2) da_nil)))
    (dss_cons (ds_if (dt_w (dt_or (dt_cmp (op_neA hr.units) (opd_eq2 rfl) nox_eq2 (de_call rfl (takes_of rfl rfl rfl rfl) (ok_l_told L) (hr.mono (by decide)) (by rfl) L.l_told.gl L.l_told.kp L.l_told.bd (da_cons (de_c pe_int fun _ => .int 0) (da_cons (de_var 5) da_nil)) (len_cons (len_cons len_nil))) (de_var 4) (by rfl)) (dt_or (dt_cmp (op_neA hr.units) (opd_eq2 rfl) nox_eq2 (de_call rfl (takes_of rfl rfl rfl rfl) (ok_l_told L) (hr.mono (by decide)) (by rfl) L.l_told.gl L.l_told.kp L.l_told.bd (da_cons (de_c pe_int fun _ => .int 1) (da_cons (de_callTy call_tuple_of (cd_tuple rfl) bn_tuple (by rfl) L.z_tuple PyProof.Rows.boot_tuple (da_cons (de_var 2) da_nil)) da_nil)) (len_cons (len_cons len_nil))) (de_var 4) (by rfl)) (dt_or1 (dt_cmp (op_neA hr.units) (opd_eq2 rfl) nox_eq2 (de_var 5) (de_var 2) (by rfl)))))) (dss_one (ds_ret (de_c pe_bl fun _ => .bl false))) dss_nil)
    (dss_cons (ds_if (dt_cmp (op_neA hr.units) (opd_eq2 rfl) nox_eq2 (de_ix rfl (de_var 4) (de_c pe_int fun _ => .int 0) (fun _ _ => rfl)) (de_c pe_str fun _ => .str "told") (by rfl)) (dss_one (ds_ret (de_c pe_bl fun _ => .bl true))) dss_nil)
    (dss_cons (ds_set (i := 6) nd rfl (by first | exact .inl rfl | exact .inr rfl) (de_make rfl (takes_of rfl rfl rfl rfl) L.mk_Cost (ok_Cost_init L) (hr.mono (by decide)) (by rfl) L.c_Cost L.Cost_init.bd (da_cons (de_var 5) da_nil) (len_cons len_nil) fin_ins rfl))
    (dss_cons (ds_expr (de_bm rfl PySem.F.plainAttrs_list PySem.F.slot_list_append PySem.F.type_list_append mt_append md_append (de_var 5) (da_cons (de_tup (da_cons (de_op op_pow opd_pow nox_int (de_c pe_int fun _ => .int 10) (de_c pe_int fun _ => .int 30)) (da_cons (de_op op_pow opd_pow nox_int (de_c pe_int fun _ => .int 10) (de_c pe_int fun _ => .int 30)) da_nil))) da_nil)))
    (dss_cons (ds_if (dt_w (dt_or (dt_cmp (op_neA hr.units) (opd_eq2 rfl) nox_eq2 (de_prop rfl L.cls_Cost L.q_Cost_steps (ok_Cost_steps L) (hr.mono (by decide)) L.Cost_steps.bd rfl (de_var 6)) (de_ix rfl (de_var 4) (de_c pe_int fun _ => .int 1) (fun _ _ => rfl)) (by rfl)) (dt_or (dt_not (dt_truth rfl (de_callB call_isi (cd_isi rfl L.isi) bn_isi (by rfl) L.z_isinstance PyProof.Rows.boot_isinstance (da_cons (de_prop rfl L.cls_Cost L.q_Cost_steps (ok_Cost_steps L) (hr.mono (by decide)) L.Cost_steps.bd rfl (de_var 6)) (da_cons (de_c (pe_bltn (v := .ty "tuple") (by rfl) L.z_tuple (by decide +kernel) rfl) fun _ => .ty "tuple") da_nil))))) (dt_or1 (dt_not (dt_truth rfl (de_call rfl (takes_of rfl rfl rfl rfl) (ok_l_asked_right L) (hr.mono (by decide)) (by rfl) L.l_asked_right.gl L.l_asked_right.kp L.l_asked_right.bd (da_cons (de_var 1) (da_cons (de_ix rfl (de_var 4) (de_c pe_int fun _ => .int 1) (fun _ _ => rfl)) (da_cons (de_var 6) da_nil))) (len_cons (len_cons (len_cons len_nil)))))))))) (dss_one (ds_ret (de_c pe_bl fun _ => .bl false))) dss_nil)
    (dss_cons (ds_set (i := 7) nd rfl (by first | exact .inl rfl | exact .inr rfl) (de_call rfl (takes_of rfl rfl rfl rfl) (ok_l_steps L) (hr.mono (by decide)) (by rfl) L.l_steps.gl L.l_steps.kp L.l_steps.bd (da_cons (de_var 1) da_nil) (len_cons len_nil)))
    (dss_cons (ds_set (i := 8) nd rfl (by first | exact .inl rfl | exact .inr rfl) (de_cmp (op_eqA hr.units) (opd_eq2 rfl) nox_eq2 (de_callTy call_tuple_of (cd_tuple rfl) bn_tuple (by rfl) L.z_tuple PyProof.Rows.boot_tuple (da_cons (de_var 7) da_nil)) (de_ix rfl (de_var 4) (de_c pe_int fun _ => .int 1) (fun _ _ => rfl)) (by rfl)))
    (dss_cons (ds_if (dt_w (dt_or (dt_cmp (op_neA hr.units) (opd_eq2 rfl) nox_eq2 (de_cmp (op_ownEq rfl L.eq_Cost (ok_Cost_eq L) (hr.mono (by decide)) L.Cost_eq.bd rfl) (opd_own L.eq_Cost rfl) nox_own (de_var 6) (de_make rfl (takes_of rfl rfl rfl rfl) L.mk_Cost (ok_Cost_init L) (hr.mono (by decide)) (by rfl) L.c_Cost L.Cost_init.bd (da_cons (de_var 7) da_nil) (len_cons len_nil) fin_ins rfl) (by rfl)) (de_var 8) (by rfl)) (dt_or (dt_cmp (op_neA hr.units) (opd_eq2 rfl) nox_eq2 (de_cmp (op_ownEq rfl L.eq_Cost (ok_Cost_eq L) (hr.mono (by decide)) L.Cost_eq.bd rfl) (opd_own L.eq_Cost rfl) nox_own (de_make rfl (takes_of rfl rfl rfl rfl) L.mk_Cost (ok_Cost_init L) (hr.mono (by decide)) (by rfl) L.c_Cost L.Cost_init.bd (da_cons (de_var 7) da_nil) (len_cons len_nil) fin_ins rfl) (de_var 6) (by rfl)) (de_var 8) (by rfl)) (dt_or1 (dt_cmp (op_ownNe rfl L.eq_Cost (ok_Cost_eq L) (hr.mono (by decide)) L.Cost_eq.bd rfl) (opd_own L.eq_Cost rfl) nox_own (de_var 6) (de_make rfl (takes_of rfl rfl rfl rfl) L.mk_Cost (ok_Cost_init L) (hr.mono (by decide)) (by rfl) L.c_Cost L.Cost_init.bd (da_cons (de_callTy call_list_of (cd_list rfl) bn_list (by rfl) L.z_list PyProof.Rows.boot_list (da_cons (de_ix rfl (de_var 4) (de_c pe_int fun _ => .int 1) (fun _ _ => rfl)) da_nil)) da_nil) (len_cons len_nil) fin_ins rfl) (by rfl)))))) (dss_one (ds_ret (de_c pe_bl fun _ => .bl false))) dss_nil)
    (dss_one (ds_ret (de_cmp (op_eqA hr.units) (opd_eq2 rfl) nox_eq2 (de_lc (own := [("_law_thing", 9)]) finL_ok rfl nd (di_seq rfl (de_lst (da_cons (de_c pe_non fun _ => .non) (da_cons (de_c pe_int fun _ => .int 0) (da_cons (de_c pe_str fun _ => .str "free") (da_cons (de_tup da_nil) (da_cons (de_lst da_nil) (da_cons de_dict0 (da_cons (de_ix rfl (de_var 4) (de_c pe_int fun _ => .int 1) (fun _ _ => rfl)) da_nil))))))))) (by exact blkOk_by (N := ["_law_script", "_law_state", "_law_pairs", "_law_turn", "_law_due_here", "_law_handed", "_law_cost", "_law_near", "_law_same", "_law_thing"]) (sc := defScope s_law) (by decide +kernel)) (fun _ => (dg_name nd (i := 9) rfl (by first | exact .inl rfl | exact .inr rfl) (by decide))) (fun _ => (dts_one (dt_cmp (op_ownEq rfl L.eq_Cost (ok_Cost_eq L) (hr.mono (by decide)) L.Cost_eq.bd rfl) (opd_own L.eq_Cost rfl) nox_own (de_var 6) (de_var 9) (by rfl)))) (fun _ => (de_var 9))) (de_lst da_nil) (by rfl)))))))))))))))))
end
end TP
local macro_rules
  | `(tactic| simp_arith [$args,*] $[$l:location]?) => `(tactic| simp only [$args,*, DD.g_kSet, DD.g_kEx, DD.g_kRet, DD.g_kDrop, DD.g_kIf, DD.g_kAsg, DD.g_kPut3, DD.g_kPut2, DD.g_kPut1, DD.g_kFor, DD.g_kRaise, DD.g_kOp2, DD.g_kOp1, DD.g_kB, DD.g_kCons2, DD.g_kCons1, DD.g_kToB, DD.g_kTru, DD.g_kNot, DD.g_kAnd, DD.g_kOr, DD.g_kAndV2, DD.g_kAndV1, DD.g_kOrV2, DD.g_kOrV1, DD.g_kNotV2, DD.g_kNotV1, DD.g_kIfx, DD.g_kTup, DD.g_kLst, DD.g_kNew, DD.g_kNeg, DD.g_kArgs2, DD.g_kArgs1, DD.g_kBm2, DD.g_kBm1, DD.g_kFld, DD.g_kMeth2, DD.g_kMeth1, DD.g_kMake2, DD.g_kMake1, DD.g_kCbk2, DD.g_kCbk1, DD.g_kRev, DD.g_kSl3, DD.g_kSl2, DD.g_kSl1, DD.g_kPart, DD.g_kCh5, DD.g_kCh4, DD.g_kCh3, DD.g_kCh2, DD.g_kCh1, DD.g_kFin, DD.g_kLc, DD.g_kFp2, DD.g_kFp1, DD.w_seq, DD.t_rt, DD.t_bk, DD.t_ct, DD.t_ex, DD.t_nx, DD.w_set, DD.w_ret, DD.w_retN, DD.w_next, DD.w_break, DD.w_cont, DD.w_expr, DD.w_if, DD.w_asg, DD.w_put, DD.w_for, DD.w_raise, DD.w_op, DD.w_c, DD.w_cb, DD.w_cons, DD.w_nil, DD.w_test, DD.w_truth, DD.w_not, DD.w_and, DD.w_or, DD.w_andV, DD.w_orV, DD.w_notV, DD.w_ifx, DD.w_tup, DD.w_lst, DD.w_new, DD.w_neg, DD.w_dict0, DD.w_call, DD.w_args, DD.w_bm, DD.w_fld, DD.w_prop, DD.w_meth, DD.w_make, DD.w_cbk, DD.w_rev, DD.w_sl, DD.w_nopart, DD.w_part, DD.w_chain, DD.w_cseq, DD.w_rg1, DD.w_lc, DD.w_yes, DD.w_def, DD.f_nx, DD.f_rt, DD.f_ex, DD.w_try, DD.r_nx, DD.r_rt, DD.r_ex, DD.w_fput, DD.w_var, DD.lm0, DD.lm1, DD.lm2, DD.lm3, DD.lm4, DD.lm5, DD.lm6, DD.lm7, DD.lm8, DD.lm9, DD.lm10, DD.lm11, DD.lm12, DD.lm13, DD.lm14, DD.lm15, DD.lm16, DD.lm17, DD.lm18, DD.lm19, DD.x_add, DD.x_sub, DD.x_lt, DD.x_le, DD.x_gt, DD.x_ge, DD.x_bl, DD.x_tbl, DD.x_max, DD.x_abs, DD.x_int, DD.x_b1, DD.x_b2, DD.x_lenL, DD.x_lenT, DD.wp_ok, DD.wp_exc, DD.wp_stk, DD.wp_nx, DD.wp_rt, DD.wp_xc, DD.gT, DD.gN, DD.gsCons, DD.gsNil, List.map_cons, List.map_nil, List.length_cons, List.length_nil, List.cons_append, List.nil_append, List.getElem?_cons_zero, List.getElem?_cons_succ, List.set_cons_zero, List.set_cons_succ, List.replicate, Option.bind_some, Nat.reduceAdd, Nat.reduceSub, ite_true, ite_false, if_true, if_false, Bool.not_true, Bool.not_false, Bool.true_eq_false, Bool.false_eq_true] $[$l]?)
  | `(tactic| simp_arith $[$l:location]?) => `(tactic| simp only [DD.g_kSet, DD.g_kEx, DD.g_kRet, DD.g_kDrop, DD.g_kIf, DD.g_kAsg, DD.g_kPut3, DD.g_kPut2, DD.g_kPut1, DD.g_kFor, DD.g_kRaise, DD.g_kOp2, DD.g_kOp1, DD.g_kB, DD.g_kCons2, DD.g_kCons1, DD.g_kToB, DD.g_kTru, DD.g_kNot, DD.g_kAnd, DD.g_kOr, DD.g_kAndV2, DD.g_kAndV1, DD.g_kOrV2, DD.g_kOrV1, DD.g_kNotV2, DD.g_kNotV1, DD.g_kIfx, DD.g_kTup, DD.g_kLst, DD.g_kNew, DD.g_kNeg, DD.g_kArgs2, DD.g_kArgs1, DD.g_kBm2, DD.g_kBm1, DD.g_kFld, DD.g_kMeth2, DD.g_kMeth1, DD.g_kMake2, DD.g_kMake1, DD.g_kCbk2, DD.g_kCbk1, DD.g_kRev, DD.g_kSl3, DD.g_kSl2, DD.g_kSl1, DD.g_kPart, DD.g_kCh5, DD.g_kCh4, DD.g_kCh3, DD.g_kCh2, DD.g_kCh1, DD.g_kFin, DD.g_kLc, DD.g_kFp2, DD.g_kFp1, DD.w_seq, DD.t_rt, DD.t_bk, DD.t_ct, DD.t_ex, DD.t_nx, DD.w_set, DD.w_ret, DD.w_retN, DD.w_next, DD.w_break, DD.w_cont, DD.w_expr, DD.w_if, DD.w_asg, DD.w_put, DD.w_for, DD.w_raise, DD.w_op, DD.w_c, DD.w_cb, DD.w_cons, DD.w_nil, DD.w_test, DD.w_truth, DD.w_not, DD.w_and, DD.w_or, DD.w_andV, DD.w_orV, DD.w_notV, DD.w_ifx, DD.w_tup, DD.w_lst, DD.w_new, DD.w_neg, DD.w_dict0, DD.w_call, DD.w_args, DD.w_bm, DD.w_fld, DD.w_prop, DD.w_meth, DD.w_make, DD.w_cbk, DD.w_rev, DD.w_sl, DD.w_nopart, DD.w_part, DD.w_chain, DD.w_cseq, DD.w_rg1, DD.w_lc, DD.w_yes, DD.w_def, DD.f_nx, DD.f_rt, DD.f_ex, DD.w_try, DD.r_nx, DD.r_rt, DD.r_ex, DD.w_fput, DD.w_var, DD.lm0, DD.lm1, DD.lm2, DD.lm3, DD.lm4, DD.lm5, DD.lm6, DD.lm7, DD.lm8, DD.lm9, DD.lm10, DD.lm11, DD.lm12, DD.lm13, DD.lm14, DD.lm15, DD.lm16, DD.lm17, DD.lm18, DD.lm19, DD.x_add, DD.x_sub, DD.x_lt, DD.x_le, DD.x_gt, DD.x_ge, DD.x_bl, DD.x_tbl, DD.x_max, DD.x_abs, DD.x_int, DD.x_b1, DD.x_b2, DD.x_lenL, DD.x_lenT, DD.wp_ok, DD.wp_exc, DD.wp_stk, DD.wp_nx, DD.wp_rt, DD.wp_xc, DD.gT, DD.gN, DD.gsCons, DD.gsNil, List.map_cons, List.map_nil, List.length_cons, List.length_nil, List.cons_append, List.nil_append, List.getElem?_cons_zero, List.getElem?_cons_succ, List.set_cons_zero, List.set_cons_succ, List.replicate, Option.bind_some, Nat.reduceAdd, Nat.reduceSub, ite_true, ite_false, if_true, if_false, Bool.not_true, Bool.not_false, Bool.true_eq_false, Bool.false_eq_true] $[$l]?)
namespace TP
open PySem PySem.Spec DD
/-! ### the drawing -/
/-- the state of the drawing -/
structure Z where
  xs : List Int
  a : Int
  n : Int
def Z.st (z : Z) (T : Sto) : Sto := .lst (z.xs.map D.int) :: .lst [.loc 0, .int z.a, .int z.n] :: T
structure Z.ok (z : Z) (k : Nat) : Prop where
  len : z.xs.length ≤ 63
  n0 : 0 ≤ z.n
  n1 : z.n ≤ k
theorem Z.ok.up {z : Z} {j k : Nat} (h : z.ok j) (le : j ≤ k) : z.ok k := ⟨h.len, h.n0, by have := h.n1; omega⟩
theorem start_eq {xs : List Int} (h : xs.length ≤ 63) : f_l_start [.wl (xs.map D.int)] [] = .ok (.loc 1) (Z.st ⟨xs, 0, 0⟩ []) := by
  have hz : ([] : List D).length + (xs.map D.int).length ≤ sizeLine := by
    have : (63 : Nat) ≤ sizeLine := by decide
    rw [List.length_map, List.length_nil]; omega
  have e := cLoop_pure (gf := gN 1) (ft := cYes) (fe := cCB (b1 oToInt) (cCons (cVar 1) cNil)) (src := ⟨xs.map D.int, none⟩) (Γ := wipeD [some (.wl (xs.map D.int)), none] [1]) (S := []) (fun _ => true) id rfl (xs.map D.int) [] hz (fun x hx => by
    obtain ⟨i, _, rfl⟩ := List.mem_map.mp hx
    exact ⟨_, rfl, rfl, fun _ => rfl⟩)
  have e2 : ((xs.map D.int).filter fun _ => true).map id = xs.map D.int := by simp
  rw [e2] at e
  have e3 : cLc finN [1] (gN 1) (cSeq (cVar 0)) cYes (cCB (b1 oToInt) (cCons (cVar 1) cNil)) [some (.wl (xs.map D.int)), none] [] = .ok (.loc 0) [.lst (xs.map D.int)] := by
    show (cLoop (gN 1) cYes _ ⟨xs.map D.int, none⟩ (wipeD _ [1]) (xs.map D.int) [] []).bind finN = _
    rw [e]; rfl
  show (SRes.of (((cLc finN [1] (gN 1) (cSeq (cVar 0)) cYes (cCB (b1 oToInt) (cCons (cVar 1) cNil)) [some (.wl (xs.map D.int)), none] []).bind _).bind _) _ _).out = _
  rw [e3]
  rfl
theorem st0 {a : Int} {n : Int} {xs : List D} {T : Sto} : sqOf (.lst xs :: .lst [.loc 0, .int a, .int n] :: T) (.loc 1) = some [.loc 0, .int a, .int n] := rfl
theorem st1 {d : D} {xs : List D} {T : Sto} : sqOf (.lst xs :: d' :: T) (.loc 0) = some xs := rfl
theorem take_wp {z : Z} {T : Sto} {lm : Int} {k : Nat} {Q : D → Sto → Prop} {E : Str → List (Str × D) → Sto → Prop} (h : z.ok k) (hk : k < 1000000) (h0 : 0 < lm) (h1 : lm < 2 ^ 100) (q : ∀ (r : Int) (z' : Z), 0 ≤ r → r < lm → z'.ok (k + 1) → Q (.int r) (z'.st T)) :
    (f_l_take [.loc 1, .int lm] (z.st T)).wp Q E := by
  obtain ⟨xs, a, n⟩ := z
  obtain ⟨hl, n0, n1⟩ := h
  have hl : xs.length ≤ 63 := hl
  have n0 : 0 ≤ n := n0
  have n1 : n ≤ k := n1
  have ix0 : ∀ {xs : List D} {a n : Int} {T : Sto}, oIx (.loc 1) (.int 0) (.lst xs :: .lst [.loc 0, .int a, .int n] :: T) = .ok (.loc 0) (.lst xs :: .lst [.loc 0, .int a, .int n] :: T) := rfl
  have ix1 : ∀ {xs : List D} {a n : Int} {T : Sto}, oIx (.loc 1) (.int 1) (.lst xs :: .lst [.loc 0, .int a, .int n] :: T) = .ok (.int a) (.lst xs :: .lst [.loc 0, .int a, .int n] :: T) := rfl
  have ix2 : ∀ {xs : List D} {a n : Int} {T : Sto}, oIx (.loc 1) (.int 2) (.lst xs :: .lst [.loc 0, .int a, .int n] :: T) = .ok (.int n) (.lst xs :: .lst [.loc 0, .int a, .int n] :: T) := rfl
  have pu1 : ∀ {xs : List D} {a n m : Int} {T : Sto}, DD.putAt (.lst xs :: .lst [.loc 0, .int a, .int n] :: T) (.loc 1) (.int 1) (.int m) = some (.lst xs :: .lst [.loc 0, .int m, .int n] :: T) := rfl
  have pu2 : ∀ {xs : List D} {a n m : Int} {T : Sto}, DD.putAt (.lst xs :: .lst [.loc 0, .int a, .int n] :: T) (.loc 1) (.int 2) (.int m) = some (.lst xs :: .lst [.loc 0, .int a, .int m] :: T) := rfl
  have len0 : ∀ {xs : List D} {T : Sto}, oLen (.loc 0) (.lst xs :: T) = .ok (.int xs.length) (.lst xs :: T) := rfl
  have tru0 : ∀ {xs : List D} {T : Sto}, truD (.loc 0) (.lst xs :: T) = .ok (!xs.isEmpty) (.lst xs :: T) := rfl
  have mr : ∀ {i j : Int} {S : Sto}, (-(2 ^ 64) < j ∧ j < 2 ^ 64) → oMulI (.int i) (.int j) S = .ok (.int (i * j)) S := fun h => x_mul (decide_eq_true (.inr h))
  -- the rest behind the cell
  have rest : ∀ (cl p : Int) (ys : List Int), ys.length ≤ 63 → (-(10 ^ 18) < cl ∧ cl < 10 ^ 18) → ((sIf (cTest (cOp oGe (cCB (b1 oAbs) (cCons (cVar 4) cNil)) (cOp oPow (cC (.int 10)) (cC (.int 18))))) (sSeq (sPut (cOp oDiv (cCB (b1 oAbs) (cCons (cVar 4) cNil)) (cVar 1)) (cVar 2) (cVar 3)) (sRet (cOp oMod (cCB (b1 oAbs) (cCons (cVar 4) cNil)) (cVar 1)))) sNext) [some (.loc 1), some (.int lm), some (.loc 0), some (.int p), some (.int cl), none] (.lst (ys.map D.int) :: .lst [.loc 0, .int a, .int (n + 1)] :: T)).wp
      ((En.dEf Q E).thn (sSeq (sPut (cOp oAdd (cOp oIx (cVar 0) (cC (.int 1))) (cC (.int 1))) (cVar 0) (cC (.int 1)))
    (sSeq (sSet 5 (cOp oMod (cOp oPow (cCB (b1 oToInt) (cCons (cOp oAdd (cOp oAdd (cOp oMulI (cOp oMod (cCB (b1 oToInt) (cCons (cVar 4) cNil)) (cC (.int 2147483647))) (cC (.int 48271))) (cOp oMulI (cOp oIx (cVar 0) (cC (.int 2))) (cC (.int 69621)))) (cC (.int 11))) cNil)) (cC (.int 5))) (cC (.int 2147483647))))
    (sSeq (sSet 5 (cOp oMod (cOp oPow (cCB (b1 oToInt) (cCons (cOp oAdd (cOp oAdd (cOp oMulI (cVar 5) (cC (.int 16807))) (cOp oMulI (cOp oIx (cVar 0) (cC (.int 2))) (cC (.int 40692)))) (cC (.int 7))) cNil)) (cC (.int 5))) (cC (.int 2147483629))))
    (sRet (cOp oMod (cOp oDiv (cVar 5) (cC (.int 16))) (cVar 1))))))) := by
    intro cl p ys hy hc
    simp_arith [ix0, ix1, ix2, pu1, pu2, len0, tru0, List.length_map]
    rw [x_pow (by decide)]
    simp_arith [ix0, ix1, ix2, pu1, pu2, len0, tru0, List.length_map]
    have hge : decide ((10 : Int) ^ Int.toNat 18 ≤ if cl < 0 then -cl else cl) = false := decide_eq_false (by
      have e : (10 : Int) ^ Int.toNat 18 = 10 ^ 18 := by decide
      rw [e]
      split <;> omega)
    simp_arith [hge, ix0, ix1, ix2, pu1, pu2, len0, tru0, List.length_map]
    rw [x_mod (by decide)]
    have c0 := Int.fmod_nonneg_of_pos cl (show (0 : Int) < 2147483647 by decide)
    have c1 := Int.fmod_lt_of_pos cl (show (0 : Int) < 2147483647 by decide)
    generalize cl.fmod 2147483647 = c at c0 c1 ⊢
    simp_arith [ix0, ix1, ix2, pu1, pu2, len0, tru0, List.length_map]
    rw [mr (by decide)]
    simp_arith [ix0, ix1, ix2, pu1, pu2, len0, tru0, List.length_map]
    rw [mr (by decide)]
    simp_arith [ix0, ix1, ix2, pu1, pu2, len0, tru0, List.length_map]
    rw [x_pow (by refine ⟨by decide, by decide, ?_⟩; omega)]
    simp_arith [ix0, ix1, ix2, pu1, pu2, len0, tru0, List.length_map]
    rw [x_mod (by decide)]
    generalize (c * 48271 + (n + 1) * 69621 + 11) ^ Int.toNat 5 = b
    have b0 := Int.fmod_nonneg_of_pos b (show (0 : Int) < 2147483647 by decide)
    have b1' := Int.fmod_lt_of_pos b (show (0 : Int) < 2147483647 by decide)
    generalize b.fmod 2147483647 = b at b0 b1' ⊢
    simp_arith [ix0, ix1, ix2, pu1, pu2, len0, tru0, List.length_map]
    rw [mr (by decide)]
    simp_arith [ix0, ix1, ix2, pu1, pu2, len0, tru0, List.length_map]
    rw [mr (by decide)]
    simp_arith [ix0, ix1, ix2, pu1, pu2, len0, tru0, List.length_map]
    rw [x_pow (by refine ⟨by decide, by decide, ?_⟩; omega)]
    simp_arith [ix0, ix1, ix2, pu1, pu2, len0, tru0, List.length_map]
    rw [x_mod (by decide)]
    simp_arith [ix0, ix1, ix2, pu1, pu2, len0, tru0, List.length_map]
    rw [x_div (by decide) (by decide)]
    simp_arith [ix0, ix1, ix2, pu1, pu2, len0, tru0, List.length_map]
    rw [x_mod (by omega)]
    simp_arith [ix0, ix1, ix2, pu1, pu2, len0, tru0, List.length_map]
    exact q _ ⟨ys, a + 1, n + 1⟩ (Int.fmod_nonneg_of_pos _ h0) (Int.fmod_lt_of_pos _ h0) ⟨hy, by show 0 ≤ n + 1; omega, by show n + 1 ≤ ((k + 1 : Nat) : Int); omega⟩
  unfold f_l_take Z.st
  simp_arith [ix0, ix1, ix2, pu1, pu2, len0, tru0, List.length_map]
  generalize hL : (if (xs.length : Int) > 1 then (xs.length : Int) else 1) = L
  have L0 : 0 < L := by rw [← hL]; split <;> omega
  rw [x_mod (by omega)]
  have p0 := Int.fmod_nonneg_of_pos a L0
  have p1 := Int.fmod_lt_of_pos a L0
  generalize a.fmod L = p at p0 p1 ⊢
  simp_arith [ix0, ix1, ix2, pu1, pu2, len0, tru0, List.length_map]
  cases hx : xs with
  | nil =>
    subst hx
    simp_arith [ix0, ix1, ix2, pu1, pu2, len0, tru0, List.length_map, List.isEmpty_nil]
    have r := rest 0 p [] (by decide) (by decide)
    simp_arith [ix0, ix1, ix2, pu1, pu2, len0, tru0, List.length_map] at r
    exact r
  | cons y ys =>
    have hp : p.toNat < (xs.map D.int).length := by
      rw [List.length_map]
      have : L ≤ xs.length := by rw [← hL, hx, List.length_cons]; split <;> omega
      omega
    rw [← hx]
    have ne : (xs.map D.int).isEmpty = false := by rw [hx]; rfl
    simp_arith [ne, ix0, ix1, ix2, pu1, pu2, len0, tru0, List.length_map]
    rw [x_ix (xs := xs.map D.int) (m := p.toNat) rfl (by omega) hp]
    rw [List.getElem_map]
    generalize xs[p.toNat]'(by simpa using hp) = cl
    by_cases hc : -(10 ^ 18) < cl ∧ cl < 10 ^ 18
    · have r := rest cl p xs hl hc
      simp_arith [ix0, ix1, ix2, pu1, pu2, len0, tru0, List.length_map] at r ⊢
      exact r
    · simp_arith [ix0, ix1, ix2, pu1, pu2, len0, tru0, List.length_map]
      rw [x_pow (by decide)]
      simp_arith [ix0, ix1, ix2, pu1, pu2, len0, tru0, List.length_map]
      have hge : decide ((10 : Int) ^ Int.toNat 18 ≤ if cl < 0 then -cl else cl) = true := decide_eq_true (by
        have e : (10 : Int) ^ Int.toNat 18 = 10 ^ 18 := by decide
        rw [e]
        split <;> omega)
      simp_arith [hge, ix0, ix1, ix2, pu1, pu2, len0, tru0, List.length_map]
      rw [x_div (by omega) (by omega)]
      simp_arith [ix0, ix1, ix2, pu1, pu2, len0, tru0, List.length_map]
      rw [x_put (xs := xs.map D.int) (m := p.toNat) rfl (by omega) hp]
      simp_arith [ix0, ix1, ix2, pu1, pu2, len0, tru0, List.length_map]
      rw [x_mod (by omega)]
      simp_arith [ix0, ix1, ix2, pu1, pu2, len0, tru0, List.length_map]
      rw [← List.map_set]
      exact q _ ⟨xs.set p.toNat _, a, n + 1⟩ (Int.fmod_nonneg_of_pos _ h0) (Int.fmod_lt_of_pos _ h0) ⟨by show (xs.set _ _).length ≤ 63; rw [List.length_set]; exact hl, by show 0 ≤ n + 1; omega, by show n + 1 ≤ ((k + 1 : Nat) : Int); omega⟩
end TP
namespace TP
open PySem PySem.Spec DD
/-! ### numbers, steps -/
def tyP : D → String
  | .non => "NoneType"
  | .bl _ => "bool"
  | .int _ => "int"
  | .str _ => "str"
  | .tup _ => "tuple"
  | .lst _ => "list"
  | _ => "dict"
theorem tyD_pd {n : Nat} {d : D} {S : Sto} (h : pd n d = true) : tyD S d = some (tyP d) := by
  cases d with
  | dk kvs => rfl
  | loc k => cases n <;> simp [pd] at h
  | wl k => cases n <;> simp [pd] at h
  | ins C k => cases n <;> simp [pd] at h
  | ty k => cases n <;> simp [pd] at h
  | ref k => cases n <;> simp [pd] at h
  | cls k => cases n <;> simp [pd] at h
  | _ => rfl
theorem x_isi {n : Nat} {d : D} {S : Sto} {ns : List Str} {k : String} (h : pd n d = true) (hk : kinds.contains k = true) : oIsi ns d (.ty k) S = .ok (.bl (isB (tyP d) k)) S := by
  show (match tyD S d, kinds.contains k with | some t, true => Res.ok (D.bl (isB t k)) S | _, _ => .stk) = _
  rw [tyD_pd h, hk]
/-- the run ends so -/
def Is (a : D) (S : Sto) (x : D) (S' : Sto) : Prop := x = a ∧ S' = S
def No (_ : Str) (_ : List (Str × D)) (_ : Sto) : Prop := False
theorem is_ok {a : D} {S : Sto} : Is a S a S := ⟨rfl, rfl⟩
theorem is_of {a b : D} {S : Sto} (h : b = a) : Is a S b S := ⟨h, rfl⟩
theorem eq_of_wp {r : Res D} {a : D} {S : Sto} (h : r.wp (Is a S) No) : r = .ok a S := by
  cases r with
  | ok x S' => obtain ⟨rfl, rfl⟩ := h; rfl
  | exc C fs S' => exact h.elim
  | stk => exact h.elim
def isI : D → Bool
  | .int _ => true
  | _ => false
def isN : D → Bool
  | .int i => decide (0 ≤ i)
  | _ => false
theorem lnum_eq {n : Nat} {d : D} {S : Sto} (h : pd n d = true) : f_l_is_number [d] S = .ok (D.bl (isI d)) S := by
  refine eq_of_wp ?_
  unfold f_l_is_number
  simp_arith
  rw [x_isi h (by decide)]
  simp_arith
  cases d with
  | int i =>
    simp_arith [tyP, show isB "int" "int" = true from by decide]
    rw [x_isi h (by decide)]
    simp_arith [tyP, show isB "int" "bool" = false from by decide]
    exact is_ok
  | bl b =>
    simp_arith [tyP, show isB "bool" "int" = true from by decide]
    rw [x_isi h (by decide)]
    simp_arith [tyP, show isB "bool" "bool" = true from by decide]
    exact is_ok
  | non => simp_arith [tyP, show isB "NoneType" "int" = false from by decide]; exact is_ok
  | str z => simp_arith [tyP, show isB "str" "int" = false from by decide]; exact is_ok
  | tup z => simp_arith [tyP, show isB "tuple" "int" = false from by decide]; exact is_ok
  | lst z => simp_arith [tyP, show isB "list" "int" = false from by decide]; exact is_ok
  | _ => simp_arith [tyP, show isB "dict" "int" = false from by decide]; exact is_ok
theorem int_eq {n : Nat} {d : D} {S : Sto} (h : pd n d = true) : f_is_integer [d] S = .ok (D.bl (isI d)) S := by
  refine eq_of_wp ?_
  unfold f_is_integer
  simp_arith
  rw [x_isi h (by decide)]
  simp_arith
  cases d with
  | int i =>
    simp_arith [tyP, show isB "int" "int" = true from by decide]
    rw [x_isi h (by decide)]
    simp_arith [tyP, show isB "int" "bool" = false from by decide]
    exact is_ok
  | bl b =>
    simp_arith [tyP, show isB "bool" "int" = true from by decide]
    rw [x_isi h (by decide)]
    simp_arith [tyP, show isB "bool" "bool" = true from by decide]
    exact is_ok
  | non => simp_arith [tyP, show isB "NoneType" "int" = false from by decide]; exact is_ok
  | str z => simp_arith [tyP, show isB "str" "int" = false from by decide]; exact is_ok
  | tup z => simp_arith [tyP, show isB "tuple" "int" = false from by decide]; exact is_ok
  | lst z => simp_arith [tyP, show isB "list" "int" = false from by decide]; exact is_ok
  | _ => simp_arith [tyP, show isB "dict" "int" = false from by decide]; exact is_ok
theorem num_eq {n : Nat} {d : D} {S : Sto} (h : pd n d = true) : f_is_number [d] S = .ok (.bl (isN d)) S := by
  refine eq_of_wp ?_
  unfold f_is_number
  simp_arith
  rw [int_eq h]
  simp_arith
  cases d with
  | int i => simp_arith [isI]; exact is_ok
  | _ => simp_arith [isI]; exact is_ok
def asPair : D → Option (Int × Int)
  | .tup [.int a, .int b] => some (a, b)
  | _ => none
def okStep (t0 c0 : Int) (d : D) : Bool := match asPair d with
  | some (t, c) => decide (0 ≤ t) && (decide (0 ≤ c) && (decide (t0 < t) && decide (c0 < c)))
  | none => false
theorem ne_ii {i j : Int} {S : Sto} : oEq2 (!·) (.int i) (.int j) S = .ok (.bl (!decide (i = j))) S := by
  simp [oEq2, eqD, eqStep, vw, L2.eqV]; rfl
theorem eq_ii {i j : Int} {S : Sto} : oEq2 id (.int i) (.int j) S = .ok (.bl (decide (i = j))) S := by
  simp [oEq2, eqD, eqStep, vw, L2.eqV]; rfl
theorem ix_t0 {a : D} {r : List D} {S : Sto} : oIx (.tup (a :: r)) (.int 0) S = .ok a S := by
  simp [oIx, sqOf, atD, L2.ixN]
theorem ix_t1 {a b : D} {r : List D} {S : Sto} : oIx (.tup (a :: b :: r)) (.int 1) S = .ok b S := by
  have h : (1 : Int) < ((r.length : Int) + 1 + 1) := by omega
  simp [oIx, sqOf, atD, L2.ixN, h]
theorem step_eq {d : D} {t0 c0 : Int} {S : Sto} (h : pd 1 d = true) : f_is_step [d, .tup [.int t0, .int c0]] S = .ok (.bl (okStep t0 c0 d)) S := by
  refine eq_of_wp ?_
  unfold f_is_step
  simp_arith
  rw [x_isi h (by decide)]
  simp_arith
  cases d with
  | tup xs =>
    simp_arith [tyP, show isB "tuple" "tuple" = true from by decide, ne_ii]
    have hx : ∀ x ∈ xs, pd 0 x = true := by simpa [pd] using h
    match xs, hx with
    | [], _ => exact is_ok
    | [a], _ => refine is_of ?_; cases a <;> rfl
    | a :: b :: e :: r, _ =>
      have hn : decide ((((a :: b :: e :: r).length : Nat) : Int) = 2) = false := decide_eq_false (by simp only [List.length_cons]; omega)
      simp only [List.length_cons] at hn
      simp_arith [hn]
      refine is_of ?_
      cases a <;> cases b <;> rfl
    | [a, b], hx =>
      have ha := hx a (by simp)
      have hb := hx b (by simp)
      have hn : decide (((0 + 1 + 1 : Nat) : Int) = 2) = true := by decide
      simp_arith at hn
      simp_arith [hn]
      rw [num_eq ha]
      simp_arith
      cases a with
      | int i =>
        simp only [isN]
        by_cases hi : 0 ≤ i
        · simp_arith [decide_eq_true hi]
          rw [num_eq hb]
          simp_arith
          cases b with
          | int j =>
            simp only [isN]
            by_cases hj : 0 ≤ j
            · simp_arith [decide_eq_true hj]
              simp_arith [ix_t0]
              by_cases ht : t0 < i
              · simp_arith [decide_eq_true ht]
                simp_arith [ix_t1]
                exact is_of (by simp [okStep, asPair, hi, hj, ht])
              · simp_arith [decide_eq_false ht]
                exact is_of (by simp [okStep, asPair, hi, hj, ht])
            · simp_arith [decide_eq_false hj]
              exact is_of (by simp [okStep, asPair, hj])
          | _ => simp_arith [isN]; exact is_ok
        · simp_arith [decide_eq_false hi]
          exact is_of (by cases b <;> simp [okStep, asPair, hi])
      | _ => simp_arith [isN]; exact is_ok
  | int i => simp_arith [tyP, show isB "int" "tuple" = false from by decide]; exact is_ok
  | bl b => simp_arith [tyP, show isB "bool" "tuple" = false from by decide]; exact is_ok
  | non => simp_arith [tyP, show isB "NoneType" "tuple" = false from by decide]; exact is_ok
  | str z => simp_arith [tyP, show isB "str" "tuple" = false from by decide]; exact is_ok
  | lst z => simp_arith [tyP, show isB "list" "tuple" = false from by decide]; exact is_ok
  | _ => simp_arith [tyP, show isB "dict" "tuple" = false from by decide]; exact is_ok
/-- the first item that can't stand where it stands -/
def firstBad : Int → Int → List D → Option D
  | _, _, [] => none
  | t0, c0, d :: r => match asPair d with
    | some (t, c) => if okStep t0 c0 d = true then firstBad t c r else some d
    | none => some d
/-- what is walked: a list or a tuple -/
theorem seq_wp {f : EF} {Γ : DD.Env} {S : Sto} {PI : Src → Sto → Prop} {d : D} {xs : List D} (h : sqOf S d = some xs) (q : ∀ src : Src, src.xs = xs → grd src S = true → PI src S) : kSeq1 PI d S := by
  cases d with
  | lst ys => cases h; exact q ⟨_, none⟩ rfl rfl
  | tup ys => cases h; exact q ⟨_, none⟩ rfl rfl
  | wl ys => cases h; exact q ⟨_, none⟩ rfl rfl
  | loc n =>
    have h : (match S[n]? with | some (.lst xs) => some xs | _ => none) = some xs := h
    show (match S[n]? with | some (.lst xs) => PI ⟨xs, some n⟩ S | _ => False)
    cases hc : S[n]? with
    | none => rw [hc] at h; cases h
    | some k =>
      rw [hc] at h
      cases k with
      | lst ys =>
        cases h
        refine q ⟨_, some n⟩ rfl ?_
        show (match S[n]? with | some (.lst ys) => eqbs ys xs | _ => false) = true
        rw [hc]
        exact eqbs_refl xs
      | _ => cases h
  | _ => cases h
theorem count_wp {n : Int} {S : Sto} {Q : D → Sto → Prop} {E : Str → List (Str × D) → Sto → Prop} (q : 0 ≤ n → n ≤ 40 → Q .non S) (x : 40 < n → E "BadCount" [("count", .int n)] S) (h : 0 ≤ n) : (f_check_count [.int n, .int 0, .int 40] S).wp Q E := by
  unfold f_check_count
  simp_arith
  simp_arith [decide_eq_true h]
  by_cases hn : n ≤ 40
  · simp_arith [decide_eq_true hn]; exact q h hn
  · simp_arith [decide_eq_false hn]; exact x (by omega)
theorem checkS_wp {x : D} {xs : List D} {S : Sto} {Q : D → Sto → Prop} {E : Str → List (Str × D) → Sto → Prop} (h : sqOf S x = some xs) (hl : oLen x S = .ok (.int xs.length) S) (hx : ∀ d ∈ xs, pd 1 d = true) (q : xs.length ≤ 40 → firstBad (-1) 0 xs = none → Q .non S)
    (x1 : 40 < xs.length → E "BadCount" [("count", .int xs.length)] S) (x2 : ∀ d, xs.length ≤ 40 → firstBad (-1) 0 xs = some d → E "BadSteps" [("value", d)] S) : (f_check_steps [x] S).wp Q E := by
  unfold f_check_steps
  simp_arith
  rw [hl]
  simp_arith
  refine count_wp (fun _ h40 => ?_) (fun h40 => ?_) (by omega)
  · simp_arith
    refine seq_wp (f := cVar 0) (Γ := []) h fun src e1 hg => ?_
    simp_arith
    rw [e1]
    have h40 : xs.length ≤ 40 := by omega
    refine wp_loop (fun r Γ S' => S' = S ∧ (∀ d ∈ r, pd 1 d = true) ∧ ∃ t0 c0 o, Γ = [some x, some (.tup [.int t0, .int c0]), o] ∧ firstBad t0 c0 r = firstBad (-1) 0 xs) (fun r Γ S' i => by rw [i.1]; exact hg) (fun Γ S' i => ?_) (fun d r Γ S' i => ?_) xs _ _ ⟨rfl, hx, -1, 0, none, rfl, rfl⟩
    · obtain ⟨rfl, _, t0, c0, o, rfl, fb⟩ := i
      exact q h40 fb.symm
    · obtain ⟨rfl, hr, t0, c0, o, rfl, fb⟩ := i
      refine ⟨_, rfl, ?_⟩
      simp_arith
      rw [step_eq (hr d (List.mem_cons_self ..))]
      simp_arith
      cases ho : okStep t0 c0 d with
      | true =>
        simp_arith
        have hd : ∃ t c, asPair d = some (t, c) ∧ d = .tup [.int t, .int c] := by
          unfold okStep at ho
          unfold asPair at ho ⊢
          split at ho
          · rename_i t c he
            split at he
            · cases he; exact ⟨_, _, rfl, rfl⟩
            · cases he
          · cases ho
        obtain ⟨t, c, e1, e2⟩ := hd
        refine ⟨trivial, fun z hz => hr z (List.mem_cons_of_mem _ hz), t, c, some d, by rw [e2], ?_⟩
        rw [← fb]
        show firstBad t c r = (match asPair d with | some (t, c) => if okStep t0 c0 d = true then firstBad t c r else some d | none => some d)
        rw [e1, ho]; rfl
      | false =>
        simp_arith
        refine x2 d h40 ?_
        rw [← fb]
        show (match asPair d with | some (t, c) => if okStep t0 c0 d = true then firstBad t c r else some d | none => some d) = some d
        rw [ho]
        cases asPair d with
        | none => rfl
        | some p => rfl
  · exact x1 (by omega)
end TP
namespace TP
open PySem PySem.Spec DD
/-! ### costs made; what the law finds -/
theorem sq_app {S T : Sto} {d : D} {xs : List D} (h : sqOf S d = some xs) : sqOf (S ++ T) d = some xs := by
  cases d with
  | loc n =>
    have h : (match S[n]? with | some (.lst xs) => some xs | _ => none) = some xs := h
    show (match (S ++ T)[n]? with | some (.lst xs) => some xs | _ => none) = some xs
    cases hc : S[n]? with
    | none => rw [hc] at h; cases h
    | some k => rw [List.getElem?_append_left (List.getElem?_eq_some_iff.mp hc).1, hc]; rw [hc] at h; exact h
  | _ => exact h
theorem x_lenS {S : Sto} {d : D} {xs : List D} (h : sqOf S d = some xs) : oLen d S = .ok (.int xs.length) S := by
  cases d with
  | str z => cases h
  | loc n => show (match sqOf S (.loc n) with | some xs => Res.ok (D.int xs.length) S | none => .stk) = _; rw [h]
  | tup ys => cases h; rfl
  | lst ys => cases h; rfl
  | wl ys => cases h; rfl
  | _ => cases h
theorem x_tupS {S : Sto} {d : D} {xs : List D} (h : sqOf S d = some xs) : oTuple d S = .ok (.tup xs) S := by
  show (match sqOf S d with | some xs => Res.ok (D.tup xs) S | none => .stk) = _
  rw [h]
def cost (xs : List D) : D := .ins "Cost" [("_steps", .tup xs)]
theorem make_wp {x : D} {xs : List D} {S : Sto} {P : D → Sto → Prop} {E : Str → List (Str × D) → Sto → Prop} (h : sqOf S x = some xs) (hx : ∀ d ∈ xs, pd 1 d = true) (q : xs.length ≤ 40 → firstBad (-1) 0 xs = none → P (cost xs) (S ++ [.dead]))
    (x1 : 40 < xs.length → E "BadCount" [("count", .int xs.length)] (S ++ [.ins "Cost" []])) (x2 : ∀ d, xs.length ≤ 40 → firstBad (-1) 0 xs = some d → E "BadSteps" [("value", d)] (S ++ [.ins "Cost" []])) :
    (f_Cost_init [.loc S.length, x] (S ++ [.ins "Cost" []])).wp (kMake2 "Cost" finIns S.length P E) E := by
  have h' : sqOf (S ++ [.ins "Cost" []]) x = some xs := sq_app h
  unfold f_Cost_init
  simp_arith
  refine checkS_wp h' (x_lenS h') hx (fun h40 fb => ?_) (fun h40 => ?_) (fun d h40 fb => ?_)
  · simp_arith
    rw [x_tupS h']
    simp_arith
    have e1 : (S ++ [Cell.ins "Cost" []])[S.length]? = some (.ins "Cost" []) := by simp
    have e2 : putFld ["Cost"] "_steps" (.tup xs) (.loc S.length) [some (.loc S.length), some x] (S ++ [.ins "Cost" []]) = .nx [some (.loc S.length), some x] (S ++ [.ins "Cost" [("_steps", .tup xs)]]) := by
      show putIns ["Cost"] "_steps" (.tup xs) S.length _ _ (S ++ [Cell.ins "Cost" []])[S.length]? = _
      rw [e1]
      show (if ("Cost" : Str) ∈ (["Cost"] : List Str) ∧ ([] : List (Str × D)).length < 1000 then SRes.nx _ _ else .stk) = _
      rw [if_pos (by decide)]
      simp [putD]
    rw [e2]
    simp_arith
    have e3 : (S ++ [Cell.ins "Cost" [("_steps", D.tup xs)]])[S.length]? = some (.ins "Cost" [("_steps", .tup xs)]) := by simp
    have e4 : finIns "Cost" S.length .non (S ++ [.ins "Cost" [("_steps", .tup xs)]]) = .ok (cost xs) (S ++ [.dead]) := by
      show (match (S ++ [Cell.ins "Cost" [("_steps", D.tup xs)]])[S.length]? with | some (.ins C fs) => if C = "Cost" then Res.ok (D.ins C fs) _ else .stk | _ => .stk) = _
      rw [e3]
      show (if ("Cost" : Str) = "Cost" then Res.ok (D.ins "Cost" [("_steps", .tup xs)]) _ else .stk) = _
      rw [if_pos rfl]
      simp [cost]
    rw [e4]
    exact q h40 fb
  · exact x1 h40
  · exact x2 d h40 fb
theorem steps_wp {xs : List D} {S : Sto} {P : D → Sto → Prop} {E : Str → List (Str × D) → Sto → Prop} : kProp "Cost" f_Cost_steps P E (cost xs) S = P (.tup xs) S := by
  rfl
/-- what the law finds of a list -/
def Rd (xs : List D) : D := if 40 < xs.length then .tup [.str "count", .int xs.length] else match firstBad (-1) 0 xs with
  | some d => .tup [.str "steps", d]
  | none => .tup [.str "told", .tup xs]
theorem told_wp {w : Int} {x : D} {xs : List D} {S : Sto} {P : D → Sto → Prop} {E : Str → List (Str × D) → Sto → Prop} (h : sqOf S x = some xs) (hx : ∀ d ∈ xs, pd 1 d = true) (q : ∀ k, P (Rd xs) (S ++ [k])) : (f_l_told [.int w, x] S).wp P E := by
  unfold f_l_told
  simp_arith [eq_ii, id_eq]
  by_cases hw : w = 0
  · simp_arith [decide_eq_true hw]
    refine make_wp h hx (fun h40 fb => ?_) (fun h40 => ?_) (fun d h40 fb => ?_)
    · simp_arith [steps_wp]
      have := q .dead
      unfold Rd at this
      rw [if_neg (by omega), fb] at this
      exact this
    · have := q (.ins "Cost" [])
      unfold Rd at this
      rw [if_pos h40] at this
      exact this
    · have := q (.ins "Cost" [])
      unfold Rd at this
      rw [if_neg (by omega), fb] at this
      exact this
  · simp_arith [decide_eq_false hw]
    refine make_wp h hx (fun h40 fb => ?_) (fun h40 => ?_) (fun d h40 fb => ?_)
    · simp_arith [steps_wp]
      have := q .dead
      unfold Rd at this
      rw [if_neg (by omega), fb] at this
      exact this
    · have := q (.ins "Cost" [])
      unfold Rd at this
      rw [if_pos h40] at this
      exact this
    · have := q (.ins "Cost" [])
      unfold Rd at this
      rw [if_neg (by omega), fb] at this
      exact this
theorem due_eq {x : D} {xs : List D} {S : Sto} (h : lstOf S x = some xs) (hx : ∀ d ∈ xs, pd 1 d = true) : f_l_due [x] S = .ok (Rd xs) S := by
  have hs := x_sqOf h
  refine eq_of_wp ?_
  unfold f_l_due
  simp_arith
  rw [x_lenS hs]
  simp_arith
  by_cases h40 : 40 < xs.length
  · have h4 : decide ((40 : Int) < (xs.length : Int)) = true := decide_eq_true (by omega)
    simp_arith [h4]
    rw [x_lenS hs]
    simp_arith
    exact is_of (by unfold Rd; rw [if_pos h40])
  · have h4 : decide ((40 : Int) < (xs.length : Int)) = false := decide_eq_false (by omega)
    simp_arith [h4]
    refine seq_wp (f := cVar 0) (Γ := []) hs fun src e1 hg => ?_
    simp_arith
    rw [e1]
    refine wp_loop (fun r Γ S' => S' = S ∧ (∀ d ∈ r, pd 1 d = true) ∧ ∃ t0 c0 o, Γ = [some x, some (.tup [.int t0, .int c0]), o] ∧ firstBad t0 c0 r = firstBad (-1) 0 xs ∧ -1 ≤ t0 ∧ 0 ≤ c0) (fun r Γ S' i => by rw [i.1]; exact hg) (fun Γ S' i => ?_) (fun d r Γ S' i => ?_) xs _ _ ⟨rfl, hx, -1, 0, none, rfl, rfl, by decide, by decide⟩
    · obtain ⟨rfl, _, t0, c0, o, rfl, fb, _⟩ := i
      simp_arith
      rw [x_tupS hs]
      simp_arith
      exact is_of (by unfold Rd; rw [if_neg h40, ← fb]; rfl)
    · obtain ⟨rfl, hr, t0, c0, o, rfl, fb, ht0, hc0⟩ := i
      have hd := hr d (List.mem_cons_self ..)
      refine ⟨_, rfl, ?_⟩
      have bad : okStep t0 c0 d = false → Is (Rd xs) S' (.tup [.str "steps", d]) S' := fun ho => is_of (by
        unfold Rd
        rw [if_neg h40, ← fb]
        show _ = (match (match asPair d with | some (t, c) => if okStep t0 c0 d = true then firstBad t c r else some d | none => some d) with | some d => D.tup [.str "steps", d] | none => .tup [.str "told", .tup xs])
        rw [ho]
        cases asPair d with
        | none => rfl
        | some p => rfl)
      have notT : tyP d ≠ "tuple" → okStep t0 c0 d = false := fun hne => by
        cases d <;> first | rfl | exact absurd rfl hne
      simp_arith
      rw [x_isi hd (by decide)]
      simp_arith
      cases d with
      | tup ys =>
        simp_arith [tyP, show isB "tuple" "tuple" = true from by decide, ne_ii]
        have hy : ∀ x ∈ ys, pd 0 x = true := by simpa [pd] using hd
        match ys, hy, hd, bad with
        | [], _, _, bad => exact bad rfl
        | [a], _, _, bad => exact bad (by cases a <;> rfl)
        | a :: b :: e :: r', _, _, bad =>
          have hn : decide ((((a :: b :: e :: r').length : Nat) : Int) = 2) = false := decide_eq_false (by simp only [List.length_cons]; omega)
          simp only [List.length_cons] at hn
          simp_arith [hn]
          exact bad (by cases a <;> cases b <;> rfl)
        | [a, b], hy, _, bad =>
          have ha := hy a (by simp)
          have hb := hy b (by simp)
          have hn : decide (((0 + 1 + 1 : Nat) : Int) = 2) = true := by decide
          simp_arith at hn
          simp_arith [hn, ix_t0]
          rw [lnum_eq ha]
          simp_arith
          cases a with
          | int i =>
            simp_arith [isI, ix_t0]
            by_cases hi : i ≤ t0
            · simp_arith [decide_eq_true hi]
              exact bad (by cases b <;> first | rfl | (simp only [okStep, asPair]; simp; omega))
            · simp_arith [decide_eq_false hi, ix_t1]
              rw [lnum_eq hb]
              simp_arith
              cases b with
              | int j =>
                simp_arith [isI, ix_t1]
                by_cases hj : j ≤ c0
                · simp_arith [decide_eq_true hj]
                  exact bad (by simp only [okStep, asPair]; simp; omega)
                · simp_arith [decide_eq_false hj]
                  have ho : okStep t0 c0 (.tup [.int i, .int j]) = true := by simp only [okStep, asPair]; simp; omega
                  refine ⟨trivial, fun z hz => hr z (List.mem_cons_of_mem _ hz), i, j, some (.tup [.int i, .int j]), rfl, ?_, by omega, by omega⟩
                  rw [← fb]
                  show firstBad i j r = (if okStep t0 c0 (.tup [.int i, .int j]) = true then firstBad i j r else _)
                  rw [if_pos ho]
              | _ => simp_arith [isI]; exact bad rfl
          | _ => simp_arith [isI]; exact bad rfl
      | int i => simp_arith [tyP, show isB "int" "tuple" = false from by decide]; exact bad rfl
      | bl b => simp_arith [tyP, show isB "bool" "tuple" = false from by decide]; exact bad rfl
      | non => simp_arith [tyP, show isB "NoneType" "tuple" = false from by decide]; exact bad rfl
      | str z => simp_arith [tyP, show isB "str" "tuple" = false from by decide]; exact bad rfl
      | lst z => simp_arith [tyP, show isB "list" "tuple" = false from by decide]; exact bad rfl
      | _ => simp_arith [tyP, show isB "dict" "tuple" = false from by decide]; exact bad rfl
end TP
namespace TP
open PySem PySem.Spec DD
/-! ### costs asked -/
def pr (p : Int × Int) : D := .tup [.int p.1, .int p.2]
def atM (ps : List (Int × Int)) (t : Int) : Int := ps.foldl (fun a p => if p.1 ≤ t then p.2 else a) 0
def latM : List (Int × Int) → Int → D
  | [], _ => .non
  | p :: r, b => if b < p.2 then .int (p.1 - 1) else latM r b
theorem good_pairs : ∀ {xs : List D} {t0 c0 : Int}, firstBad t0 c0 xs = none → ∃ ps : List (Int × Int), xs = ps.map pr ∧ (c0 :: ps.map (·.2)).Pairwise (· < ·)
  | [], _, _, _ => ⟨[], rfl, by simp⟩
  | d :: r, t0, c0, h => by
    have h : (match asPair d with | some (t, c) => if okStep t0 c0 d = true then firstBad t c r else some d | none => some d) = none := h
    cases ha : asPair d with
    | none => rw [ha] at h; cases h
    | some p =>
      obtain ⟨t, c⟩ := p
      rw [ha] at h
      have h : (if okStep t0 c0 d = true then firstBad t c r else some d) = none := h
      by_cases ho : okStep t0 c0 d = true
      · rw [if_pos ho] at h
        obtain ⟨ps, e, hp⟩ := good_pairs h
        have hd : d = pr (t, c) := by
          unfold asPair at ha
          split at ha
          · cases ha; rfl
          · cases ha
        refine ⟨(t, c) :: ps, by rw [e, hd]; rfl, ?_⟩
        have hc : c0 < c := by
          unfold okStep at ho
          rw [ha] at ho
          simp at ho
          omega
        rw [List.map_cons]
        refine List.pairwise_cons.mpr ⟨fun y hy => ?_, hp⟩
        rcases List.mem_cons.mp hy with e | hy
        · rw [e]; exact hc
        · have := (List.pairwise_cons.mp hp).1 y hy
          omega
      · rw [if_neg ho] at h; cases h
theorem foldl_max : ∀ (qs : List Int) (a : Int), (a :: qs).Pairwise (· < ·) → qs.foldl max a = qs.foldl (fun _ c => c) a
  | [], _, _ => rfl
  | c :: r, a, h => by
    have h1 := (List.pairwise_cons.mp h).1 c (List.mem_cons_self ..)
    have h2 := (List.pairwise_cons.mp h).2
    rw [List.foldl_cons, List.foldl_cons, show max a c = c from by omega]
    exact foldl_max r c h2
theorem atM_filter (t : Int) : ∀ (ps : List (Int × Int)) (a : Int), ps.foldl (fun a p => if p.1 ≤ t then p.2 else a) a = ((ps.filter fun p => decide (p.1 ≤ t)).map (·.2)).foldl (fun _ c => c) a
  | [], _ => rfl
  | p :: r, a => by
    rw [List.foldl_cons]
    by_cases h : p.1 ≤ t
    · rw [if_pos h, List.filter_cons_of_pos (by simpa using h), List.map_cons, List.foldl_cons]; exact atM_filter t r p.2
    · rw [if_neg h, List.filter_cons_of_neg (by simpa using h)]; exact atM_filter t r a
theorem max_at {ps : List (Int × Int)} {t : Int} (h : (0 :: ps.map (·.2)).Pairwise (· < ·)) : ((ps.filter fun p => decide (p.1 ≤ t)).map (·.2)).foldl max 0 = atM ps t := by
  unfold atM
  rw [atM_filter]
  refine foldl_max _ 0 ?_
  refine List.Pairwise.sublist (List.Sublist.cons_cons 0 ((List.filter_sublist).map _)) h
theorem lat_eq {ps : List (Int × Int)} {t : Int} {S : Sto} : f_l_at [.tup (ps.map pr), .int t] S = .ok (.int (atM ps t)) S := by
  refine eq_of_wp ?_
  unfold f_l_at
  simp_arith
  refine seq_wp (f := cVar 0) (Γ := []) (xs := ps.map pr) rfl fun src e1 hg => ?_
  simp_arith
  rw [e1]
  refine wp_loop (fun r Γ S' => S' = S ∧ ∃ qs a o1 o2, r = List.map pr qs ∧ Γ = [some (.tup (ps.map pr)), some (.int t), some (.int a), o1, o2] ∧ qs.foldl (fun a p => if p.1 ≤ t then p.2 else a) a = atM ps t) (fun r Γ S' i => by rw [i.1]; exact hg) (fun Γ S' i => ?_) (fun d r Γ S' i => ?_) (ps.map pr) _ _ ⟨rfl, ps, 0, none, none, rfl, rfl, rfl⟩
  · obtain ⟨rfl, qs, a, o1, o2, hq, rfl, fb⟩ := i
    have : qs = [] := by cases qs with | nil => rfl | cons _ _ => cases hq
    subst this
    simp_arith
    exact is_of (by rw [← fb]; rfl)
  · obtain ⟨rfl, qs, a, o1, o2, hq, rfl, fb⟩ := i
    cases qs with
    | nil => cases hq
    | cons p qs =>
      cases hq
      refine ⟨_, rfl, ?_⟩
      simp_arith
      by_cases hp : p.1 ≤ t
      · simp_arith [decide_eq_true hp]
        refine ⟨trivial, qs, p.2, _, _, rfl, rfl, ?_⟩
        rw [← fb, List.foldl_cons, if_pos hp]
      · simp_arith [decide_eq_false hp]
        refine ⟨trivial, qs, a, _, _, rfl, rfl, ?_⟩
        rw [← fb, List.foldl_cons, if_neg hp]
theorem lat2_eq {ps : List (Int × Int)} {t : Int} {S : Sto} : f_l_latest [.tup (ps.map pr), .int t] S = .ok (latM ps t) S := by
  refine eq_of_wp ?_
  unfold f_l_latest
  simp_arith
  refine seq_wp (f := cVar 0) (Γ := []) (xs := ps.map pr) rfl fun src e1 hg => ?_
  simp_arith
  rw [e1]
  refine wp_loop (fun r Γ S' => S' = S ∧ ∃ qs o1 o2, r = List.map pr qs ∧ Γ = [some (.tup (ps.map pr)), some (.int t), o1, o2] ∧ latM qs t = latM ps t) (fun r Γ S' i => by rw [i.1]; exact hg) (fun Γ S' i => ?_) (fun d r Γ S' i => ?_) (ps.map pr) _ _ ⟨rfl, ps, none, none, rfl, rfl, rfl⟩
  · obtain ⟨rfl, qs, o1, o2, hq, rfl, fb⟩ := i
    have : qs = [] := by cases qs with | nil => rfl | cons _ _ => cases hq
    subst this
    simp_arith
    exact is_of fb
  · obtain ⟨rfl, qs, o1, o2, hq, rfl, fb⟩ := i
    cases qs with
    | nil => cases hq
    | cons p qs =>
      cases hq
      have fb : (if t < p.2 then D.int (p.1 - 1) else latM qs t) = latM ps t := fb
      refine ⟨_, rfl, ?_⟩
      simp_arith
      by_cases hp : t < p.2
      · simp_arith [decide_eq_true hp]
        rw [if_pos hp] at fb
        exact is_of fb
      · simp_arith [decide_eq_false hp]
        rw [if_neg hp] at fb
        exact ⟨trivial, qs, _, _, rfl, rfl, fb⟩
theorem checkN_wp {d : D} {S : Sto} {Q : D → Sto → Prop} {E : Str → List (Str × D) → Sto → Prop} (h : pd 1 d = true) (q : isN d = true → Q .non S) (x : isN d = false → E "BadNumber" [("value", d)] S) : (f_check_number [d] S).wp Q E := by
  unfold f_check_number
  simp_arith
  rw [num_eq h]
  simp_arith
  cases hn : isN d with
  | true => simp_arith; exact q hn
  | false => simp_arith; exact x hn
theorem isN_int {d : D} (h : isN d = true) : ∃ i : Int, d = .int i ∧ 0 ≤ i := by
  cases d with
  | int i => exact ⟨i, rfl, of_decide_eq_true h⟩
  | _ => cases h
theorem getD_cost {ps : List D} {S : Sto} : getD ["Cost"] "_steps" (cost ps) S = .ok (.tup ps) S := rfl
theorem isIns_cost {ps : List D} {S : Sto} {m : Str} (h : (m == ("_steps" : Str)) = false) : isIns "Cost" S m (cost ps) = true := by
  show (decide (("Cost" : Str) = "Cost") && (List.lookup m [(("_steps" : Str), D.tup ps)]).isNone) = true
  rw [List.lookup_cons, h]
  simp
theorem costAt_eq {ps : List (Int × Int)} {t : Int} {S : Sto} (h : (0 :: ps.map (·.2)).Pairwise (· < ·)) (hl : ps.length ≤ 40) : f_cost_at [.tup (ps.map pr), .int t] S = .ok (.int (atM ps t)) S := by
  refine eq_of_wp ?_
  unfold f_cost_at
  simp_arith
  refine seq_wp (f := cVar 0) (Γ := []) (xs := ps.map pr) rfl fun src e1 hg => ?_
  simp_arith
  have hz : ([] : List D).length + (ps.map pr).length ≤ sizeLine := by
    have : (40 : Nat) ≤ sizeLine := by decide
    rw [List.length_map, List.length_nil]; omega
  have e := cLoop_pure (gf := gT 2 (gsCons (gN 2) (gsCons (gN 3) gsNil))) (ft := cTest (cOp oLe (cVar 2) (cVar 1))) (fe := cVar 3) (src := src) (Γ := wipeD [some (.tup (ps.map pr)), some (.int t), none, none] [2, 3]) (S := S)
    (fun d => match asPair d with | some p => decide (p.1 ≤ t) | none => false) (fun d => match asPair d with | some p => .int p.2 | none => .non) hg (ps.map pr) [] hz (fun x hx => by
    obtain ⟨p, _, rfl⟩ := List.mem_map.mp hx
    exact ⟨_, rfl, rfl, fun _ => rfl⟩)
  rw [e1, e]
  have e2 : ∀ qs : List (Int × Int), ((qs.map pr).filter fun d => match asPair d with | some p => decide (p.1 ≤ t) | none => false).map (fun d => match asPair d with | some p => D.int p.2 | none => .non) = ((qs.filter fun p => decide (p.1 ≤ t)).map (·.2)).map D.int := fun qs => by
    induction qs with
    | nil => rfl
    | cons p r ih =>
      by_cases hp : p.1 ≤ t
      · rw [List.map_cons, List.filter_cons_of_pos (by show decide (p.1 ≤ t) = true; simpa using hp), List.map_cons, List.filter_cons_of_pos (by simpa using hp), List.map_cons, List.map_cons, ih]; rfl
      · rw [List.map_cons, List.filter_cons_of_neg (by show ¬ decide (p.1 ≤ t) = true; simpa using hp), List.filter_cons_of_neg (by simpa using hp), ih]
  rw [e2]
  have mx := max_at (t := t) h
  have ad : ∀ c ∈ (ps.filter fun p => decide (p.1 ≤ t)).map (·.2), 0 < c := fun c hc => by
    obtain ⟨p, hp, rfl⟩ := List.mem_map.mp hc
    exact (List.pairwise_cons.mp h).1 _ (List.mem_map.mpr ⟨p, (List.mem_filter.mp hp).1, rfl⟩)
  generalize (ps.filter fun p => decide (p.1 ≤ t)).map (·.2) = cs at mx ad
  simp_arith [finL]
  cases cs with
  | nil => exact is_of (by rw [← mx]; rfl)
  | cons n r =>
    have e3 : bMaxDf [.lst (List.map D.int (n :: r))] [.int 0] S = .ok (.int (r.foldl max n)) S := by
      show (match intsOf (List.map D.int (n :: r)) with | some [] => Res.ok (D.int 0) S | some (n :: r) => .ok (.int (r.foldl max n)) S | none => .stk) = _
      rw [intsOf_map]
    rw [e3]
    refine is_of ?_
    have := ad n (List.mem_cons_self ..)
    rw [← mx, List.foldl_cons, show max 0 n = n from by omega]
def askM (ps : List (Int × Int)) (w : Int) (d : D) : D := if isN d = true then .tup [.str "told", match d with | .int t => (if w.fmod 2 = 0 then .int (atM ps t) else latM ps t) | _ => .non] else .tup [.str "number", d]
theorem costAt_wp {ps : List (Int × Int)} {d : D} {S : Sto} {Q : D → Sto → Prop} {E : Str → List (Str × D) → Sto → Prop} (h : (0 :: ps.map (·.2)).Pairwise (· < ·)) (hl : ps.length ≤ 40) (hd : pd 1 d = true) (q : ∀ t : Int, d = .int t → isN d = true → Q (.int (atM ps t)) S) (x : isN d = false → E "BadNumber" [("value", d)] S) : (f_Cost_at [cost (ps.map pr), d] S).wp Q E := by
  unfold f_Cost_at
  simp_arith
  refine checkN_wp hd (fun hn => ?_) (fun hn => x hn)
  obtain ⟨t, rfl, _⟩ := isN_int hn
  simp_arith [getD_cost]
  rw [costAt_eq h hl]
  exact q t rfl hn
theorem costLat_wp {ps : List (Int × Int)} {d : D} {S : Sto} {Q : D → Sto → Prop} {E : Str → List (Str × D) → Sto → Prop} (hd : pd 1 d = true) (q : ∀ t : Int, d = .int t → isN d = true → Q (latM ps t) S) (x : isN d = false → E "BadNumber" [("value", d)] S) : (f_Cost_latest [cost (ps.map pr), d] S).wp Q E := by
  unfold f_Cost_latest
  simp_arith
  refine checkN_wp hd (fun hn => ?_) (fun hn => x hn)
  obtain ⟨t, rfl, _⟩ := isN_int hn
  simp_arith [getD_cost]
  refine seq_wp (f := cVar 0) (Γ := []) (xs := ps.map pr) rfl fun src e1 hg => ?_
  simp_arith
  rw [e1]
  refine wp_loop (fun r Γ S' => S' = S ∧ ∃ qs o1 o2, r = List.map pr qs ∧ Γ = [some (cost (ps.map pr)), some (.int t), o1, o2] ∧ latM qs t = latM ps t) (fun r Γ S' i => by rw [i.1]; exact hg) (fun Γ S' i => ?_) (fun d r Γ S' i => ?_) (ps.map pr) _ _ ⟨rfl, ps, none, none, rfl, rfl, rfl⟩
  · obtain ⟨rfl, qs, o1, o2, hq, rfl, fb⟩ := i
    have : qs = [] := by cases qs with | nil => rfl | cons _ _ => cases hq
    subst this
    simp_arith
    have := q t rfl hn
    rw [← fb] at this
    exact this
  · obtain ⟨rfl, qs, o1, o2, hq, rfl, fb⟩ := i
    cases qs with
    | nil => cases hq
    | cons p qs =>
      cases hq
      have fb : (if t < p.2 then D.int (p.1 - 1) else latM qs t) = latM ps t := fb
      refine ⟨_, rfl, ?_⟩
      simp_arith
      by_cases hp : t < p.2
      · simp_arith [decide_eq_true hp]
        rw [if_pos hp] at fb
        have := q t rfl hn
        rw [← fb] at this
        exact this
      · simp_arith [decide_eq_false hp]
        rw [if_neg hp] at fb
        exact ⟨trivial, qs, _, _, rfl, rfl, fb⟩
theorem ask_eq {ps : List (Int × Int)} {w : Int} {d : D} {S : Sto} (h : (0 :: ps.map (·.2)).Pairwise (· < ·)) (hl : ps.length ≤ 40) (hd : pd 1 d = true) (hw : w = 0 ∨ w = 1 ∨ w = 2 ∨ w = 3) : f_l_ask [.int w, cost (ps.map pr), d] S = .ok (askM ps w d) S := by
  refine eq_of_wp ?_
  unfold f_l_ask
  have ia : isIns "Cost" S "at" (cost (ps.map pr)) = true := isIns_cost (by decide)
  have il : isIns "Cost" S "latest" (cost (ps.map pr)) = true := isIns_cost (by decide)
  have bad : isN d = false → Is (askM ps w d) S (.tup [.str "number", d]) S := fun hn => is_of (by unfold askM; rw [hn]; rfl)
  rcases hw with rfl | rfl | rfl | rfl
  · simp_arith [eq_ii, id_eq, show decide ((0 : Int) = 0) = true from rfl, ia, il]
    refine costAt_wp h hl hd (fun t e hn => ?_) (fun hn => bad hn)
    subst e
    simp_arith
    exact is_of (by unfold askM; rw [hn]; rfl)
  · simp_arith [eq_ii, id_eq, show decide ((1 : Int) = 0) = false from rfl, show decide ((1 : Int) = 1) = true from rfl, ia, il]
    refine costLat_wp hd (fun t e hn => ?_) (fun hn => bad hn)
    subst e
    simp_arith
    exact is_of (by unfold askM; rw [hn]; rfl)
  · simp_arith [eq_ii, id_eq, show decide ((2 : Int) = 0) = false from rfl, show decide ((2 : Int) = 1) = false from rfl, show decide ((2 : Int) = 2) = true from rfl, ia, il]
    refine costAt_wp h hl hd (fun t e hn => ?_) (fun hn => bad hn)
    subst e
    simp_arith
    exact is_of (by unfold askM; rw [hn]; rfl)
  · simp_arith [eq_ii, id_eq, show decide ((3 : Int) = 0) = false from rfl, show decide ((3 : Int) = 1) = false from rfl, show decide ((3 : Int) = 2) = false from rfl, ia, il]
    refine costLat_wp hd (fun t e hn => ?_) (fun hn => bad hn)
    subst e
    simp_arith
    exact is_of (by unfold askM; rw [hn]; rfl)
end TP
namespace TP
open PySem PySem.Spec DD
/-! ### drawing and asking -/
theorem Z.app {z : Z} {T U : Sto} : z.st T ++ U = z.st (T ++ U) := rfl
theorem Z.len {z : Z} {T : Sto} : (z.st T).length = T.length + 2 := rfl
theorem Z.get {z : Z} {T : Sto} {i : Nat} : (z.st T)[i + 2]? = T[i]? := rfl
theorem Z.set {z : Z} {T : Sto} {i : Nat} {k : Cell} : (z.st T).set (i + 2) k = z.st (T.set i k) := rfl
theorem x_popAt {S : Sto} {n m : Nat} {xs : List D} {i : Int} (h : S[n]? = some (.lst xs)) (hi : i = m) (hm : m < xs.length) (hl : xs.length ≤ 900) : mPopAt (.loc n) [.int i] S = .ok xs[m] (S.set n (.lst (xs.eraseIdx m))) := by
  subst hi
  have e1 : locOf S (.loc n) = some (n, xs) := by show (match S[n]? with | some (.lst xs) => some (n, xs) | _ => none) = _; rw [h]
  have e2 : seqIndex? (m : Int) xs.length = some m := (L2.ixN_seq (n := xs.length) (i := (m : Int)) (j := m) (by simp [L2.ixN, hm])).1
  have e3 : inW (m : Int) = true := Nat.ble_eq_true_of_le (by omega)
  unfold mPopAt
  rw [e1]
  dsimp only
  rw [e3, e2]
  dsimp only
  rw [List.getElem?_eq_getElem hm]
theorem inR_nat {n : Nat} (h : n < 1000000) : inR (n : Int) = true := Nat.ble_eq_true_of_le (by omega)
theorem rg1_wp {j : Int} {S : Sto} {PI : Src → Sto → Prop} (c : inR j = true) (q2 : PI ⟨(List.range j.toNat).map fun (k : Nat) => D.int k, none⟩ S) : kRg1 PI (.int j) S := by
  rw [g_kRg1]
  dsimp only
  rw [if_pos c]
  exact q2
theorem shuf_wp {z : Z} {T : Sto} {k : Nat} {xs : List D} {d : D} {Q : D → Sto → Prop} {E : Str → List (Str × D) → Sto → Prop} (p : D → Prop) (h : z.ok k) (hk : k + 1000 < 1000000) (hd : sqOf (z.st T) d = some xs) (hd2 : ∀ z' U, sqOf (Z.st z' (T ++ U)) d = some xs) (hl : xs.length ≤ 900) (hp : ∀ x ∈ xs, p x)
    (q : ∀ (z' : Z) (out : List D) (c : Cell), z'.ok (k + xs.length) → (∀ x ∈ out, p x) → Q (.loc (T.length + 3)) (z'.st (T ++ [c, .lst out]))) : (f_l_shuffled [.loc 1, d] (z.st T)).wp Q E := by
  unfold f_l_shuffled
  have e1 : ∀ {S : Sto} {ys : List D}, sqOf S d = some ys → oListN d S = .ok (.loc S.length) (S ++ [.lst ys]) := fun {S ys} h => by
    show (match sqOf S d with | some xs => Res.ok (D.loc S.length) (S ++ [Cell.lst xs]) | none => .stk) = _
    rw [h]
  simp_arith
  rw [e1 hd]
  simp_arith [Z.app, Z.len, List.append_assoc, List.length_append, Nat.add_assoc]
  rw [x_lenS (hd2 z _)]
  simp_arith [Z.app, Z.len, List.append_assoc, List.length_append, Nat.add_assoc]
  refine rg1_wp (j := (xs.length : Int)) (inR_nat (n := xs.length) (by omega)) ?_
  rw [Int.toNat_natCast]
  simp_arith [Z.app, Z.len, List.append_assoc, List.length_append, Nat.add_assoc]
  refine wp_loop (fun r Γ S' => ∃ (z' : Z) (left out : List D) (o : Option D), S' = z'.st (T ++ [.lst left, .lst out]) ∧ left.length = r.length ∧ out.length + r.length = xs.length ∧ z'.ok (k + out.length) ∧ (∀ x ∈ left, p x) ∧ (∀ x ∈ out, p x) ∧
    Γ = [some (.loc 1), some d, some (.loc (T.length + 2)), some (.loc (T.length + 3)), o]) (fun r Γ S' i => rfl) (fun Γ S' i => ?_) (fun d' r Γ S' i => ?_) _ _ _ ⟨z, xs, [], none, by simp, by simp, by simp, h, hp, by simp, by simp⟩
  · obtain ⟨z', left, out, o, rfl, h1, h2, h3, h4, h5, rfl⟩ := i
    simp_arith
    refine q z' out (.lst left) (h3.up (by simp at h2; omega)) h5
  · obtain ⟨z', left, out, o, rfl, h1, h2, h3, h4, h5, rfl⟩ := i
    refine ⟨_, rfl, ?_⟩
    have g2 : ∀ {z : Z} {a b : Cell}, (z.st (T ++ [a, b]))[T.length + 2]? = some a := fun {z a b} => by rw [Z.get]; simp
    have g3 : ∀ {z : Z} {a b : Cell}, (z.st (T ++ [a, b]))[T.length + 3]? = some b := fun {z a b} => by rw [show T.length + 3 = (T.length + 1) + 2 from rfl, Z.get]; simp
    have u2 : ∀ {z : Z} {a b k : Cell}, (z.st (T ++ [a, b])).set (T.length + 2) k = z.st (T ++ [k, b]) := fun {z a b k} => by rw [Z.set]; simp
    have u3 : ∀ {z : Z} {a b k : Cell}, (z.st (T ++ [a, b])).set (T.length + 3) k = z.st (T ++ [a, k]) := fun {z a b k} => by rw [show T.length + 3 = (T.length + 1) + 2 from rfl, Z.set]; simp
    have hr : r.length + 1 = (d' :: r).length := by simp
    simp_arith [x_isT g2, x_isT g3]
    rw [x_lenO g2]
    simp_arith
    simp only [List.length_cons] at h1 h2
    refine take_wp h3 (by omega) (by omega) (by omega) fun i z2 i0 i1 hz2 => ?_
    simp_arith
    rw [x_popAt (m := i.toNat) g2 (by omega) (by omega) (by omega)]
    simp_arith [u2]
    have hm : i.toNat < left.length := by omega
    rw [x_app g3 (by have : (1001 : Nat) ≤ sizeLine := by decide
                     omega)]
    simp_arith [u3]
    refine ⟨z2, _, _, _, rfl, by rw [List.length_eraseIdx_of_lt hm]; omega, by rw [List.length_append, List.length_singleton]; omega, by rw [List.length_append, List.length_singleton]; exact hz2, fun x hx => h4 x (List.mem_of_mem_eraseIdx hx), fun x hx => ?_, rfl⟩
    rcases List.mem_append.mp hx with hx | hx
    · exact h5 x hx
    · rw [List.mem_singleton.mp hx]; exact h4 _ (List.getElem_mem hm)
theorem pd_up : ∀ {n : Nat} {d : D}, pd n d = true → pd (n + 1) d = true
  | 0, d, h => by
    cases d with
    | dk kvs => cases kvs with
      | nil => rfl
      | cons _ _ => cases h
    | tup xs => cases h
    | lst xs => cases h
    | _ => exact h
  | n + 1, d, h => by
    cases d with
    | tup xs =>
      have hx : ∀ x ∈ xs, pd n x = true := by simpa [pd] using h
      show (xs.all (pd (n + 1))) = true
      exact List.all_eq_true.mpr fun x hm => pd_up (hx x hm)
    | lst xs =>
      have hx : ∀ x ∈ xs, pd n x = true := by simpa [pd] using h
      show (xs.all (pd (n + 1))) = true
      exact List.all_eq_true.mpr fun x hm => pd_up (hx x hm)
    | dk kvs => cases kvs with
      | nil => rfl
      | cons _ _ => cases h
    | _ => exact h
theorem pd_askM {ps : List (Int × Int)} {w : Int} {d : D} (h : pd 1 d = true) : ∃ a b : D, askM ps w d = .tup [a, b] ∧ pd 1 a = true ∧ pd 1 b = true ∧ (a = .str "told" → isB (tyP b) "bool" = false) ∧ (a = .str "told" ∨ a = .str "number") := by
  unfold askM
  cases hn : isN d with
  | true =>
    obtain ⟨t, rfl, _⟩ := isN_int hn
    refine ⟨_, _, rfl, rfl, ?_, fun _ => ?_, .inl rfl⟩
    · show pd 1 (if w.fmod 2 = 0 then D.int (atM ps t) else latM ps t) = true
      split
      · rfl
      · induction ps with
        | nil => rfl
        | cons p r ih => unfold latM; split
                         · rfl
                         · exact ih
    · show isB (tyP (if w.fmod 2 = 0 then D.int (atM ps t) else latM ps t)) "bool" = false
      split
      · show isB "int" "bool" = false; decide
      · induction ps with
        | nil => show isB "NoneType" "bool" = false; decide
        | cons p r ih => unfold latM; split
                         · show isB "int" "bool" = false; decide
                         · exact ih
  | false => exact ⟨_, _, rfl, rfl, h, fun e => absurd (D.str.inj e) (by decide), .inr rfl⟩
theorem ne_refl {n : Nat} {d : D} {xs : List D} {S : Sto} (h : d = .tup xs) (hx : ∀ x ∈ xs, pd n x = true) (hn : n ≤ 11) : oEq2 (!·) d d S = .ok (.bl false) S := by
  subst h
  show (match eqD S 12 (.tup xs) (.tup xs) with | some k => Res.ok (D.bl (!k)) S | none => .stk) = _
  rw [eqD_tup (m := 11) hx hn]; rfl
end TP
namespace TP
open PySem PySem.Spec DD
/-! ### all questions are answered right -/
theorem eq_ss {a b : Str} {S : Sto} : oEq2 id (.str a) (.str b) S = .ok (.bl (decide (a = b))) S := by
  simp [oEq2, eqD, eqStep, vw, L2.eqV]; rfl
theorem x_addL {xs ys : List D} {S : Sto} (h : xs.length + ys.length ≤ sizeLine) : oAdd (.lst xs) (.lst ys) S = .ok (.lst (xs ++ ys)) S := by
  simp [oAdd, lstOf, guard1, lim, h]
theorem size_ok {n : Nat} (h : n ≤ 100000) : n ≤ sizeLine := Nat.le_trans h (by decide)
theorem asked_wp {z : Z} {T : Sto} {k : Nat} {ps : List (Int × Int)} {Q : D → Sto → Prop} {E : Str → List (Str × D) → Sto → Prop} (h : z.ok k) (hk : k + 5000 < 1000000) (hp : (0 :: ps.map (·.2)).Pairwise (· < ·)) (hl : ps.length ≤ 40)
    (q : ∀ (z' : Z) (U : Sto), z'.ok (k + 40) → Q (.bl true) (z'.st (T ++ U))) : (f_l_asked_right [.loc 1, .tup (ps.map pr), cost (ps.map pr)] (z.st T)).wp Q E := by
  unfold f_l_asked_right
  simp_arith
  refine seq_wp (f := cVar 0) (Γ := []) (xs := ps.map pr) rfl fun src e1 hg => ?_
  simp_arith
  rw [e1]
  refine wp_loop (fun r Γ S' => S' = z.st T ∧ ∃ (qs : List (Int × Int)) (ms : List Int) (o4 o5 : Option D), r = List.map pr qs ∧ ms.length + 6 * qs.length = 2 + 6 * ps.length ∧ Γ = [some (.loc 1), some (.tup (ps.map pr)), some (cost (ps.map pr)), some (.lst (ms.map D.int)), o4, o5, none, none, none, none, none])
    (fun r Γ S' i => by rw [i.1]; exact hg) (fun Γ S' i => ?_) (fun d r Γ S' i => ?_) (ps.map pr) _ _ ⟨rfl, ps, [0, 1], none, none, rfl, rfl, rfl⟩
  · obtain ⟨rfl, qs, ms, o4, o5, hq, hms, rfl⟩ := i
    have : qs = [] := by cases qs with | nil => rfl | cons _ _ => cases hq
    subst this
    simp only [List.length_nil] at hms
    have hm : ms.length ≤ 242 := by omega
    simp_arith
    refine rg1_wp (j := ((8 : Nat) : Int)) (inR_nat (by omega)) ?_
    rw [Int.toNat_natCast]
    simp_arith
    refine wp_loop (fun r Γ S' => ∃ (z' : Z) (U : Sto) (o6 o7 o8 o9 o10 : Option D), S' = z'.st (T ++ U) ∧ r.length ≤ 8 ∧ z'.ok (k + 5 * (8 - r.length)) ∧ Γ = [some (.loc 1), some (.tup (ps.map pr)), some (cost (ps.map pr)), some (.lst (ms.map D.int)), o4, o5, o6, o7, o8, o9, o10])
      (fun r Γ S' i => rfl) (fun Γ S' i => ?_) (fun d r Γ S' i => ?_) _ _ _ ⟨z, [], none, none, none, none, none, by rw [List.append_nil], by simp, by simpa using h, rfl⟩
    · obtain ⟨z', U, o6, o7, o8, o9, o10, rfl, _, hz, rfl⟩ := i
      simp_arith
      exact q z' U (hz.up (by simp))
    · obtain ⟨z', U, o6, o7, o8, o9, o10, rfl, hr, hz, rfl⟩ := i
      simp only [List.length_cons] at hr hz
      refine ⟨_, rfl, ?_⟩
      simp_arith
      rw [x_pow (by decide)]
      simp_arith
      generalize hX : ((10 : Int) ^ Int.toNat 25) = X
      rw [x_addL (by simp only [List.length_map, List.length_cons, List.length_nil]; exact size_ok (by omega))]
      simp_arith [List.length_map]
      refine take_wp hz (by omega) (by omega) (by omega) fun i z2 i0 i1 hz2 => ?_
      simp_arith
      have hlen : i.toNat < (ms.map D.int ++ [D.int (-1), D.bl true, D.non, D.str "1", D.int X, D.lst [D.int 1]]).length := by
        rw [List.length_append, List.length_map]
        show i.toNat < ms.length + 6
        omega
      rw [x_ix (xs := ms.map D.int ++ [D.int (-1), D.bl true, D.non, D.str "1", D.int X, D.lst [D.int 1]]) (m := i.toNat) rfl (by omega) hlen]
      have hd : pd 1 ((ms.map D.int ++ [D.int (-1), D.bl true, D.non, D.str "1", D.int X, D.lst [D.int 1]])[i.toNat]'hlen) = true := by
        have hm := List.getElem_mem hlen
        generalize (ms.map D.int ++ [D.int (-1), D.bl true, D.non, D.str "1", D.int X, D.lst [D.int 1]])[i.toNat]'hlen = y at hm
        rcases List.mem_append.mp hm with hm | hm
        · obtain ⟨j, _, rfl⟩ := List.mem_map.mp hm; rfl
        · simp only [List.mem_cons, List.mem_nil_iff, or_false] at hm
          rcases hm with rfl | rfl | rfl | rfl | rfl | rfl <;> rfl
      generalize (ms.map D.int ++ [D.int (-1), D.bl true, D.non, D.str "1", D.int X, D.lst [D.int 1]])[i.toNat]'hlen = d at hd
      simp_arith
      refine shuf_wp (fun x => ∃ w : Int, x = .int w ∧ (w = 0 ∨ w = 1 ∨ w = 2 ∨ w = 3)) hz2 (by omega) (xs := [.int 0, .int 1, .int 2, .int 3]) rfl (fun _ _ => rfl) (by simp) (fun x hx => ?_) fun z3 out cc hz3 hout => ?_
      · simp only [List.mem_cons, List.mem_nil_iff, or_false] at hx
        rcases hx with rfl | rfl | rfl | rfl
        · exact ⟨0, rfl, by simp⟩
        · exact ⟨1, rfl, by simp⟩
        · exact ⟨2, rfl, by simp⟩
        · exact ⟨3, rfl, by simp⟩
      · have hsq : sqOf (z3.st (T ++ U ++ [cc, .lst out])) (.loc ((T ++ U).length + 3)) = some out := by
          refine x_sqOf (x_loc ?_)
          rw [show (T ++ U).length + 3 = ((T ++ U).length + 1) + 2 from rfl, Z.get, List.getElem?_append_right (Nat.le_add_right _ 1), Nat.add_sub_cancel_left]
          rfl
        try simp_arith
        refine seq_wp (f := cVar 0) (Γ := []) hsq fun src3 e3 hg3 => ?_
        simp_arith
        rw [e3]
        refine wp_loop (fun r2 Γ S' => S' = z3.st (T ++ U ++ [cc, .lst out]) ∧ (∀ x ∈ r2, ∃ w : Int, x = .int w ∧ (w = 0 ∨ w = 1 ∨ w = 2 ∨ w = 3)) ∧ ∃ o6 o8 o9 o10 : Option D, Γ = [some (.loc 1), some (.tup (ps.map pr)), some (cost (ps.map pr)), some (.lst (ms.map D.int)), o4, o5, o6, some d, o8, o9, o10])
          (fun r Γ S' i => by rw [i.1]; exact hg3) (fun Γ S' i => ?_) (fun d8 r2 Γ S' i => ?_) out _ _ ⟨rfl, hout, _, _, _, _, rfl⟩
        · obtain ⟨rfl, _, p6, p8, p9, p10, rfl⟩ := i
          simp_arith
          refine ⟨z3, U ++ [cc, .lst out], _, _, _, _, _, by rw [List.append_assoc], by omega, hz3.up ?_, rfl⟩
          show k + 5 * (8 - (r.length + 1)) + 1 + 4 ≤ k + 5 * (8 - r.length)
          omega
        · obtain ⟨rfl, hw, p6, p8, p9, p10, rfl⟩ := i
          obtain ⟨w, rfl, hw4⟩ := hw d8 (List.mem_cons_self ..)
          refine ⟨_, rfl, ?_⟩
          have nxt : ∀ {Γ : DD.Env} {p8 p9 p10 : Option D}, Γ = [some (.loc 1), some (.tup (ps.map pr)), some (cost (ps.map pr)), some (.lst (ms.map D.int)), o4, o5, p6, some d, p8, p9, p10] → (∀ x ∈ r2, ∃ w : Int, x = .int w ∧ (w = 0 ∨ w = 1 ∨ w = 2 ∨ w = 3)) ∧ ∃ o6 o8 o9 o10 : Option D, Γ = [some (.loc 1), some (.tup (ps.map pr)), some (cost (ps.map pr)), some (.lst (ms.map D.int)), o4, o5, o6, some d, o8, o9, o10] := fun e => ⟨fun x hx => hw x (List.mem_cons_of_mem _ hx), _, _, _, _, e⟩
          obtain ⟨a, b, ea, pa, pb, hb, ht⟩ := pd_askM (ps := ps) (w := w) hd
          have hne : ∀ {S : Sto}, oEq2 (!·) (askM ps w d) (askM ps w d) S = .ok (.bl false) S := fun {S} => ne_refl (n := 1) ea (by simp [pa, pb]) (by decide)
          have i0' : ∀ {S : Sto}, oIx (askM ps w d) (.int 0) S = .ok a S := fun {S} => by rw [ea]; exact ix_t0
          have i1' : ∀ {S : Sto}, oIx (askM ps w d) (.int 1) S = .ok b S := fun {S} => by rw [ea]; exact ix_t1
          have hask : ∀ {S : Sto}, f_l_ask [.int w, cost (ps.map pr), d] S = .ok (askM ps w d) S := fun {S} => ask_eq hp hl hd hw4
          have hisb : ∀ {S : Sto}, oIsi ["Cost"] b (.ty "bool") S = .ok (.bl (isB (tyP b) "bool")) S := fun {S} => x_isi pb (by decide)
          simp_arith
          rw [lnum_eq hd]
          simp_arith
          cases d with
          | int t =>
            simp_arith [isI]
            by_cases ht0 : 0 ≤ t
            · have hn : isN (.int t) = true := decide_eq_true ht0
              have hA : askM ps w (.int t) = .tup [.str "told", if w.fmod 2 = 0 then .int (atM ps t) else latM ps t] := by unfold askM; rw [if_pos hn]
              have ix : ∀ {S : Sto}, oIx (.lst [.int (atM ps t), latM ps t]) (.int (w.fmod 2)) S = .ok (if w.fmod 2 = 0 then .int (atM ps t) else latM ps t) S := fun {S} => by
                rcases hw4 with rfl | rfl | rfl | rfl
                · exact x_ix (xs := [.int (atM ps t), latM ps t]) (m := 0) rfl rfl (by simp)
                · exact x_ix (xs := [.int (atM ps t), latM ps t]) (m := 1) rfl rfl (by simp)
                · exact x_ix (xs := [.int (atM ps t), latM ps t]) (m := 0) rfl rfl (by simp)
                · exact x_ix (xs := [.int (atM ps t), latM ps t]) (m := 1) rfl rfl (by simp)
              simp_arith [decide_eq_true ht0, lat_eq, lat2_eq]
              rw [x_mod (by decide)]
              simp_arith
              rw [ix]
              simp_arith
              rw [← hA, hask]
              simp_arith [hne, i0', i1']
              rcases ht with rfl | rfl
              · simp_arith [eq_ss, id_eq, decide_eq_true (rfl : (Str.ofString "told") = Str.ofString "told"), i0', i1', hisb, hb rfl]
                exact ⟨trivial, nxt rfl⟩
              · simp_arith [eq_ss, id_eq, show decide ((Str.ofString "number") = Str.ofString "told") = false from by decide, i0', i1', hisb]
                exact ⟨trivial, nxt rfl⟩
            · have hn : isN (.int t) = false := decide_eq_false ht0
              have hA : askM ps w (.int t) = .tup [.str "number", .int t] := by unfold askM; rw [hn]; rfl
              simp_arith [decide_eq_false ht0]
              rw [← hA, hask]
              simp_arith [hne, i0', i1']
              rcases ht with rfl | rfl
              · simp_arith [eq_ss, id_eq, decide_eq_true (rfl : (Str.ofString "told") = Str.ofString "told"), i0', i1', hisb, hb rfl]
                exact ⟨trivial, nxt rfl⟩
              · simp_arith [eq_ss, id_eq, show decide ((Str.ofString "number") = Str.ofString "told") = false from by decide, i0', i1', hisb]
                exact ⟨trivial, nxt rfl⟩
          | _ =>
            simp_arith [isI]
            rw [show ∀ y : D, isN y = false → D.tup [.str "number", y] = askM ps w y from fun y hy => by unfold askM; rw [hy]; rfl, hask]
            · simp_arith [hne, i0', i1']
              rcases ht with rfl | rfl
              · simp_arith [eq_ss, id_eq, decide_eq_true (rfl : (Str.ofString "told") = Str.ofString "told"), i0', i1', hisb, hb rfl]
                exact ⟨trivial, nxt rfl⟩
              · simp_arith [eq_ss, id_eq, show decide ((Str.ofString "number") = Str.ofString "told") = false from by decide, i0', i1', hisb]
                exact ⟨trivial, nxt rfl⟩
            · rfl
  · obtain ⟨rfl, qs, ms, o4, o5, hq, hms, rfl⟩ := i
    cases qs with
    | nil => cases hq
    | cons p qs =>
      cases hq
      refine ⟨_, rfl, ?_⟩
      simp_arith
      simp only [List.length_cons] at hms
      rw [x_addL (by simp only [List.length_map, List.length_cons, List.length_nil]; exact size_ok (by omega))]
      simp_arith
      refine ⟨trivial, qs, ms ++ [p.1 - 1, p.1, p.1 + 1, p.2 - 1, p.2, p.2 + 1], some (.int p.1), some (.int p.2), rfl, ?_, ?_⟩
      · rw [List.length_append]
        show ms.length + 6 + 6 * qs.length = _
        omega
      · rw [List.map_append]; rfl
end TP
namespace TP
open PySem PySem.Spec DD
/-! ### lists of steps drawn and spoiled -/
theorem ix3L {a b c : Int} {i : Int} {S : Sto} (h0 : 0 ≤ i) (h1 : i < 3) : ∃ x : Int, (x = a ∨ x = b ∨ x = c) ∧ oIx (.lst [.int a, .int b, .int c]) (.int i) S = .ok (.int x) S := by
  have : i = 0 ∨ i = 1 ∨ i = 2 := by omega
  rcases this with rfl | rfl | rfl
  · exact ⟨a, .inl rfl, x_ix (xs := [.int a, .int b, .int c]) (m := 0) rfl rfl (by simp)⟩
  · exact ⟨b, .inr (.inl rfl), x_ix (xs := [.int a, .int b, .int c]) (m := 1) rfl rfl (by simp)⟩
  · exact ⟨c, .inr (.inr rfl), x_ix (xs := [.int a, .int b, .int c]) (m := 2) rfl rfl (by simp)⟩
/-- all items good so far, the last one (t, c) -/
theorem good_snoc : ∀ (ps : List (Int × Int)) (t0 c0 t c t' c' : Int), firstBad t0 c0 (ps.map pr) = none → (∀ q, ps.getLast? = some q → q = (t, c)) → (ps = [] → t = t0 ∧ c = c0) → -1 ≤ t → 0 ≤ c → t < t' → c < c' → firstBad t0 c0 ((ps ++ [(t', c')]).map pr) = none
  | [], t0, c0, t, c, t', c', _, _, he, ht, hc, h1, h2 => by
    obtain ⟨rfl, rfl⟩ := he rfl
    show (if okStep t c (pr (t', c')) = true then firstBad t' c' [] else some _) = none
    rw [if_pos (by simp only [okStep, asPair, pr]; simp; omega)]
    rfl
  | p :: r, t0, c0, t, c, t', c', h, hl, he, ht, hc, h1, h2 => by
    have h : (if okStep t0 c0 (pr p) = true then firstBad p.1 p.2 (r.map pr) else some (pr p)) = none := h
    by_cases ho : okStep t0 c0 (pr p) = true
    · rw [if_pos ho] at h
      show (if okStep t0 c0 (pr p) = true then firstBad p.1 p.2 ((r ++ [(t', c')]).map pr) else some (pr p)) = none
      rw [if_pos ho]
      refine good_snoc r p.1 p.2 t c t' c' h (fun q hq => hl q ?_) (fun e => ?_) ht hc h1 h2
      · cases r with
        | nil => cases hq
        | cons a b => rw [List.getLast?_cons_cons]; exact hq
      · subst e
        have := hl p rfl
        rw [this]
        exact ⟨rfl, rfl⟩
    · rw [if_neg ho] at h; cases h
theorem steps_wp2 {z : Z} {T : Sto} {k : Nat} {Q : D → Sto → Prop} {E : Str → List (Str × D) → Sto → Prop} (h : z.ok k) (hk : k + 100 < 1000000) (q : ∀ (z' : Z) (ps : List (Int × Int)), z'.ok (k + 40) → ps.length ≤ 6 → firstBad (-1) 0 (ps.map pr) = none → Q (.loc (T.length + 2)) (z'.st (T ++ [.lst (ps.map pr)]))) :
    (f_l_steps [.loc 1] (z.st T)).wp Q E := by
  unfold f_l_steps
  simp_arith [Z.app, Z.len]
  refine take_wp h (by omega) (by omega) (by omega) fun i z1 i0 i1 h1 => ?_
  simp_arith
  obtain ⟨x, hx, ex⟩ := ix3L (a := 2) (b := 4) (c := 7) (S := z1.st (T ++ [.lst []])) i0 i1
  rw [ex]
  simp_arith
  refine take_wp h1 (by omega) (by omega) (by omega) fun n z2 n0 n1 h2 => ?_
  obtain ⟨n, rfl⟩ := Int.eq_ofNat_of_zero_le n0
  have hn : n ≤ 6 := by omega
  refine rg1_wp (inR_nat (by omega)) ?_
  rw [Int.toNat_natCast]
  simp_arith
  refine wp_loop (fun r Γ S' => ∃ (z' : Z) (ps : List (Int × Int)) (t c : Int) (o4 : Option D), S' = z'.st (T ++ [.lst (ps.map pr)]) ∧ ps.length + r.length ≤ 6 ∧ z'.ok (k + 2 + 4 * ps.length) ∧ firstBad (-1) 0 (ps.map pr) = none ∧ (∀ q, ps.getLast? = some q → q = (t, c)) ∧ (ps = [] → t = -1 ∧ c = 0) ∧ -1 ≤ t ∧ 0 ≤ c ∧ Γ = [some (.loc 1), some (.loc (T.length + 2)), some (.int t), some (.int c), o4])
    (fun r Γ S' i => rfl) (fun Γ S' i => ?_) (fun d r Γ S' i => ?_) _ _ _ ⟨z2, [], -1, 0, none, rfl, by simp; exact hn, h2, rfl, (fun q hq => by cases hq), fun _ => ⟨rfl, rfl⟩, by decide, by decide, rfl⟩
  · obtain ⟨z', ps, t, c, o4, rfl, hl, hz, hf, _, _, _, _, rfl⟩ := i
    simp_arith
    simp only [List.length_nil] at hl
    exact q z' ps (hz.up (by omega)) (by omega) hf
  · obtain ⟨z', ps, t, c, o4, rfl, hl, hz, hf, hla, he, ht, hc, rfl⟩ := i
    simp only [List.length_cons] at hl
    refine ⟨_, rfl, ?_⟩
    simp_arith
    rw [x_pow (by decide)]
    simp_arith
    refine take_wp hz (by omega) (by omega) (by omega) fun i3 z3 i30 i31 h3 => ?_
    simp_arith
    obtain ⟨x3, hx3, ex3⟩ := ix3L (a := 2) (b := 6) (c := 10 ^ Int.toNat 9) (S := z3.st (T ++ [.lst (ps.map pr)])) i30 i31
    rw [ex3]
    simp_arith
    have e9 : (10 : Int) ^ Int.toNat 9 = 1000000000 := by decide
    rw [e9] at hx3
    refine take_wp h3 (by omega) (by omega) (by omega) fun i4 z4 i40 i41 h4 => ?_
    simp_arith
    rw [x_pow (by decide)]
    simp_arith
    refine take_wp h4 (by omega) (by omega) (by omega) fun i5 z5 i50 i51 h5 => ?_
    simp_arith
    obtain ⟨x5, hx5, ex5⟩ := ix3L (a := 1) (b := 3) (c := 10 ^ Int.toNat 20) (S := z5.st (T ++ [.lst (ps.map pr)])) i50 i51
    rw [ex5]
    simp_arith
    have e20 : (10 : Int) ^ Int.toNat 20 = 100000000000000000000 := by decide
    rw [e20] at hx5
    refine take_wp h5 (by omega) (by omega) (by omega) fun i6 z6 i60 i61 h6 => ?_
    have g2 : ∀ {z : Z} {a : Cell}, (z.st (T ++ [a]))[T.length + 2]? = some a := fun {z a} => by rw [Z.get]; simp
    have u2 : ∀ {z : Z} {a k : Cell}, (z.st (T ++ [a])).set (T.length + 2) k = z.st (T ++ [k]) := fun {z a k} => by rw [Z.set]; simp
    simp_arith [x_isT g2]
    rw [x_app g2 (by rw [List.length_map]; exact size_ok (by omega))]
    simp_arith [u2]
    refine ⟨z6, ps ++ [(t + 1 + i4, c + 1 + i6)], t + 1 + i4, c + 1 + i6, _, by rw [List.map_append]; rfl, by rw [List.length_append, List.length_singleton]; omega, ?_, good_snoc ps (-1) 0 t c _ _ hf hla he ht hc (by omega) (by omega), fun q hq => ?_, fun e => by simp at e, by omega, by omega, rfl⟩
    · rw [List.length_append, List.length_singleton]
      exact h6.up (by omega)
    · rw [List.getLast?_append] at hq
      simpa using hq.symm
end TP
namespace TP
open PySem PySem.Spec DD
/-! ### lists of steps spoiled -/
def Lst (T : Sto) (p : D) (xs : List D) : Prop := p = .lst xs ∨ ∃ i, p = .loc (i + 2) ∧ T[i]? = some (.lst xs)
theorem Lst.at {T : Sto} {p : D} {xs : List D} (h : Lst T p xs) (z : Z) : lstOf (z.st T) p = some xs := by
  rcases h with rfl | ⟨i, rfl, h⟩
  · rfl
  · exact x_loc h
theorem Lst.app {T U : Sto} {p : D} {xs : List D} (h : Lst T p xs) : Lst (T ++ U) p xs := by
  rcases h with rfl | ⟨i, rfl, h⟩
  · exact .inl rfl
  · exact .inr ⟨i, rfl, by rw [List.getElem?_append_left (List.getElem?_eq_some_iff.mp h).1]; exact h⟩
def EqB (a : Bool) (S : Sto) (x : Bool) (S' : Sto) : Prop := x = a ∧ S' = S
theorem eqB_ok {a : Bool} {S : Sto} : EqB a S a S := ⟨rfl, rfl⟩
theorem eqB_of_wp {r : Res Bool} {a : Bool} {S : Sto} (h : r.wp (EqB a S) No) : r = .ok a S := by
  cases r with
  | ok x S' => obtain ⟨rfl, rfl⟩ := h; rfl
  | exc C fs S' => exact h.elim
  | stk => exact h.elim
theorem eq_nil {xs : List D} {d : D} {S : Sto} {f : Bool → Bool} (h : lstOf S d = some xs) : oEq2 f d (.lst []) S = .ok (.bl (f xs.isEmpty)) S := by
  have v : vw S d = some (.l xs) := by
    cases d with
    | lst ys => cases h; rfl
    | loc k =>
      have h : (match S[k]? with | some (.lst xs) => some xs | _ => none) = some xs := h
      show (match S[k]? with | some (.lst xs) => some (Vw.l xs) | _ => none) = _
      cases hk : S[k]? with
      | none => rw [hk] at h; cases h
      | some q => rw [hk] at h; cases q <;> first | (cases h; rfl) | cases h
    | _ => cases h
  have e : eqD S 12 d (.lst []) = some xs.isEmpty := by
    show eqStep S (some (eqD S 11)) d (.lst []) = _
    unfold eqStep
    rw [v]
    show (if xs.length = ([] : List D).length then (some (eqD S 11)).bind (fun f => eqDs S f xs []) else some false) = _
    cases xs with
    | nil => rfl
    | cons a r => rfl
  show (match eqD S 12 d (.lst []) with | some k => Res.ok (D.bl (f k)) S | none => .stk) = _
  rw [e]
theorem pair_eq {d : D} {S : Sto} (h : pd 1 d = true) : f_l_is_pair [d] S = .ok (.bl (asPair d).isSome) S := by
  refine eq_of_wp ?_
  unfold f_l_is_pair
  simp_arith
  rw [x_isi h (by decide)]
  simp_arith
  cases d with
  | tup xs =>
    simp_arith [tyP, show isB "tuple" "tuple" = true from by decide, ne_ii]
    have hx : ∀ x ∈ xs, pd 0 x = true := by simpa [pd] using h
    match xs, hx with
    | [], _ => exact is_ok
    | [a], _ => refine is_of ?_; cases a <;> rfl
    | a :: b :: e :: r, _ =>
      have hn : decide ((((a :: b :: e :: r).length : Nat) : Int) = 2) = false := decide_eq_false (by simp only [List.length_cons]; omega)
      simp only [List.length_cons] at hn
      simp_arith [hn]
      refine is_of ?_
      cases a <;> cases b <;> rfl
    | [a, b], hx =>
      have hn : decide (((0 + 1 + 1 : Nat) : Int) = 2) = true := by decide
      simp_arith at hn
      simp_arith [hn]
      refine seq_wp (f := cVar 0) (Γ := []) (xs := [a, b]) rfl fun src e1 hg => ?_
      simp_arith
      have e := cLoop_pure (gf := gN 1) (ft := cOr (cNot (cTruth (cCB (b2 (oIsi ["Cost"])) (cCons (cVar 1) (cCons (cC (.ty "int")) cNil))))) (cTruth (cCB (b2 (oIsi ["Cost"])) (cCons (cVar 1) (cCons (cC (.ty "bool")) cNil))))) (fe := cVar 1) (src := src) (Γ := wipeD [some (.tup [a, b]), none] [1]) (S := S)
        (fun d => !isI d) id hg [a, b] [] (size_ok (by simp)) (fun x hm => by
        refine ⟨_, rfl, eqB_of_wp ?_, fun _ => rfl⟩
        have hxx := hx x hm
        show Res.wp (cOr _ _ [some (.tup [a, b]), some x] S) _ _
        simp_arith
        rw [x_isi hxx (by decide)]
        simp_arith
        cases x with
        | int i =>
          simp_arith [tyP, show isB "int" "int" = true from by decide]
          rw [x_isi hxx (by decide)]
          simp_arith [tyP, show isB "int" "bool" = false from by decide]
          exact eqB_ok
        | bl b =>
          simp_arith [tyP, show isB "bool" "int" = true from by decide]
          rw [x_isi hxx (by decide)]
          simp_arith [tyP, show isB "bool" "bool" = true from by decide]
          exact eqB_ok
        | non => simp_arith [tyP, show isB "NoneType" "int" = false from by decide]; exact eqB_ok
        | str z => simp_arith [tyP, show isB "str" "int" = false from by decide]; exact eqB_ok
        | tup z => simp_arith [tyP, show isB "tuple" "int" = false from by decide]; exact eqB_ok
        | lst z => simp_arith [tyP, show isB "list" "int" = false from by decide]; exact eqB_ok
        | _ => simp_arith [tyP, show isB "dict" "int" = false from by decide]; exact eqB_ok)
      rw [e1, e]
      simp_arith [finL]
      rw [eq_nil (xs := [] ++ List.map id (List.filter (fun d => !isI d) [a, b])) rfl]
      refine is_of ?_
      cases a <;> cases b <;> rfl
  | int i => simp_arith [tyP, show isB "int" "tuple" = false from by decide]; exact is_ok
  | bl b => simp_arith [tyP, show isB "bool" "tuple" = false from by decide]; exact is_ok
  | non => simp_arith [tyP, show isB "NoneType" "tuple" = false from by decide]; exact is_ok
  | str z => simp_arith [tyP, show isB "str" "tuple" = false from by decide]; exact is_ok
  | lst z => simp_arith [tyP, show isB "list" "tuple" = false from by decide]; exact is_ok
  | _ => simp_arith [tyP, show isB "dict" "tuple" = false from by decide]; exact is_ok
theorem x_addLL {a b : D} {xs ys : List D} {S : Sto} (ha : lstOf S a = some xs) (hb : lstOf S b = some ys) (h : xs.length + ys.length ≤ sizeLine) : oAdd a b S = .ok (.lst (xs ++ ys)) S := by
  cases a with
  | lst zs => cases ha; cases b with
    | lst ws => cases hb; exact x_addL h
    | loc n => show (match lstOf S (.lst xs), lstOf S (.loc n) with | some xs, some ys => guard1 (lim (xs.length + ys.length)) (.ok (.lst (xs ++ ys)) S) | _, _ => Res.stk) = _
               rw [hb]; simp [lstOf, guard1, lim, h]
    | _ => cases hb
  | loc n =>
    cases b with
    | lst ws => show (match lstOf S (.loc n), lstOf S (.lst ws) with | some xs, some ys => guard1 (lim (xs.length + ys.length)) (.ok (.lst (xs ++ ys)) S) | _, _ => Res.stk) = _
                rw [ha, hb]; simp [guard1, lim, h]
    | loc m => show (match lstOf S (.loc n), lstOf S (.loc m) with | some xs, some ys => guard1 (lim (xs.length + ys.length)) (.ok (.lst (xs ++ ys)) S) | _, _ => Res.stk) = _
               rw [ha, hb]; simp [guard1, lim, h]
    | _ => cases hb
  | _ => cases ha
theorem in14 {p : Int} {S : Sto} (h0 : 0 ≤ p) (h1 : p < 9) : oIn2 id (.int p) (.lst [.int 1, .int 2, .int 3, .int 4]) S = .ok (.bl (decide (1 ≤ p ∧ p ≤ 4))) S := by
  have : p = 0 ∨ p = 1 ∨ p = 2 ∨ p = 3 ∨ p = 4 ∨ p = 5 ∨ p = 6 ∨ p = 7 ∨ p = 8 := by omega
  rcases this with rfl | rfl | rfl | rfl | rfl | rfl | rfl | rfl | rfl <;> rfl
theorem x_ixneg {d : D} {xs : List D} {S : Sto} (h : lstOf S d = some xs) (hn : 0 < xs.length) : oIx d (.int (-1)) S = .ok (xs[xs.length - 1]'(by omega)) S := by
  have e : atD xs (-1) = some (xs[xs.length - 1]'(by omega)) := by
    have h1 : -(xs.length : Int) ≤ -1 := by omega
    have h2 : ((-1 : Int) + (xs.length : Int)).toNat = xs.length - 1 := by omega
    have h3 : xs.length - 1 < xs.length := by omega
    simp [atD, L2.ixN, h1, h2, h3]
  have hs := x_sqOf h
  cases d with
  | lst ys => show (match sqOf S (.lst ys) with | some xs => (match atD xs (-1) with | some d => Res.ok d S | none => .stk) | none => .stk) = _; rw [hs]; simp only [e]
  | loc k => show (match sqOf S (.loc k) with | some xs => (match atD xs (-1) with | some d => Res.ok d S | none => .stk) | none => .stk) = _; rw [hs]; simp only [e]
  | _ => cases h
end TP
namespace TP
open PySem PySem.Spec DD
theorem cut_mem {xs : List D} {lo hi : Option Int} {x : D} (h : x ∈ cutD xs lo hi) : x ∈ xs := List.mem_of_mem_drop (List.mem_of_mem_take h)
theorem cut_len {xs : List D} {lo hi : Option Int} : (cutD xs lo hi).length ≤ xs.length := by
  unfold cutD
  rw [List.length_take, List.length_drop]
  omega
theorem x_sl {d : D} {xs : List D} {S : Sto} {lo hi : Option Int} (h : lstOf S d = some xs) : oSl d lo hi S = .ok (.lst (cutD xs lo hi)) S := by
  cases d with
  | lst ys => cases h; rfl
  | loc n => show (match rdOf S (.loc n) with | some xs => Res.ok (D.lst (cutD xs lo hi)) S | none => .stk) = _; rw [show rdOf S (.loc n) = some xs from h]
  | _ => cases h
theorem x_revL {d : D} {xs : List D} {S : Sto} (h : lstOf S d = some xs) : revD d S = .ok (.lst xs.reverse) S := by
  show (match lstOf S d with | some xs => Res.ok (D.lst xs.reverse) S | none => .stk) = _
  rw [h]
theorem asPair_some {d : D} (h : (asPair d).isSome = true) : ∃ t c : Int, d = .tup [.int t, .int c] := by
  unfold asPair at h
  split at h
  · exact ⟨_, _, rfl⟩
  · cases h
theorem x_ix0 {d : D} {xs : List D} {S : Sto} (h : lstOf S d = some xs) (hn : 0 < xs.length) : oIx d (.int 0) S = .ok xs[0] S := x_ix (m := 0) (x_sqOf h) rfl hn
theorem ix_any {xs : List D} {j : Int} {S : Sto} {P : D → Sto → Prop} {E : Str → List (Str × D) → Sto → Prop} (h0 : 0 ≤ j) (h1 : j < (xs.length : Int)) (hx : ∀ x ∈ xs, pd 1 x = true) (q : ∀ y, pd 1 y = true → P y S) : (oIx (.lst xs) (.int j) S).wp P E := by
  have hm : j.toNat < xs.length := by omega
  rw [x_ix (xs := xs) (m := j.toNat) rfl (by omega) hm]
  exact q _ (hx _ (List.getElem_mem hm))
/-- the last steps of the def: a piece twice, or turned round -/
theorem end_wp {z : Z} {T : Sto} {tl : D} {xs : List D} {pl : Int} {o4 o5 o6 o7 p1 : Option D} {Q : D → Sto → Prop} {E : Str → List (Str × D) → Sto → Prop} (h : Lst T tl xs) (hl : xs.length ≤ 1000) (hx : ∀ x ∈ xs, pd 1 x = true) (q : ∀ (p' : D) (ys : List D), Lst T p' ys → (∀ x ∈ ys, pd 1 x = true) → ys.length ≤ 2 * xs.length → Q p' (z.st T)) :
    (sSeq (sIf (cTest (cOp (oEq2 id) (cVar 3) (cC (.int 5)))) (sSet 2 (cOp oAdd (cVar 2) (cSl (cVar 2) cNoPart (cPart (cC (.int 1)))))) sNext)
    (sSeq (sIf (cTest (cOp (oEq2 id) (cVar 3) (cC (.int 6)))) (sSet 2 (cRev (cVar 2))) sNext)
    (sRet (cVar 2))) [some (.loc 1), p1, some tl, some (.int pl), o4, o5, o6, o7] (z.st T)).wp (En.dEf Q E) := by
  simp_arith [eq_ii, id_eq]
  by_cases h5 : pl = 5
  · subst h5
    simp_arith [show decide ((5 : Int) = 5) = true from rfl, show decide ((5 : Int) = 6) = false from rfl, eq_ii, id_eq]
    rw [x_sl (h.at z)]
    simp_arith
    rw [x_addLL (h.at z) rfl (size_ok (by have := cut_len (xs := xs) (lo := none) (hi := some 1); omega))]
    simp_arith [show decide ((5 : Int) = 6) = false from rfl, eq_ii, id_eq]
    refine q _ _ (.inl rfl) (fun x hm => ?_) ?_
    · rcases List.mem_append.mp hm with hm | hm
      · exact hx x hm
      · exact hx x (cut_mem hm)
    · rw [List.length_append]
      have := cut_len (xs := xs) (lo := none) (hi := some 1)
      omega
  · simp_arith [decide_eq_false h5, eq_ii, id_eq]
    by_cases h6 : pl = 6
    · subst h6
      simp_arith [show decide ((6 : Int) = 6) = true from rfl]
      rw [x_revL (h.at z)]
      simp_arith
      exact q _ _ (.inl rfl) (fun x hm => hx x (List.mem_reverse.mp hm)) (by rw [List.length_reverse]; omega)
    · simp_arith [decide_eq_false h6]
      exact q _ _ h hx (by omega)
theorem mid_wp {z : Z} {T : Sto} {i k : Nat} {xs : List D} {pl : Int} {o4 o5 o6 o7 p1 : Option D} {Q : D → Sto → Prop} {E : Str → List (Str × D) → Sto → Prop} (hz : z.ok k) (hk : k + 100 < 1000000) (h : T[i]? = some (.lst xs)) (hl : xs.length ≤ 1000) (hx : ∀ x ∈ xs, pd 1 x = true) (h0 : 0 ≤ pl) (h9 : pl < 9)
    (q : ∀ (z' : Z) (p' : D) (ys ws : List D), z'.ok (k + 3) → Lst (T.set i (.lst ws)) p' ys → (∀ x ∈ ys, pd 1 x = true) → ys.length ≤ 2 * xs.length → Q p' (z'.st (T.set i (.lst ws)))) :
    (sSeq (sSet 4 (cCall f_l_take (cCons (cVar 0) (cCons (cCB (b2 oMax2) (cCons (cC (.int 1)) (cCons (cCB (b1 oLen) (cCons (cVar 2) cNil)) cNil))) cNil))))
    (sSeq (sIf (cAnd (cTest (cOp (oIn2 id) (cVar 3) (cLst (cCons (cC (.int 1)) (cCons (cC (.int 2)) (cCons (cC (.int 3)) (cCons (cC (.int 4)) cNil))))))) (cAnd (cTest (cOp (oEq2 (!·)) (cVar 2) (cLst cNil))) (cTruth (cCall f_l_is_pair (cCons (cOp oIx (cVar 2) (cVar 4)) cNil))))) (sSeq (sAsg (gT 2 (gsCons (gN 5) (gsCons (gN 6) gsNil))) (cOp oIx (cVar 2) (cVar 4)))
    (sSeq (sSet 7 (cLst (cCons (cTup (cCons (cVar 5) (cCons (cNeg (cC (.int 1))) cNil))) (cCons (cTup (cCons (cNeg (cC (.int 1))) (cCons (cVar 6) cNil))) (cCons (cTup (cCons (cVar 5) (cCons (cC (.int 0)) cNil))) (cCons (cTup (cCons (cC (.bl true)) (cCons (cVar 6) cNil))) (cCons (cTup (cCons (cVar 5) (cCons (cC .non) cNil))) (cCons (cTup (cCons (cC (.str "1")) (cCons (cVar 6) cNil))) (cCons (cTup (cCons (cVar 5) cNil)) cNil)))))))))
    (sSeq (sSet 7 (cOp oAdd (cVar 7) (cLst (cCons (cLst (cCons (cVar 5) (cCons (cVar 6) cNil))) (cCons (cTup (cCons (cVar 5) (cCons (cVar 6) (cCons (cC (.int 1)) cNil)))) (cCons (cC .non) (cCons (cC (.int 7)) (cCons (cTup (cCons (cOp oSub (cVar 5) (cC (.int 1))) (cCons (cVar 6) cNil))) (cCons (cTup (cCons (cVar 5) (cCons (cOp oSub (cVar 6) (cC (.int 1))) cNil))) cNil)))))))))
    (sSeq (sSet 7 (cOp oAdd (cVar 7) (cLst (cCons (cOp oIx (cVar 2) (cC (.int 0))) (cCons (cOp oIx (cVar 2) (cNeg (cC (.int 1)))) (cCons cDict0 (cCons (cC (.str "4:1")) (cCons (cTup (cCons (cVar 5) (cCons (cC (.bl true)) cNil))) cNil))))))))
    (sPut (cOp oIx (cVar 7) (cCall f_l_take (cCons (cVar 0) (cCons (cC (.int 18)) cNil)))) (cVar 2) (cVar 4)))))) sNext)
    (sSeq (sIf (cTest (cOp (oEq2 id) (cVar 3) (cC (.int 5)))) (sSet 2 (cOp oAdd (cVar 2) (cSl (cVar 2) cNoPart (cPart (cC (.int 1)))))) sNext)
    (sSeq (sIf (cTest (cOp (oEq2 id) (cVar 3) (cC (.int 6)))) (sSet 2 (cRev (cVar 2))) sNext)
    (sRet (cVar 2))))) [some (.loc 1), p1, some (.loc (i + 2)), some (.int pl), o4, o5, o6, o7] (z.st T)).wp (En.dEf Q E) := by
  have ga : ∀ {z : Z}, (z.st T)[i + 2]? = some (.lst xs) := fun {z} => h
  have le : ∀ {z : Z}, lstOf (z.st T) (.loc (i + 2)) = some xs := fun {z} => x_loc ga
  have hi : i < T.length := (List.getElem?_eq_some_iff.mp h).1
  have keep : T.set i (.lst xs) = T := by
    apply List.ext_getElem?
    intro j
    by_cases hj : i = j
    · subst hj; rw [List.getElem?_set_self hi, h]
    · rw [List.getElem?_set_ne hj]
  have last : ∀ (z' : Z) (p4 p5 p6 p7 : Option D), z'.ok (k + 3) → (sSeq (sIf (cTest (cOp (oEq2 id) (cVar 3) (cC (.int 5)))) (sSet 2 (cOp oAdd (cVar 2) (cSl (cVar 2) cNoPart (cPart (cC (.int 1)))))) sNext) (sSeq (sIf (cTest (cOp (oEq2 id) (cVar 3) (cC (.int 6)))) (sSet 2 (cRev (cVar 2))) sNext) (sRet (cVar 2))) [some (.loc 1), p1, some (.loc (i + 2)), some (.int pl), p4, p5, p6, p7] (z'.st T)).wp (En.dEf Q E) := fun z' p4 p5 p6 p7 hz' =>
    end_wp (.inr ⟨i, rfl, h⟩) hl hx fun p' ys hp hy hly => by
      have := q z' p' ys xs hz' (by rw [keep]; exact hp) hy hly
      rw [keep] at this
      exact this
  rw [w_seq, w_set, w_call]
  simp only [w_cons, w_var, g_kCons1, g_kCons2, g_kB, w_cb, w_c, w_nil, List.getElem?_cons_zero, List.getElem?_cons_succ, x_b2, x_b1]
  rw [x_lenO ga]
  simp only [wp_ok, g_kCons1, g_kCons2, g_kB, w_nil, x_b2, x_max]
  refine take_wp hz (by omega) (by split <;> omega) (by split <;> omega) fun kk z1 k0 k1 hz1 => ?_
  simp only [g_kSet, t_nx, List.set_cons_zero, List.set_cons_succ]
  rw [w_seq, w_if]
  simp only [w_and, w_test, w_op, w_var, w_lst, w_cons, w_c, w_nil, g_kOp1, g_kOp2, g_kCons1, g_kCons2, g_kLst, g_kToB, List.getElem?_cons_zero, List.getElem?_cons_succ, List.length_cons, List.length_nil, Nat.reduceAdd, lm4, if_true]
  rw [in14 h0 h9]
  simp only [wp_ok, g_kToB, x_bl, g_kAnd]
  by_cases hp : 1 ≤ pl ∧ pl ≤ 4
  · rw [decide_eq_true hp, if_pos rfl]
    simp_arith
    rw [eq_nil le]
    cases hne : xs.isEmpty with
    | true =>
      simp_arith
      have := last z1 (some (.int kk)) o5 o6 o7 (hz1.up (by omega))
      simp_arith at this
      exact this
    | false =>
      have hlen : 0 < xs.length := by cases xs with | nil => cases hne | cons _ _ => simp
      have hkk : kk.toNat < xs.length := by
        have : kk < xs.length := by
          revert k1; split <;> intro k1 <;> omega
        omega
      simp_arith
      rw [x_ix (m := kk.toNat) (x_sqOf le) (by omega) hkk]
      simp_arith
      rw [pair_eq (hx _ (List.getElem_mem hkk))]
      simp_arith
      cases hap : (asPair xs[kk.toNat]).isSome with
      | false =>
        simp_arith
        have := last z1 (some (.int kk)) o5 o6 o7 (hz1.up (by omega))
        simp_arith at this
        exact this
      | true =>
        simp_arith
        obtain ⟨t, c, etc⟩ := asPair_some hap
        rw [x_ix (m := kk.toNat) (x_sqOf le) (by omega) hkk, etc]
        simp_arith
        rw [x_addL (size_ok (by simp))]
        simp_arith
        rw [x_ix0 le hlen]
        simp_arith
        rw [x_ixneg le hlen]
        simp_arith
        rw [x_addL (size_ok (by simp))]
        simp_arith
        refine take_wp hz1 (by omega) (by omega) (by omega) fun j z2 j0 j1 hz2 => ?_
        simp_arith
        refine ix_any j0 (by simp only [List.length_cons, List.length_nil]; omega) (by
          repeat (first | (intro _ h; cases h; done) | refine List.forall_mem_cons.mpr ⟨by first | rfl | exact hx _ (List.getElem_mem _), ?_⟩)) fun y hy => ?_
        simp_arith
        rw [x_put (m := kk.toNat) ga (by omega) hkk]
        simp_arith [Z.set]
        have r := fun p7 => end_wp (z := z2) (T := T.set i (.lst (xs.set kk.toNat y))) (tl := .loc (i + 2)) (xs := xs.set kk.toNat y) (pl := pl) (o4 := some (.int kk)) (o5 := some (.int t)) (o6 := some (.int c)) (o7 := p7) (p1 := p1) (Q := Q) (E := E) (.inr ⟨i, rfl, List.getElem?_set_self hi⟩) (by rw [List.length_set]; exact hl) (fun x hm => by
          rcases List.mem_or_eq_of_mem_set hm with hm | rfl
          · exact hx x hm
          · exact hy) fun p' ys hpl hys hly => q z2 p' ys _ (hz2.up (by omega)) hpl hys (by rw [List.length_set] at hly; exact hly)
        simp_arith at r
        exact r _
  · rw [decide_eq_false hp, if_neg Bool.false_ne_true]
    simp only [g_kIf]
    rw [if_neg Bool.false_ne_true, w_next, t_nx]
    exact last z1 (some (.int kk)) o5 o6 o7 (hz1.up (by omega))
end TP
namespace TP
open PySem PySem.Spec DD
theorem x_listN {d : D} {xs : List D} {S : Sto} (h : sqOf S d = some xs) : oListN d S = .ok (.loc S.length) (S ++ [.lst xs]) := by
  show (match sqOf S d with | some xs => Res.ok (D.loc S.length) (S ++ [Cell.lst xs]) | none => .stk) = _
  rw [h]
def stepF : D → D
  | .int i => .tup [.int i, .int (i + 1)]
  | _ => .non
theorem spoil_wp {z : Z} {T : Sto} {k : Nat} {p : D} {xs : List D} {Q : D → Sto → Prop} {E : Str → List (Str × D) → Sto → Prop} (hz : z.ok k) (hk : k + 200 < 1000000) (h : Lst T p xs) (hl : xs.length ≤ 400) (hx : ∀ x ∈ xs, pd 1 x = true)
    (q : ∀ (z' : Z) (p' : D) (ys : List D) (U : Sto), z'.ok (k + 5) → Lst (T ++ U) p' ys → (∀ x ∈ ys, pd 1 x = true) → ys.length ≤ 2 * max xs.length 42 → Q p' (z'.st (T ++ U))) : (f_l_spoiled [.loc 1, p] (z.st T)).wp Q E := by
  unfold f_l_spoiled
  simp_arith
  rw [x_listN (x_sqOf (h.at z))]
  simp_arith [Z.app, Z.len]
  refine take_wp hz (by omega) (by omega) (by omega) fun pl z1 p0 p9 hz1 => ?_
  simp_arith [eq_ii, id_eq]
  by_cases hp : pl = 0
  · simp_arith [decide_eq_true hp]
    refine take_wp hz1 (by omega) (by omega) (by omega) fun n z2 n0 n4 hz2 => ?_
    obtain ⟨n, rfl⟩ := Int.eq_ofNat_of_zero_le n0
    simp_arith
    have e39 : (39 : Int) + (n : Int) = ((39 + n : Nat) : Int) := by omega
    rw [e39]
    refine rg1_wp (inR_nat (by omega)) ?_
    rw [Int.toNat_natCast]
    rw [g_kLc, cLoop_pure (fun _ => true) stepF rfl _ [] (by rw [List.length_map, List.length_range, List.length_nil]; exact size_ok (by omega)) (fun x hm => by
      obtain ⟨j, _, rfl⟩ := List.mem_map.mp hm
      exact ⟨_, rfl, rfl, fun _ => rfl⟩)]
    have hys : ∀ x ∈ [] ++ List.map stepF (List.filter (fun _ => true) (List.map (fun (k : Nat) => D.int k) (List.range (39 + n)))), pd 1 x = true := fun x hm => by
      rw [List.nil_append] at hm
      obtain ⟨y, hy, rfl⟩ := List.mem_map.mp hm
      obtain ⟨j, _, rfl⟩ := List.mem_map.mp (List.mem_filter.mp hy).1
      rfl
    have hyl : ([] ++ List.map stepF (List.filter (fun _ => true) (List.map (fun (k : Nat) => D.int k) (List.range (39 + n))))).length ≤ 42 := by
      simp only [List.nil_append, List.length_map]
      refine Nat.le_trans (List.length_filter_le _ _) ?_
      rw [List.length_map, List.length_range]
      omega
    generalize [] ++ List.map stepF (List.filter (fun _ => true) (List.map (fun (k : Nat) => D.int k) (List.range (39 + n)))) = ys at hys hyl ⊢
    simp only [wp_ok, g_kFin, finN, Z.app, Z.len, g_kSet, t_nx, List.set_cons_zero, List.set_cons_succ]
    refine mid_wp (i := (T ++ [Cell.lst xs]).length) (xs := ys) hz2 (by omega) (by rw [List.getElem?_append_right (Nat.le_refl _), Nat.sub_self]; rfl) (by omega) hys p0 p9 fun z' p' ws us hz' hL hws hwl => ?_
    have es : (T ++ [Cell.lst xs] ++ [Cell.lst ys]).set (T ++ [Cell.lst xs]).length (.lst us) = T ++ [.lst xs, .lst us] := by
      rw [List.set_append_right _ _ (Nat.le_refl _), Nat.sub_self, List.append_assoc]; rfl
    rw [es] at hL ⊢
    exact q z' p' ws _ (hz'.up (by omega)) hL hws (by omega)
  · simp only [decide_eq_false hp, g_kIf]
    rw [if_neg Bool.false_ne_true]
    have r := mid_wp (z := z1) (T := T ++ [.lst xs]) (i := T.length) (xs := xs) (pl := pl) (o4 := none) (o5 := none) (o6 := none) (o7 := none) (p1 := some p) (Q := Q) (E := E) hz1 (by omega) (by rw [List.getElem?_append_right (Nat.le_refl _), Nat.sub_self]; rfl) (by omega) hx p0 p9 fun z' p' ws us hz' hL hws hwl => by
      have es : (T ++ [Cell.lst xs]).set T.length (.lst us) = T ++ [.lst us] := by
        rw [List.set_append_right _ _ (Nat.le_refl _), Nat.sub_self]; rfl
      rw [es] at hL ⊢
      exact q z' p' ws _ (hz'.up (by omega)) hL hws (by omega)
    simp_arith at r
    exact r
end TP
namespace TP
open PySem PySem.Spec DD
/-! ### == of costs -/
theorem cost_eq {A B : List D} {S : Sto} {b : Bool} (h : eqD S 12 (.tup A) (.tup B) = some b) : f_Cost_eq [cost A, cost B] S = .ok (.bl b) S := by
  refine eq_of_wp ?_
  unfold f_Cost_eq
  simp_arith
  rw [show oIsi ["Cost"] (cost B) (.cls "Cost") S = .ok (.bl true) S from by
    show (if ("Cost" : Str) ∈ (["Cost"] : List Str) then (if ("Cost" : Str) ∈ (["Cost"] : List Str) then Res.ok (D.bl (decide (("Cost" : Str) = "Cost"))) S else .stk) else .stk) = _
    rw [if_pos (by decide), if_pos (by decide)]
    rfl]
  simp_arith [getD_cost]
  show Res.wp (match eqD S 12 (.tup A) (.tup B) with | some k => Res.ok (D.bl (id k)) S | none => .stk) _ _
  rw [h]
  exact is_ok
theorem cost_ne {A : List D} {d : D} {S : Sto} {n : Nat} (h : pd n d = true) : f_Cost_eq [cost A, d] S = .ok (.bl false) S := by
  refine eq_of_wp ?_
  unfold f_Cost_eq
  simp_arith
  rw [show oIsi ["Cost"] d (.cls "Cost") S = .ok (.bl false) S from by
    have e := tyD_pd (S := S) h
    cases d with
    | ins C fs => cases n <;> simp [pd] at h
    | _ => simp [oIsi, e]]
  simp_arith
  exact is_ok
theorem isOf_cost {A : List D} {S : Sto} : isOf "Cost" S (cost A) = true := rfl
theorem own_eq {A B : List D} {S : Sto} {b no : Bool} (h : eqD S 12 (.tup A) (.tup B) = some b) : oOwn "Cost" no f_Cost_eq (cost A) (cost B) S = .ok (.bl (if no then !b else b)) S := by
  unfold oOwn
  rw [isOf_cost, isOf_cost, Bool.or_true, Bool.and_true, if_pos rfl, cost_eq h]
  rfl
theorem own_ne {A : List D} {d : D} {S : Sto} {n : Nat} (h : pd n d = true) : oOwn "Cost" false f_Cost_eq (cost A) d S = .ok (.bl false) S := by
  unfold oOwn
  rw [isOf_cost, tyD_pd h]
  show (if (true && (true || isOf "Cost" S d)) = true then (f_Cost_eq [cost A, d] S).bool false else .stk) = _
  rw [Bool.true_or, Bool.and_true, if_pos rfl, cost_ne h]
  rfl
def zipE : List (Int × Int) → List (Int × Int) → Bool
  | a :: r, b :: s => ((a.1 == b.1) && (a.2 == b.2)) && zipE r s
  | _, _ => true
theorem zipE_sym : ∀ (r s : List (Int × Int)), zipE r s = zipE s r
  | [], [] => rfl
  | [], _ :: _ => rfl
  | _ :: _, [] => rfl
  | a :: r, b :: s => by
    show (((a.1 == b.1) && (a.2 == b.2)) && zipE r s) = (((b.1 == a.1) && (b.2 == a.2)) && zipE s r)
    rw [zipE_sym r s]
    have e : ∀ i j : Int, (i == j) = (j == i) := fun i j => by
      by_cases h : i = j
      · subst h; rfl
      · rw [beq_false_of_ne h, beq_false_of_ne (Ne.symm h)]
    rw [e a.1, e a.2]
theorem eq_pr {S : Sto} {m : Nat} {p q : Int × Int} : eqI S (eqD S (m + 2)) (pr p) (pr q) = some ((p.1 == q.1) && (p.2 == q.2)) := by
  simp [eqI, vw, pr, eqD, eqStep, eqDs, L2.eqV]
theorem eqs_pr {S : Sto} {m : Nat} : ∀ (r s : List (Int × Int)), eqDs S (eqD S (m + 2)) (r.map pr) (s.map pr) = some (zipE r s)
  | [], _ => by cases ‹List (Int × Int)› <;> rfl
  | _ :: _, [] => rfl
  | a :: r, b :: s => by
    rw [List.map_cons, List.map_cons, eqDs, eq_pr, eqs_pr r s]
    rfl
theorem eq_tups {S : Sto} (r s : List (Int × Int)) : eqD S 12 (.tup (r.map pr)) (.tup (s.map pr)) = some (zipE r s && (r.length == s.length)) := by
  show eqStep S (some (eqD S 11)) (.tup (r.map pr)) (.tup (s.map pr)) = _
  show ((some (eqD S 11)).bind fun f => (eqDs S f (r.map pr) (s.map pr)).map (· && (r.map pr).length == (s.map pr).length)) = _
  rw [Option.bind_some, eqs_pr (m := 9) r s, List.length_map, List.length_map]
  rfl
theorem rd_tup {xs : List D} (hx : ∀ x ∈ xs, pd 1 x = true) : ∃ a b, Rd xs = .tup [a, b] ∧ pd 2 a = true ∧ pd 2 b = true := by
  have fb : ∀ (ys : List D) (t0 c0 : Int) (d : D), (∀ y ∈ ys, pd 1 y = true) → firstBad t0 c0 ys = some d → pd 1 d = true := fun ys => by
    induction ys with
    | nil => intro _ _ d _ h; cases h
    | cons y r ih =>
      intro t0 c0 d hy h
      have h : (match asPair y with | some (t, c) => if okStep t0 c0 y = true then firstBad t c r else some y | none => some y) = some d := h
      cases ha : asPair y with
      | none => rw [ha] at h; cases h; exact hy _ (List.mem_cons_self ..)
      | some p =>
        rw [ha] at h
        obtain ⟨t, c⟩ := p
        have h : (if okStep t0 c0 y = true then firstBad t c r else some y) = some d := h
        by_cases ho : okStep t0 c0 y = true
        · rw [if_pos ho] at h; exact ih t c d (fun z hz => hy z (List.mem_cons_of_mem _ hz)) h
        · rw [if_neg ho] at h; cases h; exact hy _ (List.mem_cons_self ..)
  unfold Rd
  by_cases h40 : 40 < xs.length
  · rw [if_pos h40]; exact ⟨_, _, rfl, rfl, rfl⟩
  · rw [if_neg h40]
    cases h : firstBad (-1) 0 xs with
    | some d => exact ⟨_, _, rfl, rfl, pd_up (fb xs _ _ d hx h)⟩
    | none => exact ⟨_, _, rfl, rfl, by show xs.all (pd 1) = true; exact List.all_eq_true.mpr hx⟩
theorem ne_rd {xs : List D} {S : Sto} (hx : ∀ x ∈ xs, pd 1 x = true) : oEq2 (!·) (Rd xs) (Rd xs) S = .ok (.bl false) S := by
  obtain ⟨a, b, e, ha, hb⟩ := rd_tup hx
  exact ne_refl (n := 2) e (by simp [ha, hb]) (by decide)
theorem ne_lst {a b : D} {xs : List D} {S : Sto} (ha : lstOf S a = some xs) (hb : lstOf S b = some xs) (hx : ∀ x ∈ xs, pd 1 x = true) : oEq2 (!·) a b S = .ok (.bl false) S := by
  show (match eqD S 12 a b with | some k => Res.ok (D.bl (!k)) S | none => .stk) = _
  rw [eqD_lst (m := 11) (n := 1) ha hb hx (by decide)]
  rfl
theorem ne_bb {b : Bool} {S : Sto} : oEq2 (!·) (.bl b) (.bl b) S = .ok (.bl false) S := by
  cases b <;> rfl
theorem ix4L {i : Int} {S : Sto} (h0 : 0 ≤ i) (h1 : i < 4) : ∃ n : Nat, n ≤ 2 ∧ oIx (.lst [.int 0, .int 0, .int 1, .int 2]) (.int i) S = .ok (.int (n : Int)) S := by
  have : i = 0 ∨ i = 1 ∨ i = 2 ∨ i = 3 := by omega
  rcases this with rfl | rfl | rfl | rfl
  · exact ⟨0, by decide, x_ix (xs := [.int 0, .int 0, .int 1, .int 2]) (m := 0) rfl rfl (by simp)⟩
  · exact ⟨0, by decide, x_ix (xs := [.int 0, .int 0, .int 1, .int 2]) (m := 1) rfl rfl (by simp)⟩
  · exact ⟨1, by decide, x_ix (xs := [.int 0, .int 0, .int 1, .int 2]) (m := 2) rfl rfl (by simp)⟩
  · exact ⟨2, by decide, x_ix (xs := [.int 0, .int 0, .int 1, .int 2]) (m := 3) rfl rfl (by simp)⟩
end TP
namespace TP
open PySem PySem.Spec DD
/-! ### the law -/
def Yes (d : D) (_ : Sto) : Prop := d = .bl true
theorem x_tru {k : Bool} {S : Sto} : truD (.bl k) S = .ok k S := rfl
theorem ne_ss {a b : Str} {S : Sto} : oEq2 (!·) (.str a) (.str b) S = .ok (.bl (!decide (a = b))) S := by
  simp [oEq2, eqD, eqStep, vw, L2.eqV]; rfl
theorem law_wp {ns : List Int} (h : ns.length ≤ 63) : (f_law [.wl (ns.map D.int)] []).wp Yes No := by
  unfold f_law
  simp_arith
  rw [start_eq h]
  simp_arith
  refine steps_wp2 (k := 0) ⟨h, Int.le_refl 0, Int.le_refl 0⟩ (by decide) fun z1 ps hz1 hpl hpf => ?_
  simp_arith
  refine take_wp hz1 (by omega) (by omega) (by omega) fun i z2 i0 i4 hz2 => ?_
  simp_arith
  obtain ⟨n, hn, en⟩ := ix4L (S := z2.st [Cell.lst (ps.map pr)]) i0 i4
  rw [en]
  simp_arith
  refine rg1_wp (inR_nat (by omega)) ?_
  rw [Int.toNat_natCast]
  simp_arith
  refine wp_loop (fun r Γ S' => ∃ (z' : Z) (T : Sto) (p : D) (xs : List D) (o3 : Option D), S' = z'.st T ∧ r.length ≤ 2 ∧ (r.length = 2 → xs.length ≤ 42) ∧ (r.length = 1 → xs.length ≤ 84) ∧ xs.length ≤ 168 ∧ z'.ok (41 + 5 * (2 - r.length)) ∧ Lst T p xs ∧ (∀ x ∈ xs, pd 1 x = true) ∧
    Γ = [some (.wl (ns.map D.int)), some (.loc 1), some p, o3, none, none, none, none, none, none])
    (fun r Γ S' i => rfl) (fun Γ S' i => ?_) (fun d r Γ S' i => ?_) _ _ _ ⟨z2, [Cell.lst (ps.map pr)], .loc 2, ps.map pr, none, rfl, by simpa using hn, fun _ => by simp; omega, fun _ => by simp; omega, by simp; omega, hz2.up (by omega), .inr ⟨0, rfl, rfl⟩, (fun x hm => by
      obtain ⟨p, _, rfl⟩ := List.mem_map.mp hm
      rfl), rfl⟩
  · obtain ⟨z, T, p, xs, o3, rfl, _, _, _, hxl, hz, hL, hx, rfl⟩ := i
    have hz : z.ok 51 := hz
    simp_arith
    rw [due_eq (hL.at z) hx]
    simp_arith
    rw [x_listN (x_sqOf (hL.at z))]
    simp_arith [Z.app, Z.len]
    have hL1 : Lst (T ++ [Cell.lst xs]) p xs := hL.app
    have hH1 : Lst (T ++ [Cell.lst xs]) (.loc (T.length + 2)) xs := .inr ⟨T.length, rfl, by rw [List.getElem?_append_right (Nat.le_refl _), Nat.sub_self]; rfl⟩
    refine told_wp (x_sqOf (hH1.at z)) hx fun k1 => ?_
    rw [Z.app]
    simp_arith
    rw [ne_rd hx]
    simp_arith
    rw [x_tupS (x_sqOf ((hL1.app (U := [k1])).at z))]
    simp_arith
    refine told_wp (xs := xs) rfl hx fun k2 => ?_
    rw [Z.app]
    simp_arith
    rw [ne_rd hx]
    simp_arith
    rw [ne_lst (((hH1.app (U := [k1])).app (U := [k2])).at z) (((hL1.app (U := [k1])).app (U := [k2])).at z) hx]
    simp_arith
    generalize hT2 : T ++ [Cell.lst xs] ++ [k1] ++ [k2] = T2
    have hH2 : T2[T.length]? = some (Cell.lst xs) := by
      rw [← hT2, List.append_assoc, List.append_assoc, List.getElem?_append_right (Nat.le_refl _), Nat.sub_self]; rfl
    by_cases h40 : 40 < xs.length
    · have e : Rd xs = .tup [.str "count", .int xs.length] := by unfold Rd; rw [if_pos h40]
      rw [e, ix_t0]
      simp_arith [ne_ss, show decide ((Str.ofString "count") = Str.ofString "told") = false from by decide]
      exact rfl
    · cases hf : firstBad (-1) 0 xs with
      | some d =>
        have e : Rd xs = .tup [.str "steps", d] := by unfold Rd; rw [if_neg h40, hf]
        rw [e, ix_t0]
        simp_arith [ne_ss, show decide ((Str.ofString "steps") = Str.ofString "told") = false from by decide]
        exact rfl
      | none =>
        have e : Rd xs = .tup [.str "told", .tup xs] := by unfold Rd; rw [if_neg h40, hf]
        obtain ⟨qs, eqs, hpw⟩ := good_pairs hf
        rw [e, ix_t0]
        simp_arith [ne_ss, show decide ((Str.ofString "told") = Str.ofString "told") = true from by decide]
        refine make_wp (xs := xs) (x_sqOf (x_loc (show (z.st T2)[T.length + 2]? = some (Cell.lst xs) from hH2))) hx (fun _ _ => ?_) (fun h4 => absurd h4 h40) (fun d _ hd => by rw [hf] at hd; cases hd)
        rw [Z.app]
        simp_arith
        rw [x_pow (by decide)]
        simp_arith
        rw [x_pow (by decide)]
        have hl2 : T.length < T2.length := (List.getElem?_eq_some_iff.mp hH2).1
        have hH3 : (z.st (T2 ++ [Cell.dead]))[T.length + 2]? = some (Cell.lst xs) := by
          rw [Z.get, List.getElem?_append_left hl2]; exact hH2
        simp_arith [x_isT hH3]
        rw [x_app hH3 (size_ok (by omega))]
        simp_arith [Z.set]
        generalize (T2 ++ [Cell.dead]).set T.length _ = T3
        have hxe : ∀ {S : Sto}, oEq2 (!·) (.tup xs) (.tup xs) S = .ok (.bl false) S := fun {S} => ne_refl (n := 1) rfl hx (by decide)
        simp_arith [steps_wp, ix_t1]
        rw [hxe]
        simp_arith [steps_wp]
        rw [x_isi (n := 2) (d := .tup xs) (by show xs.all (pd 1) = true; exact List.all_eq_true.mpr hx) (by decide)]
        simp_arith [tyP, show isB "tuple" "tuple" = true from by decide, ix_t1]
        subst eqs
        refine asked_wp hz (by omega) hpw (by rw [List.length_map] at h40; omega) fun z3 U3 hz3 => ?_
        try simp_arith
        refine steps_wp2 hz3 (by omega) fun z4 rs hz4 hrl hrf => ?_
        generalize hT4 : T3 ++ U3 ++ [Cell.lst (rs.map pr)] = T4
        have hN : Lst T4 (.loc ((T3 ++ U3).length + 2)) (rs.map pr) := by
          rw [← hT4]
          exact .inr ⟨(T3 ++ U3).length, rfl, by rw [List.getElem?_append_right (Nat.le_refl _), Nat.sub_self]; rfl⟩
        generalize (T3 ++ U3).length + 2 = m at hN ⊢
        have hrx : ∀ x ∈ rs.map pr, pd 1 x = true := fun x hm => by
          obtain ⟨p, _, rfl⟩ := List.mem_map.mp hm
          rfl
        have hrl' : (rs.map pr).length ≤ 6 := by rw [List.length_map]; exact hrl
        generalize hb : (zipE rs qs && (rs.length == qs.length)) = b0
        have eRQ : ∀ {S : Sto}, eqD S 12 (.tup (rs.map pr)) (.tup (qs.map pr)) = some b0 := fun {S} => by rw [eq_tups, hb]
        have eQR : ∀ {S : Sto}, eqD S 12 (.tup (qs.map pr)) (.tup (rs.map pr)) = some b0 := fun {S} => by
          rw [eq_tups, zipE_sym, ← hb]
          have : (qs.length == rs.length) = (rs.length == qs.length) := by
            by_cases h : qs.length = rs.length
            · rw [h]
            · rw [beq_false_of_ne h, beq_false_of_ne (Ne.symm h)]
          rw [this]
        have eQQ : ∀ {S : Sto}, eqD S 12 (.tup (qs.map pr)) (.tup (qs.map pr)) = some true := fun {S} => eqD_tup (m := 11) (n := 1) hx (by decide)
        have oRQ : ∀ {S : Sto}, oEq2 id (.tup (rs.map pr)) (.tup (qs.map pr)) S = .ok (.bl b0) S := fun {S} => by
          show (match eqD S 12 (.tup (rs.map pr)) (.tup (qs.map pr)) with | some k => Res.ok (D.bl (id k)) S | none => .stk) = _
          rw [eRQ]
          rfl
        simp_arith
        rw [x_tupS (x_sqOf (hN.at z4))]
        simp_arith [ix_t1, oRQ]
        refine make_wp (xs := rs.map pr) (x_sqOf (hN.at z4)) hrx (fun _ _ => ?_) (fun h4 => absurd h4 (by omega)) (fun d _ hd => by rw [hrf] at hd; cases hd)
        rw [Z.app]
        simp_arith
        rw [own_eq eQR]
        simp_arith [ne_bb]
        refine make_wp (xs := rs.map pr) (x_sqOf ((hN.app (U := [Cell.dead])).at z4)) hrx (fun _ _ => ?_) (fun h4 => absurd h4 (by omega)) (fun d _ hd => by rw [hrf] at hd; cases hd)
        rw [Z.app]
        simp_arith
        rw [own_eq eRQ]
        simp_arith [ne_bb, ix_t1]
        rw [show ∀ S : Sto, oList (.tup (qs.map pr)) S = .ok (.lst (qs.map pr)) S from fun _ => rfl]
        simp_arith
        refine make_wp (xs := qs.map pr) rfl hx (fun _ _ => ?_) (fun h4 => absurd h4 h40) (fun d _ hd => by rw [hf] at hd; cases hd)
        rw [Z.app]
        simp_arith
        rw [own_eq eQQ]
        simp_arith [ix_t1]
        refine seq_wp (f := cVar 0) (Γ := []) rfl fun src5 e5 hg5 => ?_
        rw [g_kLc, e5]
        rw [cLoop_pure (fun _ => false) id hg5 _ [] (size_ok (by simp)) (fun x hm => by
          refine ⟨_, rfl, eqB_of_wp ?_, fun h => nomatch h⟩
          have hpd : pd 2 x = true := by
            simp only [List.mem_cons, List.mem_nil_iff, or_false] at hm
            rcases hm with rfl | rfl | rfl | rfl | rfl | rfl | rfl
            · rfl
            · rfl
            · rfl
            · rfl
            · rfl
            · rfl
            · show (qs.map pr).all (pd 1) = true
              exact List.all_eq_true.mpr hx
          simp_arith [wipeD]
          rw [own_ne hpd]
          simp_arith
          exact eqB_ok)]
        simp_arith [finL]
        rw [eq_nil rfl]
        simp_arith
        show D.bl _ = D.bl true
        simp
  · obtain ⟨z, T, p, xs, o3, rfl, hr2, h42, h84, hxl, hz, hL, hx, rfl⟩ := i
    simp only [List.length_cons] at hr2 h42 h84 hz
    refine ⟨_, rfl, ?_⟩
    simp_arith
    refine spoil_wp hz (by omega) hL (by omega) hx fun z' p' ys U hz' hL' hys hyl => ?_
    simp_arith
    have : r.length = 1 ∨ r.length = 0 := by omega
    refine ⟨z', T ++ U, p', ys, _, rfl, by omega, fun e => by omega, fun e => ?_, ?_, hz'.up (by omega), hL', hys, rfl⟩
    · have := h42 (by omega)
      omega
    · rcases this with e | e
      · have := h42 (by omega); omega
      · have := h84 (by omega); omega
end TP
namespace TP
open PySem PySem.Spec PyProof.Rows L2 DD
/-! ### from the mathematics to the law -/
def spL (K : PySem.W.Frag) : Sp := fun vs H Q _ => ∃ (a : Addr) (ns : List Int), vs = [.ref a] ∧ SqL K H a (ns.map V.int) ∧ ns.length ≤ 63 ∧ ∀ H', Q (.bl true) H'
theorem reps_of {c : Cm} {g : Gh} : ∀ ns : List Int, Reps c g (ns.map V.int) (ns.map D.int)
  | [] => .nil
  | n :: r => .cons (.int n) (reps_of r)
theorem sat0 {c : Cm} {H : Hp} : Sat c ⟨H, fun _ => none, fun _ => none⟩ H [] :=
  ⟨Same.refl H, fun n a e => (nomatch e), fun n a e => (nomatch e), fun n m a e => (nomatch e), fun n k e => (nomatch e), fun a o e => (nomatch e)⟩
section
variable {P : Program} {w : World} {mg : Str → Option Value} {base : Heap} {c : Cm}
theorem fn_law (L : Facts P w mg c) : FnOk P w c.K mg base (L2.CX P w) 9 L.p_law L.d_law ["_law_script"] (spL c.K) :=
  FnOk.imp (ok_law L) fun vs H Q E ⟨a, ns, e, hs, hl, q⟩ => by
    subst e
    refine ⟨⟨H, fun _ => none, fun _ => none⟩, [], [.wl (ns.map D.int)], rfl, sat0, .cons (.wl hs (reps_of ns)) .nil, ?_⟩
    have k := law_wp hl
    cases hr : f_law [.wl (ns.map D.int)] [] with
    | ok d S =>
      rw [hr] at k
      obtain rfl : d = .bl true := k
      intro v H' g' x s r
      cases r
      exact q H'
    | exc C fs S => rw [hr] at k; exact k.elim
    | stk => rw [hr] at k; exact k.elim
end
end TP
namespace TP
open PySem PySem.Spec PyProof.Rows L2 DD
/-! ### facts of a text by single tests -/
theorem ox_of {K : PySem.W.Frag} {C : Addr} {nm q N bs bm sn sub ab col dd k0 k1 k2 k3 k5} (l : K.lookup C = some (excClassObj nm q C N bs bm true sn sub ab col dd k0 k1 k2 k3 k5 "ValueError.__new__")) (r : PySem.HandSPX.refsVE bm = true) :
    ∃ nm q N bs bm sn sub ab col dd k0 k1 k2 k3 k5, K.lookup C = some (excClassObj nm q C N bs bm true sn sub ab col dd k0 k1 k2 k3 k5 "ValueError.__new__") ∧ PySem.HandSPX.refsVE bm = true := ⟨_, _, _, _, _, _, _, _, _, _, _, _, _, _, _, l, r⟩
theorem fn_of {K : PySem.W.Frag} {x qual : Str} {st : Stmt} {f : Addr} {oc : Value} {od an : Option Addr} {osl : Array (Option Value)} {kV doc pm cdv ct : Value} (l : K.lookup f = some ⟨oc, od, .func (PySem.W.fnOf x qual (defArgs st) (defBody st) (defScope st) .none kV doc pm an cdv ct), osl⟩)
    (c : PySem.W.codeIn K cdv qual = true) (k : PySem.W.keepIn K (.ref f) = true) : ∃ fd, Fun K x qual st f fd := ⟨_, fun_mk l c k⟩
theorem rec_of {K : PySem.W.Frag} {a g : Addr} {rest : List Value} (h : PySem.W.recIn K a "property" = some (.ref g :: rest)) : ∃ rest, PySem.W.recIn K a "property" = some (.ref g :: rest) := ⟨_, h⟩
def cmOf (l : List (Str × Addr)) : Str → Addr := fun s => (l.lookup s).getD 0
def xiB (K : PySem.W.Frag) (C fI : Addr) (f : Str) : Bool :=
  (PySem.W.findIn K (.ref C) "__getattribute__" == some (some (.builtin "BaseException.__getattribute__")) && PySem.W.findIn K (.ref C) "__getattr__" == some none && PySem.W.subIn K (.ref C) (.type "BaseException") == some true && PySem.W.hasDictIn K C) &&
  (PySem.W.keepIn K (.ref C) && PySem.W.findIn K (.ref C) "__setattr__" == some (some (.builtin "object.__setattr__")) && PySem.W.typeIn K (.ref C) == some (.type "type") && PySem.W.findIn K (.ref C) f == some none && PySem.W.typeIn K (.ref fI) == some (.type "function"))
theorem xiB_no {K : PySem.W.Frag} {C fI : Addr} {f : Str} (h : xiB K C fI f = true) : PySem.W.findIn K (.ref C) f = some none := by
  simp only [xiB, Bool.and_eq_true, beq_iff_eq] at h
  exact h.2.1.2
theorem xi_len {K : PySem.W.Frag} {f : Str} {vs : List V} {H : Hp} {Q : VK} {E : XK} (h : spXI K f vs H Q E) : vs.length = 2 := by
  obtain ⟨a, C, v, rfl, _⟩ := h
  rfl
theorem xi_rd {K : PySem.W.Frag} {f p : Str} {vs : List V} {H : Hp} {Q : VK} {E : XK} (h : spXI K f vs H Q E) : tOst K f (tVar 0) (tVar 1) { nx := fun _ H' => Q .non H', rt := Q } (start ["self", p] vs) H := by
  obtain ⟨a, C, v, rfl, ha, T, no, k⟩ := h
  exact ⟨v, rfl, .ref a, rfl, a, C, rfl, T, no, .inl ⟨ha, fun d hd ne => k d hd ne⟩⟩
theorem xcls_of {P : Program} {w : World} {mg : Str → Option Value} {base : Heap} {c : Cm} {x f : Str} {C fI : Addr} {fd : FuncData} {ps : List Str} (e : c.cm x = C) (g : mg x = some (.ref C))
    (o : ∃ nm q N bs bm sn sub ab col dd k0 k1 k2 k3 k5, c.K.lookup C = some (excClassObj nm q C N bs bm true sn sub ab col dd k0 k1 k2 k3 k5 "ValueError.__new__") ∧ PySem.HandSPX.refsVE bm = true) (j : PySem.W.findIn c.K (.ref C) "__init__" = some (some (.ref fI))) (b : xiB c.K C fI f = true)
    (F : FnOk P w c.K mg base CX0 1 fI fd ps (spXI c.K f)) (hb : L2.Binds c.K fd ps []) : XCls P w mg base c x f := by
  subst e
  have b0 := b
  simp only [xiB, Bool.and_eq_true, beq_iff_eq] at b
  obtain ⟨⟨⟨⟨h1, h2⟩, h3⟩, h4⟩, ⟨⟨⟨h5, h6⟩, h7⟩, h8⟩, h9⟩ := b
  exact ⟨⟨fI, fd, ps, ⟨o, h6, h3, h7, h5⟩, j, h9, h8, F, hb⟩, ⟨h1, h2, h3, h4⟩, g⟩
def exB2 (K : PySem.W.Frag) (l : List (Str × Addr)) : Bool := l.all fun a => l.all fun b => PySem.W.exmOne K (.ref a.2) (.ref b.2) == some (subE a.1 b.1)
theorem exf_of {c : Cm} {l : List (Str × Addr)} (e : ∀ p ∈ l, c.cm p.1 = p.2) (b : exB2 c.K l = true) : ExF c (l.map (·.1)) := fun C hC C0 hC0 => by
  obtain ⟨p, hp, rfl⟩ := List.mem_map.mp hC
  obtain ⟨q, hq, rfl⟩ := List.mem_map.mp hC0
  have h := List.all_eq_true.mp (List.all_eq_true.mp b p hp) q hq
  rw [e p hp, e q hq]
  exact beq_iff_eq.mp h
def propB (K : PySem.W.Frag) (a : Addr) : Bool := PySem.W.specialIn K (.ref a) "__get__" == some (some (.builtin "property.__get__")) && PySem.W.takesIn K (.ref a) == some true
theorem prop_of {K : PySem.W.Frag} {C a p : Addr} {f : Str} (h : PySem.W.findIn K (.ref C) f = some (some (.ref a))) (b : propB K a = true) (r : ∃ rest, PySem.W.recIn K a "property" = some (.ref p :: rest)) : PropOf K C f a p := by
  simp only [propB, Bool.and_eq_true, beq_iff_eq] at b
  exact ⟨h, b.1, b.2, r⟩
def ownB (K : PySem.W.Frag) (C f : Addr) : Bool :=
  (PySem.W.plainGet K C Str.empty && PySem.W.hasDictIn K C && PySem.W.plainOver K C && PySem.W.findIn K (.ref C) "__setattr__" == some (some (.builtin "object.__setattr__")) && PySem.W.keepIn K (.ref C) && PySem.W.makesIn K C) &&
  (PySem.W.findIn K (.ref C) "__ne__" == some (some (.builtin "object.__ne__")) && PySem.W.mroIn K C (.type "object") == some true && kinds.all (fun t => PySem.W.subIn K (.type t) (.ref C) == some false) && kinds.all (fun t => PySem.W.kitOne K (.type t) (.ref C) == some false) && PySem.W.kitOne K (.ref C) (.ref C) == some true) &&
  (PySem.W.findIn K (.ref C) "__class__" == some (some (.builtin "object.__class__")) && PySem.W.specialIn K (.builtin "object.__class__") "__get__" == some (some (.builtin "getset_descriptor.__get__")) && PySem.W.takesIn K (.builtin "object.__class__") == some true)
theorem ownB_ok {K : PySem.W.Frag} {C f : Addr} (b : ownB K C f = true) : L2.Cls K C ∧ PySem.W.keepIn K (.ref C) = true ∧ PySem.W.makesIn K C = true := by
  simp only [ownB, Bool.and_eq_true, beq_iff_eq] at b
  obtain ⟨⟨⟨⟨⟨⟨⟨h1, h2⟩, h3⟩, h4⟩, h5⟩, h6⟩, _⟩, _⟩ := b
  exact ⟨⟨h1, h2, h3, h4⟩, h5, h6⟩
theorem mk_of {K : PySem.W.Frag} {C f i : Addr} (b : ownB K C f = true) (a : PySem.W.findIn K (.ref C) "__init__" = some (some (.ref i))) (n : PySem.W.isFn K (.ref i) = true) : Mk K C i := ⟨(ownB_ok b).2.2, a, n, (ownB_ok b).2.1⟩
theorem eq_of {c : Cm} {Cn : Str} {C f : Addr} (e : c.cm Cn = C) (b : ownB c.K C f = true) (a : PySem.W.findIn c.K (.ref C) "__eq__" = some (some (.ref f))) (n : PySem.W.isFn c.K (.ref f) = true) : EqF c Cn f := by
  subst e
  simp only [ownB, Bool.and_eq_true, beq_iff_eq, List.all_eq_true] at b
  obtain ⟨⟨_, ⟨⟨⟨⟨h1, h2⟩, h3⟩, _⟩, _⟩⟩, _⟩ := b
  exact ⟨a, h1, n, h2, h3⟩
theorem isi_of {c : Cm} {Cn : Str} {C f : Addr} (e : c.cm Cn = C) (b : ownB c.K C f = true) : IsiF c [Cn] := by
  have cl := (ownB_ok b).1
  subst e
  simp only [ownB, Bool.and_eq_true, beq_iff_eq, List.all_eq_true] at b
  obtain ⟨⟨_, ⟨⟨⟨⟨_, h2⟩, _⟩, h4⟩, h5⟩⟩, ⟨⟨h6, h7⟩, h8⟩⟩ := b
  refine ⟨fun C hC t ht => ?_, fun C hC C' hC' => ?_, fun C hC H a dx fs ha => ?_⟩
  · rw [List.mem_singleton.mp hC]; exact h4 t ht
  · rw [List.mem_singleton.mp hC, List.mem_singleton.mp hC', h5]; simp
  · rw [List.mem_singleton.mp hC] at ha ⊢
    exact .base (.ins ha cl h6 h7 h8 h2)
theorem bind1 {K : PySem.W.Frag} {x qual : Str} {st : Stmt} {f : Addr} {fd : FuncData} {ps k : List Str} (F : Fun K x qual st f fd) (hk : k.length = 1)
    (h : ∀ (kV doc pm : Value) (an : Option Addr) (cdv ct : Value) (s : Shared) (u v : Value), BindsTo s (PySem.W.fnOf x qual (defArgs st) (defBody st) (defScope st) .none kV doc pm an cdv ct) ⟨[u], k.zip [v]⟩ (ps.zip [u, v])) : BindK K fd ps 1 k := fun s us ws _ h1 h2 => by
  obtain ⟨oc, od, kV, doc, pm, an, cdv, ct, osl, rfl, _, _⟩ := F.ex
  match us, ws, h1, h2.trans hk with
  | [u], [v], _, _ => exact h kV doc pm an cdv ct s u v
end TP
set_option maxHeartbeats 4000000
namespace TP
open PySem PySem.Spec PyProof.Rows L2 DD
theorem ok_i_BadCount {P : Program} {w : World} {K : PySem.W.Frag} {mg : Str → Option Value} {base : Heap} {f : Addr} {fd : FuncData} (F : Fun K "__init__" "BadCount.__init__" (inS 3 0) f fd) : FnOk P w K mg base CX0 1 f fd ["self", "count"] (spXI K "count") :=
  F.ok ⟨rfl, rfl, rfl, by decide +kernel, rfl, by decide +kernel, by decide +kernel⟩ (fun vs H Q E h => xi_len h) (fun cdv A outer s H vs Q E hr h => ⟨_, pss_one (ps_ost (pv 0) (pv 1)), xi_rd h⟩)
theorem ok_i_BadNumber {P : Program} {w : World} {K : PySem.W.Frag} {mg : Str → Option Value} {base : Heap} {f : Addr} {fd : FuncData} (F : Fun K "__init__" "BadNumber.__init__" (inS 5 0) f fd) : FnOk P w K mg base CX0 1 f fd ["self", "value"] (spXI K "value") :=
  F.ok ⟨rfl, rfl, rfl, by decide +kernel, rfl, by decide +kernel, by decide +kernel⟩ (fun vs H Q E h => xi_len h) (fun cdv A outer s H vs Q E hr h => ⟨_, pss_one (ps_ost (pv 0) (pv 1)), xi_rd h⟩)
theorem ok_i_BadSteps {P : Program} {w : World} {K : PySem.W.Frag} {mg : Str → Option Value} {base : Heap} {f : Addr} {fd : FuncData} (F : Fun K "__init__" "BadSteps.__init__" (inS 6 0) f fd) : FnOk P w K mg base CX0 1 f fd ["self", "value"] (spXI K "value") :=
  F.ok ⟨rfl, rfl, rfl, by decide +kernel, rfl, by decide +kernel, by decide +kernel⟩ (fun vs H Q E h => xi_len h) (fun cdv A outer s H vs Q E hr h => ⟨_, pss_one (ps_ost (pv 0) (pv 1)), xi_rd h⟩)
theorem all_mk {l : PySem.W.OpenLaw} {w : World} {K : PySem.W.Frag} {h : Heap} {mg : Str → Option Value} {fa p_l_start p_l_take p_l_steps p_l_is_pair p_l_spoiled p_l_is_number p_l_due p_check_count p_is_integer p_is_number p_is_step p_check_steps p_l_told p_l_shuffled p_l_latest p_l_at p_check_number p_cost_at p_l_ask p_l_asked_right p_law c_BadCount i_BadCount c_BadNumber i_BadNumber c_BadSteps i_BadSteps C_Cost p_Cost_steps a_Cost_steps p_Cost_init p_Cost_at p_Cost_latest p_Cost_eq : Addr} {t_MOST_STEPS : Tok} (X : K.In h) (G : h.Ns mainGlobals mg) (hfa : mg "law" = some (.ref fa))
    (A_l_start : PySem.W.nsIn K mainGlobals "_law_start" = some (some (.ref p_l_start)))
    (H_l_start : ∃ fd, Fun K "_law_start" "_law_start" s_l_start p_l_start fd)
    (A_l_take : PySem.W.nsIn K mainGlobals "_law_take" = some (some (.ref p_l_take)))
    (H_l_take : ∃ fd, Fun K "_law_take" "_law_take" s_l_take p_l_take fd)
    (A_l_steps : PySem.W.nsIn K mainGlobals "_law_steps" = some (some (.ref p_l_steps)))
    (H_l_steps : ∃ fd, Fun K "_law_steps" "_law_steps" s_l_steps p_l_steps fd)
    (A_l_is_pair : PySem.W.nsIn K mainGlobals "_law_is_pair" = some (some (.ref p_l_is_pair)))
    (H_l_is_pair : ∃ fd, Fun K "_law_is_pair" "_law_is_pair" s_l_is_pair p_l_is_pair fd)
    (A_l_spoiled : PySem.W.nsIn K mainGlobals "_law_spoiled" = some (some (.ref p_l_spoiled)))
    (H_l_spoiled : ∃ fd, Fun K "_law_spoiled" "_law_spoiled" s_l_spoiled p_l_spoiled fd)
    (A_l_is_number : PySem.W.nsIn K mainGlobals "_law_is_number" = some (some (.ref p_l_is_number)))
    (H_l_is_number : ∃ fd, Fun K "_law_is_number" "_law_is_number" s_l_is_number p_l_is_number fd)
    (A_l_due : PySem.W.nsIn K mainGlobals "_law_due" = some (some (.ref p_l_due)))
    (H_l_due : ∃ fd, Fun K "_law_due" "_law_due" s_l_due p_l_due fd)
    (A_check_count : PySem.W.nsIn K mainGlobals "check_count" = some (some (.ref p_check_count)))
    (H_check_count : ∃ fd, Fun K "check_count" "check_count" s_check_count p_check_count fd)
    (A_is_integer : PySem.W.nsIn K mainGlobals "is_integer" = some (some (.ref p_is_integer)))
    (H_is_integer : ∃ fd, Fun K "is_integer" "is_integer" s_is_integer p_is_integer fd)
    (A_is_number : PySem.W.nsIn K mainGlobals "is_number" = some (some (.ref p_is_number)))
    (H_is_number : ∃ fd, Fun K "is_number" "is_number" s_is_number p_is_number fd)
    (A_is_step : PySem.W.nsIn K mainGlobals "is_step" = some (some (.ref p_is_step)))
    (H_is_step : ∃ fd, Fun K "is_step" "is_step" s_is_step p_is_step fd)
    (A_check_steps : PySem.W.nsIn K mainGlobals "check_steps" = some (some (.ref p_check_steps)))
    (H_check_steps : ∃ fd, Fun K "check_steps" "check_steps" s_check_steps p_check_steps fd)
    (A_l_told : PySem.W.nsIn K mainGlobals "_law_told" = some (some (.ref p_l_told)))
    (H_l_told : ∃ fd, Fun K "_law_told" "_law_told" s_l_told p_l_told fd)
    (A_l_shuffled : PySem.W.nsIn K mainGlobals "_law_shuffled" = some (some (.ref p_l_shuffled)))
    (H_l_shuffled : ∃ fd, Fun K "_law_shuffled" "_law_shuffled" s_l_shuffled p_l_shuffled fd)
    (A_l_latest : PySem.W.nsIn K mainGlobals "_law_latest" = some (some (.ref p_l_latest)))
    (H_l_latest : ∃ fd, Fun K "_law_latest" "_law_latest" s_l_latest p_l_latest fd)
    (A_l_at : PySem.W.nsIn K mainGlobals "_law_at" = some (some (.ref p_l_at)))
    (H_l_at : ∃ fd, Fun K "_law_at" "_law_at" s_l_at p_l_at fd)
    (A_check_number : PySem.W.nsIn K mainGlobals "check_number" = some (some (.ref p_check_number)))
    (H_check_number : ∃ fd, Fun K "check_number" "check_number" s_check_number p_check_number fd)
    (A_cost_at : PySem.W.nsIn K mainGlobals "cost_at" = some (some (.ref p_cost_at)))
    (H_cost_at : ∃ fd, Fun K "cost_at" "cost_at" s_cost_at p_cost_at fd)
    (A_l_ask : PySem.W.nsIn K mainGlobals "_law_ask" = some (some (.ref p_l_ask)))
    (H_l_ask : ∃ fd, Fun K "_law_ask" "_law_ask" s_l_ask p_l_ask fd)
    (A_l_asked_right : PySem.W.nsIn K mainGlobals "_law_asked_right" = some (some (.ref p_l_asked_right)))
    (H_l_asked_right : ∃ fd, Fun K "_law_asked_right" "_law_asked_right" s_l_asked_right p_l_asked_right fd)
    (A_law : PySem.W.nsIn K mainGlobals "law" = some (some (.ref p_law)))
    (H_law : ∃ fd, Fun K "law" "law" s_law p_law fd)
    (g_BadCount : PySem.W.nsIn K mainGlobals "BadCount" = some (some (.ref c_BadCount)))
    (o_BadCount : ∃ nm q N bs bm sn sub ab col dd k0 k1 k2 k3 k5, K.lookup c_BadCount = some (excClassObj nm q c_BadCount N bs bm true sn sub ab col dd k0 k1 k2 k3 k5 "ValueError.__new__") ∧ PySem.HandSPX.refsVE bm = true)
    (j_BadCount : PySem.W.findIn K (.ref c_BadCount) "__init__" = some (some (.ref i_BadCount)))
    (b_BadCount : xiB K c_BadCount i_BadCount "count" = true)
    (F_BadCount : ∃ fd, Fun K "__init__" "BadCount.__init__" (inS 3 0) i_BadCount fd)
    (g_BadNumber : PySem.W.nsIn K mainGlobals "BadNumber" = some (some (.ref c_BadNumber)))
    (o_BadNumber : ∃ nm q N bs bm sn sub ab col dd k0 k1 k2 k3 k5, K.lookup c_BadNumber = some (excClassObj nm q c_BadNumber N bs bm true sn sub ab col dd k0 k1 k2 k3 k5 "ValueError.__new__") ∧ PySem.HandSPX.refsVE bm = true)
    (j_BadNumber : PySem.W.findIn K (.ref c_BadNumber) "__init__" = some (some (.ref i_BadNumber)))
    (b_BadNumber : xiB K c_BadNumber i_BadNumber "value" = true)
    (F_BadNumber : ∃ fd, Fun K "__init__" "BadNumber.__init__" (inS 5 0) i_BadNumber fd)
    (g_BadSteps : PySem.W.nsIn K mainGlobals "BadSteps" = some (some (.ref c_BadSteps)))
    (o_BadSteps : ∃ nm q N bs bm sn sub ab col dd k0 k1 k2 k3 k5, K.lookup c_BadSteps = some (excClassObj nm q c_BadSteps N bs bm true sn sub ab col dd k0 k1 k2 k3 k5 "ValueError.__new__") ∧ PySem.HandSPX.refsVE bm = true)
    (j_BadSteps : PySem.W.findIn K (.ref c_BadSteps) "__init__" = some (some (.ref i_BadSteps)))
    (b_BadSteps : xiB K c_BadSteps i_BadSteps "value" = true)
    (F_BadSteps : ∃ fd, Fun K "__init__" "BadSteps.__init__" (inS 6 0) i_BadSteps fd)
    (g_Cost : PySem.W.nsIn K mainGlobals "Cost" = some (some (.ref C_Cost)))
    (A_Cost_steps : PySem.W.findIn K (.ref C_Cost) "steps" = some (some (.ref a_Cost_steps)))
    (R_Cost_steps : ∃ rest, PySem.W.recIn K a_Cost_steps "property" = some (.ref p_Cost_steps :: rest))
    (B_Cost_steps : propB K a_Cost_steps = true)
    (H_Cost_steps : ∃ fd, Fun K "steps" "Cost.steps" s_Cost_steps p_Cost_steps fd)
    (I_Cost_steps : PySem.W.isFn K (.ref p_Cost_steps) = true)
    (A_Cost_init : PySem.W.findIn K (.ref C_Cost) "__init__" = some (some (.ref p_Cost_init)))
    (H_Cost_init : ∃ fd, Fun K "__init__" "Cost.__init__" s_Cost_init p_Cost_init fd)
    (I_Cost_init : PySem.W.isFn K (.ref p_Cost_init) = true)
    (A_Cost_at : PySem.W.findIn K (.ref C_Cost) "at" = some (some (.ref p_Cost_at)))
    (H_Cost_at : ∃ fd, Fun K "at" "Cost.at" s_Cost_at p_Cost_at fd)
    (I_Cost_at : PySem.W.isFn K (.ref p_Cost_at) = true)
    (A_Cost_latest : PySem.W.findIn K (.ref C_Cost) "latest" = some (some (.ref p_Cost_latest)))
    (H_Cost_latest : ∃ fd, Fun K "latest" "Cost.latest" s_Cost_latest p_Cost_latest fd)
    (I_Cost_latest : PySem.W.isFn K (.ref p_Cost_latest) = true)
    (A_Cost_eq : PySem.W.findIn K (.ref C_Cost) "__eq__" = some (some (.ref p_Cost_eq)))
    (H_Cost_eq : ∃ fd, Fun K "__eq__" "Cost.__eq__" s_Cost_eq p_Cost_eq fd)
    (I_Cost_eq : PySem.W.isFn K (.ref p_Cost_eq) = true)
    (B_Cost : ownB K C_Cost p_Cost_eq = true)
    (N_steps : PySem.W.findIn K (.ref C_Cost) "_steps" = some none)
    (B_ex : exB2 K [("BadCount", c_BadCount), ("BadNumber", c_BadNumber), ("BadSteps", c_BadSteps)] = true)
    (z_abs : PySem.W.nsIn K mainGlobals "abs" = some none)
    (z_bool : PySem.W.nsIn K mainGlobals "bool" = some none)
    (z_int : PySem.W.nsIn K mainGlobals "int" = some none)
    (z_isinstance : PySem.W.nsIn K mainGlobals "isinstance" = some none)
    (z_len : PySem.W.nsIn K mainGlobals "len" = some none)
    (z_list : PySem.W.nsIn K mainGlobals "list" = some none)
    (z_max : PySem.W.nsIn K mainGlobals "max" = some none)
    (z_range : PySem.W.nsIn K mainGlobals "range" = some none)
    (z_tuple : PySem.W.nsIn K mainGlobals "tuple" = some none)
    (G_MOST_STEPS : PySem.W.nsIn K mainGlobals "MOST_STEPS" = some (some (.int 40 t_MOST_STEPS))) :
    ∃ fd : FuncData, (∀ (s : Shared) (v : Value), BindsTo s fd ⟨[v], []⟩ [("_law_script", v)]) ∧ ∀ base : Heap, K.In base → base.Ns mainGlobals mg → FnOk l.prog w K mg base (L2.CX l.prog w) 9 fa fd ["_law_script"] (spL K) := by
  have e := hfa.symm.trans (PySem.W.mg_of X G A_law)
  cases e
  obtain ⟨d_l_start, H_l_start⟩ := H_l_start
  obtain ⟨d_l_take, H_l_take⟩ := H_l_take
  obtain ⟨d_l_steps, H_l_steps⟩ := H_l_steps
  obtain ⟨d_l_is_pair, H_l_is_pair⟩ := H_l_is_pair
  obtain ⟨d_l_spoiled, H_l_spoiled⟩ := H_l_spoiled
  obtain ⟨d_l_is_number, H_l_is_number⟩ := H_l_is_number
  obtain ⟨d_l_due, H_l_due⟩ := H_l_due
  obtain ⟨d_check_count, H_check_count⟩ := H_check_count
  obtain ⟨d_is_integer, H_is_integer⟩ := H_is_integer
  obtain ⟨d_is_number, H_is_number⟩ := H_is_number
  obtain ⟨d_is_step, H_is_step⟩ := H_is_step
  obtain ⟨d_check_steps, H_check_steps⟩ := H_check_steps
  obtain ⟨d_l_told, H_l_told⟩ := H_l_told
  obtain ⟨d_l_shuffled, H_l_shuffled⟩ := H_l_shuffled
  obtain ⟨d_l_latest, H_l_latest⟩ := H_l_latest
  obtain ⟨d_l_at, H_l_at⟩ := H_l_at
  obtain ⟨d_check_number, H_check_number⟩ := H_check_number
  obtain ⟨d_cost_at, H_cost_at⟩ := H_cost_at
  obtain ⟨d_l_ask, H_l_ask⟩ := H_l_ask
  obtain ⟨d_l_asked_right, H_l_asked_right⟩ := H_l_asked_right
  obtain ⟨d_law, H_law⟩ := H_law
  obtain ⟨d_Cost_steps, H_Cost_steps⟩ := H_Cost_steps
  obtain ⟨d_Cost_init, H_Cost_init⟩ := H_Cost_init
  obtain ⟨d_Cost_at, H_Cost_at⟩ := H_Cost_at
  obtain ⟨d_Cost_latest, H_Cost_latest⟩ := H_Cost_latest
  obtain ⟨d_Cost_eq, H_Cost_eq⟩ := H_Cost_eq
  obtain ⟨fd_BadCount, F_BadCount⟩ := F_BadCount
  obtain ⟨fd_BadNumber, F_BadNumber⟩ := F_BadNumber
  obtain ⟨fd_BadSteps, F_BadSteps⟩ := F_BadSteps
  let c : Cm := ⟨K, cmOf [("BadCount", c_BadCount), ("BadNumber", c_BadNumber), ("BadSteps", c_BadSteps), ("Cost", C_Cost)]⟩
  obtain ⟨cls, kcls, nocls⟩ := ownB_ok B_Cost
  let F : Facts l.prog w mg c := {
      z_abs := PySem.W.mg_none_of X G z_abs
      z_bool := PySem.W.mg_none_of X G z_bool
      z_int := PySem.W.mg_none_of X G z_int
      z_isinstance := PySem.W.mg_none_of X G z_isinstance
      z_len := PySem.W.mg_none_of X G z_len
      z_list := PySem.W.mg_none_of X G z_list
      z_max := PySem.W.mg_none_of X G z_max
      z_range := PySem.W.mg_none_of X G z_range
      z_tuple := PySem.W.mg_none_of X G z_tuple
      g_MOST_STEPS := ⟨_, PySem.W.mg_of X G G_MOST_STEPS⟩
      c_BadCount := PySem.W.mg_of X G g_BadCount
      x_BadCount := fun base => xcls_of (c := c) (C := c_BadCount) rfl (PySem.W.mg_of X G g_BadCount) o_BadCount j_BadCount b_BadCount (ok_i_BadCount F_BadCount) (F_BadCount.binds (ps := ["self", "count"]) fun _ _ _ _ _ _ us hl => match us, hl with | [_, _], _ => rfl)
      n_BadCount := (xiB_no b_BadCount)
      c_BadNumber := PySem.W.mg_of X G g_BadNumber
      x_BadNumber := fun base => xcls_of (c := c) (C := c_BadNumber) rfl (PySem.W.mg_of X G g_BadNumber) o_BadNumber j_BadNumber b_BadNumber (ok_i_BadNumber F_BadNumber) (F_BadNumber.binds (ps := ["self", "value"]) fun _ _ _ _ _ _ us hl => match us, hl with | [_, _], _ => rfl)
      n_BadNumber := (xiB_no b_BadNumber)
      c_BadSteps := PySem.W.mg_of X G g_BadSteps
      x_BadSteps := fun base => xcls_of (c := c) (C := c_BadSteps) rfl (PySem.W.mg_of X G g_BadSteps) o_BadSteps j_BadSteps b_BadSteps (ok_i_BadSteps F_BadSteps) (F_BadSteps.binds (ps := ["self", "value"]) fun _ _ _ _ _ _ us hl => match us, hl with | [_, _], _ => rfl)
      n_BadSteps := (xiB_no b_BadSteps)
      exf := exf_of (c := c) (l := [("BadCount", c_BadCount), ("BadNumber", c_BadNumber), ("BadSteps", c_BadSteps)]) (by intro p hp; simp only [List.mem_cons, List.mem_nil_iff, or_false] at hp; rcases hp with rfl | rfl | rfl <;> rfl) B_ex
      isi := isi_of (c := c) (Cn := "Cost") (C := C_Cost) rfl B_Cost
      c_Cost := PySem.W.mg_of X G g_Cost
      f_steps := fun D hD => by
        rw [List.mem_singleton.mp hD]
        exact ⟨cls, N_steps⟩
      p_l_start := p_l_start
      d_l_start := d_l_start
      l_start := ⟨H_l_start, H_l_start.binds (ps := ["_law_script"]) fun _ _ _ _ _ _ us hl => match us, hl with | [_], _ => rfl, PySem.W.mg_of X G A_l_start, H_l_start.kp⟩
      p_l_take := p_l_take
      d_l_take := d_l_take
      l_take := ⟨H_l_take, H_l_take.binds (ps := ["_law_state", "_law_limit"]) fun _ _ _ _ _ _ us hl => match us, hl with | [_, _], _ => rfl, PySem.W.mg_of X G A_l_take, H_l_take.kp⟩
      p_l_steps := p_l_steps
      d_l_steps := d_l_steps
      l_steps := ⟨H_l_steps, H_l_steps.binds (ps := ["_law_state"]) fun _ _ _ _ _ _ us hl => match us, hl with | [_], _ => rfl, PySem.W.mg_of X G A_l_steps, H_l_steps.kp⟩
      p_l_is_pair := p_l_is_pair
      d_l_is_pair := d_l_is_pair
      l_is_pair := ⟨H_l_is_pair, H_l_is_pair.binds (ps := ["_law_item"]) fun _ _ _ _ _ _ us hl => match us, hl with | [_], _ => rfl, PySem.W.mg_of X G A_l_is_pair, H_l_is_pair.kp⟩
      p_l_spoiled := p_l_spoiled
      d_l_spoiled := d_l_spoiled
      l_spoiled := ⟨H_l_spoiled, H_l_spoiled.binds (ps := ["_law_state", "_law_pairs"]) fun _ _ _ _ _ _ us hl => match us, hl with | [_, _], _ => rfl, PySem.W.mg_of X G A_l_spoiled, H_l_spoiled.kp⟩
      p_l_is_number := p_l_is_number
      d_l_is_number := d_l_is_number
      l_is_number := ⟨H_l_is_number, H_l_is_number.binds (ps := ["_law_value"]) fun _ _ _ _ _ _ us hl => match us, hl with | [_], _ => rfl, PySem.W.mg_of X G A_l_is_number, H_l_is_number.kp⟩
      p_l_due := p_l_due
      d_l_due := d_l_due
      l_due := ⟨H_l_due, H_l_due.binds (ps := ["_law_pairs1"]) fun _ _ _ _ _ _ us hl => match us, hl with | [_], _ => rfl, PySem.W.mg_of X G A_l_due, H_l_due.kp⟩
      p_check_count := p_check_count
      d_check_count := d_check_count
      check_count := ⟨H_check_count, H_check_count.binds (ps := ["count", "least", "most"]) fun _ _ _ _ _ _ us hl => match us, hl with | [_, _, _], _ => rfl, PySem.W.mg_of X G A_check_count, H_check_count.kp⟩
      p_is_integer := p_is_integer
      d_is_integer := d_is_integer
      is_integer := ⟨H_is_integer, H_is_integer.binds (ps := ["value"]) fun _ _ _ _ _ _ us hl => match us, hl with | [_], _ => rfl, PySem.W.mg_of X G A_is_integer, H_is_integer.kp⟩
      p_is_number := p_is_number
      d_is_number := d_is_number
      is_number := ⟨H_is_number, H_is_number.binds (ps := ["value"]) fun _ _ _ _ _ _ us hl => match us, hl with | [_], _ => rfl, PySem.W.mg_of X G A_is_number, H_is_number.kp⟩
      p_is_step := p_is_step
      d_is_step := d_is_step
      is_step := ⟨H_is_step, H_is_step.binds (ps := ["value", "before"]) fun _ _ _ _ _ _ us hl => match us, hl with | [_, _], _ => rfl, PySem.W.mg_of X G A_is_step, H_is_step.kp⟩
      p_check_steps := p_check_steps
      d_check_steps := d_check_steps
      check_steps := ⟨H_check_steps, H_check_steps.binds (ps := ["steps"]) fun _ _ _ _ _ _ us hl => match us, hl with | [_], _ => rfl, PySem.W.mg_of X G A_check_steps, H_check_steps.kp⟩
      p_l_told := p_l_told
      d_l_told := d_l_told
      l_told := ⟨H_l_told, H_l_told.binds (ps := ["_law_way", "_law_pairs"]) fun _ _ _ _ _ _ us hl => match us, hl with | [_, _], _ => rfl, PySem.W.mg_of X G A_l_told, H_l_told.kp⟩
      p_l_shuffled := p_l_shuffled
      d_l_shuffled := d_l_shuffled
      l_shuffled := ⟨H_l_shuffled, H_l_shuffled.binds (ps := ["_law_state", "_law_items"]) fun _ _ _ _ _ _ us hl => match us, hl with | [_, _], _ => rfl, PySem.W.mg_of X G A_l_shuffled, H_l_shuffled.kp⟩
      p_l_latest := p_l_latest
      d_l_latest := d_l_latest
      l_latest := ⟨H_l_latest, H_l_latest.binds (ps := ["_law_pairs", "_law_limit1"]) fun _ _ _ _ _ _ us hl => match us, hl with | [_, _], _ => rfl, PySem.W.mg_of X G A_l_latest, H_l_latest.kp⟩
      p_l_at := p_l_at
      d_l_at := d_l_at
      l_at := ⟨H_l_at, H_l_at.binds (ps := ["_law_pairs1", "_law_begin1"]) fun _ _ _ _ _ _ us hl => match us, hl with | [_, _], _ => rfl, PySem.W.mg_of X G A_l_at, H_l_at.kp⟩
      p_check_number := p_check_number
      d_check_number := d_check_number
      check_number := ⟨H_check_number, H_check_number.binds (ps := ["value"]) fun _ _ _ _ _ _ us hl => match us, hl with | [_], _ => rfl, PySem.W.mg_of X G A_check_number, H_check_number.kp⟩
      p_cost_at := p_cost_at
      d_cost_at := d_cost_at
      cost_at := ⟨H_cost_at, H_cost_at.binds (ps := ["steps", "time"]) fun _ _ _ _ _ _ us hl => match us, hl with | [_, _], _ => rfl, PySem.W.mg_of X G A_cost_at, H_cost_at.kp⟩
      p_l_ask := p_l_ask
      d_l_ask := d_l_ask
      l_ask := ⟨H_l_ask, H_l_ask.binds (ps := ["_law_way", "_law_cost", "_law_number"]) fun _ _ _ _ _ _ us hl => match us, hl with | [_, _, _], _ => rfl, PySem.W.mg_of X G A_l_ask, H_l_ask.kp⟩
      p_l_asked_right := p_l_asked_right
      d_l_asked_right := d_l_asked_right
      l_asked_right := ⟨H_l_asked_right, H_l_asked_right.binds (ps := ["_law_state", "_law_pairs", "_law_cost"]) fun _ _ _ _ _ _ us hl => match us, hl with | [_, _, _], _ => rfl, PySem.W.mg_of X G A_l_asked_right, H_l_asked_right.kp⟩
      p_law := fa
      d_law := d_law
      law := ⟨H_law, H_law.binds (ps := ["_law_script"]) fun _ _ _ _ _ _ us hl => match us, hl with | [_], _ => rfl, PySem.W.mg_of X G A_law, H_law.kp⟩
      p_Cost_steps := p_Cost_steps
      d_Cost_steps := d_Cost_steps
      Cost_steps := ⟨H_Cost_steps, H_Cost_steps.binds (ps := ["self"]) fun _ _ _ _ _ _ us hl => match us, hl with | [_], _ => rfl⟩
      a_Cost_steps := a_Cost_steps
      q_Cost_steps := prop_of A_Cost_steps B_Cost_steps R_Cost_steps
      p_Cost_init := p_Cost_init
      d_Cost_init := d_Cost_init
      Cost_init := ⟨H_Cost_init, H_Cost_init.binds (ps := ["self", "steps"]) fun _ _ _ _ _ _ us hl => match us, hl with | [_, _], _ => rfl⟩
      mk_Cost := mk_of B_Cost A_Cost_init I_Cost_init
      b1_Cost_init := bind1 H_Cost_init rfl fun _ _ _ _ _ _ _ _ _ => .of_eq rfl
      p_Cost_at := p_Cost_at
      d_Cost_at := d_Cost_at
      Cost_at := ⟨H_Cost_at, H_Cost_at.binds (ps := ["self", "time"]) fun _ _ _ _ _ _ us hl => match us, hl with | [_, _], _ => rfl⟩
      m_Cost_at := ⟨A_Cost_at, I_Cost_at, H_Cost_at.kp⟩
      b1_Cost_at := bind1 H_Cost_at rfl fun _ _ _ _ _ _ _ _ _ => .of_eq rfl
      p_Cost_latest := p_Cost_latest
      d_Cost_latest := d_Cost_latest
      Cost_latest := ⟨H_Cost_latest, H_Cost_latest.binds (ps := ["self", "bound"]) fun _ _ _ _ _ _ us hl => match us, hl with | [_, _], _ => rfl⟩
      m_Cost_latest := ⟨A_Cost_latest, I_Cost_latest, H_Cost_latest.kp⟩
      b1_Cost_latest := bind1 H_Cost_latest rfl fun _ _ _ _ _ _ _ _ _ => .of_eq rfl
      p_Cost_eq := p_Cost_eq
      d_Cost_eq := d_Cost_eq
      Cost_eq := ⟨H_Cost_eq, H_Cost_eq.binds (ps := ["self", "other"]) fun _ _ _ _ _ _ us hl => match us, hl with | [_, _], _ => rfl⟩
      eq_Cost := eq_of (c := c) (Cn := "Cost") (C := C_Cost) rfl B_Cost A_Cost_eq I_Cost_eq
      cls_Cost := cls }
  exact ⟨d_law, fun s v => by
    have b := H_law.binds (ps := ["_law_script"]) fun _ _ _ _ _ _ us hl => match us, hl with | [_], _ => rfl
    have k := (H_law.ex)
    obtain ⟨oc, od, kV, doc, pm, an, cdv, ct, osl, rfl, _, _⟩ := k
    exact .of_eq rfl, fun base _ _ => fn_law F⟩
end TP
open PySem PySem.W PyProof.Rows
set_option maxHeartbeats 0 in
theorem PySem.Challenge.cw_tailpick_k30_costs_holds : PySem.Challenge.rw_tailpick_k30_costs.Holds := by
  w_on; o_law; k_head; (case hw => w_witness2)
  k_fill
  refine L2.walk_of (l := PySem.Challenge.rw_tailpick_k30_costs) (n := 63) (k := 9) (x := "_law_script") (CX := fun w => L2.CX PySem.Challenge.rw_tailpick_k30_costs.prog w) (sp := fun w => TP.spL _) rfl (by decide) rfl ⟨rfl, by decide, by decide⟩ (fun w h Y => PySem.W.kIn_of Y) ?F (fun _ _ a ns hl _ hS => ⟨a, ns, rfl, hS, hl, fun _ => rfl⟩) (fun _ _ _ _ _ ⟨_, _, _, _, _, _, _, _, _, _, _, _, z⟩ => z)
  case F =>
    intro w mg fa h KX G hmg
    refine' TP.all_mk KX G hmg ?A_l_start ?H_l_start ?A_l_take ?H_l_take ?A_l_steps ?H_l_steps ?A_l_is_pair ?H_l_is_pair ?A_l_spoiled ?H_l_spoiled ?A_l_is_number ?H_l_is_number ?A_l_due ?H_l_due ?A_check_count ?H_check_count ?A_is_integer ?H_is_integer ?A_is_number ?H_is_number ?A_is_step ?H_is_step ?A_check_steps ?H_check_steps ?A_l_told ?H_l_told ?A_l_shuffled ?H_l_shuffled ?A_l_latest ?H_l_latest ?A_l_at ?H_l_at ?A_check_number ?H_check_number ?A_cost_at ?H_cost_at ?A_l_ask ?H_l_ask ?A_l_asked_right ?H_l_asked_right ?A_law ?H_law ?g_BadCount ?o_BadCount ?j_BadCount ?b_BadCount ?F_BadCount ?g_BadNumber ?o_BadNumber ?j_BadNumber ?b_BadNumber ?F_BadNumber ?g_BadSteps ?o_BadSteps ?j_BadSteps ?b_BadSteps ?F_BadSteps ?g_Cost ?A_Cost_steps ?R_Cost_steps ?B_Cost_steps ?H_Cost_steps ?I_Cost_steps ?A_Cost_init ?H_Cost_init ?I_Cost_init ?A_Cost_at ?H_Cost_at ?I_Cost_at ?A_Cost_latest ?H_Cost_latest ?I_Cost_latest ?A_Cost_eq ?H_Cost_eq ?I_Cost_eq ?B_Cost ?N_steps ?B_ex ?z_abs ?z_bool ?z_int ?z_isinstance ?z_len ?z_list ?z_max ?z_range ?z_tuple ?G_MOST_STEPS
    (case A_l_start => k_is)
    (case H_l_start => refine' TP.fn_of ?l ?c ?k; (case l => k_is); (case c => k_is); (case k => k_is))
    (case A_l_take => k_is)
    (case H_l_take => refine' TP.fn_of ?l ?c ?k; (case l => k_is); (case c => k_is); (case k => k_is))
    (case A_l_steps => k_is)
    (case H_l_steps => refine' TP.fn_of ?l ?c ?k; (case l => k_is); (case c => k_is); (case k => k_is))
    (case A_l_is_pair => k_is)
    (case H_l_is_pair => refine' TP.fn_of ?l ?c ?k; (case l => k_is); (case c => k_is); (case k => k_is))
    (case A_l_spoiled => k_is)
    (case H_l_spoiled => refine' TP.fn_of ?l ?c ?k; (case l => k_is); (case c => k_is); (case k => k_is))
    (case A_l_is_number => k_is)
    (case H_l_is_number => refine' TP.fn_of ?l ?c ?k; (case l => k_is); (case c => k_is); (case k => k_is))
    (case A_l_due => k_is)
    (case H_l_due => refine' TP.fn_of ?l ?c ?k; (case l => k_is); (case c => k_is); (case k => k_is))
    (case A_check_count => k_is)
    (case H_check_count => refine' TP.fn_of ?l ?c ?k; (case l => k_is); (case c => k_is); (case k => k_is))
    (case A_is_integer => k_is)
    (case H_is_integer => refine' TP.fn_of ?l ?c ?k; (case l => k_is); (case c => k_is); (case k => k_is))
    (case A_is_number => k_is)
    (case H_is_number => refine' TP.fn_of ?l ?c ?k; (case l => k_is); (case c => k_is); (case k => k_is))
    (case A_is_step => k_is)
    (case H_is_step => refine' TP.fn_of ?l ?c ?k; (case l => k_is); (case c => k_is); (case k => k_is))
    (case A_check_steps => k_is)
    (case H_check_steps => refine' TP.fn_of ?l ?c ?k; (case l => k_is); (case c => k_is); (case k => k_is))
    (case A_l_told => k_is)
    (case H_l_told => refine' TP.fn_of ?l ?c ?k; (case l => k_is); (case c => k_is); (case k => k_is))
    (case A_l_shuffled => k_is)
    (case H_l_shuffled => refine' TP.fn_of ?l ?c ?k; (case l => k_is); (case c => k_is); (case k => k_is))
    (case A_l_latest => k_is)
    (case H_l_latest => refine' TP.fn_of ?l ?c ?k; (case l => k_is); (case c => k_is); (case k => k_is))
    (case A_l_at => k_is)
    (case H_l_at => refine' TP.fn_of ?l ?c ?k; (case l => k_is); (case c => k_is); (case k => k_is))
    (case A_check_number => k_is)
    (case H_check_number => refine' TP.fn_of ?l ?c ?k; (case l => k_is); (case c => k_is); (case k => k_is))
    (case A_cost_at => k_is)
    (case H_cost_at => refine' TP.fn_of ?l ?c ?k; (case l => k_is); (case c => k_is); (case k => k_is))
    (case A_l_ask => k_is)
    (case H_l_ask => refine' TP.fn_of ?l ?c ?k; (case l => k_is); (case c => k_is); (case k => k_is))
    (case A_l_asked_right => k_is)
    (case H_l_asked_right => refine' TP.fn_of ?l ?c ?k; (case l => k_is); (case c => k_is); (case k => k_is))
    (case A_law => k_is)
    (case H_law => refine' TP.fn_of ?l ?c ?k; (case l => k_is); (case c => k_is); (case k => k_is))
    (case g_BadCount => k_is)
    (case o_BadCount => refine' TP.ox_of ?l ?r; (case l => k_is); (case r => kernel_rfl))
    (case j_BadCount => k_is)
    (case b_BadCount => kernel_rfl)
    (case F_BadCount => refine' TP.fn_of ?l ?c ?k; (case l => k_is); (case c => k_is); (case k => k_is))
    (case g_BadNumber => k_is)
    (case o_BadNumber => refine' TP.ox_of ?l ?r; (case l => k_is); (case r => kernel_rfl))
    (case j_BadNumber => k_is)
    (case b_BadNumber => kernel_rfl)
    (case F_BadNumber => refine' TP.fn_of ?l ?c ?k; (case l => k_is); (case c => k_is); (case k => k_is))
    (case g_BadSteps => k_is)
    (case o_BadSteps => refine' TP.ox_of ?l ?r; (case l => k_is); (case r => kernel_rfl))
    (case j_BadSteps => k_is)
    (case b_BadSteps => kernel_rfl)
    (case F_BadSteps => refine' TP.fn_of ?l ?c ?k; (case l => k_is); (case c => k_is); (case k => k_is))
    (case g_Cost => k_is)
    (case A_Cost_steps => k_is)
    (case R_Cost_steps => refine' TP.rec_of ?l; (case l => k_is))
    (case B_Cost_steps => kernel_rfl)
    (case H_Cost_steps => refine' TP.fn_of ?l ?c ?k; (case l => k_is); (case c => k_is); (case k => k_is))
    (case I_Cost_steps => k_is)
    (case A_Cost_init => k_is)
    (case H_Cost_init => refine' TP.fn_of ?l ?c ?k; (case l => k_is); (case c => k_is); (case k => k_is))
    (case I_Cost_init => k_is)
    (case A_Cost_at => k_is)
    (case H_Cost_at => refine' TP.fn_of ?l ?c ?k; (case l => k_is); (case c => k_is); (case k => k_is))
    (case I_Cost_at => k_is)
    (case A_Cost_latest => k_is)
    (case H_Cost_latest => refine' TP.fn_of ?l ?c ?k; (case l => k_is); (case c => k_is); (case k => k_is))
    (case I_Cost_latest => k_is)
    (case A_Cost_eq => k_is)
    (case H_Cost_eq => refine' TP.fn_of ?l ?c ?k; (case l => k_is); (case c => k_is); (case k => k_is))
    (case I_Cost_eq => k_is)
    (case B_Cost => kernel_rfl)
    (case N_steps => k_is)
    (case B_ex => kernel_rfl)
    (case z_abs => k_is)
    (case z_bool => k_is)
    (case z_int => k_is)
    (case z_isinstance => k_is)
    (case z_len => k_is)
    (case z_list => k_is)
    (case z_max => k_is)
    (case z_range => k_is)
    (case z_tuple => k_is)
    (case G_MOST_STEPS => k_is)
