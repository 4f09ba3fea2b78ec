import PyProof.Rows.All
import Wide.All
import OpenK.AllK
import Wide.FinOn
import HandS.Base
import HandS.Call
import HandS.List
import HandS.ForMost
import HandS.Exc
import HandS.ExcOwn
import HandS.TryOnly
import HandS.WordsExc
import HandS.IsInst
import HandS.Conv
import HandS.Zip
import KE.DataEq
import HandS.TupAny
import HandS.TupMul
import HandS.SortInts
import HandS.WideBits
import HandS.Style
import HandS.Strs
import PyProof.TupleOfSeq
import KE.KSortedM
import PySem.Challenge.RW_tiedanew_k25_whole_judged_rings
set_option Elab.async false
set_option linter.all false
set_option maxRecDepth 100000
set_option maxHeartbeats 4000000
/-! TN: what the code of a pure def comes to, told over trees of data. -/
namespace TN
open PySem PySem.Spec PyProof.Rows L2

/-! ### data -/
inductive D where
  | non | bl (b : Bool) | int (i : Int) | str (x : Str)
  | tup (xs : List D) | lst (xs : List D) | scr (xs : List Int) | dct
  | obj (c : Nat) (fs : List D) | ty (n : String) | cls (c : Nat)
  deriving Inhabited

/-- classes by number: the address, the names of the attributes -/
abbrev Cl := Nat → Addr × List Str

def Ex (H H' : Hp) : Prop := ∀ a o, H a = some o → H' a = some o
theorem Ex.refl (H : Hp) : Ex H H := fun _ _ h => h
theorem Ex.trans {H H1 H2 : Hp} (a : Ex H H1) (b : Ex H1 H2) : Ex H H2 := fun x o h => b x o (a x o h)
theorem Ex.new {H : Hp} {p : Addr} {o : HO} (h : H p = none) : Ex H (upd H p o) := fun a u e => by
  rw [upd_ne (ne_of_none e h)]
  exact e
theorem Ex.newR {H H' : Hp} {p : Addr} {o : HO} (e : Ex H H') (h : H p = none) : Ex H (upd H' p o) := fun a u ha => by
  rw [upd_ne (ne_of_none ha h)]
  exact e a u ha
theorem Ex.both {G H : Hp} {p : Addr} {o : HO} (e : Ex G H) : Ex (upd G p o) (upd H p o) := fun a u ha => by
  by_cases q : a = p
  · subst q; rw [upd_same] at ha ⊢; exact ha
  · rw [upd_ne q] at ha ⊢; exact e a u ha
theorem Ex.put {G H : Hp} {p : Addr} {o : HO} (e : Ex G H) (h : H p = some o) : Ex (upd G p o) H := fun a u ha => by
  by_cases q : a = p
  · subst q; rw [upd_same] at ha; rw [h]; exact ha
  · rw [upd_ne q] at ha; exact e a u ha
theorem Ex.nn {G H : Hp} {p : Addr} (e : Ex G H) (h : H p = none) : G p = none := by
  cases q : G p with
  | none => rfl
  | some o => rw [e p o q] at h; cases h
theorem ex_t {K : PySem.W.Frag} {H H' : Hp} {a : Addr} {xs : List V} (e : Ex H H') (h : SqT K H a xs) : SqT K H' a xs := by
  rcases h with (h | ⟨o, h⟩) | h
  · exact .inl (.inl (e a _ h))
  · exact .inl (.inr ⟨o, e a _ h⟩)
  · exact .inr h
theorem ex_l {K : PySem.W.Frag} {H H' : Hp} {a : Addr} {xs : List V} (e : Ex H H') (h : SqL K H a xs) : SqL K H' a xs := by
  rcases h with (h | ⟨o, h⟩) | h
  · exact .inl (.inl (e a _ h))
  · exact .inl (.inr ⟨o, e a _ h⟩)
  · exact .inr h

mutual
inductive Is (K : PySem.W.Frag) (cl : Cl) (G : Hp) : V → D → Prop
  | non : Is K cl G .non .non
  | bl (b : Bool) : Is K cl G (.bl b) (.bl b)
  | int (i : Int) : Is K cl G (.int i) (.int i)
  | str (x : Str) : Is K cl G (.str x) (.str x)
  | tup {a : Addr} {vs : List V} {ds : List D} : SqT K G a vs → IsA K cl G vs ds → Is K cl G (.ref a) (.tup ds)
  | lst {a : Addr} {vs : List V} {ds : List D} : G a = some (.lst vs) → IsA K cl G vs ds → Is K cl G (.ref a) (.lst ds)
  | scr {a : Addr} {ns : List Int} : SqL K G a (ns.map V.int) → Is K cl G (.ref a) (.scr ns)
  | dct {a : Addr} : G a = some (.dK []) → Is K cl G (.ref a) .dct
  | ty (n : String) : Is K cl G (.ty n) (.ty n)
  | cls (c : Nat) : Is K cl G (.ref (cl c).1) (.cls c)
  | obj {a dx : Addr} {c : Nat} {fs : List (Str × V)} {vs : List V} {ds : List D} : G a = some (.ins (cl c).1 dx fs) → fs.map (·.1) = (cl c).2 → fs.map (·.2) = vs → IsA K cl G vs ds → Is K cl G (.ref a) (.obj c ds)
inductive IsA (K : PySem.W.Frag) (cl : Cl) (G : Hp) : List V → List D → Prop
  | nil : IsA K cl G [] []
  | cons {v : V} {vs : List V} {d : D} {ds : List D} : Is K cl G v d → IsA K cl G vs ds → IsA K cl G (v :: vs) (d :: ds)
end
section
variable {K : PySem.W.Frag} {cl : Cl} {G G' : Hp}
mutual
theorem Is.mono (e : Ex G G') : ∀ {v : V} {d : D}, Is K cl G v d → Is K cl G' v d
  | _, _, .non => .non
  | _, _, .bl b => .bl b
  | _, _, .int i => .int i
  | _, _, .str x => .str x
  | _, _, .tup h a => .tup (ex_t e h) (IsA.mono e a)
  | _, _, .lst h a => .lst (e _ _ h) (IsA.mono e a)
  | _, _, .scr h => .scr (ex_l e h)
  | _, _, .dct h => .dct (e _ _ h)
  | _, _, .ty n => .ty n
  | _, _, .cls c => .cls c
  | _, _, .obj h n m a => .obj (e _ _ h) n m (IsA.mono e a)
theorem IsA.mono (e : Ex G G') : ∀ {vs : List V} {ds : List D}, IsA K cl G vs ds → IsA K cl G' vs ds
  | _, _, .nil => .nil
  | _, _, .cons h t => .cons (Is.mono e h) (IsA.mono e t)
end
theorem IsA.length : ∀ {vs : List V} {ds : List D}, IsA K cl G vs ds → vs.length = ds.length
  | _, _, .nil => rfl
  | _, _, .cons _ t => congrArg (· + 1) t.length
theorem IsA.get : ∀ {vs : List V} {ds : List D} {i : Nat} {d : D}, IsA K cl G vs ds → ds[i]? = some d → ∃ v, vs[i]? = some v ∧ Is K cl G v d
  | _, _, _, _, .nil, e => by simp at e
  | _, _, 0, _, .cons h _, e => by simp at e; subst e; exact ⟨_, rfl, h⟩
  | _, _, i + 1, _, .cons _ t, e => by
    obtain ⟨v, h1, h2⟩ := IsA.get (i := i) t (by simpa using e)
    exact ⟨v, by simpa using h1, h2⟩
theorem IsA.get' : ∀ {vs : List V} {ds : List D} {i : Nat} {v : V}, IsA K cl G vs ds → vs[i]? = some v → ∃ d, ds[i]? = some d ∧ Is K cl G v d
  | _, _, _, _, .nil, e => by simp at e
  | _, _, 0, _, .cons h _, e => by simp at e; subst e; exact ⟨_, rfl, h⟩
  | _, _, i + 1, _, .cons _ t, e => by
    obtain ⟨v, h1, h2⟩ := IsA.get' (i := i) t (by simpa using e)
    exact ⟨v, by simpa using h1, h2⟩
theorem IsA.append : ∀ {vs ws : List V} {ds es : List D}, IsA K cl G vs ds → IsA K cl G ws es → IsA K cl G (vs ++ ws) (ds ++ es)
  | _, _, _, _, .nil, h => h
  | _, _, _, _, .cons h t, k => .cons h (IsA.append t k)
theorem IsA.take : ∀ {vs : List V} {ds : List D} (n : Nat), IsA K cl G vs ds → IsA K cl G (vs.take n) (ds.take n)
  | _, _, 0, _ => .nil
  | _, _, _ + 1, .nil => .nil
  | _, _, n + 1, .cons h t => .cons h (IsA.take n t)
theorem IsA.drop : ∀ {vs : List V} {ds : List D} (n : Nat), IsA K cl G vs ds → IsA K cl G (vs.drop n) (ds.drop n)
  | _, _, 0, h => h
  | _, _, _ + 1, .nil => .nil
  | _, _, n + 1, .cons _ t => IsA.drop n t
theorem IsA.reverse {vs : List V} {ds : List D} (h : IsA K cl G vs ds) : IsA K cl G vs.reverse ds.reverse := by
  induction vs generalizing ds with
  | nil => cases h; exact .nil
  | cons v vs ih =>
    cases h with
    | cons a b => rw [List.reverse_cons, List.reverse_cons]; exact (ih b).append (.cons a .nil)
theorem IsA.set {v : V} {d : D} (h : Is K cl G v d) : ∀ {vs : List V} {ds : List D} (i : Nat), IsA K cl G vs ds → IsA K cl G (vs.set i v) (ds.set i d)
  | _, _, _, .nil => .nil
  | _, _, 0, .cons _ t => .cons h t
  | _, _, i + 1, .cons a t => .cons a (IsA.set h i t)
theorem IsA.eraseIdx : ∀ {vs : List V} {ds : List D} (i : Nat), IsA K cl G vs ds → IsA K cl G (vs.eraseIdx i) (ds.eraseIdx i)
  | _, _, _, .nil => .nil
  | _, _, 0, .cons _ t => t
  | _, _, i + 1, .cons h t => .cons h (IsA.eraseIdx i t)
theorem IsA.rep {vs : List V} {ds : List D} (h : IsA K cl G vs ds) : ∀ k : Nat, IsA K cl G (List.replicate k vs).flatten (List.replicate k ds).flatten
  | 0 => .nil
  | k + 1 => by rw [List.replicate_succ, List.replicate_succ, List.flatten_cons, List.flatten_cons]; exact h.append (h.rep k)
theorem IsA.ints : ∀ {vs : List V} {ns : List Int}, IsA K cl G vs (ns.map D.int) → vs = ns.map V.int
  | _, [], .nil => rfl
  | _, n :: ns, .cons h t => by
    cases h
    rw [IsA.ints t]; rfl
theorem IsA.ofInts : ∀ (ns : List Int), IsA K cl G (ns.map V.int) (ns.map D.int)
  | [] => .nil
  | n :: ns => .cons (.int n) (IsA.ofInts ns)
theorem IsA.bls : ∀ {vs : List V} {bs : List Bool}, IsA K cl G vs (bs.map D.bl) → vs = bs.map V.bl
  | _, [], .nil => rfl
  | _, n :: ns, .cons h t => by
    cases h
    rw [IsA.bls t]; rfl
end

/-! ### a def that runs -/
structure Z where
  K : PySem.W.Frag
  cl : Cl
  /-- exceptions by number: the class -/
  xc : Nat → Value
  /-- the name of the attribute that an exception of this number keeps -/
  xn : Nat → Option Str
  G0 : Hp
  H0 : Hp
  M : Option Addr

inductive Sl where
  | no | val (d : D) | own (xs : List D) | par (xs : List D)
def Sl.ow : Sl → Bool
  | .own _ => true
  | .par _ => true
  | _ => false
abbrev Ev := List Sl

/-- what stays true of the heap, whatever the names hold -/
structure Fr (z : Z) (G H : Hp) : Prop where
  exG : Ex G H
  g0 : Ex z.G0 G
  gn : ∀ a, G a ≠ none → z.G0 a ≠ none ∨ z.H0 a = none
  fr : ∀ a o, z.H0 a = some o → z.M ≠ some a → H a = some o
  mm : ∀ a, z.M = some a → (∃ vs, H a = some (.lst vs)) ∧ G a = none
  m0 : ∀ a, z.M = some a → z.H0 a ≠ none

def SlOk (z : Z) (T G H : Hp) (o : Option V) : Sl → Prop
  | .no => True
  | .val d => ∃ v, o = some v ∧ Is z.K z.cl G v d
  | .own xs => ∃ p vs, o = some (.ref p) ∧ G p = none ∧ T p = none ∧ z.H0 p = none ∧ H p = some (.lst vs) ∧ IsA z.K z.cl G vs xs
  | .par xs => ∃ p vs, o = some (.ref p) ∧ T p = none ∧ z.M = some p ∧ H p = some (.lst vs) ∧ IsA z.K z.cl G vs xs

def Ow (env : Ev) (σ : L2.St) (i : Nat) (p : Addr) : Prop := (∃ s, env[i]? = some s ∧ s.ow = true) ∧ σ[i]?.join = some (.ref p)

structure Rep (z : Z) (T G H : Hp) (env : Ev) (σ : L2.St) : Prop where
  f : Fr z G H
  len : env.length = σ.length
  sl : ∀ (i : Nat) (s : Sl), env[i]? = some s → SlOk z T G H (σ[i]?.join) s
  dis : ∀ i j p, Ow env σ i p → Ow env σ j p → i = j
  exT : Ex T H
  gt : ∀ a, T a ≠ none → G a = none
  t0 : ∀ a, T a ≠ none → z.H0 a = none

section
variable {z : Z} {T G G' H H' : Hp} {env env' : Ev} {σ : L2.St} {p : Addr} {o : HO}
theorem Fr.nn (f : Fr z G H) (h : H p = none) : G p = none ∧ z.H0 p = none ∧ z.M ≠ some p := by
  have hm : z.M ≠ some p := fun e => by obtain ⟨⟨vs, q⟩, _⟩ := f.mm p e; rw [h] at q; cases q
  refine ⟨f.exG.nn h, ?_, hm⟩
  cases q : z.H0 p with
  | none => rfl
  | some o => rw [f.fr p o q hm] at h; cases h
theorem Rep.nn (r : Rep z T G H env σ) (h : H p = none) : G p = none ∧ T p = none ∧ z.H0 p = none ∧ z.M ≠ some p ∧ ∀ i, ¬ Ow env σ i p := by
  obtain ⟨h1, h2, h3⟩ := r.f.nn h
  refine ⟨h1, r.exT.nn h, h2, h3, fun i ⟨⟨s, es, os⟩, ep⟩ => ?_⟩
  have q := r.sl i s es
  rw [ep] at q
  cases s with
  | no => cases os
  | val d => cases os
  | own xs => obtain ⟨p', vs, e, _, _, _, q', _⟩ := q; cases e; rw [h] at q'; cases q'
  | par xs => obtain ⟨p', vs, e, _, _, q', _⟩ := q; cases e; rw [h] at q'; cases q'
/-- an own list: its address, its items -/
theorem Rep.own (r : Rep z T G H env σ) {i : Nat} (hi : Ow env σ i p) : ∃ vs, G p = none ∧ T p = none ∧ H p = some (.lst vs) := by
  obtain ⟨⟨s, es, os⟩, ep⟩ := hi
  have q := r.sl i s es
  rw [ep] at q
  cases s with
  | no => cases os
  | val d => cases os
  | own xs => obtain ⟨p', vs, e, g, t, _, q', _⟩ := q; cases e; exact ⟨vs, g, t, q'⟩
  | par xs => obtain ⟨p', vs, e, t, m, q', _⟩ := q; cases e; exact ⟨vs, (r.f.mm p m).2, t, q'⟩
theorem SlOk.to {o : Option V} {s : Sl} (k : SlOk z T G H o s) (e : Ex G G') (ow : ∀ q, s.ow = true → o = some (.ref q) → H' q = H q ∧ (z.M ≠ some q → G' q = Option.none)) (hm : ∀ a, z.M = some a → z.H0 a ≠ Option.none) : SlOk z T G' H' o s := by
  cases s with
  | no => trivial
  | val d => obtain ⟨v, e1, h⟩ := k; exact ⟨v, e1, h.mono e⟩
  | own xs =>
    obtain ⟨q, vs, e1, g, t, h0, h, a⟩ := k
    obtain ⟨w1, w2⟩ := ow q rfl e1
    exact ⟨q, vs, e1, w2 (fun m => hm q m h0), t, h0, w1.trans h, a.mono e⟩
  | par xs =>
    obtain ⟨q, vs, e1, t, m, h, a⟩ := k
    obtain ⟨w1, w2⟩ := ow q rfl e1
    exact ⟨q, vs, e1, t, m, w1.trans h, a.mono e⟩
end

/-! ### results -/
inductive R where
  | d (d : D) | at_ (i : Nat) | new (xs : List D)
inductive Out (α : Type) where
  | ok (a : α) | exc (c : Nat) (d : D) | no
def Out.bind {α β : Type} (x : Out α) (k : α → Out β) : Out β := match x with
  | .ok a => k a
  | .exc c d => .exc c d
  | .no => .no
instance : Monad Out where
  pure := .ok
  bind := Out.bind
abbrev F := Ev → Out (R × Ev)
def VR (z : Z) (T G H : Hp) (env : Ev) (σ : L2.St) (v : V) : R → Prop
  | .d d => Is z.K z.cl G v d
  | .at_ i => σ[i]?.join = some v
  | .new xs => ∃ p vs, v = .ref p ∧ H p = some (.lst vs) ∧ IsA z.K z.cl G vs xs ∧ G p = none ∧ T p = none ∧ z.H0 p = none ∧ z.M ≠ some p ∧ ∀ i, ¬ Ow env σ i p
/-- an exception that leaves -/
def XP (z : Z) (c : Nat) (d : D) (H' : Hp) (x : Option Addr) : Prop := ∃ G', Fr z G' H' ∧ match z.xn c with
  | none => x = none
  | some n => ∃ dd v, x = some dd ∧ H' dd = some (.xd [(n, v)]) ∧ Is z.K z.cl G' v d
def PX (z : Z) (E : XK) (c : Nat) (d : D) : Prop := ∀ H' x, XP z c d H' x → E (z.xc c) x H'
/-- what is asked of an outcome -/
def Pg {α : Type} (z : Z) (E : XK) (C : α → Prop) : Out α → Prop
  | .ok a => C a
  | .exc c d => PX z E c d
  | .no => False
theorem Pg.bind {α β : Type} {z : Z} {E : XK} {C : β → Prop} {k : α → Out β} : ∀ {x : Out α}, Pg z E C (x.bind k) → Pg z E (fun a => Pg z E C (k a)) x
  | .ok _, h => h
  | .exc _ _, h => h
  | .no, h => h
theorem Pg.imp {α : Type} {z : Z} {E : XK} {C C' : α → Prop} : ∀ {x : Out α}, Pg z E C x → (∀ a, C a → C' a) → Pg z E C' x
  | .ok _, h, f => f _ h
  | .exc _ _, h, _ => h
  | .no, h, _ => h
abbrev CR (z : Z) (T : Hp) (σ : L2.St) (G : Hp) (Q : VK) : R × Ev → Prop := fun p => ∀ v H' G', Rep z T G' H' p.2 σ → Ex G G' → VR z T G' H' p.2 σ v p.1 → Q v H'
def Po (z : Z) (E : XK) (T : Hp) (σ : L2.St) (G : Hp) (Q : VK) : Out (R × Ev) → Prop := Pg z E (CR z T σ G Q)
def tE (z : Z) (E : XK) (f : F) : TE := fun σ H Q => ∃ T G env, Rep z T G H env σ ∧ Pg z E (CR z T σ G Q) (f env)
abbrev CB (z : Z) (T : Hp) (σ : L2.St) (G : Hp) (Q : Bool → Hp → Prop) : Bool × Ev → Prop := fun p => ∀ H' G', Rep z T G' H' p.2 σ → Ex G G' → Q p.1 H'
abbrev FB := Ev → Out (Bool × Ev)
def tT (z : Z) (E : XK) (f : FB) : TT := fun σ H Q => ∃ T G env, Rep z T G H env σ ∧ Pg z E (CB z T σ G Q) (f env)
def VRs (z : Z) (T G H : Hp) (env : Ev) (σ : L2.St) : List V → List R → Prop
  | [], [] => True
  | v :: vs, r :: rs => (VR z T G H env σ v r ∧ ∀ xs, r ≠ .new xs) ∧ VRs z T G H env σ vs rs
  | _, _ => False
abbrev CA (z : Z) (T : Hp) (σ : L2.St) (G : Hp) (Q : List V → Hp → Prop) : List R × Ev → Prop := fun p => ∀ vs H' G', Rep z T G' H' p.2 σ → Ex G G' → VRs z T G' H' p.2 σ vs p.1 → Q vs H'
abbrev FA := Ev → Out (List R × Ev)
def tAr (z : Z) (E : XK) (f : FA) : TA := fun σ H Q => ∃ T G env, Rep z T G H env σ ∧ Pg z E (CA z T σ G Q) (f env)
inductive Fl where
  | nx | ret (r : R)
def CS (z : Z) (T : Hp) (G : Hp) (D : Ends) : Fl × Ev → Prop := fun p => match p.1 with
  | .nx => ∀ σ' H' G', Rep z T G' H' p.2 σ' → Ex G G' → D.nx σ' H'
  | .ret r => ∀ v σ' H' G', Rep z T G' H' p.2 σ' → Ex G G' → VR z T G' H' p.2 σ' v r → D.rt v H'
abbrev S := Ev → Out (Fl × Ev)
def tS (z : Z) (E : XK) (g : S) : TS := fun D σ H => ∃ T G env, Rep z T G H env σ ∧ Pg z E (CS z T G D) (g env)

section
variable {z : Z} {T G G' H H' : Hp} {env env' : Ev} {σ : L2.St} {p : Addr} {o : HO} {v : V} {r : R}
theorem getElem?_lt {α : Type} {l : List α} {i : Nat} {x : α} (h : l[i]? = some x) : i < l.length := (List.getElem?_eq_some_iff.mp h).1
/-- a new step: the names as they were -/
theorem Rep.to (r : Rep z T G H env σ) (f : Fr z G' H') (e : Ex G G') (hT : Ex T H') (hg : ∀ a, T a ≠ none → G' a = none)
    (ow : ∀ i q, Ow env σ i q → H' q = H q ∧ (z.M ≠ some q → G' q = none)) : Rep z T G' H' env σ :=
  ⟨f, r.len, fun i s es => (r.sl i s es).to e (fun q os eq => ow i q ⟨⟨s, es, os⟩, eq⟩) f.m0, r.dis, hT, hg, r.t0⟩
theorem Fr.grow (f : Fr z G H) (h : H p = none) : Fr z (upd G p o) (upd H p o) := by
  obtain ⟨n1, n2, n3⟩ := f.nn h
  refine ⟨f.exG.both, f.g0.newR (by cases q : z.G0 p with | none => rfl | some u => rw [f.g0 p u q] at n1; cases n1), fun a ha => ?_, fun a u ha hm => ?_, fun a ha => ?_, f.m0⟩
  · by_cases q : a = p
    · subst q; exact .inr n2
    · rw [upd_ne q] at ha; exact f.gn a ha
  · rw [upd_ne (fun q => by subst q; rw [n2] at ha; cases ha)]; exact f.fr a u ha hm
  · have q : a ≠ p := fun q => n3 (q ▸ ha)
    rw [upd_ne q, upd_ne q]; exact f.mm a ha
theorem Fr.alloc (f : Fr z G H) (h : H p = none) : Fr z G (upd H p o) := by
  obtain ⟨n1, n2, n3⟩ := f.nn h
  refine ⟨f.exG.newR n1, f.g0, f.gn, fun a u ha hm => ?_, fun a ha => ?_, f.m0⟩
  · rw [upd_ne (fun q => by subst q; rw [n2] at ha; cases ha)]; exact f.fr a u ha hm
  · have q : a ≠ p := fun q => n3 (q ▸ ha)
    rw [upd_ne q]; exact f.mm a ha
theorem Fr.freeze (f : Fr z G H) (h : H p = some o) (g : G p = none) (h0 : z.H0 p = none) (hm : z.M ≠ some p) : Fr z (upd G p o) H := by
  refine ⟨f.exG.put h, f.g0.newR (by cases q : z.G0 p with | none => rfl | some u => rw [f.g0 p u q] at g; cases g), fun a ha => ?_, f.fr, fun a ha => ?_, f.m0⟩
  · by_cases q : a = p
    · subst q; exact .inr h0
    · rw [upd_ne q] at ha; exact f.gn a ha
  · have q : a ≠ p := fun q => hm (q ▸ ha)
    rw [upd_ne q]; exact f.mm a ha
/-- a new object that stays as it is -/
theorem Rep.grow (r : Rep z T G H env σ) (h : H p = none) : Rep z T (upd G p o) (upd H p o) env σ := by
  obtain ⟨n1, n2, n3, n4, n5⟩ := r.nn h
  refine r.to (r.f.grow h) (Ex.new n1) (r.exT.newR n2) (fun a ha => ?_) fun i q hq => ?_
  · rw [upd_ne (fun e => ha (by rw [e]; exact n2))]; exact r.gt a ha
  · have qp : q ≠ p := fun e => n5 i (e ▸ hq)
    rw [upd_ne qp, upd_ne qp]
    obtain ⟨vs, g, _⟩ := r.own hq
    exact ⟨rfl, fun _ => g⟩
/-- a new object -/
theorem Rep.alloc (r : Rep z T G H env σ) (h : H p = none) : Rep z T G (upd H p o) env σ := by
  obtain ⟨n1, n2, n3, n4, n5⟩ := r.nn h
  refine r.to (r.f.alloc h) (Ex.refl G) (r.exT.newR n2) r.gt fun i q hq => ?_
  have qp : q ≠ p := fun e => n5 i (e ▸ hq)
  rw [upd_ne qp]
  obtain ⟨vs, g, _⟩ := r.own hq
  exact ⟨rfl, fun _ => g⟩
/-- an object of nobody's stays as it is from here on -/
theorem Rep.freeze (r : Rep z T G H env σ) (h : H p = some o) (g : G p = none) (t : T p = none) (h0 : z.H0 p = none) (hm : z.M ≠ some p) (no : ∀ i, ¬ Ow env σ i p) : Rep z T (upd G p o) H env σ := by
  refine r.to (r.f.freeze h g h0 hm) (Ex.new g) r.exT (fun a ha => ?_) fun i q hq => ?_
  · rw [upd_ne (fun e => ha (by rw [e]; exact t))]; exact r.gt a ha
  · have qp : q ≠ p := fun e => no i (e ▸ hq)
    rw [upd_ne qp]
    obtain ⟨vs, g, _⟩ := r.own hq
    exact ⟨rfl, fun _ => g⟩
theorem Ow.of_set {i j : Nat} {s : Sl} (h : Ow (env.set i s) σ j p) (hs : s.ow = true → ∃ s', env[i]? = some s' ∧ s'.ow = true) : Ow env σ j p := by
  obtain ⟨⟨s1, e1, o1⟩, e2⟩ := h
  by_cases q : i = j
  · subst q
    by_cases hi : i < env.length
    · rw [List.getElem?_set_self hi] at e1
      cases e1
      exact ⟨hs o1, e2⟩
    · rw [List.getElem?_eq_none (by rw [List.length_set]; omega)] at e1; cases e1
  · rw [List.getElem?_set_ne q] at e1
    exact ⟨⟨s1, e1, o1⟩, e2⟩
/-- the list of a name is written -/
theorem Rep.mut (r : Rep z T G H env σ) {i : Nat} {s : Sl} {vs : List V} {xs : List D} (hi : Ow env σ i p) (hs : s = .own xs ∧ (∃ ys, env[i]? = some (.own ys)) ∨ s = .par xs ∧ ∃ ys, env[i]? = some (.par ys)) (a : IsA z.K z.cl G vs xs) :
    Rep z T G (upd H p (.lst vs)) (env.set i s) σ := by
  obtain ⟨ws, g, t, hp⟩ := r.own hi
  have nm : z.H0 p = none ∨ z.M = some p := by
    obtain ⟨⟨s1, e1, o1⟩, e2⟩ := hi
    have q := r.sl i s1 e1
    rw [e2] at q
    cases s1 with
    | no => cases o1
    | val d => cases o1
    | own xs => obtain ⟨p', vs, e, _, _, h0, _⟩ := q; cases e; exact .inl h0
    | par xs => obtain ⟨p', vs, e, _, m, _⟩ := q; cases e; exact .inr m
  have sow : s.ow = true := by rcases hs with ⟨e, _⟩ | ⟨e, _⟩ <;> (subst e; rfl)
  have hso : s.ow = true → ∃ s', env[i]? = some s' ∧ s'.ow = true := fun _ => hi.1
  refine ⟨⟨r.f.exG.newR g, r.f.g0, r.f.gn, fun a u ha hm => ?_, fun a ha => ?_, r.f.m0⟩, by rw [List.length_set]; exact r.len, fun j s1 e1 => ?_, fun j k q h1 h2 => r.dis j k q (h1.of_set hso) (h2.of_set hso), r.exT.newR t, r.gt, r.t0⟩
  · rw [upd_ne (fun q => by
      subst q
      rcases nm with h0 | m
      · rw [h0] at ha; cases ha
      · exact hm m)]
    exact r.f.fr a u ha hm
  · by_cases q : a = p
    · subst q; rw [upd_same]; exact ⟨⟨vs, rfl⟩, g⟩
    · rw [upd_ne q]; exact r.f.mm a ha
  · by_cases q : i = j
    · subst q
      rw [List.getElem?_set_self (by obtain ⟨⟨s1, e1, _⟩, _⟩ := hi; exact getElem?_lt e1)] at e1
      cases e1
      have e2 := hi.2
      rcases hs with ⟨rfl, ys, ey⟩ | ⟨rfl, ys, ey⟩
      · have q := r.sl i _ ey
        rw [e2] at q ⊢
        obtain ⟨p', vs', e, g', t', h0, h1, _⟩ := q
        cases e
        exact ⟨p, vs, rfl, g, t, h0, upd_same, a⟩
      · have q := r.sl i _ ey
        rw [e2] at q ⊢
        obtain ⟨p', vs', e, t', m, h1, _⟩ := q
        cases e
        exact ⟨p, vs, rfl, t, m, upd_same, a⟩
    · rw [List.getElem?_set_ne q] at e1
      refine (r.sl j s1 e1).to (Ex.refl G) (fun q' os eq => ?_) r.f.m0
      have ne : q' ≠ p := fun e => q (r.dis i j p hi ⟨⟨s1, e1, os⟩, e ▸ eq⟩)
      obtain ⟨_, g', _⟩ := r.own (i := j) (p := q') ⟨⟨s1, e1, os⟩, eq⟩
      rw [upd_ne ne]
      exact ⟨rfl, fun _ => g'⟩
/-- an own list stays as it is from here on -/
theorem Rep.still (r : Rep z T G H env σ) {i : Nat} {xs : List D} (hi : env[i]? = some (.own xs)) : ∃ p vs, σ[i]?.join = some (.ref p) ∧ H p = some (.lst vs) ∧ IsA z.K z.cl G vs xs ∧ G p = none ∧ Rep z T (upd G p (.lst vs)) H (env.set i (.val (.lst xs))) σ := by
  have q := r.sl i _ hi
  obtain ⟨p, vs, e, g, t, h0, h, a⟩ := q
  have how : Ow env σ i p := ⟨⟨_, hi, rfl⟩, e⟩
  have hm : z.M ≠ some p := fun m => r.f.m0 p m h0
  have hso : Sl.ow (.val (.lst xs)) = true → ∃ s', env[i]? = some s' ∧ s'.ow = true := fun z => by cases z
  refine ⟨p, vs, e, h, a, g, r.f.freeze h g h0 hm, by rw [List.length_set]; exact r.len, fun j s1 e1 => ?_, fun j k q h1 h2 => r.dis j k q (h1.of_set hso) (h2.of_set hso), r.exT, fun b hb => ?_, r.t0⟩
  · by_cases q : i = j
    · subst q
      rw [List.getElem?_set_self (getElem?_lt hi)] at e1
      cases e1
      exact ⟨.ref p, e, .lst upd_same (a.mono (Ex.new g))⟩
    · rw [List.getElem?_set_ne q] at e1
      refine (r.sl j s1 e1).to (Ex.new g) (fun q' os eq => ?_) r.f.m0
      have ne : q' ≠ p := fun e' => q (r.dis i j p how ⟨⟨s1, e1, os⟩, e' ▸ eq⟩)
      obtain ⟨_, g', _⟩ := r.own (i := j) (p := q') ⟨⟨s1, e1, os⟩, eq⟩
      rw [upd_ne ne]
      exact ⟨rfl, fun _ => g'⟩
  · rw [upd_ne (fun e' => hb (by rw [e']; exact t))]; exact r.gt b hb
/-- a name is stored -/
theorem Rep.set (r : Rep z T G H env σ) {i : Nat} {s : Sl} (hs : SlOk z T G H (some v) s) (hd : ∀ q, s.ow = true → v = .ref q → ∀ j, ¬ Ow env σ j q) (hi : i < env.length) : Rep z T G H (env.set i s) (σ.set i (some v)) := by
  have hσ : i < σ.length := by rw [← r.len]; exact hi
  have ow : ∀ j q, Ow (env.set i s) (σ.set i (some v)) j q → (j = i ∧ s.ow = true ∧ v = .ref q) ∨ (j ≠ i ∧ Ow env σ j q) := fun j q ⟨⟨s1, e1, o1⟩, e2⟩ => by
    by_cases w : i = j
    · subst w
      rw [List.getElem?_set_self hi] at e1
      rw [List.getElem?_set_self hσ] at e2
      cases e1
      exact .inl ⟨rfl, o1, by simpa using e2⟩
    · rw [List.getElem?_set_ne w] at e1 e2
      exact .inr ⟨Ne.symm w, ⟨s1, e1, o1⟩, e2⟩
  refine ⟨r.f, by rw [List.length_set, List.length_set]; exact r.len, fun j s1 e1 => ?_, fun j k q h1 h2 => ?_, r.exT, r.gt, r.t0⟩
  · by_cases w : i = j
    · subst w
      rw [List.getElem?_set_self hi] at e1
      rw [List.getElem?_set_self hσ]
      cases e1
      exact hs
    · rw [List.getElem?_set_ne w] at e1 ⊢
      exact r.sl j s1 e1
  · rcases ow j q h1 with ⟨e1, o1, v1⟩ | ⟨e1, o1⟩
    · rcases ow k q h2 with ⟨e2, o2, v2⟩ | ⟨e2, o2⟩
      · rw [e1, e2]
      · exact absurd o2 (hd q o1 v1 k)
    · rcases ow k q h2 with ⟨e2, o2, v2⟩ | ⟨e2, o2⟩
      · exact absurd o1 (hd q o2 v2 j)
      · exact r.dis j k q o1 o2
/-- a name is forgotten -/
theorem Rep.forget (r : Rep z T G H env σ) {i : Nat} (w : Option V) : Rep z T G H (env.set i .no) (σ.set i w) := by
  have ow : ∀ j q, Ow (env.set i .no) (σ.set i w) j q → j ≠ i ∧ Ow env σ j q := fun j q ⟨⟨s1, e1, o1⟩, e2⟩ => by
    by_cases w : i = j
    · subst w
      by_cases hi : i < env.length
      · rw [List.getElem?_set_self hi] at e1
        cases e1
        cases o1
      · rw [List.getElem?_eq_none (by rw [List.length_set]; omega)] at e1; cases e1
    · rw [List.getElem?_set_ne w] at e1 e2
      exact ⟨Ne.symm w, ⟨s1, e1, o1⟩, e2⟩
  refine ⟨r.f, by rw [List.length_set, List.length_set]; exact r.len, fun j s1 e1 => ?_, fun j k q h1 h2 => r.dis j k q (ow j q h1).2 (ow k q h2).2, r.exT, r.gt, r.t0⟩
  by_cases w' : i = j
  · subst w'
    by_cases hi : i < env.length
    · rw [List.getElem?_set_self hi] at e1
      cases e1
      trivial
    · rw [List.getElem?_eq_none (by rw [List.length_set]; omega)] at e1; cases e1
  · rw [List.getElem?_set_ne w'] at e1 ⊢
    exact r.sl j s1 e1
theorem VR.mono (h : VR z T G H env σ v r) (hn : ∀ xs, r ≠ .new xs) (e : Ex G G') : VR z T G' H' env' σ v r := by
  cases r with
  | d y => exact Is.mono e h
  | at_ i => exact h
  | new xs => exact absurd rfl (hn xs)

/-! ### operands -/
/-- a new list as an operand stays as it is -/
def R.opd : R → R
  | .new xs => R.d (.lst xs)
  | .d x => .d x
  | .at_ i => .at_ i
theorem R.opd_nn (r : R) (xs : List D) : r.opd ≠ .new xs := by cases r <;> (intro h; cases h)
theorem VR.opd (h : VR z T G H env σ v r) (p : Rep z T G H env σ) : ∃ G', Rep z T G' H env σ ∧ Ex G G' ∧ VR z T G' H env σ v r.opd := by
  cases r with
  | d y => exact ⟨G, p, Ex.refl G, h⟩
  | at_ i => exact ⟨G, p, Ex.refl G, h⟩
  | new xs =>
    obtain ⟨q, vs, rfl, hq, a, g, t, h0, hm, no⟩ := h
    exact ⟨_, p.freeze hq g t h0 hm no, Ex.new g, .lst upd_same (a.mono (Ex.new g))⟩
/-- what an operand is worth just now -/
def R.der (env : Ev) : R → Option D
  | .d x => some x
  | .at_ i => match env[i]? with
    | some (.val y) => some y
    | some (.own xs) => some (.lst xs)
    | some (.par xs) => some (.lst xs)
    | _ => none
  | .new _ => none
/-- to be read just now -/
def IsT (K : PySem.W.Frag) (cl : Cl) (G H : Hp) (v : V) (d : D) : Prop := Is K cl G v d ∨ ∃ p vs xs, v = .ref p ∧ d = .lst xs ∧ H p = some (.lst vs) ∧ IsA K cl G vs xs
theorem VR.der {d : D} (h : VR z T G H env σ v r) (p : Rep z T G H env σ) (e : r.der env = some d) : IsT z.K z.cl G H v d := by
  cases r with
  | d y => cases e; exact .inl h
  | at_ i =>
    have h : σ[i]?.join = some v := h
    simp only [R.der] at e
    split at e
    · rename_i d' q
      cases e
      have w := p.sl i _ q
      rw [h] at w
      obtain ⟨v', e1, w⟩ := w
      cases e1
      exact .inl w
    · rename_i xs q
      cases e
      have w := p.sl i _ q
      rw [h] at w
      obtain ⟨q', vs, e1, _, _, _, hq, a⟩ := w
      cases e1
      exact .inr ⟨q', vs, xs, rfl, rfl, hq, a⟩
    · rename_i xs q
      cases e
      have w := p.sl i _ q
      rw [h] at w
      obtain ⟨q', vs, e1, _, _, hq, a⟩ := w
      cases e1
      exact .inr ⟨q', vs, xs, rfl, rfl, hq, a⟩
    · cases e
  | new xs => cases e
/-- an operand that stays as it is from here on -/
def R.fix (env : Ev) : R → Option (D × Ev)
  | .d x => some (x, env)
  | .at_ i => match env[i]? with
    | some (.val y) => some (y, env)
    | some (.own xs) => some (.lst xs, env.set i (.val (.lst xs)))
    | _ => none
  | .new _ => none
theorem VR.fix {d : D} (h : VR z T G H env σ v r) (p : Rep z T G H env σ) (e : r.fix env = some (d, env')) : ∃ G', Rep z T G' H env' σ ∧ Ex G G' ∧ Is z.K z.cl G' v d := by
  cases r with
  | d y => cases e; exact ⟨G, p, Ex.refl G, h⟩
  | at_ i =>
    have h : σ[i]?.join = some v := h
    simp only [R.fix] at e
    split at e
    · rename_i d' q
      cases e
      have w := p.sl i _ q
      rw [h] at w
      obtain ⟨v', e1, w⟩ := w
      cases e1
      exact ⟨G, p, Ex.refl G, w⟩
    · rename_i xs q
      cases e
      obtain ⟨q', vs, e1, h1, a, g, p'⟩ := p.still q
      rw [h] at e1
      cases e1
      exact ⟨_, p', Ex.new g, .lst upd_same (a.mono (Ex.new g))⟩
    · cases e
  | new xs => cases e
def fixAll (env : Ev) : List R → Option (List D × Ev)
  | [] => some ([], env)
  | r :: rs => match r.fix env with
    | some (d, e1) => match fixAll e1 rs with
      | some (ds, e2) => some (d :: ds, e2)
      | none => none
    | none => none
theorem VRs.mono : ∀ {vs : List V} {rs : List R}, VRs z T G H env σ vs rs → Ex G G' → VRs z T G' H' env' σ vs rs
  | [], [], _, _ => trivial
  | _ :: _, _ :: _, ⟨⟨h, n⟩, t⟩, e => ⟨⟨h.mono n e, n⟩, VRs.mono t e⟩
theorem VRs.length : ∀ {vs : List V} {rs : List R}, VRs z T G H env σ vs rs → vs.length = rs.length
  | [], [], _ => rfl
  | _ :: _, _ :: _, ⟨_, t⟩ => congrArg (· + 1) (VRs.length t)
theorem VRs.fix : ∀ {vs : List V} {rs : List R} {ds : List D} {G : Hp} {env env' : Ev}, VRs z T G H env σ vs rs → Rep z T G H env σ → fixAll env rs = some (ds, env') → ∃ G', Rep z T G' H env' σ ∧ Ex G G' ∧ IsA z.K z.cl G' vs ds
  | [], [], _, G, _, _, _, p, e => by cases e; exact ⟨G, p, Ex.refl G, .nil⟩
  | v :: vs, r :: rs, ds, G, env, env', ⟨⟨h, n⟩, t⟩, p, e => by
    unfold fixAll at e
    split at e
    · rename_i d e1 q
      split at e
      · rename_i ds' e2 q2
        cases e
        obtain ⟨G1, p1, x1, h1⟩ := h.fix p q
        obtain ⟨G2, p2, x2, h2⟩ := VRs.fix (t.mono x1) p1 q2
        exact ⟨G2, p2, x1.trans x2, .cons (h1.mono x2) h2⟩
      · cases e
    · cases e
  | [], _ :: _, _, _, _, _, h, _, _ => h.elim
  | _ :: _, [], _, _, _, _, h, _, _ => h.elim
theorem CR.mono {Q : VK} {p : R × Ev} (h : CR z T σ G Q p) (e : Ex G G') : CR z T σ G' Q p := fun v H' G'' a x w => h v H' G'' a (e.trans x) w
end
end TN
namespace TN
open PySem PySem.Spec PyProof.Rows L2

/-- a body that runs, as the rules want it -/
structure OkX (X : Cx) (z : Z) (E : XK) (k : Nat) : Prop where
  K : X.K = z.K
  tk : Takes X (fun c d _ H => E c d H)
  calm : X.calm = true
  nd : X.N.Nodup
  room : Room k X.A
  po : PassesOwn (model X.prog X.w) X.A X.env X.xe

theorem pe_mono {X : Cx} {e : Expr} {t t' : TE} (h : PE X e t) (f : ∀ σ H Q, t' σ H Q → t σ H Q) : PE X e t' := ⟨fun pins s σ H Q I q => h.run pins s σ H Q I (f σ H Q q)⟩
theorem pt_mono {X : Cx} {e : Expr} {t t' : TT} (h : PT X e t) (f : ∀ σ H Q, t' σ H Q → t σ H Q) : PT X e t' := ⟨fun pins s σ H Q I q => h.run pins s σ H Q I (f σ H Q q)⟩
theorem pw_mono {X : Cx} {e : Expr} {t t' : TT} (h : PW X e t) (f : ∀ σ H Q, t' σ H Q → t σ H Q) : PW X e t' := ⟨fun wh pins s σ H Q I q => h.run wh pins s σ H Q I (f σ H Q q)⟩
theorem pa_mono {X : Cx} {e : List Expr} {t t' : TA} (h : PA X e t) (f : ∀ σ H Q, t' σ H Q → t σ H Q) : PA X e t' := ⟨fun pos pins s σ H Q I q => h.run pos pins s σ H Q I (f σ H Q q)⟩
theorem ps_mono {X : Cx} {e : Stmt} {t t' : TS} (h : PS X e t) (f : ∀ D σ H, t' D σ H → t D σ H) : PS X e t' := ⟨fun pins s σ H D I q => h.run pins s σ H D I (f D σ H q)⟩
theorem pss_mono {X : Cx} {e : List Stmt} {t t' : TS} (h : PSs X e t) (f : ∀ D σ H, t' D σ H → t D σ H) : PSs X e t' := ⟨fun pins s σ H D I q => h.run pins s σ H D I (f D σ H q)⟩

def ofO {α : Type} : Option α → Out α
  | some a => .ok a
  | none => .no
theorem Pg.ofO {α : Type} {z : Z} {E : XK} {C : α → Prop} : ∀ {x : Option α}, Pg z E C (ofO x) → ∃ a, x = some a ∧ C a
  | some a, h => ⟨a, rfl, h⟩
  | none, h => h.elim

/-! ### names, constants -/
def fVar (i : Nat) : F := fun env => match env[i]? with
  | some (.val d) => .ok (.d d, env)
  | some (.own _) => .ok (.at_ i, env)
  | some (.par _) => .ok (.at_ i, env)
  | _ => .no
def fC (d : D) : F := fun env => .ok (.d d, env)
section
variable {X : Cx} {z : Z} {E : XK} {k : Nat} {pos : Pos}
theorem te_var {i : Nat} {σ : L2.St} {H : Hp} {Q : VK} (h : tE z E (fVar i) σ H Q) : tVar i σ H Q := by
  obtain ⟨T, G, env, r, h⟩ := h
  have sj : ∀ {v : V}, (σ[i]?.join) = some v → σ[i]? = some (some v) := fun {v} e => by
    cases q : σ[i]? with
    | none => rw [q] at e; cases e
    | some o => rw [q] at e; exact congrArg some e
  unfold fVar at h
  split at h
  · rename_i d q
    have w := r.sl i _ q
    obtain ⟨v, e, w⟩ := w
    exact ⟨v, sj e, h v H G r (Ex.refl G) w⟩
  · rename_i xs q
    have w := r.sl i _ q
    obtain ⟨p, vs, e, _⟩ := w
    exact ⟨_, sj e, h _ H G r (Ex.refl G) e⟩
  · rename_i xs q
    have w := r.sl i _ q
    obtain ⟨p, vs, e, _⟩ := w
    exact ⟨_, sj e, h _ H G r (Ex.refl G) e⟩
  · exact h.elim
theorem we_var (i : Nat) {x : Str} (hN : X.N[i]? = some x := by rfl) (hv : Vis X.env.scope x := by first | exact Or.inl rfl | exact Or.inr (Or.inl rfl) | exact Or.inr (Or.inr rfl))
    (hd : (x == ("__debug__" : Str)) = false := by decide) (hcd : (x == ("__classdict__" : Str)) = false := by decide) : PE X (.Name x pos) (tE z E (fVar i)) :=
  pe_mono (pe_var hN hv hd hcd) fun _ _ _ h => te_var h
theorem te_c {d : D} {v : V} (hv : ∀ K cl G, Is K cl G v d) {σ : L2.St} {H : Hp} {Q : VK} (h : tE z E (fC d) σ H Q) : tC v σ H Q := by
  obtain ⟨T, G, env, r, h⟩ := h
  exact h v H G r (Ex.refl G) (hv _ _ _)
theorem we_int {i j} : PE X (.Constant (.int i) j pos) (tE z E (fC (.int i))) := pe_mono pe_int fun _ _ _ h => te_c (fun _ _ _ => .int i) h
theorem we_bl {i j} : PE X (.Constant (.bool i) j pos) (tE z E (fC (.bl i))) := pe_mono pe_bl fun _ _ _ h => te_c (fun _ _ _ => .bl i) h
theorem we_str {i j} : PE X (.Constant (.str i) j pos) (tE z E (fC (.str i))) := pe_mono pe_str fun _ _ _ h => te_c (fun _ _ _ => .str i) h
theorem we_non {j} : PE X (.Constant .none j pos) (tE z E (fC .non)) := pe_mono pe_non fun _ _ _ h => te_c (fun _ _ _ => .non) h
/-- a module's int, text .. -/
theorem we_glob {x : Str} {v : V} {u : Value} {d : D} (hm : X.mg x = some u) (r : RelV v u) (hd' : ∀ K cl G, Is K cl G v d) (hg : Gl X x := by rfl) (hd : (x == ("__debug__" : Str)) = false := by decide) : PE X (.Name x pos) (tE z E (fC d)) :=
  pe_mono (pe_glob hg hm r hd) fun _ _ _ h => te_c hd' h
end

/-! ### operators -/
/-- what an operation hands back: data that is there, or a new tuple, or a new list -/
inductive R0 where
  | d (x : D) | tp (xs : List D) | ls (xs : List D)
def R0.r : R0 → R
  | .d x => .d x
  | .tp xs => .d (.tup xs)
  | .ls xs => .new xs
def P0 (z : Z) (G H : Hp) (Q : VK) : Out R0 → Prop
  | .ok (.d d) => ∀ v, Is z.K z.cl G v d → Q v H
  | .ok (.tp ds) => ∀ p vs, H p = none → IsA z.K z.cl G vs ds → Q (.ref p) (upd H p (.tup vs))
  | .ok (.ls ds) => ∀ p vs, H p = none → IsA z.K z.cl G vs ds → Q (.ref p) (upd H p (.lst vs))
  | _ => False
section
variable {X : Cx} {z : Z} {E : XK} {k : Nat} {pos : Pos} {T G H : Hp} {σ : L2.St} {env : Ev} {Q : VK}
/-- the end of an operation -/
theorem p0_end {x : Out R0} (r : Rep z T G H env σ) (h : Pg z E (fun q => CR z T σ G Q (q.r, env)) x) (nx : ∀ c d, x ≠ .exc c d) : P0 z G H Q x := by
  cases x with
  | ok q =>
    cases q with
    | d d => exact fun v w => h v H G r (Ex.refl G) w
    | tp ds =>
      intro p vs hp a
      have g := (r.nn hp).1
      exact h _ _ _ (r.grow hp) (Ex.new g) (.tup (.inl (.inl upd_same)) (a.mono (Ex.new g)))
    | ls ds =>
      intro p vs hp a
      obtain ⟨n1, n2, n3, n4, n5⟩ := r.nn hp
      exact h _ _ _ (r.alloc hp) (Ex.refl G) ⟨p, vs, rfl, upd_same, a, n1, n2, n3, n4, n5⟩
  | exc c d => exact absurd rfl (nx c d)
  | no => exact h
end
structure OpD (X : Cx) (z : Z) (f : Value → Value → Sem Value) (op : D → D → Out R0) : Prop where
  run : ∃ r : R2, OpR X f r ∧ ∀ G H x y dx dy Q, Ex G H → IsT z.K z.cl G H x dx → IsT z.K z.cl G H y dy → P0 z G H Q (op dx dy) → r x y H Q
  nx : ∀ x y c d, op x y ≠ .exc c d
def fTwo {β : Type} (fa fb : F) (k : D → D → Ev → Out β) : Ev → Out β := fun env => (fa env).bind fun p => (fb p.2).bind fun q =>
  (ofO (p.1.opd.der q.2)).bind fun x => (ofO (q.1.opd.der q.2)).bind fun y => k x y q.2
def fBin (op : D → D → Out R0) (fa fb : F) : F := fTwo fa fb fun x y e => (op x y).bind fun q => .ok (q.r, e)
section
variable {X : Cx} {z : Z} {E : XK} {n : Nat} {pos : Pos} {a b : Expr} {fa fb : F} {σ : L2.St} {H : Hp}
/-- two operands, then what they are worth -/
theorem te_two {β : Type} {C : Ev → β → Prop} {kk : D → D → Ev → Out β} {T G : Hp} {env : Ev} (r : Rep z T G H env σ)
    {Cb : Hp → β → Prop} (mono : ∀ G G' b, Ex G G' → Cb G b → Cb G' b) (h : Pg z E (Cb G) (fTwo fa fb kk env)) :
    tE z E fa σ H fun x H1 => tE z E fb σ H1 fun y H2 => ∃ dx dy e2 G2, Rep z T G2 H2 e2 σ ∧ Ex G G2 ∧ IsT z.K z.cl G2 H2 x dx ∧ IsT z.K z.cl G2 H2 y dy ∧ Pg z E (Cb G2) (kk dx dy e2) := by
  refine ⟨T, G, env, r, (Pg.bind h).imp fun p hp v H1 G1 r1 e1 w1 => ?_⟩
  obtain ⟨G1', r1', e1', w1'⟩ := w1.opd r1
  refine ⟨T, G1', p.2, r1', (Pg.bind hp).imp fun q hq u H2 G2 r2 e2 w2 => ?_⟩
  obtain ⟨G2', r2', e2', w2'⟩ := w2.opd r2
  obtain ⟨dx, ex, hq⟩ := (Pg.bind hq).ofO
  obtain ⟨dy, ey, hq⟩ := (Pg.bind hq).ofO
  have x2 : Ex G1' G2' := e2.trans e2'
  refine ⟨dx, dy, q.2, G2', r2', (e1.trans e1').trans x2, (w1'.mono (fun xs => R.opd_nn _ _) x2).der r2' ex, w2'.der r2' ey, hq.imp fun b hb => mono _ _ _ ((e1.trans e1').trans x2) hb⟩
theorem te_bin {op : D → D → Out R0} {r : R2} (hx : ∀ x y c d, op x y ≠ .exc c d) (hr : ∀ G H x y dx dy Q, Ex G H → IsT z.K z.cl G H x dx → IsT z.K z.cl G H y dy → P0 z G H Q (op dx dy) → r x y H Q) {Q : VK} (h : tE z E (fBin op fa fb) σ H Q) : tOp r (tE z E fa) (tE z E fb) σ H Q := by
  obtain ⟨T, G, env, rp, h⟩ := h
  have q := te_two (Cb := fun G p => CR z T σ G Q p) (C := fun _ _ => True) rp (fun G G' b e h => h.mono e) h
  refine (show ∀ (t : TE) (Q Q' : VK), (∀ v H, Q v H → Q' v H) → tE z E fa σ H Q → tE z E fa σ H Q' from fun _ Q Q' i ⟨T, G, env, r, h⟩ => ⟨T, G, env, r, h.imp fun a w v H' G' x y c => i _ _ (w v H' G' x y c)⟩) (tE z E fa) _ _ (fun x H1 q1 => ?_) q
  obtain ⟨T1, G1, env1, r1, h1⟩ := q1
  refine ⟨T1, G1, env1, r1, h1.imp fun a w v H' G' x y c => ?_⟩
  obtain ⟨dx, dy, e2, G2, r2, _, ix, iy, hk⟩ := w v H' G' x y c
  exact hr G2 H' _ _ dx dy Q r2.f.exG ix iy (p0_end (E := E) r2 (Pg.bind hk) (hx dx dy))
theorem we_bin {o : Operator} {op : D → D → Out R0} (ho : OpD X z (binaryOp o) op) (ha : PE X a (tE z E fa)) (hb : PE X b (tE z E fb)) : PE X (.BinOp a o b pos) (tE z E (fBin op fa fb)) := by
  obtain ⟨r, h1, h2⟩ := ho.run
  exact pe_mono (pe_op h1 ha hb) fun _ _ _ h => te_bin ho.nx h2 h
theorem we_cmp {o : CmpOp} {op : D → D → Out R0} (ho : OpD X z (compareOp o) op) (ha : PE X a (tE z E fa)) (hb : PE X b (tE z E fb)) (hm : behindInMarks o b = false := by first | exact nomark _ | with_unfolding_all rfl) : PE X (.Compare a [o] [b] pos) (tE z E (fBin op fa fb)) := by
  obtain ⟨r, h1, h2⟩ := ho.run
  exact pe_mono (pe_cmpR h1 ha hb hm) fun _ _ _ h => te_bin ho.nx h2 h
/-- a value as a test: it must be a bool -/
def bOf (f : F) : FB := fun env => (f env).bind fun p => match p.1 with
  | .d (.bl b) => .ok (b, p.2)
  | _ => .no
theorem te_imp {f : F} {Q Q' : VK} (i : ∀ v H, Q v H → Q' v H) : tE z E f σ H Q → tE z E f σ H Q' := fun ⟨T, G, env, r, h⟩ => ⟨T, G, env, r, h.imp fun a w v H' G' x y c => i _ _ (w v H' G' x y c)⟩
theorem te_bOf {f : F} {Q : Bool → Hp → Prop} (h : tT z E (bOf f) σ H Q) : tE z E f σ H fun x H' => ∃ k, x = .bl k ∧ Q k H' := by
  obtain ⟨T, G, env, r, h⟩ := h
  refine ⟨T, G, env, r, (Pg.bind h).imp fun p hp v H' G' r' e w => ?_⟩
  obtain ⟨p1, p2⟩ := p
  split at hp
  · rename_i b q
    have q : p1 = R.d (.bl b) := q
    subst q
    have w : Is z.K z.cl G' v (.bl b) := w
    cases w
    exact ⟨b, rfl, hp H' G' r' e⟩
  · exact hp.elim
theorem wt_cmp {o : CmpOp} {op : D → D → Out R0} (ho : OpD X z (compareOp o) op) (ha : PE X a (tE z E fa)) (hb : PE X b (tE z E fb)) (hm : behindInMarks o b = false := by first | exact nomark _ | with_unfolding_all rfl) : PT X (.Compare a [o] [b] pos) (tT z E (bOf (fBin op fa fb))) := by
  obtain ⟨r, h1, h2⟩ := ho.run
  exact pt_mono (pt_cmpR h1 ha hb hm) fun _ _ _ h => te_bin ho.nx h2 (te_bOf h)
theorem wt_val {f : F} (h : PE X a (tE z E f)) (he : ∀ whole, isTrue a X.env whole = (do let v ← whole; standAt a.pos; holding [v] (truthy v)) := by intro _; rfl) : PT X a (tT z E (bOf f)) :=
  pt_mono (pt_val h he) fun _ _ _ h => te_bOf h
end
end TN
namespace TN
open PySem PySem.Spec PyProof.Rows L2

/-! ### tests -/
def fNotB (f : FB) : FB := fun env => (f env).bind fun p => .ok (!p.1, p.2)
def fAndB (f g : FB) : FB := fun env => (f env).bind fun p => if p.1 = true then g p.2 else .ok (false, p.2)
def fOrB (f g : FB) : FB := fun env => (f env).bind fun p => if p.1 = true then .ok (true, p.2) else g p.2
def fAndV (f g : F) : F := fun env => (bOf f env).bind fun p => if p.1 = true then g p.2 else .ok (.d (.bl false), p.2)
def fOrV (f g : F) : F := fun env => (bOf f env).bind fun p => if p.1 = true then .ok (.d (.bl true), p.2) else g p.2
def fNotV (f : F) : F := fun env => (bOf f env).bind fun p => .ok (.d (.bl (!p.1)), p.2)
def fIf (c : FB) (f g : F) : F := fun env => (c env).bind fun p => if p.1 = true then f p.2 else g p.2
section
variable {X : Cx} {z : Z} {E : XK} {n : Nat} {pos : Pos} {a b c : Expr} {rest : List Expr} {fa fb fc : F} {ga gb : FB} {σ : L2.St} {H : Hp}
theorem CB.mono {T G G' : Hp} {Q : Bool → Hp → Prop} {p : Bool × Ev} (h : CB z T σ G Q p) (e : Ex G G') : CB z T σ G' Q p := fun H' G'' a x => h H' G'' a (e.trans x)
theorem wt_not (h : PT X a (tT z E ga)) : PT X (.UnaryOp .Not a pos) (tT z E (fNotB ga)) := pt_mono (pt_not h) fun σ H Q ⟨T, G, env, r, h⟩ => by
  exact ⟨T, G, env, r, (Pg.bind h).imp fun p hp H' G' r' e => hp H' G' r' e⟩
theorem te_and {Q : Bool → Hp → Prop} (h : tT z E (fAndB ga gb) σ H Q) : tAnd (tT z E ga) (tT z E gb) σ H Q := by
  obtain ⟨T, G, env, r, h⟩ := h
  refine ⟨T, G, env, r, (Pg.bind h).imp fun p hp H' G' r' e => ?_⟩
  obtain ⟨p1, p2⟩ := p
  cases p1 with
  | true =>
    simp only [if_true] at hp ⊢
    exact ⟨T, G', p2, r', hp.imp fun q hq => hq.mono e⟩
  | false => exact hp H' G' r' e
theorem te_or {Q : Bool → Hp → Prop} (h : tT z E (fOrB ga gb) σ H Q) : tOr (tT z E ga) (tT z E gb) σ H Q := by
  obtain ⟨T, G, env, r, h⟩ := h
  refine ⟨T, G, env, r, (Pg.bind h).imp fun p hp H' G' r' e => ?_⟩
  obtain ⟨p1, p2⟩ := p
  cases p1 with
  | false => exact ⟨T, G', p2, r', (show Pg z E _ (gb p2) from hp).imp fun q hq => hq.mono e⟩
  | true => exact hp H' G' r' e
theorem ww_and1 (ha : PT X a (tT z E ga)) : PW X (.BoolOp .And [a] pos) (tT z E ga) := pw_and1 ha
theorem ww_or1 (ha : PT X a (tT z E ga)) : PW X (.BoolOp .Or [a] pos) (tT z E ga) := pw_or1 ha
theorem ww_and (ha : PT X a (tT z E ga)) (hb : PW X (.BoolOp .And (b :: rest) pos) (tT z E gb)) : PW X (.BoolOp .And (a :: b :: rest) pos) (tT z E (fAndB ga gb)) := pw_mono (pw_and ha hb) fun _ _ _ h => te_and h
theorem ww_or (ha : PT X a (tT z E ga)) (hb : PW X (.BoolOp .Or (b :: rest) pos) (tT z E gb)) : PW X (.BoolOp .Or (a :: b :: rest) pos) (tT z E (fOrB ga gb)) := pw_mono (pw_or ha hb) fun _ _ _ h => te_or h
theorem te_bOf' {f : F} {Q : Bool → Hp → Prop} (h : tT z E (bOf f) σ H Q) : tE z E f σ H fun x H' => ∃ k, x = .bl k ∧ Q k H' := te_bOf h
/-- a bool, then what follows -/
theorem te_bthen {f : F} {kk : Bool × Ev → Out (R × Ev)} {Q : VK} (h : tE z E (fun env => (bOf f env).bind kk) σ H Q) : tE z E f σ H fun x H' => ∃ k, x = .bl k ∧ ∃ T G env, Rep z T G H' env σ ∧ Pg z E (CR z T σ G Q) (kk (k, env)) := by
  obtain ⟨T, G, env, r, h⟩ := h
  refine ⟨T, G, env, r, (Pg.bind (Pg.bind h)).imp fun p hp v H' G' r' e w => ?_⟩
  obtain ⟨p1, p2⟩ := p
  dsimp only at hp
  split at hp
  · rename_i b
    have w : Is z.K z.cl G' v (.bl b) := w
    cases w
    exact ⟨b, rfl, T, G', p2, r', (show Pg z E _ (kk (b, p2)) from hp).imp fun q hq => hq.mono e⟩
  · exact hp.elim
theorem we_one {op} {f : F} (h : PE X a (tE z E f)) : PE X (.BoolOp op [a] pos) (tE z E f) := pe_one h
theorem we_and (ha : PE X a (tE z E fa)) (hb : PE X (.BoolOp .And (b :: rest) pos) (tE z E fb)) : PE X (.BoolOp .And (a :: b :: rest) pos) (tE z E (fAndV fa fb)) := pe_mono (pe_and ha hb) fun σ H Q h => by
  refine te_imp (fun v H' q => ?_) (te_bthen h)
  obtain ⟨k, rfl, T, G, env, r, q⟩ := q
  refine ⟨k, rfl, ?_⟩
  cases k with
  | true => exact ⟨T, G, env, r, q⟩
  | false => exact q _ H' G r (Ex.refl G) (.bl false)
theorem we_or (ha : PE X a (tE z E fa)) (hb : PE X (.BoolOp .Or (b :: rest) pos) (tE z E fb)) : PE X (.BoolOp .Or (a :: b :: rest) pos) (tE z E (fOrV fa fb)) := pe_mono (pe_or ha hb) fun σ H Q h => by
  refine te_imp (fun v H' q => ?_) (te_bthen h)
  obtain ⟨k, rfl, T, G, env, r, q⟩ := q
  refine ⟨k, rfl, ?_⟩
  cases k with
  | false => exact ⟨T, G, env, r, q⟩
  | true => exact q _ H' G r (Ex.refl G) (.bl true)
theorem we_not (ha : PE X a (tE z E fa)) : PE X (.UnaryOp .Not a pos) (tE z E (fNotV fa)) := pe_mono (pe_not ha) fun σ H Q h => by
  refine te_imp (fun v H' q => ?_) (te_bthen h)
  obtain ⟨k, rfl, T, G, env, r, q⟩ := q
  exact ⟨k, rfl, q _ H' G r (Ex.refl G) (.bl _)⟩
theorem we_if (hc : PT X c (tT z E ga)) (ha : PE X a (tE z E fa)) (hb : PE X b (tE z E fb)) : PE X (.IfExp c a b pos) (tE z E (fIf ga fa fb)) := pe_mono (pe_ifExp hc ha hb) fun σ H Q ⟨T, G, env, r, h⟩ => by
  refine ⟨T, G, env, r, (Pg.bind h).imp fun p hp H' G' r' e => ?_⟩
  obtain ⟨p1, p2⟩ := p
  cases p1 with
  | true => exact ⟨T, G', p2, r', (show Pg z E _ (fa p2) from hp).imp fun q hq => hq.mono e⟩
  | false => exact ⟨T, G', p2, r', (show Pg z E _ (fb p2) from hp).imp fun q hq => hq.mono e⟩
end

/-! ### chains -/
def fChain (op op' : D → D → Out R0) (fa fb fc : F) : F := fun env => (fa env).bind fun p => (fb p.2).bind fun q => (ofO (p.1.opd.der q.2)).bind fun x => (ofO (q.1.opd.der q.2)).bind fun y =>
  match op x y with
  | .ok (.d (.bl false)) => .ok (.d (.bl false), q.2)
  | .ok (.d (.bl true)) => (fc q.2).bind fun s => (ofO (q.1.opd.der s.2)).bind fun y => (ofO (s.1.opd.der s.2)).bind fun w => (op' y w).bind fun o => .ok (o.r, s.2)
  | _ => .no
section
variable {X : Cx} {z : Z} {E : XK} {n : Nat} {pos : Pos} {a b c : Expr} {fa fb fc : F} {σ : L2.St} {H : Hp}
theorem te_chain {op op' : D → D → Out R0} {r r' : R2} (hx : ∀ x y c d, op x y ≠ .exc c d) (hr : ∀ G H x y dx dy Q, Ex G H → IsT z.K z.cl G H x dx → IsT z.K z.cl G H y dy → P0 z G H Q (op dx dy) → r x y H Q)
    (hx' : ∀ x y c d, op' x y ≠ .exc c d) (hr' : ∀ G H x y dx dy Q, Ex G H → IsT z.K z.cl G H x dx → IsT z.K z.cl G H y dy → P0 z G H Q (op' dx dy) → r' x y H Q) {Q : VK} (h : tE z E (fChain op op' fa fb fc) σ H Q) : tChain r r' (tE z E fa) (tE z E fb) (tE z E fc) σ H Q := by
  obtain ⟨T, G, env, rp, h⟩ := h
  refine ⟨T, G, env, rp, (Pg.bind h).imp fun p hp v H1 G1 r1 e1 w1 => ?_⟩
  obtain ⟨G1', r1', e1', w1'⟩ := w1.opd r1
  refine ⟨T, G1', p.2, r1', (Pg.bind hp).imp fun q hq u H2 G2 r2 e2 w2 => ?_⟩
  obtain ⟨G2', r2', e2', w2'⟩ := w2.opd r2
  obtain ⟨dx, ex, hq⟩ := (Pg.bind hq).ofO
  obtain ⟨dy, ey, hq⟩ := (Pg.bind hq).ofO
  have x2 : Ex G1' G2' := e2.trans e2'
  have ix := (w1'.mono (fun xs => R.opd_nn _ _) x2).der r2' ex
  have iy := w2'.der r2' ey
  have eg : Ex G G2' := (e1.trans e1').trans x2
  refine hr G2' H2 v u dx dy _ r2'.f.exG ix iy ?_
  split at hq
  · rename_i e
    rw [e]
    intro v' w'
    cases w'
    exact ⟨false, rfl, hq _ H2 G2' r2' eg (.bl false)⟩
  · rename_i e
    rw [e]
    intro v' w'
    cases w'
    refine ⟨true, rfl, ?_⟩
    refine ⟨T, G2', q.2, r2', (Pg.bind hq).imp fun s hs t H3 G3 r3 e3 w3 => ?_⟩
    obtain ⟨G3', r3', e3', w3'⟩ := w3.opd r3
    obtain ⟨dy', ey', hs⟩ := (Pg.bind hs).ofO
    obtain ⟨dw, ew, hs⟩ := (Pg.bind hs).ofO
    have x3 : Ex G2' G3' := e3.trans e3'
    refine hr' G3' H3 u t dy' dw Q r3'.f.exG ((w2'.mono (fun xs => R.opd_nn _ _) x3).der r3' ey') (w3'.der r3' ew) (p0_end (E := E) r3' ?_ (hx' _ _))
    exact (Pg.bind hs).imp fun o ho => CR.mono ho (eg.trans x3)
  · exact hq.elim
theorem we_chain {o o' : CmpOp} {op op' : D → D → Out R0} (ho : OpD X z (compareOp o) op) (ho' : OpD X z (compareOp o') op') (ha : PE X a (tE z E fa)) (hb : PE X b (tE z E fb)) (hc : PE X c (tE z E fc)) (hm : lastMarks [o, o'] [b, c] = false := by with_unfolding_all rfl) :
    PE X (.Compare a [o, o'] [b, c] pos) (tE z E (fChain op op' fa fb fc)) := by
  obtain ⟨r, h1, h2⟩ := ho.run
  obtain ⟨r', h1', h2'⟩ := ho'.run
  exact pe_mono (pe_chain h1 h1' ha hb hc hm) fun _ _ _ h => te_chain ho.nx h2 ho'.nx h2' h
theorem wt_chain {o o' : CmpOp} {op op' : D → D → Out R0} (ho : OpD X z (compareOp o) op) (ho' : OpD X z (compareOp o') op') (ha : PE X a (tE z E fa)) (hb : PE X b (tE z E fb)) (hc : PE X c (tE z E fc)) (hm : lastMarks [o, o'] [b, c] = false := by with_unfolding_all rfl) :
    PT X (.Compare a [o, o'] [b, c] pos) (tT z E (bOf (fChain op op' fa fb fc))) := by
  obtain ⟨r, h1, h2⟩ := ho.run
  obtain ⟨r', h1', h2'⟩ := ho'.run
  exact pt_mono (pt_chain h1 h1' ha hb hc hm) fun _ _ _ h => te_chain ho.nx h2 ho'.nx h2' (te_bOf h)
end

/-! ### argument lists, displays -/
def aNil : FA := fun env => .ok ([], env)
def aCons (f : F) (g : FA) : FA := fun env => (f env).bind fun p => (g p.2).bind fun q => .ok (p.1.opd :: q.1, q.2)
def fTup (g : FA) : F := fun env => (g env).bind fun p => match fixAll p.2 p.1 with
  | some (ds, e) => if ds.length ≤ 100000 then .ok (.d (.tup ds), e) else .no
  | none => .no
def fLst (g : FA) : F := fun env => (g env).bind fun p => match fixAll p.2 p.1 with
  | some (ds, e) => if ds.length ≤ 100000 then .ok (.new ds, e) else .no
  | none => .no
theorem line100 {n : Nat} (h : n ≤ 100000) : n ≤ sizeLine := Nat.le_trans h (by decide)
theorem line100' {n : Nat} (h : n < 100000) : n < sizeLine := Nat.lt_of_lt_of_le h (by decide)
section
variable {X : Cx} {z : Z} {E : XK} {n : Nat} {pos : Pos} {e : Expr} {es : List Expr} {f : F} {g : FA} {σ : L2.St} {H : Hp}
theorem wa_nil' : PA X [] (tAr z E aNil) := pa_mono pa_nil fun σ H Q ⟨T, G, env, r, h⟩ => h [] H G r (Ex.refl G) trivial
theorem wa_cons' (he : PE X e (tE z E f)) (ha : PA X es (tAr z E g)) (hs : starEach (e :: es) X.env = (false, eval e X.env) :: starEach es X.env := by rfl) : PA X (e :: es) (tAr z E (aCons f g)) := pa_mono (pa_cons he ha hs) fun σ H Q ⟨T, G, env, r, h⟩ => by
  refine ⟨T, G, env, r, (Pg.bind h).imp fun p hp v H1 G1 r1 e1 w1 => ?_⟩
  obtain ⟨G1', r1', e1', w1'⟩ := w1.opd r1
  refine ⟨T, G1', p.2, r1', (Pg.bind hp).imp fun q hq vs H2 G2 r2 e2 w2 => ?_⟩
  exact hq (v :: vs) H2 G2 r2 ((e1.trans e1').trans e2) ⟨⟨w1'.mono (fun xs => R.opd_nn _ _) e2, fun xs => R.opd_nn _ _⟩, w2⟩
/-- an argument list of n arguments -/
structure WA (X : Cx) (z : Z) (E : XK) (es : List Expr) (g : FA) (n : Nat) : Prop where
  pa : PA X es (tAr z E g)
  len : ∀ env rs e2, g env = .ok (rs, e2) → rs.length = n
theorem wa_nil : WA X z E [] aNil 0 := ⟨wa_nil', fun env rs e2 h => by cases h; rfl⟩
theorem wa_cons (he : PE X e (tE z E f)) (ha : WA X z E es g n) (hs : starEach (e :: es) X.env = (false, eval e X.env) :: starEach es X.env := by rfl) : WA X z E (e :: es) (aCons f g) (n + 1) := ⟨wa_cons' he ha.pa hs, fun env rs e2 h => by
  unfold aCons at h
  cases h1 : f env with
  | no => rw [h1] at h; cases h
  | exc c d => rw [h1] at h; cases h
  | ok p =>
    rw [h1] at h
    have h : (g p.2).bind (fun q => Out.ok (p.1.opd :: q.1, q.2)) = Out.ok (rs, e2) := h
    cases h2 : g p.2 with
    | no => rw [h2] at h; cases h
    | exc c d => rw [h2] at h; cases h
    | ok q =>
      rw [h2] at h
      cases h
      exact congrArg (· + 1) (ha.len p.2 q.1 q.2 h2)⟩
theorem we_tup {x1} (ha : WA X z E es g n) : PE X (.Tuple es x1 pos) (tE z E (fTup g)) := pe_mono (pe_tup ha.pa) fun σ H Q ⟨T, G, env, r, h⟩ => by
  refine ⟨T, G, env, r, (Pg.bind h).imp fun p hp vs H1 G1 r1 e1 w1 => ?_⟩
  split at hp
  · rename_i ds en q
    obtain ⟨G2, r2, e2, a⟩ := w1.fix r1 q
    split at hp
    · rename_i hl
      refine ⟨by rw [a.length]; exact line100 hl, fun p' hp' => ?_⟩
      have gn := (r2.nn hp').1
      exact hp _ _ _ (r2.grow hp') ((e1.trans e2).trans (Ex.new gn)) (.tup (.inl (.inl upd_same)) (a.mono (Ex.new gn)))
    · exact hp.elim
  · exact hp.elim
theorem we_lst (ha : WA X z E es g n) : PE X (.List es pos) (tE z E (fLst g)) := pe_mono (pe_lst ha.pa) fun σ H Q ⟨T, G, env, r, h⟩ => by
  refine ⟨T, G, env, r, (Pg.bind h).imp fun p hp vs H1 G1 r1 e1 w1 => ?_⟩
  split at hp
  · rename_i ds en q
    obtain ⟨G2, r2, e2, a⟩ := w1.fix r1 q
    split at hp
    · rename_i hl
      refine ⟨by rw [a.length]; exact line100 hl, fun p' hp' => ?_⟩
      obtain ⟨n1, n2, n3, n4, n5⟩ := r2.nn hp'
      exact hp _ _ _ (r2.alloc hp') (e1.trans e2) ⟨p', vs, rfl, upd_same, a, n1, n2, n3, n4, n5⟩
    · exact hp.elim
  · exact hp.elim
/-- {} -/
def fDct : F := fun env => .ok (.d .dct, env)
theorem we_dct : PE X (.Dict [] [] pos) (tE z E fDct) := pe_mono pe_dnewK fun σ H Q ⟨T, G, env, r, h⟩ => fun p hp => by
  have gn := (r.nn hp).1
  exact h _ _ _ (r.grow hp) (Ex.new gn) (.dct upd_same)
end

/-! ### subscripts -/
structure IxD (X : Cx) (z : Z) (op : D → D → Out R0) : Prop where
  run : ∃ r : R2, IxR X r ∧ ∀ G H x y dx dy Q, Ex G H → IsT z.K z.cl G H x dx → IsT z.K z.cl G H y dy → P0 z G H Q (op dx dy) → r x y H Q
  nx : ∀ x y c d, op x y ≠ .exc c d
section
variable {X : Cx} {z : Z} {E : XK} {n : Nat} {pos : Pos} {a b : Expr} {fa fb : F}
theorem we_ix {op : D → D → Out R0} (ho : IxD X z op) (ha : PE X a (tE z E fa)) (hb : PE X b (tE z E fb)) (hs : PlainIx b := by intro _ _; rfl) : PE X (.Subscript a b pos) (tE z E (fBin op fa fb)) := by
  obtain ⟨r, h1, h2⟩ := ho.run
  exact pe_mono (pe_ix h1 ha hb hs) fun _ _ _ h => te_bin ho.nx h2 h
end
abbrev FO := Ev → Out (Option Int × Ev)
def oNone : FO := fun env => .ok (none, env)
def oSome (f : F) : FO := fun env => (f env).bind fun p => match p.1 with
  | .d (.int i) => .ok (some i, p.2)
  | _ => .no
abbrev CO (z : Z) (T : Hp) (σ : L2.St) (G : Hp) (Q : Option Int → Hp → Prop) : Option Int × Ev → Prop := fun p => ∀ H' G', Rep z T G' H' p.2 σ → Ex G G' → Q p.1 H'
def tOr' (z : Z) (E : XK) (f : FO) : TO := fun σ H Q => ∃ T G env, Rep z T G H env σ ∧ Pg z E (CO z T σ G Q) (f env)
structure SlD (X : Cx) (z : Z) (op : D → Option Int → Option Int → Out R0) : Prop where
  run : ∃ r, SlR X r ∧ ∀ G H x lo hi dx Q, Ex G H → IsT z.K z.cl G H x dx → P0 z G H Q (op dx lo hi) → r x lo hi H Q
  nx : ∀ x y w c d, op x y w ≠ .exc c d
def fSl (op : D → Option Int → Option Int → Out R0) (f : F) (lo hi : FO) : F := fun env => (f env).bind fun p => (lo p.2).bind fun q => (hi q.2).bind fun s => (ofO (p.1.opd.der s.2)).bind fun x => (op x q.1 s.1).bind fun o => .ok (o.r, s.2)
section
variable {X : Cx} {z : Z} {E : XK} {n : Nat} {pos p2 : Pos} {e : Expr} {f : F} {lo hi : Option Expr} {fl fh : FO}
theorem wo_none : PO X none (tOr' z E oNone) := ⟨fun pins s σ H Q I ⟨T, G, env, r, h⟩ => po_none.run pins s σ H Q I (h H G r (Ex.refl G))⟩
theorem wo_some (he : PE X e (tE z E f)) : PO X (some e) (tOr' z E (oSome f)) := ⟨fun pins s σ H Q I h => (po_some he).run pins s σ H Q I (by
  obtain ⟨T, G, env, r, h⟩ := h
  refine ⟨T, G, env, r, (Pg.bind h).imp fun p hp v H' G' r' x w => ?_⟩
  obtain ⟨p1, p2⟩ := p
  dsimp only at hp
  split at hp
  · rename_i i
    have w : Is z.K z.cl G' v (.int i) := w
    cases w
    exact ⟨i, rfl, hp H' G' r' x⟩
  · exact hp.elim)⟩
theorem we_slice {op : D → Option Int → Option Int → Out R0} (ho : SlD X z op) (he : PE X e (tE z E f)) (hl : PO X lo (tOr' z E fl)) (hh : PO X hi (tOr' z E fh)) : PE X (.Subscript e (.Slice lo hi none p2) pos) (tE z E (fSl op f fl fh)) := by
  obtain ⟨r, h1, h2⟩ := ho.run
  refine pe_mono (pe_slice h1 he hl hh) fun σ H Q ⟨T, G, env, r, h⟩ => ?_
  refine ⟨T, G, env, r, (Pg.bind h).imp fun p hp v H1 G1 r1 e1 w1 => ?_⟩
  obtain ⟨G1', r1', e1', w1'⟩ := w1.opd r1
  refine ⟨T, G1', p.2, r1', (Pg.bind hp).imp fun q hq H2 G2 r2 e2 => ?_⟩
  refine ⟨T, G2, q.2, r2, (Pg.bind hq).imp fun s hs H3 G3 r3 e3 => ?_⟩
  obtain ⟨dx, ex, hs⟩ := (Pg.bind hs).ofO
  exact h2 G3 H3 v _ _ dx Q r3.f.exG ((w1'.mono (fun xs => R.opd_nn _ _) (e2.trans e3)).der r3 ex) (p0_end (E := E) r3 ((Pg.bind hs).imp fun o ho => CR.mono ho ((e1.trans e1').trans (e2.trans e3))) (ho.nx _ _ _))
end

/-! ### built-ins -/
def IsTs (K : PySem.W.Frag) (cl : Cl) (G H : Hp) : List V → List D → Prop
  | [], [] => True
  | v :: vs, d :: ds => IsT K cl G H v d ∧ IsTs K cl G H vs ds
  | _, _ => False
structure CallD (X : Cx) (z : Z) (f : Value) (op : List D → Out R0) : Prop where
  run : ∃ r, CallR X f r ∧ ∀ G H vs ds Q, Ex G H → IsTs z.K z.cl G H vs ds → P0 z G H Q (op ds) → r vs H Q
  nx : ∀ x c d, op x ≠ .exc c d
def derAll (env : Ev) : List R → Option (List D)
  | [] => some []
  | r :: rs => match r.der env with
    | some d => match derAll env rs with
      | some ds => some (d :: ds)
      | none => none
    | none => none
def fBi (op : List D → Out R0) (g : FA) : F := fun env => (g env).bind fun p => (ofO (derAll p.2 p.1)).bind fun ds => (op ds).bind fun o => .ok (o.r, p.2)
section
variable {X : Cx} {z : Z} {E : XK} {n : Nat} {pos p : Pos} {e : Expr} {es : List Expr} {g : FA} {x : Str} {id : String}
theorem VRs.der {T G H : Hp} {env : Ev} {σ : L2.St} (r : Rep z T G H env σ) : ∀ {vs : List V} {rs : List R} {ds : List D}, VRs z T G H env σ vs rs → derAll env rs = some ds → IsTs z.K z.cl G H vs ds
  | [], [], _, _, e => by cases e; trivial
  | v :: vs, s :: rs, ds, ⟨⟨h, _⟩, t⟩, e => by
    unfold derAll at e
    split at e
    · rename_i d q
      split at e
      · rename_i ds' q2
        cases e
        exact ⟨h.der r q, VRs.der r t q2⟩
      · cases e
    · cases e
theorem te_bi {op : List D → Out R0} {r : List V → Hp → VK → Prop} (nx : ∀ x c d, op x ≠ .exc c d) (hr : ∀ G H vs ds Q, Ex G H → IsTs z.K z.cl G H vs ds → P0 z G H Q (op ds) → r vs H Q) {σ : L2.St} {H : Hp} {Q : VK} (h : tE z E (fBi op g) σ H Q) : tCB r (tAr z E g) σ H Q := by
  obtain ⟨T, G, env, rp, h⟩ := h
  refine ⟨T, G, env, rp, (Pg.bind h).imp fun p hp vs H1 G1 r1 e1 w1 => ?_⟩
  obtain ⟨ds, ed, hp⟩ := (Pg.bind hp).ofO
  exact hr G1 H1 vs ds Q r1.f.exG (w1.der r1 ed) (p0_end (E := E) r1 ((Pg.bind hp).imp fun o ho => CR.mono ho e1) (nx _))
theorem we_bi {op : List D → Out R0} (hc : CallD X z (.builtin id) op) (hm : X.mg x = none) (hv : bootBuiltins x = some (.builtin id)) (ha : WA X z E (e :: es) g n) (hg : Gl X x := by rfl) (hn : x ≠ "__name__" := by decide) (hdb : (x == ("__debug__" : Str)) = false := by decide)
    (hs : starEach (e :: es) X.env = (false, eval e X.env) :: starEach es X.env := by rfl) (hpl : (backTo pos (starEach es X.env)).any (·.1) = false := by rfl) : PE X (.Call (.Name x p) (e :: es) [] pos) (tE z E (fBi op g)) := by
  obtain ⟨r, h1, h2⟩ := hc.run
  exact pe_mono (pe_callB h1 hg hm hv ha.pa hn hdb hs hpl) fun _ _ _ h => te_bi hc.nx h2 h
theorem we_ty {op : List D → Out R0} (hc : CallD X z (.type id) op) (hm : X.mg x = none) (hv : bootBuiltins x = some (.type id)) (ha : WA X z E (e :: es) g n) (hg : Gl X x := by rfl) (hn : x ≠ "__name__" := by decide) (hdb : (x == ("__debug__" : Str)) = false := by decide)
    (hs : starEach (e :: es) X.env = (false, eval e X.env) :: starEach es X.env := by rfl) (hpl : (backTo pos (starEach es X.env)).any (·.1) = false := by rfl) : PE X (.Call (.Name x p) (e :: es) [] pos) (tE z E (fBi op g)) := by
  obtain ⟨r, h1, h2⟩ := hc.run
  exact pe_mono (pe_callTy h1 hg hm hv ha.pa hn hdb hs hpl) fun _ _ _ h => te_bi hc.nx h2 h
end
end TN
namespace TN
open PySem PySem.Spec PyProof.Rows L2

/-! ### defs -/
/-- what a def comes to: its result; the list of its first argument behind it, where it writes that -/
abbrev Fn := List D → Out (R0 × List D)
def Z.at_ (z : Z) (G H : Hp) (M : Option Addr) : Z := { z with G0 := G, H0 := H, M := M }
def ResOk (z : Z) (G H : Hp) (v : V) : R0 → Prop
  | .d d => Is z.K z.cl G v d
  | .ls xs => ∃ p vs, v = .ref p ∧ H p = some (.lst vs) ∧ IsA z.K z.cl G vs xs ∧ G p = none ∧ z.H0 p = none ∧ z.M ≠ some p
  | .tp _ => False
/-- the arguments -/
inductive Args' (z : Z) (G H : Hp) : Bool → List V → List D → Option Addr → Prop
  | pure {vs : List V} {ds : List D} : IsA z.K z.cl G vs ds → Args' z G H false vs ds none
  | wr {p : Addr} {ws vs : List V} {xs ds : List D} : G p = none → H p = some (.lst ws) → IsA z.K z.cl G ws xs → IsA z.K z.cl G vs ds → Args' z G H true (.ref p :: vs) (.lst xs :: ds) (some p)
def FEnd (z : Z) (Q : VK) : R0 × List D → Prop := fun q => ∀ v H' G', Fr z G' H' → ResOk z G' H' v q.1 → (∀ a, z.M = some a → ∃ ws, H' a = some (.lst ws) ∧ IsA z.K z.cl G' ws q.2) → Q v H'
/-- a def's promise -/
def spF (z : Z) (m : Bool) (n : Nat) (φ : Fn) : Sp := fun vs H Q E => ∃ G ds M, Args' z G H m vs ds M ∧ Ex G H ∧ vs.length = n ∧ Pg (z.at_ G H M) E (FEnd (z.at_ G H M) Q) (φ ds)
def putL (φ : Fn) (ds : List D) (e : Ev) (i : Nat) : Out (R × Ev) := match e[i]? with
  | some (.own xs) => (φ (.lst xs :: ds)).bind fun s => .ok (s.1.r, e.set i (.own s.2))
  | some (.par xs) => (φ (.lst xs :: ds)).bind fun s => .ok (s.1.r, e.set i (.par s.2))
  | _ => .no
def callK (φ : Fn) : Bool → List R → Ev → Out (R × Ev)
  | false, rs, e => (ofO (fixAll e rs)).bind fun q => (φ q.1).bind fun s => .ok (s.1.r, q.2)
  | true, .at_ i :: rs, e => (ofO (fixAll e rs)).bind fun q => putL φ q.1 q.2 i
  | true, _, _ => .no
def fCall (m : Bool) (φ : Fn) (g : FA) : F := fun env => (g env).bind fun p => callK φ m p.1 p.2
section
variable {z : Z} {E : XK} {T G G' H H' : Hp} {env env' : Ev} {σ : L2.St} {M : Option Addr}
theorem Fr.in (f : Fr z G H) (hM : ∀ a, M = some a → z.H0 a = none ∨ z.M = some a) (f' : Fr (z.at_ G H M) G' H') : Fr z G' H' := by
  refine ⟨f'.exG, f.g0.trans f'.g0, fun a ha => ?_, fun a o ha hm => ?_, fun a ha => ?_, f.m0⟩
  · rcases f'.gn a ha with h | h
    · exact f.gn a h
    · exact .inr (f.nn h).2.1
  · have h := f.fr a o ha hm
    refine f'.fr a o h fun e => ?_
    rcases hM a e with q | q
    · rw [q] at ha; cases ha
    · exact hm q
  · by_cases e : M = some a
    · exact f'.mm a e
    · obtain ⟨⟨vs, h⟩, g⟩ := f.mm a ha
      refine ⟨⟨vs, f'.fr a _ h e⟩, ?_⟩
      cases q : G' a with
      | none => rfl
      | some o =>
        rcases f'.gn a (by rw [q]; intro w; cases w) with w | w
        · exact absurd g w
        · exact absurd w (by show H a ≠ none; rw [h]; intro w; cases w)
theorem PX.in (f : Fr z G H) (hM : ∀ a, M = some a → z.H0 a = none ∨ z.M = some a) {c : Nat} {d : D} (h : PX z E c d) : PX (z.at_ G H M) E c d := fun H' x ⟨G', f', q⟩ => h H' x ⟨G', f.in hM f', q⟩
theorem Pg.in {α : Type} {C C' : α → Prop} (f : Fr z G H) (hM : ∀ a, M = some a → z.H0 a = none ∨ z.M = some a) (i : ∀ a, C a → C' a) : ∀ {x : Out α}, Pg z E C x → Pg (z.at_ G H M) E C' x
  | .ok _, h => i _ h
  | .exc _ _, h => PX.in f hM h
  | .no, h => h
/-- the names behind a call -/
theorem Rep.back (r : Rep z T G H env σ) (hM : ∀ a, M = some a → z.H0 a = none ∨ z.M = some a) (f' : Fr (z.at_ G H M) G' H') (hl : env'.length = env.length) (hs : ∀ (i : Nat) (s : Sl), env'[i]? = some s → (env[i]? = some s ∧ (s.ow = true → ∀ q, σ[i]?.join = some (.ref q) → M ≠ some q)) ∨ SlOk z T G' H' (σ[i]?.join) s)
    (ho : ∀ i q, Ow env' σ i q → Ow env σ i q) (hT : ∀ a, T a ≠ none → M ≠ some a) : Rep z T G' H' env' σ := by
  have gNone : ∀ a, G a = none → H a ≠ none → G' a = none := fun a g h => by
    cases q : G' a with
    | none => rfl
    | some o =>
      rcases f'.gn a (by rw [q]; intro w; cases w) with w | w
      · exact absurd g w
      · exact absurd w h
  refine ⟨r.f.in hM f', hl.trans r.len, fun i s es => ?_, fun i j p h1 h2 => r.dis i j p (ho i p h1) (ho j p h2), fun a o ha => ?_, fun a ha => ?_, r.t0⟩
  · rcases hs i s es with ⟨e0, w⟩ | h
    · refine (r.sl i s e0).to f'.g0 (fun q os eq => ?_) r.f.m0
      obtain ⟨vs, g, t, hq⟩ := r.own (i := i) (p := q) ⟨⟨s, e0, os⟩, eq⟩
      refine ⟨?_, fun _ => gNone q g (by rw [hq]; intro w; cases w)⟩
      rw [hq]
      exact f'.fr q _ hq (w os q eq)
    · exact h
  · exact f'.fr a o (r.exT a o ha) (hT a (by rw [ha]; intro w; cases w))
  · refine gNone a (r.gt a ha) ?_
    cases q : T a with
    | none => exact absurd q ha
    | some o => rw [r.exT a o q]; intro w; cases w
theorem ResOk.vr {v : V} {q : R0} (r : Rep z T G H env σ) (r' : Rep z T G' H' env' σ) (f' : Fr (z.at_ G H M) G' H') (ho : ∀ i q, Ow env' σ i q → Ow env σ i q) (h : ResOk (z.at_ G H M) G' H' v q) : VR z T G' H' env' σ v q.r := by
  cases q with
  | d d => exact h
  | ls xs =>
    obtain ⟨p, vs, e, hp, a, g, h0, hm⟩ := h
    obtain ⟨n1, n2, n3, n4, n5⟩ := r.nn (show H p = none from h0)
    exact ⟨p, vs, e, hp, a, g, n2, n3, n4, fun i w => n5 i (ho i p w)⟩
  | tp xs => exact h.elim
end
section
variable {X : Cx} {z : Z} {E : XK} {k n : Nat} {f : Addr} {fd : FuncData} {ps : List Str} {x : Str} {p pos : Pos} {e : Expr} {es : List Expr} {m : Bool} {φ : Fn} {g : FA} {σ : L2.St} {H : Hp} {Q : VK}
theorem te_call (h : tE z E (fCall m φ g) σ H Q) (hln : ∀ env rs e2, g env = .ok (rs, e2) → rs.length = n) : tCall (spF z m n φ) [] E (tAr z E g) σ H Q := by
  obtain ⟨T, G, env, r, h⟩ := h
  have h' := Pg.bind h
  refine ⟨T, G, env, r, ?_⟩
  cases hq : g env with
  | no => rw [hq] at h'; exact h'
  | exc c d => rw [hq] at h'; exact h'
  | ok p =>
    rw [hq] at h'
    obtain ⟨rs, e2⟩ := p
    have hl := hln env rs e2 hq
    intro vs H1 G1 r1 e1 w1
    rw [List.append_nil]
    have lv : vs.length = n := w1.length.trans hl
    have h' : Pg z E (CR z T σ G Q) (callK φ m rs e2) := h'
    cases m with
    | false =>
      obtain ⟨⟨ds, e3⟩, ef, h'⟩ := (Pg.bind h').ofO
      obtain ⟨G2, r2, x2, a⟩ := w1.fix r1 ef
      have hM : ∀ a, (none : Option Addr) = some a → z.H0 a = none ∨ z.M = some a := fun a e => by cases e
      refine ⟨G2, ds, none, .pure a, r2.f.exG, lv, Pg.in r2.f hM (fun s hs => ?_) (Pg.bind h')⟩
      intro v H' G' f' ro _
      have r3 : Rep z T G' H' e3 σ := r2.back hM f' rfl (fun i s es => .inl ⟨es, fun _ _ _ w => by cases w⟩) (fun _ _ w => w) (fun _ _ w => by cases w)
      exact hs v H' G' r3 ((e1.trans x2).trans f'.g0) (ro.vr r2 r3 f' fun _ _ w => w)
    | true =>
      cases rs with
      | nil => exact h'.elim
      | cons r0 rs =>
        cases r0 with
        | d d => exact h'.elim
        | new xs => exact h'.elim
        | at_ i =>
          cases vs with
          | nil => exact w1.elim
          | cons v0 vs =>
            obtain ⟨⟨w0, _⟩, w1⟩ := w1
            obtain ⟨⟨ds, e3⟩, ef, h'⟩ := (Pg.bind h').ofO
            obtain ⟨G2, r2, x2, a⟩ := w1.fix r1 ef
            have w0 : σ[i]?.join = some v0 := w0
            have main : ∀ (sl : List D → Sl) (xs : List D), e3[i]? = some (sl xs) → ((sl = .own) ∨ (sl = .par)) → Pg z E (CR z T σ G Q) ((φ (.lst xs :: ds)).bind fun s => .ok (s.1.r, e3.set i (sl s.2))) → spF z true n φ (v0 :: vs) H1 Q E := by
              intro sl xs ei hsl h'
              have os : ∀ ys, (sl ys).ow = true := fun ys => by rcases hsl with e | e <;> (rw [e]; rfl)
              have inf : ∃ p ws, v0 = .ref p ∧ G2 p = none ∧ T p = none ∧ H1 p = some (.lst ws) ∧ IsA z.K z.cl G2 ws xs ∧ (sl = .own ∧ z.H0 p = none ∨ sl = .par ∧ z.M = some p) := by
                have q := r2.sl i _ ei
                rw [w0] at q
                rcases hsl with e | e
                · rw [e] at q
                  obtain ⟨p, ws, ev, g1, t, h0, hp, a⟩ := q
                  exact ⟨p, ws, Option.some.inj ev, g1, t, hp, a, .inl ⟨e, h0⟩⟩
                · rw [e] at q
                  obtain ⟨p, ws, ev, t, hm, hp, a⟩ := q
                  exact ⟨p, ws, Option.some.inj ev, (r2.f.mm p hm).2, t, hp, a, .inr ⟨e, hm⟩⟩
              obtain ⟨p, ws, ev, g1, t, hp, a1, hk⟩ := inf
              subst ev
              have how : Ow e3 σ i p := ⟨⟨_, ei, os xs⟩, w0⟩
              have hM : ∀ a, some p = some a → z.H0 a = none ∨ z.M = some a := fun a e => by
                cases e
                rcases hk with ⟨_, h⟩ | ⟨_, h⟩
                · exact .inl h
                · exact .inr h
              refine ⟨G2, .lst xs :: ds, some p, .wr g1 hp a1 a, r2.f.exG, lv, Pg.in r2.f hM (fun s hs => ?_) (Pg.bind h')⟩
              intro v H' G' f' ro mm
              obtain ⟨ws', hp', a'⟩ := mm p rfl
              have ho : ∀ j q, Ow (e3.set i (sl s.2)) σ j q → Ow e3 σ j q := fun j q w => w.of_set fun _ => ⟨_, ei, os xs⟩
              have g' : G' p = none := (f'.mm p rfl).2
              have r3 : Rep z T G' H' (e3.set i (sl s.2)) σ := by
                refine r2.back hM f' (List.length_set ..) (fun j s' es => ?_) ho (fun b hb e => ?_)
                · by_cases q : i = j
                  · subst q
                    rw [List.getElem?_set_self (getElem?_lt ei)] at es
                    cases es
                    right
                    rw [w0]
                    rcases hk with ⟨e, h⟩ | ⟨e, h⟩
                    · rw [e]; exact ⟨p, ws', rfl, g', t, h, hp', a'⟩
                    · rw [e]; exact ⟨p, ws', rfl, t, h, hp', a'⟩
                  · rw [List.getElem?_set_ne q] at es
                    refine .inl ⟨es, fun o q' eq w => q (r2.dis i j p how ⟨⟨_, es, o⟩, ?_⟩)⟩
                    cases w
                    exact eq
                · cases e; exact hb t
              exact hs v H' G' r3 ((e1.trans x2).trans f'.g0) (ro.vr r2 r3 f' ho)
            have h' : Pg z E (CR z T σ G Q) (putL φ ds e3 i) := h'
            unfold putL at h'
            split at h'
            · rename_i xs ei; exact main .own xs ei (.inl rfl) h'
            · rename_i xs ei; exact main .par xs ei (.inr rfl) h'
            · exact h'.elim
theorem we_call (F : FnOk X.prog X.w X.K X.mg X.base (L2.CX X.prog X.w) k f fd ps (spF z m n φ)) (o : OkX X z E k) (hm : X.mg x = some (.ref f)) (hk : PySem.W.keepIn X.K (.ref f) = true) (hb : Binds X.K fd ps [])
    (ha : WA X z E (e :: es) g n) (hg : Gl X x := by rfl) (hdb : (x == ("__debug__" : Str)) = false := by decide) (he : starEach (e :: es) X.env = (false, eval e X.env) :: starEach es X.env := by rfl) (hpl : (backTo pos (starEach es X.env)).any (·.1) = false := by rfl) :
    PE X (.Call (.Name x p) (e :: es) [] pos) (tE z E (fCall m φ g)) :=
  pe_mono (pe_call F o.room hg hm hk hb .nil (passes_call (W := fun c d _ H => E c d H) o.tk fun _ _ _ _ h => h) ha.pa hdb he hpl) fun _ _ _ h => te_call h ha.len
end

/-! ### statements -/
def sNil : S := fun env => .ok (.nx, env)
def sCons (s t : S) : S := fun env => (s env).bind fun p => match p.1 with
  | .nx => t p.2
  | .ret r => .ok (.ret r, p.2)
/-- what a name comes to hold -/
def stored (env : Ev) : R → Option (Sl × Ev)
  | .d x => some (.val x, env)
  | .new xs => some (.own xs, env)
  | .at_ i => match (R.at_ i).fix env with
    | some (x, e) => some (.val x, e)
    | none => none
def sSet (i : Nat) (f : F) : S := fun env => (f env).bind fun p => (ofO (stored p.2 p.1)).bind fun q => if i < q.2.length then .ok (.nx, q.2.set i q.1) else .no
def sRet (f : F) : S := fun env => (f env).bind fun p => .ok (.ret p.1, p.2)
def sRetN : S := fun env => .ok (.ret (.d .non), env)
def sExpr (f : F) : S := fun env => (f env).bind fun p => .ok (.nx, p.2)
def sIf (c : FB) (s t : S) : S := fun env => (c env).bind fun p => if p.1 = true then s p.2 else t p.2
section
variable {X : Cx} {z : Z} {E : XK} {k n : Nat} {pos : Pos} {e c : Expr} {st : Stmt} {rest a b : List Stmt} {f : F} {g : FB} {s t : S} {σ : L2.St} {H : Hp}
theorem CS.mono {T G G' : Hp} {D : Ends} {p : Fl × Ev} (h : CS z T G D p) (e : Ex G G') : CS z T G' D p := by
  obtain ⟨p1, p2⟩ := p
  cases p1 with
  | nx => exact fun σ' H' G'' r x => h σ' H' G'' r (e.trans x)
  | ret r => exact fun v σ' H' G'' r x w => h v σ' H' G'' r (e.trans x) w
theorem wss_nil : PSs X [] (tS z E sNil) := pss_mono pss_nil fun D σ H ⟨T, G, env, r, h⟩ => h σ H G r (Ex.refl G)
theorem ts_seq {D : Ends} (h : tS z E (sCons s t) D σ H) : tSeq (tS z E s) (tS z E t) D σ H := by
  obtain ⟨T, G, env, r, h⟩ := h
  refine ⟨T, G, env, r, (Pg.bind h).imp fun p hp => ?_⟩
  obtain ⟨p1, p2⟩ := p
  cases p1 with
  | nx => exact fun σ' H' G' r' x => ⟨T, G', p2, r', (show Pg z E _ (t p2) from hp).imp fun q hq => hq.mono x⟩
  | ret r => exact hp
theorem wss_cons (h1 : PS X st (tS z E s)) (h2 : PSs X rest (tS z E t)) : PSs X (st :: rest) (tS z E (sCons s t)) := pss_mono (pss_cons h1 h2) fun _ _ _ h => ts_seq h
theorem wss_one (h1 : PS X st (tS z E s)) : PSs X [st] (tS z E s) := pss_one h1
theorem VR.stored {T G : Hp} {env e' : Ev} {v : V} {r : R} {s : Sl} (h : VR z T G H env σ v r) (p : Rep z T G H env σ) (q : stored env r = some (s, e')) : ∃ G', Rep z T G' H e' σ ∧ Ex G G' ∧ SlOk z T G' H (some v) s ∧ (∀ q, s.ow = true → v = .ref q → ∀ j, ¬ Ow e' σ j q) := by
  cases r with
  | d y => cases q; exact ⟨G, p, Ex.refl G, ⟨v, rfl, h⟩, fun q w => by cases w⟩
  | new xs =>
    cases q
    obtain ⟨p', vs, rfl, hp, a, g, t, h0, hm, no⟩ := h
    exact ⟨G, p, Ex.refl G, ⟨p', vs, rfl, g, t, h0, hp, a⟩, fun q _ w => by cases w; exact no⟩
  | at_ i =>
    simp only [TN.stored] at q
    split at q
    · rename_i x e ef
      cases q
      obtain ⟨G', p', x', w⟩ := h.fix p ef
      exact ⟨G', p', x', ⟨v, rfl, w⟩, fun q w => by cases w⟩
    · cases q
theorem ts_set {i : Nat} {D : Ends} (h : tS z E (sSet i f) D σ H) : tE z E f σ H fun v H1 => gName i v σ H1 D.nx := by
  obtain ⟨T, G, env, r, h⟩ := h
  refine ⟨T, G, env, r, (Pg.bind h).imp fun p hp v H' G' r' e w => ?_⟩
  obtain ⟨⟨s, e'⟩, es, hp⟩ := (Pg.bind hp).ofO
  obtain ⟨G2, r2, x2, w2, hd⟩ := w.stored r' es
  split at hp
  · rename_i hi
    exact hp (σ.set i (some v)) H' G2 (r2.set w2 hd hi) (e.trans x2)
  · exact hp.elim
theorem ws_set {i : Nat} {x : Str} {pos' : Pos} (o : OkX X z E k) (he : PE X e (tE z E f)) (hi : X.N[i]? = some x := by rfl) (hx : Loc X.env.scope x := by first | exact .inl rfl | exact .inr rfl) (hs : swapsWith e (some (.Name x pos')) pos.line X.env = pure false := by rfl)
    (hf : X.fn x = true ∨ X.env.scope.names.lookup x = some .local := by first | exact .inl rfl | exact .inr rfl) : PS X (.Assign [.Name x pos'] e pos) (tS z E (sSet i f)) := ps_mono (ps_set o.nd hi hx he hs hf) fun D σ H h => ts_set h
theorem ws_ret (he : PE X e (tE z E f)) : PS X (.Return (some e) pos) (tS z E (sRet f)) := ps_mono (ps_ret he) fun D σ H ⟨T, G, env, r, h⟩ =>
  ⟨T, G, env, r, (Pg.bind h).imp fun p hp v H' G' r' e w => hp v σ H' G' r' e w⟩
theorem ws_retN : PS X (.Return none pos) (tS z E sRetN) := ps_mono ps_retN fun D σ H ⟨T, G, env, r, h⟩ => h _ σ H G r (Ex.refl G) .non
theorem ws_expr (he : PE X e (tE z E f)) (hs : swapsWith e none pos.line X.env = pure false := by rfl) : PS X (.Expr e pos) (tS z E (sExpr f)) := ps_mono (ps_expr he hs) fun D σ H ⟨T, G, env, r, h⟩ =>
  ⟨T, G, env, r, (Pg.bind h).imp fun p hp v H' G' r' e w => hp σ H' G' r' e⟩
theorem ws_if (hc : PT X c (tT z E g)) (ha : PSs X a (tS z E s)) (hb : PSs X b (tS z E t)) : PS X (.If c a b pos) (tS z E (sIf g s t)) := ps_mono (ps_if hc ha hb) fun D σ H ⟨T, G, env, r, h⟩ => by
  refine ⟨T, G, env, r, (Pg.bind h).imp fun p hp H' G' r' e => ?_⟩
  obtain ⟨p1, p2⟩ := p
  cases p1 with
  | true => exact ⟨T, G', p2, r', (show Pg z E _ (s p2) from hp).imp fun q hq => hq.mono e⟩
  | false => exact ⟨T, G', p2, r', (show Pg z E _ (t p2) from hp).imp fun q hq => hq.mono e⟩
theorem ws_pass : PS X (.Pass pos) (tS z E sNil) := ps_mono ps_pass fun D σ H ⟨T, G, env, r, h⟩ => h σ H G r (Ex.refl G)
end

/-! ### while -/
def whileF (c : FB) (s : S) : Nat → S
  | 0, _ => .no
  | n + 1, env => (c env).bind fun p => if p.1 = true then (s p.2).bind fun q => match q.1 with
      | .nx => whileF c s n q.2
      | .ret r => .ok (.ret r, q.2)
    else .ok (.nx, p.2)
def turns : Nat := 100000
def sWhile (c : FB) (s : S) : S := whileF c s turns
section
variable {X : Cx} {z : Z} {E : XK} {k n : Nat} {pos : Pos} {c : Expr} {body : List Stmt} {g : FB} {s : S}
theorem ws_while (o : OkX X z E k) (hc : PT X c (tT z E g)) (hb : PSs X body (tS z E s)) : PS X (.While c body [] pos) (tS z E (sWhile g s)) := ps_mono (ps_while o.po hc hb) fun D σ H ⟨T, G, env, r, h⟩ => by
  refine ⟨fun m σ' H' => ∃ G' env', Rep z T G' H' env' σ' ∧ Ex G G' ∧ Pg z E (CS z T G D) (whileF g s m env'), ⟨turns, G, env, r, Ex.refl G, h⟩, ?_⟩
  rintro m σ1 H1 ⟨G1, env1, r1, x1, h1⟩
  cases m with
  | zero => exact h1.elim
  | succ m =>
    refine ⟨T, G1, env1, r1, (Pg.bind h1).imp fun p hp H2 G2 r2 x2 => ?_⟩
    obtain ⟨p1, p2⟩ := p
    cases p1 with
    | true =>
      refine ⟨fun σ' H' => ∃ G' env', Rep z T G' H' env' σ' ∧ Ex G G' ∧ Pg z E (CS z T G D) (whileF g s m env'), fun σ' H' w => ⟨m, Nat.lt_succ_self m, w⟩, T, G2, p2, r2, (Pg.bind (show Pg z E _ ((s p2).bind _) from hp)).imp fun q hq => ?_⟩
      obtain ⟨q1, q2⟩ := q
      cases q1 with
      | nx => exact fun σ' H' G' r' x => ⟨G', q2, r', (x1.trans x2).trans x, hq⟩
      | ret r => exact fun v σ' H' G' r' x w => hq v σ' H' G' r' ((x1.trans x2).trans x) w
    | false => exact hp σ1 H2 G2 r2 (x1.trans x2)
end
end TN
namespace TN
open PySem PySem.Spec PyProof.Rows L2 RZ

/-! ### what is walked -/
def WalkOk (z : Z) (J : It) (G : Hp) (ds : List D) : Prop := ∀ i H, Ex G H →
  (∀ d, ds[i]? = some d → J.go i H ∧ ∀ x H', J.yld i H x H' → (H' = H ∧ Is z.K z.cl G x d) ∨ ∃ p o, H p = none ∧ H' = upd H p o ∧ Is z.K z.cl (upd G p o) x d) ∧ (ds.length ≤ i → J.stop i H)
abbrev FI := Ev → Out (List D × Ev)
abbrev CI (z : Z) (T : Hp) (σ : L2.St) (G : Hp) (R : It → Hp → Prop) : List D × Ev → Prop := fun p => ∀ J H' G', Rep z T G' H' p.2 σ → Ex G G' → WalkOk z J G' p.1 → R J H'
def tI (z : Z) (E : XK) (f : FI) : TI := fun σ H R => ∃ T G env, Rep z T G H env σ ∧ Pg z E (CI z T σ G R) (f env)
theorem pi_mono {X : Cx} {tg e : Expr} {t t' : TI} (h : PI X tg e t) (f : ∀ σ H R, t' σ H R → t σ H R) : PI X tg e t' := ⟨fun pins s σ H R I q => h.run pins s σ H R I (f σ H R q)⟩
/-- the items of a list, of a tuple -/
def D.items : D → Option (List D)
  | .tup ds => some ds
  | .lst ds => some ds
  | .scr ns => some (ns.map D.int)
  | _ => none
def fSeq (f : F) : FI := fun env => (f env).bind fun p => (ofO (p.1.opd.fix p.2)).bind fun q => (ofO q.1.items).bind fun ds => .ok (ds, q.2)
def iSeq (K : PySem.W.Frag) (tl : TE) : TI := fun σ H R => tl σ H fun x H1 => ∃ a, x = .ref a ∧ ((∃ xs, SqL K H1 a xs) ∧ R (Itl K a) H1 ∨ (∃ xs, SqT K H1 a xs) ∧ R (Itt K a) H1)
theorem pi_seq {X : Cx} {tg l : Expr} {tl : TE} (hl : PE X l tl) : PI X tg l (iSeq X.K tl) := by
  refine ⟨fun pins s σ H R I h => ?_⟩
  refine thn (hl.run pins s σ H _ I h) fun v s1 ⟨x, H1, I1, r1, q1⟩ => ?_
  obtain ⟨a, e, ⟨⟨xs, hq⟩, q⟩ | ⟨⟨xs, hq⟩, q⟩⟩ := q1
  · subst e
    cases r1
    obtain ⟨its, rv, p, hz⟩ := I1.list hq
    refine wpAny_pyIter_list p.isList ?_
    refine ⟨s1.heap.objs.size, [s1.heap.objs.size], _, _, H1, rfl, I1.kept (t' := s1.toks) fun b o e => Heap.get?_push_of_some _ e, turn_list a _, ⟨_, Heap.get?_push_size _ rfl, rfl, rfl⟩, fun b hb => ?_, q⟩
    have e : b = s1.heap.objs.size := by simpa using hb
    subst e
    exact I1.fpOk (Nat.le_refl _) (I1.hok.fresh (Nat.le_refl _))
  · subst e
    cases r1
    obtain ⟨its, rv, p, hz⟩ := I1.tuple hq
    refine wpAny_pyIter_tuple (show s1.heap.IsTuple a its.toArray from p) ?_
    refine ⟨s1.heap.objs.size, [s1.heap.objs.size], _, _, H1, rfl, I1.kept (t' := s1.toks) fun b o e => Heap.get?_push_of_some _ e, turn_tuple a _, ⟨_, Heap.get?_push_size _ rfl, rfl, rfl⟩, fun b hb => ?_, q⟩
    have e : b = s1.heap.objs.size := by simpa using hb
    subst e
    exact I1.fpOk (Nat.le_refl _) (I1.hok.fresh (Nat.le_refl _))
section
variable {z : Z} {G : Hp} {a b : Addr} {vs ws : List V} {ds es : List D}
theorem walkOk_l (hl : SqL z.K G a vs) (h : IsA z.K z.cl G vs ds) : WalkOk z (Itl z.K a) G ds := fun i H e => ⟨fun d hd => by
  obtain ⟨v, hv, w⟩ := h.get hd
  exact ⟨⟨vs, v, ex_l e hl, hv⟩, fun x H' y => .inl ⟨y.1, by
    have q := y.2 vs (ex_l e hl)
    rw [hv] at q
    cases q
    exact w⟩⟩, fun hi => ⟨vs, ex_l e hl, by rw [h.length]; exact hi⟩⟩
theorem walkOk_t (hl : SqT z.K G a vs) (h : IsA z.K z.cl G vs ds) : WalkOk z (Itt z.K a) G ds := fun i H e => ⟨fun d hd => by
  obtain ⟨v, hv, w⟩ := h.get hd
  exact ⟨⟨vs, v, ex_t e hl, hv⟩, fun x H' y => .inl ⟨y.1, by
    have q := y.2 vs (ex_t e hl)
    rw [hv] at q
    cases q
    exact w⟩⟩, fun hi => ⟨vs, ex_t e hl, by rw [h.length]; exact hi⟩⟩
/-- lo, lo + 1, .. -/
def rng (lo hi : Int) : List D := (List.range (hi - lo).toNat).map fun (k : Nat) => D.int (lo + k)
theorem walkOk_r {lo hi : Int} {n : Nat} (hn : n = (hi - lo).toNat) : WalkOk z (Itr lo n) G (rng lo hi) := fun i H e => by
  subst hn
  refine ⟨fun d hd => ?_, fun hi => ?_⟩
  · unfold rng at hd
    rw [List.getElem?_map, Option.map_eq_some_iff] at hd
    obtain ⟨k, hk, rfl⟩ := hd
    obtain ⟨h1, h2⟩ := List.getElem?_eq_some_iff.mp hk
    rw [List.length_range] at h1
    rw [List.getElem_range] at h2
    subst h2
    exact ⟨h1, fun x H' y => .inl ⟨y.1, by rw [y.2]; exact .int _⟩⟩
  · unfold rng at hi
    rw [List.length_map, List.length_range] at hi
    exact hi
theorem isPair {x y : V} {d e : D} {p : Addr} (hx : Is z.K z.cl G x d) (hy : Is z.K z.cl G y e) (hp : G p = none) : Is z.K z.cl (upd G p (.tup [x, y])) (.ref p) (.tup [d, e]) :=
  .tup (.inl (.inl upd_same)) (.cons (hx.mono (Ex.new hp)) (.cons (hy.mono (Ex.new hp)) .nil))
theorem zip_get {α β γ : Type} {f : α → β → γ} {xs : List α} {ys : List β} {i : Nat} {d : γ} (h : (List.zipWith f xs ys)[i]? = some d) : ∃ x y, xs[i]? = some x ∧ ys[i]? = some y ∧ d = f x y := by
  rw [List.getElem?_zipWith] at h
  split at h
  · rename_i x y h1 h2; cases h; exact ⟨x, y, h1, h2, rfl⟩
  · cases h
theorem walkOk_z (hl : SqL z.K G a vs) (hm : SqL z.K G b ws) (h : IsA z.K z.cl G vs ds) (h' : IsA z.K z.cl G ws es) : WalkOk z (Itz z.K a b) G (List.zipWith (fun x y => D.tup [x, y]) ds es) := fun i H e => by
  refine ⟨fun d hd => ?_, fun hi => ?_⟩
  · obtain ⟨d1, d2, h1, h2, rfl⟩ := zip_get hd
    obtain ⟨v, hv, wv⟩ := h.get h1
    obtain ⟨w, hw, ww⟩ := h'.get h2
    refine ⟨⟨vs, ws, v, w, ex_l e hl, ex_l e hm, hv, hw⟩, fun x H' y => ?_⟩
    obtain ⟨T, x1, y1, rfl, hT, rfl, q1, q2⟩ := y
    have q1 := q1 vs (ex_l e hl)
    have q2 := q2 ws (ex_l e hm)
    rw [hv] at q1; rw [hw] at q2
    cases q1; cases q2
    exact .inr ⟨T, _, hT, rfl, isPair wv ww (e.nn hT)⟩
  · rw [List.length_zipWith, ← h.length, ← h'.length] at hi
    exact ⟨vs, ws, ex_l e hl, ex_l e hm, by omega⟩
theorem walkOk_zT (hl : SqT z.K G a vs) (hm : SqT z.K G b ws) (h : IsA z.K z.cl G vs ds) (h' : IsA z.K z.cl G ws es) : WalkOk z (ItzT z.K a b) G (List.zipWith (fun x y => D.tup [x, y]) ds es) := fun i H e => by
  refine ⟨fun d hd => ?_, fun hi => ?_⟩
  · obtain ⟨d1, d2, h1, h2, rfl⟩ := zip_get hd
    obtain ⟨v, hv, wv⟩ := h.get h1
    obtain ⟨w, hw, ww⟩ := h'.get h2
    refine ⟨⟨vs, ws, v, w, ex_t e hl, ex_t e hm, hv, hw⟩, fun x H' y => ?_⟩
    obtain ⟨T, x1, y1, rfl, hT, rfl, q1, q2⟩ := y
    have q1 := q1 vs (ex_t e hl)
    have q2 := q2 ws (ex_t e hm)
    rw [hv] at q1; rw [hw] at q2
    cases q1; cases q2
    exact .inr ⟨T, _, hT, rfl, isPair wv ww (e.nn hT)⟩
  · rw [List.length_zipWith, ← h.length, ← h'.length] at hi
    exact ⟨vs, ws, ex_t e hl, ex_t e hm, by omega⟩
def enumD : Nat → List D → List D
  | _, [] => []
  | i, d :: ds => D.tup [.int (i : Nat), d] :: enumD (i + 1) ds
theorem enumD_get : ∀ {ds : List D} {k i : Nat} {d : D}, (enumD k ds)[i]? = some d → ∃ e, ds[i]? = some e ∧ d = D.tup [.int ((k + i : Nat) : Int), e]
  | [], _, _, _, h => by simp [enumD] at h
  | e :: ds, k, 0, d, h => by simp [enumD] at h; exact ⟨e, rfl, by rw [← h]; simp⟩
  | e :: ds, k, i + 1, d, h => by
    obtain ⟨e', h1, h2⟩ := enumD_get (ds := ds) (k := k + 1) (i := i) (by simpa [enumD] using h)
    exact ⟨e', by simpa using h1, by rw [h2]; congr 3; omega⟩
theorem enumD_length : ∀ (ds : List D) (k : Nat), (enumD k ds).length = ds.length
  | [], _ => rfl
  | _ :: ds, k => by simp [enumD, enumD_length ds]
theorem walkOk_e (hl : SqL z.K G a vs) (h : IsA z.K z.cl G vs ds) : WalkOk z (Ite z.K a) G (enumD 0 ds) := fun i H e => by
  refine ⟨fun d hd => ?_, fun hi => ?_⟩
  · obtain ⟨d1, h1, rfl⟩ := enumD_get hd
    obtain ⟨v, hv, wv⟩ := h.get h1
    refine ⟨⟨vs, v, ex_l e hl, hv⟩, fun x H' y => ?_⟩
    obtain ⟨T, x1, rfl, hT, rfl, q1⟩ := y
    have q1 := q1 vs (ex_l e hl)
    rw [hv] at q1
    cases q1
    rw [Nat.zero_add]
    exact .inr ⟨T, _, hT, rfl, isPair (.int _) wv (e.nn hT)⟩
  · rw [enumD_length, ← h.length] at hi
    exact ⟨vs, ex_l e hl, hi⟩
end
section
variable {X : Cx} {z : Z} {E : XK} {k n : Nat} {tg e e2 : Expr} {es : List Expr} {f : F} {g : FA} {p pos tpos : Pos}
theorem wi_seq (hK : X.K = z.K) (he : PE X e (tE z E f)) : PI X tg e (tI z E (fSeq f)) := pi_mono (pi_seq he) fun σ H R ⟨T, G, env, r, h⟩ => by
  rw [hK]
  refine ⟨T, G, env, r, (Pg.bind h).imp fun p hp v H1 G1 r1 e1 w1 => ?_⟩
  obtain ⟨G2, r2, e2, w2⟩ := w1.opd r1
  obtain ⟨⟨d, e3⟩, ef, hp⟩ := (Pg.bind hp).ofO
  obtain ⟨ds, ed, hp⟩ := (Pg.bind hp).ofO
  obtain ⟨G3, r3, x3, w3⟩ := w2.fix r2 ef
  have hf : ∀ J, WalkOk z J G3 ds → R J H1 := fun J wk => hp J H1 G3 r3 ((e1.trans e2).trans x3) wk
  clear hp
  cases w3 with
  | tup hs a => cases ed; exact ⟨_, rfl, .inr ⟨⟨_, ex_t r3.f.exG hs⟩, hf _ (walkOk_t hs a)⟩⟩
  | lst hs a => cases ed; exact ⟨_, rfl, .inl ⟨⟨_, ex_l r3.f.exG (SqL.of hs)⟩, hf _ (walkOk_l (SqL.of hs) a)⟩⟩
  | @scr a ns hs => cases ed; exact ⟨_, rfl, .inl ⟨⟨_, ex_l r3.f.exG hs⟩, hf _ (walkOk_l hs (IsA.ofInts ns))⟩⟩
  | _ => cases ed
def fRng1 (g : FA) : FI := fun env => (g env).bind fun p => match derAll p.2 p.1 with
  | some [.int j] => if -(2 ^ 62) ≤ j ∧ j < 2 ^ 62 then .ok (rng 0 j, p.2) else .no
  | _ => .no
def fRng2 (g : FA) : FI := fun env => (g env).bind fun p => match derAll p.2 p.1 with
  | some [.int i, .int j] => if (-(2 ^ 62) ≤ i ∧ i < 2 ^ 62) ∧ -(2 ^ 62) ≤ j ∧ j < 2 ^ 62 then .ok (rng i j, p.2) else .no
  | _ => .no
theorem isInt {K : PySem.W.Frag} {cl : Cl} {G H : Hp} {v : V} {i : Int} (h : IsT K cl G H v (.int i)) : v = .int i := by
  rcases h with h | ⟨_, _, _, _, e, _⟩
  · cases h; rfl
  · cases e
theorem isTs1 {K : PySem.W.Frag} {cl : Cl} {G H : Hp} {vs : List V} {d : D} (h : IsTs K cl G H vs [d]) : ∃ v, vs = [v] ∧ IsT K cl G H v d := by
  cases vs with
  | nil => exact h.elim
  | cons v vs =>
    cases vs with
    | nil => exact ⟨v, rfl, h.1⟩
    | cons _ _ => exact h.2.elim
theorem isTs2 {K : PySem.W.Frag} {cl : Cl} {G H : Hp} {vs : List V} {d e : D} (h : IsTs K cl G H vs [d, e]) : ∃ v w, vs = [v, w] ∧ IsT K cl G H v d ∧ IsT K cl G H w e := by
  cases vs with
  | nil => exact h.elim
  | cons v vs =>
    obtain ⟨w, rfl, q⟩ := isTs1 h.2
    exact ⟨v, w, rfl, h.1, q⟩
theorem wi_rng1 (hm : X.mg "range" = none) (ha : WA X z E [e] g n) (hg : Gl X "range" := by rfl) (hs : starEach [e] X.env = [(false, eval e X.env)] := by rfl) : PI X tg (.Call (.Name "range" p) [e] [] pos) (tI z E (fRng1 g)) :=
  pi_mono (pi_range1 hg hm ha.pa hs) fun σ H R ⟨T, G, env, r, h⟩ => by
  refine ⟨T, G, env, r, (Pg.bind h).imp fun p hp vs H1 G1 r1 e1 w1 => ?_⟩
  split at hp
  · rename_i j ed
    obtain ⟨v, rfl, w⟩ := isTs1 (w1.der r1 ed)
    split at hp
    · rename_i hj
      exact ⟨j, by rw [isInt w], hj.1, hj.2, hp _ H1 G1 r1 e1 (walkOk_r (by simp))⟩
    · exact hp.elim
  · exact hp.elim
theorem wi_rng2 (hm : X.mg "range" = none) (ha : WA X z E [e, e2] g n) (hg : Gl X "range" := by rfl) (hs : starEach [e, e2] X.env = [(false, eval e X.env), (false, eval e2 X.env)] := by rfl) (hs2 : starEach [e2] X.env = [(false, eval e2 X.env)] := by rfl) : PI X tg (.Call (.Name "range" p) [e, e2] [] pos) (tI z E (fRng2 g)) :=
  pi_mono (pi_range2 hg hm ha.pa hs hs2) fun σ H R ⟨T, G, env, r, h⟩ => by
  refine ⟨T, G, env, r, (Pg.bind h).imp fun p hp vs H1 G1 r1 e1 w1 => ?_⟩
  split at hp
  · rename_i i j ed
    obtain ⟨v, w, rfl, wv, ww⟩ := isTs2 (w1.der r1 ed)
    split at hp
    · rename_i hj
      exact ⟨i, j, by rw [isInt wv, isInt ww], ⟨hj.1.1, hj.1.2, hj.2.1, hj.2.2⟩, hp _ H1 G1 r1 e1 (walkOk_r rfl)⟩
    · exact hp.elim
  · exact hp.elim
def fZip (g : FA) : FI := fun env => (g env).bind fun p => match fixAll p.2 p.1 with
  | some ([.tup a, .tup b], e) => .ok (List.zipWith (fun x y => D.tup [x, y]) a b, e)
  | some ([.lst a, .lst b], e) => .ok (List.zipWith (fun x y => D.tup [x, y]) a b, e)
  | _ => .no
theorem wi_zip {elts : List Expr} {kk : Nat} (hK : X.K = z.K) (hm : X.mg "zip" = none) (ha : WA X z E [e, e2] g n) (hg : Gl X "zip" := by rfl) (hs : starEach [e, e2] X.env = (false, eval e X.env) :: starEach [e2] X.env := by rfl) (hs2 : (backTo pos (starEach [e2] X.env)).any (·.1) = false := by rfl) :
    PI X (.Tuple elts kk tpos) (.Call (.Name "zip" p) [e, e2] [] pos) (tI z E (fZip g)) :=
  pi_mono (pi_zipA hg hm ha.pa hs hs2) fun σ H R ⟨T, G, env, r, h⟩ => by
  rw [hK]
  refine ⟨T, G, env, r, (Pg.bind h).imp fun p hp vs H1 G1 r1 e1 w1 => ?_⟩
  split at hp
  · rename_i a b en ed
    obtain ⟨G2, r2, x2, w⟩ := w1.fix r1 ed
    cases w with
    | cons wa w =>
      cases w with
      | cons wb w =>
        cases w
        cases wa with
        | tup ha a =>
          cases wb with
          | tup hb b => exact ⟨_, _, _, _, rfl, .inr ⟨ex_t r2.f.exG ha, ex_t r2.f.exG hb, hp _ H1 G2 r2 (e1.trans x2) (walkOk_zT ha hb a b)⟩⟩
  · rename_i a b en ed
    obtain ⟨G2, r2, x2, w⟩ := w1.fix r1 ed
    cases w with
    | cons wa w =>
      cases w with
      | cons wb w =>
        cases w
        cases wa with
        | lst ha a =>
          cases wb with
          | lst hb b => exact ⟨_, _, _, _, rfl, .inl ⟨ex_l r2.f.exG (SqL.of ha), ex_l r2.f.exG (SqL.of hb), hp _ H1 G2 r2 (e1.trans x2) (walkOk_z (SqL.of ha) (SqL.of hb) a b)⟩⟩
  · exact hp.elim
end

/-! ### targets -/
/-- a target: what it makes of the names -/
abbrev GA := D → Ev → Option Ev
def gN (i : Nat) : GA := fun d env => if i < env.length then some (env.set i (.val d)) else none
def gTs : List Nat → List D → Ev → Option Ev
  | [], [], env => some env
  | i :: is, d :: ds, env => match gN i d env with
    | some e => gTs is ds e
    | none => none
  | _, _, _ => none
def gT (is : List Nat) : GA := fun d env => match d with
  | .tup ds => gTs is ds env
  | _ => none
def tG (z : Z) (is : List Nat) (ga : GA) : TG := fun v σ H Q => ∃ T G env d env', Rep z T G H env σ ∧ Is z.K z.cl G v d ∧ ga d env = some env' ∧ ∀ σ', Rep z T G H env' σ' → (∀ vs, (∀ i ∈ is, i ∈ vs) → wipe σ' vs = wipe σ vs) → Q σ' H
def tGs (z : Z) (is : List Nat) : TGs := fun vs σ H Q => ∃ T G env ds env', Rep z T G H env σ ∧ IsA z.K z.cl G vs ds ∧ gTs is ds env = some env' ∧ ∀ σ', Rep z T G H env' σ' → (∀ vs, (∀ i ∈ is, i ∈ vs) → wipe σ' vs = wipe σ vs) → Q σ' H
theorem wipe_set {σ : L2.St} {i : Nat} {x : Option V} : ∀ {vs : List Nat}, i ∈ vs → wipe (σ.set i x) vs = wipe σ vs := by
  intro vs hi
  apply List.ext_getElem?
  intro j
  by_cases hj : j ∈ vs
  · have len : ∀ τ : L2.St, τ.length = σ.length → (wipe τ vs)[j]? = if j < σ.length then some none else none := fun τ hτ => by
      by_cases hl : j < σ.length
      · rw [if_pos hl]
        cases q : (wipe τ vs)[j]? with
        | none =>
          rw [List.getElem?_eq_none_iff, wipe_length, hτ] at q
          omega
        | some o =>
          cases o with
          | none => rfl
          | some v => exact absurd hj (wipe_some q).2
      · rw [if_neg hl, List.getElem?_eq_none (by rw [wipe_length, hτ]; omega)]
    rw [len _ (List.length_set ..), len _ rfl]
  · have ne : i ≠ j := fun e => hj (e ▸ hi)
    have out : ∀ τ : L2.St, (wipe τ vs)[j]? = τ[j]? := fun τ => by
      clear hi
      induction vs with
      | nil => rfl
      | cons v vs ih =>
        have h1 : v ≠ j := fun e => hj (by rw [e]; exact List.mem_cons_self)
        show ((wipe τ vs).set v none)[j]? = _
        rw [List.getElem?_set_ne h1]
        exact ih (fun m => hj (List.mem_cons_of_mem _ m))
    rw [out, out, List.getElem?_set_ne ne]
section
variable {X : Cx} {z : Z} {E : XK} {k n : Nat} {pos : Pos} {es : List Expr}
theorem tg_name {i : Nat} {v : V} {σ : L2.St} {H : Hp} {Q : L2.St → Hp → Prop} (h : tG z [i] (gN i) v σ H Q) : gName i v σ H Q := by
  obtain ⟨T, G, env, d, env', r, w, e, h⟩ := h
  unfold gN at e
  split at e
  · rename_i hi
    cases e
    exact h _ (r.set ⟨v, rfl, w⟩ (fun q e => by cases e) hi) fun vs hv => wipe_set (hv i (by simp))
  · cases e
theorem wg_name (nd : X.N.Nodup) (i : Nat) {x : Str} (hi : X.N[i]? = some x := by rfl) (hx : Loc X.env.scope x := by first | exact .inl rfl | exact .inr rfl) (hf : X.fn x = true ∨ X.env.scope.names.lookup x = some .local := by first | exact .inl rfl | exact .inr rfl) : PG X (.Name x pos) (tG z [i] (gN i)) := by
  have h := pg_name (X := X) (pos := pos) nd hi hx hf
  exact ⟨fun pins s σ H v u Q I r w => h.run pins s σ H v u Q I r (tg_name w)⟩
theorem wgs_nil : PGs X [] (tGs z []) := ⟨fun pins s σ H vs us Q I r ⟨T, G, env, ds, env', rp, w, e, h⟩ => pgs_nil.run pins s σ H vs us Q I r (by
  cases w with
  | nil => cases e; exact ⟨rfl, h σ rp fun _ _ => rfl⟩
  | cons _ _ => cases e)⟩
theorem wgs_cons {e : Expr} {i : Nat} {is : List Nat} (h1 : PG X e (tG z [i] (gN i))) (h2 : PGs X es (tGs z is)) (hs : (assignEach (e :: es) X.env).map (·.2) = assign e X.env :: (assignEach es X.env).map (·.2) := by rfl) : PGs X (e :: es) (tGs z (i :: is)) := by
  refine ⟨fun pins s σ H vs us Q I r ⟨T, G, env, ds, env', rp, w, ee, h⟩ => (pgs_cons h1 h2 hs).run pins s σ H vs us Q I r ?_⟩
  cases w with
  | nil => cases ee
  | @cons v vs d ds w ws =>
    simp only [gTs] at ee
    split at ee
    · rename_i e1 q
      refine ⟨v, vs, rfl, T, G, env, d, e1, rp, w, q, fun σ' r' hw => ⟨T, G, e1, ds, env', r', ws, ee, fun σ2 r2 hw2 => h σ2 r2 fun vs hv => ?_⟩⟩
      rw [hw2 vs fun j hj => hv j (List.mem_cons_of_mem _ hj)]
      exact hw vs fun j hj => hv j (by cases List.mem_singleton.mp hj; exact List.mem_cons_self)
    · cases ee
theorem wg_tup {is : List Nat} {kk : Nat} (hK : X.K = z.K) (hc : X.calm = true) (h : PGs X es (tGs z is)) (hl : is.length = es.length := by rfl) (hn : (assignEach es X.env).length = es.length := by rfl) (hst : (assignEach es X.env).findIdx? (·.1) = none := by rfl) : PG X (.Tuple es kk pos) (tG z is (gT is)) := by
  refine ⟨fun pins s σ H v u Q I r ⟨T, G, env, d, env', rp, w, ee, h'⟩ => (pg_tup hc h hn hst).run pins s σ H v u Q I r ?_⟩
  rw [hK]
  unfold gT at ee
  split at ee
  · rename_i ds
    cases w with
    | @tup a vs _ hs ha =>
      have gl : ∀ {is : List Nat} {ds : List D} {env env' : Ev}, gTs is ds env = some env' → ds.length = is.length := by
        intro is
        induction is with
        | nil => intro ds env env' e; cases ds <;> first | rfl | cases e
        | cons i is ih =>
          intro ds env env' e
          cases ds with
          | nil => cases e
          | cons d ds =>
            simp only [gTs] at e
            split at e
            · rw [List.length_cons, List.length_cons, ih e]
            · cases e
      exact ⟨a, vs, rfl, ex_t rp.f.exG hs, by rw [ha.length, gl ee, hl], T, G, env, ds, env', rp, ha, ee, h'⟩
  · cases ee
end

/-! ### for -/
def forF (ga : GA) (s : S) : List D → S
  | [], env => .ok (.nx, env)
  | d :: ds, env => (ofO (ga d env)).bind fun e => (s e).bind fun q => match q.1 with
    | .nx => forF ga s ds q.2
    | .ret r => .ok (.ret r, q.2)
def sFor (fi : FI) (ga : GA) (s : S) : S := fun env => (fi env).bind fun p => forF ga s p.1 p.2
section
variable {X : Cx} {z : Z} {E : XK} {k n : Nat} {pos : Pos} {tg iter : Expr} {body : List Stmt} {fi : FI} {ga : GA} {is : List Nat} {s : S}
theorem Rep.yield {T G H H' : Hp} {env : Ev} {σ : L2.St} {x : V} {d : D} (r : Rep z T G H env σ) (y : (H' = H ∧ Is z.K z.cl G x d) ∨ ∃ p o, H p = none ∧ H' = upd H p o ∧ Is z.K z.cl (upd G p o) x d) : ∃ G', Rep z T G' H' env σ ∧ Ex G G' ∧ Is z.K z.cl G' x d := by
  rcases y with ⟨rfl, w⟩ | ⟨p, o, hp, rfl, w⟩
  · exact ⟨G, r, Ex.refl G, w⟩
  · exact ⟨_, r.grow hp, Ex.new (r.nn hp).1, w⟩
/-- the item at the turn, at a later heap -/
theorem WalkOk.at_ {J : It} {G G' H : Hp} {ds : List D} {i : Nat} {d : D} (w : WalkOk z J G ds) (e : Ex G G') (eh : Ex G' H) (hd : ds[i]? = some d) : J.go i H ∧ ∀ x H', J.yld i H x H' → (H' = H ∧ Is z.K z.cl G' x d) ∨ ∃ p o, H p = none ∧ H' = upd H p o ∧ Is z.K z.cl (upd G' p o) x d := by
  obtain ⟨h1, h2⟩ := (w i H (e.trans eh)).1 d hd
  refine ⟨h1, fun x H' y => ?_⟩
  rcases h2 x H' y with ⟨rfl, q⟩ | ⟨p, o, hp, rfl, q⟩
  · exact .inl ⟨rfl, q.mono e⟩
  · exact .inr ⟨p, o, hp, rfl, q.mono e.both⟩
theorem drop_cons {α : Type} {l : List α} {i : Nat} {x : α} {r : List α} (h : l.drop i = x :: r) : l[i]? = some x ∧ l.drop (i + 1) = r := by
  constructor
  · have := List.getElem?_drop (xs := l) (i := i) (j := 0)
    rw [h] at this
    simpa using this.symm
  · rw [← List.drop_drop, h]; rfl
theorem ws_for (o : OkX X z E k) (hi : PI X tg iter (tI z E fi)) (hg : PG X tg (tG z is ga)) (hb : PSs X body (tS z E s)) (hs : ∀ x, foldedSetIterable iter X.env x = pure x := by intro _; rfl) : PS X (.For tg iter body [] pos) (tS z E (sFor fi ga s)) := ps_mono (ps_for o.po o.calm hi hg hb hs) fun D σ H ⟨T, G, env, r, h⟩ => by
  refine ⟨T, G, env, r, (Pg.bind h).imp fun p hp J H1 G1 r1 e1 wk => ?_⟩
  obtain ⟨ds, env1⟩ := p
  refine ⟨fun i m σ' H' => ∃ G' env', Rep z T G' H' env' σ' ∧ Ex G1 G' ∧ m + i = ds.length ∧ Pg z E (CS z T G D) (forF ga s (ds.drop i) env'), ⟨ds.length, G1, env1, r1, Ex.refl G1, rfl, hp⟩, ?_⟩
  rintro i m σ2 H2 ⟨G2, env2, r2, x2, em, h2⟩
  cases q : ds.drop i with
  | nil =>
    rw [q] at h2
    have hl : ds.length ≤ i := by
      have := congrArg List.length q
      rw [List.length_drop] at this
      simp at this
      omega
    exact .inl ⟨(wk i H2 (x2.trans r2.f.exG)).2 hl, h2 σ2 H2 G2 r2 (e1.trans x2)⟩
  | cons d rest =>
    rw [q] at h2
    obtain ⟨hd, hr⟩ := drop_cons q
    obtain ⟨hgo, hy⟩ := wk.at_ x2 r2.f.exG hd
    have hl : i < ds.length := getElem?_lt hd
    obtain ⟨e, eg, h2⟩ := (Pg.bind h2).ofO
    refine .inr ⟨hgo, fun σ' H' => ∃ G' env', Rep z T G' H' env' σ' ∧ Ex G1 G' ∧ Pg z E (CS z T G D) (forF ga s rest env'), fun σ' H' ⟨G', env', r', x', h'⟩ => ⟨m - 1, by omega, G', env', r', x', by omega, by rw [hr]; exact h'⟩, fun x H' y => ?_⟩
    obtain ⟨G3, r3, x3, w3⟩ := r2.yield (hy x H' y)
    refine ⟨T, G3, env2, d, e, r3, w3, eg, fun σ' r' _ => ⟨T, G3, e, r', (Pg.bind h2).imp fun q hq => ?_⟩⟩
    obtain ⟨q1, q2⟩ := q
    cases q1 with
    | nx => exact fun σ4 H4 G4 r4 x4 => ⟨G4, q2, r4, (x2.trans x3).trans x4, hq⟩
    | ret rr => exact fun v σ4 H4 G4 r4 x4 w4 => hq v σ4 H4 G4 r4 (e1.trans ((x2.trans x3).trans x4)) w4
end
end TN
namespace TN
open PySem PySem.Spec PyProof.Rows L2

abbrev E0 : XK := fun _ _ _ => False
def noX {α : Type} : Out α → Out α
  | .ok a => .ok a
  | _ => .no
theorem Pg.noX {α : Type} {z : Z} {E : XK} {C : α → Prop} : ∀ {x : Out α}, Pg z E C (noX x) → Pg z E0 C x
  | .ok _, h => h
  | .exc _ _, h => h.elim
  | .no, h => h
def wipeE (env : Ev) : List Nat → Ev
  | [] => env
  | v :: vs => (wipeE env vs).set v .no
section
variable {z : Z} {T T' G G' H H' : Hp} {env env' : Ev} {σ : L2.St} {Da : Addr} {o : HO}
theorem Rep.wipe (r : Rep z T G H env σ) : ∀ vs : List Nat, Rep z T G H (wipeE env vs) (wipe σ vs)
  | [] => r
  | v :: vs => (r.wipe vs).forget none
theorem Rep.temp (r : Rep z T G H env σ) (hH : ∀ a, a ≠ Da → H' a = H a) (g : G Da = none) (h0 : z.H0 Da = none) (no : ∀ i, ¬ Ow env σ i Da) (hT : Ex T' H') (ht : ∀ a, T' a ≠ none → a = Da ∨ T a ≠ none) : Rep z T' G H' env σ := by
  have hm : z.M ≠ some Da := fun e => r.f.m0 Da e h0
  refine ⟨⟨fun a u ha => ?_, r.f.g0, r.f.gn, fun a u ha hm' => ?_, fun a ha => ?_, r.f.m0⟩, r.len, fun i s es => ?_, r.dis, hT, fun a ha => ?_, fun a ha => ?_⟩
  · rw [hH a (fun e => by rw [e, g] at ha; cases ha)]; exact r.f.exG a u ha
  · rw [hH a (fun e => by rw [e, h0] at ha; cases ha)]; exact r.f.fr a u ha hm'
  · rw [hH a (fun e => hm (e ▸ ha))]; exact r.f.mm a ha
  · have w := r.sl i s es
    have tn : ∀ p, p ≠ Da → T p = none → T' p = none := fun p hp ht0 => by
      cases q : T' p with
      | none => rfl
      | some u => rcases ht p (by rw [q]; intro w; cases w) with e | e
                  · exact absurd e hp
                  · exact absurd ht0 e
    cases s with
    | no => trivial
    | val d => exact w
    | own xs =>
      obtain ⟨p, vs, e1, g1, t1, h1, hp, a⟩ := w
      have ne : p ≠ Da := fun e => no i ⟨⟨_, es, rfl⟩, by rw [e1, e]⟩
      exact ⟨p, vs, e1, g1, tn p ne t1, h1, (hH p ne).trans hp, a⟩
    | par xs =>
      obtain ⟨p, vs, e1, t1, h1, hp, a⟩ := w
      have ne : p ≠ Da := fun e => no i ⟨⟨_, es, rfl⟩, by rw [e1, e]⟩
      exact ⟨p, vs, e1, tn p ne t1, h1, (hH p ne).trans hp, a⟩
  · rcases ht a ha with e | e
    · rw [e]; exact g
    · exact r.gt a e
  · rcases ht a ha with e | e
    · rw [e]; exact h0
    · exact r.t0 a e
theorem Rep.noOw (r : Rep z T G H env σ) (h : T Da ≠ none) : ∀ i, ¬ Ow env σ i Da := fun i hi => by
  obtain ⟨vs, _, t, _⟩ := r.own hi
  exact h t
end
/-- the names of a block as they were ahead of it -/
def oldS (env : Ev) (i : Nat) : Sl := match env[i]? with
  | some (.val d) => .val d
  | _ => .no
def rstF (old : Nat → Sl) (vs : List Nat) : Nat → List Sl → List Sl
  | _, [] => []
  | i, s :: r => (if vs.contains i then old i else s) :: rstF old vs (i + 1) r
theorem rstF_get (old : Nat → Sl) (vs : List Nat) : ∀ (l : List Sl) (k i : Nat), (rstF old vs k l)[i]? = (l[i]?).map fun s => if vs.contains (k + i) then old (k + i) else s
  | [], _, _ => by simp [rstF]
  | s :: r, k, 0 => by simp [rstF]
  | s :: r, k, i + 1 => by
    have := rstF_get old vs r (k + 1) i
    simp only [rstF, List.getElem?_cons_succ, this]
    rw [show k + 1 + i = k + (i + 1) by omega]
theorem rstF_length (old : Nat → Sl) (vs : List Nat) : ∀ (l : List Sl) (k : Nat), (rstF old vs k l).length = l.length
  | [], _ => rfl
  | s :: r, k => by simp [rstF, rstF_length old vs r]
theorem wipe_get {σ : L2.St} {i : Nat} {vs : List Nat} (h : i ∉ vs) : (wipe σ vs)[i]? = σ[i]? := by
  induction vs with
  | nil => rfl
  | cons v vs ih =>
    have h1 : v ≠ i := fun e => h (by rw [e]; exact List.mem_cons_self)
    show ((wipe σ vs).set v none)[i]? = _
    rw [List.getElem?_set_ne h1]
    exact ih (fun m => h (List.mem_cons_of_mem _ m))
theorem Rep.back' {z : Z} {T T1 G G1 H H1 : Hp} {env env1 : Ev} {σ : L2.St} {vs : List Nat} (r1 : Rep z T1 G1 H1 env1 σ) (r : Rep z T G H env (L2.wipe σ vs)) (e : Ex G1 G) : Rep z T G H (rstF (oldS env1) vs 0 env) σ := by
  have hlen : env.length = σ.length := by rw [r.len, wipe_length]
  have ow : ∀ i p, Ow (rstF (oldS env1) vs 0 env) σ i p → Ow env (L2.wipe σ vs) i p := fun i p ⟨⟨s, es, os⟩, ep⟩ => by
    rw [rstF_get, Nat.zero_add, Option.map_eq_some_iff] at es
    obtain ⟨s', es', e2⟩ := es
    by_cases hi : vs.contains i = true
    · rw [if_pos hi] at e2
      subst e2
      unfold oldS at os
      split at os <;> cases os
    · rw [if_neg hi] at e2
      subst e2
      exact ⟨⟨s', es', os⟩, by rw [wipe_get (fun m => hi (by simpa using m))]; exact ep⟩
  refine ⟨r.f, by rw [rstF_length]; exact hlen, fun i s es => ?_, fun i j p h1 h2 => r.dis i j p (ow i p h1) (ow j p h2), r.exT, r.gt, r.t0⟩
  rw [rstF_get, Nat.zero_add, Option.map_eq_some_iff] at es
  obtain ⟨s', es', e2⟩ := es
  by_cases hi : vs.contains i = true
  · rw [if_pos hi] at e2
    subst e2
    unfold oldS
    split
    · rename_i d q
      obtain ⟨v, e3, w⟩ := r1.sl i _ q
      exact ⟨v, e3, w.mono e⟩
    · trivial
  · rw [if_neg hi] at e2
    subst e2
    have w := r.sl i s' es'
    rw [wipe_get (fun m => hi (by simpa using m))] at w
    exact w

/-! ### list comprehensions -/
def lcF (ga : GA) (c : FB) (f : F) (vs : List Nat) : List D → Ev → Out (List D × Ev)
  | [], env => .ok ([], env)
  | d :: ds, env => (ofO (ga d (wipeE env vs))).bind fun e => (noX (c e)).bind fun p => if p.1 = true then
      (noX (f p.2)).bind fun q => (ofO (q.1.opd.fix q.2)).bind fun y => (lcF ga c f vs ds y.2).bind fun r => .ok (y.1 :: r.1, r.2)
    else lcF ga c f vs ds p.2
def fLc (fi : FI) (ga : GA) (c : FB) (f : F) (vs : List Nat) : F := fun env => (fi env).bind fun p => if p.1.length ≤ 100000 then
    (lcF ga c f vs p.1 p.2).bind fun q => .ok (.new q.1, rstF (oldS p.2) vs 0 (wipeE q.2 vs))
  else .no
def bYes : FB := fun env => .ok (true, env)
section
variable {X : Cx} {z : Z} {E : XK} {k n : Nat} {pos : Pos} {tg iter elt : Expr} {ifs : List Expr} {fi : FI} {ga : GA} {is : List Nat} {c : FB} {f : F} {scope : Scope} {own : List (Str × Nat)}
theorem wts_nil : PTs X [] (tT z E bYes) := ⟨fun pins s σ H Q I ⟨T, G, env, r, h⟩ => pts_nil.run pins s σ H Q I (h H G r (Ex.refl G))⟩
theorem wts_one {e : Expr} (h : PT X e (tT z E c)) : PTs X [e] (tT z E c) := pts_one h
theorem OkX.blk (o : OkX X z E k) (s : Shared) (H : Hp) (scope : Scope) (cenv : Env) (fp : List Addr) : OkX (X.blk s H scope cenv fp) z E0 k :=
  ⟨o.K, takes0, o.calm, o.nd, o.room, PassesOwn.never⟩
theorem te_lc {vs : List Nat} {σ : L2.St} {H : Hp} {Q : VK} (his : ∀ i ∈ is, i ∈ vs) (h : tE z E (fLc fi ga c f vs) σ H Q) : tLc (tI z E fi) (tG z is ga) (tT z E0 c) (tE z E0 f) vs σ H Q := by
  obtain ⟨T, G, env, r, h⟩ := h
  refine ⟨T, G, env, r, (Pg.bind h).imp fun p hp J H1 G1 r1 e1 wk => ?_⟩
  obtain ⟨ds, env1⟩ := p
  dsimp only at hp
  split at hp
  · rename_i hsz
    intro Da hD
    obtain ⟨n1, n2, n3, n4, n5⟩ := r1.nn hD
    have hp := Pg.bind hp
    refine ⟨fun i m H' => ∃ G' env' σ' acc accV, Rep z (upd T Da (.lst accV)) G' H' env' σ' ∧ wipe σ' vs = wipe σ vs ∧ Ex G1 G' ∧ m + i = ds.length ∧ IsA z.K z.cl G' accV acc ∧ acc.length ≤ i ∧
      Pg z E (fun q : List D × Ev => Pg z E (CR z T σ G Q) (.ok (.new (acc ++ q.1), rstF (oldS env1) vs 0 (wipeE q.2 vs)))) (lcF ga c f vs (ds.drop i) env'), ⟨ds.length, G1, env1, σ, [], [], ?_, rfl, Ex.refl G1, rfl, .nil, Nat.le_refl _, hp⟩, ?_⟩
    · refine r1.temp (Da := Da) (fun a ha => upd_ne ha) n1 n3 n5 (fun a u ha => ?_) fun a ha => ?_
      · by_cases q : a = Da
        · subst q; rw [upd_same] at ha ⊢; exact ha
        · rw [upd_ne q] at ha ⊢; exact r1.exT a u ha
      · by_cases q : a = Da
        · exact .inl q
        · rw [upd_ne q] at ha; exact .inr ha
    · rintro i m H2 ⟨G2, env2, σ2, acc, accV, r2, hw, x2, em, ia, la, h2⟩
      have tD : (upd T Da (.lst accV)) Da ≠ none := by rw [upd_same]; intro w; cases w
      have hDa : H2 Da = some (.lst accV) := r2.exT Da _ upd_same
      cases q : ds.drop i with
      | nil =>
        rw [q] at h2
        have hl : ds.length ≤ i := by
          have := congrArg List.length q
          rw [List.length_drop] at this
          simp at this
          omega
        refine .inl ⟨(wk i H2 (x2.trans r2.f.exG)).2 hl, ?_⟩
        have r3 := r2.wipe vs
        rw [hw] at r3
        have r4 : Rep z T G2 H2 (wipeE env2 vs) (wipe σ vs) := r3.temp (Da := Da) (fun _ _ => rfl) (r2.gt Da tD) n3 (r3.noOw tD) (fun a u ha => by
          by_cases q : a = Da
          · subst q; rw [n2] at ha; cases ha
          · exact r2.exT a u (by rw [upd_ne q]; exact ha)) fun a ha => by
          by_cases q : a = Da
          · exact .inl q
          · exact .inr (by rw [upd_ne q]; exact ha)
        have r5 := r1.back' r4 x2
        have h2 : CR z T σ G Q (.new (acc ++ []), rstF (oldS env1) vs 0 (wipeE env2 vs)) := h2
        rw [List.append_nil] at h2
        refine h2 (.ref Da) H2 G2 r5 (e1.trans x2) ⟨Da, accV, rfl, hDa, ia, r2.gt Da tD, n2, n3, n4, fun j hj => ?_⟩
        obtain ⟨⟨s, es, os⟩, ep⟩ := hj
        rw [rstF_get, Nat.zero_add, Option.map_eq_some_iff] at es
        obtain ⟨s', es', ee⟩ := es
        by_cases hj : vs.contains j = true
        · rw [if_pos hj] at ee
          subst ee
          unfold oldS at os
          split at os <;> cases os
        · rw [if_neg hj] at ee
          subst ee
          exact r3.noOw tD j ⟨⟨s', es', os⟩, by rw [wipe_get (fun m => hj (by simpa using m))]; exact ep⟩
      | cons d rest =>
        rw [q] at h2
        obtain ⟨hd, hr⟩ := drop_cons q
        obtain ⟨hgo, hy⟩ := wk.at_ x2 r2.f.exG hd
        have hl : i < ds.length := getElem?_lt hd
        obtain ⟨e, eg, h2⟩ := (Pg.bind h2).ofO
        refine .inr ⟨hgo, fun H' => ∃ G' env' σ' acc accV, Rep z (upd T Da (.lst accV)) G' H' env' σ' ∧ wipe σ' vs = wipe σ vs ∧ Ex G1 G' ∧ IsA z.K z.cl G' accV acc ∧ acc.length ≤ i + 1 ∧
          Pg z E (fun q : List D × Ev => Pg z E (CR z T σ G Q) (.ok (.new (acc ++ q.1), rstF (oldS env1) vs 0 (wipeE q.2 vs)))) (lcF ga c f vs rest env'), fun H' ⟨G', env', σ', acc', accV', a1, a2, a3, a4, a5, a6⟩ => ⟨m - 1, by omega, G', env', σ', acc', accV', a1, a2, a3, by omega, a4, a5, by rw [hr]; exact a6⟩, fun x H' y => ?_⟩
        have r3 := r2.wipe vs
        rw [hw] at r3
        obtain ⟨G4, r4, x4, w4⟩ := r3.yield (hy x H' y)
        refine ⟨_, G4, _, d, e, r4, w4, eg, fun σ5 r5 hw5 => ?_⟩
        have hws : wipe σ5 vs = wipe (wipe σ vs) vs := hw5 vs his
        have ww : wipe (wipe σ vs) vs = wipe σ vs := by
          rw [← hw]
          apply List.ext_getElem?
          intro j
          by_cases hj : j ∈ vs
          · have one : ∀ τ : L2.St, (wipe τ vs)[j]? = if j < τ.length then some none else none := fun τ => by
              by_cases hl : j < τ.length
              · rw [if_pos hl]
                cases q : (wipe τ vs)[j]? with
                | none => rw [List.getElem?_eq_none_iff, wipe_length] at q; omega
                | some o =>
                  cases o with
                  | none => rfl
                  | some v => exact absurd hj (wipe_some q).2
              · rw [if_neg hl, List.getElem?_eq_none (by rw [wipe_length]; omega)]
            rw [one, one, wipe_length]
          · rw [wipe_get hj]
        rw [ww] at hws
        refine ⟨hws, _, G4, e, r5, ((Pg.bind h2).noX).imp fun b hb H6 G6 r6 x6 => ?_⟩
        obtain ⟨b1, env6⟩ := b
        cases b1 with
        | false => exact ⟨G6, env6, σ5, acc, accV, r6, hws, (x2.trans x4).trans x6, ia.mono (x4.trans x6), by omega, hb⟩
        | true =>
          refine ⟨_, G6, env6, r6, ((Pg.bind (show Pg z E _ ((noX (f env6)).bind _) from hb)).noX).imp fun u hu v H7 G7 r7 x7 w7 => ?_⟩
          obtain ⟨u1, env7⟩ := u
          obtain ⟨G8, r8, x8, w8⟩ := w7.opd r7
          obtain ⟨⟨yd, env9⟩, ef, hu⟩ := (Pg.bind hu).ofO
          obtain ⟨G9, r9, x9, w9⟩ := w8.fix r8 ef
          have xx : Ex G2 G9 := ((x4.trans x6).trans (x7.trans x8)).trans x9
          have hD9 : H7 Da = some (.lst accV) := r9.exT Da _ upd_same
          refine ⟨accV, hD9, ?_, G9, env9, σ5, acc ++ [yd], accV ++ [v], ?_, hws, x2.trans xx, (ia.mono xx).append (.cons w9 .nil), by rw [List.length_append]; simp; omega, ?_⟩
          · rw [ia.length]
            exact line100' (by omega)
          · refine r9.temp (Da := Da) (fun a ha => upd_ne ha) (r9.gt Da tD) n3 (r9.noOw tD) (fun a u ha => ?_) fun a ha => ?_
            · by_cases q : a = Da
              · subst q; rw [upd_same] at ha ⊢; exact ha
              · rw [upd_ne q] at ha ⊢
                exact r9.exT a u (by rw [upd_ne q]; exact ha)
            · by_cases q : a = Da
              · exact .inl q
              · rw [upd_ne q] at ha
                exact .inr (by rw [upd_ne q]; exact ha)
          · refine (Pg.bind hu).imp fun rr hrr => ?_
            have e3 : acc ++ [yd] ++ rr.1 = acc ++ (yd :: rr.1) := by simp
            rw [e3]
            exact hrr
  · exact hp.elim
theorem we_lc (o : OkX X z E k) (ok : BlkOk X.N X.env.scope scope own) (hi : PI X tg iter (tI z E fi))
    (hg : ∀ (s : Shared) (H : Hp) (C : Addr) (cl : List (Str × Addr)) (fp : List Addr), PG (X.blk s H scope (compEnvC scope cl C X.env) fp) tg (tG z is ga)) (ht : ∀ (s : Shared) (H : Hp) (C : Addr) (cl : List (Str × Addr)) (fp : List Addr), PTs (X.blk s H scope (compEnvC scope cl C X.env) fp) ifs (tT z E0 c))
    (he : ∀ (s : Shared) (H : Hp) (C : Addr) (cl : List (Str × Addr)) (fp : List Addr), PE (X.blk s H scope (compEnvC scope cl C X.env) fp) elt (tE z E0 f)) (his : ∀ i ∈ is, i ∈ own.map (·.2) := by decide) (hs : ∀ x, foldedSetIterable iter X.env x = pure x := by intro _; rfl) :
    PE X (.ListComp elt [⟨tg, iter, ifs, 0⟩] scope pos) (tE z E (fLc fi ga c f (own.map (·.2)))) := pe_mono (pe_lc o.calm o.nd hi ok hg ht he hs) fun σ H Q h => te_lc his h
/-- name = [..] -/
theorem ws_setLc {i : Nat} {y : Str} {py spos : Pos} (o : OkX X z E k) (ok : BlkOk X.N X.env.scope scope own) (hi : PI X tg iter (tI z E fi))
    (hg : ∀ (s : Shared) (H : Hp) (C : Addr) (cl : List (Str × Addr)) (fp : List Addr), PG (X.blk s H scope (compEnvC scope cl C X.env) fp) tg (tG z is ga)) (ht : ∀ (s : Shared) (H : Hp) (C : Addr) (cl : List (Str × Addr)) (fp : List Addr), PTs (X.blk s H scope (compEnvC scope cl C X.env) fp) ifs (tT z E0 c))
    (he : ∀ (s : Shared) (H : Hp) (C : Addr) (cl : List (Str × Addr)) (fp : List Addr), PE (X.blk s H scope (compEnvC scope cl C X.env) fp) elt (tE z E0 f)) (hy : X.N[i]? = some y := by rfl) (hyl : X.env.scope.names.lookup y = some .local := by rfl)
    (hsw : swapsWith (.ListComp elt [⟨tg, iter, ifs, 0⟩] scope pos) (some (.Name y py)) spos.line X.env = pure true := by exact sw_true rfl rfl rfl (by decide +kernel))
    (his : ∀ i ∈ is, i ∈ own.map (·.2) := by decide) (hs : ∀ x, foldedSetIterable iter X.env x = pure x := by intro _; rfl) :
    PS X (.Assign [.Name y py] (.ListComp elt [⟨tg, iter, ifs, 0⟩] scope pos) spos) (tS z E (sSet i (fLc fi ga c f (own.map (·.2))))) := ps_mono (L2.ps_setLc o.calm o.nd hy hyl hsw hi ok hg ht he hs) fun D σ H h => te_lc his (ts_set h)
end
end TN
namespace TN
open PySem PySem.Spec PyProof.Rows L2

/-! ### a def -/
def retOf (env : Ev) : R → Option R0
  | .d x => some (.d x)
  | .new xs => some (.ls xs)
  | .at_ i => match env[i]? with
    | some (.val y) => some (.d y)
    | some (.own xs) => some (.ls xs)
    | _ => none
def parOf (m : Bool) (env : Ev) : Option (List D) := if m = true then match env[(0 : Nat)]? with
  | some (.par xs) => some xs
  | _ => none else some []
def startE (m : Bool) (n : Nat) (ds : List D) : Option Ev := if m = true then match ds with
  | .lst xs :: r => some (.par xs :: r.map Sl.val ++ List.replicate (n - ds.length) .no)
  | _ => none else some (ds.map Sl.val ++ List.replicate (n - ds.length) .no)
def fnOf (m : Bool) (n : Nat) (body : S) : Fn := fun ds => (ofO (startE m n ds)).bind fun e => (body e).bind fun p => match p.1 with
  | .nx => (ofO (parOf m p.2)).bind fun xs => .ok (.d .non, xs)
  | .ret r => (ofO (retOf p.2 r)).bind fun q => (ofO (parOf m p.2)).bind fun xs => .ok (q, xs)
section
variable {z : Z} {E : XK} {G H : Hp} {M : Option Addr} {m : Bool}
theorem slots_vals {K : PySem.W.Frag} {cl : Cl} : ∀ {vs : List V} {ds : List D} {i : Nat} {s : Sl}, IsA K cl G vs ds → (ds.map Sl.val)[i]? = some s → ∃ d v, s = .val d ∧ vs[i]? = some v ∧ Is K cl G v d
  | vs, ds, i, s, h, e => by
    rw [List.getElem?_map, Option.map_eq_some_iff] at e
    obtain ⟨d, e1, e2⟩ := e
    obtain ⟨v, h1, h2⟩ := h.get e1
    exact ⟨d, v, e2.symm, h1, h2⟩
theorem start_get {N : List Str} {vs : List V} {i : Nat} {v : V} (h : vs[i]? = some v) : (L2.start N vs)[i]?.join = some v := by
  unfold L2.start
  rw [List.getElem?_append_left (by rw [List.length_map]; exact getElem?_lt h), List.getElem?_map, h]
  rfl
theorem start_len {N : List Str} {vs : List V} (h : vs.length ≤ N.length) : (L2.start N vs).length = N.length := by
  unfold L2.start
  rw [List.length_append, List.length_map, List.length_replicate]
  omega
theorem args_len {vs : List V} {ds : List D} (a : Args' z G H m vs ds M) : vs.length = ds.length := by
  cases a with
  | pure a => exact a.length
  | wr _ _ _ a => exact congrArg (· + 1) a.length
theorem rep_start {N : List Str} {vs : List V} {ds : List D} {env : Ev} (a : Args' z G H m vs ds M) (e : Ex G H) (hn : vs.length ≤ N.length) (hs : startE m N.length ds = some env) : Rep (z.at_ G H M) (fun _ => none) G H env (L2.start N vs) := by
  have hl := args_len a
  have fr : (∀ b, M = some b → (∃ ws, H b = some (.lst ws)) ∧ G b = none) → Fr (z.at_ G H M) G H := fun hm =>
    ⟨e, Ex.refl G, fun b hb => .inl hb, fun b o hb _ => hb, hm, fun b hb => by
      obtain ⟨⟨ws, h⟩, _⟩ := hm b hb
      show H b ≠ none
      rw [h]; intro w; cases w⟩
  have rep : ∀ {i k : Nat} {s : Sl}, (List.replicate k Sl.no)[i]? = some s → s = .no := fun {i k s} h => (List.mem_replicate.mp (List.mem_of_getElem? h)).2
  cases a with
  | pure a =>
    cases hs
    have len : (ds.map Sl.val ++ List.replicate (N.length - ds.length) Sl.no).length = (L2.start N vs).length := by
      rw [start_len hn, List.length_append, List.length_map, List.length_replicate]
      omega
    refine ⟨fr (fun b hb => by cases hb), len, fun i s es => ?_, fun i j p hi => ?_, (fun _ _ h => by cases h), fun _ h => absurd rfl h, fun _ h => absurd rfl h⟩
    · by_cases q : i < ds.length
      · rw [List.getElem?_append_left (by simpa using q)] at es
        obtain ⟨d, v, rfl, hv, w⟩ := slots_vals a es
        exact ⟨v, start_get hv, w⟩
      · rw [List.getElem?_append_right (by simpa using q)] at es
        rw [rep es]
        trivial
    · obtain ⟨⟨s, es, os⟩, _⟩ := hi
      by_cases q : i < ds.length
      · rw [List.getElem?_append_left (by simpa using q)] at es
        obtain ⟨d, v, rfl, hv, w⟩ := slots_vals a es
        cases os
      · rw [List.getElem?_append_right (by simpa using q)] at es
        rw [rep es] at os
        cases os
  | @wr p ws vs xs ds g hp a a' =>
    cases hs
    have len : (Sl.par xs :: ds.map Sl.val ++ List.replicate (N.length - (D.lst xs :: ds).length) Sl.no).length = (L2.start N (V.ref p :: vs)).length := by
      rw [start_len hn, List.length_append, List.length_cons, List.length_map, List.length_replicate, List.length_cons]
      simp only [List.length_cons] at hn hl
      omega
    have zero : ∀ {i : Nat} {s : Sl}, (Sl.par xs :: ds.map Sl.val ++ List.replicate (N.length - (D.lst xs :: ds).length) Sl.no)[i]? = some s → s.ow = true → i = 0 := fun {i s} es os => by
      cases i with
      | zero => rfl
      | succ i =>
        rw [List.cons_append, List.getElem?_cons_succ] at es
        by_cases q : i < ds.length
        · rw [List.getElem?_append_left (by simpa using q)] at es
          obtain ⟨d, v, rfl, hv, w⟩ := slots_vals a' es
          cases os
        · rw [List.getElem?_append_right (by simpa using q)] at es
          rw [rep es] at os
          cases os
    refine ⟨fr (fun b hb => by cases hb; exact ⟨⟨ws, hp⟩, g⟩), len, fun i s es => ?_, fun i j p' hi hj => ?_, (fun _ _ h => by cases h), fun _ h => absurd rfl h, fun _ h => absurd rfl h⟩
    · cases i with
      | zero =>
        rw [List.cons_append, List.getElem?_cons_zero] at es
        cases es
        exact ⟨p, ws, start_get (vs := V.ref p :: vs) rfl, rfl, rfl, hp, a⟩
      | succ i =>
        rw [List.cons_append, List.getElem?_cons_succ] at es
        by_cases q : i < ds.length
        · rw [List.getElem?_append_left (by simpa using q)] at es
          obtain ⟨d, v, rfl, hv, w⟩ := slots_vals a' es
          exact ⟨v, start_get (vs := V.ref p :: vs) (by simpa using hv), w⟩
        · rw [List.getElem?_append_right (by simpa using q)] at es
          rw [rep es]
          trivial
    · obtain ⟨⟨s, es, os⟩, _⟩ := hi
      obtain ⟨⟨s', es', os'⟩, _⟩ := hj
      rw [zero es os, zero es' os']
end
section
variable {P : Program} {w : World} {K : PySem.W.Frag} {mg : Str → Option Value} {base : Heap}
/-- THE RULE for a def -/
theorem fn_ok {x qual : Str} {st : Stmt} {f : Addr} {fd : FuncData} {N ps : List Str} {k : Nat} {z : Z} {m : Bool} {body : S} (Fn' : Fun K x qual st f fd) (Sc : FnScope N ps (defScope st)) (hK : K = z.K)
    (hb : ∀ (cdv : Value) (A : Around) (outer : List Env) (s : Shared) (H : Hp) (E : XK) (G H' : Hp) (M : Option Addr), OkX (cxOf (L2.CX P w) P w K mg base N qual (defScope st) f cdv A outer s H E) (z.at_ G H' M) E k →
      PSs (cxOf (L2.CX P w) P w K mg base N qual (defScope st) f cdv A outer s H E) (defBody st) (tS (z.at_ G H' M) E body)) :
    FnOk P w K mg base (L2.CX P w) (k + 1) f fd ps (spF z m ps.length (fnOf m N.length body)) := by
  refine Fn'.okX Sc (fun vs H Q E h => ?_) fun cdv A outer s H vs Q E hr h => ?_
  · obtain ⟨G, ds, M, _, _, hl, _⟩ := h
    exact hl
  · obtain ⟨G, ds, M, a, e, hl, h⟩ := h
    have o : OkX (cxOf (L2.CX P w) P w K mg base N qual (defScope st) f cdv A outer s H E) (z.at_ G H M) E k :=
      ⟨hK, takes_of rfl rfl rfl rfl, rfl, Sc.nd, hr, passes_of rfl⟩
    refine ⟨_, hb cdv A outer s H E G H M o, ?_⟩
    obtain ⟨env, es, h⟩ := (Pg.bind h).ofO
    have hn : vs.length ≤ N.length := by
      have := Sc.pre
      rw [hl, ← this, List.length_take]
      exact Nat.min_le_right _ _
    have r := rep_start a e hn es
    have pa : ∀ {G' H' : Hp} {env' : Ev} {σ' : L2.St} {xs : List D}, Rep (z.at_ G H M) (fun _ => none) G' H' env' σ' → parOf m env' = some xs → ∀ b, (z.at_ G H M).M = some b → ∃ ws, H' b = some (.lst ws) ∧ IsA z.K z.cl G' ws xs := by
      intro G' H' env' σ' xs r' ep b hb'
      cases a with
      | pure a => cases hb'
      | @wr p ws vs xs0 ds g hp a a' =>
        cases hb'
        unfold parOf at ep
        rw [if_pos rfl] at ep
        split at ep
        · rename_i ys q
          cases ep
          obtain ⟨p', vs', _, _, hm, hp', ia⟩ := r'.sl 0 _ q
          cases hm
          exact ⟨vs', hp', ia⟩
        · cases ep
    refine ⟨_, G, env, r, (Pg.bind h).imp fun p hp => ?_⟩
    obtain ⟨p1, p2⟩ := p
    cases p1 with
    | nx =>
      intro σ' H' G' r' x'
      obtain ⟨xs, ex, hp⟩ := (Pg.bind hp).ofO
      exact hp .non H' G' r'.f .non (pa r' ex)
    | ret rr =>
      intro v σ' H' G' r' x' w'
      obtain ⟨q, eq, hp⟩ := (Pg.bind hp).ofO
      obtain ⟨xs, ex, hp⟩ := (Pg.bind hp).ofO
      refine hp v H' G' r'.f ?_ (pa r' ex)
      cases rr with
      | d y => cases eq; exact w'
      | new ys =>
        cases eq
        obtain ⟨p, vs', e1, hp', ia, g, _, h0, hm, _⟩ := w'
        exact ⟨p, vs', e1, hp', ia, g, h0, hm⟩
      | at_ i =>
        have w' : σ'[i]?.join = some v := w'
        simp only [retOf] at eq
        split at eq
        · rename_i y q
          cases eq
          have sl := r'.sl i _ q
          rw [w'] at sl
          obtain ⟨v', e1, sl⟩ := sl
          cases e1
          exact sl
        · rename_i ys q
          cases eq
          have sl := r'.sl i _ q
          rw [w'] at sl
          obtain ⟨p, vs', e1, g, _, h0, hp', ia⟩ := sl
          cases e1
          exact ⟨p, vs', rfl, hp', ia, g, h0, fun e2 => r'.f.m0 p e2 h0⟩
        · cases eq
end

/-! ### lists that are written -/
def lstAt (env : Ev) (i : Nat) : Option (List D × (List D → Sl)) := match env[i]? with
  | some (.own xs) => some (xs, .own)
  | some (.par xs) => some (xs, .par)
  | _ => none
section
variable {X : Cx} {z : Z} {E : XK} {k n : Nat} {T G H : Hp} {env : Ev} {σ : L2.St} {i : Nat} {pos p2 : Pos} {e ei : Expr} {f fi : F}
theorem lstAt_ow {xs : List D} {mk : List D → Sl} (r : Rep z T G H env σ) (h : lstAt env i = some (xs, mk)) : ∃ p vs, σ[i]? = some (some (.ref p)) ∧ Ow env σ i p ∧ H p = some (.lst vs) ∧ IsA z.K z.cl G vs xs ∧
    ∀ (ws : List V) (ys : List D), IsA z.K z.cl G ws ys → Rep z T G (upd H p (.lst ws)) (env.set i (mk ys)) σ := by
  have sj : ∀ {v : V}, (σ[i]?.join) = some v → σ[i]? = some (some v) := fun {v} e => by
    cases q : σ[i]? with
    | none => rw [q] at e; cases e
    | some o => rw [q] at e; exact congrArg some e
  unfold lstAt at h
  split at h
  · rename_i ys q
    cases h
    obtain ⟨p, vs, e, _, _, _, hp, a⟩ := r.sl i _ q
    have how : Ow env σ i p := ⟨⟨_, q, rfl⟩, e⟩
    exact ⟨p, vs, sj e, how, hp, a, fun ws ys b => r.mut how (.inl ⟨rfl, _, q⟩) b⟩
  · rename_i ys q
    cases h
    obtain ⟨p, vs, e, _, _, hp, a⟩ := r.sl i _ q
    have how : Ow env σ i p := ⟨⟨_, q, rfl⟩, e⟩
    exact ⟨p, vs, sj e, how, hp, a, fun ws ys b => r.mut how (.inr ⟨rfl, _, q⟩) b⟩
  · cases h
/-- a value that stays as it is -/
theorem te_fix {β : Type} {C : Hp → β → Prop} {kk : D × Ev → Out β} (r : Rep z T G H env σ) (mono : ∀ G G' b, Ex G G' → C G b → C G' b) (h : Pg z E (C G) ((f env).bind fun p => (ofO (p.1.opd.fix p.2)).bind kk)) :
    tE z E f σ H fun v H' => ∃ y G', Rep z T G' H' y.2 σ ∧ Ex G G' ∧ Is z.K z.cl G' v y.1 ∧ Pg z E (C G') (kk y) := by
  refine ⟨T, G, env, r, (Pg.bind h).imp fun p hp v H1 G1 r1 e1 w1 => ?_⟩
  obtain ⟨G2, r2, e2, w2⟩ := w1.opd r1
  obtain ⟨⟨d, e3⟩, ef, hp⟩ := (Pg.bind hp).ofO
  obtain ⟨G3, r3, x3, w3⟩ := w2.fix r2 ef
  exact ⟨(d, e3), G3, r3, (e1.trans e2).trans x3, w3, hp.imp fun b hb => mono _ _ _ ((e1.trans e2).trans x3) hb⟩
def fApp (i : Nat) (f : F) : F := fun env => (ofO (lstAt env i)).bind fun _ => (f env).bind fun p => (ofO (p.1.opd.fix p.2)).bind fun y => (ofO (lstAt y.2 i)).bind fun l =>
  if l.1.length < 100000 then .ok (.d .non, y.2.set i (l.2 (l.1 ++ [y.1]))) else .no
theorem te_app {Q : VK} (hK : X.K = z.K) (h : tE z E (fApp i f) σ H Q) : tBM X.K "list" rAppend (tVar i) (tCons (tE z E f) tNil) σ H Q := by
  rw [hK]
  obtain ⟨T, G, env, r, h⟩ := h
  obtain ⟨⟨xs0, mk0⟩, el0, h⟩ := (Pg.bind h).ofO
  obtain ⟨p0, vs0, es0, _, hp0, _, _⟩ := lstAt_ow r el0
  refine ⟨_, es0, .inl ⟨rfl, vs0, SqL.of hp0⟩, te_imp (fun v H' q => ?_) (te_fix (C := fun G b => CR z T σ G Q b) r (fun _ _ _ e h => CR.mono h e) h)⟩
  obtain ⟨⟨y, e2⟩, G2, r2, x2, w2, hq⟩ := q
  obtain ⟨⟨xs, mk⟩, el, hq⟩ := (Pg.bind hq).ofO
  obtain ⟨p, vs, es, _, hp, a, st⟩ := lstAt_ow r2 el
  rw [es0] at es
  cases es
  dsimp only at hq
  split at hq
  · rename_i hl
    exact ⟨p0, vs, v, rfl, rfl, hp, by rw [a.length]; exact line100' hl, hq .non _ G2 (st _ _ (a.append (.cons w2 .nil))) (Ex.refl G2) .non⟩
  · exact hq.elim
/-- name.append(e) -/
theorem we_app {c : Expr} (o : OkX X z E k) (h : PE X c (tBM X.K "list" rAppend (tVar i) (tCons (tE z E f) tNil))) : PE X c (tE z E (fApp i f)) := pe_mono h fun _ _ _ h => te_app o.K h
end
end TN
namespace TN
open PySem PySem.Spec PyProof.Rows L2

section
variable {K : PySem.W.Frag} {cl : Cl} {G H : Hp} {v : V}
theorem isTup {ds : List D} (e : Ex G H) (h : IsT K cl G H v (.tup ds)) : ∃ a vs, v = .ref a ∧ SqT K H a vs ∧ IsA K cl G vs ds ∧ SqT K G a vs := by
  rcases h with h | ⟨_, _, _, _, q, _⟩
  · cases h with
    | tup hs ha => exact ⟨_, _, rfl, ex_t e hs, ha, hs⟩
  · cases q
theorem isLst {ds : List D} (e : Ex G H) (h : IsT K cl G H v (.lst ds)) : ∃ a vs, v = .ref a ∧ H a = some (.lst vs) ∧ IsA K cl G vs ds := by
  rcases h with h | ⟨p, vs, xs, ev, q, hp, a⟩
  · cases h with
    | lst hs ha => exact ⟨_, _, rfl, e _ _ hs, ha⟩
  · cases q; exact ⟨p, vs, ev, hp, a⟩
theorem isScr {ns : List Int} (e : Ex G H) (h : IsT K cl G H v (.scr ns)) : ∃ a, v = .ref a ∧ SqL K H a (ns.map V.int) := by
  rcases h with h | ⟨p, vs, xs, ev, q, hp, a⟩
  · cases h with
    | scr hs => exact ⟨_, rfl, ex_l e hs⟩
  · cases q
theorem isBl {b : Bool} (h : IsT K cl G H v (.bl b)) : v = .bl b := by
  rcases h with h | ⟨_, _, _, _, q, _⟩
  · cases h; rfl
  · cases q
theorem isStr {b : Str} (h : IsT K cl G H v (.str b)) : v = .str b := by
  rcases h with h | ⟨_, _, _, _, q, _⟩
  · cases h; rfl
  · cases q
theorem isNon (h : IsT K cl G H v .non) : v = .non := by
  rcases h with h | ⟨_, _, _, _, q, _⟩
  · cases h; rfl
  · cases q
theorem isTy {n : String} (h : IsT K cl G H v (.ty n)) : v = .ty n := by
  rcases h with h | ⟨_, _, _, _, q, _⟩
  · cases h; rfl
  · cases q
end

/-! ### ints -/
def oI (g : Int → Int → Option D) : D → D → Out R0 := fun x y => match x, y with
  | .int i, .int j => match g i j with
    | some k => .ok (.d k)
    | none => .no
  | _, _ => .no
section
variable {X : Cx} {z : Z} {f : Value → Value → Sem Value}
theorem opD_I {C : Int → Int → Prop} {h : Int → Int → V} {g : Int → Int → Option D} (hr : OpR X f (rI C h)) (hg : ∀ i j d, g i j = some d → C i j ∧ ∀ K cl G, Is K cl G (h i j) d) : OpD X z f (oI g) := by
  refine ⟨⟨_, hr, fun G H x y dx dy Q e ix iy p => ?_⟩, fun x y c d => ?_⟩
  · unfold oI at p
    split at p
    · split at p
      · rename_i q
        obtain ⟨c1, c2⟩ := hg _ _ _ q
        exact ⟨_, _, isInt ix, isInt iy, c1, p _ (c2 _ _ _)⟩
      · exact p.elim
    · exact p.elim
  · unfold oI
    split
    · split <;> (intro h; cases h)
    · intro h; cases h
theorem opD_I0 {h : Int → Int → V} {g : Int → Int → Option D} (hr : OpR X f (rI0 h)) (hg : ∀ i j d, g i j = some d → ∀ K cl G, Is K cl G (h i j) d) : OpD X z f (oI g) :=
  opD_I (C := fun _ _ => True) (h := h) (fun pins s σ H x y v u Q I rx ry ⟨i, j, e1, e2, _, q⟩ => hr pins s σ H x y v u Q I rx ry ⟨i, j, e1, e2, q⟩) fun i j d e => ⟨trivial, hg i j d e⟩
def gMinus : Int → Int → Option D := fun i j => some (.int (i - j))
def gMul : Int → Int → Option D := fun i j => if (-(2 ^ 64) < i ∧ i < 2 ^ 64) ∨ (-(2 ^ 64) < j ∧ j < 2 ^ 64) then some (.int (i * j)) else none
def gDiv : Int → Int → Option D := fun i j => if 0 < j ∧ j < 1073741824 then some (.int (i / j)) else none
def gMod : Int → Int → Option D := fun i j => if 0 < j then some (.int (i % j)) else none
def gPow : Int → Int → Option D := fun i j => if 0 ≤ j ∧ (Builtin.Int.intBits i : Int) * j ≤ 2 ^ 27 then some (.int (i ^ j.toNat)) else none
def gShl : Int → Int → Option D := fun i j => if 0 ≤ j ∧ j ≤ 1000000 ∧ i.natAbs < 2 ^ 64 then some (.int (i * 2 ^ j.toNat)) else none
def gShr : Int → Int → Option D := fun i j => if 0 ≤ j then some (.int (i / 2 ^ j.toNat)) else none
def gAnd : Int → Int → Option D := fun i j => some (.int (Builtin.bitAnd i j))
def gOr : Int → Int → Option D := fun i j => some (.int (Builtin.bitOr i j))
def gXor : Int → Int → Option D := fun i j => some (.int (Builtin.bitXor i j))
def gLt : Int → Int → Option D := fun i j => some (.bl (decide (i < j)))
def gLe : Int → Int → Option D := fun i j => some (.bl (decide (i ≤ j)))
def gGt : Int → Int → Option D := fun i j => some (.bl (decide (j < i)))
def gGe : Int → Int → Option D := fun i j => some (.bl (decide (j ≤ i)))
theorem od_sub : OpD X z (binaryOp .Sub) (oI gMinus) := opD_I0 op_sub fun i j d e => by cases e; exact fun _ _ _ => .int _
theorem od_div : OpD X z (binaryOp .FloorDiv) (oI gDiv) := opD_I op_fdiv fun i j d e => by
  unfold gDiv at e
  split at e
  · rename_i q; cases e; exact ⟨q, fun _ _ _ => .int _⟩
  · cases e
theorem od_mod : OpD X z (binaryOp .Mod) (oI gMod) := opD_I op_mod fun i j d e => by
  unfold gMod at e
  split at e
  · rename_i q; cases e; exact ⟨q, fun _ _ _ => .int _⟩
  · cases e
theorem op_powW : OpR X (binaryOp .Pow) (rI (fun i j => 0 ≤ j ∧ (Builtin.Int.intBits i : Int) * j ≤ 2 ^ 27) fun i j => .int (i ^ j.toNat)) := opI fun _ _ _ _ _ _ _ hc q => pow_int hc.1 hc.2 q
theorem od_pow : OpD X z (binaryOp .Pow) (oI gPow) := opD_I op_powW fun i j d e => by
  unfold gPow at e
  split at e
  · rename_i q; cases e; exact ⟨q, fun _ _ _ => .int _⟩
  · cases e
theorem od_shl : OpD X z (binaryOp .LShift) (oI gShl) := opD_I op_shl fun i j d e => by
  unfold gShl at e
  split at e
  · rename_i q; cases e; exact ⟨q, fun _ _ _ => .int _⟩
  · cases e
theorem od_shr : OpD X z (binaryOp .RShift) (oI gShr) := opD_I op_shr fun i j d e => by
  unfold gShr at e
  split at e
  · rename_i q; cases e; exact ⟨q, fun _ _ _ => .int _⟩
  · cases e
theorem od_and : OpD X z (binaryOp .BitAnd) (oI gAnd) := opD_I0 op_and fun i j d e => by cases e; exact fun _ _ _ => .int _
theorem od_or : OpD X z (binaryOp .BitOr) (oI gOr) := opD_I0 op_or fun i j d e => by cases e; exact fun _ _ _ => .int _
theorem od_xor : OpD X z (binaryOp .BitXor) (oI gXor) := opD_I0 op_xor fun i j d e => by cases e; exact fun _ _ _ => .int _
theorem od_lt : OpD X z (compareOp .Lt) (oI gLt) := opD_I0 op_lt fun i j d e => by cases e; exact fun _ _ _ => .bl _
theorem od_le : OpD X z (compareOp .LtE) (oI gLe) := opD_I0 op_le fun i j d e => by cases e; exact fun _ _ _ => .bl _
theorem od_gt : OpD X z (compareOp .Gt) (oI gGt) := opD_I0 op_gt fun i j d e => by cases e; exact fun _ _ _ => .bl _
theorem od_ge : OpD X z (compareOp .GtE) (oI gGe) := opD_I0 op_ge fun i j d e => by cases e; exact fun _ _ _ => .bl _
end

/-! ### + and * -/
def dAdd : D → D → Out R0
  | .int i, .int j => .ok (.d (.int (i + j)))
  | .tup a, .tup b => if a.length + b.length ≤ 100000 then (match a, b with
      | [], b => .ok (.d (.tup b))
      | a, [] => .ok (.d (.tup a))
      | a, b => .ok (.tp (a ++ b))) else .no
  | .lst a, .lst b => if a.length + b.length ≤ 100000 then .ok (.ls (a ++ b)) else .no
  | .str a, .str b => if a.length + b.length ≤ 100000 then .ok (.d (.str (a ++ b))) else .no
  | _, _ => .no
def dMul : D → D → Out R0
  | .int i, .int j => match gMul i j with
    | some k => .ok (.d k)
    | none => .no
  | .lst a, .int k => if -(2 ^ 63) ≤ k ∧ k < 2 ^ 63 ∧ a.length * k.toNat ≤ 100000 then .ok (.ls (List.replicate k.toNat a).flatten) else .no
  | .tup a, .int k => if a ≠ [] ∧ 2 ≤ k ∧ k ≤ 1000 ∧ a.length ≤ 1000 then .ok (.tp (List.replicate k.toNat a).flatten) else .no
  | _, _ => .no
instance (a : List D) : Decidable (a ≠ []) := match a with
  | [] => isFalse fun h => h rfl
  | _ :: _ => isTrue fun h => by cases h
section
variable {X : Cx} {z : Z}
theorem od_add (hK : X.K = z.K) : OpD X z (binaryOp .Add) dAdd := by
  refine ⟨⟨_, op_add.or (op_catA.or (op_cat.or op_add_str)), fun G H x y dx dy Q e ix iy p => ?_⟩, fun x y c d => ?_⟩
  · rw [hK]
    unfold dAdd at p
    split at p
    · exact .inl ⟨_, _, isInt ix, isInt iy, p _ (.int _)⟩
    · split at p
      · rename_i a b hl
        obtain ⟨p1, vs, rfl, hs, ia, hg⟩ := isTup e ix
        obtain ⟨p2, ws, rfl, hs2, ib, hg2⟩ := isTup e iy
        refine .inr (.inl ⟨p1, p2, vs, ws, rfl, rfl, hs, hs2, by rw [ia.length, ib.length]; exact line100 hl, fun q => ?_, fun q q2 => ?_, fun q q2 => ?_⟩)
        · subst q
          cases ia
          exact p _ (.tup hg2 ib)
        · subst q2
          cases ib
          cases ia with
          | nil => exact absurd rfl q
          | cons h t => exact p _ (.tup hg (.cons h t))
        · cases ia with
          | nil => exact absurd rfl q
          | cons h t =>
            cases ib with
            | nil => exact absurd rfl q2
            | cons h2 t2 => exact fun pp hp => p pp _ hp (IsA.append (.cons h t) (.cons h2 t2))
      · exact p.elim
    · split at p
      · rename_i a b hl
        obtain ⟨p1, vs, rfl, hs, ia⟩ := isLst e ix
        obtain ⟨p2, ws, rfl, hs2, ib⟩ := isLst e iy
        exact .inr (.inr (.inl ⟨p1, p2, vs, ws, rfl, rfl, hs, hs2, by rw [ia.length, ib.length]; exact line100 hl, fun pp hp => p pp _ hp (ia.append ib)⟩))
      · exact p.elim
    · split at p
      · rename_i a b hl
        exact .inr (.inr (.inr ⟨_, _, isStr ix, isStr iy, line100 hl, p _ (.str _)⟩))
      · exact p.elim
    · exact p.elim
  · unfold dAdd
    split <;> (try split) <;> (try split) <;> (intro h; cases h)
theorem od_mul (hK : X.K = z.K) : OpD X z (binaryOp .Mult) dMul := by
  refine ⟨⟨_, op_mul.or (op_rep.or op_repT), fun G H x y dx dy Q e ix iy p => ?_⟩, fun x y c d => ?_⟩
  · rw [hK]
    unfold dMul at p
    split at p
    · split at p
      · rename_i i j k q
        unfold gMul at q
        split at q
        · rename_i hc; cases q; exact .inl ⟨_, _, isInt ix, isInt iy, hc, p _ (.int _)⟩
        · cases q
      · exact p.elim
    · split at p
      · rename_i a k hl
        obtain ⟨p1, vs, rfl, hs, ia⟩ := isLst e ix
        refine .inr (.inl ⟨p1, k, vs, rfl, isInt iy, hs, hl.1, hl.2.1, by rw [ia.length]; exact line100 hl.2.2, fun pp hp => p pp _ hp (ia.rep _)⟩)
      · exact p.elim
    · split at p
      · rename_i a k hl
        obtain ⟨p1, vs, rfl, hs, ia, _⟩ := isTup e ix
        refine .inr (.inr ⟨p1, k, vs, rfl, isInt iy, hs, fun q => ?_, hl.2.1, hl.2.2.1, by rw [ia.length]; exact hl.2.2.2, fun pp hp => p pp _ hp (ia.rep _)⟩)
        subst q
        cases ia
        exact hl.1 rfl
      · exact p.elim
    · exact p.elim
  · unfold dMul
    split <;> (try split) <;> (intro h; cases h)
end

/-! ### == and in, of data -/
mutual
def toPy : D → Option PyData
  | .non => some .none
  | .bl b => some (.bool b)
  | .int i => some (.int i)
  | .str x => some (.str x)
  | .tup ds => match toPyL ds with
    | some ps => some (.tuple ps)
    | none => none
  | .lst ds => match toPyL ds with
    | some ps => some (.list ps)
    | none => none
  | _ => none
def toPyL : List D → Option (List PyData)
  | [] => some []
  | d :: ds => match toPy d with
    | some p => match toPyL ds with
      | some ps => some (p :: ps)
      | none => none
    | none => none
end
mutual
theorem toPy_plain : ∀ {d : D} {p : PyData}, toPy d = some p → p.plain = true
  | .non, _, e => by cases e; rfl
  | .bl b, _, e => by cases e; rfl
  | .int i, _, e => by cases e; rfl
  | .str x, _, e => by cases e; rfl
  | .tup ds, p, e => by
    simp only [toPy] at e
    split at e
    · rename_i ps q; cases e; exact toPyL_plain q
    · cases e
  | .lst ds, p, e => by
    simp only [toPy] at e
    split at e
    · rename_i ps q; cases e; exact toPyL_plain q
    · cases e
  | .scr _, _, e => by cases e
  | .dct, _, e => by cases e
  | .obj _ _, _, e => by cases e
  | .ty _, _, e => by cases e
  | .cls _, _, e => by cases e
theorem toPyL_plain : ∀ {ds : List D} {ps : List PyData}, toPyL ds = some ps → PyData.plainAll ps = true
  | [], _, e => by cases e; rfl
  | d :: ds, ps, e => by
    simp only [toPyL] at e
    split at e
    · rename_i p q
      split at e
      · rename_i ps' q2
        cases e
        simp only [PyData.plainAll, toPy_plain q, toPyL_plain q2, Bool.and_self]
      · cases e
    · cases e
end
section
variable {K : PySem.W.Frag} {cl : Cl} {G H : Hp}
mutual
theorem is_dp : ∀ {d : D} {v : V} {p : PyData}, Is K cl H v d → toPy d = some p → Dp K H v p
  | .non, _, _, h, e => by cases e; cases h; exact .non
  | .bl b, _, _, h, e => by cases e; cases h; exact .bl b
  | .int i, _, _, h, e => by cases e; cases h; exact .int i
  | .str x, _, _, h, e => by cases e; cases h; exact .str x
  | .tup ds, v, p, h, e => by
    simp only [toPy] at e
    split at e
    · rename_i ps q
      cases e
      cases h with
      | tup hs ha => exact .tup hs (isA_dp ha q)
    · cases e
  | .lst ds, v, p, h, e => by
    simp only [toPy] at e
    split at e
    · rename_i ps q
      cases e
      cases h with
      | lst hs ha => exact .lst (SqL.of hs) (isA_dp ha q)
    · cases e
  | .scr _, _, _, _, e => by cases e
  | .dct, _, _, _, e => by cases e
  | .obj _ _, _, _, _, e => by cases e
  | .ty _, _, _, _, e => by cases e
  | .cls _, _, _, _, e => by cases e
theorem isA_dp : ∀ {ds : List D} {vs : List V} {ps : List PyData}, IsA K cl H vs ds → toPyL ds = some ps → DpAll K H vs ps
  | [], _, _, h, e => by cases e; cases h; exact .nil
  | d :: ds, vs, ps, h, e => by
    simp only [toPyL] at e
    split at e
    · rename_i p q
      split at e
      · rename_i ps' q2
        cases e
        cases h with
        | cons h1 h2 => exact .cons (is_dp h1 q) (isA_dp h2 q2)
      · cases e
    · cases e
end
theorem isT_dp {d : D} {v : V} {p : PyData} (e : Ex G H) (h : IsT K cl G H v d) (q : toPy d = some p) : Dp K H v p := by
  rcases h with h | ⟨a, vs, xs, rfl, rfl, hp, ia⟩
  · exact is_dp (cl := cl) (h.mono e) q
  · exact is_dp (cl := cl) (.lst hp (ia.mono e)) q
end
def dEq (neg : Bool) (x y : D) : Out R0 := match toPy x, toPy y with
  | some a, some b => if a.depth ≤ 60 then .ok (.d (.bl (if neg then !PyData.eqv a b else PyData.eqv a b))) else .no
  | _, _ => .no
def dIn (neg : Bool) (x c : D) : Out R0 := match toPy x, toPy c with
  | some a, some (.list ps) => if a.depth ≤ 60 then .ok (.d (.bl (if neg then !ps.any (fun y => PyData.eqv y a) else ps.any fun y => PyData.eqv y a))) else .no
  | some a, some (.tuple ps) => if a.depth ≤ 60 then .ok (.d (.bl (if neg then !ps.any (fun y => PyData.eqv y a) else ps.any fun y => PyData.eqv y a))) else .no
  | _, _ => .no
section
variable {X : Cx} {z : Z} {E : XK} {k : Nat}
theorem od_eq (o : OkX X z E k) : OpD X z (compareOp .Eq) (dEq false) := by
  refine ⟨⟨fun x y H Q => ∃ d e, Dp X.K H x d ∧ Dp X.K H y e ∧ d.plain = true ∧ e.plain = true ∧ d.depth ≤ 60 ∧ Q (.bl (PyData.eqv d e)) H, fun pins s σ H x y v u Q I rx ry h => ?_, fun G H x y dx dy Q e ix iy p => ?_⟩, fun x y c d => ?_⟩
  · obtain ⟨d, e, hd, he, sd, se, hl, q⟩ := h
    obtain ⟨as, r1⟩ := Dp.reads I d x v hd rx
    obtain ⟨bs, r2⟩ := Dp.reads I e y u he ry
    have hu := o.room.units
    exact PySem.SeqAt.eq_plain r1 r2 sd se (by have := Nat.min_le_left d.depth e.depth; omega) ⟨.bl _, H, I, rfl, q⟩
  · rw [o.K]
    unfold dEq at p
    split at p
    · rename_i a b qa qb
      split at p
      · rename_i hl
        exact ⟨a, b, isT_dp e ix qa, isT_dp e iy qb, toPy_plain qa, toPy_plain qb, hl, p _ (.bl _)⟩
      · exact p.elim
    · exact p.elim
  · unfold dEq
    split <;> (try split) <;> (intro h; cases h)
theorem od_ne (o : OkX X z E k) : OpD X z (compareOp .NotEq) (dEq true) := by
  refine ⟨⟨fun x y H Q => ∃ d e, Dp X.K H x d ∧ Dp X.K H y e ∧ d.plain = true ∧ e.plain = true ∧ d.depth ≤ 60 ∧ Q (.bl (!PyData.eqv d e)) H, fun pins s σ H x y v u Q I rx ry h => ?_, fun G H x y dx dy Q e ix iy p => ?_⟩, fun x y c d => ?_⟩
  · obtain ⟨d, e, hd, he, sd, se, hl, q⟩ := h
    obtain ⟨as, r1⟩ := Dp.reads I d x v hd rx
    obtain ⟨bs, r2⟩ := Dp.reads I e y u he ry
    have hu := o.room.units
    exact PySem.SeqAt.ne_plain r1 r2 sd se (by have := Nat.min_le_left d.depth e.depth; omega) ⟨.bl _, H, I, rfl, q⟩
  · rw [o.K]
    unfold dEq at p
    split at p
    · rename_i a b qa qb
      split at p
      · rename_i hl
        exact ⟨a, b, isT_dp e ix qa, isT_dp e iy qb, toPy_plain qa, toPy_plain qb, hl, p _ (.bl _)⟩
      · exact p.elim
    · exact p.elim
  · unfold dEq
    split <;> (try split) <;> (intro h; cases h)
end
end TN
namespace TN
open PySem PySem.Spec PyProof.Rows L2

section
variable {X : Cx} {z : Z} {E : XK} {k : Nat}
theorem od_in (o : OkX X z E k) : OpD X z (compareOp .In) (dIn false) := by
  refine ⟨⟨fun x y H Q => ∃ d e, Dp X.K H x d ∧ Dp X.K H y e ∧ d.plain = true ∧ e.plain = true ∧ d.depth ≤ 60 ∧ ((∃ ps, e = .list ps ∧ Q (.bl (ps.any fun y => PyData.eqv y d)) H) ∨ ∃ ps, e = .tuple ps ∧ Q (.bl (ps.any fun y => PyData.eqv y d)) H), fun pins s σ H x y v u Q I rx ry h => ?_, fun G H x y dx dy Q e ix iy p => ?_⟩, fun x y c d => ?_⟩
  · obtain ⟨d, e, hd, he, sd, se, hl, h⟩ := h
    obtain ⟨as, r1⟩ := Dp.reads I d x v hd rx
    obtain ⟨bs, r2⟩ := Dp.reads I e y u he ry
    have hu := o.room.units
    rcases h with ⟨ps, rfl, q⟩ | ⟨ps, rfl, q⟩
    · exact PySem.SeqAt.in_list_data r2 r1 se sd (by have := Nat.min_le_right (PyData.depthAll ps) d.depth; omega) ⟨.bl _, H, I, rfl, q⟩
    · exact PySem.SeqAt.in_tuple_data r2 r1 se sd (by have := Nat.min_le_right (PyData.depthAll ps) d.depth; omega) ⟨.bl _, H, I, rfl, q⟩
  · rw [o.K]
    unfold dIn at p
    split at p
    · rename_i a b qa qb
      split at p
      · rename_i hl; exact ⟨_, _, isT_dp e ix qa, isT_dp e iy qb, toPy_plain qa, toPy_plain qb, hl, .inl ⟨_, rfl, p _ (.bl _)⟩⟩
      · exact p.elim
    · rename_i a b qa qb
      split at p
      · rename_i hl; exact ⟨_, _, isT_dp e ix qa, isT_dp e iy qb, toPy_plain qa, toPy_plain qb, hl, .inr ⟨_, rfl, p _ (.bl _)⟩⟩
      · exact p.elim
    · exact p.elim
  · unfold dIn
    split <;> (try split) <;> (intro h; cases h)
theorem od_notIn (o : OkX X z E k) : OpD X z (compareOp .NotIn) (dIn true) := by
  refine ⟨⟨fun x y H Q => ∃ d e, Dp X.K H x d ∧ Dp X.K H y e ∧ d.plain = true ∧ e.plain = true ∧ d.depth ≤ 60 ∧ ((∃ ps, e = .list ps ∧ Q (.bl (!ps.any fun y => PyData.eqv y d)) H) ∨ ∃ ps, e = .tuple ps ∧ Q (.bl (!ps.any fun y => PyData.eqv y d)) H), fun pins s σ H x y v u Q I rx ry h => ?_, fun G H x y dx dy Q e ix iy p => ?_⟩, fun x y c d => ?_⟩
  · obtain ⟨d, e, hd, he, sd, se, hl, h⟩ := h
    obtain ⟨as, r1⟩ := Dp.reads I d x v hd rx
    obtain ⟨bs, r2⟩ := Dp.reads I e y u he ry
    have hu := o.room.units
    rcases h with ⟨ps, rfl, q⟩ | ⟨ps, rfl, q⟩
    · exact PySem.SeqAt.notIn_list_data r2 r1 se sd (by have := Nat.min_le_right (PyData.depthAll ps) d.depth; omega) ⟨.bl _, H, I, rfl, q⟩
    · exact PySem.SeqAt.notIn_tuple_data r2 r1 se sd (by have := Nat.min_le_right (PyData.depthAll ps) d.depth; omega) ⟨.bl _, H, I, rfl, q⟩
  · rw [o.K]
    unfold dIn at p
    split at p
    · rename_i a b qa qb
      split at p
      · rename_i hl; exact ⟨_, _, isT_dp e ix qa, isT_dp e iy qb, toPy_plain qa, toPy_plain qb, hl, .inl ⟨_, rfl, p _ (.bl _)⟩⟩
      · exact p.elim
    · rename_i a b qa qb
      split at p
      · rename_i hl; exact ⟨_, _, isT_dp e ix qa, isT_dp e iy qb, toPy_plain qa, toPy_plain qb, hl, .inr ⟨_, rfl, p _ (.bl _)⟩⟩
      · exact p.elim
    · exact p.elim
  · unfold dIn
    split <;> (try split) <;> (intro h; cases h)
/-- is None, is not None -/
def isNonD : D → Bool
  | .non => true
  | _ => false
def dIs (neg : Bool) (x y : D) : Out R0 := match y with
  | .non => .ok (.d (.bl (if neg then !isNonD x else isNonD x)))
  | _ => .no
theorem isNon_iff {K : PySem.W.Frag} {cl : Cl} {G H : Hp} {v : V} {d : D} (h : IsT K cl G H v d) : decide (v = .non) = isNonD d := by
  rcases h with h | ⟨p, vs, xs, rfl, rfl, hp, ia⟩
  · cases h <;> rfl
  · rfl
theorem od_is : OpD X z (compareOp .Is) (dIs false) := ⟨⟨_, op_isN, fun G H x y dx dy Q e ix iy p => by
  unfold dIs at p
  split at p
  · exact ⟨isNon iy, by rw [isNon_iff ix]; exact p _ (.bl _)⟩
  · exact p.elim⟩, fun x y c d => by unfold dIs; split <;> (intro h; cases h)⟩
theorem od_isNot : OpD X z (compareOp .IsNot) (dIs true) := ⟨⟨_, op_notN, fun G H x y dx dy Q e ix iy p => by
  unfold dIs at p
  split at p
  · exact ⟨isNon iy, by rw [isNon_iff ix]; exact p _ (.bl _)⟩
  · exact p.elim⟩, fun x y c d => by unfold dIs; split <;> (intro h; cases h)⟩
end

/-! ### items, slices -/
def dIx : D → D → Out R0
  | .tup ds, .int i => match atI ds i with
    | some d => .ok (.d d)
    | none => .no
  | .lst ds, .int i => match atI ds i with
    | some d => .ok (.d d)
    | none => .no
  | .scr ns, .int i => match atI ns i with
    | some d => .ok (.d (.int d))
    | none => .no
  | .str w, .int i => if w.length ≤ 100000 then match atI w.cps.toList i with
    | some c => .ok (.d (.str ⟨#[c]⟩))
    | none => .no else .no
  | _, _ => .no
section
variable {X : Cx} {z : Z} {E : XK} {k : Nat} {K : PySem.W.Frag} {cl : Cl} {G H : Hp}
theorem atI_is {vs : List V} {ds : List D} {i : Int} {d : D} (h : IsA K cl G vs ds) (e : atI ds i = some d) : ∃ v, atI vs i = some v ∧ Is K cl G v d := by
  unfold atI at e ⊢
  rw [h.length]
  cases q : ixN ds.length i with
  | none => rw [q] at e; cases e
  | some j =>
    rw [q] at e
    exact h.get (i := j) e
theorem atI_map {α β : Type} {f : α → β} {xs : List α} {i : Int} {d : α} (e : atI xs i = some d) : atI (xs.map f) i = some (f d) := by
  unfold atI at e ⊢
  rw [List.length_map]
  cases q : ixN xs.length i with
  | none => rw [q] at e; cases e
  | some j =>
    rw [q] at e
    have e : xs[j]? = some d := e
    show (xs.map f)[j]? = some (f d)
    rw [List.getElem?_map, e]; rfl
theorem ixd (hK : X.K = z.K) : IxD X z dIx := by
  refine ⟨⟨_, ix_seq, fun G H x y dx dy Q e ix iy p => ?_⟩, fun x y c d => ?_⟩
  · rw [hK]
    unfold dIx at p
    split at p
    · split at p
      · rename_i q
        obtain ⟨p1, vs, rfl, hs, ia, _⟩ := isTup e ix
        obtain ⟨v, hv, w⟩ := atI_is ia q
        exact .inr (.inl ⟨p1, vs, _, v, rfl, isInt iy, hs, hv, p _ w⟩)
      · exact p.elim
    · split at p
      · rename_i q
        obtain ⟨p1, vs, rfl, hs, ia⟩ := isLst e ix
        obtain ⟨v, hv, w⟩ := atI_is ia q
        exact .inl ⟨p1, vs, _, v, rfl, isInt iy, SqL.of hs, hv, p _ w⟩
      · exact p.elim
    · split at p
      · rename_i q
        obtain ⟨p1, rfl, hs⟩ := isScr e ix
        exact .inl ⟨p1, _, _, _, rfl, isInt iy, hs, atI_map q, p _ (.int _)⟩
      · exact p.elim
    · split at p
      · rename_i hl
        split at p
        · rename_i q
          exact .inr (.inr ⟨_, _, _, isStr ix, isInt iy, line100 hl, q, p _ (.str _)⟩)
        · exact p.elim
      · exact p.elim
    · exact p.elim
  · unfold dIx
    split <;> (try split) <;> (try split) <;> (intro h; cases h)
def cutD {α : Type} (xs : List α) (lo hi : Option Int) : List α := (xs.drop (HT.sIx xs.length 0 lo)).take (HT.sIx xs.length xs.length hi - HT.sIx xs.length 0 lo)
def dSl : D → Option Int → Option Int → Out R0
  | .tup ds, lo, hi => if HT.sIx ds.length 0 lo = 0 ∧ HT.sIx ds.length ds.length hi = ds.length then .ok (.d (.tup ds)) else .ok (.tp (cutD ds lo hi))
  | .lst ds, lo, hi => .ok (.ls (cutD ds lo hi))
  | _, _, _ => .no
theorem cut_is {vs : List V} {ds : List D} {lo hi : Option Int} (h : IsA K cl G vs ds) : IsA K cl G (cutV vs lo hi) (cutD ds lo hi) := by
  unfold cutV cutD
  rw [h.length]
  exact (h.drop _).take _
theorem SlR.or' {r r' : V → Option Int → Option Int → Hp → VK → Prop} (h : SlR X r) (h' : SlR X r') : SlR X (fun x lo hi H Q => r x lo hi H Q ∨ r' x lo hi H Q) := SlR.or h h'
theorem sld (hK : X.K = z.K) : SlD X z dSl := by
  refine ⟨⟨_, sl_list.or sl_tupA, fun G H x lo hi dx Q e ix p => ?_⟩, fun x y w c d => ?_⟩
  · rw [hK]
    unfold dSl at p
    split at p
    · obtain ⟨p1, vs, rfl, hs, ia, hg⟩ := isTup e ix
      split at p
      · rename_i hc
        exact .inr ⟨p1, vs, rfl, hs, fun _ => p _ (.tup hg ia), fun q => absurd (by rw [ia.length]; exact hc) q⟩
      · rename_i hc
        exact .inr ⟨p1, vs, rfl, hs, fun q => absurd (by rw [ia.length] at q; exact q) hc, fun _ pp hp => p pp _ hp (cut_is ia)⟩
    · obtain ⟨p1, vs, rfl, hs, ia⟩ := isLst e ix
      exact .inl ⟨p1, vs, rfl, SqL.of hs, fun pp hp => p pp _ hp (cut_is ia)⟩
    · exact p.elim
  · unfold dSl
    split <;> (try split) <;> (intro h; cases h)
end

/-! ### built-ins -/
def tyOf : D → Option String
  | .non => some "NoneType"
  | .bl _ => some "bool"
  | .int _ => some "int"
  | .str _ => some "str"
  | .tup _ => some "tuple"
  | .lst _ => some "list"
  | .scr _ => none
  | .dct => some "dict"
  | _ => none
def isiT (t T : String) : Option Bool := if T = "int" then some (t = "int" || t = "bool") else if T = "bool" ∨ T = "str" ∨ T = "tuple" ∨ T = "list" ∨ T = "dict" then some (t = T) else none
theorem kit_all : ∀ t ∈ ["NoneType", "bool", "int", "str", "tuple", "list", "dict"], ∀ T ∈ ["int", "bool", "str", "tuple", "list", "dict"], kitB t T = isiT t T := by decide +kernel
theorem isiT_mem {t T : String} {b : Bool} (h : isiT t T = some b) : T ∈ ["int", "bool", "str", "tuple", "list", "dict"] := by
  unfold isiT at h
  split at h
  · rename_i e; rw [e]; decide
  · split at h
    · rename_i e
      rcases e with e | e | e | e | e <;> (rw [e]; decide)
    · cases h
theorem tyOf_mem {d : D} {t : String} (h : tyOf d = some t) : t ∈ ["NoneType", "bool", "int", "str", "tuple", "list", "dict"] := by
  unfold tyOf at h
  split at h <;> first | (cases h; decide) | cases h
theorem tyOf_is {K : PySem.W.Frag} {cl : Cl} {G H : Hp} {v : V} {d : D} {t : String} (e : Ex G H) (h : IsT K cl G H v d) (ht : tyOf d = some t) : TyX K H v (.type t) := by
  rcases h with h | ⟨p, vs, xs, rfl, rfl, hp, ia⟩
  · cases h with
    | non => cases ht; exact .base .non
    | bl b => cases ht; exact .base (.bl b)
    | int i => cases ht; exact .base (.int i)
    | str x => cases ht; exact .base (.str x)
    | tup hs ha =>
      cases ht
      rcases hs with (hs | ⟨o, hs⟩) | ⟨o, its, n, hk, hc, _⟩
      · exact .base (.tup (e _ _ hs))
      · exact .fTuple (e _ _ hs)
      · exact .kTuple hk hc
    | lst hs ha => cases ht; exact .base (.lst (e _ _ hs))
    | dct hs => cases ht; exact .base (.dK (e _ _ hs))
    | _ => cases ht
  · cases ht; exact .base (.lst hp)
def bIsi : List D → Out R0
  | [x, .ty T] => match tyOf x with
    | some t => match isiT t T with
      | some b => .ok (.d (.bl b))
      | none => .no
    | none => .no
  | _ => .no
def bLen : List D → Out R0
  | [.tup ds] => .ok (.d (.int ds.length))
  | [.lst ds] => .ok (.d (.int ds.length))
  | [.scr ds] => .ok (.d (.int ds.length))
  | [.str x] => if x.length ≤ 100000 then .ok (.d (.int x.length)) else .no
  | _ => .no
def bTuple : List D → Out R0
  | [.tup ds] => .ok (.d (.tup ds))
  | [.lst ds] => .ok (.tp ds)
  | _ => .no
def bList : List D → Out R0
  | [.tup ds] => .ok (.ls ds)
  | [.lst ds] => .ok (.ls ds)
  | _ => .no
def bInt : List D → Out R0
  | [.int i] => .ok (.d (.int i))
  | [.bl b] => .ok (.d (.int (if b then 1 else 0)))
  | _ => .no
def bAbs : List D → Out R0
  | [.int i] => .ok (.d (.int (if i < 0 then -i else i)))
  | _ => .no
def toInts : List D → Option (List Int)
  | [] => some []
  | .int i :: r => match toInts r with
    | some is => some (i :: is)
    | none => none
  | _ => none
def toBls : List D → Option (List Bool)
  | [] => some []
  | .bl i :: r => match toBls r with
    | some is => some (i :: is)
    | none => none
  | _ => none
theorem toInts_eq : ∀ {ds : List D} {is : List Int}, toInts ds = some is → ds = is.map D.int
  | [], _, e => by cases e; rfl
  | .int i :: r, is, e => by
    simp only [toInts] at e
    split at e
    · rename_i js q; cases e; rw [toInts_eq q]; rfl
    · cases e
  | .non :: _, _, e => by cases e
  | .bl _ :: _, _, e => by cases e
  | .str _ :: _, _, e => by cases e
  | .tup _ :: _, _, e => by cases e
  | .lst _ :: _, _, e => by cases e
  | .scr _ :: _, _, e => by cases e
  | .dct :: _, _, e => by cases e
  | .obj _ _ :: _, _, e => by cases e
  | .ty _ :: _, _, e => by cases e
  | .cls _ :: _, _, e => by cases e
theorem toInts_map : ∀ (is : List Int), toInts (is.map D.int) = some is
  | [] => rfl
  | i :: is => by simp only [List.map_cons, toInts, toInts_map is]
theorem toBls_eq : ∀ {ds : List D} {is : List Bool}, toBls ds = some is → ds = is.map D.bl
  | [], _, e => by cases e; rfl
  | .bl i :: r, is, e => by
    simp only [toBls] at e
    split at e
    · rename_i js q; cases e; rw [toBls_eq q]; rfl
    · cases e
  | .non :: _, _, e => by cases e
  | .int _ :: _, _, e => by cases e
  | .str _ :: _, _, e => by cases e
  | .tup _ :: _, _, e => by cases e
  | .lst _ :: _, _, e => by cases e
  | .scr _ :: _, _, e => by cases e
  | .dct :: _, _, e => by cases e
  | .obj _ _ :: _, _, e => by cases e
  | .ty _ :: _, _, e => by cases e
  | .cls _ :: _, _, e => by cases e
theorem toBls_map : ∀ (is : List Bool), toBls (is.map D.bl) = some is
  | [] => rfl
  | i :: is => by simp only [List.map_cons, toBls, toBls_map is]
def bAll : List D → Out R0
  | [.lst ds] => match toBls ds with
    | some bs => .ok (.d (.bl (bs.all id)))
    | none => .no
  | _ => .no
def bAny : List D → Out R0
  | [.lst ds] => match toBls ds with
    | some bs => .ok (.d (.bl (bs.any id)))
    | none => .no
  | _ => .no
def bSum : List D → Out R0
  | [.lst ds] => match toInts ds with
    | some bs => .ok (.d (.int bs.sum))
    | none => .no
  | _ => .no
def bMax : List D → Out R0
  | [.int i, .int j] => .ok (.d (.int (if j > i then j else i)))
  | _ => .no
def bMin : List D → Out R0
  | [.int i, .int j] => .ok (.d (.int (if j < i then j else i)))
  | _ => .no
def bStr : List D → Out R0
  | [.int i] => if i.natAbs.log2 < 1920 then .ok (.d (.str (toString i))) else .no
  | _ => .no
section
variable {X : Cx} {z : Z} {E : XK} {k : Nat}
theorem cd1 {f : Value} {op : List D → Out R0} (r : List V → Hp → VK → Prop) (hr : CallR X f r) (nx : ∀ x c d, op x ≠ .exc c d) (hn : ∀ ds, (∀ d, ds ≠ [d]) → op ds = .no)
    (h : ∀ G H v d Q, Ex G H → IsT z.K z.cl G H v d → P0 z G H Q (op [d]) → r [v] H Q) : CallD X z f op := ⟨⟨r, hr, fun G H vs ds Q e i p => by
  by_cases q : ∃ d, ds = [d]
  · obtain ⟨d, rfl⟩ := q
    obtain ⟨v, rfl, w⟩ := isTs1 i
    exact h G H v d Q e w p
  · rw [hn ds (fun d e => q ⟨d, e⟩)] at p
    exact p.elim⟩, nx⟩
theorem cd_len (hK : X.K = z.K) : CallD X z (.builtin "len") bLen := ⟨⟨_, call_len, fun G H vs ds Q e i p => by
  rw [hK]
  unfold bLen at p
  split at p
  · obtain ⟨v, rfl, w⟩ := isTs1 i
    obtain ⟨a, vs, rfl, hs, ia, _⟩ := isTup e w
    exact ⟨_, _, rfl, .inr ⟨vs, hs, rfl⟩, by rw [ia.length]; exact p _ (.int _)⟩
  · obtain ⟨v, rfl, w⟩ := isTs1 i
    obtain ⟨a, vs, rfl, hs, ia⟩ := isLst e w
    exact ⟨_, _, rfl, .inl ⟨vs, SqL.of hs, rfl⟩, by rw [ia.length]; exact p _ (.int _)⟩
  · obtain ⟨v, rfl, w⟩ := isTs1 i
    obtain ⟨a, rfl, hs⟩ := isScr e w
    exact ⟨_, _, rfl, .inl ⟨_, hs, rfl⟩, by rw [List.length_map]; exact p _ (.int _)⟩
  · split at p
    · rename_i hl
      obtain ⟨v, rfl, w⟩ := isTs1 i
      rw [isStr w]
      exact ⟨_, _, rfl, ⟨line100 hl, rfl⟩, p _ (.int _)⟩
    · exact p.elim
  · exact p.elim⟩, fun x c d => by unfold bLen; split <;> (try split) <;> (intro h; cases h)⟩
theorem cd_isi (hK : X.K = z.K) : CallD X z (.builtin "isinstance") bIsi := ⟨⟨_, call_isi, fun G H vs ds Q e i p => by
  rw [hK]
  unfold bIsi at p
  split at p
  · split at p
    · rename_i t ht
      split at p
      · rename_i b hb
        obtain ⟨v, w, rfl, wv, ww⟩ := isTs2 i
        rw [isTy ww]
        exact ⟨_, _, _, _, b, rfl, .ty _, tyOf_is e wv ht, kit_ty ((kit_all _ (tyOf_mem ht) _ (isiT_mem hb)).trans hb), p _ (.bl _)⟩
      · exact p.elim
    · exact p.elim
  · exact p.elim⟩, fun x c d => by unfold bIsi; split <;> (try split) <;> (try split) <;> (intro h; cases h)⟩
theorem cd_tuple (hK : X.K = z.K) : CallD X z (.type "tuple") bTuple := ⟨⟨_, call_tuple_of, fun G H vs ds Q e i p => by
  rw [hK]
  unfold bTuple at p
  split at p
  · obtain ⟨v, rfl, w⟩ := isTs1 i
    obtain ⟨a, vs, rfl, hs, ia, hg⟩ := isTup e w
    exact ⟨_, _, rfl, .inr ⟨hs, p _ (.tup hg ia)⟩⟩
  · obtain ⟨v, rfl, w⟩ := isTs1 i
    obtain ⟨a, vs, rfl, hs, ia⟩ := isLst e w
    exact ⟨_, _, rfl, .inl ⟨SqL.of hs, fun l hl => p l _ hl ia⟩⟩
  · exact p.elim⟩, fun x c d => by unfold bTuple; split <;> (intro h; cases h)⟩
theorem cd_list (hK : X.K = z.K) : CallD X z (.type "list") bList := ⟨⟨_, call_list_of, fun G H vs ds Q e i p => by
  rw [hK]
  unfold bList at p
  split at p
  · obtain ⟨v, rfl, w⟩ := isTs1 i
    obtain ⟨a, vs, rfl, hs, ia, hg⟩ := isTup e w
    exact ⟨_, _, rfl, .inr hs, fun l hl => p l _ hl ia⟩
  · obtain ⟨v, rfl, w⟩ := isTs1 i
    obtain ⟨a, vs, rfl, hs, ia⟩ := isLst e w
    exact ⟨_, _, rfl, .inl (SqL.of hs), fun l hl => p l _ hl ia⟩
  · exact p.elim⟩, fun x c d => by unfold bList; split <;> (intro h; cases h)⟩
theorem cd_int : CallD X z (.type "int") bInt := ⟨⟨_, call_int1, fun G H vs ds Q e i p => by
  unfold bInt at p
  split at p
  · obtain ⟨v, rfl, w⟩ := isTs1 i
    exact .inl ⟨_, by rw [isInt w], p _ (.int _)⟩
  · obtain ⟨v, rfl, w⟩ := isTs1 i
    exact .inr ⟨_, by rw [isBl w], p _ (.int _)⟩
  · exact p.elim⟩, fun x c d => by unfold bInt; split <;> (intro h; cases h)⟩
theorem cd_abs : CallD X z (.builtin "abs") bAbs := ⟨⟨_, call_abs, fun G H vs ds Q e i p => by
  unfold bAbs at p
  split at p
  · obtain ⟨v, rfl, w⟩ := isTs1 i
    exact ⟨_, by rw [isInt w], p _ (.int _)⟩
  · exact p.elim⟩, fun x c d => by unfold bAbs; split <;> (intro h; cases h)⟩
theorem cd_str : CallD X z (.type "str") bStr := ⟨⟨_, call_str_int, fun G H vs ds Q e i p => by
  unfold bStr at p
  split at p
  · split at p
    · rename_i hl
      obtain ⟨v, rfl, w⟩ := isTs1 i
      exact ⟨_, by rw [isInt w], hl, p _ (.str _)⟩
    · exact p.elim
  · exact p.elim⟩, fun x c d => by unfold bStr; split <;> (try split) <;> (intro h; cases h)⟩
theorem cd_max (hc : X.calm = true) : CallD X z (.builtin "max") bMax := ⟨⟨_, call_max2 hc, fun G H vs ds Q e i p => by
  unfold bMax at p
  split at p
  · obtain ⟨v, w, rfl, wv, ww⟩ := isTs2 i
    exact ⟨_, _, by rw [isInt wv, isInt ww], p _ (.int _)⟩
  · exact p.elim⟩, fun x c d => by unfold bMax; split <;> (intro h; cases h)⟩
theorem cd_min (hc : X.calm = true) : CallD X z (.builtin "min") bMin := ⟨⟨_, call_min2 hc, fun G H vs ds Q e i p => by
  unfold bMin at p
  split at p
  · obtain ⟨v, w, rfl, wv, ww⟩ := isTs2 i
    exact ⟨_, _, by rw [isInt wv, isInt ww], p _ (.int _)⟩
  · exact p.elim⟩, fun x c d => by unfold bMin; split <;> (intro h; cases h)⟩
theorem cd_all (hK : X.K = z.K) (hc : X.calm = true) : CallD X z (.builtin "all") bAll := ⟨⟨_, cr_all hc, fun G H vs ds Q e i p => by
  rw [hK]
  unfold bAll at p
  split at p
  · split at p
    · rename_i bs q
      obtain ⟨v, rfl, w⟩ := isTs1 i
      obtain ⟨a, vs, rfl, hs, ia⟩ := isLst e w
      rw [toBls_eq q] at ia
      rw [IsA.bls ia] at hs
      exact ⟨a, bs, rfl, SqL.of hs, p _ (.bl _)⟩
    · exact p.elim
  · exact p.elim⟩, fun x c d => by unfold bAll; split <;> (try split) <;> (intro h; cases h)⟩
theorem cd_any (hK : X.K = z.K) (hc : X.calm = true) : CallD X z (.builtin "any") bAny := ⟨⟨_, cr_any hc, fun G H vs ds Q e i p => by
  rw [hK]
  unfold bAny at p
  split at p
  · split at p
    · rename_i bs q
      obtain ⟨v, rfl, w⟩ := isTs1 i
      obtain ⟨a, vs, rfl, hs, ia⟩ := isLst e w
      rw [toBls_eq q] at ia
      rw [IsA.bls ia] at hs
      exact ⟨a, bs, rfl, SqL.of hs, p _ (.bl _)⟩
    · exact p.elim
  · exact p.elim⟩, fun x c d => by unfold bAny; split <;> (try split) <;> (intro h; cases h)⟩
theorem cd_sum (hK : X.K = z.K) (hc : X.calm = true) : CallD X z (.builtin "sum") bSum := ⟨⟨_, cr_sum hc, fun G H vs ds Q e i p => by
  rw [hK]
  unfold bSum at p
  split at p
  · split at p
    · rename_i bs q
      obtain ⟨v, rfl, w⟩ := isTs1 i
      obtain ⟨a, vs, rfl, hs, ia⟩ := isLst e w
      rw [toInts_eq q] at ia
      rw [IsA.ints ia] at hs
      exact ⟨a, bs, rfl, SqL.of hs, p _ (.int _)⟩
    · exact p.elim
  · exact p.elim⟩, fun x c d => by unfold bSum; split <;> (try split) <;> (intro h; cases h)⟩
/-- a built-in type as a value -/
theorem we_tyName {x : Str} {T : String} {pos : Pos} (hm : X.mg x = none) (hv : bootBuiltins x = some (.type T)) (hg : Gl X x := by rfl) (hn : x ≠ "__name__" := by decide) (hd : (x == ("__debug__" : Str)) = false := by decide) : PE X (.Name x pos) (tE z E (fC (.ty T))) :=
  pe_mono (pe_bltn (v := .ty T) hg hm hv rfl hn hd) fun _ _ _ h => te_c (fun _ _ _ => .ty T) h
end

/-! ### sorted -/
def insI (i : Int) : List Int → List Int
  | [] => [i]
  | j :: r => if i ≤ j then i :: j :: r else j :: insI i r
def sortI : List Int → List Int
  | [] => []
  | i :: r => insI i (sortI r)
theorem insI_perm (i : Int) : ∀ l : List Int, (insI i l).Perm (i :: l)
  | [] => .refl _
  | j :: r => by
    unfold insI
    split
    · exact .refl _
    · exact ((insI_perm i r).cons j).trans (.swap i j r)
theorem sortI_perm : ∀ l : List Int, (sortI l).Perm l
  | [] => .refl _
  | i :: r => (insI_perm i _).trans ((sortI_perm r).cons i)
theorem insI_sorted (i : Int) : ∀ {l : List Int}, l.Pairwise (· ≤ ·) → (insI i l).Pairwise (· ≤ ·)
  | [], _ => by simp [insI]
  | j :: r, h => by
    unfold insI
    have h' := List.pairwise_cons.mp h
    split
    · rename_i q
      refine List.pairwise_cons.mpr ⟨fun a ha => ?_, h⟩
      rcases List.mem_cons.mp ha with e | e
      · rw [e]; exact q
      · exact Int.le_trans q (h'.1 a e)
    · rename_i q
      refine List.pairwise_cons.mpr ⟨fun a ha => ?_, insI_sorted i h'.2⟩
      rcases List.mem_cons.mp ((insI_perm i r).mem_iff.mp ha) with e | e
      · rw [e]; omega
      · exact h'.1 a e
theorem sortI_sorted : ∀ l : List Int, (sortI l).Pairwise (· ≤ ·)
  | [] => .nil
  | i :: r => insI_sorted i (sortI_sorted r)
theorem sorted_unique {a b : List Int} (p : a.Perm b) (ha : a.Pairwise (· ≤ ·)) (hb : b.Pairwise (· ≤ ·)) : a = b := by
  exact p.eq_of_pairwise (fun x y _ _ h1 h2 => Int.le_antisymm h1 h2) ha hb
def bSorted : List D → Out R0
  | [.lst ds] => match toInts ds with
    | some is => .ok (.ls ((sortI is).map D.int))
    | none => .no
  | [.tup ds] => match toInts ds with
    | some is => .ok (.ls ((sortI is).map D.int))
    | none => .no
  | _ => .no
/-- a new object at a place where none stands -/
theorem Inv.laidAt {X : Cx} {pins : List (Addr × Obj)} {σ : L2.St} {H : Hp} {s : Shared} {h' : Heap} {a : Addr} {o : HO} {t' : Nat} (I : Inv X pins σ H s) (k : ∀ b u, s.heap.get? b = some u → h'.get? b = some u) (hp : s.heap.get? a = none) (new : ObjOk X.prog X.w (upd H a o) h' a o) :
    Inv X pins σ (upd H a o) { s with heap := h', toks := t' } := by
  have hn : H a = none := I.hok.gone hp
  have ne : ∀ b u, s.heap.get? b = some u → b ≠ a := fun b u e q => by rw [q, hp] at e; cases e
  refine I.un ⟨fun b u e _ _ _ => k b u e, fun b u e _ _ _ => ⟨u.slots, k b u e⟩, fun b u e n _ => by rw [upd_ne (ne b u e)]; exact n, fun b u e _ => ⟨u, k b u e⟩, fun b xs e => ?_, fun b q xs e => ?_, fun b ps e => ⟨#[], ?_⟩⟩ fun b u e => ?_
  · rw [upd_ne (ne_of_none e hn)]; exact e
  · rw [upd_ne (ne_of_none e hn)]; exact e
  · rw [upd_ne (ne_of_none e hn), e]; simp
  · by_cases hb : b = a
    · subst hb; rw [upd_same] at e; cases e; exact new
    · rw [upd_ne hb] at e
      exact (I.hok b u e).stay (fun c v _ w => k c v w) (fun c w => by rw [upd_ne (ne_of_none w hn)]; exact w) fun c xs w => by rw [upd_ne (ne_of_none w hn)]; exact w
section
variable {X : Cx} {z : Z} {E : XK} {k : Nat}
def rSortedTu (K : PySem.W.Frag) : List V → Hp → VK → Prop := fun vs H Q => ∃ (a : Addr) (ns : List Int), vs = [V.ref a] ∧ SqT K H a (ns.map V.int) ∧
  ∀ (ns' : List Int) (p : Addr), ns'.Perm ns → ns'.Pairwise (· ≤ ·) → H p = none → Q (.ref p) (upd H p (.lst (ns'.map V.int)))
theorem cr_sortedTu : CallR X (.builtin "sorted") (rSortedTu X.K) := by
  intro pins s σ H vs us Q I r h
  obtain ⟨a, ns, rfl, hs, q⟩ := h
  obtain ⟨its, rv, ⟨o, ho, hc, n, hd⟩, hz⟩ := I.tuple hs
  rw [Vals.ref1 r]
  have hi := rv.ints
  have hzi : its.length ≤ sizeLine := by rw [← rv.length]; exact hz
  refine Calls.call_function_entry kind_sorted plain_sorted entry_sorted (args_sorted1 _) ?_
  unfold Builtin.«sorted»
  refine wpAny_bind (m := checkCount "sorted" 1 1 _) (wpAny_pure ?_)
  refine wpAny_bind (wpAny_collect_seq a (.inr rfl) ho hc hd (fun h' keep => ?_) (by simpa using hzi))
  refine wpAny_bind (wpAny_newList ?_ (by simpa using hzi))
  have hoL : (h'.push (seqObj "list" its.toArray 0)).get? h'.objs.size = some (seqObj "list" its.toArray 0) := Heap.get?_push_size _ rfl
  have kept : ∀ b o, s.heap.get? b = some o → b ≠ h'.objs.size ∧ (h'.push (seqObj "list" its.toArray 0)).get? b = some o := fun b o q =>
    ⟨Nat.ne_of_lt (Heap.lt_size (keep b o q)), Heap.get?_push_of_some _ (keep b o q)⟩
  show wpAny _ _ _ _ _ { s with heap := h'.push (seqObj "list" its.toArray 0) }
  refine wpAny_bind (wpAny_holding (wpAny_call_entry slot_list_sort ⟨_, hoL, rfl⟩ entry_list_sort (SrtO.list_sort_ord SrtO.swo_int hoL hzi (fun h2 => SrtO.ints_sortable hi h2) fun out h1 h2 => ⟨_, rfl, ?_⟩) (args_list_sort _)))
  obtain ⟨k1, k2, k3⟩ := SrtO.ints_out hi h1 h2
  obtain ⟨ep, he'⟩ := PyProof.Rows.sortedHeap_at (vs := its) (out := out.toArray) hoL
  have hlen : ((out.map SrtO.iv).map V.int).length ≤ sizeLine := by
    rw [List.length_map, k2.length_eq]
    rw [List.length_map] at hz
    exact hz
  have hp : s.heap.get? h'.objs.size = none := by
    cases q : s.heap.get? h'.objs.size with
    | none => rfl
    | some o => exact absurd (Heap.lt_size (keep _ o q)) (Nat.lt_irrefl _)
  have fin : L2.Inv X pins σ (upd H h'.objs.size (.lst ((out.map SrtO.iv).map V.int))) { s with heap := sortedHeap (h'.push (seqObj "list" its.toArray 0)) h'.objs.size its out.toArray, toks := s.toks } :=
    Inv.laidAt (s := s) (t' := s.toks) I (fun b u hb => by rw [PyProof.Rows.sortedHeap_old (kept b u hb).1 (Heap.lt_size (kept b u hb).2)]; exact (kept b u hb).2) hp ⟨hlen, out, ep, vals_of_ints k1, he'⟩
  exact wpAny_pure ⟨_, rfl, .ref _, _, fin, rfl, q _ _ k2 k3 (I.hok.gone hp)⟩
theorem isA_ints {K : PySem.W.Frag} {cl : Cl} {G : Hp} : ∀ ns : List Int, IsA K cl G (ns.map V.int) (ns.map D.int)
  | [] => .nil
  | _ :: ns => .cons (.int _) (isA_ints ns)
theorem sorted_end {z : Z} {G H : Hp} {Q : VK} {is ns' : List Int} {p : Addr} (hp : ns'.Perm is) (hs : ns'.Pairwise (· ≤ ·)) (hn : H p = none) (h : P0 z G H Q (.ok (.ls ((sortI is).map D.int)))) : Q (.ref p) (upd H p (.lst (ns'.map V.int))) := by
  have e : ns' = sortI is := sorted_unique (hp.trans (sortI_perm is).symm) hs (sortI_sorted is)
  subst e
  exact h p _ hn (isA_ints _)
theorem cd_sorted (hK : X.K = z.K) : CallD X z (.builtin "sorted") bSorted := ⟨⟨fun vs H Q => rSortedI X.K vs H Q ∨ rSortedTu X.K vs H Q, fun pins s σ H vs us Q I r h => by
    rcases h with h | h
    · exact cr_sortedI pins s σ H vs us Q I r h
    · exact cr_sortedTu pins s σ H vs us Q I r h, fun G H vs ds Q e i p => by
  rw [hK]
  unfold bSorted at p
  split at p
  · split at p
    · rename_i bs q
      obtain ⟨v, rfl, w⟩ := isTs1 i
      obtain ⟨a, vs, rfl, hs, ia⟩ := isLst e w
      rw [toInts_eq q] at ia
      rw [IsA.ints ia] at hs
      exact .inl ⟨a, bs, rfl, SqL.of hs, fun ns' p' h1 h2 h3 => sorted_end h1 h2 h3 p⟩
    · exact p.elim
  · split at p
    · rename_i bs q
      obtain ⟨v, rfl, w⟩ := isTs1 i
      obtain ⟨a, vs, rfl, hs, ia, _⟩ := isTup e w
      rw [toInts_eq q] at ia
      rw [IsA.ints ia] at hs
      exact .inr ⟨a, bs, rfl, hs, fun ns' p' h1 h2 h3 => sorted_end h1 h2 h3 p⟩
    · exact p.elim
  · exact p.elim⟩, fun x c d => by unfold bSorted; split <;> (try split) <;> (intro h; cases h)⟩
end
end TN
namespace TN
open PySem PySem.Spec PyProof.Rows L2

/-! ### list(range(..)) -/
section
variable {X : Cx} {z : Z} {E : XK} {k n : Nat} {e : Expr} {f : F} {p p2 pos pos2 : Pos}
def fLRg1 (f : F) : F := fun env => (f env).bind fun q => match q.1 with
  | .d (.int j) => if 0 ≤ j ∧ j ≤ 100000 then .ok (.new (rng 0 j), q.2) else .no
  | _ => .no
theorem isA_rgV {K : PySem.W.Frag} {cl : Cl} {G : Hp} (a b : Int) : IsA K cl G (rgV a b) (rng a b) := by
  unfold rgV rng
  generalize List.range (b - a).toNat = l
  induction l with
  | nil => exact .nil
  | cons x r ih => exact .cons (.int _) ih
theorem we_listRg (hc : X.calm = true) (hl : X.mg "list" = none) (hm : X.mg "range" = none) (he : PE X e (tE z E f)) (hg : Gl X "list" := by rfl) (hg2 : Gl X "range" := by rfl)
    (na : starEach [e] X.env = (false, eval e X.env) :: starEach [] X.env := by rfl) (nb : starEach [.Call (.Name "range" p2) [e] [] pos2] X.env = (false, eval (.Call (.Name "range" p2) [e] [] pos2) X.env) :: starEach [] X.env := by rfl) :
    PE X (.Call (.Name "list" p) [.Call (.Name "range" p2) [e] [] pos2] [] pos) (tE z E (fLRg1 f)) := pe_mono (pe_listRg hc hg hl (prg_1 hg2 hm he na) nb) fun σ H Q ⟨T, G, env, r, h⟩ => by
  refine ⟨T, G, env, r, (Pg.bind h).imp fun p hp v H1 G1 r1 e1 w1 => ?_⟩
  obtain ⟨q1, q2⟩ := p
  dsimp only at hp
  split at hp
  · rename_i j
    have w1 : Is z.K z.cl G1 v (.int j) := w1
    cases w1
    split at hp
    · rename_i hj
      refine ⟨j, rfl, RgOk.of_le (Int.le_refl 0) (by omega) (by omega) hj.1, fun q hq => ?_⟩
      obtain ⟨n1, n2, n3, n4, n5⟩ := r1.nn hq
      exact hp _ _ _ (r1.alloc hq) e1 ⟨q, _, rfl, upd_same, isA_rgV 0 j, n1, n2, n3, n4, n5⟩
    · exact hp.elim
  · exact hp.elim
end

/-! ### x.pop(i), x.extend(e), x[i] = e -/
def fPopI (i : Nat) (f : F) : F := fun env => (ofO (lstAt env i)).bind fun _ => (f env).bind fun p => match p.1 with
  | .d (.int j) => if -(2 ^ 62) ≤ j ∧ j < 2 ^ 62 then (ofO (lstAt p.2 i)).bind fun l => (ofO (ixN l.1.length j)).bind fun m => (ofO l.1[m]?).bind fun d => .ok (.d d, p.2.set i (l.2 (l.1.eraseIdx m))) else .no
  | _ => .no
def fExt (i : Nat) (f : F) : F := fun env => (ofO (lstAt env i)).bind fun _ => (f env).bind fun p => match p.1.opd.der p.2 with
  | some (.lst ys) => (ofO (lstAt p.2 i)).bind fun l => if l.1.length + ys.length ≤ 100000 then .ok (.d .non, p.2.set i (l.2 (l.1 ++ ys))) else .no
  | _ => .no
section
variable {X : Cx} {z : Z} {E : XK} {k n i : Nat} {c : Expr} {f fi : F} {σ : L2.St} {H : Hp} {Q : VK}
theorem te_popI (hK : X.K = z.K) (h : tE z E (fPopI i f) σ H Q) : tBM X.K "list" rPopAt (tVar i) (tCons (tE z E f) tNil) σ H Q := by
  rw [hK]
  obtain ⟨T, G, env, r, h⟩ := h
  obtain ⟨⟨xs0, mk0⟩, el0, h⟩ := (Pg.bind h).ofO
  obtain ⟨p0, vs0, es0, _, hp0, _, _⟩ := lstAt_ow r el0
  refine ⟨_, es0, .inl ⟨rfl, vs0, SqL.of hp0⟩, T, G, env, r, (Pg.bind h).imp fun p hp v H1 G1 r1 e1 w1 => ?_⟩
  obtain ⟨q1, q2⟩ := p
  dsimp only at hp
  split at hp
  · rename_i j
    have w1 : Is z.K z.cl G1 v (.int j) := w1
    cases w1
    split at hp
    · rename_i hj
      obtain ⟨⟨xs, mk⟩, el, hp⟩ := (Pg.bind hp).ofO
      obtain ⟨m, em, hp⟩ := (Pg.bind hp).ofO
      obtain ⟨d, ed, hp⟩ := (Pg.bind hp).ofO
      obtain ⟨p, vs, es, _, hpp, a, st⟩ := lstAt_ow r1 el
      rw [es0] at es
      cases es
      obtain ⟨k1, k2, k3, k4⟩ := ixN_seq em
      obtain ⟨y, hy, wy⟩ := a.get ed
      exact ⟨p0, vs, j, m, y, rfl, rfl, hpp, by omega, by omega, by rw [a.length]; exact k1, hy, hp y _ G1 (st _ _ (a.eraseIdx m)) e1 wy⟩
    · exact hp.elim
  · exact hp.elim
theorem we_popI (o : OkX X z E k) (h : PE X c (tBM X.K "list" rPopAt (tVar i) (tCons (tE z E f) tNil))) : PE X c (tE z E (fPopI i f)) := pe_mono h fun _ _ _ h => te_popI o.K h
theorem te_ext (hK : X.K = z.K) (h : tE z E (fExt i f) σ H Q) : tBM X.K "list" rExtend (tVar i) (tCons (tE z E f) tNil) σ H Q := by
  rw [hK]
  obtain ⟨T, G, env, r, h⟩ := h
  obtain ⟨⟨xs0, mk0⟩, el0, h⟩ := (Pg.bind h).ofO
  obtain ⟨p0, vs0, es0, _, hp0, _, _⟩ := lstAt_ow r el0
  refine ⟨_, es0, .inl ⟨rfl, vs0, SqL.of hp0⟩, T, G, env, r, (Pg.bind h).imp fun p hp v H1 G1 r1 e1 w1 => ?_⟩
  obtain ⟨G2, r2, e2, w2⟩ := w1.opd r1
  split at hp
  · rename_i ys ed
    obtain ⟨a2, ws, rfl, hs, ib⟩ := isLst r2.f.exG (w2.der r2 ed)
    obtain ⟨⟨xs, mk⟩, el, hp⟩ := (Pg.bind hp).ofO
    obtain ⟨p, vs, es, _, hpp, a, st⟩ := lstAt_ow r2 el
    rw [es0] at es
    cases es
    dsimp only at hp
    split at hp
    · rename_i hl
      exact ⟨p0, a2, vs, ws, rfl, rfl, hpp, hs, by rw [a.length, ib.length]; exact line100 hl, hp .non _ G2 (st _ _ (a.append ib)) (e1.trans e2) .non⟩
    · exact hp.elim
  · exact hp.elim
theorem we_ext (o : OkX X z E k) (h : PE X c (tBM X.K "list" rExtend (tVar i) (tCons (tE z E f) tNil))) : PE X c (tE z E (fExt i f)) := pe_mono h fun _ _ _ h => te_ext o.K h
end

/-! ### x[i] = e -/
def sSetIx (i : Nat) (fi fv : F) : S := fun env => (fv env).bind fun p => (ofO (p.1.opd.fix p.2)).bind fun y => (ofO (lstAt y.2 i)).bind fun _ => (fi y.2).bind fun q => match q.1 with
  | .d (.int j) => (ofO (lstAt q.2 i)).bind fun l => (ofO (ixN l.1.length j)).bind fun m => .ok (.nx, q.2.set i (l.2 (l.1.set m y.1)))
  | _ => .no
section
variable {X : Cx} {z : Z} {E : XK} {k n i : Nat} {e ei o : Expr} {f fi : F} {σ : L2.St} {H : Hp} {D : Ends} {pos tpos : Pos}
theorem ts_setIx (h : tS z E (sSetIx i fi f) D σ H) : tAsg (tE z E f) (L2.gSub (tVar i) (tE z E fi) rSetL) D σ H := by
  obtain ⟨T, G, env, r, h⟩ := h
  refine te_imp (fun v H1 q => ?_) (te_fix (C := fun G b => CS z T G D b) r (fun _ _ _ e h => CS.mono h e) h)
  obtain ⟨⟨y, e1⟩, G1, r1, x1, w1, h⟩ := q
  obtain ⟨⟨xs0, mk0⟩, el0, h⟩ := (Pg.bind h).ofO
  obtain ⟨p0, vs0, es0, _, hp0, _, _⟩ := lstAt_ow r1 el0
  refine ⟨_, es0, T, G1, e1, r1, (Pg.bind h).imp fun q hq u H2 G2 r2 x2 w2 => ?_⟩
  obtain ⟨q1, q2⟩ := q
  dsimp only at hq
  split at hq
  · rename_i j
    have w2 : Is z.K z.cl G2 u (.int j) := w2
    cases w2
    obtain ⟨⟨xs, mk⟩, el, hq⟩ := (Pg.bind hq).ofO
    obtain ⟨m, em, hq⟩ := (Pg.bind hq).ofO
    obtain ⟨p, vs, es, _, hpp, a, st⟩ := lstAt_ow r2 el
    rw [es0] at es
    cases es
    exact ⟨p0, vs, j, m, rfl, rfl, hpp, by rw [a.length]; exact em, hq σ _ G2 (st _ _ (a.set (w1.mono x2) m)) x2⟩
  · exact hq.elim
theorem ws_setIx {st : Stmt} (h : PS X st (tAsg (tE z E f) (L2.gSub (tVar i) (tE z E fi) rSetL))) : PS X st (tS z E (sSetIx i fi f)) := ps_mono h fun _ _ _ h => ts_setIx h
end

/-! ### a, b = x, y -/
def storeN : R → Option Sl
  | .d x => some (.val x)
  | .new xs => some (.own xs)
  | _ => none
def sPar (i j : Nat) (fa fb : F) : S := fun env => (fa env).bind fun p => (fb p.2).bind fun q => (ofO (storeN p.1)).bind fun a => (ofO (storeN q.1)).bind fun b =>
  if i < q.2.length ∧ j < q.2.length ∧ i ≠ j then .ok (.nx, (q.2.set i a).set j b) else .no
section
variable {z : Z} {E : XK} {T G H : Hp} {env : Ev} {σ : L2.St} {v : V} {r : R}
/-- a result kept while another expression runs -/
theorem VR.keep (h : VR z T G H env σ v r) (p : Rep z T G H env σ) : ∃ T', Rep z T' G H env σ ∧ ∀ {G' H' : Hp} {env' : Ev}, Rep z T' G' H' env' σ → Ex G G' → Rep z T G' H' env' σ ∧ VR z T G' H' env' σ v r ∧
    ∀ (u : V) (s : R), VR z T' G' H' env' σ u s → VR z T G' H' env' σ u s ∧ ∀ xs ys q, r = .new xs → s = .new ys → v = .ref q → u ≠ .ref q := by
  cases r with
  | d y => exact ⟨T, p, fun r' e => ⟨r', Is.mono e h, fun u s w => ⟨w, fun xs ys q e => by cases e⟩⟩⟩
  | at_ i => exact ⟨T, p, fun r' e => ⟨r', h, fun u s w => ⟨w, fun xs ys q e => by cases e⟩⟩⟩
  | new xs =>
    obtain ⟨q, vs, rfl, hq, a, g, t, h0, hm, no⟩ := h
    refine ⟨upd T q (.lst vs), p.temp (Da := q) (fun _ _ => rfl) g h0 no (p.exT.put hq) (fun b hb => ?_), fun {G' H' env'} r' e => ?_⟩
    · by_cases e : b = q
      · exact .inl e
      · rw [upd_ne e] at hb; exact .inr hb
    · have tq : (upd T q (.lst vs)) q ≠ none := by rw [upd_same]; intro w; cases w
      have hq' : H' q = some (.lst vs) := r'.exT q _ upd_same
      have no' := r'.noOw tq
      refine ⟨r'.temp (Da := q) (fun _ _ => rfl) (r'.gt q tq) h0 no' (fun b u hb => ?_) (fun b hb => ?_), ⟨q, vs, rfl, hq', a.mono e, r'.gt q tq, t, h0, hm, no'⟩, fun u s w => ?_⟩
      · by_cases e : b = q
        · subst e; rw [t] at hb; cases hb
        · exact r'.exT b u (by rw [upd_ne e]; exact hb)
      · by_cases e : b = q
        · exact .inl e
        · exact .inr (by rw [upd_ne e]; exact hb)
      · cases s with
        | d y => exact ⟨w, fun _ _ _ _ e => by cases e⟩
        | at_ i => exact ⟨w, fun _ _ _ _ e => by cases e⟩
        | new ys =>
          obtain ⟨q2, vs2, rfl, hq2, a2, g2, t2, h02, hm2, no2⟩ := w
          have ne : q2 ≠ q := fun e => by rw [e, upd_same] at t2; cases t2
          rw [upd_ne ne] at t2
          exact ⟨⟨q2, vs2, rfl, hq2, a2, g2, t2, h02, hm2, no2⟩, fun _ _ q' _ _ e1 e2 => by cases e1; cases e2; exact ne rfl⟩
theorem VR.storeN {s : Sl} (h : VR z T G H env σ v r) (e : storeN r = some s) : SlOk z T G H (some v) s ∧ (∀ q, s.ow = true → v = .ref q → (∀ j, ¬ Ow env σ j q) ∧ ∃ xs, r = .new xs) := by
  cases r with
  | d y => cases e; exact ⟨⟨v, rfl, h⟩, fun q w => by cases w⟩
  | at_ i => cases e
  | new xs =>
    cases e
    obtain ⟨p, vs, rfl, hp, a, g, t, h0, hm, no⟩ := h
    exact ⟨⟨p, vs, rfl, g, t, h0, hp, a⟩, fun q _ e => by cases e; exact ⟨no, xs, rfl⟩⟩
variable {X : Cx} {k n i j : Nat} {fa fb : F} {D : Ends}
theorem ts_par (h : tS z E (sPar i j fa fb) D σ H) : L2.tPar i j (tCons (tE z E fa) (tCons (tE z E fb) tNil)) D σ H := by
  obtain ⟨T, G, env, r, h⟩ := h
  refine ⟨T, G, env, r, (Pg.bind h).imp fun p hp v H1 G1 r1 e1 w1 => ?_⟩
  obtain ⟨T1, rt, kk⟩ := w1.keep r1
  refine ⟨T1, G1, p.2, rt, (Pg.bind hp).imp fun q hq u H2 G2 r2 e2 w2 => ?_⟩
  obtain ⟨r2', w1', k2⟩ := kk r2 e2
  obtain ⟨w2', dif⟩ := k2 u q.1 w2
  obtain ⟨sa, ea, hq⟩ := (Pg.bind hq).ofO
  obtain ⟨sb, eb, hq⟩ := (Pg.bind hq).ofO
  split at hq
  · rename_i hij
    obtain ⟨hi, hj, ne⟩ := hij
    obtain ⟨slA, hdA⟩ := w1'.storeN ea
    obtain ⟨slB, hdB⟩ := w2'.storeN eb
    have r3 := r2'.set slA (fun q' o e => (hdA q' o e).1) hi
    have r4 := r3.set (i := j) slB (fun q' o e j' hw => ?_) (by rw [List.length_set]; exact hj)
    · exact ⟨v, u, rfl, hq _ H2 G2 r4 (e1.trans e2)⟩
    · obtain ⟨no, ys, ey⟩ := hdB q' o e
      obtain ⟨⟨s1, es, os⟩, ep⟩ := hw
      by_cases w : i = j'
      · subst w
        rw [List.getElem?_set_self hi] at es
        rw [List.getElem?_set_self (by rw [← r2'.len]; exact hi)] at ep
        cases es
        have ev : v = .ref q' := Option.some.inj ep
        obtain ⟨_, xs, ex⟩ := hdA q' os ev
        exact dif xs ys q' ex ey ev e
      · rw [List.getElem?_set_ne w] at es ep
        exact no j' ⟨⟨s1, es, os⟩, ep⟩
  · exact hq.elim
theorem ws_par {st : Stmt} (h : PS X st (L2.tPar i j (tCons (tE z E fa) (tCons (tE z E fb) tNil)))) : PS X st (tS z E (sPar i j fa fb)) := ps_mono h fun _ _ _ h => ts_par h
end

/-! ### a, b = e -/
def sAsg (ga : GA) (f : F) : S := fun env => (f env).bind fun p => (ofO (p.1.opd.fix p.2)).bind fun y => (ofO (ga y.1 y.2)).bind fun e => .ok (.nx, e)
section
variable {X : Cx} {z : Z} {E : XK} {k n : Nat} {ga : GA} {is : List Nat} {f : F} {σ : L2.St} {H : Hp} {D : Ends}
theorem ts_asg (h : tS z E (sAsg ga f) D σ H) : tAsg (tE z E f) (tG z is ga) D σ H := by
  obtain ⟨T, G, env, r, h⟩ := h
  refine te_imp (fun v H1 q => ?_) (te_fix (C := fun G b => CS z T G D b) r (fun _ _ _ e h => CS.mono h e) h)
  obtain ⟨⟨y, e1⟩, G1, r1, x1, w1, h⟩ := q
  obtain ⟨e2, eg, h⟩ := (Pg.bind h).ofO
  exact ⟨T, G1, e1, y, e2, r1, w1, eg, fun σ' r' _ => h σ' H1 G1 r' (Ex.refl G1)⟩
theorem ws_asg {st : Stmt} (h : PS X st (tAsg (tE z E f) (tG z is ga))) : PS X st (tS z E (sAsg ga f)) := ps_mono h fun _ _ _ h => ts_asg h
end
end TN
namespace TN
open PySem PySem.Spec PyProof.Rows L2

/-! ### t[::-1] -/
section
variable {prog : Program} {w : World} {A : Around} {E : Value → Shared → Prop} {s : Shared}
theorem slice_back {sl : Addr} {vs : Value} {n : Nat} {Q : Int × Int × Nat → Shared → Prop} (hs : s.heap.IsSliceOf sl .none .none vs) (ps : IsPart vs (some (-1)))
    (h : Q ((n : Int) - 1, -1, n) s) : wpAny (model prog w) A (Builtin.Slice.sliceApplied (.ref sl) (pure (n : Int))) Q E s := by
  obtain ⟨os, hos, hcs, hds⟩ := id hs
  unfold Builtin.Slice.sliceApplied Builtin.Slice.sliceFields
  refine wpAny_bind (wpAny_bind (wpAny_field hos hds (x := .none) rfl (wpAny_bind (wpAny_field hos hds (x := .none) rfl (wpAny_bind (wpAny_field hos hds (x := vs) rfl (wpAny_pure ?_)))))))
  refine wpAny_bind (HT.slicePart_ ps ?_)
  show wpAny _ _ (if ((-1 : Int) == 0) = true then _ else _) _ _ s
  rw [if_neg (by decide)]
  refine wpAny_bind (HT.slicePart_ .none (wpAny_bind (HT.slicePart_ .none (wpAny_bind (wpAny_pure ?_)))))
  show wpAny _ _ (match Builtin.Slice.sliceAdjust none none (-1) (n : Int) with | (lo, hi) => pure (lo, (-1 : Int), Builtin.Slice.slicePlaces lo hi (-1))) _ _ s
  have e1 : Builtin.Slice.sliceAdjust none none (-1) (n : Int) = ((n : Int) - 1, -1) := rfl
  rw [e1]
  show wpAny _ _ (pure ((n : Int) - 1, (-1 : Int), Builtin.Slice.slicePlaces ((n : Int) - 1) (-1) (-1))) _ _ s
  have e2 : Builtin.Slice.slicePlaces ((n : Int) - 1) (-1) (-1) = n := by
    unfold Builtin.Slice.slicePlaces
    rw [if_neg (by decide)]
    show (if (n : Int) - 1 > -1 then ((n : Int) - 1 - -1 - 1) / (- -1) + 1 else 0).toNat = n
    rw [show (- -1 : Int) = 1 by decide, Int.ediv_one]
    split <;> omega
  rw [e2]
  exact wpAny_pure h
theorem fm_congr {α β : Type} {f g : α → Option β} : ∀ {l : List α}, (∀ x ∈ l, f x = g x) → l.filterMap f = l.filterMap g
  | [], _ => rfl
  | x :: l, h => by
    rw [List.filterMap_cons, List.filterMap_cons, h x List.mem_cons_self, fm_congr fun y hy => h y (List.mem_cons_of_mem _ hy)]
theorem pick_back (xs : Array Value) : ((List.range xs.size).filterMap fun (m : Nat) => xs[(((xs.size : Int) - 1) + (m : Int) * (-1)).toNat]?).toArray = xs.toList.reverse.toArray := by
  congr 1
  have e : ∀ m ∈ List.range xs.size, (fun (m : Nat) => xs[(((xs.size : Int) - 1) + (m : Int) * (-1)).toNat]?) m = (fun m => xs[xs.size - 1 - m]?) m := fun m hm => by
    have : (((xs.size : Int) - 1) + (m : Int) * (-1)).toNat = xs.size - 1 - m := by have := List.mem_range.mp hm; omega
    simp only [this]
  rw [fm_congr e]
  have h2 : (List.range xs.size).filterMap (fun m => xs[xs.size - 1 - m]?) = ((List.range xs.size).map fun m => xs.size - 1 - m).filterMap fun m => xs[m]? := by
    rw [List.filterMap_map]; rfl
  rw [h2, PySem.W.krv_range, List.filterMap_reverse, PySem.W.krv_all]
theorem tup_back {t sl : Addr} {items : Array Value} {vs : Value} {Q : Value → Shared → Prop} (ht : IsTup s.heap t items) (hs : s.heap.IsSliceOf sl .none .none vs) (ps : IsPart vs (some (-1)))
    (h : Q (.ref s.heap.objs.size) { s with heap := s.heap.push { cls := .type "tuple", data := .seq items.toList.reverse.toArray } })
    (hsz : items.size ≤ sizeLine) : wpAny (model prog w) A (getItem (.ref t) (.ref sl)) Q E s := by
  have hok : sizeOk (.seq items.toList.reverse.toArray) := by
    show items.toList.reverse.toArray.size ≤ sizeLine
    rw [List.size_toArray, List.length_reverse, Array.length_toList]
    exact hsz
  obtain ⟨os, hos, hcs, hds⟩ := id hs
  have hTs : s.TypeIs (.ref sl) "slice" := ⟨os, hos, hcs⟩
  unfold getItem
  try with_reducible refine wpAny_holding ?_
  first | refine wpAny_bind (wpAny_pure ?_) | skip
  refine wpAny_bind (wpAny_sequenceKey ht.typeIs (by decide) ?_)
  refine wpAny_bind (wpAny_callSpecial?_slot (name := Str.ofString "__getitem__") ht.typeIs PyProof.Rows.slot_tuple_getitem
    (wpAny_call_entry PyProof.Rows.slot_tuple_getitem ht.typeIs entry_tuple_getitem ?_ (args_tuple_getitem _ _)))
  show wpAny _ _ (Builtin.Tuple.tupleItemsOf (.ref t) >>= _) _ _ s
  refine wpAny_bind (tupleItemsOf_ ht ?_)
  refine wpAny_bind (wpAny_typeOf hTs ?_)
  rw [if_pos (by decide)]
  refine wpAny_bind (slice_back hs ps ?_)
  show wpAny _ _ (if (((items.size : Int) - 1 == 0) && (-1 : Int) == 1 && items.size == items.size) = true then _ else _) _ _ s
  rw [if_neg (by rw [show ((-1 : Int) == 1) = false by decide]; simp), pick_back]
  first
    | exact wpAny_bind (m := Builtin.Tuple.tupleExact _) (wpAny_newObj_type (wpAny_pure ⟨_, rfl, wpAny_pure h⟩) hok)
    | exact wpAny_bind (m := Builtin.Tuple.tupleExact _) (wpAny_newObj_type (wpAny_bind (wpAny_pure (wpAny_pure ⟨_, rfl, wpAny_pure h⟩))) hok)
    | exact wpAny_bind (wpAny_bind (m := Builtin.Tuple.tupleExact _) (wpAny_newObj_type (wpAny_pure (wpAny_pure ⟨_, rfl, wpAny_pure h⟩)) hok))
    | exact wpAny_bind (wpAny_bind (m := Builtin.Tuple.tupleExact _) (wpAny_newObj_type (wpAny_pure ⟨_, rfl, wpAny_pure h⟩) hok))
end
section
variable {X : Cx}
def tBack (K : PySem.W.Frag) (te : TE) : TE := fun σ H Q => te σ H fun x H1 => ∃ a xs, x = .ref a ∧ ((SqL K H1 a xs ∧ ∀ p, H1 p = none → Q (.ref p) (upd H1 p (.lst xs.reverse))) ∨ (SqT K H1 a xs ∧ ∀ p, H1 p = none → Q (.ref p) (upd H1 p (.tup xs.reverse))))
theorem pe_back {e : Expr} {te : TE} {k : Nat} {p1 p2 p3 pos : Pos} (he : PE X e te) : PE X (.Subscript e (.Slice none none (some (.UnaryOp .USub (.Constant (.int 1) k p1) p2)) p3) pos) (tBack X.K te) := by
  refine ⟨fun pins s σ H Q I h => ?_⟩
  refine Subscript_ (thn (he.run pins s σ H _ I h) fun v s1 ⟨x, H1, I1, r1, q1⟩ => ?_)
  obtain ⟨a, xs, ex, hx⟩ := q1
  subst ex
  cases r1
  have hst : PO X (some (.UnaryOp .USub (.Constant (.int 1) k p1) p2)) (tPart (tUn (rU fun i => .int (-i)) (tC (.int 1)))) := po_some (pe_un un_neg pe_int)
  refine wpAny_Slice (thn (po_none.run pins s1 σ H1 (fun o H2 => o = none ∧ H2 = H1) I1 ⟨rfl, rfl⟩) fun vl s2 ⟨l, H2, I2, pl, el, e2⟩ => ?_)
  subst el e2
  refine thn (po_none.run pins s2 σ H2 (fun o H3 => o = none ∧ H3 = H2) I2 ⟨rfl, rfl⟩) fun vu s3 ⟨u, H3, I3, pu, eu, e3⟩ => ?_
  subst eu e3
  refine thn (hst.run pins s3 σ H3 (fun o H4 => o = some (-1) ∧ H4 = H3) I3 ⟨1, rfl, -1, rfl, rfl, rfl⟩) fun vs s4 ⟨o, H4, I4, ps, eo, e4⟩ => ?_
  subst eo e4
  have I5 : Inv X pins σ H4 { s4 with heap := s4.heap.push { cls := .type "slice", data := .fields #[vl, vu, vs] } } := I4.kept (t' := s4.toks) fun b ob q => Heap.get?_push_of_some _ q
  show wpAny (model X.prog X.w) X.A (subscriptTail e (.Slice none none (some (.UnaryOp .USub (.Constant (.int 1) k p1) p2)) p3) (.ref a) (.ref s4.heap.objs.size)) (EP X pins σ Q) X.xe { s4 with heap := s4.heap.push { cls := .type "slice", data := .fields #[vl, vu, vs] } }
  rcases hx with ⟨hx, q⟩ | ⟨hx, q⟩
  · obtain ⟨its, r, ht, hz⟩ := I5.list hx
    have hlen := r.length
    refine tail_any (ops := [.ref a, .ref s4.heap.objs.size]) ht.isList.typeIs (PySem.slot_list_getitem.lookup) ?_ (by with_unfolding_all rfl)
    refine wpAny_getItem_list_slice ht.isList (Heap.IsSliceOf.new _ vl vu vs) pl pu ps (by decide) ?_ (by rw [List.size_toArray]; omega)
    rw [PySem.W.krv_pick]
    refine ⟨.ref _, _, I5.laid (t' := s4.toks) (o := .lst xs.reverse) (fun b ob q => Heap.get?_push_of_some _ q) (Nat.le_refl _) ?_, rfl, q _ (I5.hok.fresh (Nat.le_refl _))⟩
    exact ⟨by rw [List.length_reverse]; exact hz, _, 0, r.reverse, Heap.get?_push_size _ rfl⟩
  · obtain ⟨its, r, ht, hz⟩ := I5.tuple hx
    have hlen := r.length
    cases pl
    cases pu
    refine tail_any (ops := [.ref a, .ref s4.heap.objs.size]) ht.typeIs (PyProof.Rows.slot_tuple_getitem.lookup) ?_ (by with_unfolding_all rfl)
    refine tup_back ht (Heap.IsSliceOf.new _ .none .none vs) ps ?_ (by rw [List.size_toArray]; omega)
    refine ⟨.ref _, _, I5.laid (t' := s4.toks) (o := .tup xs.reverse) (fun b ob q => Heap.get?_push_of_some _ q) (Nat.le_refl _) ?_, rfl, q _ (I5.hok.fresh (Nat.le_refl _))⟩
    exact ⟨by rw [List.length_reverse]; exact hz, _, r.reverse, IsTup.new _ _⟩
variable {z : Z} {E : XK}
def fBack (f : F) : F := fun env => (f env).bind fun p => match p.1.opd.der p.2 with
  | some (.tup ds) => .ok (.d (.tup ds.reverse), p.2)
  | some (.lst ds) => .ok (.new ds.reverse, p.2)
  | _ => .no
theorem we_back {e : Expr} {f : F} {k : Nat} {p1 p2 p3 pos : Pos} (hK : X.K = z.K) (he : PE X e (tE z E f)) : PE X (.Subscript e (.Slice none none (some (.UnaryOp .USub (.Constant (.int 1) k p1) p2)) p3) pos) (tE z E (fBack f)) := pe_mono (pe_back he) fun σ H Q ⟨T, G, env, r, h⟩ => by
  rw [hK]
  refine ⟨T, G, env, r, (Pg.bind h).imp fun p hp v H1 G1 r1 e1 w1 => ?_⟩
  obtain ⟨G2, r2, e2, w2⟩ := w1.opd r1
  split at hp
  · rename_i ds ed
    obtain ⟨a, vs, rfl, hs, ia, _⟩ := isTup r2.f.exG (w2.der r2 ed)
    refine ⟨a, vs, rfl, .inr ⟨hs, fun q hq => ?_⟩⟩
    have g := (r2.nn hq).1
    exact hp _ _ _ (r2.grow hq) ((e1.trans e2).trans (Ex.new g)) (.tup (.inl (.inl upd_same)) (ia.reverse.mono (Ex.new g)))
  · rename_i ds ed
    obtain ⟨a, vs, rfl, hs, ia⟩ := isLst r2.f.exG (w2.der r2 ed)
    refine ⟨a, vs, rfl, .inl ⟨SqL.of hs, fun q hq => ?_⟩⟩
    obtain ⟨n1, n2, n3, n4, n5⟩ := r2.nn hq
    exact hp _ _ _ (r2.alloc hq) (e1.trans e2) ⟨q, _, rfl, upd_same, ia.reverse, n1, n2, n3, n4, n5⟩
  · exact hp.elim
end

/-! ### truth, minus -/
def D.tru : D → Option Bool
  | .non => some false
  | .bl b => some b
  | .int i => some (i != 0)
  | .str x => if x.length ≤ 100000 then some ((x.length : Int) != 0) else none
  | .tup ds => some (!ds.isEmpty)
  | .lst ds => some (!ds.isEmpty)
  | _ => none
def fTru (f : F) : FB := fun env => (f env).bind fun p => (ofO ((p.1.opd.der p.2).bind D.tru)).bind fun b => .ok (b, p.2)
def oneI (g : Int → Int) : D → Out R0
  | .int i => .ok (.d (.int (g i)))
  | _ => .no
def fUn (g : Int → Int) (f : F) : F := fun env => (f env).bind fun p => match p.1 with
  | .d (.int i) => .ok (.d (.int (g i)), p.2)
  | _ => .no
section
variable {X : Cx} {z : Z} {E : XK} {k n : Nat} {a : Expr} {f : F} {pos : Pos}
theorem tru_is {K : PySem.W.Frag} {cl : Cl} {G H : Hp} {v : V} {d : D} {b : Bool} (e : Ex G H) (h : IsT K cl G H v d) (ht : d.tru = some b) : TruV K v H b := by
  rcases h with h | ⟨p, vs, xs, rfl, rfl, hp, ia⟩
  · cases h with
    | non => cases ht; exact rfl
    | bl b => cases ht; exact rfl
    | int i => cases ht; exact rfl
    | str x =>
      simp only [D.tru] at ht
      split at ht
      · rename_i hl; cases ht; exact ⟨line100 hl, rfl⟩
      · cases ht
    | @tup a vs ds hs ha => cases ht; exact .inr (.inl ⟨_, ex_t e hs, by cases ha <;> rfl⟩)
    | @lst a vs ds hs ha => cases ht; exact .inl ⟨_, SqL.of (e _ _ hs), by cases ha <;> rfl⟩
    | _ => cases ht
  · cases ht; exact .inl ⟨_, SqL.of hp, by cases ia <;> rfl⟩
theorem wt_tru (hK : X.K = z.K) (h : PE X a (tE z E f)) (he : ∀ whole, isTrue a X.env whole = (do let v ← whole; standAt a.pos; holding [v] (truthy v)) := by intro _; rfl) : PT X a (tT z E (fTru f)) :=
  pt_mono (pt_truth h he) fun σ H Q ⟨T, G, env, r, h⟩ => by
    rw [hK]
    refine ⟨T, G, env, r, (Pg.bind h).imp fun p hp v H1 G1 r1 e1 w1 => ?_⟩
    obtain ⟨G2, r2, e2, w2⟩ := w1.opd r1
    obtain ⟨b, eb, hp⟩ := (Pg.bind hp).ofO
    cases q : p.1.opd.der p.2 with
    | none => rw [q] at eb; cases eb
    | some d =>
      rw [q] at eb
      exact ⟨b, tru_is r2.f.exG (w2.der r2 q) eb, hp H1 G2 r2 (e1.trans e2)⟩
theorem we_un {op : UnaryOp} {g : Int → Int} (hr : UnR X (unaryOp op) (rU fun i => .int (g i))) (h : PE X a (tE z E f)) : PE X (.UnaryOp op a pos) (tE z E (fUn g f)) := pe_mono (pe_un hr h) fun σ H Q ⟨T, G, env, r, h⟩ => by
  refine ⟨T, G, env, r, (Pg.bind h).imp fun p hp v H1 G1 r1 e1 w1 => ?_⟩
  obtain ⟨q1, q2⟩ := p
  dsimp only at hp
  split at hp
  · rename_i i
    have w1 : Is z.K z.cl G1 v (.int i) := w1
    cases w1
    exact ⟨i, rfl, hp _ H1 G1 r1 e1 (.int _)⟩
  · exact hp.elim
end

/-! ### a def of the text -/
def FnB (P : Program) (w : World) (K : PySem.W.Frag) (mg : Str → Option Value) (base : Heap) (z : Z) (k : Nat) (x : Str) (ps : List Str) (m : Bool) (φ : Fn) : Prop :=
  ∃ f fd, FnOk P w K mg base (L2.CX P w) k f fd ps (spF z m ps.length φ) ∧ mg x = some (.ref f) ∧ PySem.W.keepIn K (.ref f) = true ∧ Binds K fd ps []
theorem FnB.mono {P : Program} {w : World} {K : PySem.W.Frag} {mg : Str → Option Value} {base : Heap} {z : Z} {j k : Nat} {x : Str} {ps : List Str} {m : Bool} {φ : Fn} (h : FnB P w K mg base z j x ps m φ) (hk : j ≤ k) : FnB P w K mg base z k x ps m φ :=
  let ⟨f, fd, a, b⟩ := h
  ⟨f, fd, a.mono hk, b⟩
theorem spF_at {z : Z} {m : Bool} {n : Nat} {φ : Fn} {G0 H0 : Hp} {M0 : Option Addr} {vs : List V} {H : Hp} {Q : VK} {E : XK} (h : spF (z.at_ G0 H0 M0) m n φ vs H Q E) : spF z m n φ vs H Q E := by
  obtain ⟨G, ds, M, a, e, l, p⟩ := h
  refine ⟨G, ds, M, ?_, e, l, p⟩
  cases a with
  | pure a => exact .pure a
  | wr a b c d => exact .wr a b c d
theorem FnB_at {P : Program} {w : World} {K : PySem.W.Frag} {mg : Str → Option Value} {base : Heap} {z : Z} {k : Nat} {x : Str} {ps : List Str} {m : Bool} {φ : Fn} (h : FnB P w K mg base z k x ps m φ) (G H : Hp) (M : Option Addr) : FnB P w K mg base (z.at_ G H M) k x ps m φ := by
  obtain ⟨f, fd, a, b⟩ := h
  exact ⟨f, fd, a.imp fun vs H Q E q => spF_at q, b⟩
section
variable {X : Cx} {z : Z} {E : XK} {k j n : Nat} {ps : List Str} {x : Str} {p pos : Pos} {e : Expr} {es : List Expr} {m : Bool} {φ : Fn} {g : FA}
theorem we_fn (F : FnB X.prog X.w X.K X.mg X.base z j x ps m φ) (o : OkX X z E k) (ha : WA X z E (e :: es) g ps.length) (hj : j ≤ k := by decide) (hg : Gl X x := by rfl) (hdb : (x == ("__debug__" : Str)) = false := by decide)
    (he : starEach (e :: es) X.env = (false, eval e X.env) :: starEach es X.env := by rfl) (hpl : (backTo pos (starEach es X.env)).any (·.1) = false := by rfl) : PE X (.Call (.Name x p) (e :: es) [] pos) (tE z E (fCall m φ g)) := by
  obtain ⟨f, fd, a, hm, hk, hb⟩ := F.mono hj
  exact we_call a o hm hk hb ha hg hdb he hpl
end
theorem law_ends {z : Z} {φ : Fn} {H : Hp} {a : Addr} {ns : List Int} {E : XK} (hm : φ [.scr ns] = .ok (.d (.bl true), [])) (hS : SqL z.K H a (ns.map V.int)) : spF z false 1 φ [.ref a] H (fun v _ => v = .bl true) E :=
  ⟨H, [.scr ns], none, .pure (.cons (.scr hS) .nil), Ex.refl H, rfl, by
    rw [hm]
    intro v H' G' _ r _
    cases r
    rfl⟩
theorem cx_no {P : Program} {w : World} {o : List Env} {H : Hp} {s : Shared} {e : Value} {s' : Shared} (h : L2.CX P w o H s (fun _ _ _ => False) e s') : False := by
  obtain ⟨_, _, _, _, _, _, _, _, _, _, _, _, h⟩ := h
  exact h
end TN
namespace TN
open PySem PySem.Spec PyProof.Rows L2

/-! ### how the pure data run -/
theorem two62 : (2 : Int) ^ 62 = 4611686018427387904 := by decide +kernel
theorem two63 : (2 : Int) ^ 63 = 9223372036854775808 := by decide +kernel
section
variable {α β : Type}
@[simp] theorem e_bok (a : α) (k : α → Out β) : (Out.ok a).bind k = k a := rfl
@[simp] theorem e_bno (k : α → Out β) : (Out.no).bind k = .no := rfl
@[simp] theorem e_bexc (c : Nat) (d : D) (k : α → Out β) : (Out.exc c d).bind k = .exc c d := rfl
@[simp] theorem e_ofs (a : α) : ofO (some a) = .ok a := rfl
@[simp] theorem e_ofn : ofO (none : Option α) = .no := rfl
@[simp] theorem e_noX (a : α) : noX (.ok a) = .ok a := rfl
end
section
variable (env : Ev) (i j : Nat) (d d' : D) (ds xs ys : List D) (r : R) (rs : List R)
@[simp] theorem e_var : fVar i env = (match env[i]? with
  | some (.val d) => .ok (.d d, env)
  | some (.own _) => .ok (.at_ i, env)
  | some (.par _) => .ok (.at_ i, env)
  | _ => .no) := rfl
@[simp] theorem e_c : fC d env = .ok (.d d, env) := rfl
@[simp] theorem e_opd1 : R.opd (.d d) = .d d := rfl
@[simp] theorem e_opd2 : R.opd (.new xs) = .d (.lst xs) := rfl
@[simp] theorem e_opd3 : R.opd (.at_ i) = .at_ i := rfl
@[simp] theorem e_der1 : R.der env (.d d) = some d := rfl
@[simp] theorem e_der2 : R.der env (.at_ i) = (match env[i]? with
  | some (.val d) => some d
  | some (.own xs) => some (.lst xs)
  | some (.par xs) => some (.lst xs)
  | _ => none) := by
  unfold R.der
  rfl
@[simp] theorem e_der3 : R.der env (.new xs) = none := rfl
@[simp] theorem e_fix1 : R.fix env (.d d) = some (d, env) := rfl
@[simp] theorem e_fix3 : R.fix env (.new xs) = none := rfl
@[simp] theorem e_r1 : R0.r (.d d) = .d d := rfl
@[simp] theorem e_r2 : R0.r (.tp xs) = .d (.tup xs) := rfl
@[simp] theorem e_r3 : R0.r (.ls xs) = .new xs := rfl
@[simp] theorem e_two {β : Type} (fa fb : F) (k : D → D → Ev → Out β) : fTwo fa fb k env = (fa env).bind fun p => (fb p.2).bind fun q =>
  (ofO (p.1.opd.der q.2)).bind fun x => (ofO (q.1.opd.der q.2)).bind fun y => k x y q.2 := rfl
@[simp] theorem e_bin (op : D → D → Out R0) (fa fb : F) : fBin op fa fb env = fTwo fa fb (fun x y e => (op x y).bind fun q => .ok (q.r, e)) env := rfl
@[simp] theorem e_bOf (f : F) : bOf f env = (f env).bind fun p => (match p.1 with
  | .d (.bl b) => .ok (b, p.2)
  | _ => .no) := rfl
@[simp] theorem e_notB (f : FB) : fNotB f env = (f env).bind fun p => .ok (!p.1, p.2) := rfl
@[simp] theorem e_andB (f g : FB) : fAndB f g env = (f env).bind fun p => if p.1 = true then g p.2 else .ok (false, p.2) := rfl
@[simp] theorem e_orB (f g : FB) : fOrB f g env = (f env).bind fun p => if p.1 = true then .ok (true, p.2) else g p.2 := rfl
@[simp] theorem e_andV (f g : F) : fAndV f g env = (bOf f env).bind fun p => if p.1 = true then g p.2 else .ok (.d (.bl false), p.2) := rfl
@[simp] theorem e_orV (f g : F) : fOrV f g env = (bOf f env).bind fun p => if p.1 = true then .ok (.d (.bl true), p.2) else g p.2 := rfl
@[simp] theorem e_notV (f : F) : fNotV f env = (bOf f env).bind fun p => .ok (.d (.bl (!p.1)), p.2) := rfl
@[simp] theorem e_if (c : FB) (f g : F) : fIf c f g env = (c env).bind fun p => if p.1 = true then f p.2 else g p.2 := rfl
@[simp] theorem e_chain (op op' : D → D → Out R0) (fa fb fc : F) : fChain op op' fa fb fc env = (fa env).bind fun p => (fb p.2).bind fun q => (ofO (p.1.opd.der q.2)).bind fun x => (ofO (q.1.opd.der q.2)).bind fun y =>
  (match op x y with
  | .ok (.d (.bl false)) => .ok (.d (.bl false), q.2)
  | .ok (.d (.bl true)) => (fc q.2).bind fun s => (ofO (q.1.opd.der s.2)).bind fun y => (ofO (s.1.opd.der s.2)).bind fun w => (op' y w).bind fun o => .ok (o.r, s.2)
  | _ => .no) := rfl
@[simp] theorem e_aNil : aNil env = .ok ([], env) := rfl
@[simp] theorem e_aCons (f : F) (g : FA) : aCons f g env = (f env).bind fun p => (g p.2).bind fun q => .ok (p.1.opd :: q.1, q.2) := rfl
@[simp] theorem e_tup (g : FA) : fTup g env = (g env).bind fun p => (match fixAll p.2 p.1 with
  | some (ds, e) => if ds.length ≤ 100000 then .ok (.d (.tup ds), e) else .no
  | none => .no) := rfl
@[simp] theorem e_lst (g : FA) : fLst g env = (g env).bind fun p => (match fixAll p.2 p.1 with
  | some (ds, e) => if ds.length ≤ 100000 then .ok (.new ds, e) else .no
  | none => .no) := rfl
@[simp] theorem e_fa0 : fixAll env [] = some ([], env) := rfl
@[simp] theorem e_fa1 : fixAll env (.d d :: rs) = (match fixAll env rs with
  | some (ds, e) => some (d :: ds, e)
  | none => none) := rfl
@[simp] theorem e_dct : fDct env = .ok (.d .dct, env) := rfl
@[simp] theorem e_oN : oNone env = .ok (none, env) := rfl
@[simp] theorem e_oS (f : F) : oSome f env = (f env).bind fun p => (match p.1 with
  | .d (.int i) => .ok (some i, p.2)
  | _ => .no) := rfl
@[simp] theorem e_sl (op : D → Option Int → Option Int → Out R0) (f : F) (lo hi : FO) : fSl op f lo hi env = (f env).bind fun p => (lo p.2).bind fun q => (hi q.2).bind fun s => (ofO (p.1.opd.der s.2)).bind fun x => (op x q.1 s.1).bind fun o => .ok (o.r, s.2) := rfl
@[simp] theorem e_da0 : derAll env [] = some [] := rfl
@[simp] theorem e_da1 : derAll env (r :: rs) = (match r.der env with
    | some d => (match derAll env rs with
      | some ds => some (d :: ds)
      | none => none)
    | none => none) := rfl
@[simp] theorem e_bi (op : List D → Out R0) (g : FA) : fBi op g env = (g env).bind fun p => (ofO (derAll p.2 p.1)).bind fun ds => (op ds).bind fun o => .ok (o.r, p.2) := rfl
@[simp] theorem e_putL (φ : Fn) : putL φ ds env i = (match env[i]? with
  | some (.own xs) => (φ (.lst xs :: ds)).bind fun s => .ok (s.1.r, env.set i (.own s.2))
  | some (.par xs) => (φ (.lst xs :: ds)).bind fun s => .ok (s.1.r, env.set i (.par s.2))
  | _ => .no) := rfl
@[simp] theorem e_ck0 (φ : Fn) : callK φ false rs env = (ofO (fixAll env rs)).bind fun q => (φ q.1).bind fun s => .ok (s.1.r, q.2) := rfl
@[simp] theorem e_ck1 (φ : Fn) : callK φ true (.at_ i :: rs) env = (ofO (fixAll env rs)).bind fun q => putL φ q.1 q.2 i := rfl
@[simp] theorem e_call (m : Bool) (φ : Fn) (g : FA) : fCall m φ g env = (g env).bind fun p => callK φ m p.1 p.2 := rfl
@[simp] theorem e_sNil : sNil env = .ok (.nx, env) := rfl
@[simp] theorem e_sCons (s t : S) : sCons s t env = (s env).bind fun p => (match p.1 with
  | .nx => t p.2
  | .ret r => .ok (.ret r, p.2)) := rfl
@[simp] theorem e_st1 : stored env (.d d) = some (.val d, env) := rfl
@[simp] theorem e_st2 : stored env (.new xs) = some (.own xs, env) := rfl
@[simp] theorem e_sSet (f : F) : sSet i f env = (f env).bind fun p => (ofO (stored p.2 p.1)).bind fun q => if i < q.2.length then .ok (.nx, q.2.set i q.1) else .no := rfl
@[simp] theorem e_sRet (f : F) : sRet f env = (f env).bind fun p => .ok (.ret p.1, p.2) := rfl
@[simp] theorem e_sRetN : sRetN env = .ok (.ret (.d .non), env) := rfl
@[simp] theorem e_sExpr (f : F) : sExpr f env = (f env).bind fun p => .ok (.nx, p.2) := rfl
@[simp] theorem e_sIf (c : FB) (s t : S) : sIf c s t env = (c env).bind fun p => if p.1 = true then s p.2 else t p.2 := rfl
@[simp] theorem e_it1 : D.items (.tup xs) = some xs := rfl
@[simp] theorem e_it2 : D.items (.lst xs) = some xs := rfl
@[simp] theorem e_it3 (ns : List Int) : D.items (.scr ns) = some (ns.map D.int) := rfl
@[simp] theorem e_seq (f : F) : fSeq f env = (f env).bind fun p => (ofO (p.1.opd.fix p.2)).bind fun q => (ofO q.1.items).bind fun ds => .ok (ds, q.2) := rfl
@[simp] theorem e_rng1 (g : FA) : fRng1 g env = (g env).bind fun p => (match derAll p.2 p.1 with
  | some [.int j] => if -4611686018427387904 ≤ j ∧ j < 4611686018427387904 then .ok (rng 0 j, p.2) else .no
  | _ => .no) := by
  unfold fRng1
  rw [two62]
  try rfl
@[simp] theorem e_rng2 (g : FA) : fRng2 g env = (g env).bind fun p => (match derAll p.2 p.1 with
  | some [.int i, .int j] => if (-4611686018427387904 ≤ i ∧ i < 4611686018427387904) ∧ -4611686018427387904 ≤ j ∧ j < 4611686018427387904 then .ok (rng i j, p.2) else .no
  | _ => .no) := by
  unfold fRng2
  rw [two62]
  try rfl
@[simp] theorem e_gN : gN i d env = if i < env.length then some (env.set i (.val d)) else none := rfl
@[simp] theorem e_gT (is : List Nat) : gT is (.tup ds) env = gTs is ds env := rfl
@[simp] theorem e_gT0 : gTs [] [] env = some env := rfl
@[simp] theorem e_gT1 (is : List Nat) : gTs (i :: is) (d :: ds) env = (match gN i d env with
    | some e => gTs is ds e
    | none => none) := rfl
@[simp] theorem e_yes : bYes env = .ok (true, env) := rfl
@[simp] theorem e_ret1 : retOf env (.d d) = some (.d d) := rfl
@[simp] theorem e_ret2 : retOf env (.new xs) = some (.ls xs) := rfl
@[simp] theorem e_ret3 : retOf env (.at_ i) = (match env[i]? with
    | some (.val y) => some (.d y)
    | some (.own xs) => some (.ls xs)
    | _ => none) := rfl
@[simp] theorem e_par0 : parOf false env = some [] := rfl
@[simp] theorem e_par1 : parOf true env = (match env[(0 : Nat)]? with
  | some (.par xs) => some xs
  | _ => none) := rfl
@[simp] theorem e_stE0 (n : Nat) : startE false n ds = some (ds.map Sl.val ++ List.replicate (n - ds.length) .no) := rfl
@[simp] theorem e_stE1 (n : Nat) : startE true n (.lst xs :: ds) = some (.par xs :: ds.map Sl.val ++ List.replicate (n - (ds.length + 1)) .no) := rfl
@[simp] theorem e_fn (m : Bool) (n : Nat) (body : S) : fnOf m n body ds = (ofO (startE m n ds)).bind fun e => (body e).bind fun p => (match p.1 with
  | .nx => (ofO (parOf m p.2)).bind fun xs => .ok (.d .non, xs)
  | .ret r => (ofO (retOf p.2 r)).bind fun q => (ofO (parOf m p.2)).bind fun xs => .ok (q, xs)) := rfl
@[simp] theorem e_lstAt : lstAt env i = (match env[i]? with
  | some (.own xs) => some (xs, .own)
  | some (.par xs) => some (xs, .par)
  | _ => none) := rfl
@[simp] theorem e_app (f : F) : fApp i f env = (ofO (lstAt env i)).bind fun _ => (f env).bind fun p => (ofO (p.1.opd.fix p.2)).bind fun y => (ofO (lstAt y.2 i)).bind fun l =>
  if l.1.length < 100000 then .ok (.d .non, y.2.set i (l.2 (l.1 ++ [y.1]))) else .no := rfl
@[simp] theorem e_lrg (f : F) : fLRg1 f env = (f env).bind fun q => (match q.1 with
  | .d (.int j) => if 0 ≤ j ∧ j ≤ 100000 then .ok (.new (rng 0 j), q.2) else .no
  | _ => .no) := rfl
@[simp] theorem e_popI (f : F) : fPopI i f env = (ofO (lstAt env i)).bind fun _ => (f env).bind fun p => (match p.1 with
  | .d (.int j) => if -4611686018427387904 ≤ j ∧ j < 4611686018427387904 then (ofO (lstAt p.2 i)).bind fun l => (ofO (ixN l.1.length j)).bind fun m => (ofO l.1[m]?).bind fun d => .ok (.d d, p.2.set i (l.2 (l.1.eraseIdx m))) else .no
  | _ => .no) := by
  unfold fPopI
  rw [two62]
  try rfl
@[simp] theorem e_sSetIx (fi fv : F) : sSetIx i fi fv env = (fv env).bind fun p => (ofO (p.1.opd.fix p.2)).bind fun y => (ofO (lstAt y.2 i)).bind fun _ => (fi y.2).bind fun q => (match q.1 with
  | .d (.int j) => (ofO (lstAt q.2 i)).bind fun l => (ofO (ixN l.1.length j)).bind fun m => .ok (.nx, q.2.set i (l.2 (l.1.set m y.1)))
  | _ => .no) := rfl
@[simp] theorem e_sN1 : storeN (.d d) = some (.val d) := rfl
@[simp] theorem e_sN2 : storeN (.new xs) = some (.own xs) := rfl
@[simp] theorem e_sPar (fa fb : F) : sPar i j fa fb env = (fa env).bind fun p => (fb p.2).bind fun q => (ofO (storeN p.1)).bind fun a => (ofO (storeN q.1)).bind fun b =>
  if i < q.2.length ∧ j < q.2.length ∧ i ≠ j then .ok (.nx, (q.2.set i a).set j b) else .no := rfl
@[simp] theorem e_back (f : F) : fBack f env = (f env).bind fun p => (match p.1.opd.der p.2 with
  | some (.tup ds) => .ok (.d (.tup ds.reverse), p.2)
  | some (.lst ds) => .ok (.new ds.reverse, p.2)
  | _ => .no) := rfl
@[simp] theorem e_tru (f : F) : fTru f env = (f env).bind fun p => (ofO ((p.1.opd.der p.2).bind D.tru)).bind fun b => .ok (b, p.2) := rfl
@[simp] theorem e_trub (b : Bool) : D.tru (.bl b) = some b := rfl
@[simp] theorem e_oI (g : Int → Int → Option D) (a b : Int) : oI g (.int a) (.int b) = (match g a b with
    | some k => .ok (.d k)
    | none => .no) := rfl
@[simp] theorem e_add (a b : Int) : dAdd (.int a) (.int b) = .ok (.d (.int (a + b))) := rfl
@[simp] theorem e_mul (a b : Int) : dMul (.int a) (.int b) = (match gMul a b with
    | some k => .ok (.d k)
    | none => .no) := rfl
@[simp] theorem e_bInt (a : Int) : bInt [.int a] = .ok (.d (.int a)) := rfl
@[simp] theorem e_bIntb (b : Bool) : bInt [.bl b] = .ok (.d (.int (if b then 1 else 0))) := rfl
@[simp] theorem e_bAbs (a : Int) : bAbs [.int a] = .ok (.d (.int (if a < 0 then -a else a))) := rfl
@[simp] theorem e_bMax (a b : Int) : bMax [.int a, .int b] = .ok (.d (.int (if b > a then b else a))) := rfl
@[simp] theorem e_bMin (a b : Int) : bMin [.int a, .int b] = .ok (.d (.int (if b < a then b else a))) := rfl
@[simp] theorem e_bLen1 : bLen [.tup xs] = .ok (.d (.int xs.length)) := rfl
@[simp] theorem e_bLen2 : bLen [.lst xs] = .ok (.d (.int xs.length)) := rfl
@[simp] theorem e_bLen3 (ns : List Int) : bLen [.scr ns] = .ok (.d (.int ns.length)) := rfl
@[simp] theorem e_bTup1 : bTuple [.tup xs] = .ok (.d (.tup xs)) := rfl
@[simp] theorem e_bTup2 : bTuple [.lst xs] = .ok (.tp xs) := rfl
@[simp] theorem e_bLst1 : bList [.tup xs] = .ok (.ls xs) := rfl
@[simp] theorem e_bLst2 : bList [.lst xs] = .ok (.ls xs) := rfl
@[simp] theorem e_gm (a b : Int) : gMinus a b = some (.int (a - b)) := rfl
@[simp] theorem e_glt (a b : Int) : gLt a b = some (.bl (decide (a < b))) := rfl
@[simp] theorem e_gle (a b : Int) : gLe a b = some (.bl (decide (a ≤ b))) := rfl
@[simp] theorem e_ggt (a b : Int) : gGt a b = some (.bl (decide (b < a))) := rfl
@[simp] theorem e_gge (a b : Int) : gGe a b = some (.bl (decide (b ≤ a))) := rfl
@[simp] theorem e_ix1 (a : Int) : dIx (.tup xs) (.int a) = (match atI xs a with
    | some d => .ok (.d d)
    | none => .no) := rfl
@[simp] theorem e_ix2 (a : Int) : dIx (.lst xs) (.int a) = (match atI xs a with
    | some d => .ok (.d d)
    | none => .no) := rfl
@[simp] theorem e_ix3 (ns : List Int) (a : Int) : dIx (.scr ns) (.int a) = (match atI ns a with
    | some d => .ok (.d (.int d))
    | none => .no) := rfl
end
theorem e_gdiv {a b : Int} (h : 0 < b) (h2 : b < 1073741824) : gDiv a b = some (.int (a / b)) := if_pos ⟨h, h2⟩
theorem e_gmod {a b : Int} (h : 0 < b) : gMod a b = some (.int (a % b)) := if_pos h
theorem two64 : (2 : Int) ^ 64 = 18446744073709551616 := by decide +kernel
theorem e_gmulL {a b : Int} (h : -18446744073709551616 < a ∧ a < 18446744073709551616) : gMul a b = some (.int (a * b)) := if_pos (.inl (by rw [two64]; exact h))
theorem e_gmulR {a b : Int} (h : -18446744073709551616 < b ∧ b < 18446744073709551616) : gMul a b = some (.int (a * b)) := if_pos (.inr (by rw [two64]; exact h))
theorem e_gmulM {x m b : Int} (h : 0 < m ∧ m ≤ 18446744073709551616) : gMul (x % m) b = some (.int (x % m * b)) := by
  have h1 := Int.emod_nonneg x (show m ≠ 0 by omega)
  have h2 := Int.emod_lt_of_pos x h.1
  exact e_gmulL ⟨by omega, by omega⟩
@[simp] theorem e_at0 {α : Type} (x : α) (xs : List α) : atI (x :: xs) 0 = some x := atI_nat (j := 0) rfl
@[simp] theorem e_at1 {α : Type} (x y : α) (xs : List α) : atI (x :: y :: xs) 1 = some y := atI_nat (j := 1) rfl
@[simp] theorem e_at2 {α : Type} (x y z : α) (xs : List α) : atI (x :: y :: z :: xs) 2 = some z := atI_nat (j := 2) rfl
theorem e_atN {α : Type} (xs : List α) (i : Nat) : atI xs (i : Int) = xs[i]? := by
  unfold atI ixN
  by_cases h : i < xs.length
  · simp [h]
  · simp [h, List.getElem?_eq_none (Nat.le_of_not_lt h)]
theorem bits1 : Builtin.Int.intBits (10 : Int) * (55 : Int) ≤ 2 ^ 27 := by decide +kernel
theorem bits3 : Builtin.Int.intBits (10 : Int) * (16 : Int) ≤ 2 ^ 27 := by decide +kernel
theorem bits2 : Builtin.Int.intBits ((10 : Int) ^ (55 : Int).toNat) * (6 : Int) ≤ 2 ^ 27 := by decide +kernel
theorem powers : ∃ p q r : Int, gPow 10 55 = some (.int p) ∧ gPow p 6 = some (.int q) ∧ gPow 10 16 = some (.int r) ∧ 0 < q := by
  refine ⟨(10 : Int) ^ (55 : Int).toNat, ((10 : Int) ^ (55 : Int).toNat) ^ (6 : Int).toNat, (10 : Int) ^ (16 : Int).toNat, if_pos ⟨by omega, bits1⟩, if_pos ⟨by omega, bits2⟩, if_pos ⟨by omega, bits3⟩, ?_⟩
  exact Int.pow_pos (Int.pow_pos (by omega))
/-! ### lists of whole numbers -/
theorem toPyL_ints : ∀ ns : List Int, toPyL (ns.map D.int) = some (ns.map PyData.int)
  | [] => rfl
  | n :: ns => by
    show (match toPy (.int n) with
      | some p => match toPyL (ns.map D.int) with
        | some ps => some (p :: ps)
        | none => none
      | none => none) = _
    rw [toPyL_ints ns]
    rfl
theorem depth_ints : ∀ ns : List Int, PyData.depthAll (ns.map PyData.int) = 0
  | [] => by simp [PyData.depthAll]
  | n :: ns => by simp [PyData.depthAll, PyData.depth, depth_ints ns]
theorem eqvAll_ints : ∀ a b : List Int, PyData.eqvAll (a.map PyData.int) (b.map PyData.int) = decide (a = b)
  | [], [] => by simp [PyData.eqvAll]
  | [], y :: b => by simp [PyData.eqvAll]
  | x :: a, [] => by simp [PyData.eqvAll]
  | x :: a, y :: b => by
    simp only [List.map_cons, PyData.eqvAll, PyData.eqv, eqvAll_ints a b]
    by_cases h : x = y <;> by_cases h2 : a = b <;> simp [h, h2]
theorem toPy_lst (ns : List Int) : toPy (.lst (ns.map D.int)) = some (.list (ns.map PyData.int)) := by
  simp only [toPy, toPyL_ints]
theorem toPy_tup (ns : List Int) : toPy (.tup (ns.map D.int)) = some (.tuple (ns.map PyData.int)) := by
  simp only [toPy, toPyL_ints]
theorem dEq_lst (neg : Bool) (a b : List Int) : dEq neg (.lst (a.map D.int)) (.lst (b.map D.int)) = .ok (.d (.bl (if neg then !decide (a = b) else decide (a = b)))) := by
  unfold dEq
  rw [toPy_lst, toPy_lst]
  simp only [PyData.depth, depth_ints, PyData.eqv, eqvAll_ints]
  rfl
theorem dEq_nil (neg : Bool) (a : List Int) : dEq neg (.lst (a.map D.int)) (.lst []) = .ok (.d (.bl (if neg then !decide (a = []) else decide (a = [])))) := dEq_lst neg a []
theorem toInts_of : ∀ ns : List Int, toInts (ns.map D.int) = some ns
  | [] => rfl
  | n :: ns => by
    show (match toInts (ns.map D.int) with
      | some is => some (n :: is)
      | none => none) = _
    rw [toInts_of ns]
theorem bSorted_lst (ns : List Int) : bSorted [.lst (ns.map D.int)] = .ok (.ls ((sortI ns).map D.int)) := by
  simp only [bSorted, toInts_of]
theorem bSorted_tup (ns : List Int) : bSorted [.tup (ns.map D.int)] = .ok (.ls ((sortI ns).map D.int)) := by
  simp only [bSorted, toInts_of]
def rngI (n : Int) : List Int := (List.range n.toNat).map fun (k : Nat) => (k : Int)
theorem rng_eq (n : Int) : rng 0 n = (rngI n).map D.int := by
  unfold rng rngI
  rw [List.map_map, Int.sub_zero]
  exact List.map_congr_left fun k _ => by simp
theorem dMul_lst {ns : List Int} {k : Int} (h : -(2 ^ 63) ≤ k ∧ k < 2 ^ 63 ∧ (ns.map D.int).length * k.toNat ≤ 100000) : dMul (.lst (ns.map D.int)) (.int k) = .ok (.ls ((List.replicate k.toNat ns).flatten.map D.int)) := by
  show (if _ then _ else _) = _
  rw [if_pos h]
  simp
/-! ### a comprehension whose parts write nothing -/
theorem set_two {env : Ev} {v : Nat} {a b : Sl} : (env.set v a).set v b = env.set v b := List.set_set ..
theorem lcF_pure {c : FB} {f : F} {v : Nat} {env : Ev} (p : D → Bool) (y : D → D) (hv : v < env.length) : ∀ {ds : List D}
    (hc : ∀ d ∈ ds, c (env.set v (.val d)) = .ok (p d, env.set v (.val d)))
    (hf : ∀ d ∈ ds, p d = true → ∃ r, f (env.set v (.val d)) = .ok (r, env.set v (.val d)) ∧ r.opd.fix (env.set v (.val d)) = some (y d, env.set v (.val d)))
    {e : Ev} (he : e.set v .no = env.set v .no), ∃ e', lcF (gN v) c f [v] ds e = .ok ((ds.filter p).map y, e') ∧ e'.set v .no = env.set v .no
  | [], _, _, e, he => ⟨e, rfl, he⟩
  | d :: ds, hc, hf, e, he => by
    have hl : v < (wipeE e [v]).length := by
      show v < (e.set v .no).length
      rw [he, List.length_set]
      exact hv
    have h1 : gN v d (wipeE e [v]) = some (env.set v (.val d)) := by
      unfold gN
      rw [if_pos hl]
      show some ((e.set v .no).set v (.val d)) = _
      rw [he, set_two]
    have back : (env.set v (.val d)).set v .no = env.set v .no := set_two
    obtain ⟨e', i1, i2⟩ := lcF_pure (env := env) p y hv (fun d m => hc d (List.mem_cons_of_mem _ m)) (fun d m => hf d (List.mem_cons_of_mem _ m)) back
    have h2 := hc d List.mem_cons_self
    by_cases q : p d = true
    · obtain ⟨r, f1, f2⟩ := hf d List.mem_cons_self q
      refine ⟨e', ?_, i2⟩
      show (ofO (gN v d (wipeE e [v]))).bind _ = _
      rw [h1]
      show (noX (c (env.set v (.val d)))).bind _ = _
      rw [h2]
      show (if p d = true then _ else _) = _
      rw [if_pos q, f1]
      show (ofO (r.opd.fix (env.set v (.val d)))).bind _ = _
      rw [f2]
      show (lcF (gN v) c f [v] ds (env.set v (.val d))).bind _ = _
      rw [i1, List.filter_cons_of_pos q]
      rfl
    · refine ⟨e', ?_, i2⟩
      show (ofO (gN v d (wipeE e [v]))).bind _ = _
      rw [h1]
      show (noX (c (env.set v (.val d)))).bind _ = _
      rw [h2]
      show (if p d = true then _ else _) = _
      rw [if_neg q, List.filter_cons_of_neg q]
      exact i1
theorem rst_back {env e : Ev} {v : Nat} {s : Sl} (hs : env[v]? = some s) (hw : s.ow = false) (he : e.set v .no = env.set v .no) : rstF (oldS env) [v] 0 (wipeE e [v]) = env := by
  apply List.ext_getElem?
  intro i
  have hv : v < env.length := getElem?_lt hs
  rw [rstF_get, Nat.zero_add]
  show ((e.set v .no)[i]?).map _ = _
  rw [he]
  by_cases q : i = v
  · subst q
    rw [List.getElem?_set_self hv, hs]
    show some (if List.contains [i] i = true then oldS env i else _) = some s
    rw [if_pos (by simp)]
    unfold oldS
    rw [hs]
    cases s <;> first | rfl | cases hw
  · rw [List.getElem?_set_ne (fun w => q w.symm)]
    cases h : env[i]? with
    | none => rfl
    | some t =>
      show some (if List.contains [v] i = true then _ else t) = some t
      rw [if_neg (by simpa using q)]
theorem fLc_pure {fi : FI} {c : FB} {f : F} {v : Nat} {e0 env : Ev} {ds : List D} {s : Sl} (p : D → Bool) (y : D → D) (h0 : fi e0 = .ok (ds, env)) (hl : ds.length ≤ 100000) (hs : env[v]? = some s) (hw : s.ow = false)
    (hc : ∀ d ∈ ds, c (env.set v (.val d)) = .ok (p d, env.set v (.val d)))
    (hf : ∀ d ∈ ds, p d = true → ∃ r, f (env.set v (.val d)) = .ok (r, env.set v (.val d)) ∧ r.opd.fix (env.set v (.val d)) = some (y d, env.set v (.val d))) :
    fLc fi (gN v) c f [v] e0 = .ok (.new ((ds.filter p).map y), env) := by
  obtain ⟨e', h1, h2⟩ := lcF_pure (env := env) p y (getElem?_lt hs) hc hf rfl
  unfold fLc
  rw [h0]
  show (if ds.length ≤ 100000 then _ else _) = _
  rw [if_pos hl]
  show (lcF (gN v) c f [v] ds env).bind _ = _
  rw [h1]
  show Out.ok (R.new _, rstF (oldS env) [v] 0 (wipeE e' [v])) = _
  rw [rst_back hs hw h2]
theorem perm_pick : ∀ (l : List Int) (j : Nat) (h : j < l.length), (l[j] :: l.eraseIdx j).Perm l
  | x :: l, 0, _ => .refl _
  | x :: l, j + 1, h => ((List.Perm.swap ..).trans ((perm_pick l j (Nat.lt_of_succ_lt_succ h)).cons x))
theorem erase_map {α β : Type} (f : α → β) : ∀ (l : List α) (j : Nat), (l.map f).eraseIdx j = (l.eraseIdx j).map f
  | [], _ => rfl
  | _ :: _, 0 => rfl
  | x :: l, j + 1 => congrArg (f x :: ·) (erase_map f l j)
theorem ixN_nat {n j : Nat} (h : j < n) : ixN n (j : Int) = some j := by
  unfold ixN
  rw [if_pos (by omega), if_pos (by omega)]
  simp
theorem forF_all {ga : GA} {s : S} {I : Ev → Prop} : ∀ {ds : List D} {e : Ev}, I e → (∀ d ∈ ds, ∀ e, I e → ∃ e' e'', ga d e = some e' ∧ s e' = .ok (.nx, e'') ∧ I e'') → ∃ e', forF ga s ds e = .ok (.nx, e') ∧ I e'
  | [], e, h, _ => ⟨e, rfl, h⟩
  | d :: ds, e, h, hs => by
    obtain ⟨e1, e2, h1, h2, h3⟩ := hs d List.mem_cons_self e h
    obtain ⟨e3, h4, h5⟩ := forF_all h3 fun d m => hs d (List.mem_cons_of_mem _ m)
    refine ⟨e3, ?_, h5⟩
    show (ofO (ga d e)).bind _ = _
    rw [h1]
    show (s e1).bind _ = _
    rw [h2]
    exact h4
@[simp] theorem e_for (fi : FI) (ga : GA) (s : S) (env : Ev) : sFor fi ga s env = (fi env).bind fun p => forF ga s p.1 p.2 := rfl
@[simp] theorem e_while (c : FB) (s : S) (env : Ev) : sWhile c s env = whileF c s turns env := rfl
theorem lt_turns {n : Nat} (h : n ≤ 1000) : n < turns := Nat.lt_of_le_of_lt h (by decide)
theorem dSl_tup (ds : List D) (lo hi : Option Int) : ∃ q ys, dSl (.tup ds) lo hi = .ok q ∧ q.r = .d (.tup ys) ∧ ys.length ≤ ds.length ∧ ∀ y ∈ ys, y ∈ ds := by
  by_cases h : HT.sIx ds.length 0 lo = 0 ∧ HT.sIx ds.length ds.length hi = ds.length
  · exact ⟨.d (.tup ds), ds, if_pos h, rfl, Nat.le_refl _, fun _ m => m⟩
  · exact ⟨.tp (cutD ds lo hi), cutD ds lo hi, if_neg h, rfl, by unfold cutD; simp only [List.length_take, List.length_drop]; omega, fun _ m => List.mem_of_mem_drop (List.mem_of_mem_take m)⟩
theorem dAdd_tup (a b : List D) (h : a.length + b.length ≤ 100000) : ∃ q, dAdd (.tup a) (.tup b) = .ok q ∧ q.r = .d (.tup (a ++ b)) := by
  unfold dAdd
  simp only
  rw [if_pos h]
  cases a with
  | nil => exact ⟨_, rfl, rfl⟩
  | cons x a => cases b with
    | nil => exact ⟨_, rfl, by simp⟩
    | cons y b => exact ⟨_, rfl, rfl⟩
theorem dAdd_lst (a b : List D) (h : a.length + b.length ≤ 100000) : dAdd (.lst a) (.lst b) = .ok (.ls (a ++ b)) := by
  unfold dAdd
  simp only
  rw [if_pos h]
theorem toBls_of {α : Type} (g : α → Bool) : ∀ xs : List α, toBls (xs.map fun x => D.bl (g x)) = some (xs.map g)
  | [] => rfl
  | x :: xs => by
    simp only [List.map_cons, toBls, toBls_of g xs]
theorem bAll_map {α : Type} (g : α → Bool) (xs : List α) : bAll [.lst (xs.map fun x => D.bl (g x))] = .ok (.d (.bl (xs.all g))) := by
  simp only [bAll]
  rw [toBls_of]
  simp only [List.all_map]
  rfl
theorem sortI_length (l : List Int) : (sortI l).length = l.length := (sortI_perm l).length_eq
theorem sortI_congr {a b : List Int} (h : a.Perm b) : sortI a = sortI b := sorted_unique ((sortI_perm a).trans (h.trans (sortI_perm b).symm)) (sortI_sorted a) (sortI_sorted b)
theorem rngI_length (n : Int) : (rngI n).length = n.toNat := by
  unfold rngI
  rw [List.length_map, List.length_range]
theorem rngI_mem {n x : Int} (h : x ∈ rngI n) : 0 ≤ x ∧ x < n := by
  unfold rngI at h
  obtain ⟨k, h1, rfl⟩ := List.mem_map.mp h
  have := List.mem_range.mp h1
  omega
@[simp] theorem e_un (g : Int → Int) (f : F) (env : Ev) : fUn g f env = (f env).bind fun p => (match p.1 with
  | .d (.int i) => .ok (.d (.int (g i)), p.2)
  | _ => .no) := rfl
theorem forF_idx {ga : GA} {s : S} {I : Nat → Ev → Prop} {m : Nat} : ∀ {ds : List D} {k : Nat} {e : Ev}, I k e → k + ds.length ≤ m → (∀ d ∈ ds, ∀ k e, k < m → I k e → ∃ e' e'', ga d e = some e' ∧ s e' = .ok (.nx, e'') ∧ I (k + 1) e'') → ∃ e', forF ga s ds e = .ok (.nx, e') ∧ I (k + ds.length) e'
  | [], k, e, h, _, _ => ⟨e, rfl, h⟩
  | d :: ds, k, e, h, hm, hs => by
    rw [List.length_cons] at hm
    obtain ⟨e1, e2, h1, h2, h3⟩ := hs d List.mem_cons_self k e (by omega) h
    obtain ⟨e3, h4, h5⟩ := forF_idx (m := m) h3 (by omega) fun d m => hs d (List.mem_cons_of_mem _ m)
    refine ⟨e3, ?_, by rw [List.length_cons, ← Nat.add_assoc, Nat.add_right_comm]; exact h5⟩
    show (ofO (ga d e)).bind _ = _
    rw [h1]
    show (s e1).bind _ = _
    rw [h2]
    exact h4
/-! ### an urn -/
def Urn (xs : List D) : Prop := ∃ a b c : Int, xs = [.int a, .int b, .int c]
end TN
namespace G_k25
open PySem PySem.Spec PyProof.Rows L2 TN
def topS (i : Nat) : Stmt := PySem.Challenge.pw_tiedanew_k25_whole_judged_rings.main.body.getD i (.Pass ⟨0, 0, 0, 0⟩)
structure Bt (mg : Str → Option Value) : Prop where
  b_tuple : mg "tuple" = none
  b_isinstance : mg "isinstance" = none
  b_range : mg "range" = none
  b_int : mg "int" = none
  b_len : mg "len" = none
  b_max : mg "max" = none
  b_list : mg "list" = none
  b_sorted : mg "sorted" = none
  b_str : mg "str" = none
  b_bool : mg "bool" = none
  b_all : mg "all" = none
  b_abs : mg "abs" = none
  b_min : mg "min" = none
  c_MOST_KNOTS : ∃ t, mg "MOST_KNOTS" = some (.int 10 t)

/-! ### is_whole -/
abbrev s_is_whole : Stmt := topS 1
theorem sc_is_whole : FnScope ["value"] ["value"] (defScope s_is_whole) := ⟨rfl, rfl, rfl, by decide +kernel, rfl, by decide +kernel, by decide +kernel⟩
def b_is_whole : S := sRet (fAndV (fBi bIsi (aCons (fVar 0) (aCons (fC (.ty "int")) (aNil)))) (fNotV (fBi bIsi (aCons (fVar 0) (aCons (fC (.ty "bool")) (aNil))))))
def m_is_whole : Fn := fnOf false 1 b_is_whole
theorem k_is_whole {P : Program} {w : World} {K : PySem.W.Frag} {mg : Str → Option Value} {base : Heap} {z : Z} (hK : K = z.K) (B : Bt mg) {f : Addr} {fd : FuncData} (F : Fun K "is_whole" "is_whole" s_is_whole f fd) (hm : mg "is_whole" = some (.ref f)) : FnB P w K mg base z 1 "is_whole" ["value"] false m_is_whole := by
  refine ⟨f, fd, fn_ok (k := 0) F sc_is_whole hK (fun cdv A outer s H E G H' M o => ?_), hm, F.kp, F.binds (fun _ _ _ _ _ _ us hl => match us, hl with | [_], _ => rfl)⟩
  exact wss_one (ws_ret (we_and (we_bi (cd_isi o.K) B.b_isinstance (by first | exact PySem.boot_isinstance | decide +kernel) (wa_cons (we_var 0) (wa_cons (we_tyName B.b_int (by first | exact PySem.boot_int | decide +kernel)) (wa_nil)))) (we_one (we_not (we_bi (cd_isi o.K) B.b_isinstance (by first | exact PySem.boot_isinstance | decide +kernel) (wa_cons (we_var 0) (wa_cons (we_tyName B.b_bool (by first | exact PySem.boot_bool | decide +kernel)) (wa_nil))))))))

/-! ### is_ring -/
abbrev s_is_ring : Stmt := topS 4
theorem sc_is_ring : FnScope ["value", "many", "name"] ["value"] (defScope s_is_ring) := ⟨rfl, rfl, rfl, by decide +kernel, rfl, by decide +kernel, by decide +kernel⟩
def b_is_ring : S := sCons (sIf (fOrB (fNotB (fTru (fBi bIsi (aCons (fVar 0) (aCons (fC (.ty "tuple")) (aNil)))))) (fNotB (fTru (fBi bAll (aCons (fLc (fSeq (fVar 0)) (gN 2) (bYes) (fCall false m_is_whole (aCons (fVar 2) (aNil))) [2]) (aNil)))))) (sRet (fC (.bl false))) (sNil)) (sCons (sSet 1 (fBin (oI gDiv) (fBi bLen (aCons (fVar 0) (aNil))) (fC (.int 2)))) (sRet (fAndV (fChain (oI gLe) (oI gLe) (fC (.int 1)) (fVar 1) (fC (.int 10))) (fBin (dEq false) (fBi bSorted (aCons (fVar 0) (aNil))) (fBi bSorted (aCons (fBin dMul (fLRg1 (fVar 1)) (fC (.int 2))) (aNil)))))))
def m_is_ring : Fn := fnOf false 3 b_is_ring
theorem k_is_ring {P : Program} {w : World} {K : PySem.W.Frag} {mg : Str → Option Value} {base : Heap} {z : Z} (hK : K = z.K) (B : Bt mg) {f : Addr} {fd : FuncData} (F : Fun K "is_ring" "is_ring" s_is_ring f fd) (hm : mg "is_ring" = some (.ref f)) (h_is_whole : FnB P w K mg base z 1 "is_whole" ["value"] false m_is_whole) : FnB P w K mg base z 2 "is_ring" ["value"] false m_is_ring := by
  obtain ⟨t_MOST_KNOTS, e_MOST_KNOTS⟩ := B.c_MOST_KNOTS
  refine ⟨f, fd, fn_ok (k := 1) F sc_is_ring hK (fun cdv A outer s H E G H' M o => ?_), hm, F.kp, F.binds (fun _ _ _ _ _ _ us hl => match us, hl with | [_], _ => rfl)⟩
  exact wss_cons (ws_if ((ww_or (wt_not (wt_tru o.K (we_bi (cd_isi o.K) B.b_isinstance (by first | exact PySem.boot_isinstance | decide +kernel) (wa_cons (we_var 0) (wa_cons (we_tyName B.b_tuple (by first | exact PySem.boot_tuple | decide +kernel)) (wa_nil)))))) (ww_or1 (wt_not (wt_tru o.K (we_bi (cd_all o.K o.calm) B.b_all (by first | exact PySem.boot_all | decide +kernel) (wa_cons (we_lc (own := [("name", 2)]) (is := [2]) o (blkOk_by (by show blkC ["value", "many", "name"] (defScope s_is_ring) _ _ = true; decide +kernel)) (wi_seq o.K (we_var 0)) (fun _ _ _ _ _ => wg_name (o.blk _ _ _ _ _).nd 2) (fun _ _ _ _ _ => wts_nil) (fun _ _ _ _ _ => we_fn (FnB_at h_is_whole G H' M) (o.blk _ _ _ _ _) (wa_cons (we_var 2) (wa_nil)))) (wa_nil))))))).pt) (wss_one (ws_ret (we_bl))) (wss_nil)) (wss_cons (ws_set (i := 1) o (we_bin od_div (we_bi (cd_len o.K) B.b_len (by first | exact PySem.boot_len | decide +kernel) (wa_cons (we_var 0) (wa_nil))) (we_int))) (wss_one (ws_ret (we_and (we_chain od_le od_le (we_int) (we_var 1) (we_glob (v := .int 10) e_MOST_KNOTS ⟨_, rfl⟩ (fun _ _ _ => .int _))) (we_one (we_cmp (od_eq o) (we_bi (cd_sorted o.K) B.b_sorted (by first | exact PySem.boot_sorted | decide +kernel) (wa_cons (we_var 0) (wa_nil))) (we_bi (cd_sorted o.K) B.b_sorted (by first | exact PySem.boot_sorted | decide +kernel) (wa_cons (we_bin (od_mul o.K) (we_listRg o.calm B.b_list B.b_range (we_var 1)) (we_int)) (wa_nil)))))))))

/-! ### _law_urn -/
abbrev s__law_urn : Stmt := topS 6
theorem sc__law_urn : FnScope ["script", "spot", "cell", "great"] ["script", "spot"] (defScope s__law_urn) := ⟨rfl, rfl, rfl, by decide +kernel, rfl, by decide +kernel, by decide +kernel⟩
def b__law_urn : S := sCons (sSet 2 (fIf (bOf (fBin (oI gLt) (fVar 1) (fBi bLen (aCons (fVar 0) (aNil))))) (fBi bInt (aCons (fBin dIx (fVar 0) (fVar 1)) (aNil))) (fBin dAdd (fBin dMul (fC (.int 193)) (fVar 1)) (fC (.int 71))))) (sCons (sSet 3 (fBin (oI gMod) (fBi bInt (aCons (fBi bAbs (aCons (fVar 2) (aNil))) (aNil))) (fBin (oI gPow) (fBin (oI gPow) (fC (.int 10)) (fC (.int 55))) (fC (.int 6))))) (sRet (fLst (aCons (fBi bMax (aCons (fC (.int 0)) (aCons (fBin (oI gMinus) (fVar 3) (fBin (oI gPow) (fC (.int 10)) (fC (.int 16)))) (aNil)))) (aCons (fBin dAdd (fBin dAdd (fBin dAdd (fBin dMul (fBin (oI gMod) (fBi bInt (aCons (fVar 3) (aNil))) (fC (.int 2305843009213693693))) (fC (.int 101))) (fBin dMul (fC (.int 587)) (fVar 1))) (fBin dMul (fC (.int 59)) (fBi bInt (aCons (fBin (oI gLt) (fVar 2) (fC (.int 0))) (aNil))))) (fC (.int 19))) (aCons (fC (.int 0)) (aNil)))))))
def m__law_urn : Fn := fnOf false 4 b__law_urn
theorem k__law_urn {P : Program} {w : World} {K : PySem.W.Frag} {mg : Str → Option Value} {base : Heap} {z : Z} (hK : K = z.K) (B : Bt mg) {f : Addr} {fd : FuncData} (F : Fun K "_law_urn" "_law_urn" s__law_urn f fd) (hm : mg "_law_urn" = some (.ref f)) : FnB P w K mg base z 1 "_law_urn" ["script", "spot"] false m__law_urn := by
  refine ⟨f, fd, fn_ok (k := 0) F sc__law_urn hK (fun cdv A outer s H E G H' M o => ?_), hm, F.kp, F.binds (fun _ _ _ _ _ _ us hl => match us, hl with | [_, _], _ => rfl)⟩
  exact wss_cons (ws_set (i := 2) o (we_if (wt_cmp od_lt (we_var 1) (we_bi (cd_len o.K) B.b_len (by first | exact PySem.boot_len | decide +kernel) (wa_cons (we_var 0) (wa_nil)))) (we_ty cd_int B.b_int (by first | exact PySem.boot_int | decide +kernel) (wa_cons (we_ix (ixd o.K) (we_var 0) (we_var 1)) (wa_nil))) (we_bin (od_add o.K) (we_bin (od_mul o.K) (we_int) (we_var 1)) (we_int)))) (wss_cons (ws_set (i := 3) o (we_bin od_mod (we_ty cd_int B.b_int (by first | exact PySem.boot_int | decide +kernel) (wa_cons (we_bi cd_abs B.b_abs (by first | exact PySem.boot_abs | decide +kernel) (wa_cons (we_var 2) (wa_nil))) (wa_nil))) (we_bin od_pow (we_bin od_pow (we_int) (we_int)) (we_int)))) (wss_one (ws_ret (we_lst (wa_cons (we_bi (cd_max o.calm) B.b_max (by first | exact PySem.boot_max | decide +kernel) (wa_cons (we_int) (wa_cons (we_bin od_sub (we_var 3) (we_bin od_pow (we_int) (we_int))) (wa_nil)))) (wa_cons (we_bin (od_add o.K) (we_bin (od_add o.K) (we_bin (od_add o.K) (we_bin (od_mul o.K) (we_bin od_mod (we_ty cd_int B.b_int (by first | exact PySem.boot_int | decide +kernel) (wa_cons (we_var 3) (wa_nil))) (we_int)) (we_int)) (we_bin (od_mul o.K) (we_int) (we_var 1))) (we_bin (od_mul o.K) (we_int) (we_ty cd_int B.b_int (by first | exact PySem.boot_int | decide +kernel) (wa_cons (we_cmp od_lt (we_var 2) (we_int)) (wa_nil))))) (we_int)) (wa_cons (we_int) (wa_nil))))))))

/-! ### _law_ball -/
abbrev s__law_ball : Stmt := topS 7
theorem sc__law_ball : FnScope ["urn", "many", "found", "one", "two"] ["urn", "many"] (defScope s__law_ball) := ⟨rfl, rfl, rfl, by decide +kernel, rfl, by decide +kernel, by decide +kernel⟩
def b__law_ball : S := sCons (sIf (bOf (fBin (oI gGt) (fBin dIx (fVar 0) (fC (.int 0))) (fC (.int 0)))) (sCons (sSet 2 (fBin (oI gMod) (fBi bInt (aCons (fBin dIx (fVar 0) (fC (.int 0))) (aNil))) (fVar 1))) (sCons (sSetIx 0 (fC (.int 0)) (fBin (oI gDiv) (fBin dIx (fVar 0) (fC (.int 0))) (fVar 1))) (sRet (fVar 2)))) (sNil)) (sCons (sSetIx 0 (fC (.int 2)) (fBin dAdd (fBin dIx (fVar 0) (fC (.int 2))) (fC (.int 1)))) (sCons (sSet 3 (fBin (oI gMod) (fBi bInt (aCons (fBin dAdd (fBin dIx (fVar 0) (fC (.int 1))) (fBin dMul (fC (.int 86028121)) (fBin dIx (fVar 0) (fC (.int 2))))) (aNil))) (fC (.int 2305843009213693951)))) (sCons (sSet 4 (fBin dAdd (fBin dMul (fBin (oI gMod) (fBi bInt (aCons (fBin dAdd (fBin dMul (fVar 3) (fVar 3)) (fBin dMul (fC (.int 139)) (fBin dIx (fVar 0) (fC (.int 2))))) (aNil))) (fC (.int 2305843009213693907))) (fC (.int 7368791))) (fVar 3))) (sRet (fBin (oI gMod) (fBi bInt (aCons (fBin (oI gDiv) (fVar 4) (fC (.int 65543))) (aNil))) (fVar 1))))))
def m__law_ball : Fn := fnOf true 5 b__law_ball
theorem k__law_ball {P : Program} {w : World} {K : PySem.W.Frag} {mg : Str → Option Value} {base : Heap} {z : Z} (hK : K = z.K) (B : Bt mg) {f : Addr} {fd : FuncData} (F : Fun K "_law_ball" "_law_ball" s__law_ball f fd) (hm : mg "_law_ball" = some (.ref f)) : FnB P w K mg base z 1 "_law_ball" ["urn", "many"] true m__law_ball := by
  refine ⟨f, fd, fn_ok (k := 0) F sc__law_ball hK (fun cdv A outer s H E G H' M o => ?_), hm, F.kp, F.binds (fun _ _ _ _ _ _ us hl => match us, hl with | [_, _], _ => rfl)⟩
  exact wss_cons (ws_if (wt_cmp od_gt (we_ix (ixd o.K) (we_var 0) (we_int)) (we_int)) (wss_cons (ws_set (i := 2) o (we_bin od_mod (we_ty cd_int B.b_int (by first | exact PySem.boot_int | decide +kernel) (wa_cons (we_ix (ixd o.K) (we_var 0) (we_int)) (wa_nil))) (we_var 1))) (wss_cons (ws_setIx (ps_asg (we_bin od_div (we_ix (ixd o.K) (we_var 0) (we_int)) (we_var 1)) (pg_sub (pv 0) (we_int) set_list))) (wss_one (ws_ret (we_var 2))))) (wss_nil)) (wss_cons (ws_setIx (ps_asg (we_bin (od_add o.K) (we_ix (ixd o.K) (we_var 0) (we_int)) (we_int)) (pg_sub (pv 0) (we_int) set_list))) (wss_cons (ws_set (i := 3) o (we_bin od_mod (we_ty cd_int B.b_int (by first | exact PySem.boot_int | decide +kernel) (wa_cons (we_bin (od_add o.K) (we_ix (ixd o.K) (we_var 0) (we_int)) (we_bin (od_mul o.K) (we_int) (we_ix (ixd o.K) (we_var 0) (we_int)))) (wa_nil))) (we_int))) (wss_cons (ws_set (i := 4) o (we_bin (od_add o.K) (we_bin (od_mul o.K) (we_bin od_mod (we_ty cd_int B.b_int (by first | exact PySem.boot_int | decide +kernel) (wa_cons (we_bin (od_add o.K) (we_bin (od_mul o.K) (we_var 3) (we_var 3)) (we_bin (od_mul o.K) (we_int) (we_ix (ixd o.K) (we_var 0) (we_int)))) (wa_nil))) (we_int)) (we_int)) (we_var 3))) (wss_one (ws_ret (we_bin od_mod (we_ty cd_int B.b_int (by first | exact PySem.boot_int | decide +kernel) (wa_cons (we_bin od_div (we_var 4) (we_int)) (wa_nil))) (we_var 1)))))))

/-! ### _law_mixed -/
abbrev s__law_mixed : Stmt := topS 8
theorem sc__law_mixed : FnScope ["urn", "items", "left", "found"] ["urn", "items"] (defScope s__law_mixed) := ⟨rfl, rfl, rfl, by decide +kernel, rfl, by decide +kernel, by decide +kernel⟩
def b__law_mixed : S := sCons (sPar 2 3 (fBi bList (aCons (fVar 1) (aNil))) (fLst (aNil))) (sCons (sWhile (bOf (fBin (dEq true) (fVar 2) (fLst (aNil)))) (sExpr (fApp 3 (fPopI 2 (fCall true m__law_ball (aCons (fVar 0) (aCons (fBi bLen (aCons (fVar 2) (aNil))) (aNil)))))))) (sRet (fVar 3)))
def m__law_mixed : Fn := fnOf true 4 b__law_mixed
theorem k__law_mixed {P : Program} {w : World} {K : PySem.W.Frag} {mg : Str → Option Value} {base : Heap} {z : Z} (hK : K = z.K) (B : Bt mg) {f : Addr} {fd : FuncData} (F : Fun K "_law_mixed" "_law_mixed" s__law_mixed f fd) (hm : mg "_law_mixed" = some (.ref f)) (h__law_ball : FnB P w K mg base z 1 "_law_ball" ["urn", "many"] true m__law_ball) : FnB P w K mg base z 2 "_law_mixed" ["urn", "items"] true m__law_mixed := by
  refine ⟨f, fd, fn_ok (k := 1) F sc__law_mixed hK (fun cdv A outer s H E G H' M o => ?_), hm, F.kp, F.binds (fun _ _ _ _ _ _ us hl => match us, hl with | [_, _], _ => rfl)⟩
  exact wss_cons (ws_par (ps_par (i := 2) (j := 3) o.calm o.nd rfl rfl (by decide) rfl rfl (pa_cons (we_ty (cd_list o.K) B.b_list (by first | exact PySem.boot_list | decide +kernel) (wa_cons (we_var 1) (wa_nil))) (pa_cons (we_lst (wa_nil)) pa_nil)) (by rfl))) (wss_cons (ws_while o (wt_cmp (od_ne o) (we_var 2) (we_lst (wa_nil))) (wss_one (ws_expr (we_app o (pe_bm PySem.F.plainAttrs_list PySem.F.slot_list_append PySem.F.type_list_append mt_append (pv 3) (pa_cons (we_popI o (pe_bm PySem.F.plainAttrs_list PySem.F.slot_list_pop PySem.F.type_list_pop mt_popAt (pv 2) (pa_cons (we_fn (FnB_at h__law_ball G H' M) o (wa_cons (we_var 0) (wa_cons (we_bi (cd_len o.K) B.b_len (by first | exact PySem.boot_len | decide +kernel) (wa_cons (we_var 2) (wa_nil))) (wa_nil)))) pa_nil))) pa_nil)))))) (wss_one (ws_ret (we_var 3))))

/-! ### _law_ring -/
abbrev s__law_ring : Stmt := topS 9
theorem sc__law_ring : FnScope ["urn", "many"] ["urn", "many"] (defScope s__law_ring) := ⟨rfl, rfl, rfl, by decide +kernel, rfl, by decide +kernel, by decide +kernel⟩
def b__law_ring : S := sRet (fBi bTuple (aCons (fCall true m__law_mixed (aCons (fVar 0) (aCons (fBi bSorted (aCons (fBin dMul (fLRg1 (fVar 1)) (fC (.int 2))) (aNil))) (aNil)))) (aNil)))
def m__law_ring : Fn := fnOf true 2 b__law_ring
theorem k__law_ring {P : Program} {w : World} {K : PySem.W.Frag} {mg : Str → Option Value} {base : Heap} {z : Z} (hK : K = z.K) (B : Bt mg) {f : Addr} {fd : FuncData} (F : Fun K "_law_ring" "_law_ring" s__law_ring f fd) (hm : mg "_law_ring" = some (.ref f)) (h__law_mixed : FnB P w K mg base z 2 "_law_mixed" ["urn", "items"] true m__law_mixed) : FnB P w K mg base z 3 "_law_ring" ["urn", "many"] true m__law_ring := by
  refine ⟨f, fd, fn_ok (k := 2) F sc__law_ring hK (fun cdv A outer s H E G H' M o => ?_), hm, F.kp, F.binds (fun _ _ _ _ _ _ us hl => match us, hl with | [_, _], _ => rfl)⟩
  exact wss_one (ws_ret (we_ty (cd_tuple o.K) B.b_tuple (by first | exact PySem.boot_tuple | decide +kernel) (wa_cons (we_fn (FnB_at h__law_mixed G H' M) o (wa_cons (we_var 0) (wa_cons (we_bi (cd_sorted o.K) B.b_sorted (by first | exact PySem.boot_sorted | decide +kernel) (wa_cons (we_bin (od_mul o.K) (we_listRg o.calm B.b_list B.b_range (we_var 1)) (we_int)) (wa_nil))) (wa_nil)))) (wa_nil))))

/-! ### _law_is_ring -/
abbrev s__law_is_ring : Stmt := topS 10
theorem sc__law_is_ring : FnScope ["value", "one"] ["value"] (defScope s__law_is_ring) := ⟨rfl, rfl, rfl, by decide +kernel, rfl, by decide +kernel, by decide +kernel⟩
def b__law_is_ring : S := sCons (sIf (fOrB (fNotB (fTru (fBi bIsi (aCons (fVar 0) (aCons (fC (.ty "tuple")) (aNil)))))) (fNotB (bOf (fChain (oI gLe) (oI gLe) (fC (.int 2)) (fBi bLen (aCons (fVar 0) (aNil))) (fC (.int 20)))))) (sRet (fC (.bl false))) (sNil)) (sCons (sIf (bOf (fBin (dEq true) (fLc (fSeq (fVar 0)) (gN 1) (fOrB (fTru (fBi bIsi (aCons (fVar 1) (aCons (fC (.ty "bool")) (aNil))))) (fNotB (fTru (fBi bIsi (aCons (fVar 1) (aCons (fC (.ty "int")) (aNil))))))) (fC (.int 1)) [1]) (fLst (aNil)))) (sRet (fC (.bl false))) (sNil)) (sRet (fBin (dEq false) (fBi bSorted (aCons (fVar 0) (aNil))) (fBi bSorted (aCons (fBin dMul (fLRg1 (fBin (oI gDiv) (fBi bLen (aCons (fVar 0) (aNil))) (fC (.int 2)))) (fC (.int 2))) (aNil))))))
def m__law_is_ring : Fn := fnOf false 2 b__law_is_ring
theorem k__law_is_ring {P : Program} {w : World} {K : PySem.W.Frag} {mg : Str → Option Value} {base : Heap} {z : Z} (hK : K = z.K) (B : Bt mg) {f : Addr} {fd : FuncData} (F : Fun K "_law_is_ring" "_law_is_ring" s__law_is_ring f fd) (hm : mg "_law_is_ring" = some (.ref f)) : FnB P w K mg base z 1 "_law_is_ring" ["value"] false m__law_is_ring := by
  refine ⟨f, fd, fn_ok (k := 0) F sc__law_is_ring hK (fun cdv A outer s H E G H' M o => ?_), hm, F.kp, F.binds (fun _ _ _ _ _ _ us hl => match us, hl with | [_], _ => rfl)⟩
  exact wss_cons (ws_if ((ww_or (wt_not (wt_tru o.K (we_bi (cd_isi o.K) B.b_isinstance (by first | exact PySem.boot_isinstance | decide +kernel) (wa_cons (we_var 0) (wa_cons (we_tyName B.b_tuple (by first | exact PySem.boot_tuple | decide +kernel)) (wa_nil)))))) (ww_or1 (wt_not (wt_chain od_le od_le (we_int) (we_bi (cd_len o.K) B.b_len (by first | exact PySem.boot_len | decide +kernel) (wa_cons (we_var 0) (wa_nil))) (we_int))))).pt) (wss_one (ws_ret (we_bl))) (wss_nil)) (wss_cons (ws_if (wt_cmp (od_ne o) (we_lc (own := [("one", 1)]) (is := [1]) o (blkOk_by (by show blkC ["value", "one"] (defScope s__law_is_ring) _ _ = true; decide +kernel)) (wi_seq o.K (we_var 0)) (fun _ _ _ _ _ => wg_name (o.blk _ _ _ _ _).nd 1) (fun _ _ _ _ _ => wts_one ((ww_or (wt_tru (o.blk _ _ _ _ _).K (we_bi (cd_isi (o.blk _ _ _ _ _).K) B.b_isinstance (by first | exact PySem.boot_isinstance | decide +kernel) (wa_cons (we_var 1) (wa_cons (we_tyName B.b_bool (by first | exact PySem.boot_bool | decide +kernel)) (wa_nil))))) (ww_or1 (wt_not (wt_tru (o.blk _ _ _ _ _).K (we_bi (cd_isi (o.blk _ _ _ _ _).K) B.b_isinstance (by first | exact PySem.boot_isinstance | decide +kernel) (wa_cons (we_var 1) (wa_cons (we_tyName B.b_int (by first | exact PySem.boot_int | decide +kernel)) (wa_nil)))))))).pt)) (fun _ _ _ _ _ => we_int)) (we_lst (wa_nil))) (wss_one (ws_ret (we_bl))) (wss_nil)) (wss_one (ws_ret (we_cmp (od_eq o) (we_bi (cd_sorted o.K) B.b_sorted (by first | exact PySem.boot_sorted | decide +kernel) (wa_cons (we_var 0) (wa_nil))) (we_bi (cd_sorted o.K) B.b_sorted (by first | exact PySem.boot_sorted | decide +kernel) (wa_cons (we_bin (od_mul o.K) (we_listRg o.calm B.b_list B.b_range (we_bin od_div (we_bi (cd_len o.K) B.b_len (by first | exact PySem.boot_len | decide +kernel) (wa_cons (we_var 0) (wa_nil))) (we_int))) (we_int)) (wa_nil)))))))

/-! ### _law_near -/
abbrev s__law_near : Stmt := topS 11
theorem sc__law_near : FnScope ["urn", "ring", "at", "to", "found", "new", "one"] ["urn", "ring"] (defScope s__law_near) := ⟨rfl, rfl, rfl, by decide +kernel, rfl, by decide +kernel, by decide +kernel⟩
def b__law_near : S := sCons (sPar 2 3 (fCall true m__law_ball (aCons (fVar 0) (aCons (fBi bLen (aCons (fVar 1) (aNil))) (aNil)))) (fCall true m__law_ball (aCons (fVar 0) (aCons (fBi bLen (aCons (fVar 1) (aNil))) (aNil))))) (sCons (sSet 4 (fLst (aCons (fVar 1) (aCons (fBi bList (aCons (fVar 1) (aNil))) (aCons (fSl dSl (fVar 1) (oSome (fC (.int 1))) (oNone)) (aCons (fSl dSl (fVar 1) (oNone) (oSome (fUn (fun i => -i) (fC (.int 1))))) (aCons (fBin dAdd (fVar 1) (fVar 1)) (aCons (fBin dAdd (fVar 1) (fSl dSl (fVar 1) (oNone) (oSome (fC (.int 1))))) (aCons (fC .non) (aCons (fC (.int 0)) (aCons (fTup (aNil)) (aCons (fDct) (aCons (fC (.str "0011")) (aCons (fTup (aCons (fVar 1) (aNil))) (aNil))))))))))))))) (sCons (sFor (fSeq (fTup (aCons (fBin dIx (fVar 1) (fVar 3)) (aCons (fBin dAdd (fBin dIx (fVar 1) (fVar 2)) (fC (.int 1))) (aCons (fBin (oI gMinus) (fBin dIx (fVar 1) (fVar 2)) (fC (.int 1))) (aCons (fBin (oI gDiv) (fBi bLen (aCons (fVar 1) (aNil))) (fC (.int 2))) (aCons (fC (.bl true)) (aCons (fC .non) (aCons (fBi bStr (aCons (fBin dIx (fVar 1) (fVar 2)) (aNil))) (aCons (fTup (aCons (fC (.int 0)) (aNil))) (aCons (fBin (oI gPow) (fC (.int 10)) (fC (.int 60))) (aCons (fLst (aCons (fC (.int 0)) (aNil))) (aCons (fDct) (aNil)))))))))))))) (gN 5) (sExpr (fApp 4 (fBin dAdd (fBin dAdd (fSl dSl (fVar 1) (oNone) (oSome (fVar 2))) (fTup (aCons (fVar 5) (aNil)))) (fSl dSl (fVar 1) (oSome (fBin dAdd (fVar 2) (fC (.int 1)))) (oNone)))))) (sCons (sSet 4 (fBin dAdd (fVar 4) (fLst (aCons (fBi bTuple (aCons (fLc (fSeq (fVar 1)) (gN 6) (bYes) (fBin dAdd (fVar 6) (fC (.int 1))) [6]) (aNil))) (aCons (fBi bTuple (aCons (fLc (fSeq (fVar 1)) (gN 6) (bYes) (fIf (bOf (fBin (oI gLt) (fVar 6) (fC (.int 2)))) (fBin (dEq false) (fVar 6) (fC (.int 1))) (fVar 6)) [6]) (aNil))) (aNil)))))) (sCons (sSet 4 (fBin dAdd (fVar 4) (fLst (aCons (fBi bTuple (aCons (fBi bSorted (aCons (fBin dMul (fLRg1 (fC (.int 11))) (fC (.int 2))) (aNil))) (aNil))) (aCons (fTup (aCons (fC (.int 0)) (aNil))) (aCons (fTup (aCons (fC (.int 0)) (aCons (fC (.int 0)) (aNil)))) (aCons (fTup (aCons (fC (.int 0)) (aCons (fC (.int 0)) (aCons (fC (.int 0)) (aNil))))) (aNil)))))))) (sRet (fBin dAdd (fVar 4) (fLst (aCons (fBack (fVar 1)) (aCons (fBin dAdd (fSl dSl (fVar 1) (oSome (fVar 2)) (oNone)) (fSl dSl (fVar 1) (oNone) (oSome (fVar 2)))) (aNil))))))))))
def m__law_near : Fn := fnOf true 7 b__law_near
theorem k__law_near {P : Program} {w : World} {K : PySem.W.Frag} {mg : Str → Option Value} {base : Heap} {z : Z} (hK : K = z.K) (B : Bt mg) {f : Addr} {fd : FuncData} (F : Fun K "_law_near" "_law_near" s__law_near f fd) (hm : mg "_law_near" = some (.ref f)) (h__law_ball : FnB P w K mg base z 1 "_law_ball" ["urn", "many"] true m__law_ball) : FnB P w K mg base z 2 "_law_near" ["urn", "ring"] true m__law_near := by
  refine ⟨f, fd, fn_ok (k := 1) F sc__law_near hK (fun cdv A outer s H E G H' M o => ?_), hm, F.kp, F.binds (fun _ _ _ _ _ _ us hl => match us, hl with | [_, _], _ => rfl)⟩
  exact wss_cons (ws_par (ps_par (i := 2) (j := 3) o.calm o.nd rfl rfl (by decide) rfl rfl (pa_cons (we_fn (FnB_at h__law_ball G H' M) o (wa_cons (we_var 0) (wa_cons (we_bi (cd_len o.K) B.b_len (by first | exact PySem.boot_len | decide +kernel) (wa_cons (we_var 1) (wa_nil))) (wa_nil)))) (pa_cons (we_fn (FnB_at h__law_ball G H' M) o (wa_cons (we_var 0) (wa_cons (we_bi (cd_len o.K) B.b_len (by first | exact PySem.boot_len | decide +kernel) (wa_cons (we_var 1) (wa_nil))) (wa_nil)))) pa_nil)) (by rfl))) (wss_cons (ws_set (i := 4) o (we_lst (wa_cons (we_var 1) (wa_cons (we_ty (cd_list o.K) B.b_list (by first | exact PySem.boot_list | decide +kernel) (wa_cons (we_var 1) (wa_nil))) (wa_cons (we_slice (sld o.K) (we_var 1) (wo_some (we_int)) (wo_none)) (wa_cons (we_slice (sld o.K) (we_var 1) (wo_none) (wo_some (we_un un_neg (we_int)))) (wa_cons (we_bin (od_add o.K) (we_var 1) (we_var 1)) (wa_cons (we_bin (od_add o.K) (we_var 1) (we_slice (sld o.K) (we_var 1) (wo_none) (wo_some (we_int)))) (wa_cons (we_non) (wa_cons (we_int) (wa_cons (we_tup (wa_nil)) (wa_cons (we_dct) (wa_cons (we_str) (wa_cons (we_tup (wa_cons (we_var 1) (wa_nil))) (wa_nil))))))))))))))) (wss_cons (ws_for (is := [5]) o (wi_seq o.K (we_tup (wa_cons (we_ix (ixd o.K) (we_var 1) (we_var 3)) (wa_cons (we_bin (od_add o.K) (we_ix (ixd o.K) (we_var 1) (we_var 2)) (we_int)) (wa_cons (we_bin od_sub (we_ix (ixd o.K) (we_var 1) (we_var 2)) (we_int)) (wa_cons (we_bin od_div (we_bi (cd_len o.K) B.b_len (by first | exact PySem.boot_len | decide +kernel) (wa_cons (we_var 1) (wa_nil))) (we_int)) (wa_cons (we_bl) (wa_cons (we_non) (wa_cons (we_ty cd_str B.b_str (by first | exact PySem.boot_str | decide +kernel) (wa_cons (we_ix (ixd o.K) (we_var 1) (we_var 2)) (wa_nil))) (wa_cons (we_tup (wa_cons (we_int) (wa_nil))) (wa_cons (we_bin od_pow (we_int) (we_int)) (wa_cons (we_lst (wa_cons (we_int) (wa_nil))) (wa_cons (we_dct) (wa_nil)))))))))))))) (wg_name o.nd 5) (wss_one (ws_expr (we_app o (pe_bm PySem.F.plainAttrs_list PySem.F.slot_list_append PySem.F.type_list_append mt_append (pv 4) (pa_cons (we_bin (od_add o.K) (we_bin (od_add o.K) (we_slice (sld o.K) (we_var 1) (wo_none) (wo_some (we_var 2))) (we_tup (wa_cons (we_var 5) (wa_nil)))) (we_slice (sld o.K) (we_var 1) (wo_some (we_bin (od_add o.K) (we_var 2) (we_int))) (wo_none))) pa_nil)))))) (wss_cons (ws_set (i := 4) o (we_bin (od_add o.K) (we_var 4) (we_lst (wa_cons (we_ty (cd_tuple o.K) B.b_tuple (by first | exact PySem.boot_tuple | decide +kernel) (wa_cons (we_lc (own := [("one", 6)]) (is := [6]) o (blkOk_by (by show blkC ["urn", "ring", "at", "to", "found", "new", "one"] (defScope s__law_near) _ _ = true; decide +kernel)) (wi_seq o.K (we_var 1)) (fun _ _ _ _ _ => wg_name (o.blk _ _ _ _ _).nd 6) (fun _ _ _ _ _ => wts_nil) (fun _ _ _ _ _ => we_bin (od_add (o.blk _ _ _ _ _).K) (we_var 6) (we_int))) (wa_nil))) (wa_cons (we_ty (cd_tuple o.K) B.b_tuple (by first | exact PySem.boot_tuple | decide +kernel) (wa_cons (we_lc (own := [("one", 6)]) (is := [6]) o (blkOk_by (by show blkC ["urn", "ring", "at", "to", "found", "new", "one"] (defScope s__law_near) _ _ = true; decide +kernel)) (wi_seq o.K (we_var 1)) (fun _ _ _ _ _ => wg_name (o.blk _ _ _ _ _).nd 6) (fun _ _ _ _ _ => wts_nil) (fun _ _ _ _ _ => we_if (wt_cmp od_lt (we_var 6) (we_int)) (we_cmp (od_eq (o.blk _ _ _ _ _)) (we_var 6) (we_int)) (we_var 6))) (wa_nil))) (wa_nil)))))) (wss_cons (ws_set (i := 4) o (we_bin (od_add o.K) (we_var 4) (we_lst (wa_cons (we_ty (cd_tuple o.K) B.b_tuple (by first | exact PySem.boot_tuple | decide +kernel) (wa_cons (we_bi (cd_sorted o.K) B.b_sorted (by first | exact PySem.boot_sorted | decide +kernel) (wa_cons (we_bin (od_mul o.K) (we_listRg o.calm B.b_list B.b_range (we_int)) (we_int)) (wa_nil))) (wa_nil))) (wa_cons (we_tup (wa_cons (we_int) (wa_nil))) (wa_cons (we_tup (wa_cons (we_int) (wa_cons (we_int) (wa_nil)))) (wa_cons (we_tup (wa_cons (we_int) (wa_cons (we_int) (wa_cons (we_int) (wa_nil))))) (wa_nil)))))))) (wss_one (ws_ret (we_bin (od_add o.K) (we_var 4) (we_lst (wa_cons (we_back o.K (we_var 1)) (wa_cons (we_bin (od_add o.K) (we_slice (sld o.K) (we_var 1) (wo_some (we_var 2)) (wo_none)) (we_slice (sld o.K) (we_var 1) (wo_none) (wo_some (we_var 2)))) (wa_nil)))))))))))

/-! ### _law_right -/
abbrev s__law_right : Stmt := topS 12
theorem sc__law_right : FnScope ["urn", "ring", "value"] ["urn"] (defScope s__law_right) := ⟨rfl, rfl, rfl, by decide +kernel, rfl, by decide +kernel, by decide +kernel⟩
def b__law_right : S := sCons (sSet 1 (fCall true m__law_ring (aCons (fVar 0) (aCons (fBin dAdd (fC (.int 1)) (fCall true m__law_ball (aCons (fVar 0) (aCons (fC (.int 10)) (aNil))))) (aNil))))) (sRet (fAndV (fCall false m_is_ring (aCons (fVar 1) (aNil))) (fBin (dEq false) (fLc (fSeq (fCall true m__law_near (aCons (fVar 0) (aCons (fVar 1) (aNil))))) (gN 2) (bOf (fBin (dEq true) (fCall false m_is_ring (aCons (fVar 2) (aNil))) (fCall false m__law_is_ring (aCons (fVar 2) (aNil))))) (fVar 2) [2]) (fLst (aNil)))))
def m__law_right : Fn := fnOf true 3 b__law_right
theorem k__law_right {P : Program} {w : World} {K : PySem.W.Frag} {mg : Str → Option Value} {base : Heap} {z : Z} (hK : K = z.K) (B : Bt mg) {f : Addr} {fd : FuncData} (F : Fun K "_law_right" "_law_right" s__law_right f fd) (hm : mg "_law_right" = some (.ref f)) (h__law_ring : FnB P w K mg base z 3 "_law_ring" ["urn", "many"] true m__law_ring) (h_is_ring : FnB P w K mg base z 2 "is_ring" ["value"] false m_is_ring) (h__law_ball : FnB P w K mg base z 1 "_law_ball" ["urn", "many"] true m__law_ball) (h__law_near : FnB P w K mg base z 2 "_law_near" ["urn", "ring"] true m__law_near) (h__law_is_ring : FnB P w K mg base z 1 "_law_is_ring" ["value"] false m__law_is_ring) : FnB P w K mg base z 4 "_law_right" ["urn"] true m__law_right := by
  refine ⟨f, fd, fn_ok (k := 3) F sc__law_right hK (fun cdv A outer s H E G H' M o => ?_), hm, F.kp, F.binds (fun _ _ _ _ _ _ us hl => match us, hl with | [_], _ => rfl)⟩
  exact wss_cons (ws_set (i := 1) o (we_fn (FnB_at h__law_ring G H' M) o (wa_cons (we_var 0) (wa_cons (we_bin (od_add o.K) (we_int) (we_fn (FnB_at h__law_ball G H' M) o (wa_cons (we_var 0) (wa_cons (we_int) (wa_nil))))) (wa_nil))))) (wss_one (ws_ret (we_and (we_fn (FnB_at h_is_ring G H' M) o (wa_cons (we_var 1) (wa_nil))) (we_one (we_cmp (od_eq o) (we_lc (own := [("value", 2)]) (is := [2]) o (blkOk_by (by show blkC ["urn", "ring", "value"] (defScope s__law_right) _ _ = true; decide +kernel)) (wi_seq o.K (we_fn (FnB_at h__law_near G H' M) o (wa_cons (we_var 0) (wa_cons (we_var 1) (wa_nil))))) (fun _ _ _ _ _ => wg_name (o.blk _ _ _ _ _).nd 2) (fun _ _ _ _ _ => wts_one (wt_cmp (od_ne (o.blk _ _ _ _ _)) (we_fn (FnB_at h_is_ring G H' M) (o.blk _ _ _ _ _) (wa_cons (we_var 2) (wa_nil))) (we_fn (FnB_at h__law_is_ring G H' M) (o.blk _ _ _ _ _) (wa_cons (we_var 2) (wa_nil))))) (fun _ _ _ _ _ => we_var 2)) (we_lst (wa_nil)))))))

/-! ### _law_is_plain -/
abbrev s__law_is_plain : Stmt := topS 13
theorem sc__law_is_plain : FnScope ["value", "one"] ["value"] (defScope s__law_is_plain) := ⟨rfl, rfl, rfl, by decide +kernel, rfl, by decide +kernel, by decide +kernel⟩
def b__law_is_plain (m__law_is_plain_ : Fn) : S := sCons (sIf (fTru (fBi bIsi (aCons (fVar 0) (aCons (fC (.ty "tuple")) (aNil))))) (sRet (fBin (dEq false) (fLc (fSeq (fVar 0)) (gN 1) (fNotB (fTru (fCall false m__law_is_plain_ (aCons (fVar 1) (aNil))))) (fVar 1) [1]) (fLst (aNil)))) (sNil)) (sRet (fOrV (fBin (dIs false) (fVar 0) (fC .non)) (fOrV (fBi bIsi (aCons (fVar 0) (aCons (fC (.ty "int")) (aNil)))) (fBi bIsi (aCons (fVar 0) (aCons (fC (.ty "str")) (aNil)))))))
def m__law_is_plain : Nat → Fn
  | 0 => fun _ => .no
  | n + 1 => fnOf false 2 (b__law_is_plain (m__law_is_plain n))
theorem k__law_is_plain {P : Program} {w : World} {K : PySem.W.Frag} {mg : Str → Option Value} {base : Heap} {z : Z} (hK : K = z.K) (B : Bt mg) {f : Addr} {fd : FuncData} (F : Fun K "_law_is_plain" "_law_is_plain" s__law_is_plain f fd) (hm : mg "_law_is_plain" = some (.ref f)) : ∀ n : Nat, FnB P w K mg base z (1 + n) "_law_is_plain" ["value"] false (m__law_is_plain n) := by
  intro n
  induction n with
  | zero => exact ⟨f, fd, ⟨fun vs H Q E h => by obtain ⟨_, _, _, _, _, hl, _⟩ := h; exact hl, fun A outer s H args us vs Q E _ _ _ _ h => by obtain ⟨_, _, _, _, _, _, h⟩ := h; exact h.elim⟩, hm, F.kp, F.binds (fun _ _ _ _ _ _ us hl => match us, hl with | [_], _ => rfl)⟩
  | succ n ih =>
    refine ⟨f, fd, fn_ok (k := 1 + n) F sc__law_is_plain hK (fun cdv A outer s H E G H' M o => ?_), hm, F.kp, F.binds (fun _ _ _ _ _ _ us hl => match us, hl with | [_], _ => rfl)⟩
    exact wss_cons (ws_if (wt_tru o.K (we_bi (cd_isi o.K) B.b_isinstance (by first | exact PySem.boot_isinstance | decide +kernel) (wa_cons (we_var 0) (wa_cons (we_tyName B.b_tuple (by first | exact PySem.boot_tuple | decide +kernel)) (wa_nil))))) (wss_one (ws_ret (we_cmp (od_eq o) (we_lc (own := [("one", 1)]) (is := [1]) o (blkOk_by (by show blkC ["value", "one"] (defScope s__law_is_plain) _ _ = true; decide +kernel)) (wi_seq o.K (we_var 0)) (fun _ _ _ _ _ => wg_name (o.blk _ _ _ _ _).nd 1) (fun _ _ _ _ _ => wts_one (wt_not (wt_tru (o.blk _ _ _ _ _).K (we_fn (hj := Nat.le_refl _) (FnB_at ih G H' M) (o.blk _ _ _ _ _) (wa_cons (we_var 1) (wa_nil)))))) (fun _ _ _ _ _ => we_var 1)) (we_lst (wa_nil))))) (wss_nil)) (wss_one (ws_ret (we_or (we_cmp od_is (we_var 0) (we_non)) (we_or (we_bi (cd_isi o.K) B.b_isinstance (by first | exact PySem.boot_isinstance | decide +kernel) (wa_cons (we_var 0) (wa_cons (we_tyName B.b_int (by first | exact PySem.boot_int | decide +kernel)) (wa_nil)))) (we_one (we_bi (cd_isi o.K) B.b_isinstance (by first | exact PySem.boot_isinstance | decide +kernel) (wa_cons (we_var 0) (wa_cons (we_tyName B.b_str (by first | exact PySem.boot_str | decide +kernel)) (wa_nil)))))))))

/-! ### law -/
abbrev s_law : Stmt := topS 14
theorem sc_law : FnScope ["script", "spot", "urn", "turn", "told", "value"] ["script"] (defScope s_law) := ⟨rfl, rfl, rfl, by decide +kernel, rfl, by decide +kernel, by decide +kernel⟩
def b_law : S := sCons (sFor (fRng1 (aCons (fBi bMax (aCons (fC (.int 1)) (aCons (fBi bMin (aCons (fC (.int 4)) (aCons (fBi bLen (aCons (fVar 0) (aNil))) (aNil)))) (aNil)))) (aNil))) (gN 1) (sCons (sSet 2 (fCall false m__law_urn (aCons (fVar 0) (aCons (fVar 1) (aNil))))) (sFor (fRng1 (aCons (fC (.int 8)) (aNil))) (gN 3) (sIf (fNotB (fTru (fCall true m__law_right (aCons (fVar 2) (aNil))))) (sRet (fC (.bl false))) (sNil))))) (sCons (sSet 4 (fLc (fSeq (fTup (aCons (fTup (aCons (fC (.int 1)) (aCons (fC (.int 1)) (aNil)))) (aCons (fTup (aCons (fC (.int 0)) (aCons (fC (.int 0)) (aNil)))) (aCons (fTup (aCons (fC (.int 0)) (aCons (fC (.int 1)) (aCons (fC (.int 1)) (aNil))))) (aCons (fTup (aCons (fC (.int 0)) (aCons (fC (.int 1)) (aCons (fC (.int 0)) (aCons (fC (.int 1)) (aNil)))))) (aCons (fTup (aCons (fC (.bl false)) (aCons (fC (.bl false)) (aNil)))) (aCons (fTup (aCons (fLst (aCons (fC (.int 0)) (aNil))) (aCons (fC (.int 0)) (aNil)))) (aCons (fTup (aCons (fDct) (aCons (fC (.int 0)) (aNil)))) (aCons (fTup (aCons (fLst (aNil)) (aCons (fLst (aNil)) (aNil)))) (aNil))))))))))) (gN 5) (bYes) (fCall false m_is_ring (aCons (fVar 5) (aNil))) [5])) (sCons (sIf (fNotB (fTru (fCall false (m__law_is_plain 8) (aCons (fBi bTuple (aCons (fVar 4) (aNil))) (aNil))))) (sRet (fC (.bl false))) (sNil)) (sRet (fBin (dEq false) (fVar 4) (fLst (aCons (fC (.bl false)) (aCons (fC (.bl true)) (aCons (fC (.bl false)) (aCons (fC (.bl true)) (aCons (fC (.bl false)) (aCons (fC (.bl false)) (aCons (fC (.bl false)) (aCons (fC (.bl false)) (aNil))))))))))))))
def m_law : Fn := fnOf false 6 b_law
theorem k_law {P : Program} {w : World} {K : PySem.W.Frag} {mg : Str → Option Value} {base : Heap} {z : Z} (hK : K = z.K) (B : Bt mg) {f : Addr} {fd : FuncData} (F : Fun K "law" "law" s_law f fd) (hm : mg "law" = some (.ref f)) (h__law_urn : FnB P w K mg base z 1 "_law_urn" ["script", "spot"] false m__law_urn) (h_is_ring : FnB P w K mg base z 2 "is_ring" ["value"] false m_is_ring) (h__law_is_plain : FnB P w K mg base z 9 "_law_is_plain" ["value"] false (m__law_is_plain 8)) (h__law_right : FnB P w K mg base z 4 "_law_right" ["urn"] true m__law_right) : FnOk P w K mg base (L2.CX P w) 10 f fd ["script"] (spF z false 1 m_law) := by
  refine fn_ok (k := 9) F sc_law hK (fun cdv A outer s H E G H' M o => ?_)
  exact wss_cons (ws_for (is := [1]) o (wi_rng1 B.b_range (wa_cons (we_bi (cd_max o.calm) B.b_max (by first | exact PySem.boot_max | decide +kernel) (wa_cons (we_int) (wa_cons (we_bi (cd_min o.calm) B.b_min (by first | exact PySem.boot_min | decide +kernel) (wa_cons (we_int) (wa_cons (we_bi (cd_len o.K) B.b_len (by first | exact PySem.boot_len | decide +kernel) (wa_cons (we_var 0) (wa_nil))) (wa_nil)))) (wa_nil)))) (wa_nil))) (wg_name o.nd 1) (wss_cons (ws_set (i := 2) o (we_fn (FnB_at h__law_urn G H' M) o (wa_cons (we_var 0) (wa_cons (we_var 1) (wa_nil))))) (wss_one (ws_for (is := [3]) o (wi_rng1 B.b_range (wa_cons (we_int) (wa_nil))) (wg_name o.nd 3) (wss_one (ws_if (wt_not (wt_tru o.K (we_fn (FnB_at h__law_right G H' M) o (wa_cons (we_var 2) (wa_nil))))) (wss_one (ws_ret (we_bl))) (wss_nil))))))) (wss_cons (ws_setLc (own := [("value", 5)]) (is := [5]) o (blkOk_by (by show blkC ["script", "spot", "urn", "turn", "told", "value"] (defScope s_law) _ _ = true; decide +kernel)) (wi_seq o.K (we_tup (wa_cons (we_tup (wa_cons (we_int) (wa_cons (we_int) (wa_nil)))) (wa_cons (we_tup (wa_cons (we_int) (wa_cons (we_int) (wa_nil)))) (wa_cons (we_tup (wa_cons (we_int) (wa_cons (we_int) (wa_cons (we_int) (wa_nil))))) (wa_cons (we_tup (wa_cons (we_int) (wa_cons (we_int) (wa_cons (we_int) (wa_cons (we_int) (wa_nil)))))) (wa_cons (we_tup (wa_cons (we_bl) (wa_cons (we_bl) (wa_nil)))) (wa_cons (we_tup (wa_cons (we_lst (wa_cons (we_int) (wa_nil))) (wa_cons (we_int) (wa_nil)))) (wa_cons (we_tup (wa_cons (we_dct) (wa_cons (we_int) (wa_nil)))) (wa_cons (we_tup (wa_cons (we_lst (wa_nil)) (wa_cons (we_lst (wa_nil)) (wa_nil)))) (wa_nil))))))))))) (fun _ _ _ _ _ => wg_name (o.blk _ _ _ _ _).nd 5) (fun _ _ _ _ _ => wts_nil) (fun _ _ _ _ _ => we_fn (FnB_at h_is_ring G H' M) (o.blk _ _ _ _ _) (wa_cons (we_var 5) (wa_nil)))) (wss_cons (ws_if (wt_not (wt_tru o.K (we_fn (FnB_at h__law_is_plain G H' M) o (wa_cons (we_ty (cd_tuple o.K) B.b_tuple (by first | exact PySem.boot_tuple | decide +kernel) (wa_cons (we_var 4) (wa_nil))) (wa_nil))))) (wss_one (ws_ret (we_bl))) (wss_nil)) (wss_one (ws_ret (we_cmp (od_eq o) (we_var 4) (we_lst (wa_cons (we_bl) (wa_cons (we_bl) (wa_cons (we_bl) (wa_cons (we_bl) (wa_cons (we_bl) (wa_cons (we_bl) (wa_cons (we_bl) (wa_cons (we_bl) (wa_nil)))))))))))))))

/-! ### the whole -/
def zz (K : PySem.W.Frag) : Z := ⟨K, fun _ => (0, []), fun _ => .none, fun _ => none, fun _ => none, fun _ => none, none⟩
theorem all_mk {P : Program} {w : World} {K : PySem.W.Frag} {h : Heap} {mg : Str → Option Value} {fa : Addr} (X : K.In h) (G : h.Ns mainGlobals mg) (hfa : mg "law" = some (.ref fa))
    {e0 : Addr} {od0 an0 : Option Addr} {sl0 : Array (Option Value)} {oc0 kV0 dc0 pm0 cd0 ct0 : Value}
    {e1 : Addr} {od1 an1 : Option Addr} {sl1 : Array (Option Value)} {oc1 kV1 dc1 pm1 cd1 ct1 : Value}
    {e2 : Addr} {od2 an2 : Option Addr} {sl2 : Array (Option Value)} {oc2 kV2 dc2 pm2 cd2 ct2 : Value}
    {e3 : Addr} {od3 an3 : Option Addr} {sl3 : Array (Option Value)} {oc3 kV3 dc3 pm3 cd3 ct3 : Value}
    {e4 : Addr} {od4 an4 : Option Addr} {sl4 : Array (Option Value)} {oc4 kV4 dc4 pm4 cd4 ct4 : Value}
    {e5 : Addr} {od5 an5 : Option Addr} {sl5 : Array (Option Value)} {oc5 kV5 dc5 pm5 cd5 ct5 : Value}
    {e6 : Addr} {od6 an6 : Option Addr} {sl6 : Array (Option Value)} {oc6 kV6 dc6 pm6 cd6 ct6 : Value}
    {e7 : Addr} {od7 an7 : Option Addr} {sl7 : Array (Option Value)} {oc7 kV7 dc7 pm7 cd7 ct7 : Value}
    {e8 : Addr} {od8 an8 : Option Addr} {sl8 : Array (Option Value)} {oc8 kV8 dc8 pm8 cd8 ct8 : Value}
    {e9 : Addr} {od9 an9 : Option Addr} {sl9 : Array (Option Value)} {oc9 kV9 dc9 pm9 cd9 ct9 : Value}
    {e10 : Addr} {od10 an10 : Option Addr} {sl10 : Array (Option Value)} {oc10 kV10 dc10 pm10 cd10 ct10 : Value}
    {tk_MOST_KNOTS : Tok}
    (a_is_whole : PySem.W.nsIn K mainGlobals "is_whole" = some (some (.ref e0))) (l_is_whole : K.lookup e0 = some ⟨oc0, od0, .func (PySem.W.fnOf "is_whole" "is_whole" (defArgs s_is_whole) (defBody s_is_whole) (defScope s_is_whole) .none kV0 dc0 pm0 an0 cd0 ct0), sl0⟩) (y_is_whole : PySem.W.codeIn K cd0 "is_whole" = true) (w_is_whole : PySem.W.keepIn K (.ref e0) = true)
    (a_is_ring : PySem.W.nsIn K mainGlobals "is_ring" = some (some (.ref e1))) (l_is_ring : K.lookup e1 = some ⟨oc1, od1, .func (PySem.W.fnOf "is_ring" "is_ring" (defArgs s_is_ring) (defBody s_is_ring) (defScope s_is_ring) .none kV1 dc1 pm1 an1 cd1 ct1), sl1⟩) (y_is_ring : PySem.W.codeIn K cd1 "is_ring" = true) (w_is_ring : PySem.W.keepIn K (.ref e1) = true)
    (a__law_urn : PySem.W.nsIn K mainGlobals "_law_urn" = some (some (.ref e2))) (l__law_urn : K.lookup e2 = some ⟨oc2, od2, .func (PySem.W.fnOf "_law_urn" "_law_urn" (defArgs s__law_urn) (defBody s__law_urn) (defScope s__law_urn) .none kV2 dc2 pm2 an2 cd2 ct2), sl2⟩) (y__law_urn : PySem.W.codeIn K cd2 "_law_urn" = true) (w__law_urn : PySem.W.keepIn K (.ref e2) = true)
    (a__law_ball : PySem.W.nsIn K mainGlobals "_law_ball" = some (some (.ref e3))) (l__law_ball : K.lookup e3 = some ⟨oc3, od3, .func (PySem.W.fnOf "_law_ball" "_law_ball" (defArgs s__law_ball) (defBody s__law_ball) (defScope s__law_ball) .none kV3 dc3 pm3 an3 cd3 ct3), sl3⟩) (y__law_ball : PySem.W.codeIn K cd3 "_law_ball" = true) (w__law_ball : PySem.W.keepIn K (.ref e3) = true)
    (a__law_mixed : PySem.W.nsIn K mainGlobals "_law_mixed" = some (some (.ref e4))) (l__law_mixed : K.lookup e4 = some ⟨oc4, od4, .func (PySem.W.fnOf "_law_mixed" "_law_mixed" (defArgs s__law_mixed) (defBody s__law_mixed) (defScope s__law_mixed) .none kV4 dc4 pm4 an4 cd4 ct4), sl4⟩) (y__law_mixed : PySem.W.codeIn K cd4 "_law_mixed" = true) (w__law_mixed : PySem.W.keepIn K (.ref e4) = true)
    (a__law_ring : PySem.W.nsIn K mainGlobals "_law_ring" = some (some (.ref e5))) (l__law_ring : K.lookup e5 = some ⟨oc5, od5, .func (PySem.W.fnOf "_law_ring" "_law_ring" (defArgs s__law_ring) (defBody s__law_ring) (defScope s__law_ring) .none kV5 dc5 pm5 an5 cd5 ct5), sl5⟩) (y__law_ring : PySem.W.codeIn K cd5 "_law_ring" = true) (w__law_ring : PySem.W.keepIn K (.ref e5) = true)
    (a__law_is_ring : PySem.W.nsIn K mainGlobals "_law_is_ring" = some (some (.ref e6))) (l__law_is_ring : K.lookup e6 = some ⟨oc6, od6, .func (PySem.W.fnOf "_law_is_ring" "_law_is_ring" (defArgs s__law_is_ring) (defBody s__law_is_ring) (defScope s__law_is_ring) .none kV6 dc6 pm6 an6 cd6 ct6), sl6⟩) (y__law_is_ring : PySem.W.codeIn K cd6 "_law_is_ring" = true) (w__law_is_ring : PySem.W.keepIn K (.ref e6) = true)
    (a__law_near : PySem.W.nsIn K mainGlobals "_law_near" = some (some (.ref e7))) (l__law_near : K.lookup e7 = some ⟨oc7, od7, .func (PySem.W.fnOf "_law_near" "_law_near" (defArgs s__law_near) (defBody s__law_near) (defScope s__law_near) .none kV7 dc7 pm7 an7 cd7 ct7), sl7⟩) (y__law_near : PySem.W.codeIn K cd7 "_law_near" = true) (w__law_near : PySem.W.keepIn K (.ref e7) = true)
    (a__law_right : PySem.W.nsIn K mainGlobals "_law_right" = some (some (.ref e8))) (l__law_right : K.lookup e8 = some ⟨oc8, od8, .func (PySem.W.fnOf "_law_right" "_law_right" (defArgs s__law_right) (defBody s__law_right) (defScope s__law_right) .none kV8 dc8 pm8 an8 cd8 ct8), sl8⟩) (y__law_right : PySem.W.codeIn K cd8 "_law_right" = true) (w__law_right : PySem.W.keepIn K (.ref e8) = true)
    (a__law_is_plain : PySem.W.nsIn K mainGlobals "_law_is_plain" = some (some (.ref e9))) (l__law_is_plain : K.lookup e9 = some ⟨oc9, od9, .func (PySem.W.fnOf "_law_is_plain" "_law_is_plain" (defArgs s__law_is_plain) (defBody s__law_is_plain) (defScope s__law_is_plain) .none kV9 dc9 pm9 an9 cd9 ct9), sl9⟩) (y__law_is_plain : PySem.W.codeIn K cd9 "_law_is_plain" = true) (w__law_is_plain : PySem.W.keepIn K (.ref e9) = true)
    (a_law : PySem.W.nsIn K mainGlobals "law" = some (some (.ref e10))) (l_law : K.lookup e10 = some ⟨oc10, od10, .func (PySem.W.fnOf "law" "law" (defArgs s_law) (defBody s_law) (defScope s_law) .none kV10 dc10 pm10 an10 cd10 ct10), sl10⟩) (y_law : PySem.W.codeIn K cd10 "law" = true) (w_law : PySem.W.keepIn K (.ref e10) = true)
    (z_tuple : PySem.W.nsIn K mainGlobals "tuple" = some none)
    (z_isinstance : PySem.W.nsIn K mainGlobals "isinstance" = some none)
    (z_range : PySem.W.nsIn K mainGlobals "range" = some none)
    (z_int : PySem.W.nsIn K mainGlobals "int" = some none)
    (z_len : PySem.W.nsIn K mainGlobals "len" = some none)
    (z_max : PySem.W.nsIn K mainGlobals "max" = some none)
    (z_list : PySem.W.nsIn K mainGlobals "list" = some none)
    (z_sorted : PySem.W.nsIn K mainGlobals "sorted" = some none)
    (z_str : PySem.W.nsIn K mainGlobals "str" = some none)
    (z_bool : PySem.W.nsIn K mainGlobals "bool" = some none)
    (z_all : PySem.W.nsIn K mainGlobals "all" = some none)
    (z_abs : PySem.W.nsIn K mainGlobals "abs" = some none)
    (z_min : PySem.W.nsIn K mainGlobals "min" = some none)
    (q_MOST_KNOTS : PySem.W.nsIn K mainGlobals "MOST_KNOTS" = some (some (.int 10 tk_MOST_KNOTS))) :
    ∃ fd : FuncData, (∀ (s : Shared) (v : Value), BindsTo s fd ⟨[v], []⟩ [("script", v)]) ∧ ∀ base : Heap, K.In base → base.Ns mainGlobals mg → FnOk P w K mg base (L2.CX P w) 10 fa fd ["script"] (spF (zz K) false 1 m_law) := by
  have e := hfa.symm.trans (PySem.W.mg_of X G a_law)
  cases e
  have B : Bt mg := ⟨PySem.W.mg_none_of X G z_tuple, PySem.W.mg_none_of X G z_isinstance, PySem.W.mg_none_of X G z_range, PySem.W.mg_none_of X G z_int, PySem.W.mg_none_of X G z_len, PySem.W.mg_none_of X G z_max, PySem.W.mg_none_of X G z_list, PySem.W.mg_none_of X G z_sorted, PySem.W.mg_none_of X G z_str, PySem.W.mg_none_of X G z_bool, PySem.W.mg_none_of X G z_all, PySem.W.mg_none_of X G z_abs, PySem.W.mg_none_of X G z_min, ⟨_, PySem.W.mg_of X G q_MOST_KNOTS⟩⟩
  have b1 := (fun_mk (st := s_law) l_law y_law w_law).binds (ps := ["script"]) fun _ _ _ _ _ _ us hl => match us, hl with | [_], _ => rfl
  refine ⟨PySem.W.fnOf "law" "law" (defArgs s_law) (defBody s_law) (defScope s_law) .none kV10 dc10 pm10 an10 cd10 ct10, fun s v => .of_eq rfl, fun base _ _ => ?_⟩
  have h_is_whole := k_is_whole (P := P) (w := w) (base := base) (z := zz K) rfl B (fun_mk (st := s_is_whole) l_is_whole y_is_whole w_is_whole) (PySem.W.mg_of X G a_is_whole) 
  have h_is_ring := k_is_ring (P := P) (w := w) (base := base) (z := zz K) rfl B (fun_mk (st := s_is_ring) l_is_ring y_is_ring w_is_ring) (PySem.W.mg_of X G a_is_ring) h_is_whole
  have h__law_urn := k__law_urn (P := P) (w := w) (base := base) (z := zz K) rfl B (fun_mk (st := s__law_urn) l__law_urn y__law_urn w__law_urn) (PySem.W.mg_of X G a__law_urn) 
  have h__law_ball := k__law_ball (P := P) (w := w) (base := base) (z := zz K) rfl B (fun_mk (st := s__law_ball) l__law_ball y__law_ball w__law_ball) (PySem.W.mg_of X G a__law_ball) 
  have h__law_mixed := k__law_mixed (P := P) (w := w) (base := base) (z := zz K) rfl B (fun_mk (st := s__law_mixed) l__law_mixed y__law_mixed w__law_mixed) (PySem.W.mg_of X G a__law_mixed) h__law_ball
  have h__law_ring := k__law_ring (P := P) (w := w) (base := base) (z := zz K) rfl B (fun_mk (st := s__law_ring) l__law_ring y__law_ring w__law_ring) (PySem.W.mg_of X G a__law_ring) h__law_mixed
  have h__law_is_ring := k__law_is_ring (P := P) (w := w) (base := base) (z := zz K) rfl B (fun_mk (st := s__law_is_ring) l__law_is_ring y__law_is_ring w__law_is_ring) (PySem.W.mg_of X G a__law_is_ring) 
  have h__law_near := k__law_near (P := P) (w := w) (base := base) (z := zz K) rfl B (fun_mk (st := s__law_near) l__law_near y__law_near w__law_near) (PySem.W.mg_of X G a__law_near) h__law_ball
  have h__law_right := k__law_right (P := P) (w := w) (base := base) (z := zz K) rfl B (fun_mk (st := s__law_right) l__law_right y__law_right w__law_right) (PySem.W.mg_of X G a__law_right) h__law_ring h_is_ring h__law_ball h__law_near h__law_is_ring
  have h__law_is_plain := k__law_is_plain (P := P) (w := w) (base := base) (z := zz K) rfl B (fun_mk (st := s__law_is_plain) l__law_is_plain y__law_is_plain w__law_is_plain) (PySem.W.mg_of X G a__law_is_plain) 
  have h_law := k_law (P := P) (w := w) (base := base) (z := zz K) rfl B (fun_mk (st := s_law) l_law y_law w_law) (PySem.W.mg_of X G a_law) h__law_urn h_is_ring (h__law_is_plain 8) h__law_right
  exact h_law
end G_k25
namespace G_k25
open PySem PySem.Spec PyProof.Rows L2 TN
theorem urn_ok (ns : List Int) (i : Nat) : ∃ u, Urn u ∧ m__law_urn [.scr ns, .int i] = .ok (.ls u, []) := by
  obtain ⟨p, q, r, h1, h2, h3, h4⟩ := powers
  by_cases h : i < ns.length
  · have : atI ns (i : Int) = some ns[i] := atI_nat (List.getElem?_eq_getElem h)
    simp -implicitDefEqProofs [m__law_urn, b__law_urn, this, h, h1, h2, h3, h4, e_gmod, e_gmulM, e_gmulL, e_gmulR, Urn]
  · simp -implicitDefEqProofs [m__law_urn, b__law_urn, h, h1, h2, h3, h4, e_gmod, e_gmulM, e_gmulL, e_gmulR, Urn]
theorem ball_ok {u : List D} (hu : Urn u) {n : Int} (h0 : 0 < n) (h1 : n < 1073741824) : ∃ r u', 0 ≤ r ∧ r < n ∧ Urn u' ∧ m__law_ball [.lst u, .int n] = .ok (.d (.int r), u') := by
  obtain ⟨a, b, c, rfl⟩ := hu
  have q := Int.emod_nonneg a (show n ≠ 0 by omega)
  have q2 := Int.emod_lt_of_pos a h0
  by_cases ha : 0 < a
  · refine ⟨a % n, _, q, q2, ⟨a / n, b, c, rfl⟩, ?_⟩
    simp -implicitDefEqProofs [m__law_ball, b__law_ball, ha, e_gmod, h0, h1, e_gdiv, ixN]
  · simp -implicitDefEqProofs [m__law_ball, b__law_ball, ha, e_gmod, h0, h1, e_gdiv, e_gmulM, e_gmulL, e_gmulR, ixN]
    exact ⟨_, Int.emod_nonneg _ (by omega), Int.emod_lt_of_pos _ h0, ⟨a, b, c + 1, rfl⟩, rfl⟩
theorem mixed_go : ∀ (k : Nat) (l f : List Int) (u : List D) (it : D), l.length < k → l.length ≤ 1000 → f.length + l.length ≤ 1000 → Urn u → ∃ (g : List Int) (u' : List D), g.Perm (f ++ l) ∧ Urn u' ∧
    whileF (bOf (fBin (dEq true) (fVar 2) (fLst (aNil)))) (sExpr (fApp 3 (fPopI 2 (fCall true m__law_ball (aCons (fVar 0) (aCons (fBi bLen (aCons (fVar 2) (aNil))) (aNil))))))) k [.par u, .val it, .own (l.map D.int), .own (f.map D.int)] = .ok (.nx, [.par u', .val it, .own [], .own (g.map D.int)])
  | 0, l, f, u, it, hk, _, _, _ => absurd hk (Nat.not_lt_zero _)
  | k + 1, [], f, u, it, hk, _, _, hu => ⟨f, u, by simp, hu, by
    have := dEq_nil true []
    simp only [List.map_nil] at this
    simp -implicitDefEqProofs [whileF, this]⟩
  | k + 1, x :: l, f, u, it, hk, hl, hf, hu => by
    obtain ⟨r, u', r0, r1, hu', eb⟩ := ball_ok hu (n := ((x :: l).length : Int)) (by simp only [List.length_cons]; omega) (by simp only [List.length_cons] at hl ⊢; omega)
    obtain ⟨j, rfl⟩ : ∃ j : Nat, r = j := ⟨r.toNat, by omega⟩
    have hj : j < (x :: l).length := by omega
    have hj2 : j < l.length + 1 := hj
    have el : ((x :: l).eraseIdx j).length = l.length := by rw [List.length_eraseIdx_of_lt hj]; rfl
    obtain ⟨g, u2, hp, hu2, ih⟩ := mixed_go k ((x :: l).eraseIdx j) (f ++ [(x :: l)[j]]) u' it (by rw [el]; simp only [List.length_cons] at hk; omega) (by rw [el]; simp only [List.length_cons] at hl; omega) (by rw [el, List.length_append]; simp only [List.length_cons, List.length_nil] at hf ⊢; omega) hu'
    refine ⟨g, u2, hp.trans ?_, hu2, ?_⟩
    · rw [List.append_assoc]
      exact (List.Perm.refl f).append (perm_pick _ _ hj)
    · have q := dEq_nil true (x :: l)
      simp only [List.map_cons] at q
      have hx : ixN (l.length + 1) (j : Int) = some j := ixN_nat hj2
      have hg : (D.int x :: l.map D.int)[j]? = some (.int (x :: l)[j]) := by
        rw [← List.map_cons (f := D.int), List.getElem?_map, List.getElem?_eq_getElem hj]
        rfl
      have he : (D.int x :: l.map D.int).eraseIdx j = ((x :: l).eraseIdx j).map D.int := by
        rw [← List.map_cons (f := D.int), erase_map]
      have hfl : f.length < 100000 := by omega
      have hm : f.map D.int ++ [D.int (x :: l)[j]] = (f ++ [(x :: l)[j]]).map D.int := by simp
      have h62 : (j : Int) < 4611686018427387904 := by simp only [List.length_cons] at hl; omega
      have h63 : -4611686018427387904 ≤ (j : Int) := by omega
      simp only [List.length_cons] at eb
      push_cast at eb
      simp -implicitDefEqProofs only [List.map_nil, List.map_cons, whileF, q, eb, h62, h63, hx, hg, he, hfl]
      simp -implicitDefEqProofs [q, eb, h62, h63, hx, hg, he, hfl]
      rw [hm]
      exact ih
theorem mixed_ok {u : List D} (hu : Urn u) {it : List Int} (hl : it.length ≤ 1000) : ∃ (g : List Int) (u' : List D), g.Perm it ∧ Urn u' ∧ m__law_mixed [.lst u, .lst (it.map D.int)] = .ok (.ls (g.map D.int), u') := by
  obtain ⟨g, u', hp, hu', e⟩ := mixed_go turns it [] u (.lst (it.map D.int)) (lt_turns hl) hl (by simpa using hl) hu
  refine ⟨g, u', hp, hu', ?_⟩
  simp only [List.map_nil] at e
  simp -implicitDefEqProofs [m__law_mixed, b__law_mixed, e]
def two (n : Int) : List Int := (List.replicate 2 (rngI n)).flatten
theorem two_length (n : Int) : (two n).length = 2 * n.toNat := by
  unfold two
  simp [rngI_length]
  omega
theorem two_mul {n : Int} (h1 : n ≤ 1000) : dMul (.lst ((rngI n).map D.int)) (.int 2) = .ok (.ls ((two n).map D.int)) := by
  refine dMul_lst ⟨by omega, by omega, ?_⟩
  rw [List.length_map, rngI_length]
  show n.toNat * 2 ≤ 100000
  omega
theorem ring_ok {u : List D} (hu : Urn u) {n : Int} (h0 : 0 ≤ n) (h1 : n ≤ 10) : ∃ (g : List Int) (u' : List D), g.Perm (two n) ∧ Urn u' ∧ m__law_ring [.lst u, .int n] = .ok (.d (.tup (g.map D.int)), u') := by
  obtain ⟨g, u', hp, hu', e⟩ := mixed_ok hu (it := sortI (two n)) (by rw [sortI_length, two_length]; omega)
  refine ⟨g, u', hp.trans (sortI_perm _), hu', ?_⟩
  have h2 : n ≤ 100000 := by omega
  simp -implicitDefEqProofs [m__law_ring, b__law_ring, rng_eq, two_mul (show n ≤ 1000 by omega), bSorted_lst, e, h0, h2]
/-! ### is_ring -/
def wholeD : D → Bool
  | .int _ => true
  | _ => false
theorem whole_eq {d : D} (h : (tyOf d).isSome) : m_is_whole [d] = .ok (.d (.bl (wholeD d)), []) := by
  cases d <;> simp -implicitDefEqProofs [m_is_whole, b_is_whole, bIsi, tyOf, isiT, wholeD] <;> simp [tyOf] at h
def ringB (is : List Int) : Bool := decide (1 ≤ is.length / 2) && decide (is.length / 2 ≤ 10) && decide (sortI is = sortI (two ((is.length / 2 : Nat) : Int)))
def ringD : D → Bool
  | .tup xs => match toInts xs with
    | some is => ringB is
    | none => false
  | _ => false
def Good (d : D) : Prop := (tyOf d).isSome ∧ ∀ xs, d = .tup xs → xs.length ≤ 1000 ∧ ∀ x ∈ xs, (tyOf x).isSome
theorem ints_of : ∀ {xs : List D}, xs.all wholeD = true → ∃ is : List Int, xs = is.map D.int
  | [], _ => ⟨[], rfl⟩
  | x :: xs, h => by
    simp only [List.all_cons, Bool.and_eq_true] at h
    obtain ⟨is, rfl⟩ := ints_of h.2
    cases x with
    | int i => exact ⟨i :: is, rfl⟩
    | _ => cases h.1
theorem all_ints : ∀ is : List Int, (is.map D.int).all wholeD = true
  | [] => rfl
  | i :: is => by simp only [List.map_cons, List.all_cons, wholeD, all_ints is, Bool.and_self]
theorem toInts_bad : ∀ {xs : List D}, xs.all wholeD = false → toInts xs = none
  | [], h => by cases h
  | x :: xs, h => by
    cases x with
    | int i =>
      simp only [List.all_cons, wholeD, Bool.true_and] at h
      simp only [toInts, toInts_bad h]
    | _ => simp only [toInts]
theorem is_ring_eq {d : D} (h : Good d) : m_is_ring [d] = .ok (.d (.bl (ringD d)), []) := by
  obtain ⟨h1, h2⟩ := h
  cases d with
  | tup xs =>
    obtain ⟨h3, h4⟩ := h2 xs rfl
    have lc : fLc (fSeq (fVar 0)) (gN 2) (bYes) (fCall false m_is_whole (aCons (fVar 2) (aNil))) [2] [.val (.tup xs), .no, .no] = .ok (.new (xs.map fun x => D.bl (wholeD x)), [.val (.tup xs), .no, .no]) := by
      have := fLc_pure (fi := fSeq (fVar 0)) (c := bYes) (f := fCall false m_is_whole (aCons (fVar 2) (aNil))) (v := 2) (e0 := [.val (.tup xs), .no, .no]) (env := [.val (.tup xs), .no, .no]) (ds := xs) (s := .no) (fun _ => true) (fun x => D.bl (wholeD x)) (by simp -implicitDefEqProofs) (by omega) rfl rfl (fun d _ => rfl) fun d hd _ => ⟨.d (.bl (wholeD d)), by simp -implicitDefEqProofs [whole_eq (h4 d hd)], rfl⟩
      rw [this, List.filter_eq_self.mpr (fun _ _ => rfl)]
    cases hw : xs.all wholeD with
    | false =>
      have : ringD (.tup xs) = false := by simp only [ringD, toInts_bad hw]
      rw [this]
      simp -implicitDefEqProofs [m_is_ring, b_is_ring, bIsi, tyOf, isiT, lc, bAll_map, hw]
    | true =>
      obtain ⟨is, rfl⟩ := ints_of hw
      have : ringD (.tup (is.map D.int)) = ringB is := by simp only [ringD, toInts_of]
      rw [this]
      rw [List.length_map] at h3
      obtain ⟨k, hk⟩ : ∃ k : Int, (is.length : Int) / 2 = k := ⟨_, rfl⟩
      have hk2 : k = ((is.length / 2 : Nat) : Int) := by omega
      have ba := bAll_map wholeD (is.map D.int)
      rw [all_ints] at ba
      by_cases c1 : 1 ≤ k
      · by_cases c2 : k ≤ 10
        · have c3 : 0 ≤ k := by omega
          have c4 : k ≤ 100000 := by omega
          have : ringB is = decide (sortI is = sortI (two k)) := by
            unfold ringB
            rw [hk2, decide_eq_true (show 1 ≤ is.length / 2 by omega), decide_eq_true (show is.length / 2 ≤ 10 by omega)]
            rfl
          rw [this]
          simp -implicitDefEqProofs [-List.map_map, m_is_ring, b_is_ring, bIsi, tyOf, isiT, lc, ba, e_gdiv, hk, c1, c2, c3, c4, bSorted_tup, rng_eq, two_mul (show k ≤ 1000 by omega), bSorted_lst, dEq_lst]
        · have : ringB is = false := by
            unfold ringB
            rw [decide_eq_false (show ¬ is.length / 2 ≤ 10 by omega)]
            simp
          rw [this]
          simp -implicitDefEqProofs [-List.map_map, m_is_ring, b_is_ring, bIsi, tyOf, isiT, lc, ba, e_gdiv, hk, c1, c2]
      · have : ringB is = false := by
          unfold ringB
          rw [decide_eq_false (show ¬ 1 ≤ is.length / 2 by omega)]
          simp
        rw [this]
        simp -implicitDefEqProofs [-List.map_map, m_is_ring, b_is_ring, bIsi, tyOf, isiT, lc, ba, e_gdiv, hk, c1]
  | _ => simp -implicitDefEqProofs [m_is_ring, b_is_ring, bIsi, tyOf, isiT, ringD] <;> simp [tyOf] at h1
/-! ### the law's own -/
theorem law_is_ring_eq {d : D} (h : Good d) : m__law_is_ring [d] = .ok (.d (.bl (ringD d)), []) := by
  obtain ⟨h1, h2⟩ := h
  cases d with
  | tup xs =>
    obtain ⟨h3, h4⟩ := h2 xs rfl
    by_cases c1 : 2 ≤ xs.length
    · by_cases c2 : xs.length ≤ 20
      · have lc : fLc (fSeq (fVar 0)) (gN 1) (fOrB (fTru (fBi bIsi (aCons (fVar 1) (aCons (fC (.ty "bool")) (aNil))))) (fNotB (fTru (fBi bIsi (aCons (fVar 1) (aCons (fC (.ty "int")) (aNil))))))) (fC (.int 1)) [1] [.val (.tup xs), .no] = .ok (.new ((((xs.filter fun x => !wholeD x).map fun _ => (1 : Int))).map D.int), [.val (.tup xs), .no]) := by
          have := fLc_pure (fi := fSeq (fVar 0)) (c := (fOrB (fTru (fBi bIsi (aCons (fVar 1) (aCons (fC (.ty "bool")) (aNil))))) (fNotB (fTru (fBi bIsi (aCons (fVar 1) (aCons (fC (.ty "int")) (aNil)))))))) (f := fC (.int 1)) (v := 1) (e0 := [.val (.tup xs), .no]) (env := [.val (.tup xs), .no]) (ds := xs) (s := .no) (fun x => !wholeD x) (fun _ => D.int 1) (by simp -implicitDefEqProofs) (by omega) rfl rfl (fun d hd => by
            have := h4 d hd
            cases d <;> simp -implicitDefEqProofs [bIsi, tyOf, isiT, wholeD] <;> simp [tyOf] at this) fun d hd _ => ⟨.d (.int 1), by simp -implicitDefEqProofs, rfl⟩
          rw [this, List.map_map]
          rfl
        have e2 : 2 ≤ (xs.length : Int) := by omega
        have e3 : (xs.length : Int) ≤ 20 := by omega
        cases hw : xs.all wholeD with
        | false =>
          have : ringD (.tup xs) = false := by simp only [ringD, toInts_bad hw]
          rw [this]
          have ne : ((xs.filter fun x => !wholeD x).map fun _ => (1 : Int)) ≠ [] := fun z => by
            have := List.filter_eq_nil_iff.mp (List.map_eq_nil_iff.mp z)
            rw [List.all_eq_true.mpr (fun x hx => by simpa using this x hx)] at hw
            cases hw
          simp -implicitDefEqProofs [-List.map_map, m__law_is_ring, b__law_is_ring, bIsi, tyOf, isiT, lc, e2, e3, dEq_nil, ne]
        | true =>
          obtain ⟨is, rfl⟩ := ints_of hw
          have : ringD (.tup (is.map D.int)) = ringB is := by simp only [ringD, toInts_of]
          rw [this]
          have em : ((is.map D.int).filter fun x => !wholeD x) = [] := List.filter_eq_nil_iff.mpr fun x hx => by
            obtain ⟨i, _, rfl⟩ := List.mem_map.mp hx
            simp [wholeD]
          rw [em] at lc
          simp only [List.map_nil] at lc
          obtain ⟨k, hk⟩ : ∃ k : Int, (is.length : Int) / 2 = k := ⟨_, rfl⟩
          rw [List.length_map] at c1 c2 e2 e3
          have hk2 : k = ((is.length / 2 : Nat) : Int) := by omega
          have c3 : 0 ≤ k := by omega
          have c4 : k ≤ 100000 := by omega
          have : ringB is = decide (sortI is = sortI (two k)) := by
            unfold ringB
            rw [hk2, decide_eq_true (show 1 ≤ is.length / 2 by omega), decide_eq_true (show is.length / 2 ≤ 10 by omega)]
            rfl
          rw [this]
          have n0 := dEq_nil true []
          simp only [List.map_nil] at n0
          simp -implicitDefEqProofs [-List.map_map, m__law_is_ring, b__law_is_ring, bIsi, tyOf, isiT, lc, n0, e2, e3, e_gdiv, hk, c3, c4, bSorted_tup, rng_eq, two_mul (show k ≤ 1000 by omega), bSorted_lst, dEq_lst]
      · have : ringD (.tup xs) = false := by
          cases hi : toInts xs with
          | none => simp only [ringD, hi]
          | some is =>
            have := toInts_eq hi
            subst this
            rw [List.length_map] at c1 c2
            rw [show ringD (.tup (is.map D.int)) = ringB is by simp only [ringD, toInts_of]]
            unfold ringB
            by_cases q : is.length / 2 ≤ 10
            · have : sortI is ≠ sortI (two ((is.length / 2 : Nat) : Int)) := fun z => by
                have z := congrArg List.length z
                rw [sortI_length, sortI_length, two_length, Int.toNat_natCast] at z
                omega
              rw [decide_eq_false this]
              simp
            · simp [q]
        rw [this]
        have e2 : 2 ≤ (xs.length : Int) := by omega
        have e3 : ¬ (xs.length : Int) ≤ 20 := by omega
        simp -implicitDefEqProofs [m__law_is_ring, b__law_is_ring, bIsi, tyOf, isiT, e2, e3]
    · have : ringD (.tup xs) = false := by
        cases hi : toInts xs with
        | none => simp only [ringD, hi]
        | some is =>
          have := toInts_eq hi
          subst this
          rw [List.length_map] at c1
          rw [show ringD (.tup (is.map D.int)) = ringB is by simp only [ringD, toInts_of]]
          unfold ringB
          rw [decide_eq_false (show ¬ 1 ≤ is.length / 2 by omega)]
          simp
      rw [this]
      have e2 : ¬ 2 ≤ (xs.length : Int) := by omega
      simp -implicitDefEqProofs [m__law_is_ring, b__law_is_ring, bIsi, tyOf, isiT, e2]
  | _ => simp -implicitDefEqProofs [m__law_is_ring, b__law_is_ring, bIsi, tyOf, isiT, ringD] <;> simp [tyOf] at h1
/-! ### values near a ring -/
theorem good_tup {xs : List D} (h : xs.length ≤ 1000) (hx : ∀ x ∈ xs, (tyOf x).isSome = true) : Good (.tup xs) := ⟨rfl, fun ys e => by cases e; exact ⟨h, hx⟩⟩
theorem good_of {d : D} (h : (tyOf d).isSome = true) (hn : ∀ xs, d ≠ .tup xs) : Good d := ⟨h, fun xs e => absurd e (hn xs)⟩
theorem two_balls {u : List D} (hu : Urn u) (g : List Int) (h0 : 0 < g.length) (h1 : g.length ≤ 20) : ∃ (a t : Nat) (u' : List D), a < g.length ∧ t < g.length ∧ Urn u' ∧
    sPar 2 3 (fCall true m__law_ball (aCons (fVar 0) (aCons (fBi bLen (aCons (fVar 1) (aNil))) (aNil)))) (fCall true m__law_ball (aCons (fVar 0) (aCons (fBi bLen (aCons (fVar 1) (aNil))) (aNil)))) [.par u, .val (.tup (g.map D.int)), .no, .no, .no, .no, .no]
      = .ok (.nx, [.par u', .val (.tup (g.map D.int)), .val (.int a), .val (.int t), .no, .no, .no]) := by
  obtain ⟨a, u1, a0, a1, hu1, ea⟩ := ball_ok hu (n := (g.length : Int)) (by omega) (by omega)
  obtain ⟨t, u2, t0, t1, hu2, et⟩ := ball_ok hu1 (n := (g.length : Int)) (by omega) (by omega)
  obtain ⟨a, rfl⟩ : ∃ j : Nat, a = j := ⟨a.toNat, by omega⟩
  obtain ⟨t, rfl⟩ : ∃ j : Nat, t = j := ⟨t.toNat, by omega⟩
  refine ⟨a, t, u2, by omega, by omega, hu2, ?_⟩
  simp -implicitDefEqProofs [ea, et]
theorem near1 (u : List D) (r : List D) (A B : Sl) (hr : r.length ≤ 20) (hx : ∀ x ∈ r, (tyOf x).isSome = true) : ∃ f, f.length = 12 ∧ (∀ x ∈ f, Good x) ∧
    sSet 4 (fLst (aCons (fVar 1) (aCons (fBi bList (aCons (fVar 1) (aNil))) (aCons (fSl dSl (fVar 1) (oSome (fC (.int 1))) (oNone)) (aCons (fSl dSl (fVar 1) (oNone) (oSome (fUn (fun i => -i) (fC (.int 1))))) (aCons (fBin dAdd (fVar 1) (fVar 1)) (aCons (fBin dAdd (fVar 1) (fSl dSl (fVar 1) (oNone) (oSome (fC (.int 1))))) (aCons (fC .non) (aCons (fC (.int 0)) (aCons (fTup (aNil)) (aCons (fDct) (aCons (fC (.str "0011")) (aCons (fTup (aCons (fVar 1) (aNil))) (aNil)))))))))))))) [.par u, .val (.tup r), A, B, .no, .no, .no] = .ok (.nx, [.par u, .val (.tup r), A, B, .own f, .no, .no]) := by
  obtain ⟨q1, y1, e1, f1, l1, m1⟩ := dSl_tup r (some 1) none
  obtain ⟨q2, y2, e2, f2, l2, m2⟩ := dSl_tup r none (some (-1))
  obtain ⟨q3, y3, e3, f3, l3, m3⟩ := dSl_tup r none (some 1)
  obtain ⟨q4, e4, f4⟩ := dAdd_tup r r (by omega)
  obtain ⟨q5, e5, f5⟩ := dAdd_tup r y3 (by omega)
  refine ⟨[.tup r, .lst r, .tup y1, .tup y2, .tup (r ++ r), .tup (r ++ y3), .non, .int 0, .tup [], .dct, .str "0011", .tup [.tup r]], rfl, ?_, ?_⟩
  · have g0 : Good (.tup r) := good_tup (by omega) hx
    have g1 : Good (.tup y1) := good_tup (by omega) fun x m => hx x (m1 x m)
    have g2 : Good (.tup y2) := good_tup (by omega) fun x m => hx x (m2 x m)
    have g3 : Good (.tup (r ++ r)) := good_tup (by rw [List.length_append]; omega) fun x m => by rcases List.mem_append.mp m with h | h <;> exact hx x h
    have g4 : Good (.tup (r ++ y3)) := good_tup (by rw [List.length_append]; omega) fun x m => by
      rcases List.mem_append.mp m with h | h
      · exact hx x h
      · exact hx x (m3 x h)
    intro x m
    simp only [List.mem_cons, List.not_mem_nil, or_false] at m
    rcases m with rfl | rfl | rfl | rfl | rfl | rfl | rfl | rfl | rfl | rfl | rfl | rfl
    · exact g0
    · exact good_of rfl fun _ e => by cases e
    · exact g1
    · exact g2
    · exact g3
    · exact g4
    · exact good_of rfl fun _ e => by cases e
    · exact good_of rfl fun _ e => by cases e
    · exact good_tup (by simp) fun x m => by cases m
    · exact good_of rfl fun _ e => by cases e
    · exact good_of rfl fun _ e => by cases e
    · exact good_tup (by simp) fun x m => by
        rw [List.mem_singleton.mp m]
        rfl
  · simp -implicitDefEqProofs [e1, f1, e2, f2, e3, f3, e4, f4, e5, f5]
theorem near2 (r : List D) (a : Int) (u : List D) (B : Sl) (hr : r.length ≤ 20) (hx : ∀ x ∈ r, (tyOf x).isSome = true) (ns : List D) (hn : ∀ n ∈ ns, (tyOf n).isSome = true) (hl : ns.length ≤ 100) {f : List D} (hf : f.length = 12) (hg : ∀ x ∈ f, Good x) : ∃ f' s, f'.length = 12 + ns.length ∧ (∀ x ∈ f', Good x) ∧
    forF (gN 5) (sExpr (fApp 4 (fBin dAdd (fBin dAdd (fSl dSl (fVar 1) (oNone) (oSome (fVar 2))) (fTup (aCons (fVar 5) (aNil)))) (fSl dSl (fVar 1) (oSome (fBin dAdd (fVar 2) (fC (.int 1)))) (oNone))))) ns [.par u, .val (.tup r), .val (.int a), B, .own f, .no, .no] = .ok (.nx, [.par u, .val (.tup r), .val (.int a), B, .own f', s, .no]) := by
  obtain ⟨q1, y1, e1, f1, l1, m1⟩ := dSl_tup r none (some a)
  obtain ⟨q2, y2, e2, f2, l2, m2⟩ := dSl_tup r (some (a + 1)) none
  obtain ⟨e', h1, f', s, h2, h3, h4⟩ := forF_idx (ga := gN 5) (s := sExpr (fApp 4 (fBin dAdd (fBin dAdd (fSl dSl (fVar 1) (oNone) (oSome (fVar 2))) (fTup (aCons (fVar 5) (aNil)))) (fSl dSl (fVar 1) (oSome (fBin dAdd (fVar 2) (fC (.int 1)))) (oNone)))))
    (I := fun k e => ∃ f s, e = [.par u, .val (.tup r), .val (.int a), B, .own f, s, .no] ∧ f.length = k ∧ ∀ x ∈ f, Good x) (m := 12 + ns.length) (ds := ns) (k := 12) ⟨f, .no, rfl, hf, hg⟩ (Nat.le_refl _) (fun d hd k e hk ⟨f, s, he, hf, hg⟩ => by
      subst he
      obtain ⟨q3, e3, f3⟩ := dAdd_tup y1 [d] (by simp; omega)
      obtain ⟨q4, e4, f4⟩ := dAdd_tup (y1 ++ [d]) y2 (by simp; omega)
      refine ⟨[.par u, .val (.tup r), .val (.int a), B, .own f, .val d, .no], [.par u, .val (.tup r), .val (.int a), B, .own (f ++ [.tup (y1 ++ [d] ++ y2)]), .val d, .no], by simp -implicitDefEqProofs, ?_, _, _, rfl, by rw [List.length_append]; rw [hf]; rfl, fun x m => ?_⟩
      · have : f.length < 100000 := by omega
        simp only [List.append_assoc, List.cons_append, List.nil_append] at e4 f4
        simp -implicitDefEqProofs [e1, f1, e2, f2, e3, f3, e4, f4, this]
      · rcases List.mem_append.mp m with h | h
        · exact hg x h
        · rw [List.mem_singleton.mp h]
          refine good_tup (by simp; omega) fun x m => ?_
          rcases List.mem_append.mp m with h | h
          · rcases List.mem_append.mp h with h | h
            · exact hx x (m1 x h)
            · rw [List.mem_singleton.mp h]
              exact hn d hd
          · exact hx x (m2 x h))
  exact ⟨f', s, h3, h4, h2 ▸ h1⟩
theorem bits60 : gPow 10 60 = some (.int ((10 : Int) ^ (60 : Int).toNat)) := if_pos ⟨by omega, by decide +kernel⟩
theorem near3 (u : List D) (g : List Int) (a t : Nat) (fl : Sl) (ha : a < g.length) (ht : t < g.length) (hb : ∀ x ∈ g, -1000 ≤ x ∧ x ≤ 1000) : ∃ ns, ns.length = 11 ∧ (∀ x ∈ ns, (tyOf x).isSome = true) ∧
    fSeq (fTup (aCons (fBin dIx (fVar 1) (fVar 3)) (aCons (fBin dAdd (fBin dIx (fVar 1) (fVar 2)) (fC (.int 1))) (aCons (fBin (oI gMinus) (fBin dIx (fVar 1) (fVar 2)) (fC (.int 1))) (aCons (fBin (oI gDiv) (fBi bLen (aCons (fVar 1) (aNil))) (fC (.int 2))) (aCons (fC (.bl true)) (aCons (fC .non) (aCons (fBi bStr (aCons (fBin dIx (fVar 1) (fVar 2)) (aNil))) (aCons (fTup (aCons (fC (.int 0)) (aNil))) (aCons (fBin (oI gPow) (fC (.int 10)) (fC (.int 60))) (aCons (fLst (aCons (fC (.int 0)) (aNil))) (aCons (fDct) (aNil))))))))))))) [.par u, .val (.tup (g.map D.int)), .val (.int a), .val (.int t), fl, .no, .no]
      = .ok (ns, [.par u, .val (.tup (g.map D.int)), .val (.int a), .val (.int t), fl, .no, .no]) := by
  have ga : atI (g.map D.int) (a : Int) = some (.int g[a]) := atI_nat (by rw [List.getElem?_map, List.getElem?_eq_getElem ha]; rfl)
  have gt : atI (g.map D.int) (t : Int) = some (.int g[t]) := atI_nat (by rw [List.getElem?_map, List.getElem?_eq_getElem ht]; rfl)
  have sb : bStr [.int g[a]] = .ok (.d (.str (toString g[a]))) := by
    have := hb g[a] (List.getElem_mem ha)
    refine if_pos ?_
    have h2 : g[a].natAbs < 2 ^ 10 := by omega
    have := (Nat.log2_lt (n := g[a].natAbs) (k := 10))
    by_cases z : g[a].natAbs = 0
    · rw [z]; decide
    · have := (Nat.log2_lt z).mpr h2
      omega
  obtain ⟨big, hbig⟩ : ∃ b : Int, gPow 10 60 = some (.int b) := ⟨_, bits60⟩
  refine ⟨[.int g[t], .int (g[a] + 1), .int (g[a] - 1), .int ((g.length : Int) / 2), .bl true, .non, .str (toString g[a]), .tup [.int 0], .int big, .lst [.int 0], .dct], rfl, fun x m => ?_, ?_⟩
  · simp only [List.mem_cons, List.not_mem_nil, or_false] at m
    rcases m with rfl | rfl | rfl | rfl | rfl | rfl | rfl | rfl | rfl | rfl | rfl <;> rfl
  · simp -implicitDefEqProofs [ga, gt, sb, hbig, e_gdiv]
theorem near4 (u : List D) (g : List Int) (A B s : Sl) (hr : g.length ≤ 20) {f : List D} (hf : f.length = 23) (hg : ∀ x ∈ f, Good x) : ∃ f', f'.length = 25 ∧ (∀ x ∈ f', Good x) ∧
    sSet 4 (fBin dAdd (fVar 4) (fLst (aCons (fBi bTuple (aCons (fLc (fSeq (fVar 1)) (gN 6) (bYes) (fBin dAdd (fVar 6) (fC (.int 1))) [6]) (aNil))) (aCons (fBi bTuple (aCons (fLc (fSeq (fVar 1)) (gN 6) (bYes) (fIf (bOf (fBin (oI gLt) (fVar 6) (fC (.int 2)))) (fBin (dEq false) (fVar 6) (fC (.int 1))) (fVar 6)) [6]) (aNil))) (aNil))))) [.par u, .val (.tup (g.map D.int)), A, B, .own f, s, .no] = .ok (.nx, [.par u, .val (.tup (g.map D.int)), A, B, .own f', s, .no]) := by
  have lc1 : fLc (fSeq (fVar 1)) (gN 6) (bYes) (fBin dAdd (fVar 6) (fC (.int 1))) [6] [.par u, .val (.tup (g.map D.int)), A, B, .own f, s, .no] = .ok (.new (g.map fun i => D.int (i + 1)), [.par u, .val (.tup (g.map D.int)), A, B, .own f, s, .no]) := by
    have := fLc_pure (fi := fSeq (fVar 1)) (c := bYes) (f := fBin dAdd (fVar 6) (fC (.int 1))) (v := 6) (e0 := [.par u, .val (.tup (g.map D.int)), A, B, .own f, s, .no]) (env := [.par u, .val (.tup (g.map D.int)), A, B, .own f, s, .no]) (ds := g.map D.int) (s := .no) (fun _ => true) (fun d => match d with | .int i => D.int (i + 1) | _ => .non) (by simp -implicitDefEqProofs) (by simp; omega) rfl rfl (fun d _ => rfl) fun d hd _ => by
      obtain ⟨i, _, rfl⟩ := List.mem_map.mp hd
      exact ⟨.d (.int (i + 1)), by simp -implicitDefEqProofs, rfl⟩
    rw [this, List.filter_eq_self.mpr (fun _ _ => rfl), List.map_map]
    rfl
  have lc2 : fLc (fSeq (fVar 1)) (gN 6) (bYes) (fIf (bOf (fBin (oI gLt) (fVar 6) (fC (.int 2)))) (fBin (dEq false) (fVar 6) (fC (.int 1))) (fVar 6)) [6] [.par u, .val (.tup (g.map D.int)), A, B, .own f, s, .no] = .ok (.new (g.map fun i => if i < 2 then D.bl (i == 1) else D.int i), [.par u, .val (.tup (g.map D.int)), A, B, .own f, s, .no]) := by
    have := fLc_pure (fi := fSeq (fVar 1)) (c := bYes) (f := fIf (bOf (fBin (oI gLt) (fVar 6) (fC (.int 2)))) (fBin (dEq false) (fVar 6) (fC (.int 1))) (fVar 6)) (v := 6) (e0 := [.par u, .val (.tup (g.map D.int)), A, B, .own f, s, .no]) (env := [.par u, .val (.tup (g.map D.int)), A, B, .own f, s, .no]) (ds := g.map D.int) (s := .no) (fun _ => true) (fun d => match d with | .int i => if i < 2 then D.bl (i == 1) else D.int i | _ => .non) (by simp -implicitDefEqProofs) (by simp; omega) rfl rfl (fun d _ => rfl) fun d hd _ => by
      obtain ⟨i, _, rfl⟩ := List.mem_map.mp hd
      have e : dEq false (.int i) (.int 1) = .ok (.d (.bl (i == 1))) := by simp [dEq, toPy, PyData.depth, PyData.eqv]
      by_cases c : i < 2
      · exact ⟨.d (.bl (i == 1)), by simp -implicitDefEqProofs [e, c], by simp [c]⟩
      · exact ⟨.d (.int i), by simp -implicitDefEqProofs [c], by simp [c]⟩
    rw [this, List.filter_eq_self.mpr (fun _ _ => rfl), List.map_map]
    rfl
  refine ⟨f ++ [.tup (g.map fun i => D.int (i + 1)), .tup (g.map fun i => if i < 2 then D.bl (i == 1) else D.int i)], by simp [hf], fun x m => ?_, ?_⟩
  · rcases List.mem_append.mp m with h | h
    · exact hg x h
    · simp only [List.mem_cons, List.not_mem_nil, or_false] at h
      rcases h with rfl | rfl
      · refine good_tup (by simp; omega) fun x m => ?_
        obtain ⟨i, _, rfl⟩ := List.mem_map.mp m
        rfl
      · refine good_tup (by simp; omega) fun x m => ?_
        obtain ⟨i, _, rfl⟩ := List.mem_map.mp m
        by_cases c : i < 2 <;> simp [c, tyOf]
  · have ad := dAdd_lst f [.tup (g.map fun i => D.int (i + 1)), .tup (g.map fun i => if i < 2 then D.bl (i == 1) else D.int i)] (by simp [hf])
    simp -implicitDefEqProofs [lc1, lc2, ad]
theorem near5 (u : List D) (A B s r : Sl) {f : List D} (hf : f.length = 25) (hg : ∀ x ∈ f, Good x) : ∃ f', f'.length = 29 ∧ (∀ x ∈ f', Good x) ∧
    sSet 4 (fBin dAdd (fVar 4) (fLst (aCons (fBi bTuple (aCons (fBi bSorted (aCons (fBin dMul (fLRg1 (fC (.int 11))) (fC (.int 2))) (aNil))) (aNil))) (aCons (fTup (aCons (fC (.int 0)) (aNil))) (aCons (fTup (aCons (fC (.int 0)) (aCons (fC (.int 0)) (aNil)))) (aCons (fTup (aCons (fC (.int 0)) (aCons (fC (.int 0)) (aCons (fC (.int 0)) (aNil))))) (aNil))))))) [.par u, r, A, B, .own f, s, .no] = .ok (.nx, [.par u, r, A, B, .own f', s, .no]) := by
  refine ⟨f ++ [.tup ((sortI (two 11)).map D.int), .tup [.int 0], .tup [.int 0, .int 0], .tup [.int 0, .int 0, .int 0]], by simp [hf], fun x m => ?_, ?_⟩
  · rcases List.mem_append.mp m with h | h
    · exact hg x h
    · simp only [List.mem_cons, List.not_mem_nil, or_false] at h
      rcases h with rfl | rfl | rfl | rfl
      · refine good_tup (by rw [List.length_map, sortI_length, two_length]; decide) fun x m => ?_
        obtain ⟨i, _, rfl⟩ := List.mem_map.mp m
        rfl
      · exact good_tup (by simp) fun x m => by simp only [List.mem_cons, List.not_mem_nil, or_false] at m; subst m; rfl
      · exact good_tup (by simp) fun x m => by simp only [List.mem_cons, List.not_mem_nil, or_false] at m; rcases m with rfl | rfl <;> rfl
      · exact good_tup (by simp) fun x m => by simp only [List.mem_cons, List.not_mem_nil, or_false] at m; rcases m with rfl | rfl | rfl <;> rfl
  · have ad := dAdd_lst f [.tup ((sortI (two 11)).map D.int), .tup [.int 0], .tup [.int 0, .int 0], .tup [.int 0, .int 0, .int 0]] (by simp [hf])
    simp -implicitDefEqProofs [rng_eq, two_mul (show (11 : Int) ≤ 1000 by omega), bSorted_lst, ad]
theorem near6 (u : List D) (r : List D) (a : Int) (B s : Sl) (hr : r.length ≤ 20) (hx : ∀ x ∈ r, (tyOf x).isSome = true) {f : List D} (hf : f.length = 29) (hg : ∀ x ∈ f, Good x) : ∃ f', f'.length = 31 ∧ (∀ x ∈ f', Good x) ∧
    sRet (fBin dAdd (fVar 4) (fLst (aCons (fBack (fVar 1)) (aCons (fBin dAdd (fSl dSl (fVar 1) (oSome (fVar 2)) (oNone)) (fSl dSl (fVar 1) (oNone) (oSome (fVar 2)))) (aNil))))) [.par u, .val (.tup r), .val (.int a), B, .own f, s, .no] = .ok (.ret (.new f'), [.par u, .val (.tup r), .val (.int a), B, .own f, s, .no]) := by
  obtain ⟨q1, y1, e1, f1, l1, m1⟩ := dSl_tup r (some a) none
  obtain ⟨q2, y2, e2, f2, l2, m2⟩ := dSl_tup r none (some a)
  obtain ⟨q3, e3, f3⟩ := dAdd_tup y1 y2 (by omega)
  refine ⟨f ++ [.tup r.reverse, .tup (y1 ++ y2)], by simp [hf], fun x m => ?_, ?_⟩
  · rcases List.mem_append.mp m with h | h
    · exact hg x h
    · simp only [List.mem_cons, List.not_mem_nil, or_false] at h
      rcases h with rfl | rfl
      · exact good_tup (by simp; omega) fun x m => hx x (List.mem_reverse.mp m)
      · exact good_tup (by simp; omega) fun x m => by
          rcases List.mem_append.mp m with h | h
          · exact hx x (m1 x h)
          · exact hx x (m2 x h)
  · have ad := dAdd_lst f [.tup r.reverse, .tup (y1 ++ y2)] (by simp [hf])
    simp -implicitDefEqProofs [e1, f1, e2, f2, e3, f3, ad]
theorem near_ok {u : List D} (hu : Urn u) (g : List Int) (h0 : 0 < g.length) (h1 : g.length ≤ 20) (hb : ∀ x ∈ g, -1000 ≤ x ∧ x ≤ 1000) : ∃ (f u' : List D), f.length = 31 ∧ (∀ x ∈ f, Good x) ∧ Urn u' ∧ m__law_near [.lst u, .tup (g.map D.int)] = .ok (.ls f, u') := by
  have hx : ∀ x ∈ g.map D.int, (tyOf x).isSome = true := fun x m => by
    obtain ⟨i, _, rfl⟩ := List.mem_map.mp m
    rfl
  have hl : (g.map D.int).length ≤ 20 := by rw [List.length_map]; exact h1
  obtain ⟨a, t, u', ha, ht, hu', e1⟩ := two_balls hu g h0 h1
  obtain ⟨f1, l1, g1, e2⟩ := near1 u' (g.map D.int) (.val (.int a)) (.val (.int t)) hl hx
  obtain ⟨ns, ln, hn, e3⟩ := near3 u' g a t (.own f1) ha ht hb
  obtain ⟨f2, s2, l2, g2, e4⟩ := near2 (g.map D.int) a u' (.val (.int t)) hl hx ns hn (by omega) l1 g1
  obtain ⟨f3, l3, g3, e5⟩ := near4 u' g (.val (.int a)) (.val (.int t)) s2 h1 (by rw [l2, ln]) g2
  obtain ⟨f4, l4, g4, e6⟩ := near5 u' (.val (.int a)) (.val (.int t)) s2 (.val (.tup (g.map D.int))) l3 g3
  obtain ⟨f5, l5, g5, e7⟩ := near6 u' (g.map D.int) a (.val (.int t)) s2 hl hx l4 g4
  refine ⟨f5, u', l5, g5, hu', ?_⟩
  simp -implicitDefEqProofs only [m__law_near, b__law_near, e_fn, e_stE1, List.map_cons, List.map_nil, List.length_cons, List.length_nil, e_ofs, e_bok, e_sCons]
  simp -implicitDefEqProofs only [show List.replicate (7 - (0 + 1 + 1)) Sl.no = [.no, .no, .no, .no, .no] from rfl, List.cons_append, List.nil_append, e1, e_bok, e2, e_for, e3, e4, e5, e6, e7]
  simp -implicitDefEqProofs
theorem right_ok {u : List D} (hu : Urn u) : ∃ u', Urn u' ∧ m__law_right [.lst u] = .ok (.d (.bl true), u') := by
  obtain ⟨b, u1, b0, b1, hu1, e1⟩ := ball_ok hu (n := 10) (by omega) (by omega)
  obtain ⟨g, u2, hp, hu2, e2⟩ := ring_ok hu1 (n := 1 + b) (by omega) (by omega)
  have hl : g.length = 2 * (1 + b).toNat := by rw [hp.length_eq, two_length]
  have hb : ∀ x ∈ g, -1000 ≤ x ∧ x ≤ 1000 := fun x m => by
    have m2 := hp.mem_iff.mp m
    unfold two at m2
    obtain ⟨l, hl, hx⟩ := List.mem_flatten.mp m2
    rw [(List.mem_replicate.mp hl).2] at hx
    have := rngI_mem hx
    omega
  obtain ⟨f, u3, hf, hg, hu3, e3⟩ := near_ok hu2 g (by omega) (by omega) hb
  have gr : Good (.tup (g.map D.int)) := good_tup (by rw [List.length_map]; omega) fun x m => by
    obtain ⟨i, _, rfl⟩ := List.mem_map.mp m
    rfl
  have rg : ringD (.tup (g.map D.int)) = true := by
    rw [show ringD (.tup (g.map D.int)) = ringB g by simp only [ringD, toInts_of]]
    have hk : ((g.length / 2 : Nat) : Int) = 1 + b := by omega
    unfold ringB
    rw [decide_eq_true (show 1 ≤ g.length / 2 by omega), decide_eq_true (show g.length / 2 ≤ 10 by omega), hk, decide_eq_true (sortI_congr hp)]
    rfl
  have e4 := is_ring_eq gr
  rw [rg] at e4
  have lc : fLc (fSeq (fCall true m__law_near (aCons (fVar 0) (aCons (fVar 1) (aNil))))) (gN 2) (bOf (fBin (dEq true) (fCall false m_is_ring (aCons (fVar 2) (aNil))) (fCall false m__law_is_ring (aCons (fVar 2) (aNil))))) (fVar 2) [2] [.par u2, .val (.tup (g.map D.int)), .no] = .ok (.new [], [.par u3, .val (.tup (g.map D.int)), .no]) := by
    have := fLc_pure (fi := fSeq (fCall true m__law_near (aCons (fVar 0) (aCons (fVar 1) (aNil))))) (c := bOf (fBin (dEq true) (fCall false m_is_ring (aCons (fVar 2) (aNil))) (fCall false m__law_is_ring (aCons (fVar 2) (aNil))))) (f := fVar 2) (v := 2) (e0 := [.par u2, .val (.tup (g.map D.int)), .no]) (env := [.par u3, .val (.tup (g.map D.int)), .no]) (ds := f) (s := .no) (fun _ => false) id (by simp -implicitDefEqProofs [e3]) (by omega) rfl rfl (fun d hd => by
      have q : dEq true (.bl (ringD d)) (.bl (ringD d)) = .ok (.d (.bl false)) := by cases ringD d <;> simp [dEq, toPy, PyData.depth, PyData.eqv]
      simp -implicitDefEqProofs [is_ring_eq (hg d hd), law_is_ring_eq (hg d hd), q]) fun d hd h => by cases h
    rw [this, List.filter_eq_nil_iff.mpr (fun _ _ h => by cases h)]
    rfl
  refine ⟨u3, hu3, ?_⟩
  have n0 := dEq_nil false []
  simp only [List.map_nil] at n0
  simp -implicitDefEqProofs [m__law_right, b__law_right, e1, e2, e4, lc, n0]
theorem plain_succ (n : Nat) : m__law_is_plain (n + 1) = fnOf false 2 (b__law_is_plain (m__law_is_plain n)) := rfl
theorem plain_bl (n : Nat) (b : Bool) : m__law_is_plain (n + 1) [.bl b] = .ok (.d (.bl true), []) := by
  simp -implicitDefEqProofs [m__law_is_plain, b__law_is_plain, bIsi, tyOf, isiT, dIs, isNonD]
theorem plain_tup (n : Nat) (bs : List Bool) (hl : bs.length ≤ 1000) : m__law_is_plain (n + 2) [.tup (bs.map D.bl)] = .ok (.d (.bl true), []) := by
  have lc : fLc (fSeq (fVar 0)) (gN 1) (fNotB (fTru (fCall false (m__law_is_plain (n + 1)) (aCons (fVar 1) (aNil))))) (fVar 1) [1] [.val (.tup (bs.map D.bl)), .no] = .ok (.new [], [.val (.tup (bs.map D.bl)), .no]) := by
    have := fLc_pure (fi := fSeq (fVar 0)) (c := fNotB (fTru (fCall false (m__law_is_plain (n + 1)) (aCons (fVar 1) (aNil))))) (f := fVar 1) (v := 1) (e0 := [.val (.tup (bs.map D.bl)), .no]) (env := [.val (.tup (bs.map D.bl)), .no]) (ds := bs.map D.bl) (s := .no) (fun _ => false) id (by simp -implicitDefEqProofs) (by simp; omega) rfl rfl (fun d hd => by
      obtain ⟨b, _, rfl⟩ := List.mem_map.mp hd
      simp -implicitDefEqProofs [plain_bl]) fun d hd h => by cases h
    rw [this, List.filter_eq_nil_iff.mpr (fun _ _ h => by cases h)]
    rfl
  have n0 := dEq_nil false []
  simp only [List.map_nil] at n0
  rw [plain_succ (n + 1)]
  simp -implicitDefEqProofs [b__law_is_plain, bIsi, tyOf, isiT, lc, n0]
def eight : List D := [.tup [.int 1, .int 1], .tup [.int 0, .int 0], .tup [.int 0, .int 1, .int 1], .tup [.int 0, .int 1, .int 0, .int 1], .tup [.bl false, .bl false], .tup [.lst [.int 0], .int 0], .tup [.dct, .int 0], .tup [.lst [], .lst []]]
theorem eight_good : ∀ x ∈ eight, Good x := fun x m => by
  simp only [eight, List.mem_cons, List.not_mem_nil, or_false] at m
  rcases m with rfl | rfl | rfl | rfl | rfl | rfl | rfl | rfl <;> exact good_tup (by simp) fun x m => by
    simp only [List.mem_cons, List.not_mem_nil, or_false] at m
    first | (rcases m with rfl | rfl <;> rfl) | (rcases m with rfl | rfl | rfl <;> rfl) | (rcases m with rfl | rfl | rfl | rfl <;> rfl)
theorem eight_told : eight.map ringD = [false, true, false, true, false, false, false, false] := by decide +kernel
theorem told_is : eight.map (fun d => D.bl (ringD d)) = [false, true, false, true, false, false, false, false].map D.bl := by
  rw [← eight_told, List.map_map]
  rfl
theorem turns_ok (s d1 : Sl) {u : List D} (hu : Urn u) (x : Sl) : ∃ u' y, Urn u' ∧ sFor (fRng1 (aCons (fC (.int 8)) (aNil))) (gN 3) (sIf (fNotB (fTru (fCall true m__law_right (aCons (fVar 2) (aNil))))) (sRet (fC (.bl false))) (sNil)) [s, d1, .own u, x, .no, .no] = .ok (.nx, [s, d1, .own u', y, .no, .no]) := by
  obtain ⟨e', h, u', y, h1, h2⟩ := forF_all (ga := gN 3) (s := sIf (fNotB (fTru (fCall true m__law_right (aCons (fVar 2) (aNil))))) (sRet (fC (.bl false))) (sNil)) (I := fun e => ∃ u y, Urn u ∧ e = [s, d1, .own u, y, .no, .no]) (ds := rng 0 8) (e := [s, d1, .own u, x, .no, .no]) ⟨u, x, hu, rfl⟩ (fun d hd e ⟨u, y, hu, he⟩ => by
    subst he
    obtain ⟨u', hu', er⟩ := right_ok hu
    exact ⟨[s, d1, .own u, .val d, .no, .no], [s, d1, .own u', .val d, .no, .no], by simp -implicitDefEqProofs, by simp -implicitDefEqProofs [er], u', .val d, hu', rfl⟩)
  refine ⟨u', y, h1, ?_⟩
  subst h2
  simp -implicitDefEqProofs [h]
theorem spots_ok (ns : List Int) {k : Int} (hk : 1 ≤ k ∧ k ≤ 4) : ∃ a b c, forF (gN 1) (sCons (sSet 2 (fCall false m__law_urn (aCons (fVar 0) (aCons (fVar 1) (aNil))))) (sFor (fRng1 (aCons (fC (.int 8)) (aNil))) (gN 3) (sIf (fNotB (fTru (fCall true m__law_right (aCons (fVar 2) (aNil))))) (sRet (fC (.bl false))) (sNil)))) (rng 0 k) [.val (.scr ns), .no, .no, .no, .no, .no] = .ok (.nx, [.val (.scr ns), a, b, c, .no, .no]) := by
  obtain ⟨e', h, a, b, c, h2⟩ := forF_all (ga := gN 1) (s := sCons (sSet 2 (fCall false m__law_urn (aCons (fVar 0) (aCons (fVar 1) (aNil))))) (sFor (fRng1 (aCons (fC (.int 8)) (aNil))) (gN 3) (sIf (fNotB (fTru (fCall true m__law_right (aCons (fVar 2) (aNil))))) (sRet (fC (.bl false))) (sNil)))) (I := fun e => ∃ a b c, e = [.val (.scr ns), a, b, c, .no, .no]) (ds := rng 0 k) (e := [.val (.scr ns), .no, .no, .no, .no, .no]) ⟨_, _, _, rfl⟩ (fun d hd e ⟨a, b, c, he⟩ => by
    subst he
    rw [rng_eq] at hd
    obtain ⟨i, hi, rfl⟩ := List.mem_map.mp hd
    obtain ⟨j, rfl⟩ : ∃ j : Nat, i = j := ⟨i.toNat, by have := rngI_mem hi; omega⟩
    obtain ⟨u, hu, eu⟩ := urn_ok ns j
    obtain ⟨u', y, _, et⟩ := turns_ok (.val (.scr ns)) (.val (.int j)) hu c
    refine ⟨[.val (.scr ns), .val (.int j), b, c, .no, .no], [.val (.scr ns), .val (.int j), .own u', y, .no, .no], by simp -implicitDefEqProofs, ?_, _, _, _, rfl⟩
    · have e1 : sSet 2 (fCall false m__law_urn (aCons (fVar 0) (aCons (fVar 1) (aNil)))) [.val (.scr ns), .val (.int j), b, c, .no, .no] = .ok (.nx, [.val (.scr ns), .val (.int j), .own u, c, .no, .no]) := by
        simp -implicitDefEqProofs [eu]
      rw [e_sCons, e1]
      exact et)
  subst h2
  exact ⟨a, b, c, h⟩
theorem told_ok (s a b c : Sl) : sSet 4 (fLc (fSeq (fTup (aCons (fTup (aCons (fC (.int 1)) (aCons (fC (.int 1)) (aNil)))) (aCons (fTup (aCons (fC (.int 0)) (aCons (fC (.int 0)) (aNil)))) (aCons (fTup (aCons (fC (.int 0)) (aCons (fC (.int 1)) (aCons (fC (.int 1)) (aNil))))) (aCons (fTup (aCons (fC (.int 0)) (aCons (fC (.int 1)) (aCons (fC (.int 0)) (aCons (fC (.int 1)) (aNil)))))) (aCons (fTup (aCons (fC (.bl false)) (aCons (fC (.bl false)) (aNil)))) (aCons (fTup (aCons (fLst (aCons (fC (.int 0)) (aNil))) (aCons (fC (.int 0)) (aNil)))) (aCons (fTup (aCons (fDct) (aCons (fC (.int 0)) (aNil)))) (aCons (fTup (aCons (fLst (aNil)) (aCons (fLst (aNil)) (aNil)))) (aNil))))))))))) (gN 5) (bYes) (fCall false m_is_ring (aCons (fVar 5) (aNil))) [5]) [s, a, b, c, .no, .no] = .ok (.nx, [s, a, b, c, .own ([false, true, false, true, false, false, false, false].map D.bl), .no]) := by
  have := fLc_pure (fi := fSeq (fTup (aCons (fTup (aCons (fC (.int 1)) (aCons (fC (.int 1)) (aNil)))) (aCons (fTup (aCons (fC (.int 0)) (aCons (fC (.int 0)) (aNil)))) (aCons (fTup (aCons (fC (.int 0)) (aCons (fC (.int 1)) (aCons (fC (.int 1)) (aNil))))) (aCons (fTup (aCons (fC (.int 0)) (aCons (fC (.int 1)) (aCons (fC (.int 0)) (aCons (fC (.int 1)) (aNil)))))) (aCons (fTup (aCons (fC (.bl false)) (aCons (fC (.bl false)) (aNil)))) (aCons (fTup (aCons (fLst (aCons (fC (.int 0)) (aNil))) (aCons (fC (.int 0)) (aNil)))) (aCons (fTup (aCons (fDct) (aCons (fC (.int 0)) (aNil)))) (aCons (fTup (aCons (fLst (aNil)) (aCons (fLst (aNil)) (aNil)))) (aNil))))))))))) (c := bYes) (f := fCall false m_is_ring (aCons (fVar 5) (aNil))) (v := 5) (e0 := [s, a, b, c, .no, .no]) (env := [s, a, b, c, .no, .no]) (ds := eight) (s := .no) (fun _ => true) (fun d => D.bl (ringD d)) (by simp -implicitDefEqProofs [eight]) (by decide) rfl rfl (fun d _ => rfl) fun d hd _ => ⟨.d (.bl (ringD d)), by simp -implicitDefEqProofs [is_ring_eq (eight_good d hd)], rfl⟩
  rw [List.filter_eq_self.mpr (fun _ _ => rfl), told_is] at this
  simp only [e_sSet]
  rw [this]
  rfl
theorem m_true (ns : List Int) (h : ns.length ≤ 63) : m_law [.scr ns] = .ok (.d (.bl true), []) := by
  obtain ⟨k, hk, k1⟩ : ∃ k : Int, (if (if (ns.length : Int) < 4 then (ns.length : Int) else 4) > 1 then (if (ns.length : Int) < 4 then (ns.length : Int) else 4) else 1) = k ∧ 1 ≤ k ∧ k ≤ 4 := ⟨_, rfl, by split <;> split <;> omega⟩
  obtain ⟨a, b, c, e1⟩ := spots_ok ns k1
  have e2 := told_ok (.val (.scr ns)) a b c
  have e3 := plain_tup 6 [false, true, false, true, false, false, false, false] (by decide)
  have h1 : (-4611686018427387904 : Int) ≤ k := by omega
  have h2 : k < 4611686018427387904 := by omega
  have e0 : fRng1 (aCons (fBi bMax (aCons (fC (.int 1)) (aCons (fBi bMin (aCons (fC (.int 4)) (aCons (fBi bLen (aCons (fVar 0) (aNil))) (aNil)))) (aNil)))) (aNil)) [.val (.scr ns), .no, .no, .no, .no, .no] = .ok (rng 0 k, [.val (.scr ns), .no, .no, .no, .no, .no]) := by
    have : (match (if (if (ns.length : Int) < 4 then (ns.length : Int) else 4) > 1 then (if (ns.length : Int) < 4 then (ns.length : Int) else 4) else 1) with | k => k) = k := hk
    simp only [e_rng1, e_aCons, e_bi, e_c, e_bok, e_aNil, e_var, List.getElem?_cons_zero, e_opd1, e_da1, e_da0, e_der1, e_ofs, e_bLen3, e_r1, e_bMin, e_bMax, hk]
    rw [if_pos ⟨h1, h2⟩]
  have q : dEq false (.lst ([false, true, false, true, false, false, false, false].map D.bl)) (.lst [.bl false, .bl true, .bl false, .bl true, .bl false, .bl false, .bl false, .bl false]) = .ok (.d (.bl true)) := by
    rfl
  simp -implicitDefEqProofs only [m_law, b_law, e_fn, e_stE0, List.map_cons, List.map_nil, List.length_cons, List.length_nil, e_ofs, e_bok, e_sCons]
  simp -implicitDefEqProofs only [show List.replicate (6 - (0 + 1)) Sl.no = [.no, .no, .no, .no, .no] from rfl, List.cons_append, List.nil_append, e_for, e0, e_bok, e1, e2]
  simp -implicitDefEqProofs only [List.map_cons, List.map_nil] at e3 q
  simp -implicitDefEqProofs [e3, q]
end G_k25
open PySem PySem.W PyProof.Rows
set_option maxHeartbeats 0 in
theorem PySem.Challenge.cw_tiedanew_k25_whole_judged_rings_holds : PySem.Challenge.rw_tiedanew_k25_whole_judged_rings.Holds := by
  w_on; o_law; k_head; (case hw => w_witness2)
  k_fill
  refine L2.walk_of (l := PySem.Challenge.rw_tiedanew_k25_whole_judged_rings) (n := 63) (k := 10) (x := "script") (CX := fun w => L2.CX (PySem.W.OpenLaw.prog PySem.Challenge.rw_tiedanew_k25_whole_judged_rings) w) (sp := fun w => TN.spF (G_k25.zz _) false 1 G_k25.m_law) rfl (by decide) rfl ⟨rfl, by decide, by decide⟩ (fun w h Y => PySem.W.kIn_of Y) ?F (fun _ H a ns hl _ hS => TN.law_ends (G_k25.m_true ns hl) hS) (fun _ _ _ _ _ h => TN.cx_no h)
  case F =>
    intro w mg fa h KX G hmg
    refine' G_k25.all_mk KX G hmg ?a_is_whole ?l_is_whole ?y_is_whole ?w_is_whole ?a_is_ring ?l_is_ring ?y_is_ring ?w_is_ring ?a__law_urn ?l__law_urn ?y__law_urn ?w__law_urn ?a__law_ball ?l__law_ball ?y__law_ball ?w__law_ball ?a__law_mixed ?l__law_mixed ?y__law_mixed ?w__law_mixed ?a__law_ring ?l__law_ring ?y__law_ring ?w__law_ring ?a__law_is_ring ?l__law_is_ring ?y__law_is_ring ?w__law_is_ring ?a__law_near ?l__law_near ?y__law_near ?w__law_near ?a__law_right ?l__law_right ?y__law_right ?w__law_right ?a__law_is_plain ?l__law_is_plain ?y__law_is_plain ?w__law_is_plain ?a_law ?l_law ?y_law ?w_law ?z_tuple ?z_isinstance ?z_range ?z_int ?z_len ?z_max ?z_list ?z_sorted ?z_str ?z_bool ?z_all ?z_abs ?z_min ?q_MOST_KNOTS
    (case a_is_whole => k_is); (case l_is_whole => k_is); (case y_is_whole => k_is); (case w_is_whole => k_is); (case a_is_ring => k_is); (case l_is_ring => k_is); (case y_is_ring => k_is); (case w_is_ring => k_is); (case a__law_urn => k_is); (case l__law_urn => k_is); (case y__law_urn => k_is); (case w__law_urn => k_is); (case a__law_ball => k_is); (case l__law_ball => k_is); (case y__law_ball => k_is); (case w__law_ball => k_is); (case a__law_mixed => k_is); (case l__law_mixed => k_is); (case y__law_mixed => k_is); (case w__law_mixed => k_is); (case a__law_ring => k_is); (case l__law_ring => k_is); (case y__law_ring => k_is); (case w__law_ring => k_is); (case a__law_is_ring => k_is); (case l__law_is_ring => k_is); (case y__law_is_ring => k_is); (case w__law_is_ring => k_is); (case a__law_near => k_is); (case l__law_near => k_is); (case y__law_near => k_is); (case w__law_near => k_is); (case a__law_right => k_is); (case l__law_right => k_is); (case y__law_right => k_is); (case w__law_right => k_is); (case a__law_is_plain => k_is); (case l__law_is_plain => k_is); (case y__law_is_plain => k_is); (case w__law_is_plain => k_is); (case a_law => k_is); (case l_law => k_is); (case y_law => k_is); (case w_law => k_is); (case z_tuple => k_is); (case z_isinstance => k_is); (case z_range => k_is); (case z_int => k_is); (case z_len => k_is); (case z_max => k_is); (case z_list => k_is); (case z_sorted => k_is); (case z_str => k_is); (case z_bool => k_is); (case z_all => k_is); (case z_abs => k_is); (case z_min => k_is); (case q_MOST_KNOTS => k_is)
