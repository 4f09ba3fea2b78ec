import PyProof.Rows.All
import Wide.All
import OpenK.AllK
import Wide.FinOn
import HandS.Base
import HandS.Call
import HandS.List
import HandS.ForMost
import HandS.TupAny
import HandS.TupMul
import HandS.Exc
import HandS.ExcOwn
import HandS.TryOnly
import HandS.WordsExc
import HandS.IsInst
import HandS.Conv
import HandS.Zip
import HandS.NoneIn
import KE.DataEq
import HandS.SortInts
import HandS.WideBits
import HandS.Style
import HandS.Strs
import PyProof.TupleOfSeq
import KE.KSortedM
import HandS.Property
import HandS.Codes
import HandS.SlotsOwn
import HandS.OwnEq
import PyProof.InstNe
import PyProof.SeqIndex
import HandS.SetFor
import HandS.Comp
import HandS.Iter
import KE.GoesMore
import PyProof.EnumMake
import HandS.More
import KE.SortData
import KE.DataMinMax
import PyProof.MaxThree
import PyProof.StrOps2
import PySem.Challenge.RW_tiedanew_k27_whole_marks_and_sums
set_option Elab.async false
set_option linter.all false
set_option maxRecDepth 100000
set_option maxHeartbeats 4000000
namespace TN
open PySem PySem.Spec PyProof.Rows L2
/-! ### tuples of which the whole object is known: no dict -/
/-- what is at p when a tuple has just been made -/
def tupH (o : Obj) (xs : List V) : HO := .frz o (.tup xs)
def TupX (K : PySem.W.Frag) (H : Hp) (a : Addr) (vs : List V) : Prop := (∃ o, H a = some (.frz o (.tup vs)) ∧ o.dict = none) ∨
  (∃ (o : Obj) (its : Array Value) (n : Nat), (K.lookup a = some o ∧ o.dict = none) ∧ o.cls = .type "tuple" ∧ o.data = .seq its n ∧ its.size ≤ sizeLine ∧ Vals vs its.toList)
theorem TupX.sq {K : PySem.W.Frag} {H : Hp} {a : Addr} {vs : List V} (h : TupX K H a vs) : SqT K H a vs := by
  rcases h with ⟨o, h, _⟩ | ⟨o, its, n, ⟨h1, _⟩, h2⟩
  · exact .inl (.inr ⟨o, h⟩)
  · exact .inr ⟨o, its, n, h1, h2⟩
theorem TupX.new {K : PySem.W.Frag} {H : Hp} {a : Addr} {vs : List V} {o : Obj} (d : o.dict = none) : TupX K (upd H a (.frz o (.tup vs))) a vs := .inl ⟨o, upd_same, d⟩
section
variable {X : Cx}
/-- a new tuple laid -/
theorem laidT {pins : List (Addr × Obj)} {σ : L2.St} {H : Hp} {s : Shared} {its : List Value} {xs : List V} (I : Inv X pins σ H s) (r : Vals xs its) (hz : xs.length ≤ sizeLine) {t' : Nat} :
    Inv X pins σ (upd H s.heap.objs.size (.frz { cls := .type "tuple", data := .seq its.toArray } (.tup xs))) { s with heap := s.heap.push { cls := .type "tuple", data := .seq its.toArray }, toks := t' } :=
  I.laid (t' := t') (o := .frz { cls := .type "tuple", data := .seq its.toArray } (.tup xs)) (fun b ob q => Heap.get?_push_of_some _ q) (Nat.le_refl _) ⟨Heap.get?_push_size _ rfl, hz, its, r, IsTup.new _ _⟩
def tTupX (t : TA) : TE := fun σ H Q => t σ H fun xs H1 => xs.length ≤ sizeLine ∧ ∀ p o, H1 p = none → o.dict = none → Q (.ref p) (upd H1 p (.frz o (.tup xs)))
theorem pe_tupX {es : List Expr} {t : TA} {pos : Pos} {x1} (h : PA X es t) : PE X (.Tuple es x1 pos) (tTupX t) := by
  refine ⟨fun pins s σ H Q I hq => ?_⟩
  refine wpAny_Tuple_spliced (thn (h.run pos pins s σ H _ I hq) fun us s1 ⟨vs, H1, I1, r, z, q⟩ => ⟨by rw [← r.length]; exact z, ?_⟩)
  exact ⟨.ref s1.heap.objs.size, _, laidT (t' := s1.toks) I1 r z, rfl, q _ _ (I1.hok.fresh (Nat.le_refl _)) rfl⟩
def rTupleX (K : PySem.W.Frag) : List V → Hp → VK → Prop := fun xs H Q => ∃ p ys, xs = [.ref p] ∧ ((SqL K H p ys ∧ ∀ l o, H l = none → o.dict = none → Q (.ref l) (upd H l (.frz o (.tup ys)))) ∨ (SqT K H p ys ∧ Q (.ref p) H))
theorem call_tupleX : CallR X (.type "tuple") (rTupleX X.K) := by
  intro pins s σ H vs us Q I r h
  obtain ⟨p, ys, rfl, h⟩ := h
  obtain ⟨u, rfl, rx⟩ := vals1 r
  cases rx
  rcases h with ⟨hq, q⟩ | ⟨hq, q⟩
  · obtain ⟨its, rv, pl, hz⟩ := I.list hq
    have hlen := rv.length
    refine call_tuple_list pl.isList (fun h' kp => ?_) (by simp only [List.size_toArray] <;> omega)
    have I1 : Inv X pins σ H { s with heap := h' } := I.kept (t' := s.toks) kp
    exact ⟨.ref h'.objs.size, _, laidT (t' := s.toks) I1 rv hz, rfl, q _ _ (I1.hok.fresh (Nat.le_refl _)) rfl⟩
  · obtain ⟨its, rv, pl, hz⟩ := I.tuple hq
    exact call_tuple_same pl ⟨.ref p, H, I, rfl, q⟩
def rSlX (K : PySem.W.Frag) : V → Option Int → Option Int → Hp → VK → Prop := fun x lo hi H Q => ∃ a xs, x = .ref a ∧ SqT K H a xs ∧
  (HT.sIx xs.length 0 lo = 0 ∧ HT.sIx xs.length xs.length hi = xs.length → Q (.ref a) H) ∧ (¬ (HT.sIx xs.length 0 lo = 0 ∧ HT.sIx xs.length xs.length hi = xs.length) → ∀ p o, H p = none → o.dict = none → Q (.ref p) (upd H p (.frz o (.tup (cutV xs lo hi)))))
theorem sl_tupX : SlR X (rSlX X.K) := by
  intro pins s σ H x v vl vu lo hi sl Q I rx hs pl pu h
  obtain ⟨a, xs, rfl, hx, q1, q2⟩ := h
  cases rx
  obtain ⟨its, r, ht, hz⟩ := I.tuple hx
  have hlen : its.toArray.size = xs.length := by rw [List.size_toArray]; exact r.length.symm
  refine ⟨"tuple", _, PyProof.Rows.slot_tuple_getitem.lookup, ht.typeIs, ?_⟩
  by_cases hw : HT.sIx xs.length 0 lo = 0 ∧ HT.sIx xs.length xs.length hi = xs.length
  · exact getItem_tuple_whole ht hs pl pu (by rw [hlen]; exact hw) ⟨.ref a, H, I, rfl, q1 hw⟩
  · refine HT.getItem_tuple_cut ht hs pl pu (by rw [hlen]; exact hw) ?_ (by rw [hlen]; exact hz)
    rw [hlen]
    exact ⟨.ref s.heap.objs.size, _, laidT (t' := s.toks) (xs := cutV xs lo hi) I ((r.drop (HT.sIx xs.length 0 lo)).take (HT.sIx xs.length xs.length hi - HT.sIx xs.length 0 lo)) (Nat.le_trans (cutV_length xs lo hi) hz), rfl, q2 hw _ _ (I.hok.fresh (Nat.le_refl _)) rfl⟩
def rCatX (K : PySem.W.Frag) : R2 := fun x y H Q => ∃ a b xs ys, x = .ref a ∧ y = .ref b ∧ SqT K H a xs ∧ SqT K H b ys ∧ xs.length + ys.length ≤ sizeLine ∧
  (xs = [] → Q (.ref b) H) ∧ (xs ≠ [] → ys = [] → Q (.ref a) H) ∧ (xs ≠ [] → ys ≠ [] → ∀ p o, H p = none → o.dict = none → Q (.ref p) (upd H p (.frz o (.tup (xs ++ ys)))))
theorem op_catX : OpR X (binaryOp .Add) (rCatX X.K) := by
  intro pins s σ H x y v u Q I rx ry h
  obtain ⟨a, b, xs, ys, rfl, rfl, ha, hb, hz, q0, q1, q2⟩ := h
  cases rx
  cases ry
  obtain ⟨as, r1, p1, _⟩ := I.tuple ha
  obtain ⟨bs, r2, p2, _⟩ := I.tuple hb
  by_cases hx : xs = []
  · subst hx
    cases r1
    exact cat_tup0 p1 p2 ⟨.ref b, H, I, rfl, q0 rfl⟩
  · refine HT.cat_tup p1 p2 (fun z => hx (r1.nil_iff.mp z)) (fun z => ⟨.ref a, H, I, rfl, q1 hx (r2.nil_iff.mp z)⟩) (fun z => ?_) (by rw [← r1.length, ← r2.length]; exact hz)
    exact ⟨.ref s.heap.objs.size, _, laidT (t' := s.toks) I (r1.append r2) (by rw [List.length_append]; exact hz), rfl, q2 hx (fun w => z (r2.nil_iff.mpr w)) _ _ (I.hok.fresh (Nat.le_refl _)) rfl⟩
def rRepX (K : PySem.W.Frag) : R2 := fun x y H Q => ∃ l k xs, x = .ref l ∧ y = .int k ∧ SqT K H l xs ∧ xs ≠ [] ∧ 2 ≤ k ∧ k ≤ 1000 ∧ xs.length ≤ 1000 ∧ ∀ p o, H p = none → o.dict = none → Q (.ref p) (upd H p (.frz o (.tup (List.replicate k.toNat xs).flatten)))
theorem op_repX : OpR X (binaryOp .Mult) (rRepX X.K) := by
  intro pins s σ H x y v u Q I rx ry h
  obtain ⟨l, k, xs, rfl, rfl, hT, hne, h1, h2, hz, q⟩ := h
  cases rx
  obtain ⟨t, rfl⟩ := ry
  obtain ⟨as, r, ⟨⟨cls, dd, data, sl⟩, ho, hc, n, hd⟩, hs⟩ := I.tuple hT
  simp only at hc hd
  subst hc hd
  have hle : as.length = xs.length := r.length.symm
  have hn : as ≠ [] := fun e => hne (List.eq_nil_of_length_eq_zero (by rw [← hle, e]; rfl))
  have hi : as.toArray.isEmpty = false := by
    cases as with
    | nil => exact absurd rfl hn
    | cons a b => rfl
  have hsz0 : as.toArray.size = xs.length := by rw [List.size_toArray, hle]
  have hm : ((as.toArray.size : Nat) : Int) * k ≤ 1000000 := by
    rw [hsz0]
    have e1 : ((xs.length : Nat) : Int) * k ≤ 1000 * k := Int.mul_le_mul_of_nonneg_right (by omega) (by omega)
    omega
  have small : k.toNat * xs.length ≤ 1000 * 1000 := Nat.mul_le_mul (by omega) hz
  have flen : (List.replicate k.toNat as).flatten.length ≤ sizeLine := by
    rw [PyProof.Rows.lm_len_rep_flat, hle, sizeLine_eq]
    omega
  refine wpAny_binaryOp_repeat_ref (T := "tuple") (U := "int") (by decide) ⟨_, ho, rfl⟩ (fun s' => typeIs_int s' k t) noFill_tuple_mul F.fills_int_mul F.slot_int_rmul repeat_tuple F.slot_int_index.lookup
    (call_meets F.slot_int_rmul (typeIs_int s k t) F.entry_int_rmul (F.args_int_rmul_2 _ _) (int_rmul_tuple k t l as.toArray n dd sl)
      ⟨ho, rfl, ⟨_, ho, rfl⟩, call_meets F.slot_tuple_mul ⟨_, ho, rfl⟩ F.entry_tuple_mul (F.args_tuple_mul_2 _ _) (tuple_mulW l as.toArray n dd sl k t
        (by rw [decide_eq_false (by omega), decide_eq_false (by omega)] <;> rfl)
        (by rw [hi, Bool.false_or]; exact beq_eq_false_iff_ne.mpr (by omega))
        (by rw [hi, Bool.or_false]; exact decide_eq_false (by omega)) (by omega)
        (by unfold Builtin.Tuple.tupleTooMany; rw [sizeLine_eq]; exact decide_eq_false (by omega))
        (by rw [size_rep, List.size_toArray]; exact flen)) ⟨ho, ?_⟩⟩)
  rw [size_rep]
  exact ⟨.ref s.heap.objs.size, _, laidT (t' := s.toks) I (r.rep k.toNat) (by rw [PyProof.Rows.lm_len_rep_flat, sizeLine_eq]; omega), rfl, q _ _ (I.hok.fresh (Nat.le_refl _)) rfl⟩
end
end TN
/-! TN: what the code of a pure def comes to, told over trees of data. -/
namespace TN
open PySem PySem.Spec PyProof.Rows L2

/-! ### data -/
inductive D where
  | non | bl (b : Bool) | int (i : Int) | str (x : Str)
  | tup (xs : List D) | wtup (xs : List D) | lst (xs : List D) | scr (xs : List Int) | dct
  | obj (c : Nat) (fs : List D) | ty (n : String) | cls (c : Nat)
  deriving Inhabited

/-- classes by number: the address, the names of the attributes -/
abbrev Cl := Nat → Addr × List Str

def Ex (H H' : Hp) : Prop := ∀ a o, H a = some o → H' a = some o
theorem Ex.refl (H : Hp) : Ex H H := fun _ _ h => h
theorem Ex.trans {H H1 H2 : Hp} (a : Ex H H1) (b : Ex H1 H2) : Ex H H2 := fun x o h => b x o (a x o h)
theorem Ex.new {H : Hp} {p : Addr} {o : HO} (h : H p = none) : Ex H (upd H p o) := fun a u e => by
  rw [upd_ne (ne_of_none e h)]
  exact e
theorem Ex.newR {H H' : Hp} {p : Addr} {o : HO} (e : Ex H H') (h : H p = none) : Ex H (upd H' p o) := fun a u ha => by
  rw [upd_ne (ne_of_none ha h)]
  exact e a u ha
theorem Ex.both {G H : Hp} {p : Addr} {o : HO} (e : Ex G H) : Ex (upd G p o) (upd H p o) := fun a u ha => by
  by_cases q : a = p
  · subst q; rw [upd_same] at ha ⊢; exact ha
  · rw [upd_ne q] at ha ⊢; exact e a u ha
theorem Ex.put {G H : Hp} {p : Addr} {o : HO} (e : Ex G H) (h : H p = some o) : Ex (upd G p o) H := fun a u ha => by
  by_cases q : a = p
  · subst q; rw [upd_same] at ha; rw [h]; exact ha
  · rw [upd_ne q] at ha; exact e a u ha
theorem Ex.nn {G H : Hp} {p : Addr} (e : Ex G H) (h : H p = none) : G p = none := by
  cases q : G p with
  | none => rfl
  | some o => rw [e p o q] at h; cases h
theorem ex_t {K : PySem.W.Frag} {H H' : Hp} {a : Addr} {xs : List V} (e : Ex H H') (h : SqT K H a xs) : SqT K H' a xs := by
  rcases h with (h | ⟨o, h⟩) | h
  · exact .inl (.inl (e a _ h))
  · exact .inl (.inr ⟨o, e a _ h⟩)
  · exact .inr h
theorem ex_x {K : PySem.W.Frag} {H H' : Hp} {a : Addr} {xs : List V} (e : Ex H H') (h : TupX K H a xs) : TupX K H' a xs := by
  rcases h with ⟨o, h, d⟩ | h
  · exact .inl ⟨o, e a _ h, d⟩
  · exact .inr h
theorem ex_l {K : PySem.W.Frag} {H H' : Hp} {a : Addr} {xs : List V} (e : Ex H H') (h : SqL K H a xs) : SqL K H' a xs := by
  rcases h with (h | ⟨o, h⟩) | h
  · exact .inl (.inl (e a _ h))
  · exact .inl (.inr ⟨o, e a _ h⟩)
  · exact .inr h

mutual
inductive Is (K : PySem.W.Frag) (cl : Cl) (G : Hp) : V → D → Prop
  | non : Is K cl G .non .non
  | bl (b : Bool) : Is K cl G (.bl b) (.bl b)
  | int (i : Int) : Is K cl G (.int i) (.int i)
  | str (x : Str) : Is K cl G (.str x) (.str x)
  | tup {a : Addr} {vs : List V} {ds : List D} : TupX K G a vs → IsA K cl G vs ds → Is K cl G (.ref a) (.tup ds)
  | wtup {a : Addr} {vs : List V} {ds : List D} : SqT K G a vs → IsA K cl G vs ds → Is K cl G (.ref a) (.wtup ds)
  | lst {a : Addr} {vs : List V} {ds : List D} : G a = some (.lst vs) → IsA K cl G vs ds → Is K cl G (.ref a) (.lst ds)
  | scr {a : Addr} {ns : List Int} : SqL K G a (ns.map V.int) → Is K cl G (.ref a) (.scr ns)
  | dct {a : Addr} : G a = some (.dK []) → Is K cl G (.ref a) .dct
  | ty (n : String) : Is K cl G (.ty n) (.ty n)
  | cls (c : Nat) : Is K cl G (.ref (cl c).1) (.cls c)
  | obj {a dx : Addr} {c : Nat} {fs : List (Str × V)} {vs : List V} {ds : List D} : G a = some (.ins (cl c).1 dx fs) → fs.map (·.1) = (cl c).2 → fs.map (·.2) = vs → IsA K cl G vs ds → Is K cl G (.ref a) (.obj c ds)
inductive IsA (K : PySem.W.Frag) (cl : Cl) (G : Hp) : List V → List D → Prop
  | nil : IsA K cl G [] []
  | cons {v : V} {vs : List V} {d : D} {ds : List D} : Is K cl G v d → IsA K cl G vs ds → IsA K cl G (v :: vs) (d :: ds)
end
section
variable {K : PySem.W.Frag} {cl : Cl} {G G' : Hp}
mutual
theorem Is.mono (e : Ex G G') : ∀ {v : V} {d : D}, Is K cl G v d → Is K cl G' v d
  | _, _, .non => .non
  | _, _, .bl b => .bl b
  | _, _, .int i => .int i
  | _, _, .str x => .str x
  | _, _, .tup h a => .tup (ex_x e h) (IsA.mono e a)
  | _, _, .wtup h a => .wtup (ex_t e h) (IsA.mono e a)
  | _, _, .lst h a => .lst (e _ _ h) (IsA.mono e a)
  | _, _, .scr h => .scr (ex_l e h)
  | _, _, .dct h => .dct (e _ _ h)
  | _, _, .ty n => .ty n
  | _, _, .cls c => .cls c
  | _, _, .obj h n m a => .obj (e _ _ h) n m (IsA.mono e a)
theorem IsA.mono (e : Ex G G') : ∀ {vs : List V} {ds : List D}, IsA K cl G vs ds → IsA K cl G' vs ds
  | _, _, .nil => .nil
  | _, _, .cons h t => .cons (Is.mono e h) (IsA.mono e t)
end
theorem IsA.length : ∀ {vs : List V} {ds : List D}, IsA K cl G vs ds → vs.length = ds.length
  | _, _, .nil => rfl
  | _, _, .cons _ t => congrArg (· + 1) t.length
theorem IsA.get : ∀ {vs : List V} {ds : List D} {i : Nat} {d : D}, IsA K cl G vs ds → ds[i]? = some d → ∃ v, vs[i]? = some v ∧ Is K cl G v d
  | _, _, _, _, .nil, e => by simp at e
  | _, _, 0, _, .cons h _, e => by simp at e; subst e; exact ⟨_, rfl, h⟩
  | _, _, i + 1, _, .cons _ t, e => by
    obtain ⟨v, h1, h2⟩ := IsA.get (i := i) t (by simpa using e)
    exact ⟨v, by simpa using h1, h2⟩
theorem IsA.get' : ∀ {vs : List V} {ds : List D} {i : Nat} {v : V}, IsA K cl G vs ds → vs[i]? = some v → ∃ d, ds[i]? = some d ∧ Is K cl G v d
  | _, _, _, _, .nil, e => by simp at e
  | _, _, 0, _, .cons h _, e => by simp at e; subst e; exact ⟨_, rfl, h⟩
  | _, _, i + 1, _, .cons _ t, e => by
    obtain ⟨v, h1, h2⟩ := IsA.get' (i := i) t (by simpa using e)
    exact ⟨v, by simpa using h1, h2⟩
theorem IsA.append : ∀ {vs ws : List V} {ds es : List D}, IsA K cl G vs ds → IsA K cl G ws es → IsA K cl G (vs ++ ws) (ds ++ es)
  | _, _, _, _, .nil, h => h
  | _, _, _, _, .cons h t, k => .cons h (IsA.append t k)
theorem IsA.take : ∀ {vs : List V} {ds : List D} (n : Nat), IsA K cl G vs ds → IsA K cl G (vs.take n) (ds.take n)
  | _, _, 0, _ => .nil
  | _, _, _ + 1, .nil => .nil
  | _, _, n + 1, .cons h t => .cons h (IsA.take n t)
theorem IsA.drop : ∀ {vs : List V} {ds : List D} (n : Nat), IsA K cl G vs ds → IsA K cl G (vs.drop n) (ds.drop n)
  | _, _, 0, h => h
  | _, _, _ + 1, .nil => .nil
  | _, _, n + 1, .cons _ t => IsA.drop n t
theorem IsA.reverse {vs : List V} {ds : List D} (h : IsA K cl G vs ds) : IsA K cl G vs.reverse ds.reverse := by
  induction vs generalizing ds with
  | nil => cases h; exact .nil
  | cons v vs ih =>
    cases h with
    | cons a b => rw [List.reverse_cons, List.reverse_cons]; exact (ih b).append (.cons a .nil)
theorem IsA.set {v : V} {d : D} (h : Is K cl G v d) : ∀ {vs : List V} {ds : List D} (i : Nat), IsA K cl G vs ds → IsA K cl G (vs.set i v) (ds.set i d)
  | _, _, _, .nil => .nil
  | _, _, 0, .cons _ t => .cons h t
  | _, _, i + 1, .cons a t => .cons a (IsA.set h i t)
theorem IsA.eraseIdx : ∀ {vs : List V} {ds : List D} (i : Nat), IsA K cl G vs ds → IsA K cl G (vs.eraseIdx i) (ds.eraseIdx i)
  | _, _, _, .nil => .nil
  | _, _, 0, .cons _ t => t
  | _, _, i + 1, .cons h t => .cons h (IsA.eraseIdx i t)
theorem IsA.rep {vs : List V} {ds : List D} (h : IsA K cl G vs ds) : ∀ k : Nat, IsA K cl G (List.replicate k vs).flatten (List.replicate k ds).flatten
  | 0 => .nil
  | k + 1 => by rw [List.replicate_succ, List.replicate_succ, List.flatten_cons, List.flatten_cons]; exact h.append (h.rep k)
theorem IsA.ints : ∀ {vs : List V} {ns : List Int}, IsA K cl G vs (ns.map D.int) → vs = ns.map V.int
  | _, [], .nil => rfl
  | _, n :: ns, .cons h t => by
    cases h
    rw [IsA.ints t]; rfl
theorem IsA.ofInts : ∀ (ns : List Int), IsA K cl G (ns.map V.int) (ns.map D.int)
  | [] => .nil
  | n :: ns => .cons (.int n) (IsA.ofInts ns)
theorem IsA.bls : ∀ {vs : List V} {bs : List Bool}, IsA K cl G vs (bs.map D.bl) → vs = bs.map V.bl
  | _, [], .nil => rfl
  | _, n :: ns, .cons h t => by
    cases h
    rw [IsA.bls t]; rfl
end

/-! ### a def that runs -/
structure Z where
  K : PySem.W.Frag
  cl : Cl
  /-- exceptions by number: the class -/
  xc : Nat → Value
  /-- the name of the attribute that an exception of this number keeps -/
  xn : Nat → Option Str
  G0 : Hp
  H0 : Hp
  M : Option Addr

inductive Sl where
  | no | val (d : D) | own (xs : List D) | par (xs : List D)
def Sl.ow : Sl → Bool
  | .own _ => true
  | .par _ => true
  | _ => false
abbrev Ev := List Sl

/-- what stays true of the heap, whatever the names hold -/
structure Fr (z : Z) (G H : Hp) : Prop where
  exG : Ex G H
  g0 : Ex z.G0 G
  gn : ∀ a, G a ≠ none → z.G0 a ≠ none ∨ z.H0 a = none
  fr : ∀ a o, z.H0 a = some o → z.M ≠ some a → H a = some o
  mm : ∀ a, z.M = some a → (∃ vs, H a = some (.lst vs)) ∧ G a = none
  m0 : ∀ a, z.M = some a → z.H0 a ≠ none

def SlOk (z : Z) (T G H : Hp) (o : Option V) : Sl → Prop
  | .no => True
  | .val d => ∃ v, o = some v ∧ Is z.K z.cl G v d
  | .own xs => ∃ p vs, o = some (.ref p) ∧ G p = none ∧ T p = none ∧ z.H0 p = none ∧ H p = some (.lst vs) ∧ IsA z.K z.cl G vs xs
  | .par xs => ∃ p vs, o = some (.ref p) ∧ T p = none ∧ z.M = some p ∧ H p = some (.lst vs) ∧ IsA z.K z.cl G vs xs

def Ow (env : Ev) (σ : L2.St) (i : Nat) (p : Addr) : Prop := (∃ s, env[i]? = some s ∧ s.ow = true) ∧ σ[i]?.join = some (.ref p)

structure Rep (z : Z) (T G H : Hp) (env : Ev) (σ : L2.St) : Prop where
  f : Fr z G H
  len : env.length = σ.length
  sl : ∀ (i : Nat) (s : Sl), env[i]? = some s → SlOk z T G H (σ[i]?.join) s
  dis : ∀ i j p, Ow env σ i p → Ow env σ j p → i = j
  exT : Ex T H
  gt : ∀ a, T a ≠ none → G a = none
  t0 : ∀ a, T a ≠ none → z.H0 a = none

section
variable {z : Z} {T G G' H H' : Hp} {env env' : Ev} {σ : L2.St} {p : Addr} {o : HO}
theorem Fr.nn (f : Fr z G H) (h : H p = none) : G p = none ∧ z.H0 p = none ∧ z.M ≠ some p := by
  have hm : z.M ≠ some p := fun e => by obtain ⟨⟨vs, q⟩, _⟩ := f.mm p e; rw [h] at q; cases q
  refine ⟨f.exG.nn h, ?_, hm⟩
  cases q : z.H0 p with
  | none => rfl
  | some o => rw [f.fr p o q hm] at h; cases h
theorem Rep.nn (r : Rep z T G H env σ) (h : H p = none) : G p = none ∧ T p = none ∧ z.H0 p = none ∧ z.M ≠ some p ∧ ∀ i, ¬ Ow env σ i p := by
  obtain ⟨h1, h2, h3⟩ := r.f.nn h
  refine ⟨h1, r.exT.nn h, h2, h3, fun i ⟨⟨s, es, os⟩, ep⟩ => ?_⟩
  have q := r.sl i s es
  rw [ep] at q
  cases s with
  | no => cases os
  | val d => cases os
  | own xs => obtain ⟨p', vs, e, _, _, _, q', _⟩ := q; cases e; rw [h] at q'; cases q'
  | par xs => obtain ⟨p', vs, e, _, _, q', _⟩ := q; cases e; rw [h] at q'; cases q'
/-- an own list: its address, its items -/
theorem Rep.own (r : Rep z T G H env σ) {i : Nat} (hi : Ow env σ i p) : ∃ vs, G p = none ∧ T p = none ∧ H p = some (.lst vs) := by
  obtain ⟨⟨s, es, os⟩, ep⟩ := hi
  have q := r.sl i s es
  rw [ep] at q
  cases s with
  | no => cases os
  | val d => cases os
  | own xs => obtain ⟨p', vs, e, g, t, _, q', _⟩ := q; cases e; exact ⟨vs, g, t, q'⟩
  | par xs => obtain ⟨p', vs, e, t, m, q', _⟩ := q; cases e; exact ⟨vs, (r.f.mm p m).2, t, q'⟩
theorem SlOk.to {o : Option V} {s : Sl} (k : SlOk z T G H o s) (e : Ex G G') (ow : ∀ q, s.ow = true → o = some (.ref q) → H' q = H q ∧ (z.M ≠ some q → G' q = Option.none)) (hm : ∀ a, z.M = some a → z.H0 a ≠ Option.none) : SlOk z T G' H' o s := by
  cases s with
  | no => trivial
  | val d => obtain ⟨v, e1, h⟩ := k; exact ⟨v, e1, h.mono e⟩
  | own xs =>
    obtain ⟨q, vs, e1, g, t, h0, h, a⟩ := k
    obtain ⟨w1, w2⟩ := ow q rfl e1
    exact ⟨q, vs, e1, w2 (fun m => hm q m h0), t, h0, w1.trans h, a.mono e⟩
  | par xs =>
    obtain ⟨q, vs, e1, t, m, h, a⟩ := k
    obtain ⟨w1, w2⟩ := ow q rfl e1
    exact ⟨q, vs, e1, t, m, w1.trans h, a.mono e⟩
end

/-! ### results -/
inductive R where
  | d (d : D) | at_ (i : Nat) | new (xs : List D)
inductive Out (α : Type) where
  | ok (a : α) | exc (c : Nat) (d : D) | no
def Out.bind {α β : Type} (x : Out α) (k : α → Out β) : Out β := match x with
  | .ok a => k a
  | .exc c d => .exc c d
  | .no => .no
instance : Monad Out where
  pure := .ok
  bind := Out.bind
abbrev F := Ev → Out (R × Ev)
def VR (z : Z) (T G H : Hp) (env : Ev) (σ : L2.St) (v : V) : R → Prop
  | .d d => Is z.K z.cl G v d
  | .at_ i => σ[i]?.join = some v
  | .new xs => ∃ p vs, v = .ref p ∧ H p = some (.lst vs) ∧ IsA z.K z.cl G vs xs ∧ G p = none ∧ T p = none ∧ z.H0 p = none ∧ z.M ≠ some p ∧ ∀ i, ¬ Ow env σ i p
/-- an exception that leaves -/
def XP (z : Z) (c : Nat) (d : D) (H' : Hp) (x : Option Addr) : Prop := ∃ G', Fr z G' H' ∧ match z.xn c with
  | none => x = none
  | some n => ∃ dd v, x = some dd ∧ H' dd = some (.xd [(n, v)]) ∧ Is z.K z.cl G' v d
def PX (z : Z) (E : XK) (c : Nat) (d : D) : Prop := ∀ H' x, XP z c d H' x → E (z.xc c) x H'
/-- what is asked of an outcome -/
def Pg {α : Type} (z : Z) (E : XK) (C : α → Prop) : Out α → Prop
  | .ok a => C a
  | .exc c d => PX z E c d
  | .no => False
theorem Pg.bind {α β : Type} {z : Z} {E : XK} {C : β → Prop} {k : α → Out β} : ∀ {x : Out α}, Pg z E C (x.bind k) → Pg z E (fun a => Pg z E C (k a)) x
  | .ok _, h => h
  | .exc _ _, h => h
  | .no, h => h
theorem Pg.imp {α : Type} {z : Z} {E : XK} {C C' : α → Prop} : ∀ {x : Out α}, Pg z E C x → (∀ a, C a → C' a) → Pg z E C' x
  | .ok _, h, f => f _ h
  | .exc _ _, h, _ => h
  | .no, h, _ => h
abbrev CR (z : Z) (T : Hp) (σ : L2.St) (G : Hp) (Q : VK) : R × Ev → Prop := fun p => ∀ v H' G', Rep z T G' H' p.2 σ → Ex G G' → VR z T G' H' p.2 σ v p.1 → Q v H'
def Po (z : Z) (E : XK) (T : Hp) (σ : L2.St) (G : Hp) (Q : VK) : Out (R × Ev) → Prop := Pg z E (CR z T σ G Q)
def tE (z : Z) (E : XK) (f : F) : TE := fun σ H Q => ∃ T G env, Rep z T G H env σ ∧ Pg z E (CR z T σ G Q) (f env)
abbrev CB (z : Z) (T : Hp) (σ : L2.St) (G : Hp) (Q : Bool → Hp → Prop) : Bool × Ev → Prop := fun p => ∀ H' G', Rep z T G' H' p.2 σ → Ex G G' → Q p.1 H'
abbrev FB := Ev → Out (Bool × Ev)
def tT (z : Z) (E : XK) (f : FB) : TT := fun σ H Q => ∃ T G env, Rep z T G H env σ ∧ Pg z E (CB z T σ G Q) (f env)
def VRs (z : Z) (T G H : Hp) (env : Ev) (σ : L2.St) : List V → List R → Prop
  | [], [] => True
  | v :: vs, r :: rs => (VR z T G H env σ v r ∧ ∀ xs, r ≠ .new xs) ∧ VRs z T G H env σ vs rs
  | _, _ => False
abbrev CA (z : Z) (T : Hp) (σ : L2.St) (G : Hp) (Q : List V → Hp → Prop) : List R × Ev → Prop := fun p => ∀ vs H' G', Rep z T G' H' p.2 σ → Ex G G' → VRs z T G' H' p.2 σ vs p.1 → Q vs H'
abbrev FA := Ev → Out (List R × Ev)
def tAr (z : Z) (E : XK) (f : FA) : TA := fun σ H Q => ∃ T G env, Rep z T G H env σ ∧ Pg z E (CA z T σ G Q) (f env)
inductive Fl where
  | nx | ret (r : R)
def CS (z : Z) (T : Hp) (G : Hp) (D : Ends) : Fl × Ev → Prop := fun p => match p.1 with
  | .nx => ∀ σ' H' G', Rep z T G' H' p.2 σ' → Ex G G' → D.nx σ' H'
  | .ret r => ∀ v σ' H' G', Rep z T G' H' p.2 σ' → Ex G G' → VR z T G' H' p.2 σ' v r → D.rt v H'
abbrev S := Ev → Out (Fl × Ev)
def tS (z : Z) (E : XK) (g : S) : TS := fun D σ H => ∃ T G env, Rep z T G H env σ ∧ Pg z E (CS z T G D) (g env)

section
variable {z : Z} {T G G' H H' : Hp} {env env' : Ev} {σ : L2.St} {p : Addr} {o : HO} {v : V} {r : R}
theorem getElem?_lt {α : Type} {l : List α} {i : Nat} {x : α} (h : l[i]? = some x) : i < l.length := (List.getElem?_eq_some_iff.mp h).1
/-- a new step: the names as they were -/
theorem Rep.to (r : Rep z T G H env σ) (f : Fr z G' H') (e : Ex G G') (hT : Ex T H') (hg : ∀ a, T a ≠ none → G' a = none)
    (ow : ∀ i q, Ow env σ i q → H' q = H q ∧ (z.M ≠ some q → G' q = none)) : Rep z T G' H' env σ :=
  ⟨f, r.len, fun i s es => (r.sl i s es).to e (fun q os eq => ow i q ⟨⟨s, es, os⟩, eq⟩) f.m0, r.dis, hT, hg, r.t0⟩
theorem Fr.grow (f : Fr z G H) (h : H p = none) : Fr z (upd G p o) (upd H p o) := by
  obtain ⟨n1, n2, n3⟩ := f.nn h
  refine ⟨f.exG.both, f.g0.newR (by cases q : z.G0 p with | none => rfl | some u => rw [f.g0 p u q] at n1; cases n1), fun a ha => ?_, fun a u ha hm => ?_, fun a ha => ?_, f.m0⟩
  · by_cases q : a = p
    · subst q; exact .inr n2
    · rw [upd_ne q] at ha; exact f.gn a ha
  · rw [upd_ne (fun q => by subst q; rw [n2] at ha; cases ha)]; exact f.fr a u ha hm
  · have q : a ≠ p := fun q => n3 (q ▸ ha)
    rw [upd_ne q, upd_ne q]; exact f.mm a ha
theorem Fr.alloc (f : Fr z G H) (h : H p = none) : Fr z G (upd H p o) := by
  obtain ⟨n1, n2, n3⟩ := f.nn h
  refine ⟨f.exG.newR n1, f.g0, f.gn, fun a u ha hm => ?_, fun a ha => ?_, f.m0⟩
  · rw [upd_ne (fun q => by subst q; rw [n2] at ha; cases ha)]; exact f.fr a u ha hm
  · have q : a ≠ p := fun q => n3 (q ▸ ha)
    rw [upd_ne q]; exact f.mm a ha
theorem Fr.freeze (f : Fr z G H) (h : H p = some o) (g : G p = none) (h0 : z.H0 p = none) (hm : z.M ≠ some p) : Fr z (upd G p o) H := by
  refine ⟨f.exG.put h, f.g0.newR (by cases q : z.G0 p with | none => rfl | some u => rw [f.g0 p u q] at g; cases g), fun a ha => ?_, f.fr, fun a ha => ?_, f.m0⟩
  · by_cases q : a = p
    · subst q; exact .inr h0
    · rw [upd_ne q] at ha; exact f.gn a ha
  · have q : a ≠ p := fun q => hm (q ▸ ha)
    rw [upd_ne q]; exact f.mm a ha
/-- a new object that stays as it is -/
theorem Rep.grow (r : Rep z T G H env σ) (h : H p = none) : Rep z T (upd G p o) (upd H p o) env σ := by
  obtain ⟨n1, n2, n3, n4, n5⟩ := r.nn h
  refine r.to (r.f.grow h) (Ex.new n1) (r.exT.newR n2) (fun a ha => ?_) fun i q hq => ?_
  · rw [upd_ne (fun e => ha (by rw [e]; exact n2))]; exact r.gt a ha
  · have qp : q ≠ p := fun e => n5 i (e ▸ hq)
    rw [upd_ne qp, upd_ne qp]
    obtain ⟨vs, g, _⟩ := r.own hq
    exact ⟨rfl, fun _ => g⟩
/-- a new object -/
theorem Rep.alloc (r : Rep z T G H env σ) (h : H p = none) : Rep z T G (upd H p o) env σ := by
  obtain ⟨n1, n2, n3, n4, n5⟩ := r.nn h
  refine r.to (r.f.alloc h) (Ex.refl G) (r.exT.newR n2) r.gt fun i q hq => ?_
  have qp : q ≠ p := fun e => n5 i (e ▸ hq)
  rw [upd_ne qp]
  obtain ⟨vs, g, _⟩ := r.own hq
  exact ⟨rfl, fun _ => g⟩
/-- an object of nobody's stays as it is from here on -/
theorem Rep.freeze (r : Rep z T G H env σ) (h : H p = some o) (g : G p = none) (t : T p = none) (h0 : z.H0 p = none) (hm : z.M ≠ some p) (no : ∀ i, ¬ Ow env σ i p) : Rep z T (upd G p o) H env σ := by
  refine r.to (r.f.freeze h g h0 hm) (Ex.new g) r.exT (fun a ha => ?_) fun i q hq => ?_
  · rw [upd_ne (fun e => ha (by rw [e]; exact t))]; exact r.gt a ha
  · have qp : q ≠ p := fun e => no i (e ▸ hq)
    rw [upd_ne qp]
    obtain ⟨vs, g, _⟩ := r.own hq
    exact ⟨rfl, fun _ => g⟩
theorem Ow.of_set {i j : Nat} {s : Sl} (h : Ow (env.set i s) σ j p) (hs : s.ow = true → ∃ s', env[i]? = some s' ∧ s'.ow = true) : Ow env σ j p := by
  obtain ⟨⟨s1, e1, o1⟩, e2⟩ := h
  by_cases q : i = j
  · subst q
    by_cases hi : i < env.length
    · rw [List.getElem?_set_self hi] at e1
      cases e1
      exact ⟨hs o1, e2⟩
    · rw [List.getElem?_eq_none (by rw [List.length_set]; omega)] at e1; cases e1
  · rw [List.getElem?_set_ne q] at e1
    exact ⟨⟨s1, e1, o1⟩, e2⟩
/-- the list of a name is written -/
theorem Rep.mut (r : Rep z T G H env σ) {i : Nat} {s : Sl} {vs : List V} {xs : List D} (hi : Ow env σ i p) (hs : s = .own xs ∧ (∃ ys, env[i]? = some (.own ys)) ∨ s = .par xs ∧ ∃ ys, env[i]? = some (.par ys)) (a : IsA z.K z.cl G vs xs) :
    Rep z T G (upd H p (.lst vs)) (env.set i s) σ := by
  obtain ⟨ws, g, t, hp⟩ := r.own hi
  have nm : z.H0 p = none ∨ z.M = some p := by
    obtain ⟨⟨s1, e1, o1⟩, e2⟩ := hi
    have q := r.sl i s1 e1
    rw [e2] at q
    cases s1 with
    | no => cases o1
    | val d => cases o1
    | own xs => obtain ⟨p', vs, e, _, _, h0, _⟩ := q; cases e; exact .inl h0
    | par xs => obtain ⟨p', vs, e, _, m, _⟩ := q; cases e; exact .inr m
  have sow : s.ow = true := by rcases hs with ⟨e, _⟩ | ⟨e, _⟩ <;> (subst e; rfl)
  have hso : s.ow = true → ∃ s', env[i]? = some s' ∧ s'.ow = true := fun _ => hi.1
  refine ⟨⟨r.f.exG.newR g, r.f.g0, r.f.gn, fun a u ha hm => ?_, fun a ha => ?_, r.f.m0⟩, by rw [List.length_set]; exact r.len, fun j s1 e1 => ?_, fun j k q h1 h2 => r.dis j k q (h1.of_set hso) (h2.of_set hso), r.exT.newR t, r.gt, r.t0⟩
  · rw [upd_ne (fun q => by
      subst q
      rcases nm with h0 | m
      · rw [h0] at ha; cases ha
      · exact hm m)]
    exact r.f.fr a u ha hm
  · by_cases q : a = p
    · subst q; rw [upd_same]; exact ⟨⟨vs, rfl⟩, g⟩
    · rw [upd_ne q]; exact r.f.mm a ha
  · by_cases q : i = j
    · subst q
      rw [List.getElem?_set_self (by obtain ⟨⟨s1, e1, _⟩, _⟩ := hi; exact getElem?_lt e1)] at e1
      cases e1
      have e2 := hi.2
      rcases hs with ⟨rfl, ys, ey⟩ | ⟨rfl, ys, ey⟩
      · have q := r.sl i _ ey
        rw [e2] at q ⊢
        obtain ⟨p', vs', e, g', t', h0, h1, _⟩ := q
        cases e
        exact ⟨p, vs, rfl, g, t, h0, upd_same, a⟩
      · have q := r.sl i _ ey
        rw [e2] at q ⊢
        obtain ⟨p', vs', e, t', m, h1, _⟩ := q
        cases e
        exact ⟨p, vs, rfl, t, m, upd_same, a⟩
    · rw [List.getElem?_set_ne q] at e1
      refine (r.sl j s1 e1).to (Ex.refl G) (fun q' os eq => ?_) r.f.m0
      have ne : q' ≠ p := fun e => q (r.dis i j p hi ⟨⟨s1, e1, os⟩, e ▸ eq⟩)
      obtain ⟨_, g', _⟩ := r.own (i := j) (p := q') ⟨⟨s1, e1, os⟩, eq⟩
      rw [upd_ne ne]
      exact ⟨rfl, fun _ => g'⟩
/-- an own list stays as it is from here on -/
theorem Rep.still (r : Rep z T G H env σ) {i : Nat} {xs : List D} (hi : env[i]? = some (.own xs)) : ∃ p vs, σ[i]?.join = some (.ref p) ∧ H p = some (.lst vs) ∧ IsA z.K z.cl G vs xs ∧ G p = none ∧ Rep z T (upd G p (.lst vs)) H (env.set i (.val (.lst xs))) σ := by
  have q := r.sl i _ hi
  obtain ⟨p, vs, e, g, t, h0, h, a⟩ := q
  have how : Ow env σ i p := ⟨⟨_, hi, rfl⟩, e⟩
  have hm : z.M ≠ some p := fun m => r.f.m0 p m h0
  have hso : Sl.ow (.val (.lst xs)) = true → ∃ s', env[i]? = some s' ∧ s'.ow = true := fun z => by cases z
  refine ⟨p, vs, e, h, a, g, r.f.freeze h g h0 hm, by rw [List.length_set]; exact r.len, fun j s1 e1 => ?_, fun j k q h1 h2 => r.dis j k q (h1.of_set hso) (h2.of_set hso), r.exT, fun b hb => ?_, r.t0⟩
  · by_cases q : i = j
    · subst q
      rw [List.getElem?_set_self (getElem?_lt hi)] at e1
      cases e1
      exact ⟨.ref p, e, .lst upd_same (a.mono (Ex.new g))⟩
    · rw [List.getElem?_set_ne q] at e1
      refine (r.sl j s1 e1).to (Ex.new g) (fun q' os eq => ?_) r.f.m0
      have ne : q' ≠ p := fun e' => q (r.dis i j p how ⟨⟨s1, e1, os⟩, e' ▸ eq⟩)
      obtain ⟨_, g', _⟩ := r.own (i := j) (p := q') ⟨⟨s1, e1, os⟩, eq⟩
      rw [upd_ne ne]
      exact ⟨rfl, fun _ => g'⟩
  · rw [upd_ne (fun e' => hb (by rw [e']; exact t))]; exact r.gt b hb
/-- a name is stored -/
theorem Rep.set (r : Rep z T G H env σ) {i : Nat} {s : Sl} (hs : SlOk z T G H (some v) s) (hd : ∀ q, s.ow = true → v = .ref q → ∀ j, ¬ Ow env σ j q) (hi : i < env.length) : Rep z T G H (env.set i s) (σ.set i (some v)) := by
  have hσ : i < σ.length := by rw [← r.len]; exact hi
  have ow : ∀ j q, Ow (env.set i s) (σ.set i (some v)) j q → (j = i ∧ s.ow = true ∧ v = .ref q) ∨ (j ≠ i ∧ Ow env σ j q) := fun j q ⟨⟨s1, e1, o1⟩, e2⟩ => by
    by_cases w : i = j
    · subst w
      rw [List.getElem?_set_self hi] at e1
      rw [List.getElem?_set_self hσ] at e2
      cases e1
      exact .inl ⟨rfl, o1, by simpa using e2⟩
    · rw [List.getElem?_set_ne w] at e1 e2
      exact .inr ⟨Ne.symm w, ⟨s1, e1, o1⟩, e2⟩
  refine ⟨r.f, by rw [List.length_set, List.length_set]; exact r.len, fun j s1 e1 => ?_, fun j k q h1 h2 => ?_, r.exT, r.gt, r.t0⟩
  · by_cases w : i = j
    · subst w
      rw [List.getElem?_set_self hi] at e1
      rw [List.getElem?_set_self hσ]
      cases e1
      exact hs
    · rw [List.getElem?_set_ne w] at e1 ⊢
      exact r.sl j s1 e1
  · rcases ow j q h1 with ⟨e1, o1, v1⟩ | ⟨e1, o1⟩
    · rcases ow k q h2 with ⟨e2, o2, v2⟩ | ⟨e2, o2⟩
      · rw [e1, e2]
      · exact absurd o2 (hd q o1 v1 k)
    · rcases ow k q h2 with ⟨e2, o2, v2⟩ | ⟨e2, o2⟩
      · exact absurd o1 (hd q o2 v2 j)
      · exact r.dis j k q o1 o2
/-- a name is forgotten -/
theorem Rep.forget (r : Rep z T G H env σ) {i : Nat} (w : Option V) : Rep z T G H (env.set i .no) (σ.set i w) := by
  have ow : ∀ j q, Ow (env.set i .no) (σ.set i w) j q → j ≠ i ∧ Ow env σ j q := fun j q ⟨⟨s1, e1, o1⟩, e2⟩ => by
    by_cases w : i = j
    · subst w
      by_cases hi : i < env.length
      · rw [List.getElem?_set_self hi] at e1
        cases e1
        cases o1
      · rw [List.getElem?_eq_none (by rw [List.length_set]; omega)] at e1; cases e1
    · rw [List.getElem?_set_ne w] at e1 e2
      exact ⟨Ne.symm w, ⟨s1, e1, o1⟩, e2⟩
  refine ⟨r.f, by rw [List.length_set, List.length_set]; exact r.len, fun j s1 e1 => ?_, fun j k q h1 h2 => r.dis j k q (ow j q h1).2 (ow k q h2).2, r.exT, r.gt, r.t0⟩
  by_cases w' : i = j
  · subst w'
    by_cases hi : i < env.length
    · rw [List.getElem?_set_self hi] at e1
      cases e1
      trivial
    · rw [List.getElem?_eq_none (by rw [List.length_set]; omega)] at e1; cases e1
  · rw [List.getElem?_set_ne w'] at e1 ⊢
    exact r.sl j s1 e1
theorem VR.mono (h : VR z T G H env σ v r) (hn : ∀ xs, r ≠ .new xs) (e : Ex G G') : VR z T G' H' env' σ v r := by
  cases r with
  | d y => exact Is.mono e h
  | at_ i => exact h
  | new xs => exact absurd rfl (hn xs)

/-! ### operands -/
/-- a new list as an operand stays as it is -/
def R.opd : R → R
  | .new xs => R.d (.lst xs)
  | .d x => .d x
  | .at_ i => .at_ i
theorem R.opd_nn (r : R) (xs : List D) : r.opd ≠ .new xs := by cases r <;> (intro h; cases h)
theorem VR.opd (h : VR z T G H env σ v r) (p : Rep z T G H env σ) : ∃ G', Rep z T G' H env σ ∧ Ex G G' ∧ VR z T G' H env σ v r.opd := by
  cases r with
  | d y => exact ⟨G, p, Ex.refl G, h⟩
  | at_ i => exact ⟨G, p, Ex.refl G, h⟩
  | new xs =>
    obtain ⟨q, vs, rfl, hq, a, g, t, h0, hm, no⟩ := h
    exact ⟨_, p.freeze hq g t h0 hm no, Ex.new g, .lst upd_same (a.mono (Ex.new g))⟩
/-- what an operand is worth just now -/
def R.der (env : Ev) : R → Option D
  | .d x => some x
  | .at_ i => match env[i]? with
    | some (.val y) => some y
    | some (.own xs) => some (.lst xs)
    | some (.par xs) => some (.lst xs)
    | _ => none
  | .new _ => none
/-- to be read just now -/
def IsT (K : PySem.W.Frag) (cl : Cl) (G H : Hp) (v : V) (d : D) : Prop := Is K cl G v d ∨ ∃ p vs xs, v = .ref p ∧ d = .lst xs ∧ H p = some (.lst vs) ∧ IsA K cl G vs xs
theorem VR.der {d : D} (h : VR z T G H env σ v r) (p : Rep z T G H env σ) (e : r.der env = some d) : IsT z.K z.cl G H v d := by
  cases r with
  | d y => cases e; exact .inl h
  | at_ i =>
    have h : σ[i]?.join = some v := h
    simp only [R.der] at e
    split at e
    · rename_i d' q
      cases e
      have w := p.sl i _ q
      rw [h] at w
      obtain ⟨v', e1, w⟩ := w
      cases e1
      exact .inl w
    · rename_i xs q
      cases e
      have w := p.sl i _ q
      rw [h] at w
      obtain ⟨q', vs, e1, _, _, _, hq, a⟩ := w
      cases e1
      exact .inr ⟨q', vs, xs, rfl, rfl, hq, a⟩
    · rename_i xs q
      cases e
      have w := p.sl i _ q
      rw [h] at w
      obtain ⟨q', vs, e1, _, _, hq, a⟩ := w
      cases e1
      exact .inr ⟨q', vs, xs, rfl, rfl, hq, a⟩
    · cases e
  | new xs => cases e
/-- an operand that stays as it is from here on -/
def R.fix (env : Ev) : R → Option (D × Ev)
  | .d x => some (x, env)
  | .at_ i => match env[i]? with
    | some (.val y) => some (y, env)
    | some (.own xs) => some (.lst xs, env.set i (.val (.lst xs)))
    | _ => none
  | .new _ => none
theorem VR.fix {d : D} (h : VR z T G H env σ v r) (p : Rep z T G H env σ) (e : r.fix env = some (d, env')) : ∃ G', Rep z T G' H env' σ ∧ Ex G G' ∧ Is z.K z.cl G' v d := by
  cases r with
  | d y => cases e; exact ⟨G, p, Ex.refl G, h⟩
  | at_ i =>
    have h : σ[i]?.join = some v := h
    simp only [R.fix] at e
    split at e
    · rename_i d' q
      cases e
      have w := p.sl i _ q
      rw [h] at w
      obtain ⟨v', e1, w⟩ := w
      cases e1
      exact ⟨G, p, Ex.refl G, w⟩
    · rename_i xs q
      cases e
      obtain ⟨q', vs, e1, h1, a, g, p'⟩ := p.still q
      rw [h] at e1
      cases e1
      exact ⟨_, p', Ex.new g, .lst upd_same (a.mono (Ex.new g))⟩
    · cases e
  | new xs => cases e
def fixAll (env : Ev) : List R → Option (List D × Ev)
  | [] => some ([], env)
  | r :: rs => match r.fix env with
    | some (d, e1) => match fixAll e1 rs with
      | some (ds, e2) => some (d :: ds, e2)
      | none => none
    | none => none
theorem VRs.mono : ∀ {vs : List V} {rs : List R}, VRs z T G H env σ vs rs → Ex G G' → VRs z T G' H' env' σ vs rs
  | [], [], _, _ => trivial
  | _ :: _, _ :: _, ⟨⟨h, n⟩, t⟩, e => ⟨⟨h.mono n e, n⟩, VRs.mono t e⟩
theorem VRs.length : ∀ {vs : List V} {rs : List R}, VRs z T G H env σ vs rs → vs.length = rs.length
  | [], [], _ => rfl
  | _ :: _, _ :: _, ⟨_, t⟩ => congrArg (· + 1) (VRs.length t)
theorem VRs.fix : ∀ {vs : List V} {rs : List R} {ds : List D} {G : Hp} {env env' : Ev}, VRs z T G H env σ vs rs → Rep z T G H env σ → fixAll env rs = some (ds, env') → ∃ G', Rep z T G' H env' σ ∧ Ex G G' ∧ IsA z.K z.cl G' vs ds
  | [], [], _, G, _, _, _, p, e => by cases e; exact ⟨G, p, Ex.refl G, .nil⟩
  | v :: vs, r :: rs, ds, G, env, env', ⟨⟨h, n⟩, t⟩, p, e => by
    unfold fixAll at e
    split at e
    · rename_i d e1 q
      split at e
      · rename_i ds' e2 q2
        cases e
        obtain ⟨G1, p1, x1, h1⟩ := h.fix p q
        obtain ⟨G2, p2, x2, h2⟩ := VRs.fix (t.mono x1) p1 q2
        exact ⟨G2, p2, x1.trans x2, .cons (h1.mono x2) h2⟩
      · cases e
    · cases e
  | [], _ :: _, _, _, _, _, h, _, _ => h.elim
  | _ :: _, [], _, _, _, _, h, _, _ => h.elim
theorem CR.mono {Q : VK} {p : R × Ev} (h : CR z T σ G Q p) (e : Ex G G') : CR z T σ G' Q p := fun v H' G'' a x w => h v H' G'' a (e.trans x) w
end
end TN
namespace TN
open PySem PySem.Spec PyProof.Rows L2

/-- a body that runs, as the rules want it -/
structure OkX (X : Cx) (z : Z) (E : XK) (k : Nat) : Prop where
  K : X.K = z.K
  tk : Takes X (fun c d _ H => E c d H)
  calm : X.calm = true
  nd : X.N.Nodup
  room : Room k X.A
  po : PassesOwn (model X.prog X.w) X.A X.env X.xe

theorem pe_mono {X : Cx} {e : Expr} {t t' : TE} (h : PE X e t) (f : ∀ σ H Q, t' σ H Q → t σ H Q) : PE X e t' := ⟨fun pins s σ H Q I q => h.run pins s σ H Q I (f σ H Q q)⟩
theorem pt_mono {X : Cx} {e : Expr} {t t' : TT} (h : PT X e t) (f : ∀ σ H Q, t' σ H Q → t σ H Q) : PT X e t' := ⟨fun pins s σ H Q I q => h.run pins s σ H Q I (f σ H Q q)⟩
theorem pw_mono {X : Cx} {e : Expr} {t t' : TT} (h : PW X e t) (f : ∀ σ H Q, t' σ H Q → t σ H Q) : PW X e t' := ⟨fun wh pins s σ H Q I q => h.run wh pins s σ H Q I (f σ H Q q)⟩
theorem pa_mono {X : Cx} {e : List Expr} {t t' : TA} (h : PA X e t) (f : ∀ σ H Q, t' σ H Q → t σ H Q) : PA X e t' := ⟨fun pos pins s σ H Q I q => h.run pos pins s σ H Q I (f σ H Q q)⟩
theorem ps_mono {X : Cx} {e : Stmt} {t t' : TS} (h : PS X e t) (f : ∀ D σ H, t' D σ H → t D σ H) : PS X e t' := ⟨fun pins s σ H D I q => h.run pins s σ H D I (f D σ H q)⟩
theorem pss_mono {X : Cx} {e : List Stmt} {t t' : TS} (h : PSs X e t) (f : ∀ D σ H, t' D σ H → t D σ H) : PSs X e t' := ⟨fun pins s σ H D I q => h.run pins s σ H D I (f D σ H q)⟩

def ofO {α : Type} : Option α → Out α
  | some a => .ok a
  | none => .no
theorem Pg.ofO {α : Type} {z : Z} {E : XK} {C : α → Prop} : ∀ {x : Option α}, Pg z E C (ofO x) → ∃ a, x = some a ∧ C a
  | some a, h => ⟨a, rfl, h⟩
  | none, h => h.elim

/-! ### names, constants -/
def fVar (i : Nat) : F := fun env => match env[i]? with
  | some (.val d) => .ok (.d d, env)
  | some (.own _) => .ok (.at_ i, env)
  | some (.par _) => .ok (.at_ i, env)
  | _ => .no
def fC (d : D) : F := fun env => .ok (.d d, env)
section
variable {X : Cx} {z : Z} {E : XK} {k : Nat} {pos : Pos}
theorem te_var {i : Nat} {σ : L2.St} {H : Hp} {Q : VK} (h : tE z E (fVar i) σ H Q) : tVar i σ H Q := by
  obtain ⟨T, G, env, r, h⟩ := h
  have sj : ∀ {v : V}, (σ[i]?.join) = some v → σ[i]? = some (some v) := fun {v} e => by
    cases q : σ[i]? with
    | none => rw [q] at e; cases e
    | some o => rw [q] at e; exact congrArg some e
  unfold fVar at h
  split at h
  · rename_i d q
    have w := r.sl i _ q
    obtain ⟨v, e, w⟩ := w
    exact ⟨v, sj e, h v H G r (Ex.refl G) w⟩
  · rename_i xs q
    have w := r.sl i _ q
    obtain ⟨p, vs, e, _⟩ := w
    exact ⟨_, sj e, h _ H G r (Ex.refl G) e⟩
  · rename_i xs q
    have w := r.sl i _ q
    obtain ⟨p, vs, e, _⟩ := w
    exact ⟨_, sj e, h _ H G r (Ex.refl G) e⟩
  · exact h.elim
theorem we_var (i : Nat) {x : Str} (hN : X.N[i]? = some x := by rfl) (hv : Vis X.env.scope x := by first | exact Or.inl rfl | exact Or.inr (Or.inl rfl) | exact Or.inr (Or.inr rfl))
    (hd : (x == ("__debug__" : Str)) = false := by decide) (hcd : (x == ("__classdict__" : Str)) = false := by decide) : PE X (.Name x pos) (tE z E (fVar i)) :=
  pe_mono (pe_var hN hv hd hcd) fun _ _ _ h => te_var h
theorem te_c {d : D} {v : V} (hv : ∀ K cl G, Is K cl G v d) {σ : L2.St} {H : Hp} {Q : VK} (h : tE z E (fC d) σ H Q) : tC v σ H Q := by
  obtain ⟨T, G, env, r, h⟩ := h
  exact h v H G r (Ex.refl G) (hv _ _ _)
theorem we_int {i j} : PE X (.Constant (.int i) j pos) (tE z E (fC (.int i))) := pe_mono pe_int fun _ _ _ h => te_c (fun _ _ _ => .int i) h
theorem we_bl {i j} : PE X (.Constant (.bool i) j pos) (tE z E (fC (.bl i))) := pe_mono pe_bl fun _ _ _ h => te_c (fun _ _ _ => .bl i) h
theorem we_str {i j} : PE X (.Constant (.str i) j pos) (tE z E (fC (.str i))) := pe_mono pe_str fun _ _ _ h => te_c (fun _ _ _ => .str i) h
theorem we_non {j} : PE X (.Constant .none j pos) (tE z E (fC .non)) := pe_mono pe_non fun _ _ _ h => te_c (fun _ _ _ => .non) h
/-- a module's int, text .. -/
theorem we_glob {x : Str} {v : V} {u : Value} {d : D} (hm : X.mg x = some u) (r : RelV v u) (hd' : ∀ K cl G, Is K cl G v d) (hg : Gl X x := by rfl) (hd : (x == ("__debug__" : Str)) = false := by decide) : PE X (.Name x pos) (tE z E (fC d)) :=
  pe_mono (pe_glob hg hm r hd) fun _ _ _ h => te_c hd' h
end

/-! ### operators -/
/-- what an operation hands back: data that is there, or a new tuple, or a new list -/
inductive R0 where
  | d (x : D) | tp (xs : List D) | ls (xs : List D)
def R0.r : R0 → R
  | .d x => .d x
  | .tp xs => .d (.tup xs)
  | .ls xs => .new xs
def P0 (z : Z) (G H : Hp) (Q : VK) : Out R0 → Prop
  | .ok (.d d) => ∀ v, Is z.K z.cl G v d → Q v H
  | .ok (.tp ds) => ∀ p vs o, H p = none → o.dict = none → IsA z.K z.cl G vs ds → Q (.ref p) (upd H p (.frz o (.tup vs)))
  | .ok (.ls ds) => ∀ p vs, H p = none → IsA z.K z.cl G vs ds → Q (.ref p) (upd H p (.lst vs))
  | _ => False
section
variable {X : Cx} {z : Z} {E : XK} {k : Nat} {pos : Pos} {T G H : Hp} {σ : L2.St} {env : Ev} {Q : VK}
/-- the end of an operation -/
theorem p0_end {x : Out R0} (r : Rep z T G H env σ) (h : Pg z E (fun q => CR z T σ G Q (q.r, env)) x) (nx : ∀ c d, x ≠ .exc c d) : P0 z G H Q x := by
  cases x with
  | ok q =>
    cases q with
    | d d => exact fun v w => h v H G r (Ex.refl G) w
    | tp ds =>
      intro p vs o hp hd a
      have g := (r.nn hp).1
      exact h _ _ _ (r.grow hp) (Ex.new g) (.tup (.new hd) (a.mono (Ex.new g)))
    | ls ds =>
      intro p vs hp a
      obtain ⟨n1, n2, n3, n4, n5⟩ := r.nn hp
      exact h _ _ _ (r.alloc hp) (Ex.refl G) ⟨p, vs, rfl, upd_same, a, n1, n2, n3, n4, n5⟩
  | exc c d => exact absurd rfl (nx c d)
  | no => exact h
end
structure OpD (X : Cx) (z : Z) (f : Value → Value → Sem Value) (op : D → D → Out R0) : Prop where
  run : ∃ r : R2, OpR X f r ∧ ∀ G H x y dx dy Q, Ex G H → IsT z.K z.cl G H x dx → IsT z.K z.cl G H y dy → P0 z G H Q (op dx dy) → r x y H Q
  nx : ∀ x y c d, op x y ≠ .exc c d
def fTwo {β : Type} (fa fb : F) (k : D → D → Ev → Out β) : Ev → Out β := fun env => (fa env).bind fun p => (fb p.2).bind fun q =>
  (ofO (p.1.opd.der q.2)).bind fun x => (ofO (q.1.opd.der q.2)).bind fun y => k x y q.2
def fBin (op : D → D → Out R0) (fa fb : F) : F := fTwo fa fb fun x y e => (op x y).bind fun q => .ok (q.r, e)
section
variable {X : Cx} {z : Z} {E : XK} {n : Nat} {pos : Pos} {a b : Expr} {fa fb : F} {σ : L2.St} {H : Hp}
/-- two operands, then what they are worth -/
theorem te_two {β : Type} {C : Ev → β → Prop} {kk : D → D → Ev → Out β} {T G : Hp} {env : Ev} (r : Rep z T G H env σ)
    {Cb : Hp → β → Prop} (mono : ∀ G G' b, Ex G G' → Cb G b → Cb G' b) (h : Pg z E (Cb G) (fTwo fa fb kk env)) :
    tE z E fa σ H fun x H1 => tE z E fb σ H1 fun y H2 => ∃ dx dy e2 G2, Rep z T G2 H2 e2 σ ∧ Ex G G2 ∧ IsT z.K z.cl G2 H2 x dx ∧ IsT z.K z.cl G2 H2 y dy ∧ Pg z E (Cb G2) (kk dx dy e2) := by
  refine ⟨T, G, env, r, (Pg.bind h).imp fun p hp v H1 G1 r1 e1 w1 => ?_⟩
  obtain ⟨G1', r1', e1', w1'⟩ := w1.opd r1
  refine ⟨T, G1', p.2, r1', (Pg.bind hp).imp fun q hq u H2 G2 r2 e2 w2 => ?_⟩
  obtain ⟨G2', r2', e2', w2'⟩ := w2.opd r2
  obtain ⟨dx, ex, hq⟩ := (Pg.bind hq).ofO
  obtain ⟨dy, ey, hq⟩ := (Pg.bind hq).ofO
  have x2 : Ex G1' G2' := e2.trans e2'
  refine ⟨dx, dy, q.2, G2', r2', (e1.trans e1').trans x2, (w1'.mono (fun xs => R.opd_nn _ _) x2).der r2' ex, w2'.der r2' ey, hq.imp fun b hb => mono _ _ _ ((e1.trans e1').trans x2) hb⟩
theorem te_bin {op : D → D → Out R0} {r : R2} (hx : ∀ x y c d, op x y ≠ .exc c d) (hr : ∀ G H x y dx dy Q, Ex G H → IsT z.K z.cl G H x dx → IsT z.K z.cl G H y dy → P0 z G H Q (op dx dy) → r x y H Q) {Q : VK} (h : tE z E (fBin op fa fb) σ H Q) : tOp r (tE z E fa) (tE z E fb) σ H Q := by
  obtain ⟨T, G, env, rp, h⟩ := h
  have q := te_two (Cb := fun G p => CR z T σ G Q p) (C := fun _ _ => True) rp (fun G G' b e h => h.mono e) h
  refine (show ∀ (t : TE) (Q Q' : VK), (∀ v H, Q v H → Q' v H) → tE z E fa σ H Q → tE z E fa σ H Q' from fun _ Q Q' i ⟨T, G, env, r, h⟩ => ⟨T, G, env, r, h.imp fun a w v H' G' x y c => i _ _ (w v H' G' x y c)⟩) (tE z E fa) _ _ (fun x H1 q1 => ?_) q
  obtain ⟨T1, G1, env1, r1, h1⟩ := q1
  refine ⟨T1, G1, env1, r1, h1.imp fun a w v H' G' x y c => ?_⟩
  obtain ⟨dx, dy, e2, G2, r2, _, ix, iy, hk⟩ := w v H' G' x y c
  exact hr G2 H' _ _ dx dy Q r2.f.exG ix iy (p0_end (E := E) r2 (Pg.bind hk) (hx dx dy))
theorem we_bin {o : Operator} {op : D → D → Out R0} (ho : OpD X z (binaryOp o) op) (ha : PE X a (tE z E fa)) (hb : PE X b (tE z E fb)) : PE X (.BinOp a o b pos) (tE z E (fBin op fa fb)) := by
  obtain ⟨r, h1, h2⟩ := ho.run
  exact pe_mono (pe_op h1 ha hb) fun _ _ _ h => te_bin ho.nx h2 h
theorem we_cmp {o : CmpOp} {op : D → D → Out R0} (ho : OpD X z (compareOp o) op) (ha : PE X a (tE z E fa)) (hb : PE X b (tE z E fb)) (hm : behindInMarks o b = false := by first | exact nomark _ | with_unfolding_all rfl) : PE X (.Compare a [o] [b] pos) (tE z E (fBin op fa fb)) := by
  obtain ⟨r, h1, h2⟩ := ho.run
  exact pe_mono (pe_cmpR h1 ha hb hm) fun _ _ _ h => te_bin ho.nx h2 h
/-- a value as a test: it must be a bool -/
def bOf (f : F) : FB := fun env => (f env).bind fun p => match p.1 with
  | .d (.bl b) => .ok (b, p.2)
  | _ => .no
theorem te_imp {f : F} {Q Q' : VK} (i : ∀ v H, Q v H → Q' v H) : tE z E f σ H Q → tE z E f σ H Q' := fun ⟨T, G, env, r, h⟩ => ⟨T, G, env, r, h.imp fun a w v H' G' x y c => i _ _ (w v H' G' x y c)⟩
theorem te_bOf {f : F} {Q : Bool → Hp → Prop} (h : tT z E (bOf f) σ H Q) : tE z E f σ H fun x H' => ∃ k, x = .bl k ∧ Q k H' := by
  obtain ⟨T, G, env, r, h⟩ := h
  refine ⟨T, G, env, r, (Pg.bind h).imp fun p hp v H' G' r' e w => ?_⟩
  obtain ⟨p1, p2⟩ := p
  split at hp
  · rename_i b q
    have q : p1 = R.d (.bl b) := q
    subst q
    have w : Is z.K z.cl G' v (.bl b) := w
    cases w
    exact ⟨b, rfl, hp H' G' r' e⟩
  · exact hp.elim
theorem wt_cmp {o : CmpOp} {op : D → D → Out R0} (ho : OpD X z (compareOp o) op) (ha : PE X a (tE z E fa)) (hb : PE X b (tE z E fb)) (hm : behindInMarks o b = false := by first | exact nomark _ | with_unfolding_all rfl) : PT X (.Compare a [o] [b] pos) (tT z E (bOf (fBin op fa fb))) := by
  obtain ⟨r, h1, h2⟩ := ho.run
  exact pt_mono (pt_cmpR h1 ha hb hm) fun _ _ _ h => te_bin ho.nx h2 (te_bOf h)
theorem wt_val {f : F} (h : PE X a (tE z E f)) (he : ∀ whole, isTrue a X.env whole = (do let v ← whole; standAt a.pos; holding [v] (truthy v)) := by intro _; rfl) : PT X a (tT z E (bOf f)) :=
  pt_mono (pt_val h he) fun _ _ _ h => te_bOf h
end
end TN
namespace TN
open PySem PySem.Spec PyProof.Rows L2

/-! ### tests -/
def fNotB (f : FB) : FB := fun env => (f env).bind fun p => .ok (!p.1, p.2)
def fAndB (f g : FB) : FB := fun env => (f env).bind fun p => if p.1 = true then g p.2 else .ok (false, p.2)
def fOrB (f g : FB) : FB := fun env => (f env).bind fun p => if p.1 = true then .ok (true, p.2) else g p.2
def fAndV (f g : F) : F := fun env => (bOf f env).bind fun p => if p.1 = true then g p.2 else .ok (.d (.bl false), p.2)
def fOrV (f g : F) : F := fun env => (bOf f env).bind fun p => if p.1 = true then .ok (.d (.bl true), p.2) else g p.2
def fNotV (f : F) : F := fun env => (bOf f env).bind fun p => .ok (.d (.bl (!p.1)), p.2)
def fIf (c : FB) (f g : F) : F := fun env => (c env).bind fun p => if p.1 = true then f p.2 else g p.2
section
variable {X : Cx} {z : Z} {E : XK} {n : Nat} {pos : Pos} {a b c : Expr} {rest : List Expr} {fa fb fc : F} {ga gb : FB} {σ : L2.St} {H : Hp}
theorem CB.mono {T G G' : Hp} {Q : Bool → Hp → Prop} {p : Bool × Ev} (h : CB z T σ G Q p) (e : Ex G G') : CB z T σ G' Q p := fun H' G'' a x => h H' G'' a (e.trans x)
theorem wt_not (h : PT X a (tT z E ga)) : PT X (.UnaryOp .Not a pos) (tT z E (fNotB ga)) := pt_mono (pt_not h) fun σ H Q ⟨T, G, env, r, h⟩ => by
  exact ⟨T, G, env, r, (Pg.bind h).imp fun p hp H' G' r' e => hp H' G' r' e⟩
theorem te_and {Q : Bool → Hp → Prop} (h : tT z E (fAndB ga gb) σ H Q) : tAnd (tT z E ga) (tT z E gb) σ H Q := by
  obtain ⟨T, G, env, r, h⟩ := h
  refine ⟨T, G, env, r, (Pg.bind h).imp fun p hp H' G' r' e => ?_⟩
  obtain ⟨p1, p2⟩ := p
  cases p1 with
  | true =>
    simp only [if_true] at hp ⊢
    exact ⟨T, G', p2, r', hp.imp fun q hq => hq.mono e⟩
  | false => exact hp H' G' r' e
theorem te_or {Q : Bool → Hp → Prop} (h : tT z E (fOrB ga gb) σ H Q) : tOr (tT z E ga) (tT z E gb) σ H Q := by
  obtain ⟨T, G, env, r, h⟩ := h
  refine ⟨T, G, env, r, (Pg.bind h).imp fun p hp H' G' r' e => ?_⟩
  obtain ⟨p1, p2⟩ := p
  cases p1 with
  | false => exact ⟨T, G', p2, r', (show Pg z E _ (gb p2) from hp).imp fun q hq => hq.mono e⟩
  | true => exact hp H' G' r' e
theorem ww_and1 (ha : PT X a (tT z E ga)) : PW X (.BoolOp .And [a] pos) (tT z E ga) := pw_and1 ha
theorem ww_or1 (ha : PT X a (tT z E ga)) : PW X (.BoolOp .Or [a] pos) (tT z E ga) := pw_or1 ha
theorem ww_and (ha : PT X a (tT z E ga)) (hb : PW X (.BoolOp .And (b :: rest) pos) (tT z E gb)) : PW X (.BoolOp .And (a :: b :: rest) pos) (tT z E (fAndB ga gb)) := pw_mono (pw_and ha hb) fun _ _ _ h => te_and h
theorem ww_or (ha : PT X a (tT z E ga)) (hb : PW X (.BoolOp .Or (b :: rest) pos) (tT z E gb)) : PW X (.BoolOp .Or (a :: b :: rest) pos) (tT z E (fOrB ga gb)) := pw_mono (pw_or ha hb) fun _ _ _ h => te_or h
theorem te_bOf' {f : F} {Q : Bool → Hp → Prop} (h : tT z E (bOf f) σ H Q) : tE z E f σ H fun x H' => ∃ k, x = .bl k ∧ Q k H' := te_bOf h
/-- a bool, then what follows -/
theorem te_bthen {f : F} {kk : Bool × Ev → Out (R × Ev)} {Q : VK} (h : tE z E (fun env => (bOf f env).bind kk) σ H Q) : tE z E f σ H fun x H' => ∃ k, x = .bl k ∧ ∃ T G env, Rep z T G H' env σ ∧ Pg z E (CR z T σ G Q) (kk (k, env)) := by
  obtain ⟨T, G, env, r, h⟩ := h
  refine ⟨T, G, env, r, (Pg.bind (Pg.bind h)).imp fun p hp v H' G' r' e w => ?_⟩
  obtain ⟨p1, p2⟩ := p
  dsimp only at hp
  split at hp
  · rename_i b
    have w : Is z.K z.cl G' v (.bl b) := w
    cases w
    exact ⟨b, rfl, T, G', p2, r', (show Pg z E _ (kk (b, p2)) from hp).imp fun q hq => hq.mono e⟩
  · exact hp.elim
theorem we_one {op} {f : F} (h : PE X a (tE z E f)) : PE X (.BoolOp op [a] pos) (tE z E f) := pe_one h
theorem we_and (ha : PE X a (tE z E fa)) (hb : PE X (.BoolOp .And (b :: rest) pos) (tE z E fb)) : PE X (.BoolOp .And (a :: b :: rest) pos) (tE z E (fAndV fa fb)) := pe_mono (pe_and ha hb) fun σ H Q h => by
  refine te_imp (fun v H' q => ?_) (te_bthen h)
  obtain ⟨k, rfl, T, G, env, r, q⟩ := q
  refine ⟨k, rfl, ?_⟩
  cases k with
  | true => exact ⟨T, G, env, r, q⟩
  | false => exact q _ H' G r (Ex.refl G) (.bl false)
theorem we_or (ha : PE X a (tE z E fa)) (hb : PE X (.BoolOp .Or (b :: rest) pos) (tE z E fb)) : PE X (.BoolOp .Or (a :: b :: rest) pos) (tE z E (fOrV fa fb)) := pe_mono (pe_or ha hb) fun σ H Q h => by
  refine te_imp (fun v H' q => ?_) (te_bthen h)
  obtain ⟨k, rfl, T, G, env, r, q⟩ := q
  refine ⟨k, rfl, ?_⟩
  cases k with
  | false => exact ⟨T, G, env, r, q⟩
  | true => exact q _ H' G r (Ex.refl G) (.bl true)
theorem we_not (ha : PE X a (tE z E fa)) : PE X (.UnaryOp .Not a pos) (tE z E (fNotV fa)) := pe_mono (pe_not ha) fun σ H Q h => by
  refine te_imp (fun v H' q => ?_) (te_bthen h)
  obtain ⟨k, rfl, T, G, env, r, q⟩ := q
  exact ⟨k, rfl, q _ H' G r (Ex.refl G) (.bl _)⟩
theorem we_if (hc : PT X c (tT z E ga)) (ha : PE X a (tE z E fa)) (hb : PE X b (tE z E fb)) : PE X (.IfExp c a b pos) (tE z E (fIf ga fa fb)) := pe_mono (pe_ifExp hc ha hb) fun σ H Q ⟨T, G, env, r, h⟩ => by
  refine ⟨T, G, env, r, (Pg.bind h).imp fun p hp H' G' r' e => ?_⟩
  obtain ⟨p1, p2⟩ := p
  cases p1 with
  | true => exact ⟨T, G', p2, r', (show Pg z E _ (fa p2) from hp).imp fun q hq => hq.mono e⟩
  | false => exact ⟨T, G', p2, r', (show Pg z E _ (fb p2) from hp).imp fun q hq => hq.mono e⟩
end

/-! ### chains -/
def fChain (op op' : D → D → Out R0) (fa fb fc : F) : F := fun env => (fa env).bind fun p => (fb p.2).bind fun q => (ofO (p.1.opd.der q.2)).bind fun x => (ofO (q.1.opd.der q.2)).bind fun y =>
  match op x y with
  | .ok (.d (.bl false)) => .ok (.d (.bl false), q.2)
  | .ok (.d (.bl true)) => (fc q.2).bind fun s => (ofO (q.1.opd.der s.2)).bind fun y => (ofO (s.1.opd.der s.2)).bind fun w => (op' y w).bind fun o => .ok (o.r, s.2)
  | _ => .no
section
variable {X : Cx} {z : Z} {E : XK} {n : Nat} {pos : Pos} {a b c : Expr} {fa fb fc : F} {σ : L2.St} {H : Hp}
theorem te_chain {op op' : D → D → Out R0} {r r' : R2} (hx : ∀ x y c d, op x y ≠ .exc c d) (hr : ∀ G H x y dx dy Q, Ex G H → IsT z.K z.cl G H x dx → IsT z.K z.cl G H y dy → P0 z G H Q (op dx dy) → r x y H Q)
    (hx' : ∀ x y c d, op' x y ≠ .exc c d) (hr' : ∀ G H x y dx dy Q, Ex G H → IsT z.K z.cl G H x dx → IsT z.K z.cl G H y dy → P0 z G H Q (op' dx dy) → r' x y H Q) {Q : VK} (h : tE z E (fChain op op' fa fb fc) σ H Q) : tChain r r' (tE z E fa) (tE z E fb) (tE z E fc) σ H Q := by
  obtain ⟨T, G, env, rp, h⟩ := h
  refine ⟨T, G, env, rp, (Pg.bind h).imp fun p hp v H1 G1 r1 e1 w1 => ?_⟩
  obtain ⟨G1', r1', e1', w1'⟩ := w1.opd r1
  refine ⟨T, G1', p.2, r1', (Pg.bind hp).imp fun q hq u H2 G2 r2 e2 w2 => ?_⟩
  obtain ⟨G2', r2', e2', w2'⟩ := w2.opd r2
  obtain ⟨dx, ex, hq⟩ := (Pg.bind hq).ofO
  obtain ⟨dy, ey, hq⟩ := (Pg.bind hq).ofO
  have x2 : Ex G1' G2' := e2.trans e2'
  have ix := (w1'.mono (fun xs => R.opd_nn _ _) x2).der r2' ex
  have iy := w2'.der r2' ey
  have eg : Ex G G2' := (e1.trans e1').trans x2
  refine hr G2' H2 v u dx dy _ r2'.f.exG ix iy ?_
  split at hq
  · rename_i e
    rw [e]
    intro v' w'
    cases w'
    exact ⟨false, rfl, hq _ H2 G2' r2' eg (.bl false)⟩
  · rename_i e
    rw [e]
    intro v' w'
    cases w'
    refine ⟨true, rfl, ?_⟩
    refine ⟨T, G2', q.2, r2', (Pg.bind hq).imp fun s hs t H3 G3 r3 e3 w3 => ?_⟩
    obtain ⟨G3', r3', e3', w3'⟩ := w3.opd r3
    obtain ⟨dy', ey', hs⟩ := (Pg.bind hs).ofO
    obtain ⟨dw, ew, hs⟩ := (Pg.bind hs).ofO
    have x3 : Ex G2' G3' := e3.trans e3'
    refine hr' G3' H3 u t dy' dw Q r3'.f.exG ((w2'.mono (fun xs => R.opd_nn _ _) x3).der r3' ey') (w3'.der r3' ew) (p0_end (E := E) r3' ?_ (hx' _ _))
    exact (Pg.bind hs).imp fun o ho => CR.mono ho (eg.trans x3)
  · exact hq.elim
theorem we_chain {o o' : CmpOp} {op op' : D → D → Out R0} (ho : OpD X z (compareOp o) op) (ho' : OpD X z (compareOp o') op') (ha : PE X a (tE z E fa)) (hb : PE X b (tE z E fb)) (hc : PE X c (tE z E fc)) (hm : lastMarks [o, o'] [b, c] = false := by with_unfolding_all rfl) :
    PE X (.Compare a [o, o'] [b, c] pos) (tE z E (fChain op op' fa fb fc)) := by
  obtain ⟨r, h1, h2⟩ := ho.run
  obtain ⟨r', h1', h2'⟩ := ho'.run
  exact pe_mono (pe_chain h1 h1' ha hb hc hm) fun _ _ _ h => te_chain ho.nx h2 ho'.nx h2' h
theorem wt_chain {o o' : CmpOp} {op op' : D → D → Out R0} (ho : OpD X z (compareOp o) op) (ho' : OpD X z (compareOp o') op') (ha : PE X a (tE z E fa)) (hb : PE X b (tE z E fb)) (hc : PE X c (tE z E fc)) (hm : lastMarks [o, o'] [b, c] = false := by with_unfolding_all rfl) :
    PT X (.Compare a [o, o'] [b, c] pos) (tT z E (bOf (fChain op op' fa fb fc))) := by
  obtain ⟨r, h1, h2⟩ := ho.run
  obtain ⟨r', h1', h2'⟩ := ho'.run
  exact pt_mono (pt_chain h1 h1' ha hb hc hm) fun _ _ _ h => te_chain ho.nx h2 ho'.nx h2' (te_bOf h)
end

/-! ### argument lists, displays -/
def aNil : FA := fun env => .ok ([], env)
def aCons (f : F) (g : FA) : FA := fun env => (f env).bind fun p => (g p.2).bind fun q => .ok (p.1.opd :: q.1, q.2)
def fTup (g : FA) : F := fun env => (g env).bind fun p => match fixAll p.2 p.1 with
  | some (ds, e) => if ds.length ≤ 100000 then .ok (.d (.tup ds), e) else .no
  | none => .no
def fLst (g : FA) : F := fun env => (g env).bind fun p => match fixAll p.2 p.1 with
  | some (ds, e) => if ds.length ≤ 100000 then .ok (.new ds, e) else .no
  | none => .no
theorem line100 {n : Nat} (h : n ≤ 100000) : n ≤ sizeLine := Nat.le_trans h (by decide)
theorem line100' {n : Nat} (h : n < 100000) : n < sizeLine := Nat.lt_of_lt_of_le h (by decide)
section
variable {X : Cx} {z : Z} {E : XK} {n : Nat} {pos : Pos} {e : Expr} {es : List Expr} {f : F} {g : FA} {σ : L2.St} {H : Hp}
theorem wa_nil' : PA X [] (tAr z E aNil) := pa_mono pa_nil fun σ H Q ⟨T, G, env, r, h⟩ => h [] H G r (Ex.refl G) trivial
theorem wa_cons' (he : PE X e (tE z E f)) (ha : PA X es (tAr z E g)) (hs : starEach (e :: es) X.env = (false, eval e X.env) :: starEach es X.env := by rfl) : PA X (e :: es) (tAr z E (aCons f g)) := pa_mono (pa_cons he ha hs) fun σ H Q ⟨T, G, env, r, h⟩ => by
  refine ⟨T, G, env, r, (Pg.bind h).imp fun p hp v H1 G1 r1 e1 w1 => ?_⟩
  obtain ⟨G1', r1', e1', w1'⟩ := w1.opd r1
  refine ⟨T, G1', p.2, r1', (Pg.bind hp).imp fun q hq vs H2 G2 r2 e2 w2 => ?_⟩
  exact hq (v :: vs) H2 G2 r2 ((e1.trans e1').trans e2) ⟨⟨w1'.mono (fun xs => R.opd_nn _ _) e2, fun xs => R.opd_nn _ _⟩, w2⟩
/-- an argument list of n arguments -/
structure WA (X : Cx) (z : Z) (E : XK) (es : List Expr) (g : FA) (n : Nat) : Prop where
  pa : PA X es (tAr z E g)
  len : ∀ env rs e2, g env = .ok (rs, e2) → rs.length = n
theorem wa_nil : WA X z E [] aNil 0 := ⟨wa_nil', fun env rs e2 h => by cases h; rfl⟩
theorem wa_cons (he : PE X e (tE z E f)) (ha : WA X z E es g n) (hs : starEach (e :: es) X.env = (false, eval e X.env) :: starEach es X.env := by rfl) : WA X z E (e :: es) (aCons f g) (n + 1) := ⟨wa_cons' he ha.pa hs, fun env rs e2 h => by
  unfold aCons at h
  cases h1 : f env with
  | no => rw [h1] at h; cases h
  | exc c d => rw [h1] at h; cases h
  | ok p =>
    rw [h1] at h
    have h : (g p.2).bind (fun q => Out.ok (p.1.opd :: q.1, q.2)) = Out.ok (rs, e2) := h
    cases h2 : g p.2 with
    | no => rw [h2] at h; cases h
    | exc c d => rw [h2] at h; cases h
    | ok q =>
      rw [h2] at h
      cases h
      exact congrArg (· + 1) (ha.len p.2 q.1 q.2 h2)⟩
theorem we_tup {x1} (ha : WA X z E es g n) : PE X (.Tuple es x1 pos) (tE z E (fTup g)) := pe_mono (pe_tupX ha.pa) fun σ H Q ⟨T, G, env, r, h⟩ => by
  refine ⟨T, G, env, r, (Pg.bind h).imp fun p hp vs H1 G1 r1 e1 w1 => ?_⟩
  split at hp
  · rename_i ds en q
    obtain ⟨G2, r2, e2, a⟩ := w1.fix r1 q
    split at hp
    · rename_i hl
      refine ⟨by rw [a.length]; exact line100 hl, fun p' o' hp' hd' => ?_⟩
      have gn := (r2.nn hp').1
      exact hp _ _ _ (r2.grow hp') ((e1.trans e2).trans (Ex.new gn)) (.tup (.new hd') (a.mono (Ex.new gn)))
    · exact hp.elim
  · exact hp.elim
theorem we_lst (ha : WA X z E es g n) : PE X (.List es pos) (tE z E (fLst g)) := pe_mono (pe_lst ha.pa) fun σ H Q ⟨T, G, env, r, h⟩ => by
  refine ⟨T, G, env, r, (Pg.bind h).imp fun p hp vs H1 G1 r1 e1 w1 => ?_⟩
  split at hp
  · rename_i ds en q
    obtain ⟨G2, r2, e2, a⟩ := w1.fix r1 q
    split at hp
    · rename_i hl
      refine ⟨by rw [a.length]; exact line100 hl, fun p' hp' => ?_⟩
      obtain ⟨n1, n2, n3, n4, n5⟩ := r2.nn hp'
      exact hp _ _ _ (r2.alloc hp') (e1.trans e2) ⟨p', vs, rfl, upd_same, a, n1, n2, n3, n4, n5⟩
    · exact hp.elim
  · exact hp.elim
/-- {} -/
def fDct : F := fun env => .ok (.d .dct, env)
theorem we_dct : PE X (.Dict [] [] pos) (tE z E fDct) := pe_mono pe_dnewK fun σ H Q ⟨T, G, env, r, h⟩ => fun p hp => by
  have gn := (r.nn hp).1
  exact h _ _ _ (r.grow hp) (Ex.new gn) (.dct upd_same)
end

/-! ### subscripts -/
structure IxD (X : Cx) (z : Z) (op : D → D → Out R0) : Prop where
  run : ∃ r : R2, IxR X r ∧ ∀ G H x y dx dy Q, Ex G H → IsT z.K z.cl G H x dx → IsT z.K z.cl G H y dy → P0 z G H Q (op dx dy) → r x y H Q
  nx : ∀ x y c d, op x y ≠ .exc c d
section
variable {X : Cx} {z : Z} {E : XK} {n : Nat} {pos : Pos} {a b : Expr} {fa fb : F}
theorem we_ix {op : D → D → Out R0} (ho : IxD X z op) (ha : PE X a (tE z E fa)) (hb : PE X b (tE z E fb)) (hs : PlainIx b := by intro _ _; rfl) : PE X (.Subscript a b pos) (tE z E (fBin op fa fb)) := by
  obtain ⟨r, h1, h2⟩ := ho.run
  exact pe_mono (pe_ix h1 ha hb hs) fun _ _ _ h => te_bin ho.nx h2 h
end
abbrev FO := Ev → Out (Option Int × Ev)
def oNone : FO := fun env => .ok (none, env)
def oSome (f : F) : FO := fun env => (f env).bind fun p => match p.1 with
  | .d (.int i) => .ok (some i, p.2)
  | _ => .no
abbrev CO (z : Z) (T : Hp) (σ : L2.St) (G : Hp) (Q : Option Int → Hp → Prop) : Option Int × Ev → Prop := fun p => ∀ H' G', Rep z T G' H' p.2 σ → Ex G G' → Q p.1 H'
def tOr' (z : Z) (E : XK) (f : FO) : TO := fun σ H Q => ∃ T G env, Rep z T G H env σ ∧ Pg z E (CO z T σ G Q) (f env)
structure SlD (X : Cx) (z : Z) (op : D → Option Int → Option Int → Out R0) : Prop where
  run : ∃ r, SlR X r ∧ ∀ G H x lo hi dx Q, Ex G H → IsT z.K z.cl G H x dx → P0 z G H Q (op dx lo hi) → r x lo hi H Q
  nx : ∀ x y w c d, op x y w ≠ .exc c d
def fSl (op : D → Option Int → Option Int → Out R0) (f : F) (lo hi : FO) : F := fun env => (f env).bind fun p => (lo p.2).bind fun q => (hi q.2).bind fun s => (ofO (p.1.opd.der s.2)).bind fun x => (op x q.1 s.1).bind fun o => .ok (o.r, s.2)
section
variable {X : Cx} {z : Z} {E : XK} {n : Nat} {pos p2 : Pos} {e : Expr} {f : F} {lo hi : Option Expr} {fl fh : FO}
theorem wo_none : PO X none (tOr' z E oNone) := ⟨fun pins s σ H Q I ⟨T, G, env, r, h⟩ => po_none.run pins s σ H Q I (h H G r (Ex.refl G))⟩
theorem wo_some (he : PE X e (tE z E f)) : PO X (some e) (tOr' z E (oSome f)) := ⟨fun pins s σ H Q I h => (po_some he).run pins s σ H Q I (by
  obtain ⟨T, G, env, r, h⟩ := h
  refine ⟨T, G, env, r, (Pg.bind h).imp fun p hp v H' G' r' x w => ?_⟩
  obtain ⟨p1, p2⟩ := p
  dsimp only at hp
  split at hp
  · rename_i i
    have w : Is z.K z.cl G' v (.int i) := w
    cases w
    exact ⟨i, rfl, hp H' G' r' x⟩
  · exact hp.elim)⟩
theorem we_slice {op : D → Option Int → Option Int → Out R0} (ho : SlD X z op) (he : PE X e (tE z E f)) (hl : PO X lo (tOr' z E fl)) (hh : PO X hi (tOr' z E fh)) : PE X (.Subscript e (.Slice lo hi none p2) pos) (tE z E (fSl op f fl fh)) := by
  obtain ⟨r, h1, h2⟩ := ho.run
  refine pe_mono (pe_slice h1 he hl hh) fun σ H Q ⟨T, G, env, r, h⟩ => ?_
  refine ⟨T, G, env, r, (Pg.bind h).imp fun p hp v H1 G1 r1 e1 w1 => ?_⟩
  obtain ⟨G1', r1', e1', w1'⟩ := w1.opd r1
  refine ⟨T, G1', p.2, r1', (Pg.bind hp).imp fun q hq H2 G2 r2 e2 => ?_⟩
  refine ⟨T, G2, q.2, r2, (Pg.bind hq).imp fun s hs H3 G3 r3 e3 => ?_⟩
  obtain ⟨dx, ex, hs⟩ := (Pg.bind hs).ofO
  exact h2 G3 H3 v _ _ dx Q r3.f.exG ((w1'.mono (fun xs => R.opd_nn _ _) (e2.trans e3)).der r3 ex) (p0_end (E := E) r3 ((Pg.bind hs).imp fun o ho => CR.mono ho ((e1.trans e1').trans (e2.trans e3))) (ho.nx _ _ _))
end

/-! ### built-ins -/
def IsTs (K : PySem.W.Frag) (cl : Cl) (G H : Hp) : List V → List D → Prop
  | [], [] => True
  | v :: vs, d :: ds => IsT K cl G H v d ∧ IsTs K cl G H vs ds
  | _, _ => False
structure CallD (X : Cx) (z : Z) (f : Value) (op : List D → Out R0) : Prop where
  run : ∃ r, CallR X f r ∧ ∀ G H vs ds Q, Ex G H → IsTs z.K z.cl G H vs ds → P0 z G H Q (op ds) → r vs H Q
  nx : ∀ x c d, op x ≠ .exc c d
def derAll (env : Ev) : List R → Option (List D)
  | [] => some []
  | r :: rs => match r.der env with
    | some d => match derAll env rs with
      | some ds => some (d :: ds)
      | none => none
    | none => none
def fBi (op : List D → Out R0) (g : FA) : F := fun env => (g env).bind fun p => (ofO (derAll p.2 p.1)).bind fun ds => (op ds).bind fun o => .ok (o.r, p.2)
section
variable {X : Cx} {z : Z} {E : XK} {n : Nat} {pos p : Pos} {e : Expr} {es : List Expr} {g : FA} {x : Str} {id : String}
theorem VRs.der {T G H : Hp} {env : Ev} {σ : L2.St} (r : Rep z T G H env σ) : ∀ {vs : List V} {rs : List R} {ds : List D}, VRs z T G H env σ vs rs → derAll env rs = some ds → IsTs z.K z.cl G H vs ds
  | [], [], _, _, e => by cases e; trivial
  | v :: vs, s :: rs, ds, ⟨⟨h, _⟩, t⟩, e => by
    unfold derAll at e
    split at e
    · rename_i d q
      split at e
      · rename_i ds' q2
        cases e
        exact ⟨h.der r q, VRs.der r t q2⟩
      · cases e
    · cases e
theorem te_bi {op : List D → Out R0} {r : List V → Hp → VK → Prop} (nx : ∀ x c d, op x ≠ .exc c d) (hr : ∀ G H vs ds Q, Ex G H → IsTs z.K z.cl G H vs ds → P0 z G H Q (op ds) → r vs H Q) {σ : L2.St} {H : Hp} {Q : VK} (h : tE z E (fBi op g) σ H Q) : tCB r (tAr z E g) σ H Q := by
  obtain ⟨T, G, env, rp, h⟩ := h
  refine ⟨T, G, env, rp, (Pg.bind h).imp fun p hp vs H1 G1 r1 e1 w1 => ?_⟩
  obtain ⟨ds, ed, hp⟩ := (Pg.bind hp).ofO
  exact hr G1 H1 vs ds Q r1.f.exG (w1.der r1 ed) (p0_end (E := E) r1 ((Pg.bind hp).imp fun o ho => CR.mono ho e1) (nx _))
theorem we_bi {op : List D → Out R0} (hc : CallD X z (.builtin id) op) (hm : X.mg x = none) (hv : bootBuiltins x = some (.builtin id)) (ha : WA X z E (e :: es) g n) (hg : Gl X x := by rfl) (hn : x ≠ "__name__" := by decide) (hdb : (x == ("__debug__" : Str)) = false := by decide)
    (hs : starEach (e :: es) X.env = (false, eval e X.env) :: starEach es X.env := by rfl) (hpl : (backTo pos (starEach es X.env)).any (·.1) = false := by rfl) : PE X (.Call (.Name x p) (e :: es) [] pos) (tE z E (fBi op g)) := by
  obtain ⟨r, h1, h2⟩ := hc.run
  exact pe_mono (pe_callB h1 hg hm hv ha.pa hn hdb hs hpl) fun _ _ _ h => te_bi hc.nx h2 h
theorem we_ty {op : List D → Out R0} (hc : CallD X z (.type id) op) (hm : X.mg x = none) (hv : bootBuiltins x = some (.type id)) (ha : WA X z E (e :: es) g n) (hg : Gl X x := by rfl) (hn : x ≠ "__name__" := by decide) (hdb : (x == ("__debug__" : Str)) = false := by decide)
    (hs : starEach (e :: es) X.env = (false, eval e X.env) :: starEach es X.env := by rfl) (hpl : (backTo pos (starEach es X.env)).any (·.1) = false := by rfl) : PE X (.Call (.Name x p) (e :: es) [] pos) (tE z E (fBi op g)) := by
  obtain ⟨r, h1, h2⟩ := hc.run
  exact pe_mono (pe_callTy h1 hg hm hv ha.pa hn hdb hs hpl) fun _ _ _ h => te_bi hc.nx h2 h
end
end TN
namespace TN
open PySem PySem.Spec PyProof.Rows L2

/-! ### defs -/
/-- what a def comes to: its result; the list of its first argument behind it, where it writes that -/
abbrev Fn := List D → Out (R0 × List D)
def Z.at_ (z : Z) (G H : Hp) (M : Option Addr) : Z := { z with G0 := G, H0 := H, M := M }
def ResOk (z : Z) (G H : Hp) (v : V) : R0 → Prop
  | .d d => Is z.K z.cl G v d
  | .ls xs => ∃ p vs, v = .ref p ∧ H p = some (.lst vs) ∧ IsA z.K z.cl G vs xs ∧ G p = none ∧ z.H0 p = none ∧ z.M ≠ some p
  | .tp _ => False
/-- the arguments -/
inductive Args' (z : Z) (G H : Hp) : Bool → List V → List D → Option Addr → Prop
  | pure {vs : List V} {ds : List D} : IsA z.K z.cl G vs ds → Args' z G H false vs ds none
  | wr {p : Addr} {ws vs : List V} {xs ds : List D} : G p = none → H p = some (.lst ws) → IsA z.K z.cl G ws xs → IsA z.K z.cl G vs ds → Args' z G H true (.ref p :: vs) (.lst xs :: ds) (some p)
def FEnd (z : Z) (Q : VK) : R0 × List D → Prop := fun q => ∀ v H' G', Fr z G' H' → ResOk z G' H' v q.1 → (∀ a, z.M = some a → ∃ ws, H' a = some (.lst ws) ∧ IsA z.K z.cl G' ws q.2) → Q v H'
/-- a def's promise -/
def spF (z : Z) (m : Bool) (n : Nat) (φ : Fn) : Sp := fun vs H Q E => ∃ G ds M, Args' z G H m vs ds M ∧ Ex G H ∧ vs.length = n ∧ Pg (z.at_ G H M) E (FEnd (z.at_ G H M) Q) (φ ds)
def putL (φ : Fn) (ds : List D) (e : Ev) (i : Nat) : Out (R × Ev) := match e[i]? with
  | some (.own xs) => (φ (.lst xs :: ds)).bind fun s => .ok (s.1.r, e.set i (.own s.2))
  | some (.par xs) => (φ (.lst xs :: ds)).bind fun s => .ok (s.1.r, e.set i (.par s.2))
  | _ => .no
def callK (φ : Fn) : Bool → List R → Ev → Out (R × Ev)
  | false, rs, e => (ofO (fixAll e rs)).bind fun q => (φ q.1).bind fun s => .ok (s.1.r, q.2)
  | true, .at_ i :: rs, e => (ofO (fixAll e rs)).bind fun q => putL φ q.1 q.2 i
  | true, _, _ => .no
def fCall (m : Bool) (φ : Fn) (g : FA) : F := fun env => (g env).bind fun p => callK φ m p.1 p.2
section
variable {z : Z} {E : XK} {T G G' H H' : Hp} {env env' : Ev} {σ : L2.St} {M : Option Addr}
theorem Fr.in (f : Fr z G H) (hM : ∀ a, M = some a → z.H0 a = none ∨ z.M = some a) (f' : Fr (z.at_ G H M) G' H') : Fr z G' H' := by
  refine ⟨f'.exG, f.g0.trans f'.g0, fun a ha => ?_, fun a o ha hm => ?_, fun a ha => ?_, f.m0⟩
  · rcases f'.gn a ha with h | h
    · exact f.gn a h
    · exact .inr (f.nn h).2.1
  · have h := f.fr a o ha hm
    refine f'.fr a o h fun e => ?_
    rcases hM a e with q | q
    · rw [q] at ha; cases ha
    · exact hm q
  · by_cases e : M = some a
    · exact f'.mm a e
    · obtain ⟨⟨vs, h⟩, g⟩ := f.mm a ha
      refine ⟨⟨vs, f'.fr a _ h e⟩, ?_⟩
      cases q : G' a with
      | none => rfl
      | some o =>
        rcases f'.gn a (by rw [q]; intro w; cases w) with w | w
        · exact absurd g w
        · exact absurd w (by show H a ≠ none; rw [h]; intro w; cases w)
theorem PX.in (f : Fr z G H) (hM : ∀ a, M = some a → z.H0 a = none ∨ z.M = some a) {c : Nat} {d : D} (h : PX z E c d) : PX (z.at_ G H M) E c d := fun H' x ⟨G', f', q⟩ => h H' x ⟨G', f.in hM f', q⟩
theorem Pg.in {α : Type} {C C' : α → Prop} (f : Fr z G H) (hM : ∀ a, M = some a → z.H0 a = none ∨ z.M = some a) (i : ∀ a, C a → C' a) : ∀ {x : Out α}, Pg z E C x → Pg (z.at_ G H M) E C' x
  | .ok _, h => i _ h
  | .exc _ _, h => PX.in f hM h
  | .no, h => h
/-- the names behind a call -/
theorem Rep.back (r : Rep z T G H env σ) (hM : ∀ a, M = some a → z.H0 a = none ∨ z.M = some a) (f' : Fr (z.at_ G H M) G' H') (hl : env'.length = env.length) (hs : ∀ (i : Nat) (s : Sl), env'[i]? = some s → (env[i]? = some s ∧ (s.ow = true → ∀ q, σ[i]?.join = some (.ref q) → M ≠ some q)) ∨ SlOk z T G' H' (σ[i]?.join) s)
    (ho : ∀ i q, Ow env' σ i q → Ow env σ i q) (hT : ∀ a, T a ≠ none → M ≠ some a) : Rep z T G' H' env' σ := by
  have gNone : ∀ a, G a = none → H a ≠ none → G' a = none := fun a g h => by
    cases q : G' a with
    | none => rfl
    | some o =>
      rcases f'.gn a (by rw [q]; intro w; cases w) with w | w
      · exact absurd g w
      · exact absurd w h
  refine ⟨r.f.in hM f', hl.trans r.len, fun i s es => ?_, fun i j p h1 h2 => r.dis i j p (ho i p h1) (ho j p h2), fun a o ha => ?_, fun a ha => ?_, r.t0⟩
  · rcases hs i s es with ⟨e0, w⟩ | h
    · refine (r.sl i s e0).to f'.g0 (fun q os eq => ?_) r.f.m0
      obtain ⟨vs, g, t, hq⟩ := r.own (i := i) (p := q) ⟨⟨s, e0, os⟩, eq⟩
      refine ⟨?_, fun _ => gNone q g (by rw [hq]; intro w; cases w)⟩
      rw [hq]
      exact f'.fr q _ hq (w os q eq)
    · exact h
  · exact f'.fr a o (r.exT a o ha) (hT a (by rw [ha]; intro w; cases w))
  · refine gNone a (r.gt a ha) ?_
    cases q : T a with
    | none => exact absurd q ha
    | some o => rw [r.exT a o q]; intro w; cases w
theorem ResOk.vr {v : V} {q : R0} (r : Rep z T G H env σ) (r' : Rep z T G' H' env' σ) (f' : Fr (z.at_ G H M) G' H') (ho : ∀ i q, Ow env' σ i q → Ow env σ i q) (h : ResOk (z.at_ G H M) G' H' v q) : VR z T G' H' env' σ v q.r := by
  cases q with
  | d d => exact h
  | ls xs =>
    obtain ⟨p, vs, e, hp, a, g, h0, hm⟩ := h
    obtain ⟨n1, n2, n3, n4, n5⟩ := r.nn (show H p = none from h0)
    exact ⟨p, vs, e, hp, a, g, n2, n3, n4, fun i w => n5 i (ho i p w)⟩
  | tp xs => exact h.elim
end
section
variable {X : Cx} {z : Z} {E : XK} {k n : Nat} {f : Addr} {fd : FuncData} {ps : List Str} {x : Str} {p pos : Pos} {e : Expr} {es : List Expr} {m : Bool} {φ : Fn} {g : FA} {σ : L2.St} {H : Hp} {Q : VK}
theorem te_call (h : tE z E (fCall m φ g) σ H Q) (hln : ∀ env rs e2, g env = .ok (rs, e2) → rs.length = n) : tCall (spF z m n φ) [] E (tAr z E g) σ H Q := by
  obtain ⟨T, G, env, r, h⟩ := h
  have h' := Pg.bind h
  refine ⟨T, G, env, r, ?_⟩
  cases hq : g env with
  | no => rw [hq] at h'; exact h'
  | exc c d => rw [hq] at h'; exact h'
  | ok p =>
    rw [hq] at h'
    obtain ⟨rs, e2⟩ := p
    have hl := hln env rs e2 hq
    intro vs H1 G1 r1 e1 w1
    rw [List.append_nil]
    have lv : vs.length = n := w1.length.trans hl
    have h' : Pg z E (CR z T σ G Q) (callK φ m rs e2) := h'
    cases m with
    | false =>
      obtain ⟨⟨ds, e3⟩, ef, h'⟩ := (Pg.bind h').ofO
      obtain ⟨G2, r2, x2, a⟩ := w1.fix r1 ef
      have hM : ∀ a, (none : Option Addr) = some a → z.H0 a = none ∨ z.M = some a := fun a e => by cases e
      refine ⟨G2, ds, none, .pure a, r2.f.exG, lv, Pg.in r2.f hM (fun s hs => ?_) (Pg.bind h')⟩
      intro v H' G' f' ro _
      have r3 : Rep z T G' H' e3 σ := r2.back hM f' rfl (fun i s es => .inl ⟨es, fun _ _ _ w => by cases w⟩) (fun _ _ w => w) (fun _ _ w => by cases w)
      exact hs v H' G' r3 ((e1.trans x2).trans f'.g0) (ro.vr r2 r3 f' fun _ _ w => w)
    | true =>
      cases rs with
      | nil => exact h'.elim
      | cons r0 rs =>
        cases r0 with
        | d d => exact h'.elim
        | new xs => exact h'.elim
        | at_ i =>
          cases vs with
          | nil => exact w1.elim
          | cons v0 vs =>
            obtain ⟨⟨w0, _⟩, w1⟩ := w1
            obtain ⟨⟨ds, e3⟩, ef, h'⟩ := (Pg.bind h').ofO
            obtain ⟨G2, r2, x2, a⟩ := w1.fix r1 ef
            have w0 : σ[i]?.join = some v0 := w0
            have main : ∀ (sl : List D → Sl) (xs : List D), e3[i]? = some (sl xs) → ((sl = .own) ∨ (sl = .par)) → Pg z E (CR z T σ G Q) ((φ (.lst xs :: ds)).bind fun s => .ok (s.1.r, e3.set i (sl s.2))) → spF z true n φ (v0 :: vs) H1 Q E := by
              intro sl xs ei hsl h'
              have os : ∀ ys, (sl ys).ow = true := fun ys => by rcases hsl with e | e <;> (rw [e]; rfl)
              have inf : ∃ p ws, v0 = .ref p ∧ G2 p = none ∧ T p = none ∧ H1 p = some (.lst ws) ∧ IsA z.K z.cl G2 ws xs ∧ (sl = .own ∧ z.H0 p = none ∨ sl = .par ∧ z.M = some p) := by
                have q := r2.sl i _ ei
                rw [w0] at q
                rcases hsl with e | e
                · rw [e] at q
                  obtain ⟨p, ws, ev, g1, t, h0, hp, a⟩ := q
                  exact ⟨p, ws, Option.some.inj ev, g1, t, hp, a, .inl ⟨e, h0⟩⟩
                · rw [e] at q
                  obtain ⟨p, ws, ev, t, hm, hp, a⟩ := q
                  exact ⟨p, ws, Option.some.inj ev, (r2.f.mm p hm).2, t, hp, a, .inr ⟨e, hm⟩⟩
              obtain ⟨p, ws, ev, g1, t, hp, a1, hk⟩ := inf
              subst ev
              have how : Ow e3 σ i p := ⟨⟨_, ei, os xs⟩, w0⟩
              have hM : ∀ a, some p = some a → z.H0 a = none ∨ z.M = some a := fun a e => by
                cases e
                rcases hk with ⟨_, h⟩ | ⟨_, h⟩
                · exact .inl h
                · exact .inr h
              refine ⟨G2, .lst xs :: ds, some p, .wr g1 hp a1 a, r2.f.exG, lv, Pg.in r2.f hM (fun s hs => ?_) (Pg.bind h')⟩
              intro v H' G' f' ro mm
              obtain ⟨ws', hp', a'⟩ := mm p rfl
              have ho : ∀ j q, Ow (e3.set i (sl s.2)) σ j q → Ow e3 σ j q := fun j q w => w.of_set fun _ => ⟨_, ei, os xs⟩
              have g' : G' p = none := (f'.mm p rfl).2
              have r3 : Rep z T G' H' (e3.set i (sl s.2)) σ := by
                refine r2.back hM f' (List.length_set ..) (fun j s' es => ?_) ho (fun b hb e => ?_)
                · by_cases q : i = j
                  · subst q
                    rw [List.getElem?_set_self (getElem?_lt ei)] at es
                    cases es
                    right
                    rw [w0]
                    rcases hk with ⟨e, h⟩ | ⟨e, h⟩
                    · rw [e]; exact ⟨p, ws', rfl, g', t, h, hp', a'⟩
                    · rw [e]; exact ⟨p, ws', rfl, t, h, hp', a'⟩
                  · rw [List.getElem?_set_ne q] at es
                    refine .inl ⟨es, fun o q' eq w => q (r2.dis i j p how ⟨⟨_, es, o⟩, ?_⟩)⟩
                    cases w
                    exact eq
                · cases e; exact hb t
              exact hs v H' G' r3 ((e1.trans x2).trans f'.g0) (ro.vr r2 r3 f' ho)
            have h' : Pg z E (CR z T σ G Q) (putL φ ds e3 i) := h'
            unfold putL at h'
            split at h'
            · rename_i xs ei; exact main .own xs ei (.inl rfl) h'
            · rename_i xs ei; exact main .par xs ei (.inr rfl) h'
            · exact h'.elim
theorem we_call (F : FnOk X.prog X.w X.K X.mg X.base (L2.CX X.prog X.w) k f fd ps (spF z m n φ)) (o : OkX X z E k) (hm : X.mg x = some (.ref f)) (hk : PySem.W.keepIn X.K (.ref f) = true) (hb : Binds X.K fd ps [])
    (ha : WA X z E (e :: es) g n) (hg : Gl X x := by rfl) (hdb : (x == ("__debug__" : Str)) = false := by decide) (he : starEach (e :: es) X.env = (false, eval e X.env) :: starEach es X.env := by rfl) (hpl : (backTo pos (starEach es X.env)).any (·.1) = false := by rfl) :
    PE X (.Call (.Name x p) (e :: es) [] pos) (tE z E (fCall m φ g)) :=
  pe_mono (pe_call F o.room hg hm hk hb .nil (passes_call (W := fun c d _ H => E c d H) o.tk fun _ _ _ _ h => h) ha.pa hdb he hpl) fun _ _ _ h => te_call h ha.len
end

/-! ### statements -/
def sNil : S := fun env => .ok (.nx, env)
def sCons (s t : S) : S := fun env => (s env).bind fun p => match p.1 with
  | .nx => t p.2
  | .ret r => .ok (.ret r, p.2)
/-- what a name comes to hold -/
def stored (env : Ev) : R → Option (Sl × Ev)
  | .d x => some (.val x, env)
  | .new xs => some (.own xs, env)
  | .at_ i => match (R.at_ i).fix env with
    | some (x, e) => some (.val x, e)
    | none => none
def sSet (i : Nat) (f : F) : S := fun env => (f env).bind fun p => (ofO (stored p.2 p.1)).bind fun q => if i < q.2.length then .ok (.nx, q.2.set i q.1) else .no
def sRet (f : F) : S := fun env => (f env).bind fun p => .ok (.ret p.1, p.2)
def sRetN : S := fun env => .ok (.ret (.d .non), env)
def sExpr (f : F) : S := fun env => (f env).bind fun p => .ok (.nx, p.2)
def sIf (c : FB) (s t : S) : S := fun env => (c env).bind fun p => if p.1 = true then s p.2 else t p.2
section
variable {X : Cx} {z : Z} {E : XK} {k n : Nat} {pos : Pos} {e c : Expr} {st : Stmt} {rest a b : List Stmt} {f : F} {g : FB} {s t : S} {σ : L2.St} {H : Hp}
theorem CS.mono {T G G' : Hp} {D : Ends} {p : Fl × Ev} (h : CS z T G D p) (e : Ex G G') : CS z T G' D p := by
  obtain ⟨p1, p2⟩ := p
  cases p1 with
  | nx => exact fun σ' H' G'' r x => h σ' H' G'' r (e.trans x)
  | ret r => exact fun v σ' H' G'' r x w => h v σ' H' G'' r (e.trans x) w
theorem wss_nil : PSs X [] (tS z E sNil) := pss_mono pss_nil fun D σ H ⟨T, G, env, r, h⟩ => h σ H G r (Ex.refl G)
theorem ts_seq {D : Ends} (h : tS z E (sCons s t) D σ H) : tSeq (tS z E s) (tS z E t) D σ H := by
  obtain ⟨T, G, env, r, h⟩ := h
  refine ⟨T, G, env, r, (Pg.bind h).imp fun p hp => ?_⟩
  obtain ⟨p1, p2⟩ := p
  cases p1 with
  | nx => exact fun σ' H' G' r' x => ⟨T, G', p2, r', (show Pg z E _ (t p2) from hp).imp fun q hq => hq.mono x⟩
  | ret r => exact hp
theorem wss_cons (h1 : PS X st (tS z E s)) (h2 : PSs X rest (tS z E t)) : PSs X (st :: rest) (tS z E (sCons s t)) := pss_mono (pss_cons h1 h2) fun _ _ _ h => ts_seq h
theorem wss_one (h1 : PS X st (tS z E s)) : PSs X [st] (tS z E s) := pss_one h1
theorem VR.stored {T G : Hp} {env e' : Ev} {v : V} {r : R} {s : Sl} (h : VR z T G H env σ v r) (p : Rep z T G H env σ) (q : stored env r = some (s, e')) : ∃ G', Rep z T G' H e' σ ∧ Ex G G' ∧ SlOk z T G' H (some v) s ∧ (∀ q, s.ow = true → v = .ref q → ∀ j, ¬ Ow e' σ j q) := by
  cases r with
  | d y => cases q; exact ⟨G, p, Ex.refl G, ⟨v, rfl, h⟩, fun q w => by cases w⟩
  | new xs =>
    cases q
    obtain ⟨p', vs, rfl, hp, a, g, t, h0, hm, no⟩ := h
    exact ⟨G, p, Ex.refl G, ⟨p', vs, rfl, g, t, h0, hp, a⟩, fun q _ w => by cases w; exact no⟩
  | at_ i =>
    simp only [TN.stored] at q
    split at q
    · rename_i x e ef
      cases q
      obtain ⟨G', p', x', w⟩ := h.fix p ef
      exact ⟨G', p', x', ⟨v, rfl, w⟩, fun q w => by cases w⟩
    · cases q
theorem ts_set {i : Nat} {D : Ends} (h : tS z E (sSet i f) D σ H) : tE z E f σ H fun v H1 => gName i v σ H1 D.nx := by
  obtain ⟨T, G, env, r, h⟩ := h
  refine ⟨T, G, env, r, (Pg.bind h).imp fun p hp v H' G' r' e w => ?_⟩
  obtain ⟨⟨s, e'⟩, es, hp⟩ := (Pg.bind hp).ofO
  obtain ⟨G2, r2, x2, w2, hd⟩ := w.stored r' es
  split at hp
  · rename_i hi
    exact hp (σ.set i (some v)) H' G2 (r2.set w2 hd hi) (e.trans x2)
  · exact hp.elim
theorem ws_set {i : Nat} {x : Str} {pos' : Pos} (o : OkX X z E k) (he : PE X e (tE z E f)) (hi : X.N[i]? = some x := by rfl) (hx : Loc X.env.scope x := by first | exact .inl rfl | exact .inr rfl) (hs : swapsWith e (some (.Name x pos')) pos.line X.env = pure false := by rfl)
    (hf : X.fn x = true ∨ X.env.scope.names.lookup x = some .local := by first | exact .inl rfl | exact .inr rfl) : PS X (.Assign [.Name x pos'] e pos) (tS z E (sSet i f)) := ps_mono (ps_set o.nd hi hx he hs hf) fun D σ H h => ts_set h
theorem ws_ret (he : PE X e (tE z E f)) : PS X (.Return (some e) pos) (tS z E (sRet f)) := ps_mono (ps_ret he) fun D σ H ⟨T, G, env, r, h⟩ =>
  ⟨T, G, env, r, (Pg.bind h).imp fun p hp v H' G' r' e w => hp v σ H' G' r' e w⟩
theorem ws_retN : PS X (.Return none pos) (tS z E sRetN) := ps_mono ps_retN fun D σ H ⟨T, G, env, r, h⟩ => h _ σ H G r (Ex.refl G) .non
theorem ws_expr (he : PE X e (tE z E f)) (hs : swapsWith e none pos.line X.env = pure false := by rfl) : PS X (.Expr e pos) (tS z E (sExpr f)) := ps_mono (ps_expr he hs) fun D σ H ⟨T, G, env, r, h⟩ =>
  ⟨T, G, env, r, (Pg.bind h).imp fun p hp v H' G' r' e w => hp σ H' G' r' e⟩
theorem ws_if (hc : PT X c (tT z E g)) (ha : PSs X a (tS z E s)) (hb : PSs X b (tS z E t)) : PS X (.If c a b pos) (tS z E (sIf g s t)) := ps_mono (ps_if hc ha hb) fun D σ H ⟨T, G, env, r, h⟩ => by
  refine ⟨T, G, env, r, (Pg.bind h).imp fun p hp H' G' r' e => ?_⟩
  obtain ⟨p1, p2⟩ := p
  cases p1 with
  | true => exact ⟨T, G', p2, r', (show Pg z E _ (s p2) from hp).imp fun q hq => hq.mono e⟩
  | false => exact ⟨T, G', p2, r', (show Pg z E _ (t p2) from hp).imp fun q hq => hq.mono e⟩
theorem ws_pass : PS X (.Pass pos) (tS z E sNil) := ps_mono ps_pass fun D σ H ⟨T, G, env, r, h⟩ => h σ H G r (Ex.refl G)
end

/-! ### while -/
def whileF (c : FB) (s : S) : Nat → S
  | 0, _ => .no
  | n + 1, env => (c env).bind fun p => if p.1 = true then (s p.2).bind fun q => match q.1 with
      | .nx => whileF c s n q.2
      | .ret r => .ok (.ret r, q.2)
    else .ok (.nx, p.2)
def turns : Nat := 100000
def sWhile (c : FB) (s : S) : S := whileF c s turns
section
variable {X : Cx} {z : Z} {E : XK} {k n : Nat} {pos : Pos} {c : Expr} {body : List Stmt} {g : FB} {s : S}
theorem ws_while (o : OkX X z E k) (hc : PT X c (tT z E g)) (hb : PSs X body (tS z E s)) : PS X (.While c body [] pos) (tS z E (sWhile g s)) := ps_mono (ps_while o.po hc hb) fun D σ H ⟨T, G, env, r, h⟩ => by
  refine ⟨fun m σ' H' => ∃ G' env', Rep z T G' H' env' σ' ∧ Ex G G' ∧ Pg z E (CS z T G D) (whileF g s m env'), ⟨turns, G, env, r, Ex.refl G, h⟩, ?_⟩
  rintro m σ1 H1 ⟨G1, env1, r1, x1, h1⟩
  cases m with
  | zero => exact h1.elim
  | succ m =>
    refine ⟨T, G1, env1, r1, (Pg.bind h1).imp fun p hp H2 G2 r2 x2 => ?_⟩
    obtain ⟨p1, p2⟩ := p
    cases p1 with
    | true =>
      refine ⟨fun σ' H' => ∃ G' env', Rep z T G' H' env' σ' ∧ Ex G G' ∧ Pg z E (CS z T G D) (whileF g s m env'), fun σ' H' w => ⟨m, Nat.lt_succ_self m, w⟩, T, G2, p2, r2, (Pg.bind (show Pg z E _ ((s p2).bind _) from hp)).imp fun q hq => ?_⟩
      obtain ⟨q1, q2⟩ := q
      cases q1 with
      | nx => exact fun σ' H' G' r' x => ⟨G', q2, r', (x1.trans x2).trans x, hq⟩
      | ret r => exact fun v σ' H' G' r' x w => hq v σ' H' G' r' ((x1.trans x2).trans x) w
    | false => exact hp σ1 H2 G2 r2 (x1.trans x2)
end
end TN
namespace TN
open PySem PySem.Spec PyProof.Rows L2 RZ

/-! ### what is walked -/
def WalkOk (z : Z) (J : It) (G : Hp) (ds : List D) : Prop := ∀ i H, Ex G H →
  (∀ d, ds[i]? = some d → J.go i H ∧ ∀ x H', J.yld i H x H' → (H' = H ∧ Is z.K z.cl G x d) ∨ ∃ p o, H p = none ∧ H' = upd H p o ∧ Is z.K z.cl (upd G p o) x d) ∧ (ds.length ≤ i → J.stop i H)
abbrev FI := Ev → Out (List D × Ev)
abbrev CI (z : Z) (T : Hp) (σ : L2.St) (G : Hp) (R : It → Hp → Prop) : List D × Ev → Prop := fun p => ∀ J H' G', Rep z T G' H' p.2 σ → Ex G G' → WalkOk z J G' p.1 → R J H'
def tI (z : Z) (E : XK) (f : FI) : TI := fun σ H R => ∃ T G env, Rep z T G H env σ ∧ Pg z E (CI z T σ G R) (f env)
theorem pi_mono {X : Cx} {tg e : Expr} {t t' : TI} (h : PI X tg e t) (f : ∀ σ H R, t' σ H R → t σ H R) : PI X tg e t' := ⟨fun pins s σ H R I q => h.run pins s σ H R I (f σ H R q)⟩
/-- the items of a list, of a tuple -/
def D.items : D → Option (List D)
  | .tup ds => some ds
  | .lst ds => some ds
  | .scr ns => some (ns.map D.int)
  | _ => none
def fSeq (f : F) : FI := fun env => (f env).bind fun p => (ofO (p.1.opd.fix p.2)).bind fun q => (ofO q.1.items).bind fun ds => .ok (ds, q.2)
def iSeq (K : PySem.W.Frag) (tl : TE) : TI := fun σ H R => tl σ H fun x H1 => ∃ a, x = .ref a ∧ ((∃ xs, SqL K H1 a xs) ∧ R (Itl K a) H1 ∨ (∃ xs, SqT K H1 a xs) ∧ R (Itt K a) H1)
theorem pi_seq {X : Cx} {tg l : Expr} {tl : TE} (hl : PE X l tl) : PI X tg l (iSeq X.K tl) := by
  refine ⟨fun pins s σ H R I h => ?_⟩
  refine thn (hl.run pins s σ H _ I h) fun v s1 ⟨x, H1, I1, r1, q1⟩ => ?_
  obtain ⟨a, e, ⟨⟨xs, hq⟩, q⟩ | ⟨⟨xs, hq⟩, q⟩⟩ := q1
  · subst e
    cases r1
    obtain ⟨its, rv, p, hz⟩ := I1.list hq
    refine wpAny_pyIter_list p.isList ?_
    refine ⟨s1.heap.objs.size, [s1.heap.objs.size], _, _, H1, rfl, I1.kept (t' := s1.toks) fun b o e => Heap.get?_push_of_some _ e, turn_list a _, ⟨_, Heap.get?_push_size _ rfl, rfl, rfl⟩, fun b hb => ?_, q⟩
    have e : b = s1.heap.objs.size := by simpa using hb
    subst e
    exact I1.fpOk (Nat.le_refl _) (I1.hok.fresh (Nat.le_refl _))
  · subst e
    cases r1
    obtain ⟨its, rv, p, hz⟩ := I1.tuple hq
    refine wpAny_pyIter_tuple (show s1.heap.IsTuple a its.toArray from p) ?_
    refine ⟨s1.heap.objs.size, [s1.heap.objs.size], _, _, H1, rfl, I1.kept (t' := s1.toks) fun b o e => Heap.get?_push_of_some _ e, turn_tuple a _, ⟨_, Heap.get?_push_size _ rfl, rfl, rfl⟩, fun b hb => ?_, q⟩
    have e : b = s1.heap.objs.size := by simpa using hb
    subst e
    exact I1.fpOk (Nat.le_refl _) (I1.hok.fresh (Nat.le_refl _))
section
variable {z : Z} {G : Hp} {a b : Addr} {vs ws : List V} {ds es : List D}
theorem walkOk_l (hl : SqL z.K G a vs) (h : IsA z.K z.cl G vs ds) : WalkOk z (Itl z.K a) G ds := fun i H e => ⟨fun d hd => by
  obtain ⟨v, hv, w⟩ := h.get hd
  exact ⟨⟨vs, v, ex_l e hl, hv⟩, fun x H' y => .inl ⟨y.1, by
    have q := y.2 vs (ex_l e hl)
    rw [hv] at q
    cases q
    exact w⟩⟩, fun hi => ⟨vs, ex_l e hl, by rw [h.length]; exact hi⟩⟩
theorem walkOk_t (hl : SqT z.K G a vs) (h : IsA z.K z.cl G vs ds) : WalkOk z (Itt z.K a) G ds := fun i H e => ⟨fun d hd => by
  obtain ⟨v, hv, w⟩ := h.get hd
  exact ⟨⟨vs, v, ex_t e hl, hv⟩, fun x H' y => .inl ⟨y.1, by
    have q := y.2 vs (ex_t e hl)
    rw [hv] at q
    cases q
    exact w⟩⟩, fun hi => ⟨vs, ex_t e hl, by rw [h.length]; exact hi⟩⟩
/-- lo, lo + 1, .. -/
def rng (lo hi : Int) : List D := (List.range (hi - lo).toNat).map fun (k : Nat) => D.int (lo + k)
theorem walkOk_r {lo hi : Int} {n : Nat} (hn : n = (hi - lo).toNat) : WalkOk z (Itr lo n) G (rng lo hi) := fun i H e => by
  subst hn
  refine ⟨fun d hd => ?_, fun hi => ?_⟩
  · unfold rng at hd
    rw [List.getElem?_map, Option.map_eq_some_iff] at hd
    obtain ⟨k, hk, rfl⟩ := hd
    obtain ⟨h1, h2⟩ := List.getElem?_eq_some_iff.mp hk
    rw [List.length_range] at h1
    rw [List.getElem_range] at h2
    subst h2
    exact ⟨h1, fun x H' y => .inl ⟨y.1, by rw [y.2]; exact .int _⟩⟩
  · unfold rng at hi
    rw [List.length_map, List.length_range] at hi
    exact hi
theorem isPair {x y : V} {d e : D} {p : Addr} (hx : Is z.K z.cl G x d) (hy : Is z.K z.cl G y e) (hp : G p = none) : Is z.K z.cl (upd G p (.tup [x, y])) (.ref p) (.wtup [d, e]) :=
  .wtup (.inl (.inl upd_same)) (.cons (hx.mono (Ex.new hp)) (.cons (hy.mono (Ex.new hp)) .nil))
theorem zip_get {α β γ : Type} {f : α → β → γ} {xs : List α} {ys : List β} {i : Nat} {d : γ} (h : (List.zipWith f xs ys)[i]? = some d) : ∃ x y, xs[i]? = some x ∧ ys[i]? = some y ∧ d = f x y := by
  rw [List.getElem?_zipWith] at h
  split at h
  · rename_i x y h1 h2; cases h; exact ⟨x, y, h1, h2, rfl⟩
  · cases h
theorem walkOk_z (hl : SqL z.K G a vs) (hm : SqL z.K G b ws) (h : IsA z.K z.cl G vs ds) (h' : IsA z.K z.cl G ws es) : WalkOk z (Itz z.K a b) G (List.zipWith (fun x y => D.wtup [x, y]) ds es) := fun i H e => by
  refine ⟨fun d hd => ?_, fun hi => ?_⟩
  · obtain ⟨d1, d2, h1, h2, rfl⟩ := zip_get hd
    obtain ⟨v, hv, wv⟩ := h.get h1
    obtain ⟨w, hw, ww⟩ := h'.get h2
    refine ⟨⟨vs, ws, v, w, ex_l e hl, ex_l e hm, hv, hw⟩, fun x H' y => ?_⟩
    obtain ⟨T, x1, y1, rfl, hT, rfl, q1, q2⟩ := y
    have q1 := q1 vs (ex_l e hl)
    have q2 := q2 ws (ex_l e hm)
    rw [hv] at q1; rw [hw] at q2
    cases q1; cases q2
    exact .inr ⟨T, _, hT, rfl, isPair wv ww (e.nn hT)⟩
  · rw [List.length_zipWith, ← h.length, ← h'.length] at hi
    exact ⟨vs, ws, ex_l e hl, ex_l e hm, by omega⟩
theorem walkOk_zT (hl : SqT z.K G a vs) (hm : SqT z.K G b ws) (h : IsA z.K z.cl G vs ds) (h' : IsA z.K z.cl G ws es) : WalkOk z (ItzT z.K a b) G (List.zipWith (fun x y => D.wtup [x, y]) ds es) := fun i H e => by
  refine ⟨fun d hd => ?_, fun hi => ?_⟩
  · obtain ⟨d1, d2, h1, h2, rfl⟩ := zip_get hd
    obtain ⟨v, hv, wv⟩ := h.get h1
    obtain ⟨w, hw, ww⟩ := h'.get h2
    refine ⟨⟨vs, ws, v, w, ex_t e hl, ex_t e hm, hv, hw⟩, fun x H' y => ?_⟩
    obtain ⟨T, x1, y1, rfl, hT, rfl, q1, q2⟩ := y
    have q1 := q1 vs (ex_t e hl)
    have q2 := q2 ws (ex_t e hm)
    rw [hv] at q1; rw [hw] at q2
    cases q1; cases q2
    exact .inr ⟨T, _, hT, rfl, isPair wv ww (e.nn hT)⟩
  · rw [List.length_zipWith, ← h.length, ← h'.length] at hi
    exact ⟨vs, ws, ex_t e hl, ex_t e hm, by omega⟩
def enumD : Nat → List D → List D
  | _, [] => []
  | i, d :: ds => D.wtup [.int (i : Nat), d] :: enumD (i + 1) ds
theorem enumD_get : ∀ {ds : List D} {k i : Nat} {d : D}, (enumD k ds)[i]? = some d → ∃ e, ds[i]? = some e ∧ d = D.wtup [.int ((k + i : Nat) : Int), e]
  | [], _, _, _, h => by simp [enumD] at h
  | e :: ds, k, 0, d, h => by simp [enumD] at h; exact ⟨e, rfl, by rw [← h]; simp⟩
  | e :: ds, k, i + 1, d, h => by
    obtain ⟨e', h1, h2⟩ := enumD_get (ds := ds) (k := k + 1) (i := i) (by simpa [enumD] using h)
    exact ⟨e', by simpa using h1, by rw [h2]; congr 3; omega⟩
theorem enumD_length : ∀ (ds : List D) (k : Nat), (enumD k ds).length = ds.length
  | [], _ => rfl
  | _ :: ds, k => by simp [enumD, enumD_length ds]
theorem walkOk_e (hl : SqL z.K G a vs) (h : IsA z.K z.cl G vs ds) : WalkOk z (Ite z.K a) G (enumD 0 ds) := fun i H e => by
  refine ⟨fun d hd => ?_, fun hi => ?_⟩
  · obtain ⟨d1, h1, rfl⟩ := enumD_get hd
    obtain ⟨v, hv, wv⟩ := h.get h1
    refine ⟨⟨vs, v, ex_l e hl, hv⟩, fun x H' y => ?_⟩
    obtain ⟨T, x1, rfl, hT, rfl, q1⟩ := y
    have q1 := q1 vs (ex_l e hl)
    rw [hv] at q1
    cases q1
    rw [Nat.zero_add]
    exact .inr ⟨T, _, hT, rfl, isPair (.int _) wv (e.nn hT)⟩
  · rw [enumD_length, ← h.length] at hi
    exact ⟨vs, ex_l e hl, hi⟩
end
section
variable {X : Cx} {z : Z} {E : XK} {k n : Nat} {tg e e2 : Expr} {es : List Expr} {f : F} {g : FA} {p pos tpos : Pos}
theorem wi_seq (hK : X.K = z.K) (he : PE X e (tE z E f)) : PI X tg e (tI z E (fSeq f)) := pi_mono (pi_seq he) fun σ H R ⟨T, G, env, r, h⟩ => by
  rw [hK]
  refine ⟨T, G, env, r, (Pg.bind h).imp fun p hp v H1 G1 r1 e1 w1 => ?_⟩
  obtain ⟨G2, r2, e2, w2⟩ := w1.opd r1
  obtain ⟨⟨d, e3⟩, ef, hp⟩ := (Pg.bind hp).ofO
  obtain ⟨ds, ed, hp⟩ := (Pg.bind hp).ofO
  obtain ⟨G3, r3, x3, w3⟩ := w2.fix r2 ef
  have hf : ∀ J, WalkOk z J G3 ds → R J H1 := fun J wk => hp J H1 G3 r3 ((e1.trans e2).trans x3) wk
  clear hp
  cases w3 with
  | tup hs a => cases ed; exact ⟨_, rfl, .inr ⟨⟨_, ex_t r3.f.exG hs.sq⟩, hf _ (walkOk_t hs.sq a)⟩⟩
  | lst hs a => cases ed; exact ⟨_, rfl, .inl ⟨⟨_, ex_l r3.f.exG (SqL.of hs)⟩, hf _ (walkOk_l (SqL.of hs) a)⟩⟩
  | @scr a ns hs => cases ed; exact ⟨_, rfl, .inl ⟨⟨_, ex_l r3.f.exG hs⟩, hf _ (walkOk_l hs (IsA.ofInts ns))⟩⟩
  | _ => cases ed
def fRng1 (g : FA) : FI := fun env => (g env).bind fun p => match derAll p.2 p.1 with
  | some [.int j] => if -(2 ^ 62) ≤ j ∧ j < 2 ^ 62 then .ok (rng 0 j, p.2) else .no
  | _ => .no
def fRng2 (g : FA) : FI := fun env => (g env).bind fun p => match derAll p.2 p.1 with
  | some [.int i, .int j] => if (-(2 ^ 62) ≤ i ∧ i < 2 ^ 62) ∧ -(2 ^ 62) ≤ j ∧ j < 2 ^ 62 then .ok (rng i j, p.2) else .no
  | _ => .no
theorem isInt {K : PySem.W.Frag} {cl : Cl} {G H : Hp} {v : V} {i : Int} (h : IsT K cl G H v (.int i)) : v = .int i := by
  rcases h with h | ⟨_, _, _, _, e, _⟩
  · cases h; rfl
  · cases e
theorem isTs1 {K : PySem.W.Frag} {cl : Cl} {G H : Hp} {vs : List V} {d : D} (h : IsTs K cl G H vs [d]) : ∃ v, vs = [v] ∧ IsT K cl G H v d := by
  cases vs with
  | nil => exact h.elim
  | cons v vs =>
    cases vs with
    | nil => exact ⟨v, rfl, h.1⟩
    | cons _ _ => exact h.2.elim
theorem isTs2 {K : PySem.W.Frag} {cl : Cl} {G H : Hp} {vs : List V} {d e : D} (h : IsTs K cl G H vs [d, e]) : ∃ v w, vs = [v, w] ∧ IsT K cl G H v d ∧ IsT K cl G H w e := by
  cases vs with
  | nil => exact h.elim
  | cons v vs =>
    obtain ⟨w, rfl, q⟩ := isTs1 h.2
    exact ⟨v, w, rfl, h.1, q⟩
theorem wi_rng1 (hm : X.mg "range" = none) (ha : WA X z E [e] g n) (hg : Gl X "range" := by rfl) (hs : starEach [e] X.env = [(false, eval e X.env)] := by rfl) : PI X tg (.Call (.Name "range" p) [e] [] pos) (tI z E (fRng1 g)) :=
  pi_mono (pi_range1 hg hm ha.pa hs) fun σ H R ⟨T, G, env, r, h⟩ => by
  refine ⟨T, G, env, r, (Pg.bind h).imp fun p hp vs H1 G1 r1 e1 w1 => ?_⟩
  split at hp
  · rename_i j ed
    obtain ⟨v, rfl, w⟩ := isTs1 (w1.der r1 ed)
    split at hp
    · rename_i hj
      exact ⟨j, by rw [isInt w], hj.1, hj.2, hp _ H1 G1 r1 e1 (walkOk_r (by simp))⟩
    · exact hp.elim
  · exact hp.elim
theorem wi_rng2 (hm : X.mg "range" = none) (ha : WA X z E [e, e2] g n) (hg : Gl X "range" := by rfl) (hs : starEach [e, e2] X.env = [(false, eval e X.env), (false, eval e2 X.env)] := by rfl) (hs2 : starEach [e2] X.env = [(false, eval e2 X.env)] := by rfl) : PI X tg (.Call (.Name "range" p) [e, e2] [] pos) (tI z E (fRng2 g)) :=
  pi_mono (pi_range2 hg hm ha.pa hs hs2) fun σ H R ⟨T, G, env, r, h⟩ => by
  refine ⟨T, G, env, r, (Pg.bind h).imp fun p hp vs H1 G1 r1 e1 w1 => ?_⟩
  split at hp
  · rename_i i j ed
    obtain ⟨v, w, rfl, wv, ww⟩ := isTs2 (w1.der r1 ed)
    split at hp
    · rename_i hj
      exact ⟨i, j, by rw [isInt wv, isInt ww], ⟨hj.1.1, hj.1.2, hj.2.1, hj.2.2⟩, hp _ H1 G1 r1 e1 (walkOk_r rfl)⟩
    · exact hp.elim
  · exact hp.elim
def fZip (g : FA) : FI := fun env => (g env).bind fun p => match fixAll p.2 p.1 with
  | some ([.tup a, .tup b], e) => .ok (List.zipWith (fun x y => D.wtup [x, y]) a b, e)
  | some ([.lst a, .lst b], e) => .ok (List.zipWith (fun x y => D.wtup [x, y]) a b, e)
  | _ => .no
theorem wi_zip {elts : List Expr} {kk : Nat} (hK : X.K = z.K) (hm : X.mg "zip" = none) (ha : WA X z E [e, e2] g n) (hg : Gl X "zip" := by rfl) (hs : starEach [e, e2] X.env = (false, eval e X.env) :: starEach [e2] X.env := by rfl) (hs2 : (backTo pos (starEach [e2] X.env)).any (·.1) = false := by rfl) :
    PI X (.Tuple elts kk tpos) (.Call (.Name "zip" p) [e, e2] [] pos) (tI z E (fZip g)) :=
  pi_mono (pi_zipA hg hm ha.pa hs hs2) fun σ H R ⟨T, G, env, r, h⟩ => by
  rw [hK]
  refine ⟨T, G, env, r, (Pg.bind h).imp fun p hp vs H1 G1 r1 e1 w1 => ?_⟩
  split at hp
  · rename_i a b en ed
    obtain ⟨G2, r2, x2, w⟩ := w1.fix r1 ed
    cases w with
    | cons wa w =>
      cases w with
      | cons wb w =>
        cases w
        cases wa with
        | tup ha a =>
          cases wb with
          | tup hb b => exact ⟨_, _, _, _, rfl, .inr ⟨ex_t r2.f.exG ha.sq, ex_t r2.f.exG hb.sq, hp _ H1 G2 r2 (e1.trans x2) (walkOk_zT ha.sq hb.sq a b)⟩⟩
  · rename_i a b en ed
    obtain ⟨G2, r2, x2, w⟩ := w1.fix r1 ed
    cases w with
    | cons wa w =>
      cases w with
      | cons wb w =>
        cases w
        cases wa with
        | lst ha a =>
          cases wb with
          | lst hb b => exact ⟨_, _, _, _, rfl, .inl ⟨ex_l r2.f.exG (SqL.of ha), ex_l r2.f.exG (SqL.of hb), hp _ H1 G2 r2 (e1.trans x2) (walkOk_z (SqL.of ha) (SqL.of hb) a b)⟩⟩
  · exact hp.elim
end

/-! ### targets -/
/-- a target: what it makes of the names -/
abbrev GA := D → Ev → Option Ev
def gN (i : Nat) : GA := fun d env => if i < env.length then some (env.set i (.val d)) else none
def gTs : List Nat → List D → Ev → Option Ev
  | [], [], env => some env
  | i :: is, d :: ds, env => match gN i d env with
    | some e => gTs is ds e
    | none => none
  | _, _, _ => none
def gT (is : List Nat) : GA := fun d env => match d with
  | .tup ds => gTs is ds env
  | .wtup ds => gTs is ds env
  | .lst ds => gTs is ds env
  | _ => none
def tG (z : Z) (is : List Nat) (ga : GA) : TG := fun v σ H Q => ∃ T G env d env', Rep z T G H env σ ∧ Is z.K z.cl G v d ∧ ga d env = some env' ∧ ∀ σ', Rep z T G H env' σ' → (∀ vs, (∀ i ∈ is, i ∈ vs) → wipe σ' vs = wipe σ vs) → Q σ' H
def tGs (z : Z) (is : List Nat) : TGs := fun vs σ H Q => ∃ T G env ds env', Rep z T G H env σ ∧ IsA z.K z.cl G vs ds ∧ gTs is ds env = some env' ∧ ∀ σ', Rep z T G H env' σ' → (∀ vs, (∀ i ∈ is, i ∈ vs) → wipe σ' vs = wipe σ vs) → Q σ' H
theorem wipe_set {σ : L2.St} {i : Nat} {x : Option V} : ∀ {vs : List Nat}, i ∈ vs → wipe (σ.set i x) vs = wipe σ vs := by
  intro vs hi
  apply List.ext_getElem?
  intro j
  by_cases hj : j ∈ vs
  · have len : ∀ τ : L2.St, τ.length = σ.length → (wipe τ vs)[j]? = if j < σ.length then some none else none := fun τ hτ => by
      by_cases hl : j < σ.length
      · rw [if_pos hl]
        cases q : (wipe τ vs)[j]? with
        | none =>
          rw [List.getElem?_eq_none_iff, wipe_length, hτ] at q
          omega
        | some o =>
          cases o with
          | none => rfl
          | some v => exact absurd hj (wipe_some q).2
      · rw [if_neg hl, List.getElem?_eq_none (by rw [wipe_length, hτ]; omega)]
    rw [len _ (List.length_set ..), len _ rfl]
  · have ne : i ≠ j := fun e => hj (e ▸ hi)
    have out : ∀ τ : L2.St, (wipe τ vs)[j]? = τ[j]? := fun τ => by
      clear hi
      induction vs with
      | nil => rfl
      | cons v vs ih =>
        have h1 : v ≠ j := fun e => hj (by rw [e]; exact List.mem_cons_self)
        show ((wipe τ vs).set v none)[j]? = _
        rw [List.getElem?_set_ne h1]
        exact ih (fun m => hj (List.mem_cons_of_mem _ m))
    rw [out, out, List.getElem?_set_ne ne]
section
variable {X : Cx} {z : Z} {E : XK} {k n : Nat} {pos : Pos} {es : List Expr}
theorem tg_name {i : Nat} {v : V} {σ : L2.St} {H : Hp} {Q : L2.St → Hp → Prop} (h : tG z [i] (gN i) v σ H Q) : gName i v σ H Q := by
  obtain ⟨T, G, env, d, env', r, w, e, h⟩ := h
  unfold gN at e
  split at e
  · rename_i hi
    cases e
    exact h _ (r.set ⟨v, rfl, w⟩ (fun q e => by cases e) hi) fun vs hv => wipe_set (hv i (by simp))
  · cases e
theorem wg_name (nd : X.N.Nodup) (i : Nat) {x : Str} (hi : X.N[i]? = some x := by rfl) (hx : Loc X.env.scope x := by first | exact .inl rfl | exact .inr rfl) (hf : X.fn x = true ∨ X.env.scope.names.lookup x = some .local := by first | exact .inl rfl | exact .inr rfl) : PG X (.Name x pos) (tG z [i] (gN i)) := by
  have h := pg_name (X := X) (pos := pos) nd hi hx hf
  exact ⟨fun pins s σ H v u Q I r w => h.run pins s σ H v u Q I r (tg_name w)⟩
theorem wgs_nil : PGs X [] (tGs z []) := ⟨fun pins s σ H vs us Q I r ⟨T, G, env, ds, env', rp, w, e, h⟩ => pgs_nil.run pins s σ H vs us Q I r (by
  cases w with
  | nil => cases e; exact ⟨rfl, h σ rp fun _ _ => rfl⟩
  | cons _ _ => cases e)⟩
theorem wgs_cons {e : Expr} {i : Nat} {is : List Nat} (h1 : PG X e (tG z [i] (gN i))) (h2 : PGs X es (tGs z is)) (hs : (assignEach (e :: es) X.env).map (·.2) = assign e X.env :: (assignEach es X.env).map (·.2) := by rfl) : PGs X (e :: es) (tGs z (i :: is)) := by
  refine ⟨fun pins s σ H vs us Q I r ⟨T, G, env, ds, env', rp, w, ee, h⟩ => (pgs_cons h1 h2 hs).run pins s σ H vs us Q I r ?_⟩
  cases w with
  | nil => cases ee
  | @cons v vs d ds w ws =>
    simp only [gTs] at ee
    split at ee
    · rename_i e1 q
      refine ⟨v, vs, rfl, T, G, env, d, e1, rp, w, q, fun σ' r' hw => ⟨T, G, e1, ds, env', r', ws, ee, fun σ2 r2 hw2 => h σ2 r2 fun vs hv => ?_⟩⟩
      rw [hw2 vs fun j hj => hv j (List.mem_cons_of_mem _ hj)]
      exact hw vs fun j hj => hv j (by cases List.mem_singleton.mp hj; exact List.mem_cons_self)
    · cases ee
theorem wg_tup {is : List Nat} {kk : Nat} (hK : X.K = z.K) (hc : X.calm = true) (h : PGs X es (tGs z is)) (hl : is.length = es.length := by rfl) (hn : (assignEach es X.env).length = es.length := by rfl) (hst : (assignEach es X.env).findIdx? (·.1) = none := by rfl) : PG X (.Tuple es kk pos) (tG z is (gT is)) := by
  refine ⟨fun pins s σ H v u Q I r ⟨T, G, env, d, env', rp, w, ee, h'⟩ => ?_⟩
  have gl : ∀ {is : List Nat} {ds : List D} {env env' : Ev}, gTs is ds env = some env' → ds.length = is.length := by
    intro is
    induction is with
    | nil => intro ds env env' e; cases ds <;> first | rfl | cases e
    | cons i is ih =>
      intro ds env env' e
      cases ds with
      | nil => cases e
      | cons d ds =>
        simp only [gTs] at e
        split at e
        · rw [List.length_cons, List.length_cons, ih e]
        · cases e
  unfold gT at ee
  split at ee
  · rename_i ds
    cases w with
    | @tup a vs _ hs ha =>
      refine (pg_tup hc h hn hst).run pins s σ H _ u Q I r ?_
      rw [hK]
      exact ⟨a, vs, rfl, ex_t rp.f.exG hs.sq, by rw [ha.length, gl ee, hl], T, G, env, ds, env', rp, ha, ee, h'⟩
  · rename_i ds
    cases w with
    | @wtup a vs _ hs ha =>
      refine (pg_tup hc h hn hst).run pins s σ H _ u Q I r ?_
      rw [hK]
      exact ⟨a, vs, rfl, ex_t rp.f.exG hs, by rw [ha.length, gl ee, hl], T, G, env, ds, env', rp, ha, ee, h'⟩
  · rename_i ds
    cases w with
    | @lst a vs _ hs ha =>
      refine (pg_unl hc h hn hst).run pins s σ H _ u Q I r ?_
      rw [hK]
      exact ⟨a, vs, rfl, SqL.of (rp.f.exG _ _ hs), by rw [ha.length, gl ee, hl], T, G, env, ds, env', rp, ha, ee, h'⟩
  · cases ee
end

/-! ### for -/
def forF (ga : GA) (s : S) : List D → S
  | [], env => .ok (.nx, env)
  | d :: ds, env => (ofO (ga d env)).bind fun e => (s e).bind fun q => match q.1 with
    | .nx => forF ga s ds q.2
    | .ret r => .ok (.ret r, q.2)
def sFor (fi : FI) (ga : GA) (s : S) : S := fun env => (fi env).bind fun p => forF ga s p.1 p.2
section
variable {X : Cx} {z : Z} {E : XK} {k n : Nat} {pos : Pos} {tg iter : Expr} {body : List Stmt} {fi : FI} {ga : GA} {is : List Nat} {s : S}
theorem Rep.yield {T G H H' : Hp} {env : Ev} {σ : L2.St} {x : V} {d : D} (r : Rep z T G H env σ) (y : (H' = H ∧ Is z.K z.cl G x d) ∨ ∃ p o, H p = none ∧ H' = upd H p o ∧ Is z.K z.cl (upd G p o) x d) : ∃ G', Rep z T G' H' env σ ∧ Ex G G' ∧ Is z.K z.cl G' x d := by
  rcases y with ⟨rfl, w⟩ | ⟨p, o, hp, rfl, w⟩
  · exact ⟨G, r, Ex.refl G, w⟩
  · exact ⟨_, r.grow hp, Ex.new (r.nn hp).1, w⟩
/-- the item at the turn, at a later heap -/
theorem WalkOk.at_ {J : It} {G G' H : Hp} {ds : List D} {i : Nat} {d : D} (w : WalkOk z J G ds) (e : Ex G G') (eh : Ex G' H) (hd : ds[i]? = some d) : J.go i H ∧ ∀ x H', J.yld i H x H' → (H' = H ∧ Is z.K z.cl G' x d) ∨ ∃ p o, H p = none ∧ H' = upd H p o ∧ Is z.K z.cl (upd G' p o) x d := by
  obtain ⟨h1, h2⟩ := (w i H (e.trans eh)).1 d hd
  refine ⟨h1, fun x H' y => ?_⟩
  rcases h2 x H' y with ⟨rfl, q⟩ | ⟨p, o, hp, rfl, q⟩
  · exact .inl ⟨rfl, q.mono e⟩
  · exact .inr ⟨p, o, hp, rfl, q.mono e.both⟩
theorem drop_cons {α : Type} {l : List α} {i : Nat} {x : α} {r : List α} (h : l.drop i = x :: r) : l[i]? = some x ∧ l.drop (i + 1) = r := by
  constructor
  · have := List.getElem?_drop (xs := l) (i := i) (j := 0)
    rw [h] at this
    simpa using this.symm
  · rw [← List.drop_drop, h]; rfl
theorem ws_for (o : OkX X z E k) (hi : PI X tg iter (tI z E fi)) (hg : PG X tg (tG z is ga)) (hb : PSs X body (tS z E s)) (hs : ∀ x, foldedSetIterable iter X.env x = pure x := by intro _; rfl) : PS X (.For tg iter body [] pos) (tS z E (sFor fi ga s)) := ps_mono (ps_for o.po o.calm hi hg hb hs) fun D σ H ⟨T, G, env, r, h⟩ => by
  refine ⟨T, G, env, r, (Pg.bind h).imp fun p hp J H1 G1 r1 e1 wk => ?_⟩
  obtain ⟨ds, env1⟩ := p
  refine ⟨fun i m σ' H' => ∃ G' env', Rep z T G' H' env' σ' ∧ Ex G1 G' ∧ m + i = ds.length ∧ Pg z E (CS z T G D) (forF ga s (ds.drop i) env'), ⟨ds.length, G1, env1, r1, Ex.refl G1, rfl, hp⟩, ?_⟩
  rintro i m σ2 H2 ⟨G2, env2, r2, x2, em, h2⟩
  cases q : ds.drop i with
  | nil =>
    rw [q] at h2
    have hl : ds.length ≤ i := by
      have := congrArg List.length q
      rw [List.length_drop] at this
      simp at this
      omega
    exact .inl ⟨(wk i H2 (x2.trans r2.f.exG)).2 hl, h2 σ2 H2 G2 r2 (e1.trans x2)⟩
  | cons d rest =>
    rw [q] at h2
    obtain ⟨hd, hr⟩ := drop_cons q
    obtain ⟨hgo, hy⟩ := wk.at_ x2 r2.f.exG hd
    have hl : i < ds.length := getElem?_lt hd
    obtain ⟨e, eg, h2⟩ := (Pg.bind h2).ofO
    refine .inr ⟨hgo, fun σ' H' => ∃ G' env', Rep z T G' H' env' σ' ∧ Ex G1 G' ∧ Pg z E (CS z T G D) (forF ga s rest env'), fun σ' H' ⟨G', env', r', x', h'⟩ => ⟨m - 1, by omega, G', env', r', x', by omega, by rw [hr]; exact h'⟩, fun x H' y => ?_⟩
    obtain ⟨G3, r3, x3, w3⟩ := r2.yield (hy x H' y)
    refine ⟨T, G3, env2, d, e, r3, w3, eg, fun σ' r' _ => ⟨T, G3, e, r', (Pg.bind h2).imp fun q hq => ?_⟩⟩
    obtain ⟨q1, q2⟩ := q
    cases q1 with
    | nx => exact fun σ4 H4 G4 r4 x4 => ⟨G4, q2, r4, (x2.trans x3).trans x4, hq⟩
    | ret rr => exact fun v σ4 H4 G4 r4 x4 w4 => hq v σ4 H4 G4 r4 (e1.trans ((x2.trans x3).trans x4)) w4
end
end TN
namespace TN
open PySem PySem.Spec PyProof.Rows L2

abbrev E0 : XK := fun _ _ _ => False
def noX {α : Type} : Out α → Out α
  | .ok a => .ok a
  | _ => .no
theorem Pg.noX {α : Type} {z : Z} {E : XK} {C : α → Prop} : ∀ {x : Out α}, Pg z E C (noX x) → Pg z E0 C x
  | .ok _, h => h
  | .exc _ _, h => h.elim
  | .no, h => h
def wipeE (env : Ev) : List Nat → Ev
  | [] => env
  | v :: vs => (wipeE env vs).set v .no
section
variable {z : Z} {T T' G G' H H' : Hp} {env env' : Ev} {σ : L2.St} {Da : Addr} {o : HO}
theorem Rep.wipe (r : Rep z T G H env σ) : ∀ vs : List Nat, Rep z T G H (wipeE env vs) (wipe σ vs)
  | [] => r
  | v :: vs => (r.wipe vs).forget none
theorem Rep.temp (r : Rep z T G H env σ) (hH : ∀ a, a ≠ Da → H' a = H a) (g : G Da = none) (h0 : z.H0 Da = none) (no : ∀ i, ¬ Ow env σ i Da) (hT : Ex T' H') (ht : ∀ a, T' a ≠ none → a = Da ∨ T a ≠ none) : Rep z T' G H' env σ := by
  have hm : z.M ≠ some Da := fun e => r.f.m0 Da e h0
  refine ⟨⟨fun a u ha => ?_, r.f.g0, r.f.gn, fun a u ha hm' => ?_, fun a ha => ?_, r.f.m0⟩, r.len, fun i s es => ?_, r.dis, hT, fun a ha => ?_, fun a ha => ?_⟩
  · rw [hH a (fun e => by rw [e, g] at ha; cases ha)]; exact r.f.exG a u ha
  · rw [hH a (fun e => by rw [e, h0] at ha; cases ha)]; exact r.f.fr a u ha hm'
  · rw [hH a (fun e => hm (e ▸ ha))]; exact r.f.mm a ha
  · have w := r.sl i s es
    have tn : ∀ p, p ≠ Da → T p = none → T' p = none := fun p hp ht0 => by
      cases q : T' p with
      | none => rfl
      | some u => rcases ht p (by rw [q]; intro w; cases w) with e | e
                  · exact absurd e hp
                  · exact absurd ht0 e
    cases s with
    | no => trivial
    | val d => exact w
    | own xs =>
      obtain ⟨p, vs, e1, g1, t1, h1, hp, a⟩ := w
      have ne : p ≠ Da := fun e => no i ⟨⟨_, es, rfl⟩, by rw [e1, e]⟩
      exact ⟨p, vs, e1, g1, tn p ne t1, h1, (hH p ne).trans hp, a⟩
    | par xs =>
      obtain ⟨p, vs, e1, t1, h1, hp, a⟩ := w
      have ne : p ≠ Da := fun e => no i ⟨⟨_, es, rfl⟩, by rw [e1, e]⟩
      exact ⟨p, vs, e1, tn p ne t1, h1, (hH p ne).trans hp, a⟩
  · rcases ht a ha with e | e
    · rw [e]; exact g
    · exact r.gt a e
  · rcases ht a ha with e | e
    · rw [e]; exact h0
    · exact r.t0 a e
theorem Rep.noOw (r : Rep z T G H env σ) (h : T Da ≠ none) : ∀ i, ¬ Ow env σ i Da := fun i hi => by
  obtain ⟨vs, _, t, _⟩ := r.own hi
  exact h t
end
/-- the names of a block as they were ahead of it -/
def oldS (env : Ev) (i : Nat) : Sl := match env[i]? with
  | some (.val d) => .val d
  | _ => .no
def rstF (old : Nat → Sl) (vs : List Nat) : Nat → List Sl → List Sl
  | _, [] => []
  | i, s :: r => (if vs.contains i then old i else s) :: rstF old vs (i + 1) r
theorem rstF_get (old : Nat → Sl) (vs : List Nat) : ∀ (l : List Sl) (k i : Nat), (rstF old vs k l)[i]? = (l[i]?).map fun s => if vs.contains (k + i) then old (k + i) else s
  | [], _, _ => by simp [rstF]
  | s :: r, k, 0 => by simp [rstF]
  | s :: r, k, i + 1 => by
    have := rstF_get old vs r (k + 1) i
    simp only [rstF, List.getElem?_cons_succ, this]
    rw [show k + 1 + i = k + (i + 1) by omega]
theorem rstF_length (old : Nat → Sl) (vs : List Nat) : ∀ (l : List Sl) (k : Nat), (rstF old vs k l).length = l.length
  | [], _ => rfl
  | s :: r, k => by simp [rstF, rstF_length old vs r]
theorem wipe_get {σ : L2.St} {i : Nat} {vs : List Nat} (h : i ∉ vs) : (wipe σ vs)[i]? = σ[i]? := by
  induction vs with
  | nil => rfl
  | cons v vs ih =>
    have h1 : v ≠ i := fun e => h (by rw [e]; exact List.mem_cons_self)
    show ((wipe σ vs).set v none)[i]? = _
    rw [List.getElem?_set_ne h1]
    exact ih (fun m => h (List.mem_cons_of_mem _ m))
theorem Rep.back' {z : Z} {T T1 G G1 H H1 : Hp} {env env1 : Ev} {σ : L2.St} {vs : List Nat} (r1 : Rep z T1 G1 H1 env1 σ) (r : Rep z T G H env (L2.wipe σ vs)) (e : Ex G1 G) : Rep z T G H (rstF (oldS env1) vs 0 env) σ := by
  have hlen : env.length = σ.length := by rw [r.len, wipe_length]
  have ow : ∀ i p, Ow (rstF (oldS env1) vs 0 env) σ i p → Ow env (L2.wipe σ vs) i p := fun i p ⟨⟨s, es, os⟩, ep⟩ => by
    rw [rstF_get, Nat.zero_add, Option.map_eq_some_iff] at es
    obtain ⟨s', es', e2⟩ := es
    by_cases hi : vs.contains i = true
    · rw [if_pos hi] at e2
      subst e2
      unfold oldS at os
      split at os <;> cases os
    · rw [if_neg hi] at e2
      subst e2
      exact ⟨⟨s', es', os⟩, by rw [wipe_get (fun m => hi (by simpa using m))]; exact ep⟩
  refine ⟨r.f, by rw [rstF_length]; exact hlen, fun i s es => ?_, fun i j p h1 h2 => r.dis i j p (ow i p h1) (ow j p h2), r.exT, r.gt, r.t0⟩
  rw [rstF_get, Nat.zero_add, Option.map_eq_some_iff] at es
  obtain ⟨s', es', e2⟩ := es
  by_cases hi : vs.contains i = true
  · rw [if_pos hi] at e2
    subst e2
    unfold oldS
    split
    · rename_i d q
      obtain ⟨v, e3, w⟩ := r1.sl i _ q
      exact ⟨v, e3, w.mono e⟩
    · trivial
  · rw [if_neg hi] at e2
    subst e2
    have w := r.sl i s' es'
    rw [wipe_get (fun m => hi (by simpa using m))] at w
    exact w

/-! ### list comprehensions -/
def lcF (ga : GA) (c : FB) (f : F) (vs : List Nat) : List D → Ev → Out (List D × Ev)
  | [], env => .ok ([], env)
  | d :: ds, env => (ofO (ga d (wipeE env vs))).bind fun e => (noX (c e)).bind fun p => if p.1 = true then
      (noX (f p.2)).bind fun q => (ofO (q.1.opd.fix q.2)).bind fun y => (lcF ga c f vs ds y.2).bind fun r => .ok (y.1 :: r.1, r.2)
    else lcF ga c f vs ds p.2
def fLc (fi : FI) (ga : GA) (c : FB) (f : F) (vs : List Nat) : F := fun env => (fi env).bind fun p => if p.1.length ≤ 100000 then
    (lcF ga c f vs p.1 p.2).bind fun q => .ok (.new q.1, rstF (oldS p.2) vs 0 (wipeE q.2 vs))
  else .no
def bYes : FB := fun env => .ok (true, env)
section
variable {X : Cx} {z : Z} {E : XK} {k n : Nat} {pos : Pos} {tg iter elt : Expr} {ifs : List Expr} {fi : FI} {ga : GA} {is : List Nat} {c : FB} {f : F} {scope : Scope} {own : List (Str × Nat)}
theorem wts_nil : PTs X [] (tT z E bYes) := ⟨fun pins s σ H Q I ⟨T, G, env, r, h⟩ => pts_nil.run pins s σ H Q I (h H G r (Ex.refl G))⟩
theorem wts_one {e : Expr} (h : PT X e (tT z E c)) : PTs X [e] (tT z E c) := pts_one h
theorem OkX.blk (o : OkX X z E k) (s : Shared) (H : Hp) (scope : Scope) (cenv : Env) (fp : List Addr) : OkX (X.blk s H scope cenv fp) z E0 k :=
  ⟨o.K, takes0, o.calm, o.nd, o.room, PassesOwn.never⟩
theorem te_lc {vs : List Nat} {σ : L2.St} {H : Hp} {Q : VK} (his : ∀ i ∈ is, i ∈ vs) (h : tE z E (fLc fi ga c f vs) σ H Q) : tLc (tI z E fi) (tG z is ga) (tT z E0 c) (tE z E0 f) vs σ H Q := by
  obtain ⟨T, G, env, r, h⟩ := h
  refine ⟨T, G, env, r, (Pg.bind h).imp fun p hp J H1 G1 r1 e1 wk => ?_⟩
  obtain ⟨ds, env1⟩ := p
  dsimp only at hp
  split at hp
  · rename_i hsz
    intro Da hD
    obtain ⟨n1, n2, n3, n4, n5⟩ := r1.nn hD
    have hp := Pg.bind hp
    refine ⟨fun i m H' => ∃ G' env' σ' acc accV, Rep z (upd T Da (.lst accV)) G' H' env' σ' ∧ wipe σ' vs = wipe σ vs ∧ Ex G1 G' ∧ m + i = ds.length ∧ IsA z.K z.cl G' accV acc ∧ acc.length ≤ i ∧
      Pg z E (fun q : List D × Ev => Pg z E (CR z T σ G Q) (.ok (.new (acc ++ q.1), rstF (oldS env1) vs 0 (wipeE q.2 vs)))) (lcF ga c f vs (ds.drop i) env'), ⟨ds.length, G1, env1, σ, [], [], ?_, rfl, Ex.refl G1, rfl, .nil, Nat.le_refl _, hp⟩, ?_⟩
    · refine r1.temp (Da := Da) (fun a ha => upd_ne ha) n1 n3 n5 (fun a u ha => ?_) fun a ha => ?_
      · by_cases q : a = Da
        · subst q; rw [upd_same] at ha ⊢; exact ha
        · rw [upd_ne q] at ha ⊢; exact r1.exT a u ha
      · by_cases q : a = Da
        · exact .inl q
        · rw [upd_ne q] at ha; exact .inr ha
    · rintro i m H2 ⟨G2, env2, σ2, acc, accV, r2, hw, x2, em, ia, la, h2⟩
      have tD : (upd T Da (.lst accV)) Da ≠ none := by rw [upd_same]; intro w; cases w
      have hDa : H2 Da = some (.lst accV) := r2.exT Da _ upd_same
      cases q : ds.drop i with
      | nil =>
        rw [q] at h2
        have hl : ds.length ≤ i := by
          have := congrArg List.length q
          rw [List.length_drop] at this
          simp at this
          omega
        refine .inl ⟨(wk i H2 (x2.trans r2.f.exG)).2 hl, ?_⟩
        have r3 := r2.wipe vs
        rw [hw] at r3
        have r4 : Rep z T G2 H2 (wipeE env2 vs) (wipe σ vs) := r3.temp (Da := Da) (fun _ _ => rfl) (r2.gt Da tD) n3 (r3.noOw tD) (fun a u ha => by
          by_cases q : a = Da
          · subst q; rw [n2] at ha; cases ha
          · exact r2.exT a u (by rw [upd_ne q]; exact ha)) fun a ha => by
          by_cases q : a = Da
          · exact .inl q
          · exact .inr (by rw [upd_ne q]; exact ha)
        have r5 := r1.back' r4 x2
        have h2 : CR z T σ G Q (.new (acc ++ []), rstF (oldS env1) vs 0 (wipeE env2 vs)) := h2
        rw [List.append_nil] at h2
        refine h2 (.ref Da) H2 G2 r5 (e1.trans x2) ⟨Da, accV, rfl, hDa, ia, r2.gt Da tD, n2, n3, n4, fun j hj => ?_⟩
        obtain ⟨⟨s, es, os⟩, ep⟩ := hj
        rw [rstF_get, Nat.zero_add, Option.map_eq_some_iff] at es
        obtain ⟨s', es', ee⟩ := es
        by_cases hj : vs.contains j = true
        · rw [if_pos hj] at ee
          subst ee
          unfold oldS at os
          split at os <;> cases os
        · rw [if_neg hj] at ee
          subst ee
          exact r3.noOw tD j ⟨⟨s', es', os⟩, by rw [wipe_get (fun m => hj (by simpa using m))]; exact ep⟩
      | cons d rest =>
        rw [q] at h2
        obtain ⟨hd, hr⟩ := drop_cons q
        obtain ⟨hgo, hy⟩ := wk.at_ x2 r2.f.exG hd
        have hl : i < ds.length := getElem?_lt hd
        obtain ⟨e, eg, h2⟩ := (Pg.bind h2).ofO
        refine .inr ⟨hgo, fun H' => ∃ G' env' σ' acc accV, Rep z (upd T Da (.lst accV)) G' H' env' σ' ∧ wipe σ' vs = wipe σ vs ∧ Ex G1 G' ∧ IsA z.K z.cl G' accV acc ∧ acc.length ≤ i + 1 ∧
          Pg z E (fun q : List D × Ev => Pg z E (CR z T σ G Q) (.ok (.new (acc ++ q.1), rstF (oldS env1) vs 0 (wipeE q.2 vs)))) (lcF ga c f vs rest env'), fun H' ⟨G', env', σ', acc', accV', a1, a2, a3, a4, a5, a6⟩ => ⟨m - 1, by omega, G', env', σ', acc', accV', a1, a2, a3, by omega, a4, a5, by rw [hr]; exact a6⟩, fun x H' y => ?_⟩
        have r3 := r2.wipe vs
        rw [hw] at r3
        obtain ⟨G4, r4, x4, w4⟩ := r3.yield (hy x H' y)
        refine ⟨_, G4, _, d, e, r4, w4, eg, fun σ5 r5 hw5 => ?_⟩
        have hws : wipe σ5 vs = wipe (wipe σ vs) vs := hw5 vs his
        have ww : wipe (wipe σ vs) vs = wipe σ vs := by
          rw [← hw]
          apply List.ext_getElem?
          intro j
          by_cases hj : j ∈ vs
          · have one : ∀ τ : L2.St, (wipe τ vs)[j]? = if j < τ.length then some none else none := fun τ => by
              by_cases hl : j < τ.length
              · rw [if_pos hl]
                cases q : (wipe τ vs)[j]? with
                | none => rw [List.getElem?_eq_none_iff, wipe_length] at q; omega
                | some o =>
                  cases o with
                  | none => rfl
                  | some v => exact absurd hj (wipe_some q).2
              · rw [if_neg hl, List.getElem?_eq_none (by rw [wipe_length]; omega)]
            rw [one, one, wipe_length]
          · rw [wipe_get hj]
        rw [ww] at hws
        refine ⟨hws, _, G4, e, r5, ((Pg.bind h2).noX).imp fun b hb H6 G6 r6 x6 => ?_⟩
        obtain ⟨b1, env6⟩ := b
        cases b1 with
        | false => exact ⟨G6, env6, σ5, acc, accV, r6, hws, (x2.trans x4).trans x6, ia.mono (x4.trans x6), by omega, hb⟩
        | true =>
          refine ⟨_, G6, env6, r6, ((Pg.bind (show Pg z E _ ((noX (f env6)).bind _) from hb)).noX).imp fun u hu v H7 G7 r7 x7 w7 => ?_⟩
          obtain ⟨u1, env7⟩ := u
          obtain ⟨G8, r8, x8, w8⟩ := w7.opd r7
          obtain ⟨⟨yd, env9⟩, ef, hu⟩ := (Pg.bind hu).ofO
          obtain ⟨G9, r9, x9, w9⟩ := w8.fix r8 ef
          have xx : Ex G2 G9 := ((x4.trans x6).trans (x7.trans x8)).trans x9
          have hD9 : H7 Da = some (.lst accV) := r9.exT Da _ upd_same
          refine ⟨accV, hD9, ?_, G9, env9, σ5, acc ++ [yd], accV ++ [v], ?_, hws, x2.trans xx, (ia.mono xx).append (.cons w9 .nil), by rw [List.length_append]; simp; omega, ?_⟩
          · rw [ia.length]
            exact line100' (by omega)
          · refine r9.temp (Da := Da) (fun a ha => upd_ne ha) (r9.gt Da tD) n3 (r9.noOw tD) (fun a u ha => ?_) fun a ha => ?_
            · by_cases q : a = Da
              · subst q; rw [upd_same] at ha ⊢; exact ha
              · rw [upd_ne q] at ha ⊢
                exact r9.exT a u (by rw [upd_ne q]; exact ha)
            · by_cases q : a = Da
              · exact .inl q
              · rw [upd_ne q] at ha
                exact .inr (by rw [upd_ne q]; exact ha)
          · refine (Pg.bind hu).imp fun rr hrr => ?_
            have e3 : acc ++ [yd] ++ rr.1 = acc ++ (yd :: rr.1) := by simp
            rw [e3]
            exact hrr
  · exact hp.elim
theorem we_lc (o : OkX X z E k) (ok : BlkOk X.N X.env.scope scope own) (hi : PI X tg iter (tI z E fi))
    (hg : ∀ (s : Shared) (H : Hp) (C : Addr) (cl : List (Str × Addr)) (fp : List Addr), PG (X.blk s H scope (compEnvC scope cl C X.env) fp) tg (tG z is ga)) (ht : ∀ (s : Shared) (H : Hp) (C : Addr) (cl : List (Str × Addr)) (fp : List Addr), PTs (X.blk s H scope (compEnvC scope cl C X.env) fp) ifs (tT z E0 c))
    (he : ∀ (s : Shared) (H : Hp) (C : Addr) (cl : List (Str × Addr)) (fp : List Addr), PE (X.blk s H scope (compEnvC scope cl C X.env) fp) elt (tE z E0 f)) (his : ∀ i ∈ is, i ∈ own.map (·.2) := by decide) (hs : ∀ x, foldedSetIterable iter X.env x = pure x := by intro _; rfl) :
    PE X (.ListComp elt [⟨tg, iter, ifs, 0⟩] scope pos) (tE z E (fLc fi ga c f (own.map (·.2)))) := pe_mono (pe_lc o.calm o.nd hi ok hg ht he hs) fun σ H Q h => te_lc his h
/-- name = [..] -/
theorem ws_setLc {i : Nat} {y : Str} {py spos : Pos} (o : OkX X z E k) (ok : BlkOk X.N X.env.scope scope own) (hi : PI X tg iter (tI z E fi))
    (hg : ∀ (s : Shared) (H : Hp) (C : Addr) (cl : List (Str × Addr)) (fp : List Addr), PG (X.blk s H scope (compEnvC scope cl C X.env) fp) tg (tG z is ga)) (ht : ∀ (s : Shared) (H : Hp) (C : Addr) (cl : List (Str × Addr)) (fp : List Addr), PTs (X.blk s H scope (compEnvC scope cl C X.env) fp) ifs (tT z E0 c))
    (he : ∀ (s : Shared) (H : Hp) (C : Addr) (cl : List (Str × Addr)) (fp : List Addr), PE (X.blk s H scope (compEnvC scope cl C X.env) fp) elt (tE z E0 f)) (hy : X.N[i]? = some y := by rfl) (hyl : X.env.scope.names.lookup y = some .local := by rfl)
    (hsw : swapsWith (.ListComp elt [⟨tg, iter, ifs, 0⟩] scope pos) (some (.Name y py)) spos.line X.env = pure true := by exact sw_true rfl rfl rfl (by decide +kernel))
    (his : ∀ i ∈ is, i ∈ own.map (·.2) := by decide) (hs : ∀ x, foldedSetIterable iter X.env x = pure x := by intro _; rfl) :
    PS X (.Assign [.Name y py] (.ListComp elt [⟨tg, iter, ifs, 0⟩] scope pos) spos) (tS z E (sSet i (fLc fi ga c f (own.map (·.2))))) := ps_mono (L2.ps_setLc o.calm o.nd hy hyl hsw hi ok hg ht he hs) fun D σ H h => te_lc his (ts_set h)
end
end TN
namespace TN
open PySem PySem.Spec PyProof.Rows L2

/-! ### a def -/
def retOf (env : Ev) : R → Option R0
  | .d x => some (.d x)
  | .new xs => some (.ls xs)
  | .at_ i => match env[i]? with
    | some (.val y) => some (.d y)
    | some (.own xs) => some (.ls xs)
    | _ => none
def parOf (m : Bool) (env : Ev) : Option (List D) := if m = true then match env[(0 : Nat)]? with
  | some (.par xs) => some xs
  | _ => none else some []
def startE (m : Bool) (n : Nat) (ds : List D) : Option Ev := if m = true then match ds with
  | .lst xs :: r => some (.par xs :: r.map Sl.val ++ List.replicate (n - ds.length) .no)
  | _ => none else some (ds.map Sl.val ++ List.replicate (n - ds.length) .no)
def fnOf (m : Bool) (n : Nat) (body : S) : Fn := fun ds => (ofO (startE m n ds)).bind fun e => (body e).bind fun p => match p.1 with
  | .nx => (ofO (parOf m p.2)).bind fun xs => .ok (.d .non, xs)
  | .ret r => (ofO (retOf p.2 r)).bind fun q => (ofO (parOf m p.2)).bind fun xs => .ok (q, xs)
section
variable {z : Z} {E : XK} {G H : Hp} {M : Option Addr} {m : Bool}
theorem slots_vals {K : PySem.W.Frag} {cl : Cl} : ∀ {vs : List V} {ds : List D} {i : Nat} {s : Sl}, IsA K cl G vs ds → (ds.map Sl.val)[i]? = some s → ∃ d v, s = .val d ∧ vs[i]? = some v ∧ Is K cl G v d
  | vs, ds, i, s, h, e => by
    rw [List.getElem?_map, Option.map_eq_some_iff] at e
    obtain ⟨d, e1, e2⟩ := e
    obtain ⟨v, h1, h2⟩ := h.get e1
    exact ⟨d, v, e2.symm, h1, h2⟩
theorem start_get {N : List Str} {vs : List V} {i : Nat} {v : V} (h : vs[i]? = some v) : (L2.start N vs)[i]?.join = some v := by
  unfold L2.start
  rw [List.getElem?_append_left (by rw [List.length_map]; exact getElem?_lt h), List.getElem?_map, h]
  rfl
theorem start_len {N : List Str} {vs : List V} (h : vs.length ≤ N.length) : (L2.start N vs).length = N.length := by
  unfold L2.start
  rw [List.length_append, List.length_map, List.length_replicate]
  omega
theorem args_len {vs : List V} {ds : List D} (a : Args' z G H m vs ds M) : vs.length = ds.length := by
  cases a with
  | pure a => exact a.length
  | wr _ _ _ a => exact congrArg (· + 1) a.length
theorem rep_start {N : List Str} {vs : List V} {ds : List D} {env : Ev} (a : Args' z G H m vs ds M) (e : Ex G H) (hn : vs.length ≤ N.length) (hs : startE m N.length ds = some env) : Rep (z.at_ G H M) (fun _ => none) G H env (L2.start N vs) := by
  have hl := args_len a
  have fr : (∀ b, M = some b → (∃ ws, H b = some (.lst ws)) ∧ G b = none) → Fr (z.at_ G H M) G H := fun hm =>
    ⟨e, Ex.refl G, fun b hb => .inl hb, fun b o hb _ => hb, hm, fun b hb => by
      obtain ⟨⟨ws, h⟩, _⟩ := hm b hb
      show H b ≠ none
      rw [h]; intro w; cases w⟩
  have rep : ∀ {i k : Nat} {s : Sl}, (List.replicate k Sl.no)[i]? = some s → s = .no := fun {i k s} h => (List.mem_replicate.mp (List.mem_of_getElem? h)).2
  cases a with
  | pure a =>
    cases hs
    have len : (ds.map Sl.val ++ List.replicate (N.length - ds.length) Sl.no).length = (L2.start N vs).length := by
      rw [start_len hn, List.length_append, List.length_map, List.length_replicate]
      omega
    refine ⟨fr (fun b hb => by cases hb), len, fun i s es => ?_, fun i j p hi => ?_, (fun _ _ h => by cases h), fun _ h => absurd rfl h, fun _ h => absurd rfl h⟩
    · by_cases q : i < ds.length
      · rw [List.getElem?_append_left (by simpa using q)] at es
        obtain ⟨d, v, rfl, hv, w⟩ := slots_vals a es
        exact ⟨v, start_get hv, w⟩
      · rw [List.getElem?_append_right (by simpa using q)] at es
        rw [rep es]
        trivial
    · obtain ⟨⟨s, es, os⟩, _⟩ := hi
      by_cases q : i < ds.length
      · rw [List.getElem?_append_left (by simpa using q)] at es
        obtain ⟨d, v, rfl, hv, w⟩ := slots_vals a es
        cases os
      · rw [List.getElem?_append_right (by simpa using q)] at es
        rw [rep es] at os
        cases os
  | @wr p ws vs xs ds g hp a a' =>
    cases hs
    have len : (Sl.par xs :: ds.map Sl.val ++ List.replicate (N.length - (D.lst xs :: ds).length) Sl.no).length = (L2.start N (V.ref p :: vs)).length := by
      rw [start_len hn, List.length_append, List.length_cons, List.length_map, List.length_replicate, List.length_cons]
      simp only [List.length_cons] at hn hl
      omega
    have zero : ∀ {i : Nat} {s : Sl}, (Sl.par xs :: ds.map Sl.val ++ List.replicate (N.length - (D.lst xs :: ds).length) Sl.no)[i]? = some s → s.ow = true → i = 0 := fun {i s} es os => by
      cases i with
      | zero => rfl
      | succ i =>
        rw [List.cons_append, List.getElem?_cons_succ] at es
        by_cases q : i < ds.length
        · rw [List.getElem?_append_left (by simpa using q)] at es
          obtain ⟨d, v, rfl, hv, w⟩ := slots_vals a' es
          cases os
        · rw [List.getElem?_append_right (by simpa using q)] at es
          rw [rep es] at os
          cases os
    refine ⟨fr (fun b hb => by cases hb; exact ⟨⟨ws, hp⟩, g⟩), len, fun i s es => ?_, fun i j p' hi hj => ?_, (fun _ _ h => by cases h), fun _ h => absurd rfl h, fun _ h => absurd rfl h⟩
    · cases i with
      | zero =>
        rw [List.cons_append, List.getElem?_cons_zero] at es
        cases es
        exact ⟨p, ws, start_get (vs := V.ref p :: vs) rfl, rfl, rfl, hp, a⟩
      | succ i =>
        rw [List.cons_append, List.getElem?_cons_succ] at es
        by_cases q : i < ds.length
        · rw [List.getElem?_append_left (by simpa using q)] at es
          obtain ⟨d, v, rfl, hv, w⟩ := slots_vals a' es
          exact ⟨v, start_get (vs := V.ref p :: vs) (by simpa using hv), w⟩
        · rw [List.getElem?_append_right (by simpa using q)] at es
          rw [rep es]
          trivial
    · obtain ⟨⟨s, es, os⟩, _⟩ := hi
      obtain ⟨⟨s', es', os'⟩, _⟩ := hj
      rw [zero es os, zero es' os']
end
section
variable {P : Program} {w : World} {K : PySem.W.Frag} {mg : Str → Option Value} {base : Heap}
/-- THE RULE for a def -/
theorem fn_ok {x qual : Str} {st : Stmt} {f : Addr} {fd : FuncData} {N ps : List Str} {k : Nat} {z : Z} {m : Bool} {body : S} (Fn' : Fun K x qual st f fd) (Sc : FnScope N ps (defScope st)) (hK : K = z.K)
    (hb : ∀ (cdv : Value) (A : Around) (outer : List Env) (s : Shared) (H : Hp) (E : XK) (G H' : Hp) (M : Option Addr), OkX (cxOf (L2.CX P w) P w K mg base N qual (defScope st) f cdv A outer s H E) (z.at_ G H' M) E k →
      PSs (cxOf (L2.CX P w) P w K mg base N qual (defScope st) f cdv A outer s H E) (defBody st) (tS (z.at_ G H' M) E body)) :
    FnOk P w K mg base (L2.CX P w) (k + 1) f fd ps (spF z m ps.length (fnOf m N.length body)) := by
  refine Fn'.okX Sc (fun vs H Q E h => ?_) fun cdv A outer s H vs Q E hr h => ?_
  · obtain ⟨G, ds, M, _, _, hl, _⟩ := h
    exact hl
  · obtain ⟨G, ds, M, a, e, hl, h⟩ := h
    have o : OkX (cxOf (L2.CX P w) P w K mg base N qual (defScope st) f cdv A outer s H E) (z.at_ G H M) E k :=
      ⟨hK, takes_of rfl rfl rfl rfl, rfl, Sc.nd, hr, passes_of rfl⟩
    refine ⟨_, hb cdv A outer s H E G H M o, ?_⟩
    obtain ⟨env, es, h⟩ := (Pg.bind h).ofO
    have hn : vs.length ≤ N.length := by
      have := Sc.pre
      rw [hl, ← this, List.length_take]
      exact Nat.min_le_right _ _
    have r := rep_start a e hn es
    have pa : ∀ {G' H' : Hp} {env' : Ev} {σ' : L2.St} {xs : List D}, Rep (z.at_ G H M) (fun _ => none) G' H' env' σ' → parOf m env' = some xs → ∀ b, (z.at_ G H M).M = some b → ∃ ws, H' b = some (.lst ws) ∧ IsA z.K z.cl G' ws xs := by
      intro G' H' env' σ' xs r' ep b hb'
      cases a with
      | pure a => cases hb'
      | @wr p ws vs xs0 ds g hp a a' =>
        cases hb'
        unfold parOf at ep
        rw [if_pos rfl] at ep
        split at ep
        · rename_i ys q
          cases ep
          obtain ⟨p', vs', _, _, hm, hp', ia⟩ := r'.sl 0 _ q
          cases hm
          exact ⟨vs', hp', ia⟩
        · cases ep
    refine ⟨_, G, env, r, (Pg.bind h).imp fun p hp => ?_⟩
    obtain ⟨p1, p2⟩ := p
    cases p1 with
    | nx =>
      intro σ' H' G' r' x'
      obtain ⟨xs, ex, hp⟩ := (Pg.bind hp).ofO
      exact hp .non H' G' r'.f .non (pa r' ex)
    | ret rr =>
      intro v σ' H' G' r' x' w'
      obtain ⟨q, eq, hp⟩ := (Pg.bind hp).ofO
      obtain ⟨xs, ex, hp⟩ := (Pg.bind hp).ofO
      refine hp v H' G' r'.f ?_ (pa r' ex)
      cases rr with
      | d y => cases eq; exact w'
      | new ys =>
        cases eq
        obtain ⟨p, vs', e1, hp', ia, g, _, h0, hm, _⟩ := w'
        exact ⟨p, vs', e1, hp', ia, g, h0, hm⟩
      | at_ i =>
        have w' : σ'[i]?.join = some v := w'
        simp only [retOf] at eq
        split at eq
        · rename_i y q
          cases eq
          have sl := r'.sl i _ q
          rw [w'] at sl
          obtain ⟨v', e1, sl⟩ := sl
          cases e1
          exact sl
        · rename_i ys q
          cases eq
          have sl := r'.sl i _ q
          rw [w'] at sl
          obtain ⟨p, vs', e1, g, _, h0, hp', ia⟩ := sl
          cases e1
          exact ⟨p, vs', rfl, hp', ia, g, h0, fun e2 => r'.f.m0 p e2 h0⟩
        · cases eq
end

/-! ### lists that are written -/
def lstAt (env : Ev) (i : Nat) : Option (List D × (List D → Sl)) := match env[i]? with
  | some (.own xs) => some (xs, .own)
  | some (.par xs) => some (xs, .par)
  | _ => none
section
variable {X : Cx} {z : Z} {E : XK} {k n : Nat} {T G H : Hp} {env : Ev} {σ : L2.St} {i : Nat} {pos p2 : Pos} {e ei : Expr} {f fi : F}
theorem lstAt_ow {xs : List D} {mk : List D → Sl} (r : Rep z T G H env σ) (h : lstAt env i = some (xs, mk)) : ∃ p vs, σ[i]? = some (some (.ref p)) ∧ Ow env σ i p ∧ H p = some (.lst vs) ∧ IsA z.K z.cl G vs xs ∧
    ∀ (ws : List V) (ys : List D), IsA z.K z.cl G ws ys → Rep z T G (upd H p (.lst ws)) (env.set i (mk ys)) σ := by
  have sj : ∀ {v : V}, (σ[i]?.join) = some v → σ[i]? = some (some v) := fun {v} e => by
    cases q : σ[i]? with
    | none => rw [q] at e; cases e
    | some o => rw [q] at e; exact congrArg some e
  unfold lstAt at h
  split at h
  · rename_i ys q
    cases h
    obtain ⟨p, vs, e, _, _, _, hp, a⟩ := r.sl i _ q
    have how : Ow env σ i p := ⟨⟨_, q, rfl⟩, e⟩
    exact ⟨p, vs, sj e, how, hp, a, fun ws ys b => r.mut how (.inl ⟨rfl, _, q⟩) b⟩
  · rename_i ys q
    cases h
    obtain ⟨p, vs, e, _, _, hp, a⟩ := r.sl i _ q
    have how : Ow env σ i p := ⟨⟨_, q, rfl⟩, e⟩
    exact ⟨p, vs, sj e, how, hp, a, fun ws ys b => r.mut how (.inr ⟨rfl, _, q⟩) b⟩
  · cases h
/-- a value that stays as it is -/
theorem te_fix {β : Type} {C : Hp → β → Prop} {kk : D × Ev → Out β} (r : Rep z T G H env σ) (mono : ∀ G G' b, Ex G G' → C G b → C G' b) (h : Pg z E (C G) ((f env).bind fun p => (ofO (p.1.opd.fix p.2)).bind kk)) :
    tE z E f σ H fun v H' => ∃ y G', Rep z T G' H' y.2 σ ∧ Ex G G' ∧ Is z.K z.cl G' v y.1 ∧ Pg z E (C G') (kk y) := by
  refine ⟨T, G, env, r, (Pg.bind h).imp fun p hp v H1 G1 r1 e1 w1 => ?_⟩
  obtain ⟨G2, r2, e2, w2⟩ := w1.opd r1
  obtain ⟨⟨d, e3⟩, ef, hp⟩ := (Pg.bind hp).ofO
  obtain ⟨G3, r3, x3, w3⟩ := w2.fix r2 ef
  exact ⟨(d, e3), G3, r3, (e1.trans e2).trans x3, w3, hp.imp fun b hb => mono _ _ _ ((e1.trans e2).trans x3) hb⟩
def fApp (i : Nat) (f : F) : F := fun env => (ofO (lstAt env i)).bind fun _ => (f env).bind fun p => (ofO (p.1.opd.fix p.2)).bind fun y => (ofO (lstAt y.2 i)).bind fun l =>
  if l.1.length < 100000 then .ok (.d .non, y.2.set i (l.2 (l.1 ++ [y.1]))) else .no
theorem te_app {Q : VK} (hK : X.K = z.K) (h : tE z E (fApp i f) σ H Q) : tBM X.K "list" rAppend (tVar i) (tCons (tE z E f) tNil) σ H Q := by
  rw [hK]
  obtain ⟨T, G, env, r, h⟩ := h
  obtain ⟨⟨xs0, mk0⟩, el0, h⟩ := (Pg.bind h).ofO
  obtain ⟨p0, vs0, es0, _, hp0, _, _⟩ := lstAt_ow r el0
  refine ⟨_, es0, .inl ⟨rfl, vs0, SqL.of hp0⟩, te_imp (fun v H' q => ?_) (te_fix (C := fun G b => CR z T σ G Q b) r (fun _ _ _ e h => CR.mono h e) h)⟩
  obtain ⟨⟨y, e2⟩, G2, r2, x2, w2, hq⟩ := q
  obtain ⟨⟨xs, mk⟩, el, hq⟩ := (Pg.bind hq).ofO
  obtain ⟨p, vs, es, _, hp, a, st⟩ := lstAt_ow r2 el
  rw [es0] at es
  cases es
  dsimp only at hq
  split at hq
  · rename_i hl
    exact ⟨p0, vs, v, rfl, rfl, hp, by rw [a.length]; exact line100' hl, hq .non _ G2 (st _ _ (a.append (.cons w2 .nil))) (Ex.refl G2) .non⟩
  · exact hq.elim
/-- name.append(e) -/
theorem we_app {c : Expr} (o : OkX X z E k) (h : PE X c (tBM X.K "list" rAppend (tVar i) (tCons (tE z E f) tNil))) : PE X c (tE z E (fApp i f)) := pe_mono h fun _ _ _ h => te_app o.K h
end
end TN
namespace TN
open PySem PySem.Spec PyProof.Rows L2

section
variable {K : PySem.W.Frag} {cl : Cl} {G H : Hp} {v : V}
theorem isTup {ds : List D} (e : Ex G H) (h : IsT K cl G H v (.tup ds)) : ∃ a vs, v = .ref a ∧ SqT K H a vs ∧ IsA K cl G vs ds ∧ TupX K G a vs := by
  rcases h with h | ⟨_, _, _, _, q, _⟩
  · cases h with
    | tup hs ha => exact ⟨_, _, rfl, ex_t e hs.sq, ha, hs⟩
  · cases q
theorem isLst {ds : List D} (e : Ex G H) (h : IsT K cl G H v (.lst ds)) : ∃ a vs, v = .ref a ∧ H a = some (.lst vs) ∧ IsA K cl G vs ds := by
  rcases h with h | ⟨p, vs, xs, ev, q, hp, a⟩
  · cases h with
    | lst hs ha => exact ⟨_, _, rfl, e _ _ hs, ha⟩
  · cases q; exact ⟨p, vs, ev, hp, a⟩
theorem isScr {ns : List Int} (e : Ex G H) (h : IsT K cl G H v (.scr ns)) : ∃ a, v = .ref a ∧ SqL K H a (ns.map V.int) := by
  rcases h with h | ⟨p, vs, xs, ev, q, hp, a⟩
  · cases h with
    | scr hs => exact ⟨_, rfl, ex_l e hs⟩
  · cases q
theorem isBl {b : Bool} (h : IsT K cl G H v (.bl b)) : v = .bl b := by
  rcases h with h | ⟨_, _, _, _, q, _⟩
  · cases h; rfl
  · cases q
theorem isStr {b : Str} (h : IsT K cl G H v (.str b)) : v = .str b := by
  rcases h with h | ⟨_, _, _, _, q, _⟩
  · cases h; rfl
  · cases q
theorem isNon (h : IsT K cl G H v .non) : v = .non := by
  rcases h with h | ⟨_, _, _, _, q, _⟩
  · cases h; rfl
  · cases q
theorem isTy {n : String} (h : IsT K cl G H v (.ty n)) : v = .ty n := by
  rcases h with h | ⟨_, _, _, _, q, _⟩
  · cases h; rfl
  · cases q
end

/-! ### ints -/
def oI (g : Int → Int → Option D) : D → D → Out R0 := fun x y => match x, y with
  | .int i, .int j => match g i j with
    | some k => .ok (.d k)
    | none => .no
  | _, _ => .no
section
variable {X : Cx} {z : Z} {f : Value → Value → Sem Value}
theorem opD_I {C : Int → Int → Prop} {h : Int → Int → V} {g : Int → Int → Option D} (hr : OpR X f (rI C h)) (hg : ∀ i j d, g i j = some d → C i j ∧ ∀ K cl G, Is K cl G (h i j) d) : OpD X z f (oI g) := by
  refine ⟨⟨_, hr, fun G H x y dx dy Q e ix iy p => ?_⟩, fun x y c d => ?_⟩
  · unfold oI at p
    split at p
    · split at p
      · rename_i q
        obtain ⟨c1, c2⟩ := hg _ _ _ q
        exact ⟨_, _, isInt ix, isInt iy, c1, p _ (c2 _ _ _)⟩
      · exact p.elim
    · exact p.elim
  · unfold oI
    split
    · split <;> (intro h; cases h)
    · intro h; cases h
theorem opD_I0 {h : Int → Int → V} {g : Int → Int → Option D} (hr : OpR X f (rI0 h)) (hg : ∀ i j d, g i j = some d → ∀ K cl G, Is K cl G (h i j) d) : OpD X z f (oI g) :=
  opD_I (C := fun _ _ => True) (h := h) (fun pins s σ H x y v u Q I rx ry ⟨i, j, e1, e2, _, q⟩ => hr pins s σ H x y v u Q I rx ry ⟨i, j, e1, e2, q⟩) fun i j d e => ⟨trivial, hg i j d e⟩
def gMinus : Int → Int → Option D := fun i j => some (.int (i - j))
def gMul : Int → Int → Option D := fun i j => if (-(2 ^ 64) < i ∧ i < 2 ^ 64) ∨ (-(2 ^ 64) < j ∧ j < 2 ^ 64) then some (.int (i * j)) else none
def gDiv : Int → Int → Option D := fun i j => if 0 < j ∧ j < 1073741824 then some (.int (i / j)) else none
def gMod : Int → Int → Option D := fun i j => if 0 < j then some (.int (i % j)) else none
def gPow : Int → Int → Option D := fun i j => if 0 ≤ j ∧ (Builtin.Int.intBits i : Int) * j ≤ 2 ^ 27 then some (.int (i ^ j.toNat)) else none
def gShl : Int → Int → Option D := fun i j => if 0 ≤ j ∧ j ≤ 1000000 ∧ i.natAbs < 2 ^ 64 then some (.int (i * 2 ^ j.toNat)) else none
def gShr : Int → Int → Option D := fun i j => if 0 ≤ j then some (.int (i / 2 ^ j.toNat)) else none
def gAnd : Int → Int → Option D := fun i j => some (.int (Builtin.bitAnd i j))
def gOr : Int → Int → Option D := fun i j => some (.int (Builtin.bitOr i j))
def gXor : Int → Int → Option D := fun i j => some (.int (Builtin.bitXor i j))
def gLt : Int → Int → Option D := fun i j => some (.bl (decide (i < j)))
def gLe : Int → Int → Option D := fun i j => some (.bl (decide (i ≤ j)))
def gGt : Int → Int → Option D := fun i j => some (.bl (decide (j < i)))
def gGe : Int → Int → Option D := fun i j => some (.bl (decide (j ≤ i)))
theorem od_sub : OpD X z (binaryOp .Sub) (oI gMinus) := opD_I0 op_sub fun i j d e => by cases e; exact fun _ _ _ => .int _
theorem od_div : OpD X z (binaryOp .FloorDiv) (oI gDiv) := opD_I op_fdiv fun i j d e => by
  unfold gDiv at e
  split at e
  · rename_i q; cases e; exact ⟨q, fun _ _ _ => .int _⟩
  · cases e
theorem od_mod : OpD X z (binaryOp .Mod) (oI gMod) := opD_I op_mod fun i j d e => by
  unfold gMod at e
  split at e
  · rename_i q; cases e; exact ⟨q, fun _ _ _ => .int _⟩
  · cases e
theorem op_powW : OpR X (binaryOp .Pow) (rI (fun i j => 0 ≤ j ∧ (Builtin.Int.intBits i : Int) * j ≤ 2 ^ 27) fun i j => .int (i ^ j.toNat)) := opI fun _ _ _ _ _ _ _ hc q => pow_int hc.1 hc.2 q
theorem od_pow : OpD X z (binaryOp .Pow) (oI gPow) := opD_I op_powW fun i j d e => by
  unfold gPow at e
  split at e
  · rename_i q; cases e; exact ⟨q, fun _ _ _ => .int _⟩
  · cases e
theorem od_shl : OpD X z (binaryOp .LShift) (oI gShl) := opD_I op_shl fun i j d e => by
  unfold gShl at e
  split at e
  · rename_i q; cases e; exact ⟨q, fun _ _ _ => .int _⟩
  · cases e
theorem od_shr : OpD X z (binaryOp .RShift) (oI gShr) := opD_I op_shr fun i j d e => by
  unfold gShr at e
  split at e
  · rename_i q; cases e; exact ⟨q, fun _ _ _ => .int _⟩
  · cases e
theorem od_and : OpD X z (binaryOp .BitAnd) (oI gAnd) := opD_I0 op_and fun i j d e => by cases e; exact fun _ _ _ => .int _
theorem od_or : OpD X z (binaryOp .BitOr) (oI gOr) := opD_I0 op_or fun i j d e => by cases e; exact fun _ _ _ => .int _
theorem od_xor : OpD X z (binaryOp .BitXor) (oI gXor) := opD_I0 op_xor fun i j d e => by cases e; exact fun _ _ _ => .int _
theorem od_lt : OpD X z (compareOp .Lt) (oI gLt) := opD_I0 op_lt fun i j d e => by cases e; exact fun _ _ _ => .bl _
theorem od_le : OpD X z (compareOp .LtE) (oI gLe) := opD_I0 op_le fun i j d e => by cases e; exact fun _ _ _ => .bl _
theorem od_gt : OpD X z (compareOp .Gt) (oI gGt) := opD_I0 op_gt fun i j d e => by cases e; exact fun _ _ _ => .bl _
theorem od_ge : OpD X z (compareOp .GtE) (oI gGe) := opD_I0 op_ge fun i j d e => by cases e; exact fun _ _ _ => .bl _
end

/-! ### + and * -/
def dAdd : D → D → Out R0
  | .int i, .int j => .ok (.d (.int (i + j)))
  | .tup a, .tup b => if a.length + b.length ≤ 100000 then (match a, b with
      | [], b => .ok (.d (.tup b))
      | a, [] => .ok (.d (.tup a))
      | a, b => .ok (.tp (a ++ b))) else .no
  | .lst a, .lst b => if a.length + b.length ≤ 100000 then .ok (.ls (a ++ b)) else .no
  | .str a, .str b => if a.length + b.length ≤ 100000 then .ok (.d (.str (a ++ b))) else .no
  | _, _ => .no
def dMul : D → D → Out R0
  | .int i, .int j => match gMul i j with
    | some k => .ok (.d k)
    | none => .no
  | .lst a, .int k => if -(2 ^ 63) ≤ k ∧ k < 2 ^ 63 ∧ a.length * k.toNat ≤ 100000 then .ok (.ls (List.replicate k.toNat a).flatten) else .no
  | .tup a, .int k => if a ≠ [] ∧ 2 ≤ k ∧ k ≤ 1000 ∧ a.length ≤ 1000 then .ok (.tp (List.replicate k.toNat a).flatten) else .no
  | _, _ => .no
instance (a : List D) : Decidable (a ≠ []) := match a with
  | [] => isFalse fun h => h rfl
  | _ :: _ => isTrue fun h => by cases h
section
variable {X : Cx} {z : Z}
theorem od_add (hK : X.K = z.K) : OpD X z (binaryOp .Add) dAdd := by
  refine ⟨⟨_, op_add.or (op_catX.or (op_cat.or op_add_str)), fun G H x y dx dy Q e ix iy p => ?_⟩, fun x y c d => ?_⟩
  · rw [hK]
    unfold dAdd at p
    split at p
    · exact .inl ⟨_, _, isInt ix, isInt iy, p _ (.int _)⟩
    · split at p
      · rename_i a b hl
        obtain ⟨p1, vs, rfl, hs, ia, hg⟩ := isTup e ix
        obtain ⟨p2, ws, rfl, hs2, ib, hg2⟩ := isTup e iy
        refine .inr (.inl ⟨p1, p2, vs, ws, rfl, rfl, hs, hs2, by rw [ia.length, ib.length]; exact line100 hl, fun q => ?_, fun q q2 => ?_, fun q q2 => ?_⟩)
        · subst q
          cases ia
          exact p _ (.tup hg2 ib)
        · subst q2
          cases ib
          cases ia with
          | nil => exact absurd rfl q
          | cons h t => exact p _ (.tup hg (.cons h t))
        · cases ia with
          | nil => exact absurd rfl q
          | cons h t =>
            cases ib with
            | nil => exact absurd rfl q2
            | cons h2 t2 => exact fun pp oo hp hd => p pp _ oo hp hd (IsA.append (.cons h t) (.cons h2 t2))
      · exact p.elim
    · split at p
      · rename_i a b hl
        obtain ⟨p1, vs, rfl, hs, ia⟩ := isLst e ix
        obtain ⟨p2, ws, rfl, hs2, ib⟩ := isLst e iy
        exact .inr (.inr (.inl ⟨p1, p2, vs, ws, rfl, rfl, hs, hs2, by rw [ia.length, ib.length]; exact line100 hl, fun pp hp => p pp _ hp (ia.append ib)⟩))
      · exact p.elim
    · split at p
      · rename_i a b hl
        exact .inr (.inr (.inr ⟨_, _, isStr ix, isStr iy, line100 hl, p _ (.str _)⟩))
      · exact p.elim
    · exact p.elim
  · unfold dAdd
    split <;> (try split) <;> (try split) <;> (intro h; cases h)
theorem od_mul (hK : X.K = z.K) : OpD X z (binaryOp .Mult) dMul := by
  refine ⟨⟨_, op_mul.or (op_rep.or op_repX), fun G H x y dx dy Q e ix iy p => ?_⟩, fun x y c d => ?_⟩
  · rw [hK]
    unfold dMul at p
    split at p
    · split at p
      · rename_i i j k q
        unfold gMul at q
        split at q
        · rename_i hc; cases q; exact .inl ⟨_, _, isInt ix, isInt iy, hc, p _ (.int _)⟩
        · cases q
      · exact p.elim
    · split at p
      · rename_i a k hl
        obtain ⟨p1, vs, rfl, hs, ia⟩ := isLst e ix
        refine .inr (.inl ⟨p1, k, vs, rfl, isInt iy, hs, hl.1, hl.2.1, by rw [ia.length]; exact line100 hl.2.2, fun pp hp => p pp _ hp (ia.rep _)⟩)
      · exact p.elim
    · split at p
      · rename_i a k hl
        obtain ⟨p1, vs, rfl, hs, ia, _⟩ := isTup e ix
        refine .inr (.inr ⟨p1, k, vs, rfl, isInt iy, hs, fun q => ?_, hl.2.1, hl.2.2.1, by rw [ia.length]; exact hl.2.2.2, fun pp oo hp hd => p pp _ oo hp hd (ia.rep _)⟩)
        subst q
        cases ia
        exact hl.1 rfl
      · exact p.elim
    · exact p.elim
  · unfold dMul
    split <;> (try split) <;> (intro h; cases h)
end

/-! ### == and in, of data -/
mutual
def toPy : D → Option PyData
  | .non => some .none
  | .bl b => some (.bool b)
  | .int i => some (.int i)
  | .str x => some (.str x)
  | .tup ds => match toPyL ds with
    | some ps => some (.tuple ps)
    | none => none
  | .lst ds => match toPyL ds with
    | some ps => some (.list ps)
    | none => none
  | _ => none
def toPyL : List D → Option (List PyData)
  | [] => some []
  | d :: ds => match toPy d with
    | some p => match toPyL ds with
      | some ps => some (p :: ps)
      | none => none
    | none => none
end
mutual
theorem toPy_plain : ∀ {d : D} {p : PyData}, toPy d = some p → p.plain = true
  | .non, _, e => by cases e; rfl
  | .bl b, _, e => by cases e; rfl
  | .int i, _, e => by cases e; rfl
  | .str x, _, e => by cases e; rfl
  | .tup ds, p, e => by
    simp only [toPy] at e
    split at e
    · rename_i ps q; cases e; exact toPyL_plain q
    · cases e
  | .lst ds, p, e => by
    simp only [toPy] at e
    split at e
    · rename_i ps q; cases e; exact toPyL_plain q
    · cases e
  | .scr _, _, e => by cases e
  | .dct, _, e => by cases e
  | .obj _ _, _, e => by cases e
  | .ty _, _, e => by cases e
  | .cls _, _, e => by cases e
theorem toPyL_plain : ∀ {ds : List D} {ps : List PyData}, toPyL ds = some ps → PyData.plainAll ps = true
  | [], _, e => by cases e; rfl
  | d :: ds, ps, e => by
    simp only [toPyL] at e
    split at e
    · rename_i p q
      split at e
      · rename_i ps' q2
        cases e
        simp only [PyData.plainAll, toPy_plain q, toPyL_plain q2, Bool.and_self]
      · cases e
    · cases e
end
section
variable {K : PySem.W.Frag} {cl : Cl} {G H : Hp}
mutual
theorem is_dp : ∀ {d : D} {v : V} {p : PyData}, Is K cl H v d → toPy d = some p → Dp K H v p
  | .non, _, _, h, e => by cases e; cases h; exact .non
  | .bl b, _, _, h, e => by cases e; cases h; exact .bl b
  | .int i, _, _, h, e => by cases e; cases h; exact .int i
  | .str x, _, _, h, e => by cases e; cases h; exact .str x
  | .tup ds, v, p, h, e => by
    simp only [toPy] at e
    split at e
    · rename_i ps q
      cases e
      cases h with
      | tup hs ha => exact .tup hs.sq (isA_dp ha q)
    · cases e
  | .lst ds, v, p, h, e => by
    simp only [toPy] at e
    split at e
    · rename_i ps q
      cases e
      cases h with
      | lst hs ha => exact .lst (SqL.of hs) (isA_dp ha q)
    · cases e
  | .wtup _, _, _, _, e => by cases e
  | .scr _, _, _, _, e => by cases e
  | .dct, _, _, _, e => by cases e
  | .obj _ _, _, _, _, e => by cases e
  | .ty _, _, _, _, e => by cases e
  | .cls _, _, _, _, e => by cases e
theorem isA_dp : ∀ {ds : List D} {vs : List V} {ps : List PyData}, IsA K cl H vs ds → toPyL ds = some ps → DpAll K H vs ps
  | [], _, _, h, e => by cases e; cases h; exact .nil
  | d :: ds, vs, ps, h, e => by
    simp only [toPyL] at e
    split at e
    · rename_i p q
      split at e
      · rename_i ps' q2
        cases e
        cases h with
        | cons h1 h2 => exact .cons (is_dp h1 q) (isA_dp h2 q2)
      · cases e
    · cases e
end
theorem isT_dp {d : D} {v : V} {p : PyData} (e : Ex G H) (h : IsT K cl G H v d) (q : toPy d = some p) : Dp K H v p := by
  rcases h with h | ⟨a, vs, xs, rfl, rfl, hp, ia⟩
  · exact is_dp (cl := cl) (h.mono e) q
  · exact is_dp (cl := cl) (.lst hp (ia.mono e)) q
end
def dEq (neg : Bool) (x y : D) : Out R0 := match toPy x, toPy y with
  | some a, some b => if a.depth ≤ 60 then .ok (.d (.bl (if neg then !PyData.eqv a b else PyData.eqv a b))) else .no
  | _, _ => .no
def dIn (neg : Bool) (x c : D) : Out R0 := match toPy x, toPy c with
  | some a, some (.list ps) => if a.depth ≤ 60 then .ok (.d (.bl (if neg then !ps.any (fun y => PyData.eqv y a) else ps.any fun y => PyData.eqv y a))) else .no
  | some a, some (.tuple ps) => if a.depth ≤ 60 then .ok (.d (.bl (if neg then !ps.any (fun y => PyData.eqv y a) else ps.any fun y => PyData.eqv y a))) else .no
  | _, _ => .no
section
variable {X : Cx} {z : Z} {E : XK} {k : Nat}
theorem od_eq (o : OkX X z E k) : OpD X z (compareOp .Eq) (dEq false) := by
  refine ⟨⟨fun x y H Q => ∃ d e, Dp X.K H x d ∧ Dp X.K H y e ∧ d.plain = true ∧ e.plain = true ∧ d.depth ≤ 60 ∧ Q (.bl (PyData.eqv d e)) H, fun pins s σ H x y v u Q I rx ry h => ?_, fun G H x y dx dy Q e ix iy p => ?_⟩, fun x y c d => ?_⟩
  · obtain ⟨d, e, hd, he, sd, se, hl, q⟩ := h
    obtain ⟨as, r1⟩ := Dp.reads I d x v hd rx
    obtain ⟨bs, r2⟩ := Dp.reads I e y u he ry
    have hu := o.room.units
    exact PySem.SeqAt.eq_plain r1 r2 sd se (by have := Nat.min_le_left d.depth e.depth; omega) ⟨.bl _, H, I, rfl, q⟩
  · rw [o.K]
    unfold dEq at p
    split at p
    · rename_i a b qa qb
      split at p
      · rename_i hl
        exact ⟨a, b, isT_dp e ix qa, isT_dp e iy qb, toPy_plain qa, toPy_plain qb, hl, p _ (.bl _)⟩
      · exact p.elim
    · exact p.elim
  · unfold dEq
    split <;> (try split) <;> (intro h; cases h)
theorem od_ne (o : OkX X z E k) : OpD X z (compareOp .NotEq) (dEq true) := by
  refine ⟨⟨fun x y H Q => ∃ d e, Dp X.K H x d ∧ Dp X.K H y e ∧ d.plain = true ∧ e.plain = true ∧ d.depth ≤ 60 ∧ Q (.bl (!PyData.eqv d e)) H, fun pins s σ H x y v u Q I rx ry h => ?_, fun G H x y dx dy Q e ix iy p => ?_⟩, fun x y c d => ?_⟩
  · obtain ⟨d, e, hd, he, sd, se, hl, q⟩ := h
    obtain ⟨as, r1⟩ := Dp.reads I d x v hd rx
    obtain ⟨bs, r2⟩ := Dp.reads I e y u he ry
    have hu := o.room.units
    exact PySem.SeqAt.ne_plain r1 r2 sd se (by have := Nat.min_le_left d.depth e.depth; omega) ⟨.bl _, H, I, rfl, q⟩
  · rw [o.K]
    unfold dEq at p
    split at p
    · rename_i a b qa qb
      split at p
      · rename_i hl
        exact ⟨a, b, isT_dp e ix qa, isT_dp e iy qb, toPy_plain qa, toPy_plain qb, hl, p _ (.bl _)⟩
      · exact p.elim
    · exact p.elim
  · unfold dEq
    split <;> (try split) <;> (intro h; cases h)
end
end TN
namespace TN
open PySem PySem.Spec PyProof.Rows L2

section
variable {X : Cx} {z : Z} {E : XK} {k : Nat}
theorem od_in (o : OkX X z E k) : OpD X z (compareOp .In) (dIn false) := by
  refine ⟨⟨fun x y H Q => ∃ d e, Dp X.K H x d ∧ Dp X.K H y e ∧ d.plain = true ∧ e.plain = true ∧ d.depth ≤ 60 ∧ ((∃ ps, e = .list ps ∧ Q (.bl (ps.any fun y => PyData.eqv y d)) H) ∨ ∃ ps, e = .tuple ps ∧ Q (.bl (ps.any fun y => PyData.eqv y d)) H), fun pins s σ H x y v u Q I rx ry h => ?_, fun G H x y dx dy Q e ix iy p => ?_⟩, fun x y c d => ?_⟩
  · obtain ⟨d, e, hd, he, sd, se, hl, h⟩ := h
    obtain ⟨as, r1⟩ := Dp.reads I d x v hd rx
    obtain ⟨bs, r2⟩ := Dp.reads I e y u he ry
    have hu := o.room.units
    rcases h with ⟨ps, rfl, q⟩ | ⟨ps, rfl, q⟩
    · exact PySem.SeqAt.in_list_data r2 r1 se sd (by have := Nat.min_le_right (PyData.depthAll ps) d.depth; omega) ⟨.bl _, H, I, rfl, q⟩
    · exact PySem.SeqAt.in_tuple_data r2 r1 se sd (by have := Nat.min_le_right (PyData.depthAll ps) d.depth; omega) ⟨.bl _, H, I, rfl, q⟩
  · rw [o.K]
    unfold dIn at p
    split at p
    · rename_i a b qa qb
      split at p
      · rename_i hl; exact ⟨_, _, isT_dp e ix qa, isT_dp e iy qb, toPy_plain qa, toPy_plain qb, hl, .inl ⟨_, rfl, p _ (.bl _)⟩⟩
      · exact p.elim
    · rename_i a b qa qb
      split at p
      · rename_i hl; exact ⟨_, _, isT_dp e ix qa, isT_dp e iy qb, toPy_plain qa, toPy_plain qb, hl, .inr ⟨_, rfl, p _ (.bl _)⟩⟩
      · exact p.elim
    · exact p.elim
  · unfold dIn
    split <;> (try split) <;> (intro h; cases h)
theorem od_notIn (o : OkX X z E k) : OpD X z (compareOp .NotIn) (dIn true) := by
  refine ⟨⟨fun x y H Q => ∃ d e, Dp X.K H x d ∧ Dp X.K H y e ∧ d.plain = true ∧ e.plain = true ∧ d.depth ≤ 60 ∧ ((∃ ps, e = .list ps ∧ Q (.bl (!ps.any fun y => PyData.eqv y d)) H) ∨ ∃ ps, e = .tuple ps ∧ Q (.bl (!ps.any fun y => PyData.eqv y d)) H), fun pins s σ H x y v u Q I rx ry h => ?_, fun G H x y dx dy Q e ix iy p => ?_⟩, fun x y c d => ?_⟩
  · obtain ⟨d, e, hd, he, sd, se, hl, h⟩ := h
    obtain ⟨as, r1⟩ := Dp.reads I d x v hd rx
    obtain ⟨bs, r2⟩ := Dp.reads I e y u he ry
    have hu := o.room.units
    rcases h with ⟨ps, rfl, q⟩ | ⟨ps, rfl, q⟩
    · exact PySem.SeqAt.notIn_list_data r2 r1 se sd (by have := Nat.min_le_right (PyData.depthAll ps) d.depth; omega) ⟨.bl _, H, I, rfl, q⟩
    · exact PySem.SeqAt.notIn_tuple_data r2 r1 se sd (by have := Nat.min_le_right (PyData.depthAll ps) d.depth; omega) ⟨.bl _, H, I, rfl, q⟩
  · rw [o.K]
    unfold dIn at p
    split at p
    · rename_i a b qa qb
      split at p
      · rename_i hl; exact ⟨_, _, isT_dp e ix qa, isT_dp e iy qb, toPy_plain qa, toPy_plain qb, hl, .inl ⟨_, rfl, p _ (.bl _)⟩⟩
      · exact p.elim
    · rename_i a b qa qb
      split at p
      · rename_i hl; exact ⟨_, _, isT_dp e ix qa, isT_dp e iy qb, toPy_plain qa, toPy_plain qb, hl, .inr ⟨_, rfl, p _ (.bl _)⟩⟩
      · exact p.elim
    · exact p.elim
  · unfold dIn
    split <;> (try split) <;> (intro h; cases h)
/-- is None, is not None -/
def isNonD : D → Bool
  | .non => true
  | _ => false
def dIs (neg : Bool) (x y : D) : Out R0 := match y with
  | .non => .ok (.d (.bl (if neg then !isNonD x else isNonD x)))
  | _ => .no
theorem isNon_iff {K : PySem.W.Frag} {cl : Cl} {G H : Hp} {v : V} {d : D} (h : IsT K cl G H v d) : decide (v = .non) = isNonD d := by
  rcases h with h | ⟨p, vs, xs, rfl, rfl, hp, ia⟩
  · cases h <;> rfl
  · rfl
theorem od_is : OpD X z (compareOp .Is) (dIs false) := ⟨⟨_, op_isN, fun G H x y dx dy Q e ix iy p => by
  unfold dIs at p
  split at p
  · exact ⟨isNon iy, by rw [isNon_iff ix]; exact p _ (.bl _)⟩
  · exact p.elim⟩, fun x y c d => by unfold dIs; split <;> (intro h; cases h)⟩
theorem od_isNot : OpD X z (compareOp .IsNot) (dIs true) := ⟨⟨_, op_notN, fun G H x y dx dy Q e ix iy p => by
  unfold dIs at p
  split at p
  · exact ⟨isNon iy, by rw [isNon_iff ix]; exact p _ (.bl _)⟩
  · exact p.elim⟩, fun x y c d => by unfold dIs; split <;> (intro h; cases h)⟩
end

/-! ### items, slices -/
def dIx : D → D → Out R0
  | .tup ds, .int i => match atI ds i with
    | some d => .ok (.d d)
    | none => .no
  | .lst ds, .int i => match atI ds i with
    | some d => .ok (.d d)
    | none => .no
  | .scr ns, .int i => match atI ns i with
    | some d => .ok (.d (.int d))
    | none => .no
  | .str w, .int i => if w.length ≤ 100000 then match atI w.cps.toList i with
    | some c => .ok (.d (.str ⟨#[c]⟩))
    | none => .no else .no
  | _, _ => .no
section
variable {X : Cx} {z : Z} {E : XK} {k : Nat} {K : PySem.W.Frag} {cl : Cl} {G H : Hp}
theorem atI_is {vs : List V} {ds : List D} {i : Int} {d : D} (h : IsA K cl G vs ds) (e : atI ds i = some d) : ∃ v, atI vs i = some v ∧ Is K cl G v d := by
  unfold atI at e ⊢
  rw [h.length]
  cases q : ixN ds.length i with
  | none => rw [q] at e; cases e
  | some j =>
    rw [q] at e
    exact h.get (i := j) e
theorem atI_map {α β : Type} {f : α → β} {xs : List α} {i : Int} {d : α} (e : atI xs i = some d) : atI (xs.map f) i = some (f d) := by
  unfold atI at e ⊢
  rw [List.length_map]
  cases q : ixN xs.length i with
  | none => rw [q] at e; cases e
  | some j =>
    rw [q] at e
    have e : xs[j]? = some d := e
    show (xs.map f)[j]? = some (f d)
    rw [List.getElem?_map, e]; rfl
theorem ixd (hK : X.K = z.K) : IxD X z dIx := by
  refine ⟨⟨_, ix_seq, fun G H x y dx dy Q e ix iy p => ?_⟩, fun x y c d => ?_⟩
  · rw [hK]
    unfold dIx at p
    split at p
    · split at p
      · rename_i q
        obtain ⟨p1, vs, rfl, hs, ia, _⟩ := isTup e ix
        obtain ⟨v, hv, w⟩ := atI_is ia q
        exact .inr (.inl ⟨p1, vs, _, v, rfl, isInt iy, hs, hv, p _ w⟩)
      · exact p.elim
    · split at p
      · rename_i q
        obtain ⟨p1, vs, rfl, hs, ia⟩ := isLst e ix
        obtain ⟨v, hv, w⟩ := atI_is ia q
        exact .inl ⟨p1, vs, _, v, rfl, isInt iy, SqL.of hs, hv, p _ w⟩
      · exact p.elim
    · split at p
      · rename_i q
        obtain ⟨p1, rfl, hs⟩ := isScr e ix
        exact .inl ⟨p1, _, _, _, rfl, isInt iy, hs, atI_map q, p _ (.int _)⟩
      · exact p.elim
    · split at p
      · rename_i hl
        split at p
        · rename_i q
          exact .inr (.inr ⟨_, _, _, isStr ix, isInt iy, line100 hl, q, p _ (.str _)⟩)
        · exact p.elim
      · exact p.elim
    · exact p.elim
  · unfold dIx
    split <;> (try split) <;> (try split) <;> (intro h; cases h)
def cutD {α : Type} (xs : List α) (lo hi : Option Int) : List α := (xs.drop (HT.sIx xs.length 0 lo)).take (HT.sIx xs.length xs.length hi - HT.sIx xs.length 0 lo)
def dSl : D → Option Int → Option Int → Out R0
  | .tup ds, lo, hi => if HT.sIx ds.length 0 lo = 0 ∧ HT.sIx ds.length ds.length hi = ds.length then .ok (.d (.tup ds)) else .ok (.tp (cutD ds lo hi))
  | .lst ds, lo, hi => .ok (.ls (cutD ds lo hi))
  | _, _, _ => .no
theorem cut_is {vs : List V} {ds : List D} {lo hi : Option Int} (h : IsA K cl G vs ds) : IsA K cl G (cutV vs lo hi) (cutD ds lo hi) := by
  unfold cutV cutD
  rw [h.length]
  exact (h.drop _).take _
theorem SlR.or' {r r' : V → Option Int → Option Int → Hp → VK → Prop} (h : SlR X r) (h' : SlR X r') : SlR X (fun x lo hi H Q => r x lo hi H Q ∨ r' x lo hi H Q) := SlR.or h h'
theorem sld (hK : X.K = z.K) : SlD X z dSl := by
  refine ⟨⟨_, sl_list.or sl_tupX, fun G H x lo hi dx Q e ix p => ?_⟩, fun x y w c d => ?_⟩
  · rw [hK]
    unfold dSl at p
    split at p
    · obtain ⟨p1, vs, rfl, hs, ia, hg⟩ := isTup e ix
      split at p
      · rename_i hc
        exact .inr ⟨p1, vs, rfl, hs, fun _ => p _ (.tup hg ia), fun q => absurd (by rw [ia.length]; exact hc) q⟩
      · rename_i hc
        exact .inr ⟨p1, vs, rfl, hs, fun q => absurd (by rw [ia.length] at q; exact q) hc, fun _ pp oo hp hd => p pp _ oo hp hd (cut_is ia)⟩
    · obtain ⟨p1, vs, rfl, hs, ia⟩ := isLst e ix
      exact .inl ⟨p1, vs, rfl, SqL.of hs, fun pp hp => p pp _ hp (cut_is ia)⟩
    · exact p.elim
  · unfold dSl
    split <;> (try split) <;> (intro h; cases h)
end

/-! ### built-ins -/
def tyOf : D → Option String
  | .non => some "NoneType"
  | .bl _ => some "bool"
  | .int _ => some "int"
  | .str _ => some "str"
  | .tup _ => some "tuple"
  | .lst _ => some "list"
  | .scr _ => none
  | .dct => some "dict"
  | _ => none
def isiT (t T : String) : Option Bool := if T = "int" then some (t = "int" || t = "bool") else if T = "bool" ∨ T = "str" ∨ T = "tuple" ∨ T = "list" ∨ T = "dict" then some (t = T) else none
theorem kit_all : ∀ t ∈ ["NoneType", "bool", "int", "str", "tuple", "list", "dict"], ∀ T ∈ ["int", "bool", "str", "tuple", "list", "dict"], kitB t T = isiT t T := by decide +kernel
theorem isiT_mem {t T : String} {b : Bool} (h : isiT t T = some b) : T ∈ ["int", "bool", "str", "tuple", "list", "dict"] := by
  unfold isiT at h
  split at h
  · rename_i e; rw [e]; decide
  · split at h
    · rename_i e
      rcases e with e | e | e | e | e <;> (rw [e]; decide)
    · cases h
theorem tyOf_mem {d : D} {t : String} (h : tyOf d = some t) : t ∈ ["NoneType", "bool", "int", "str", "tuple", "list", "dict"] := by
  unfold tyOf at h
  split at h <;> first | (cases h; decide) | cases h
theorem tyOf_is {K : PySem.W.Frag} {cl : Cl} {G H : Hp} {v : V} {d : D} {t : String} (e : Ex G H) (h : IsT K cl G H v d) (ht : tyOf d = some t) : TyX K H v (.type t) := by
  rcases h with h | ⟨p, vs, xs, rfl, rfl, hp, ia⟩
  · cases h with
    | non => cases ht; exact .base .non
    | bl b => cases ht; exact .base (.bl b)
    | int i => cases ht; exact .base (.int i)
    | str x => cases ht; exact .base (.str x)
    | tup hs ha =>
      cases ht
      rcases hs.sq with (hs | ⟨o, hs⟩) | ⟨o, its, n, hk, hc, _⟩
      · exact .base (.tup (e _ _ hs))
      · exact .fTuple (e _ _ hs)
      · exact .kTuple hk hc
    | lst hs ha => cases ht; exact .base (.lst (e _ _ hs))
    | dct hs => cases ht; exact .base (.dK (e _ _ hs))
    | _ => cases ht
  · cases ht; exact .base (.lst hp)
def bIsi : List D → Out R0
  | [x, .ty T] => match tyOf x with
    | some t => match isiT t T with
      | some b => .ok (.d (.bl b))
      | none => .no
    | none => .no
  | _ => .no
def bLen : List D → Out R0
  | [.tup ds] => .ok (.d (.int ds.length))
  | [.lst ds] => .ok (.d (.int ds.length))
  | [.scr ds] => .ok (.d (.int ds.length))
  | [.str x] => if x.length ≤ 100000 then .ok (.d (.int x.length)) else .no
  | _ => .no
def bTuple : List D → Out R0
  | [.tup ds] => .ok (.d (.tup ds))
  | [.lst ds] => .ok (.tp ds)
  | _ => .no
def bList : List D → Out R0
  | [.tup ds] => .ok (.ls ds)
  | [.lst ds] => .ok (.ls ds)
  | _ => .no
def bInt : List D → Out R0
  | [.int i] => .ok (.d (.int i))
  | [.bl b] => .ok (.d (.int (if b then 1 else 0)))
  | _ => .no
def bAbs : List D → Out R0
  | [.int i] => .ok (.d (.int (if i < 0 then -i else i)))
  | _ => .no
def toInts : List D → Option (List Int)
  | [] => some []
  | .int i :: r => match toInts r with
    | some is => some (i :: is)
    | none => none
  | _ => none
def toBls : List D → Option (List Bool)
  | [] => some []
  | .bl i :: r => match toBls r with
    | some is => some (i :: is)
    | none => none
  | _ => none
theorem toInts_eq : ∀ {ds : List D} {is : List Int}, toInts ds = some is → ds = is.map D.int
  | [], _, e => by cases e; rfl
  | .int i :: r, is, e => by
    simp only [toInts] at e
    split at e
    · rename_i js q; cases e; rw [toInts_eq q]; rfl
    · cases e
  | .non :: _, _, e => by cases e
  | .bl _ :: _, _, e => by cases e
  | .str _ :: _, _, e => by cases e
  | .tup _ :: _, _, e => by cases e
  | .lst _ :: _, _, e => by cases e
  | .scr _ :: _, _, e => by cases e
  | .dct :: _, _, e => by cases e
  | .obj _ _ :: _, _, e => by cases e
  | .ty _ :: _, _, e => by cases e
  | .cls _ :: _, _, e => by cases e
theorem toInts_map : ∀ (is : List Int), toInts (is.map D.int) = some is
  | [] => rfl
  | i :: is => by simp only [List.map_cons, toInts, toInts_map is]
theorem toBls_eq : ∀ {ds : List D} {is : List Bool}, toBls ds = some is → ds = is.map D.bl
  | [], _, e => by cases e; rfl
  | .bl i :: r, is, e => by
    simp only [toBls] at e
    split at e
    · rename_i js q; cases e; rw [toBls_eq q]; rfl
    · cases e
  | .non :: _, _, e => by cases e
  | .int _ :: _, _, e => by cases e
  | .str _ :: _, _, e => by cases e
  | .tup _ :: _, _, e => by cases e
  | .lst _ :: _, _, e => by cases e
  | .scr _ :: _, _, e => by cases e
  | .dct :: _, _, e => by cases e
  | .obj _ _ :: _, _, e => by cases e
  | .ty _ :: _, _, e => by cases e
  | .cls _ :: _, _, e => by cases e
theorem toBls_map : ∀ (is : List Bool), toBls (is.map D.bl) = some is
  | [] => rfl
  | i :: is => by simp only [List.map_cons, toBls, toBls_map is]
def bAll : List D → Out R0
  | [.lst ds] => match toBls ds with
    | some bs => .ok (.d (.bl (bs.all id)))
    | none => .no
  | _ => .no
def bAny : List D → Out R0
  | [.lst ds] => match toBls ds with
    | some bs => .ok (.d (.bl (bs.any id)))
    | none => .no
  | _ => .no
def bSum : List D → Out R0
  | [.lst ds] => match toInts ds with
    | some bs => .ok (.d (.int bs.sum))
    | none => .no
  | _ => .no
def bMax : List D → Out R0
  | [.int i, .int j] => .ok (.d (.int (if j > i then j else i)))
  | _ => .no
def bMin : List D → Out R0
  | [.int i, .int j] => .ok (.d (.int (if j < i then j else i)))
  | _ => .no
def bStr : List D → Out R0
  | [.int i] => if i.natAbs.log2 < 1920 then .ok (.d (.str (toString i))) else .no
  | _ => .no
section
variable {X : Cx} {z : Z} {E : XK} {k : Nat}
theorem cd1 {f : Value} {op : List D → Out R0} (r : List V → Hp → VK → Prop) (hr : CallR X f r) (nx : ∀ x c d, op x ≠ .exc c d) (hn : ∀ ds, (∀ d, ds ≠ [d]) → op ds = .no)
    (h : ∀ G H v d Q, Ex G H → IsT z.K z.cl G H v d → P0 z G H Q (op [d]) → r [v] H Q) : CallD X z f op := ⟨⟨r, hr, fun G H vs ds Q e i p => by
  by_cases q : ∃ d, ds = [d]
  · obtain ⟨d, rfl⟩ := q
    obtain ⟨v, rfl, w⟩ := isTs1 i
    exact h G H v d Q e w p
  · rw [hn ds (fun d e => q ⟨d, e⟩)] at p
    exact p.elim⟩, nx⟩
theorem cd_len (hK : X.K = z.K) : CallD X z (.builtin "len") bLen := ⟨⟨_, call_len, fun G H vs ds Q e i p => by
  rw [hK]
  unfold bLen at p
  split at p
  · obtain ⟨v, rfl, w⟩ := isTs1 i
    obtain ⟨a, vs, rfl, hs, ia, _⟩ := isTup e w
    exact ⟨_, _, rfl, .inr ⟨vs, hs, rfl⟩, by rw [ia.length]; exact p _ (.int _)⟩
  · obtain ⟨v, rfl, w⟩ := isTs1 i
    obtain ⟨a, vs, rfl, hs, ia⟩ := isLst e w
    exact ⟨_, _, rfl, .inl ⟨vs, SqL.of hs, rfl⟩, by rw [ia.length]; exact p _ (.int _)⟩
  · obtain ⟨v, rfl, w⟩ := isTs1 i
    obtain ⟨a, rfl, hs⟩ := isScr e w
    exact ⟨_, _, rfl, .inl ⟨_, hs, rfl⟩, by rw [List.length_map]; exact p _ (.int _)⟩
  · split at p
    · rename_i hl
      obtain ⟨v, rfl, w⟩ := isTs1 i
      rw [isStr w]
      exact ⟨_, _, rfl, ⟨line100 hl, rfl⟩, p _ (.int _)⟩
    · exact p.elim
  · exact p.elim⟩, fun x c d => by unfold bLen; split <;> (try split) <;> (intro h; cases h)⟩
theorem cd_isi (hK : X.K = z.K) : CallD X z (.builtin "isinstance") bIsi := ⟨⟨_, call_isi, fun G H vs ds Q e i p => by
  rw [hK]
  unfold bIsi at p
  split at p
  · split at p
    · rename_i t ht
      split at p
      · rename_i b hb
        obtain ⟨v, w, rfl, wv, ww⟩ := isTs2 i
        rw [isTy ww]
        exact ⟨_, _, _, _, b, rfl, .ty _, tyOf_is e wv ht, kit_ty ((kit_all _ (tyOf_mem ht) _ (isiT_mem hb)).trans hb), p _ (.bl _)⟩
      · exact p.elim
    · exact p.elim
  · exact p.elim⟩, fun x c d => by unfold bIsi; split <;> (try split) <;> (try split) <;> (intro h; cases h)⟩
theorem cd_tuple (hK : X.K = z.K) : CallD X z (.type "tuple") bTuple := ⟨⟨_, call_tupleX, fun G H vs ds Q e i p => by
  rw [hK]
  unfold bTuple at p
  split at p
  · obtain ⟨v, rfl, w⟩ := isTs1 i
    obtain ⟨a, vs, rfl, hs, ia, hg⟩ := isTup e w
    exact ⟨_, _, rfl, .inr ⟨hs, p _ (.tup hg ia)⟩⟩
  · obtain ⟨v, rfl, w⟩ := isTs1 i
    obtain ⟨a, vs, rfl, hs, ia⟩ := isLst e w
    exact ⟨_, _, rfl, .inl ⟨SqL.of hs, fun l oo hl hd => p l _ oo hl hd ia⟩⟩
  · exact p.elim⟩, fun x c d => by unfold bTuple; split <;> (intro h; cases h)⟩
theorem cd_list (hK : X.K = z.K) : CallD X z (.type "list") bList := ⟨⟨_, call_list_of, fun G H vs ds Q e i p => by
  rw [hK]
  unfold bList at p
  split at p
  · obtain ⟨v, rfl, w⟩ := isTs1 i
    obtain ⟨a, vs, rfl, hs, ia, hg⟩ := isTup e w
    exact ⟨_, _, rfl, .inr hs, fun l hl => p l _ hl ia⟩
  · obtain ⟨v, rfl, w⟩ := isTs1 i
    obtain ⟨a, vs, rfl, hs, ia⟩ := isLst e w
    exact ⟨_, _, rfl, .inl (SqL.of hs), fun l hl => p l _ hl ia⟩
  · exact p.elim⟩, fun x c d => by unfold bList; split <;> (intro h; cases h)⟩
theorem cd_int : CallD X z (.type "int") bInt := ⟨⟨_, call_int1, fun G H vs ds Q e i p => by
  unfold bInt at p
  split at p
  · obtain ⟨v, rfl, w⟩ := isTs1 i
    exact .inl ⟨_, by rw [isInt w], p _ (.int _)⟩
  · obtain ⟨v, rfl, w⟩ := isTs1 i
    exact .inr ⟨_, by rw [isBl w], p _ (.int _)⟩
  · exact p.elim⟩, fun x c d => by unfold bInt; split <;> (intro h; cases h)⟩
theorem cd_abs : CallD X z (.builtin "abs") bAbs := ⟨⟨_, call_abs, fun G H vs ds Q e i p => by
  unfold bAbs at p
  split at p
  · obtain ⟨v, rfl, w⟩ := isTs1 i
    exact ⟨_, by rw [isInt w], p _ (.int _)⟩
  · exact p.elim⟩, fun x c d => by unfold bAbs; split <;> (intro h; cases h)⟩
theorem cd_str : CallD X z (.type "str") bStr := ⟨⟨_, call_str_int, fun G H vs ds Q e i p => by
  unfold bStr at p
  split at p
  · split at p
    · rename_i hl
      obtain ⟨v, rfl, w⟩ := isTs1 i
      exact ⟨_, by rw [isInt w], hl, p _ (.str _)⟩
    · exact p.elim
  · exact p.elim⟩, fun x c d => by unfold bStr; split <;> (try split) <;> (intro h; cases h)⟩
theorem cd_max (hc : X.calm = true) : CallD X z (.builtin "max") bMax := ⟨⟨_, call_max2 hc, fun G H vs ds Q e i p => by
  unfold bMax at p
  split at p
  · obtain ⟨v, w, rfl, wv, ww⟩ := isTs2 i
    exact ⟨_, _, by rw [isInt wv, isInt ww], p _ (.int _)⟩
  · exact p.elim⟩, fun x c d => by unfold bMax; split <;> (intro h; cases h)⟩
theorem cd_min (hc : X.calm = true) : CallD X z (.builtin "min") bMin := ⟨⟨_, call_min2 hc, fun G H vs ds Q e i p => by
  unfold bMin at p
  split at p
  · obtain ⟨v, w, rfl, wv, ww⟩ := isTs2 i
    exact ⟨_, _, by rw [isInt wv, isInt ww], p _ (.int _)⟩
  · exact p.elim⟩, fun x c d => by unfold bMin; split <;> (intro h; cases h)⟩
theorem cd_all (hK : X.K = z.K) (hc : X.calm = true) : CallD X z (.builtin "all") bAll := ⟨⟨_, cr_all hc, fun G H vs ds Q e i p => by
  rw [hK]
  unfold bAll at p
  split at p
  · split at p
    · rename_i bs q
      obtain ⟨v, rfl, w⟩ := isTs1 i
      obtain ⟨a, vs, rfl, hs, ia⟩ := isLst e w
      rw [toBls_eq q] at ia
      rw [IsA.bls ia] at hs
      exact ⟨a, bs, rfl, SqL.of hs, p _ (.bl _)⟩
    · exact p.elim
  · exact p.elim⟩, fun x c d => by unfold bAll; split <;> (try split) <;> (intro h; cases h)⟩
theorem cd_any (hK : X.K = z.K) (hc : X.calm = true) : CallD X z (.builtin "any") bAny := ⟨⟨_, cr_any hc, fun G H vs ds Q e i p => by
  rw [hK]
  unfold bAny at p
  split at p
  · split at p
    · rename_i bs q
      obtain ⟨v, rfl, w⟩ := isTs1 i
      obtain ⟨a, vs, rfl, hs, ia⟩ := isLst e w
      rw [toBls_eq q] at ia
      rw [IsA.bls ia] at hs
      exact ⟨a, bs, rfl, SqL.of hs, p _ (.bl _)⟩
    · exact p.elim
  · exact p.elim⟩, fun x c d => by unfold bAny; split <;> (try split) <;> (intro h; cases h)⟩
theorem cd_sum (hK : X.K = z.K) (hc : X.calm = true) : CallD X z (.builtin "sum") bSum := ⟨⟨_, cr_sum hc, fun G H vs ds Q e i p => by
  rw [hK]
  unfold bSum at p
  split at p
  · split at p
    · rename_i bs q
      obtain ⟨v, rfl, w⟩ := isTs1 i
      obtain ⟨a, vs, rfl, hs, ia⟩ := isLst e w
      rw [toInts_eq q] at ia
      rw [IsA.ints ia] at hs
      exact ⟨a, bs, rfl, SqL.of hs, p _ (.int _)⟩
    · exact p.elim
  · exact p.elim⟩, fun x c d => by unfold bSum; split <;> (try split) <;> (intro h; cases h)⟩
/-- a built-in type as a value -/
theorem we_tyName {x : Str} {T : String} {pos : Pos} (hm : X.mg x = none) (hv : bootBuiltins x = some (.type T)) (hg : Gl X x := by rfl) (hn : x ≠ "__name__" := by decide) (hd : (x == ("__debug__" : Str)) = false := by decide) : PE X (.Name x pos) (tE z E (fC (.ty T))) :=
  pe_mono (pe_bltn (v := .ty T) hg hm hv rfl hn hd) fun _ _ _ h => te_c (fun _ _ _ => .ty T) h
end

/-! ### sorted -/
def insI (i : Int) : List Int → List Int
  | [] => [i]
  | j :: r => if i ≤ j then i :: j :: r else j :: insI i r
def sortI : List Int → List Int
  | [] => []
  | i :: r => insI i (sortI r)
theorem insI_perm (i : Int) : ∀ l : List Int, (insI i l).Perm (i :: l)
  | [] => .refl _
  | j :: r => by
    unfold insI
    split
    · exact .refl _
    · exact ((insI_perm i r).cons j).trans (.swap i j r)
theorem sortI_perm : ∀ l : List Int, (sortI l).Perm l
  | [] => .refl _
  | i :: r => (insI_perm i _).trans ((sortI_perm r).cons i)
theorem insI_sorted (i : Int) : ∀ {l : List Int}, l.Pairwise (· ≤ ·) → (insI i l).Pairwise (· ≤ ·)
  | [], _ => by simp [insI]
  | j :: r, h => by
    unfold insI
    have h' := List.pairwise_cons.mp h
    split
    · rename_i q
      refine List.pairwise_cons.mpr ⟨fun a ha => ?_, h⟩
      rcases List.mem_cons.mp ha with e | e
      · rw [e]; exact q
      · exact Int.le_trans q (h'.1 a e)
    · rename_i q
      refine List.pairwise_cons.mpr ⟨fun a ha => ?_, insI_sorted i h'.2⟩
      rcases List.mem_cons.mp ((insI_perm i r).mem_iff.mp ha) with e | e
      · rw [e]; omega
      · exact h'.1 a e
theorem sortI_sorted : ∀ l : List Int, (sortI l).Pairwise (· ≤ ·)
  | [] => .nil
  | i :: r => insI_sorted i (sortI_sorted r)
theorem sorted_unique {a b : List Int} (p : a.Perm b) (ha : a.Pairwise (· ≤ ·)) (hb : b.Pairwise (· ≤ ·)) : a = b := by
  exact p.eq_of_pairwise (fun x y _ _ h1 h2 => Int.le_antisymm h1 h2) ha hb
def bSorted : List D → Out R0
  | [.lst ds] => match toInts ds with
    | some is => .ok (.ls ((sortI is).map D.int))
    | none => .no
  | [.tup ds] => match toInts ds with
    | some is => .ok (.ls ((sortI is).map D.int))
    | none => .no
  | _ => .no
/-- a new object at a place where none stands -/
theorem Inv.laidAt {X : Cx} {pins : List (Addr × Obj)} {σ : L2.St} {H : Hp} {s : Shared} {h' : Heap} {a : Addr} {o : HO} {t' : Nat} (I : Inv X pins σ H s) (k : ∀ b u, s.heap.get? b = some u → h'.get? b = some u) (hp : s.heap.get? a = none) (new : ObjOk X.prog X.w (upd H a o) h' a o) :
    Inv X pins σ (upd H a o) { s with heap := h', toks := t' } := by
  have hn : H a = none := I.hok.gone hp
  have ne : ∀ b u, s.heap.get? b = some u → b ≠ a := fun b u e q => by rw [q, hp] at e; cases e
  refine I.un ⟨fun b u e _ _ _ => k b u e, fun b u e _ _ _ => ⟨u.slots, k b u e⟩, fun b u e n _ => by rw [upd_ne (ne b u e)]; exact n, fun b u e _ => ⟨u, k b u e⟩, fun b xs e => ?_, fun b q xs e => ?_, fun b ps e => ⟨#[], ?_⟩⟩ fun b u e => ?_
  · rw [upd_ne (ne_of_none e hn)]; exact e
  · rw [upd_ne (ne_of_none e hn)]; exact e
  · rw [upd_ne (ne_of_none e hn), e]; simp
  · by_cases hb : b = a
    · subst hb; rw [upd_same] at e; cases e; exact new
    · rw [upd_ne hb] at e
      exact (I.hok b u e).stay (fun c v _ w => k c v w) (fun c w => by rw [upd_ne (ne_of_none w hn)]; exact w) fun c xs w => by rw [upd_ne (ne_of_none w hn)]; exact w
section
variable {X : Cx} {z : Z} {E : XK} {k : Nat}
def rSortedTu (K : PySem.W.Frag) : List V → Hp → VK → Prop := fun vs H Q => ∃ (a : Addr) (ns : List Int), vs = [V.ref a] ∧ SqT K H a (ns.map V.int) ∧
  ∀ (ns' : List Int) (p : Addr), ns'.Perm ns → ns'.Pairwise (· ≤ ·) → H p = none → Q (.ref p) (upd H p (.lst (ns'.map V.int)))
theorem cr_sortedTu : CallR X (.builtin "sorted") (rSortedTu X.K) := by
  intro pins s σ H vs us Q I r h
  obtain ⟨a, ns, rfl, hs, q⟩ := h
  obtain ⟨its, rv, ⟨o, ho, hc, n, hd⟩, hz⟩ := I.tuple hs
  rw [Vals.ref1 r]
  have hi := rv.ints
  have hzi : its.length ≤ sizeLine := by rw [← rv.length]; exact hz
  refine Calls.call_function_entry kind_sorted plain_sorted entry_sorted (args_sorted1 _) ?_
  unfold Builtin.«sorted»
  refine wpAny_bind (m := checkCount "sorted" 1 1 _) (wpAny_pure ?_)
  refine wpAny_bind (wpAny_collect_seq a (.inr rfl) ho hc hd (fun h' keep => ?_) (by simpa using hzi))
  refine wpAny_bind (wpAny_newList ?_ (by simpa using hzi))
  have hoL : (h'.push (seqObj "list" its.toArray 0)).get? h'.objs.size = some (seqObj "list" its.toArray 0) := Heap.get?_push_size _ rfl
  have kept : ∀ b o, s.heap.get? b = some o → b ≠ h'.objs.size ∧ (h'.push (seqObj "list" its.toArray 0)).get? b = some o := fun b o q =>
    ⟨Nat.ne_of_lt (Heap.lt_size (keep b o q)), Heap.get?_push_of_some _ (keep b o q)⟩
  show wpAny _ _ _ _ _ { s with heap := h'.push (seqObj "list" its.toArray 0) }
  refine wpAny_bind (wpAny_holding (wpAny_call_entry slot_list_sort ⟨_, hoL, rfl⟩ entry_list_sort (SrtO.list_sort_ord SrtO.swo_int hoL hzi (fun h2 => SrtO.ints_sortable hi h2) fun out h1 h2 => ⟨_, rfl, ?_⟩) (args_list_sort _)))
  obtain ⟨k1, k2, k3⟩ := SrtO.ints_out hi h1 h2
  obtain ⟨ep, he'⟩ := PyProof.Rows.sortedHeap_at (vs := its) (out := out.toArray) hoL
  have hlen : ((out.map SrtO.iv).map V.int).length ≤ sizeLine := by
    rw [List.length_map, k2.length_eq]
    rw [List.length_map] at hz
    exact hz
  have hp : s.heap.get? h'.objs.size = none := by
    cases q : s.heap.get? h'.objs.size with
    | none => rfl
    | some o => exact absurd (Heap.lt_size (keep _ o q)) (Nat.lt_irrefl _)
  have fin : L2.Inv X pins σ (upd H h'.objs.size (.lst ((out.map SrtO.iv).map V.int))) { s with heap := sortedHeap (h'.push (seqObj "list" its.toArray 0)) h'.objs.size its out.toArray, toks := s.toks } :=
    Inv.laidAt (s := s) (t' := s.toks) I (fun b u hb => by rw [PyProof.Rows.sortedHeap_old (kept b u hb).1 (Heap.lt_size (kept b u hb).2)]; exact (kept b u hb).2) hp ⟨hlen, out, ep, vals_of_ints k1, he'⟩
  exact wpAny_pure ⟨_, rfl, .ref _, _, fin, rfl, q _ _ k2 k3 (I.hok.gone hp)⟩
theorem isA_ints {K : PySem.W.Frag} {cl : Cl} {G : Hp} : ∀ ns : List Int, IsA K cl G (ns.map V.int) (ns.map D.int)
  | [] => .nil
  | _ :: ns => .cons (.int _) (isA_ints ns)
theorem sorted_end {z : Z} {G H : Hp} {Q : VK} {is ns' : List Int} {p : Addr} (hp : ns'.Perm is) (hs : ns'.Pairwise (· ≤ ·)) (hn : H p = none) (h : P0 z G H Q (.ok (.ls ((sortI is).map D.int)))) : Q (.ref p) (upd H p (.lst (ns'.map V.int))) := by
  have e : ns' = sortI is := sorted_unique (hp.trans (sortI_perm is).symm) hs (sortI_sorted is)
  subst e
  exact h p _ hn (isA_ints _)
theorem cd_sorted (hK : X.K = z.K) : CallD X z (.builtin "sorted") bSorted := ⟨⟨fun vs H Q => rSortedI X.K vs H Q ∨ rSortedTu X.K vs H Q, fun pins s σ H vs us Q I r h => by
    rcases h with h | h
    · exact cr_sortedI pins s σ H vs us Q I r h
    · exact cr_sortedTu pins s σ H vs us Q I r h, fun G H vs ds Q e i p => by
  rw [hK]
  unfold bSorted at p
  split at p
  · split at p
    · rename_i bs q
      obtain ⟨v, rfl, w⟩ := isTs1 i
      obtain ⟨a, vs, rfl, hs, ia⟩ := isLst e w
      rw [toInts_eq q] at ia
      rw [IsA.ints ia] at hs
      exact .inl ⟨a, bs, rfl, SqL.of hs, fun ns' p' h1 h2 h3 => sorted_end h1 h2 h3 p⟩
    · exact p.elim
  · split at p
    · rename_i bs q
      obtain ⟨v, rfl, w⟩ := isTs1 i
      obtain ⟨a, vs, rfl, hs, ia, _⟩ := isTup e w
      rw [toInts_eq q] at ia
      rw [IsA.ints ia] at hs
      exact .inr ⟨a, bs, rfl, hs, fun ns' p' h1 h2 h3 => sorted_end h1 h2 h3 p⟩
    · exact p.elim
  · exact p.elim⟩, fun x c d => by unfold bSorted; split <;> (try split) <;> (intro h; cases h)⟩
end
end TN
namespace TN
open PySem PySem.Spec PyProof.Rows L2

/-! ### list(range(..)) -/
section
variable {X : Cx} {z : Z} {E : XK} {k n : Nat} {e : Expr} {f : F} {p p2 pos pos2 : Pos}
def fLRg1 (f : F) : F := fun env => (f env).bind fun q => match q.1 with
  | .d (.int j) => if 0 ≤ j ∧ j ≤ 100000 then .ok (.new (rng 0 j), q.2) else .no
  | _ => .no
theorem isA_rgV {K : PySem.W.Frag} {cl : Cl} {G : Hp} (a b : Int) : IsA K cl G (rgV a b) (rng a b) := by
  unfold rgV rng
  generalize List.range (b - a).toNat = l
  induction l with
  | nil => exact .nil
  | cons x r ih => exact .cons (.int _) ih
theorem we_listRg (hc : X.calm = true) (hl : X.mg "list" = none) (hm : X.mg "range" = none) (he : PE X e (tE z E f)) (hg : Gl X "list" := by rfl) (hg2 : Gl X "range" := by rfl)
    (na : starEach [e] X.env = (false, eval e X.env) :: starEach [] X.env := by rfl) (nb : starEach [.Call (.Name "range" p2) [e] [] pos2] X.env = (false, eval (.Call (.Name "range" p2) [e] [] pos2) X.env) :: starEach [] X.env := by rfl) :
    PE X (.Call (.Name "list" p) [.Call (.Name "range" p2) [e] [] pos2] [] pos) (tE z E (fLRg1 f)) := pe_mono (pe_listRg hc hg hl (prg_1 hg2 hm he na) nb) fun σ H Q ⟨T, G, env, r, h⟩ => by
  refine ⟨T, G, env, r, (Pg.bind h).imp fun p hp v H1 G1 r1 e1 w1 => ?_⟩
  obtain ⟨q1, q2⟩ := p
  dsimp only at hp
  split at hp
  · rename_i j
    have w1 : Is z.K z.cl G1 v (.int j) := w1
    cases w1
    split at hp
    · rename_i hj
      refine ⟨j, rfl, RgOk.of_le (Int.le_refl 0) (by omega) (by omega) hj.1, fun q hq => ?_⟩
      obtain ⟨n1, n2, n3, n4, n5⟩ := r1.nn hq
      exact hp _ _ _ (r1.alloc hq) e1 ⟨q, _, rfl, upd_same, isA_rgV 0 j, n1, n2, n3, n4, n5⟩
    · exact hp.elim
  · exact hp.elim
end

/-! ### x.pop(i), x.extend(e), x[i] = e -/
def fPopI (i : Nat) (f : F) : F := fun env => (ofO (lstAt env i)).bind fun _ => (f env).bind fun p => match p.1 with
  | .d (.int j) => if -(2 ^ 62) ≤ j ∧ j < 2 ^ 62 then (ofO (lstAt p.2 i)).bind fun l => (ofO (ixN l.1.length j)).bind fun m => (ofO l.1[m]?).bind fun d => .ok (.d d, p.2.set i (l.2 (l.1.eraseIdx m))) else .no
  | _ => .no
def fExt (i : Nat) (f : F) : F := fun env => (ofO (lstAt env i)).bind fun _ => (f env).bind fun p => match p.1.opd.der p.2 with
  | some (.lst ys) => (ofO (lstAt p.2 i)).bind fun l => if l.1.length + ys.length ≤ 100000 then .ok (.d .non, p.2.set i (l.2 (l.1 ++ ys))) else .no
  | _ => .no
section
variable {X : Cx} {z : Z} {E : XK} {k n i : Nat} {c : Expr} {f fi : F} {σ : L2.St} {H : Hp} {Q : VK}
theorem te_popI (hK : X.K = z.K) (h : tE z E (fPopI i f) σ H Q) : tBM X.K "list" rPopAt (tVar i) (tCons (tE z E f) tNil) σ H Q := by
  rw [hK]
  obtain ⟨T, G, env, r, h⟩ := h
  obtain ⟨⟨xs0, mk0⟩, el0, h⟩ := (Pg.bind h).ofO
  obtain ⟨p0, vs0, es0, _, hp0, _, _⟩ := lstAt_ow r el0
  refine ⟨_, es0, .inl ⟨rfl, vs0, SqL.of hp0⟩, T, G, env, r, (Pg.bind h).imp fun p hp v H1 G1 r1 e1 w1 => ?_⟩
  obtain ⟨q1, q2⟩ := p
  dsimp only at hp
  split at hp
  · rename_i j
    have w1 : Is z.K z.cl G1 v (.int j) := w1
    cases w1
    split at hp
    · rename_i hj
      obtain ⟨⟨xs, mk⟩, el, hp⟩ := (Pg.bind hp).ofO
      obtain ⟨m, em, hp⟩ := (Pg.bind hp).ofO
      obtain ⟨d, ed, hp⟩ := (Pg.bind hp).ofO
      obtain ⟨p, vs, es, _, hpp, a, st⟩ := lstAt_ow r1 el
      rw [es0] at es
      cases es
      obtain ⟨k1, k2, k3, k4⟩ := ixN_seq em
      obtain ⟨y, hy, wy⟩ := a.get ed
      exact ⟨p0, vs, j, m, y, rfl, rfl, hpp, by omega, by omega, by rw [a.length]; exact k1, hy, hp y _ G1 (st _ _ (a.eraseIdx m)) e1 wy⟩
    · exact hp.elim
  · exact hp.elim
theorem we_popI (o : OkX X z E k) (h : PE X c (tBM X.K "list" rPopAt (tVar i) (tCons (tE z E f) tNil))) : PE X c (tE z E (fPopI i f)) := pe_mono h fun _ _ _ h => te_popI o.K h
theorem te_ext (hK : X.K = z.K) (h : tE z E (fExt i f) σ H Q) : tBM X.K "list" rExtend (tVar i) (tCons (tE z E f) tNil) σ H Q := by
  rw [hK]
  obtain ⟨T, G, env, r, h⟩ := h
  obtain ⟨⟨xs0, mk0⟩, el0, h⟩ := (Pg.bind h).ofO
  obtain ⟨p0, vs0, es0, _, hp0, _, _⟩ := lstAt_ow r el0
  refine ⟨_, es0, .inl ⟨rfl, vs0, SqL.of hp0⟩, T, G, env, r, (Pg.bind h).imp fun p hp v H1 G1 r1 e1 w1 => ?_⟩
  obtain ⟨G2, r2, e2, w2⟩ := w1.opd r1
  split at hp
  · rename_i ys ed
    obtain ⟨a2, ws, rfl, hs, ib⟩ := isLst r2.f.exG (w2.der r2 ed)
    obtain ⟨⟨xs, mk⟩, el, hp⟩ := (Pg.bind hp).ofO
    obtain ⟨p, vs, es, _, hpp, a, st⟩ := lstAt_ow r2 el
    rw [es0] at es
    cases es
    dsimp only at hp
    split at hp
    · rename_i hl
      exact ⟨p0, a2, vs, ws, rfl, rfl, hpp, hs, by rw [a.length, ib.length]; exact line100 hl, hp .non _ G2 (st _ _ (a.append ib)) (e1.trans e2) .non⟩
    · exact hp.elim
  · exact hp.elim
theorem we_ext (o : OkX X z E k) (h : PE X c (tBM X.K "list" rExtend (tVar i) (tCons (tE z E f) tNil))) : PE X c (tE z E (fExt i f)) := pe_mono h fun _ _ _ h => te_ext o.K h
end

/-! ### x[i] = e -/
def sSetIx (i : Nat) (fi fv : F) : S := fun env => (fv env).bind fun p => (ofO (p.1.opd.fix p.2)).bind fun y => (ofO (lstAt y.2 i)).bind fun _ => (fi y.2).bind fun q => match q.1 with
  | .d (.int j) => (ofO (lstAt q.2 i)).bind fun l => (ofO (ixN l.1.length j)).bind fun m => .ok (.nx, q.2.set i (l.2 (l.1.set m y.1)))
  | _ => .no
section
variable {X : Cx} {z : Z} {E : XK} {k n i : Nat} {e ei o : Expr} {f fi : F} {σ : L2.St} {H : Hp} {D : Ends} {pos tpos : Pos}
theorem ts_setIx (h : tS z E (sSetIx i fi f) D σ H) : tAsg (tE z E f) (L2.gSub (tVar i) (tE z E fi) rSetL) D σ H := by
  obtain ⟨T, G, env, r, h⟩ := h
  refine te_imp (fun v H1 q => ?_) (te_fix (C := fun G b => CS z T G D b) r (fun _ _ _ e h => CS.mono h e) h)
  obtain ⟨⟨y, e1⟩, G1, r1, x1, w1, h⟩ := q
  obtain ⟨⟨xs0, mk0⟩, el0, h⟩ := (Pg.bind h).ofO
  obtain ⟨p0, vs0, es0, _, hp0, _, _⟩ := lstAt_ow r1 el0
  refine ⟨_, es0, T, G1, e1, r1, (Pg.bind h).imp fun q hq u H2 G2 r2 x2 w2 => ?_⟩
  obtain ⟨q1, q2⟩ := q
  dsimp only at hq
  split at hq
  · rename_i j
    have w2 : Is z.K z.cl G2 u (.int j) := w2
    cases w2
    obtain ⟨⟨xs, mk⟩, el, hq⟩ := (Pg.bind hq).ofO
    obtain ⟨m, em, hq⟩ := (Pg.bind hq).ofO
    obtain ⟨p, vs, es, _, hpp, a, st⟩ := lstAt_ow r2 el
    rw [es0] at es
    cases es
    exact ⟨p0, vs, j, m, rfl, rfl, hpp, by rw [a.length]; exact em, hq σ _ G2 (st _ _ (a.set (w1.mono x2) m)) x2⟩
  · exact hq.elim
theorem ws_setIx {st : Stmt} (h : PS X st (tAsg (tE z E f) (L2.gSub (tVar i) (tE z E fi) rSetL))) : PS X st (tS z E (sSetIx i fi f)) := ps_mono h fun _ _ _ h => ts_setIx h
end

/-! ### a, b = x, y -/
def storeN : R → Option Sl
  | .d x => some (.val x)
  | .new xs => some (.own xs)
  | _ => none
def sPar (i j : Nat) (fa fb : F) : S := fun env => (fa env).bind fun p => (fb p.2).bind fun q => (ofO (storeN p.1)).bind fun a => (ofO (storeN q.1)).bind fun b =>
  if i < q.2.length ∧ j < q.2.length ∧ i ≠ j then .ok (.nx, (q.2.set i a).set j b) else .no
section
variable {z : Z} {E : XK} {T G H : Hp} {env : Ev} {σ : L2.St} {v : V} {r : R}
/-- a result kept while another expression runs -/
theorem VR.keep (h : VR z T G H env σ v r) (p : Rep z T G H env σ) : ∃ T', Rep z T' G H env σ ∧ ∀ {G' H' : Hp} {env' : Ev}, Rep z T' G' H' env' σ → Ex G G' → Rep z T G' H' env' σ ∧ VR z T G' H' env' σ v r ∧
    ∀ (u : V) (s : R), VR z T' G' H' env' σ u s → VR z T G' H' env' σ u s ∧ ∀ xs ys q, r = .new xs → s = .new ys → v = .ref q → u ≠ .ref q := by
  cases r with
  | d y => exact ⟨T, p, fun r' e => ⟨r', Is.mono e h, fun u s w => ⟨w, fun xs ys q e => by cases e⟩⟩⟩
  | at_ i => exact ⟨T, p, fun r' e => ⟨r', h, fun u s w => ⟨w, fun xs ys q e => by cases e⟩⟩⟩
  | new xs =>
    obtain ⟨q, vs, rfl, hq, a, g, t, h0, hm, no⟩ := h
    refine ⟨upd T q (.lst vs), p.temp (Da := q) (fun _ _ => rfl) g h0 no (p.exT.put hq) (fun b hb => ?_), fun {G' H' env'} r' e => ?_⟩
    · by_cases e : b = q
      · exact .inl e
      · rw [upd_ne e] at hb; exact .inr hb
    · have tq : (upd T q (.lst vs)) q ≠ none := by rw [upd_same]; intro w; cases w
      have hq' : H' q = some (.lst vs) := r'.exT q _ upd_same
      have no' := r'.noOw tq
      refine ⟨r'.temp (Da := q) (fun _ _ => rfl) (r'.gt q tq) h0 no' (fun b u hb => ?_) (fun b hb => ?_), ⟨q, vs, rfl, hq', a.mono e, r'.gt q tq, t, h0, hm, no'⟩, fun u s w => ?_⟩
      · by_cases e : b = q
        · subst e; rw [t] at hb; cases hb
        · exact r'.exT b u (by rw [upd_ne e]; exact hb)
      · by_cases e : b = q
        · exact .inl e
        · exact .inr (by rw [upd_ne e]; exact hb)
      · cases s with
        | d y => exact ⟨w, fun _ _ _ _ e => by cases e⟩
        | at_ i => exact ⟨w, fun _ _ _ _ e => by cases e⟩
        | new ys =>
          obtain ⟨q2, vs2, rfl, hq2, a2, g2, t2, h02, hm2, no2⟩ := w
          have ne : q2 ≠ q := fun e => by rw [e, upd_same] at t2; cases t2
          rw [upd_ne ne] at t2
          exact ⟨⟨q2, vs2, rfl, hq2, a2, g2, t2, h02, hm2, no2⟩, fun _ _ q' _ _ e1 e2 => by cases e1; cases e2; exact ne rfl⟩
theorem VR.storeN {s : Sl} (h : VR z T G H env σ v r) (e : storeN r = some s) : SlOk z T G H (some v) s ∧ (∀ q, s.ow = true → v = .ref q → (∀ j, ¬ Ow env σ j q) ∧ ∃ xs, r = .new xs) := by
  cases r with
  | d y => cases e; exact ⟨⟨v, rfl, h⟩, fun q w => by cases w⟩
  | at_ i => cases e
  | new xs =>
    cases e
    obtain ⟨p, vs, rfl, hp, a, g, t, h0, hm, no⟩ := h
    exact ⟨⟨p, vs, rfl, g, t, h0, hp, a⟩, fun q _ e => by cases e; exact ⟨no, xs, rfl⟩⟩
variable {X : Cx} {k n i j : Nat} {fa fb : F} {D : Ends}
theorem ts_par (h : tS z E (sPar i j fa fb) D σ H) : L2.tPar i j (tCons (tE z E fa) (tCons (tE z E fb) tNil)) D σ H := by
  obtain ⟨T, G, env, r, h⟩ := h
  refine ⟨T, G, env, r, (Pg.bind h).imp fun p hp v H1 G1 r1 e1 w1 => ?_⟩
  obtain ⟨T1, rt, kk⟩ := w1.keep r1
  refine ⟨T1, G1, p.2, rt, (Pg.bind hp).imp fun q hq u H2 G2 r2 e2 w2 => ?_⟩
  obtain ⟨r2', w1', k2⟩ := kk r2 e2
  obtain ⟨w2', dif⟩ := k2 u q.1 w2
  obtain ⟨sa, ea, hq⟩ := (Pg.bind hq).ofO
  obtain ⟨sb, eb, hq⟩ := (Pg.bind hq).ofO
  split at hq
  · rename_i hij
    obtain ⟨hi, hj, ne⟩ := hij
    obtain ⟨slA, hdA⟩ := w1'.storeN ea
    obtain ⟨slB, hdB⟩ := w2'.storeN eb
    have r3 := r2'.set slA (fun q' o e => (hdA q' o e).1) hi
    have r4 := r3.set (i := j) slB (fun q' o e j' hw => ?_) (by rw [List.length_set]; exact hj)
    · exact ⟨v, u, rfl, hq _ H2 G2 r4 (e1.trans e2)⟩
    · obtain ⟨no, ys, ey⟩ := hdB q' o e
      obtain ⟨⟨s1, es, os⟩, ep⟩ := hw
      by_cases w : i = j'
      · subst w
        rw [List.getElem?_set_self hi] at es
        rw [List.getElem?_set_self (by rw [← r2'.len]; exact hi)] at ep
        cases es
        have ev : v = .ref q' := Option.some.inj ep
        obtain ⟨_, xs, ex⟩ := hdA q' os ev
        exact dif xs ys q' ex ey ev e
      · rw [List.getElem?_set_ne w] at es ep
        exact no j' ⟨⟨s1, es, os⟩, ep⟩
  · exact hq.elim
theorem ws_par {st : Stmt} (h : PS X st (L2.tPar i j (tCons (tE z E fa) (tCons (tE z E fb) tNil)))) : PS X st (tS z E (sPar i j fa fb)) := ps_mono h fun _ _ _ h => ts_par h
end

/-! ### a, b = e -/
def sAsg (ga : GA) (f : F) : S := fun env => (f env).bind fun p => (ofO (p.1.opd.fix p.2)).bind fun y => (ofO (ga y.1 y.2)).bind fun e => .ok (.nx, e)
section
variable {X : Cx} {z : Z} {E : XK} {k n : Nat} {ga : GA} {is : List Nat} {f : F} {σ : L2.St} {H : Hp} {D : Ends}
theorem ts_asg (h : tS z E (sAsg ga f) D σ H) : tAsg (tE z E f) (tG z is ga) D σ H := by
  obtain ⟨T, G, env, r, h⟩ := h
  refine te_imp (fun v H1 q => ?_) (te_fix (C := fun G b => CS z T G D b) r (fun _ _ _ e h => CS.mono h e) h)
  obtain ⟨⟨y, e1⟩, G1, r1, x1, w1, h⟩ := q
  obtain ⟨e2, eg, h⟩ := (Pg.bind h).ofO
  exact ⟨T, G1, e1, y, e2, r1, w1, eg, fun σ' r' _ => h σ' H1 G1 r' (Ex.refl G1)⟩
theorem ws_asg {st : Stmt} (h : PS X st (tAsg (tE z E f) (tG z is ga))) : PS X st (tS z E (sAsg ga f)) := ps_mono h fun _ _ _ h => ts_asg h
end
end TN
namespace TN
open PySem PySem.Spec PyProof.Rows L2

/-! ### t[::-1] -/
section
variable {prog : Program} {w : World} {A : Around} {E : Value → Shared → Prop} {s : Shared}
theorem slice_back {sl : Addr} {vs : Value} {n : Nat} {Q : Int × Int × Nat → Shared → Prop} (hs : s.heap.IsSliceOf sl .none .none vs) (ps : IsPart vs (some (-1)))
    (h : Q ((n : Int) - 1, -1, n) s) : wpAny (model prog w) A (Builtin.Slice.sliceApplied (.ref sl) (pure (n : Int))) Q E s := by
  obtain ⟨os, hos, hcs, hds⟩ := id hs
  unfold Builtin.Slice.sliceApplied Builtin.Slice.sliceFields
  refine wpAny_bind (wpAny_bind (wpAny_field hos hds (x := .none) rfl (wpAny_bind (wpAny_field hos hds (x := .none) rfl (wpAny_bind (wpAny_field hos hds (x := vs) rfl (wpAny_pure ?_)))))))
  refine wpAny_bind (HT.slicePart_ ps ?_)
  show wpAny _ _ (if ((-1 : Int) == 0) = true then _ else _) _ _ s
  rw [if_neg (by decide)]
  refine wpAny_bind (HT.slicePart_ .none (wpAny_bind (HT.slicePart_ .none (wpAny_bind (wpAny_pure ?_)))))
  show wpAny _ _ (match Builtin.Slice.sliceAdjust none none (-1) (n : Int) with | (lo, hi) => pure (lo, (-1 : Int), Builtin.Slice.slicePlaces lo hi (-1))) _ _ s
  have e1 : Builtin.Slice.sliceAdjust none none (-1) (n : Int) = ((n : Int) - 1, -1) := rfl
  rw [e1]
  show wpAny _ _ (pure ((n : Int) - 1, (-1 : Int), Builtin.Slice.slicePlaces ((n : Int) - 1) (-1) (-1))) _ _ s
  have e2 : Builtin.Slice.slicePlaces ((n : Int) - 1) (-1) (-1) = n := by
    unfold Builtin.Slice.slicePlaces
    rw [if_neg (by decide)]
    show (if (n : Int) - 1 > -1 then ((n : Int) - 1 - -1 - 1) / (- -1) + 1 else 0).toNat = n
    rw [show (- -1 : Int) = 1 by decide, Int.ediv_one]
    split <;> omega
  rw [e2]
  exact wpAny_pure h
theorem fm_congr {α β : Type} {f g : α → Option β} : ∀ {l : List α}, (∀ x ∈ l, f x = g x) → l.filterMap f = l.filterMap g
  | [], _ => rfl
  | x :: l, h => by
    rw [List.filterMap_cons, List.filterMap_cons, h x List.mem_cons_self, fm_congr fun y hy => h y (List.mem_cons_of_mem _ hy)]
theorem pick_back (xs : Array Value) : ((List.range xs.size).filterMap fun (m : Nat) => xs[(((xs.size : Int) - 1) + (m : Int) * (-1)).toNat]?).toArray = xs.toList.reverse.toArray := by
  congr 1
  have e : ∀ m ∈ List.range xs.size, (fun (m : Nat) => xs[(((xs.size : Int) - 1) + (m : Int) * (-1)).toNat]?) m = (fun m => xs[xs.size - 1 - m]?) m := fun m hm => by
    have : (((xs.size : Int) - 1) + (m : Int) * (-1)).toNat = xs.size - 1 - m := by have := List.mem_range.mp hm; omega
    simp only [this]
  rw [fm_congr e]
  have h2 : (List.range xs.size).filterMap (fun m => xs[xs.size - 1 - m]?) = ((List.range xs.size).map fun m => xs.size - 1 - m).filterMap fun m => xs[m]? := by
    rw [List.filterMap_map]; rfl
  rw [h2, PySem.W.krv_range, List.filterMap_reverse, PySem.W.krv_all]
theorem tup_back {t sl : Addr} {items : Array Value} {vs : Value} {Q : Value → Shared → Prop} (ht : IsTup s.heap t items) (hs : s.heap.IsSliceOf sl .none .none vs) (ps : IsPart vs (some (-1)))
    (h : Q (.ref s.heap.objs.size) { s with heap := s.heap.push { cls := .type "tuple", data := .seq items.toList.reverse.toArray } })
    (hsz : items.size ≤ sizeLine) : wpAny (model prog w) A (getItem (.ref t) (.ref sl)) Q E s := by
  have hok : sizeOk (.seq items.toList.reverse.toArray) := by
    show items.toList.reverse.toArray.size ≤ sizeLine
    rw [List.size_toArray, List.length_reverse, Array.length_toList]
    exact hsz
  obtain ⟨os, hos, hcs, hds⟩ := id hs
  have hTs : s.TypeIs (.ref sl) "slice" := ⟨os, hos, hcs⟩
  unfold getItem
  try with_reducible refine wpAny_holding ?_
  first | refine wpAny_bind (wpAny_pure ?_) | skip
  refine wpAny_bind (wpAny_sequenceKey ht.typeIs (by decide) ?_)
  refine wpAny_bind (wpAny_callSpecial?_slot (name := Str.ofString "__getitem__") ht.typeIs PyProof.Rows.slot_tuple_getitem
    (wpAny_call_entry PyProof.Rows.slot_tuple_getitem ht.typeIs entry_tuple_getitem ?_ (args_tuple_getitem _ _)))
  show wpAny _ _ (Builtin.Tuple.tupleItemsOf (.ref t) >>= _) _ _ s
  refine wpAny_bind (tupleItemsOf_ ht ?_)
  refine wpAny_bind (wpAny_typeOf hTs ?_)
  rw [if_pos (by decide)]
  refine wpAny_bind (slice_back hs ps ?_)
  show wpAny _ _ (if (((items.size : Int) - 1 == 0) && (-1 : Int) == 1 && items.size == items.size) = true then _ else _) _ _ s
  rw [if_neg (by rw [show ((-1 : Int) == 1) = false by decide]; simp), pick_back]
  first
    | exact wpAny_bind (m := Builtin.Tuple.tupleExact _) (wpAny_newObj_type (wpAny_pure ⟨_, rfl, wpAny_pure h⟩) hok)
    | exact wpAny_bind (m := Builtin.Tuple.tupleExact _) (wpAny_newObj_type (wpAny_bind (wpAny_pure (wpAny_pure ⟨_, rfl, wpAny_pure h⟩))) hok)
    | exact wpAny_bind (wpAny_bind (m := Builtin.Tuple.tupleExact _) (wpAny_newObj_type (wpAny_pure (wpAny_pure ⟨_, rfl, wpAny_pure h⟩)) hok))
    | exact wpAny_bind (wpAny_bind (m := Builtin.Tuple.tupleExact _) (wpAny_newObj_type (wpAny_pure ⟨_, rfl, wpAny_pure h⟩) hok))
end
section
variable {X : Cx}
def tBack (K : PySem.W.Frag) (te : TE) : TE := fun σ H Q => te σ H fun x H1 => ∃ a xs, x = .ref a ∧ ((SqL K H1 a xs ∧ ∀ p, H1 p = none → Q (.ref p) (upd H1 p (.lst xs.reverse))) ∨ (SqT K H1 a xs ∧ ∀ p o, H1 p = none → o.dict = none → Q (.ref p) (upd H1 p (.frz o (.tup xs.reverse)))))
theorem pe_back {e : Expr} {te : TE} {k : Nat} {p1 p2 p3 pos : Pos} (he : PE X e te) : PE X (.Subscript e (.Slice none none (some (.UnaryOp .USub (.Constant (.int 1) k p1) p2)) p3) pos) (tBack X.K te) := by
  refine ⟨fun pins s σ H Q I h => ?_⟩
  refine Subscript_ (thn (he.run pins s σ H _ I h) fun v s1 ⟨x, H1, I1, r1, q1⟩ => ?_)
  obtain ⟨a, xs, ex, hx⟩ := q1
  subst ex
  cases r1
  have hst : PO X (some (.UnaryOp .USub (.Constant (.int 1) k p1) p2)) (tPart (tUn (rU fun i => .int (-i)) (tC (.int 1)))) := po_some (pe_un un_neg pe_int)
  refine wpAny_Slice (thn (po_none.run pins s1 σ H1 (fun o H2 => o = none ∧ H2 = H1) I1 ⟨rfl, rfl⟩) fun vl s2 ⟨l, H2, I2, pl, el, e2⟩ => ?_)
  subst el e2
  refine thn (po_none.run pins s2 σ H2 (fun o H3 => o = none ∧ H3 = H2) I2 ⟨rfl, rfl⟩) fun vu s3 ⟨u, H3, I3, pu, eu, e3⟩ => ?_
  subst eu e3
  refine thn (hst.run pins s3 σ H3 (fun o H4 => o = some (-1) ∧ H4 = H3) I3 ⟨1, rfl, -1, rfl, rfl, rfl⟩) fun vs s4 ⟨o, H4, I4, ps, eo, e4⟩ => ?_
  subst eo e4
  have I5 : Inv X pins σ H4 { s4 with heap := s4.heap.push { cls := .type "slice", data := .fields #[vl, vu, vs] } } := I4.kept (t' := s4.toks) fun b ob q => Heap.get?_push_of_some _ q
  show wpAny (model X.prog X.w) X.A (subscriptTail e (.Slice none none (some (.UnaryOp .USub (.Constant (.int 1) k p1) p2)) p3) (.ref a) (.ref s4.heap.objs.size)) (EP X pins σ Q) X.xe { s4 with heap := s4.heap.push { cls := .type "slice", data := .fields #[vl, vu, vs] } }
  rcases hx with ⟨hx, q⟩ | ⟨hx, q⟩
  · obtain ⟨its, r, ht, hz⟩ := I5.list hx
    have hlen := r.length
    refine tail_any (ops := [.ref a, .ref s4.heap.objs.size]) ht.isList.typeIs (PySem.slot_list_getitem.lookup) ?_ (by with_unfolding_all rfl)
    refine wpAny_getItem_list_slice ht.isList (Heap.IsSliceOf.new _ vl vu vs) pl pu ps (by decide) ?_ (by rw [List.size_toArray]; omega)
    rw [PySem.W.krv_pick]
    refine ⟨.ref _, _, I5.laid (t' := s4.toks) (o := .lst xs.reverse) (fun b ob q => Heap.get?_push_of_some _ q) (Nat.le_refl _) ?_, rfl, q _ (I5.hok.fresh (Nat.le_refl _))⟩
    exact ⟨by rw [List.length_reverse]; exact hz, _, 0, r.reverse, Heap.get?_push_size _ rfl⟩
  · obtain ⟨its, r, ht, hz⟩ := I5.tuple hx
    have hlen := r.length
    cases pl
    cases pu
    refine tail_any (ops := [.ref a, .ref s4.heap.objs.size]) ht.typeIs (PyProof.Rows.slot_tuple_getitem.lookup) ?_ (by with_unfolding_all rfl)
    refine tup_back ht (Heap.IsSliceOf.new _ .none .none vs) ps ?_ (by rw [List.size_toArray]; omega)
    exact ⟨.ref _, _, laidT (t' := s4.toks) I5 r.reverse (by rw [List.length_reverse]; exact hz), rfl, q _ _ (I5.hok.fresh (Nat.le_refl _)) rfl⟩
variable {z : Z} {E : XK}
def fBack (f : F) : F := fun env => (f env).bind fun p => match p.1.opd.der p.2 with
  | some (.tup ds) => .ok (.d (.tup ds.reverse), p.2)
  | some (.lst ds) => .ok (.new ds.reverse, p.2)
  | _ => .no
theorem we_back {e : Expr} {f : F} {k : Nat} {p1 p2 p3 pos : Pos} (hK : X.K = z.K) (he : PE X e (tE z E f)) : PE X (.Subscript e (.Slice none none (some (.UnaryOp .USub (.Constant (.int 1) k p1) p2)) p3) pos) (tE z E (fBack f)) := pe_mono (pe_back he) fun σ H Q ⟨T, G, env, r, h⟩ => by
  rw [hK]
  refine ⟨T, G, env, r, (Pg.bind h).imp fun p hp v H1 G1 r1 e1 w1 => ?_⟩
  obtain ⟨G2, r2, e2, w2⟩ := w1.opd r1
  split at hp
  · rename_i ds ed
    obtain ⟨a, vs, rfl, hs, ia, _⟩ := isTup r2.f.exG (w2.der r2 ed)
    refine ⟨a, vs, rfl, .inr ⟨hs, fun q oo hq hd => ?_⟩⟩
    have g := (r2.nn hq).1
    exact hp _ _ _ (r2.grow hq) ((e1.trans e2).trans (Ex.new g)) (.tup (.new hd) (ia.reverse.mono (Ex.new g)))
  · rename_i ds ed
    obtain ⟨a, vs, rfl, hs, ia⟩ := isLst r2.f.exG (w2.der r2 ed)
    refine ⟨a, vs, rfl, .inl ⟨SqL.of hs, fun q hq => ?_⟩⟩
    obtain ⟨n1, n2, n3, n4, n5⟩ := r2.nn hq
    exact hp _ _ _ (r2.alloc hq) (e1.trans e2) ⟨q, _, rfl, upd_same, ia.reverse, n1, n2, n3, n4, n5⟩
  · exact hp.elim
end

/-! ### truth, minus -/
def D.tru : D → Option Bool
  | .non => some false
  | .bl b => some b
  | .int i => some (i != 0)
  | .str x => if x.length ≤ 100000 then some ((x.length : Int) != 0) else none
  | .tup ds => some (!ds.isEmpty)
  | .lst ds => some (!ds.isEmpty)
  | _ => none
def fTru (f : F) : FB := fun env => (f env).bind fun p => (ofO ((p.1.opd.der p.2).bind D.tru)).bind fun b => .ok (b, p.2)
def oneI (g : Int → Int) : D → Out R0
  | .int i => .ok (.d (.int (g i)))
  | _ => .no
def fUn (g : Int → Int) (f : F) : F := fun env => (f env).bind fun p => match p.1 with
  | .d (.int i) => .ok (.d (.int (g i)), p.2)
  | _ => .no
section
variable {X : Cx} {z : Z} {E : XK} {k n : Nat} {a : Expr} {f : F} {pos : Pos}
theorem tru_is {K : PySem.W.Frag} {cl : Cl} {G H : Hp} {v : V} {d : D} {b : Bool} (e : Ex G H) (h : IsT K cl G H v d) (ht : d.tru = some b) : TruV K v H b := by
  rcases h with h | ⟨p, vs, xs, rfl, rfl, hp, ia⟩
  · cases h with
    | non => cases ht; exact rfl
    | bl b => cases ht; exact rfl
    | int i => cases ht; exact rfl
    | str x =>
      simp only [D.tru] at ht
      split at ht
      · rename_i hl; cases ht; exact ⟨line100 hl, rfl⟩
      · cases ht
    | @tup a vs ds hs ha => cases ht; exact .inr (.inl ⟨_, ex_t e hs.sq, by cases ha <;> rfl⟩)
    | @lst a vs ds hs ha => cases ht; exact .inl ⟨_, SqL.of (e _ _ hs), by cases ha <;> rfl⟩
    | _ => cases ht
  · cases ht; exact .inl ⟨_, SqL.of hp, by cases ia <;> rfl⟩
theorem wt_tru (hK : X.K = z.K) (h : PE X a (tE z E f)) (he : ∀ whole, isTrue a X.env whole = (do let v ← whole; standAt a.pos; holding [v] (truthy v)) := by intro _; rfl) : PT X a (tT z E (fTru f)) :=
  pt_mono (pt_truth h he) fun σ H Q ⟨T, G, env, r, h⟩ => by
    rw [hK]
    refine ⟨T, G, env, r, (Pg.bind h).imp fun p hp v H1 G1 r1 e1 w1 => ?_⟩
    obtain ⟨G2, r2, e2, w2⟩ := w1.opd r1
    obtain ⟨b, eb, hp⟩ := (Pg.bind hp).ofO
    cases q : p.1.opd.der p.2 with
    | none => rw [q] at eb; cases eb
    | some d =>
      rw [q] at eb
      exact ⟨b, tru_is r2.f.exG (w2.der r2 q) eb, hp H1 G2 r2 (e1.trans e2)⟩
theorem we_un {op : UnaryOp} {g : Int → Int} (hr : UnR X (unaryOp op) (rU fun i => .int (g i))) (h : PE X a (tE z E f)) : PE X (.UnaryOp op a pos) (tE z E (fUn g f)) := pe_mono (pe_un hr h) fun σ H Q ⟨T, G, env, r, h⟩ => by
  refine ⟨T, G, env, r, (Pg.bind h).imp fun p hp v H1 G1 r1 e1 w1 => ?_⟩
  obtain ⟨q1, q2⟩ := p
  dsimp only at hp
  split at hp
  · rename_i i
    have w1 : Is z.K z.cl G1 v (.int i) := w1
    cases w1
    exact ⟨i, rfl, hp _ H1 G1 r1 e1 (.int _)⟩
  · exact hp.elim
end

/-! ### a def of the text -/
def FnB (P : Program) (w : World) (K : PySem.W.Frag) (mg : Str → Option Value) (base : Heap) (z : Z) (k : Nat) (x : Str) (ps : List Str) (m : Bool) (φ : Fn) : Prop :=
  ∃ f fd, FnOk P w K mg base (L2.CX P w) k f fd ps (spF z m ps.length φ) ∧ mg x = some (.ref f) ∧ PySem.W.keepIn K (.ref f) = true ∧ Binds K fd ps []
theorem FnB.mono {P : Program} {w : World} {K : PySem.W.Frag} {mg : Str → Option Value} {base : Heap} {z : Z} {j k : Nat} {x : Str} {ps : List Str} {m : Bool} {φ : Fn} (h : FnB P w K mg base z j x ps m φ) (hk : j ≤ k) : FnB P w K mg base z k x ps m φ :=
  let ⟨f, fd, a, b⟩ := h
  ⟨f, fd, a.mono hk, b⟩
theorem spF_at {z : Z} {m : Bool} {n : Nat} {φ : Fn} {G0 H0 : Hp} {M0 : Option Addr} {vs : List V} {H : Hp} {Q : VK} {E : XK} (h : spF (z.at_ G0 H0 M0) m n φ vs H Q E) : spF z m n φ vs H Q E := by
  obtain ⟨G, ds, M, a, e, l, p⟩ := h
  refine ⟨G, ds, M, ?_, e, l, p⟩
  cases a with
  | pure a => exact .pure a
  | wr a b c d => exact .wr a b c d
theorem FnB_at {P : Program} {w : World} {K : PySem.W.Frag} {mg : Str → Option Value} {base : Heap} {z : Z} {k : Nat} {x : Str} {ps : List Str} {m : Bool} {φ : Fn} (h : FnB P w K mg base z k x ps m φ) (G H : Hp) (M : Option Addr) : FnB P w K mg base (z.at_ G H M) k x ps m φ := by
  obtain ⟨f, fd, a, b⟩ := h
  exact ⟨f, fd, a.imp fun vs H Q E q => spF_at q, b⟩
section
variable {X : Cx} {z : Z} {E : XK} {k j n : Nat} {ps : List Str} {x : Str} {p pos : Pos} {e : Expr} {es : List Expr} {m : Bool} {φ : Fn} {g : FA}
theorem we_fn (F : FnB X.prog X.w X.K X.mg X.base z j x ps m φ) (o : OkX X z E k) (ha : WA X z E (e :: es) g ps.length) (hj : j ≤ k := by decide) (hg : Gl X x := by rfl) (hdb : (x == ("__debug__" : Str)) = false := by decide)
    (he : starEach (e :: es) X.env = (false, eval e X.env) :: starEach es X.env := by rfl) (hpl : (backTo pos (starEach es X.env)).any (·.1) = false := by rfl) : PE X (.Call (.Name x p) (e :: es) [] pos) (tE z E (fCall m φ g)) := by
  obtain ⟨f, fd, a, hm, hk, hb⟩ := F.mono hj
  exact we_call a o hm hk hb ha hg hdb he hpl
end
theorem law_ends {z : Z} {φ : Fn} {H : Hp} {a : Addr} {ns : List Int} {E : XK} (hm : φ [.scr ns] = .ok (.d (.bl true), [])) (hS : SqL z.K H a (ns.map V.int)) : spF z false 1 φ [.ref a] H (fun v _ => v = .bl true) E :=
  ⟨H, [.scr ns], none, .pure (.cons (.scr hS) .nil), Ex.refl H, rfl, by
    rw [hm]
    intro v H' G' _ r _
    cases r
    rfl⟩
theorem cx_no {P : Program} {w : World} {o : List Env} {H : Hp} {s : Shared} {e : Value} {s' : Shared} (h : L2.CX P w o H s (fun _ _ _ => False) e s') : False := by
  obtain ⟨_, _, _, _, _, _, _, _, _, _, _, _, h⟩ := h
  exact h
end TN
namespace TN
open PySem PySem.Spec PyProof.Rows L2

/-! ### objects of one own class: fields, properties, making -/
section
variable {X : Cx} {z : Z} {E : XK} {k n c j : Nat} {pos p2 : Pos} {T G H : Hp} {env : Ev} {σ : L2.St} {Q : VK} {e : Expr} {f nm : Str} {C : Addr} {ns : List Str}
theorem sNever_ok {st : Stmt} : PS X st (tS z E fun _ => .no) := ⟨fun pins s σ H D I h => by obtain ⟨_, _, _, _, h⟩ := h; exact h.elim⟩
theorem eNever_ok {e : Expr} : PE X e (tE z E fun _ => .no) := ⟨fun pins s σ H Q I h => by obtain ⟨_, _, _, _, h⟩ := h; exact h.elim⟩
/-- the place of a field -/
def AtF (ns : List Str) (j : Nat) (f : Str) : Prop := ns[j]? = some f ∧ ∀ i, i < j → ns[i]? ≠ some f
theorem lookup_at : ∀ {fs : List (Str × V)} {j : Nat} {f : Str} {v : V}, AtF (fs.map (·.1)) j f → (fs.map (·.2))[j]? = some v → fs.lookup f = some v
  | [], j, f, v, h, hv => by simp at hv
  | (g, x) :: fs, 0, f, v, h, hv => by
    have e1 : g = f := by simpa using h.1
    have e2 : x = v := by simpa using hv
    subst e1; subst e2
    simp [List.lookup]
  | (g, x) :: fs, j + 1, f, v, h, hv => by
    have ne : g ≠ f := fun e => h.2 0 (Nat.succ_pos j) (by simp [e])
    have ne2 : (f == g) = false := by simpa using fun e => ne e.symm
    have := lookup_at (fs := fs) (j := j) (f := f) (v := v) ⟨by simpa using h.1, fun i hi e => h.2 (i + 1) (Nat.succ_lt_succ hi) (by simpa using e)⟩ (by simpa using hv)
    simp only [List.lookup, ne2]
    exact this
def fAt (c j : Nat) (g : F) : F := fun env => (g env).bind fun p => match p.1 with
  | .d (.obj c' ds) => if c' = c then (ofO ds[j]?).bind fun d => .ok (.d d, p.2) else .no
  | _ => .no
theorem te_fld {g : F} {R : V → Hp → Prop} (hc : z.cl c = (C, ns)) (hj : AtF ns j f) (h : tE z E (fAt c j g) σ H Q)
    (k : ∀ a dx fs v H1, H1 a = some (.ins C dx fs) → fs.lookup f = some v → Q v H1 → R (.ref a) H1) : tE z E g σ H R := by
  obtain ⟨T, G, env, r, h⟩ := h
  refine ⟨T, G, env, r, (Pg.bind h).imp fun p hp v H' G' r' e' w => ?_⟩
  obtain ⟨p1, p2⟩ := p
  dsimp only at hp
  split at hp
  · rename_i c' ds
    split at hp
    · rename_i ec
      subst ec
      obtain ⟨d, ed, hp⟩ := (Pg.bind hp).ofO
      cases w with
      | @obj a dx _ fs vs _ ha hn hv ia =>
        obtain ⟨v, ev, iv⟩ := ia.get ed
        rw [hc] at ha hn
        have hl : fs.lookup f = some v := lookup_at (by rw [hn]; exact hj) (by rw [hv]; exact ev)
        exact k a dx fs v H' (r'.f.exG _ _ ha) hl (hp v H' G' r' e' iv)
    · exact hp.elim
  · exact hp.elim
theorem we_fld {g : F} (he : PE X e (tE z E g)) (hc : z.cl c = (C, ns)) (hC : Cls X.K C) (hN : NoAttr X.K C f) (hj : AtF ns j f) (hb : attributeBase e f X.env (eval e X.env) = eval e X.env := by rfl) : PE X (.Attribute e f pos) (tE z E (fAt c j g)) :=
  pe_mono (pe_fld he hb) fun σ H Q h => te_fld hc hj h fun a dx fs v H1 ha hl q => ⟨a, C, dx, fs, v, rfl, ha, hC, hN, hl, q⟩
theorem we_prop {g : F} {p gf : Addr} {fd : FuncData} (he : PE X e (tE z E g)) (o : OkX X z E k) (hc : z.cl c = (C, ns)) (hC : Cls X.K C) (hp : PropOf X.K C nm p gf) (F : FnOk X.prog X.w X.K X.mg X.base CX0 1 gf fd ["self"] (getSp C f)) (b : Binds X.K fd ["self"] []) (hj : AtF ns j f) (hk : 2 ≤ k := by decide)
    (hb : attributeBase e nm X.env (eval e X.env) = eval e X.env := by rfl) : PE X (.Attribute e nm pos) (tE z E (fAt c j g)) :=
  pe_mono (pe_prop (E := E) he hC hp F (o.room.mono hk) b .nil pass0 hb) fun σ H Q h => te_fld hc hj h fun a dx fs v H1 ha hl q => ⟨a, dx, fs, rfl, ha, a, dx, fs, v, rfl, ha, hl, q⟩

/-! making -/
abbrev In := List D → Out (List D)
def fMk (c : Nat) (ι : In) (g : FA) : F := fun env => (g env).bind fun p => (ofO (fixAll p.2 p.1)).bind fun q => (ι q.1).bind fun fs => .ok (.d (.obj c fs), q.2)
/-- what an __init__ promises: behind it the object holds the fields -/
def spI (z : Z) (C : Addr) (ns : List Str) (n : Nat) (ι : In) : Sp := fun vs H Q E => ∃ (G H1 : Hp) (x dx : Addr) (us : List V) (ds : List D), vs = .ref x :: us ∧ H1 x = none ∧ H1 dx = none ∧ dx ≠ x ∧ H = upd (upd H1 dx (.own x)) x (.ins C dx []) ∧ Ex G H1 ∧
  IsA z.K z.cl G us ds ∧ us.length = n ∧ Pg (z.at_ G H1 none) E (fun fs => ∀ H' G' fv, Fr (z.at_ G H1 none) G' H' → G' x = none → H' x = some (.ins C dx fv) → fv.map (·.1) = ns → IsA z.K z.cl G' (fv.map (·.2)) fs → Q .non H') (ι ds)
theorem te_mk {ι : In} {g : FA} (hc : z.cl c = (C, ns)) (h : tE z E (fMk c ι g) σ H Q) (hln : ∀ env rs e2, g env = .ok (rs, e2) → rs.length = n) : tMake C (spI z C ns n ι) [] E (tAr z E g) σ H Q := by
  obtain ⟨T, G, env, r, h⟩ := h
  have h' := Pg.bind h
  refine ⟨T, G, env, r, ?_⟩
  cases hq : g env with
  | no => rw [hq] at h'; exact h'
  | exc c d => rw [hq] at h'; exact h'
  | ok p =>
    rw [hq] at h'
    obtain ⟨rs, e2⟩ := p
    have hl := hln env rs e2 hq
    intro vs H1 G1 r1 e1 w1 x dx nx ndx ne
    have lv : vs.length = n := w1.length.trans hl
    obtain ⟨⟨ds, e3⟩, ef, h'⟩ := (Pg.bind (show Pg z E _ ((ofO (fixAll e2 rs)).bind _) from h')).ofO
    obtain ⟨G2, r2, x2, a⟩ := w1.fix r1 ef
    have hM : ∀ a, (none : Option Addr) = some a → z.H0 a = none ∨ z.M = some a := fun a e => by cases e
    refine ⟨G2, H1, x, dx, vs, ds, by rw [List.append_nil], nx, ndx, ne, rfl, r2.f.exG, a, lv, Pg.in r2.f hM (fun fs hs => ?_) (Pg.bind h')⟩
    intro H' G' fv f' gx hx hnm ia
    refine ⟨rfl, ?_⟩
    have r3 : Rep z T G' H' e3 σ := r2.back hM f' rfl (fun i s es => .inl ⟨es, fun _ _ _ w => by cases w⟩) (fun _ _ w => w) (fun _ _ w => by cases w)
    obtain ⟨n1, n2, n3, n4, n5⟩ := r2.nn nx
    have r4 : Rep z T (upd G' x (.ins C dx fv)) H' e3 σ := r3.freeze hx gx n2 n3 n4 fun i w => n5 i w
    have xx : Ex G' (upd G' x (.ins C dx fv)) := Ex.new gx
    have hs : CR z T σ G Q (.d (.obj c fs), e3) := hs
    refine hs (.ref x) H' _ r4 (((e1.trans x2).trans f'.g0).trans xx) ?_
    have e0 : (z.cl c).1 = C := by rw [hc]
    have e1 : (z.cl c).2 = ns := by rw [hc]
    exact .obj (by rw [e0]; exact upd_same) (by rw [e1]; exact hnm) rfl (ia.mono xx)
theorem we_mk {ι : In} {g : FA} {fi : Addr} {fd : FuncData} {ps : List Str} {x : Str} {p : Pos} {es : List Expr} (o : OkX X z E k) (hc : z.cl c = (C, ns)) (M : Mk X.K C fi) (F : FnOk X.prog X.w X.K X.mg X.base (L2.CX X.prog X.w) j fi fd ps (spI z C ns n ι)) (b : Binds X.K fd ps []) (hm : X.mg x = some (.ref C))
    (ha : WA X z E (e :: es) g n) (hk : j + 1 ≤ k := by decide) (hg : Gl X x := by rfl) (hdb : (x == ("__debug__" : Str)) = false := by decide) (he : starEach (e :: es) X.env = (false, eval e X.env) :: starEach es X.env := by rfl) (hpl : (backTo pos (starEach es X.env)).any (·.1) = false := by rfl) :
    PE X (.Call (.Name x p) (e :: es) [] pos) (tE z E (fMk c ι g)) :=
  pe_mono (pe_make M F (o.room.mono hk) hg hm b .nil (passes_call (W := fun c d _ H => E c d H) o.tk fun _ _ _ _ h => h) ha.pa hdb he hpl) fun _ _ _ h => te_mk hc h ha.len
end
end TN
namespace TN
open PySem PySem.Spec PyProof.Rows L2

/-! ### == and != of objects with an own == -/
section
variable {X : Cx} {CX : CXT} {C f : Addr} {fd : FuncData} {ps : List Str} {sp : Sp} {E : XK} {n : Nat}
def rOwnEq (C : Addr) (sp : Sp) (E : XK) (neg : Bool) : R2 := fun x y H Q => ∃ a b dx dy fs gs, x = .ref a ∧ y = .ref b ∧ H a = some (.ins C dx fs) ∧ H b = some (.ins C dy gs) ∧
  sp [x, y] H (fun v H' => ∃ r, v = .bl r ∧ Q (.bl (if neg then !r else r)) H') E
theorem op_ownEq (F : FnOk X.prog X.w X.K X.mg X.base CX n f fd ps sp) (hb : Binds X.K fd ps []) (hs : PySem.W.findIn X.K (.ref C) "__eq__" = some (some (.ref f))) (hf : PySem.W.isFn X.K (.ref f) = true) (hr : Room n X.A) (hx : Passes CX X E) : OpR X (compareOp .Eq) (rOwnEq C sp E false) := by
  intro pins s σ H x y v u Q I rx ry h
  obtain ⟨a, b, dx, dy, fs, gs, rfl, rfl, ha, hb', q⟩ := h
  cases (show v = Value.ref a from rx)
  cases (show u = Value.ref b from ry)
  obtain ⟨mA, J, _⟩ := ins_get I.hok ha
  obtain ⟨mB, J', _⟩ := ins_get I.hok hb'
  obtain ⟨od, J, _⟩ := J.look
  obtain ⟨od', J', _⟩ := J'.look
  obtain ⟨m, hF⟩ := I.fr
  show wpAny _ _ (richCompare .Eq _ _) _ _ _
  refine PySem.W.cmp_K (op := .Eq) (tb := .ref C) hr.units0 hF I.ok.mod.kin J J'.type (by simp [PySem.W.notFirst]) hs hf ?_
  refine thn (run_fn (us := [.ref a, .ref b]) (vs := [.ref a, .ref b]) F hr hb .nil hx I (.cons rfl (.cons rfl .nil)) q) fun w s' z => ?_
  obtain ⟨z', H', I', rz, r, er, qz⟩ := z
  subst er
  exact SlX.cmpback rz ⟨.bl r, H', I', rz, qz⟩
/-- a def that runs one step below -/
theorem run_in1 {pins : List (Addr × Obj)} {σ : L2.St} {H : Hp} {s : Shared} {Q : VK} {us : List Value} {vs : List V} (F : FnOk X.prog X.w X.K X.mg X.base CX n f fd ps sp) (hr : Room (n + 1) X.A) (hb : Binds X.K fd ps []) (hx : Passes CX X E) (I : Inv X pins σ H s) (r : Vals vs us) (h : sp vs H Q E) :
    wpAny (model X.prog X.w) X.A.in1 (call (.ref f) us) (EP X pins σ Q) X.xe s := by
  have hl : us.length = ps.length := by rw [← r.length]; exact F.len _ _ _ _ h
  have hbb := hb s us I.kIn (by simpa using hl)
  rw [List.append_nil] at hbb
  refine wpAny_call (codeAny_mono (F.run X.A.in1 X.stack s H ⟨us, []⟩ us vs Q E (Room.in1 hr) I.env0.in1 hbb r h) fun r s' hq => ?_)
  cases r with
  | error e => exact hx pins σ H s e s' I hq
  | ok fl =>
    cases fl with
    | ret u => exact I.after hq
    | next => exact False.elim hq
    | brk => exact False.elim hq
    | cont => exact False.elim hq
section
variable {M : Model} {A : Around} {EE : Value → Shared → Prop} {s : Shared} {K : PySem.W.Frag} {x : Addr} {ox : Obj} {od : Option Obj}
theorem ifBound_objNe {args : List Value} {Q : Option Value → Shared → Prop} (X : K.In s.heap) (I : PySem.W.InstAt s.heap x ox C od) (hs : PySem.W.findIn K (.ref C) "__ne__" = some (some (.builtin "object.__ne__")))
    (h : wpAny M A (call (.builtin "object.__ne__") (.ref x :: args)) (fun v => Q (some v)) EE s) : wpAny M A (callSpecialIfBound? (.ref x) "__ne__" args) Q EE s := by
  simp only [callSpecialIfBound?, bindSpecialIfBound?]
  refine wpAny_holding (wpAny_bind (wpAny_bind (wpAny_bind (I.type.here ((PySem.W.looks_findIn X hs).here ?_)))))
  refine wpAny_bind (wpAny_askSetting (wpAny_ite ?_))
  have fin : wpAny M A (call (.builtin "object.__ne__") ([.ref x] ++ args) >>= fun v => pure (some v)) Q EE s := wpAny_bind (wpAny_mono h (fun v s' h' => wpAny_pure h') fun _ _ h' => h')
  split
  · exact wpAny_bind (wpAny_of_eq (F.cmp_object.ne.bind _) (wpAny_pure (by exact fin)))
  · exact wpAny_tryCatch (wpAny_bind (wpAny_of_eq (F.cmp_object.ne.bind _) (wpAny_pure (by exact fin))))
end
end
section
variable {C : Addr} {prog : Program} {w : World} {A : Around} {EE : Value → Shared → Prop} {s : Shared} {K : PySem.W.Frag} {x y g : Addr} {ox : Obj} {od : Option Obj}
theorem entry_ne {Q : Fin → Shared → Prop} (X : K.In s.heap) (I : PySem.W.InstAt s.heap x ox C od) (hs : PySem.W.findIn K (.ref C) "__eq__" = some (some (.ref g))) (hf : PySem.W.isFn K (.ref g) = true) (hu : A.units < cLine)
    (h : wpAny (model prog w) A (call (.ref g) [.ref x, .ref y]) (fun v s' => ∃ b, v = .bool b ∧ Q (.done (.ret (.bool (!b)))) s') EE s) :
    wpAny (model prog w) A (Builtin.«object.__ne__» ⟨[.ref x, .ref y], []⟩) Q EE s := by
  unfold Builtin.«object.__ne__»
  repeat (first
    | with_reducible refine wpAny_cRoomFor hu ?_
    | (refine wpAny_bind (m := callSpecialIfBound? (.ref x) (Str.ofString "__eq__") [.ref y])
        (PySem.W.ifBound_K X I hs hf (wpAny_mono h (fun r s' hr => by
          obtain ⟨b, rfl, hq⟩ := hr
          repeat (first | exact hq | exact wpAny_pure hq | exact wpAny_truthy_bool hq | (refine wpAny_bind (m := truthy (.bool _)) (wpAny_truthy_bool ?_)) | wp_step)) fun _ _ e => e)))
    | wp_step)
theorem call_objNe {Q : Value → Shared → Prop} (X : K.In s.heap) (I : PySem.W.InstAt s.heap x ox C od) (hm : PySem.W.mroIn K C (.type "object") = some true) (hs : PySem.W.findIn K (.ref C) "__eq__" = some (some (.ref g))) (hf : PySem.W.isFn K (.ref g) = true) (hu : A.in1.units < cLine)
    (h : wpAny (model prog w) A.in1 (call (.ref g) [.ref x, .ref y]) (fun v s' => ∃ b, v = .bool b ∧ Q (.bool (!b)) s') EE s) :
    wpAny (model prog w) A (call (.builtin "object.__ne__") [.ref x, .ref y]) Q EE s :=
  wpAny_call (codeAny_call_builtin F.cmp_object.ne.plain F.cmpEntry_ne (PySem.W.check_slot F.cmpKind_ne F.cmpSplit_ne (I.type.andThen (PySem.W.looks_mroIn X hm)) (F.cmpArgs_ne _ _)
    (entry_ne X I hs hf hu (wpAny_mono h (fun v s' hv => by
      obtain ⟨b, rfl, hq⟩ := hv
      exact ⟨b, rfl, hq⟩) fun _ _ e => e))))
end
section
variable {X : Cx} {CX : CXT} {C f : Addr} {fd : FuncData} {ps : List Str} {sp : Sp} {E : XK} {n : Nat}
theorem op_ownNe (Fo : FnOk X.prog X.w X.K X.mg X.base CX n f fd ps sp) (hb : Binds X.K fd ps []) (hs : PySem.W.findIn X.K (.ref C) "__eq__" = some (some (.ref f))) (hf : PySem.W.isFn X.K (.ref f) = true) (hn : PySem.W.findIn X.K (.ref C) "__ne__" = some (some (.builtin "object.__ne__"))) (hm : PySem.W.mroIn X.K C (.type "object") = some true)
    (hr : Room (n + 1) X.A) (hx : Passes CX X E) : OpR X (compareOp .NotEq) (rOwnEq C sp E true) := by
  intro pins s σ H x y v u Q I rx ry h
  obtain ⟨a, b, dx, dy, fs, gs, rfl, rfl, ha, hb', q⟩ := h
  cases (show v = Value.ref a from rx)
  cases (show u = Value.ref b from ry)
  obtain ⟨mA, J, _⟩ := ins_get I.hok ha
  obtain ⟨mB, J', _⟩ := ins_get I.hok hb'
  obtain ⟨od, J, _⟩ := J.look
  obtain ⟨od', J', _⟩ := J'.look
  show wpAny _ _ (richCompare .NotEq _ _) _ _ _
  have one : wpAny (model X.prog X.w) X.A (tryCompare (.ref a) "__ne__" (.ref b)) (fun r s' => ∃ v, r = some v ∧ EP X pins σ Q v s') X.xe s := by
    unfold tryCompare
    refine wpAny_bind (ifBound_objNe I.kIn J hn (call_objNe I.kIn J hm hs hf (Room.in1 hr).units0 (thn (run_in1 (us := [.ref a, .ref b]) (vs := [.ref a, .ref b]) Fo hr hb hx I (.cons rfl (.cons rfl .nil)) q) fun w s' z => ?_)))
    obtain ⟨z', H', I', rz, r, er, qz⟩ := z
    subst er
    cases (show w = Value.bool r from rz)
    exact ⟨r, rfl, wpAny_pure ⟨_, rfl, .bl _, H', I', rfl, qz⟩⟩
  simp only [richCompare, cmpInfo_NotEq, oneThing_ref]
  refine wpAny_holding (wpAny_bind (wpAny_cRoomFor hr.units0 ?_))
  refine wpAny_bind (J.type.here (wpAny_bind (J'.type.here ?_)))
  rw [show (Value.ref C != Value.ref C) = false from by simp]
  simp only [Bool.false_eq_true, if_false]
  refine wpAny_bind (wpAny_pure ?_)
  simp only [Bool.false_eq_true, if_false]
  refine wpAny_bind (wpAny_mono one (fun r s' z => ?_) fun _ _ e => e)
  obtain ⟨v, rfl, hq⟩ := z
  exact wpAny_pure hq
end
end TN
namespace TN
open PySem PySem.Spec PyProof.Rows L2

/-! ### comparisons that may meet objects -/
def kEqO (c : Nat) (φ : Fn) (neg : Bool) : D → D → Ev → Out (R × Ev) := fun x y e => match x, y with
  | .obj a xs, .obj b ys => if a = c ∧ b = c then (φ [.obj a xs, .obj b ys]).bind fun s => (match s.1 with
      | .d (.bl r) => .ok (.d (.bl (if neg then !r else r)), e)
      | _ => .no) else .no
  | x, y => (dEq neg x y).bind fun q => .ok (q.r, e)
def fEqO (c : Nat) (φ : Fn) (neg : Bool) (fa fb : F) : F := fTwo fa fb (kEqO c φ neg)
section
variable {X : Cx} {z : Z} {E : XK} {k n c : Nat} {pos : Pos} {a b : Expr} {fa fb : F} {σ : L2.St} {H : Hp} {Q : VK} {C : Addr} {ns : List Str} {φ : Fn} {neg : Bool}
theorem dEq_nx (neg : Bool) (x y : D) (c : Nat) (d : D) : dEq neg x y ≠ .exc c d := by
  unfold dEq
  split <;> (try split) <;> (intro h; cases h)
theorem isObj {K : PySem.W.Frag} {cl : Cl} {G H : Hp} {v : V} {c : Nat} {xs : List D} (h : IsT K cl G H v (.obj c xs)) : Is K cl G v (.obj c xs) := by
  rcases h with h | ⟨_, _, _, _, e, _⟩
  · exact h
  · cases e
theorem te_eqO {r : R2} (hc : z.cl c = (C, ns)) (hr : ∀ G H x y dx dy Q, Ex G H → IsT z.K z.cl G H x dx → IsT z.K z.cl G H y dy → P0 z G H Q (dEq neg dx dy) → r x y H Q) (h : tE z E (fEqO c φ neg fa fb) σ H Q) :
    tOp (fun x y H Q => r x y H Q ∨ rOwnEq C (spF z false 2 φ) E neg x y H Q) (tE z E fa) (tE z E fb) σ H Q := by
  obtain ⟨T, G, env, rp, h⟩ := h
  have q := te_two (Cb := fun G p => CR z T σ G Q p) (C := fun _ _ => True) rp (fun G G' b e h => h.mono e) h
  refine te_imp (fun x H1 q1 => ?_) q
  obtain ⟨T1, G1, env1, r1, h1⟩ := q1
  refine ⟨T1, G1, env1, r1, h1.imp fun a w v H' G' x y c' => ?_⟩
  obtain ⟨dx, dy, e2, G2, r2, _, ix, iy, hk⟩ := w v H' G' x y c'
  have main : Pg z E (fun b => CR z T σ G2 Q b) ((dEq neg dx dy).bind fun q => .ok (q.r, e2)) → r _ _ H' Q := fun hk => hr G2 H' _ _ dx dy Q r2.f.exG ix iy (p0_end (E := E) r2 (Pg.bind hk) (dEq_nx neg dx dy))
  unfold kEqO at hk
  split at hk
  · rename_i a xs b ys
    split at hk
    · rename_i eab
      obtain ⟨ea, eb⟩ := eab
      subst ea
      subst eb
      have ia := isObj ix
      have ib := isObj iy
      have ia' := ia
      have ib' := ib
      cases ia with
      | @obj pa dxa _ fsa _ _ ha _ _ _ =>
        cases ib with
        | @obj pb dxb _ fsb _ _ hb _ _ _ =>
          rw [hc] at ha hb
          have hM : ∀ a, (none : Option Addr) = some a → z.H0 a = none ∨ z.M = some a := fun a e => by cases e
          refine .inr ⟨pa, pb, dxa, dxb, fsa, fsb, rfl, rfl, r2.f.exG _ _ ha, r2.f.exG _ _ hb, G2, [.obj b xs, .obj b ys], none, .pure (.cons ia' (.cons ib' .nil)), r2.f.exG, rfl, Pg.in r2.f hM (fun s hs => ?_) (Pg.bind hk)⟩
          intro v2 H2 G3 f' ro _
          obtain ⟨s1, s2⟩ := s
          dsimp only at hs
          split at hs
          · cases ro
            have r3 : Rep z T G3 H2 e2 σ := r2.back hM f' rfl (fun i s es => .inl ⟨es, fun _ _ _ w => by cases w⟩) (fun _ _ w => w) (fun _ _ w => by cases w)
            exact ⟨_, rfl, hs (.bl _) H2 G3 r3 f'.g0 (.bl _)⟩
          · exact hs.elim
    · exact hk.elim
  · exact .inl (main hk)
/-- a class's == -/
structure EqB (X : Cx) (z : Z) (k : Nat) (C : Addr) (φ : Fn) : Prop where
  fn : ∃ f fd, FnOk X.prog X.w X.K X.mg X.base (L2.CX X.prog X.w) k f fd ["self", "other"] (spF z false 2 φ) ∧ Binds X.K fd ["self", "other"] [] ∧ PySem.W.findIn X.K (.ref C) "__eq__" = some (some (.ref f)) ∧ PySem.W.isFn X.K (.ref f) = true
  ne : PySem.W.findIn X.K (.ref C) "__ne__" = some (some (.builtin "object.__ne__"))
  mro : PySem.W.mroIn X.K C (.type "object") = some true
theorem we_eqO {j : Nat} (o : OkX X z E k) (hc : z.cl c = (C, ns)) (B : EqB X z j C φ) (ha : PE X a (tE z E fa)) (hb : PE X b (tE z E fb)) (hk : j ≤ k := by decide) (hm : behindInMarks .Eq b = false := by first | exact nomark _ | with_unfolding_all rfl) : PE X (.Compare a [.Eq] [b] pos) (tE z E (fEqO c φ false fa fb)) := by
  obtain ⟨f, fd, Fo, b, hs, hf⟩ := B.fn
  obtain ⟨r, h1, h2⟩ := (od_eq o).run
  have h3 : OpR X (compareOp .Eq) (rOwnEq C (spF z false 2 φ) E false) := op_ownEq Fo b hs hf (o.room.mono hk) (passes_call (W := fun c d _ H => E c d H) o.tk fun _ _ _ _ h => h)
  exact pe_mono (pe_cmpR (r := fun x y H Q => r x y H Q ∨ rOwnEq C (spF z false 2 φ) E false x y H Q) (fun pins s σ H x y v u Q I rx ry h => by
    rcases h with h | h
    · exact h1 pins s σ H x y v u Q I rx ry h
    · exact h3 pins s σ H x y v u Q I rx ry h) ha hb hm) fun _ _ _ h => te_eqO hc h2 h
theorem we_neO {j : Nat} (o : OkX X z E k) (hc : z.cl c = (C, ns)) (B : EqB X z j C φ) (ha : PE X a (tE z E fa)) (hb : PE X b (tE z E fb)) (hk : j + 1 ≤ k := by decide) (hm : behindInMarks .NotEq b = false := by first | exact nomark _ | with_unfolding_all rfl) : PE X (.Compare a [.NotEq] [b] pos) (tE z E (fEqO c φ true fa fb)) := by
  obtain ⟨f, fd, Fo, b, hs, hf⟩ := B.fn
  obtain ⟨r, h1, h2⟩ := (od_ne o).run
  have h3 : OpR X (compareOp .NotEq) (rOwnEq C (spF z false 2 φ) E true) := op_ownNe Fo b hs hf B.ne B.mro (o.room.mono hk) (passes_call (W := fun c d _ H => E c d H) o.tk fun _ _ _ _ h => h)
  exact pe_mono (pe_cmpR (r := fun x y H Q => r x y H Q ∨ rOwnEq C (spF z false 2 φ) E true x y H Q) (fun pins s σ H x y v u Q I rx ry h => by
    rcases h with h | h
    · exact h1 pins s σ H x y v u Q I rx ry h
    · exact h3 pins s σ H x y v u Q I rx ry h) ha hb hm) fun _ _ _ h => te_eqO hc h2 h
end

/-! ### isinstance with one own class -/
def bIsiC : List D → Out R0
  | [.obj 0 _, .cls 0] => .ok (.d (.bl true))
  | [.obj 0 _, .ty T] => if T ∈ ["int", "bool", "str", "tuple", "list", "dict"] then .ok (.d (.bl false)) else .no
  | [x, .cls 0] => match tyOf x with
    | some _ => .ok (.d (.bl false))
    | none => .no
  | ds => bIsi ds
structure KitB (K : PySem.W.Frag) (C : Addr) : Prop where
  cl : Cls K C
  ha : PySem.W.findIn K (.ref C) "__class__" = some (some (.builtin "object.__class__"))
  hn : PySem.W.specialIn K (.builtin "object.__class__") "__get__" = some (some (.builtin "getset_descriptor.__get__"))
  htk : PySem.W.takesIn K (.builtin "object.__class__") = some true
  hm : PySem.W.mroIn K C (.type "object") = some true
  k1 : ∀ T ∈ ["int", "bool", "str", "tuple", "list", "dict"], PySem.W.kitOne K (.ref C) (.type T) = some false
  k2 : ∀ t ∈ ["NoneType", "bool", "int", "str", "tuple", "list", "dict"], PySem.W.kitOne K (.type t) (.ref C) = some false
section
variable {X : Cx} {z : Z} {E : XK} {k : Nat} {pos : Pos} {C : Addr} {ns : List Str}
theorem cd_isiC (hK : X.K = z.K) (hc : z.cl 0 = (C, ns)) (B : KitB X.K C) : CallD X z (.builtin "isinstance") bIsiC := by
  obtain ⟨r0, h1, h2⟩ := (cd_isi (X := X) (z := z) hK).run
  refine ⟨⟨fun xs H Q => rIsi X.K xs H Q ∨ r0 xs H Q, fun pins s σ H vs us Q I r h => by
    rcases h with h | h
    · exact call_isi pins s σ H vs us Q I r h
    · exact h1 pins s σ H vs us Q I r h, fun G H vs ds Q e i p => ?_⟩, fun x c d => ?_⟩
  · have own : ∀ {v : V} {fs : List D}, IsT z.K z.cl G H v (.obj 0 fs) → TyX X.K H v (.ref C) := fun {v fs} h => by
      rcases h with h | ⟨_, _, _, _, e, _⟩
      · cases h with
        | obj ha _ _ _ =>
          rw [hc] at ha
          exact .base (.ins (e _ _ ha) B.cl B.ha B.hn B.htk B.hm)
      · cases e
    have isCls : ∀ {v : V}, IsT z.K z.cl G H v (.cls 0) → v = .ref C := fun {v} h => by
      rcases h with h | ⟨_, _, _, _, e, _⟩
      · cases h
        rw [hc]
      · cases e
    unfold bIsiC at p
    split at p
    · obtain ⟨v, w, rfl, wv, ww⟩ := isTs2 i
      rw [isCls ww]
      exact .inl ⟨_, _, _, _, true, rfl, .own C, own wv, by unfold PySem.W.kitOne; rw [if_pos (beq_self_eq_true _)], p _ (.bl _)⟩
    · split at p
      · rename_i hT
        obtain ⟨v, w, rfl, wv, ww⟩ := isTs2 i
        rw [isTy ww]
        exact .inl ⟨_, _, _, _, false, rfl, .ty _, own wv, B.k1 _ hT, p _ (.bl _)⟩
      · exact p.elim
    · split at p
      · rename_i t ht
        obtain ⟨v, w, rfl, wv, ww⟩ := isTs2 i
        rw [isCls ww]
        refine .inl ⟨_, _, _, _, false, rfl, .own C, ?_, B.k2 _ (tyOf_mem ht), p _ (.bl _)⟩
        rw [hK]
        exact tyOf_is e wv ht
      · exact p.elim
    · exact .inr (h2 G H vs _ Q e i p)
  · unfold bIsiC
    split <;> (try split) <;> first | (intro h; cases h) | exact (cd_isi (X := X) (z := z) hK).nx _ c d
theorem we_cls {x : Str} {c : Nat} (hm : X.mg x = some (.ref C)) (hc : z.cl c = (C, ns)) (hg : Gl X x := by rfl) (hd : (x == ("__debug__" : Str)) = false := by decide) : PE X (.Name x pos) (tE z E (fC (.cls c))) :=
  pe_mono (pe_glob (v := .ref C) hg hm rfl hd) fun σ H Q ⟨T, G, env, r, h⟩ => by
    refine h (.ref C) H G r (Ex.refl G) ?_
    have : z.cl c = (C, ns) := hc
    have e : V.ref C = V.ref (z.cl c).1 := by rw [this]
    rw [e]
    exact .cls c
end
end TN
namespace TN
open PySem PySem.Spec PyProof.Rows L2

/-! ### __init__: tests that raise, then two fields -/
def gAll : List FB → Ev → Out Ev
  | [], env => .ok env
  | c :: cs, env => (c env).bind fun p => if p.1 = true then .no else gAll cs p.2
def valsAt (env : Ev) : List Nat → Option (List D)
  | [] => some []
  | i :: is => match env[i]? with
    | some (.val d) => match valsAt env is with
      | some ds => some (d :: ds)
      | none => none
    | _ => none
def initF (n : Nat) (is : List Nat) (gs : List FB) : In := fun ds => (gAll gs (.no :: ds.map Sl.val ++ List.replicate (n - (ds.length + 1)) .no)).bind fun e => ofO (valsAt e is)
def tGd (z : Z) (E : XK) (gs : List FB) (t : (Hp → Ev → Prop) → TS) (K : Hp → Ev → Prop) : TS := t K
/-- the tests ahead, then t -/
def tGs' (z : Z) (E : XK) (gs : List FB) (t : TS) : TS := fun D σ H => ∃ T G env, Rep z T G H env σ ∧ Pg z E (fun e => ∀ H' G', Rep z T G' H' e σ → Ex G G' → t D σ H') (gAll gs env)
section
variable {X : Cx} {z : Z} {E : XK} {k n : Nat} {pos : Pos} {c : FB} {cs : List FB} {t : TS} {test : Expr} {body rest : List Stmt}
theorem wsg_nil (h : PSs X rest t) : PSs X rest (tGs' z E [] t) := pss_mono h fun D σ H ⟨T, G, env, r, h⟩ => h H G r (Ex.refl G)
theorem pss_never {ss : List Stmt} : PSs X ss (fun _ _ _ => False) := ⟨fun pins s σ H D I h => h.elim⟩
theorem wsg_cons (ht : PT X test (tT z E c)) (h : PSs X rest (tGs' z E cs t)) : PSs X (.If test body [] pos :: rest) (tGs' z E (c :: cs) t) :=
  pss_mono (pss_cons (ps_if ht (pss_never (ss := body)) pss_nil) h) fun D σ H ⟨T, G, env, r, h⟩ => by
    refine ⟨T, G, env, r, (Pg.bind h).imp fun p hp H' G' r' e => ?_⟩
    obtain ⟨p1, p2⟩ := p
    cases p1 with
    | true => exact hp.elim
    | false => exact ⟨T, G', p2, r', (show Pg z E _ (gAll cs p2) from hp).imp fun e1 h1 H2 G2 r2 x2 => h1 H2 G2 r2 (e.trans x2)⟩
end
section
variable {P : Program} {w : World} {K : PySem.W.Frag} {mg : Str → Option Value} {base : Heap}
theorem init_ok {qual : Str} {st : Stmt} {f : Addr} {fd : FuncData} {N : List Str} {k n : Nat} {z : Z} {C : Addr} {f1 f2 p1 p2 : Str} {gs : List FB} {t : TS} (Fn' : Fun K "__init__" qual st f fd) (Sc : FnScope N ["self", p1, p2] (defScope st)) (hK : K = z.K)
    (hC : Cls K C) (n1 : NoAttr K C f1) (n2 : NoAttr K C f2) (hne : f1 ≠ f2)
    (ht : ∀ D σ H, t D σ H = tSeq (sFld K (tVar 0) (tVar 1) f1) (sFld K (tVar 0) (tVar 2) f2) D σ H)
    (hb : ∀ (cdv : Value) (A : Around) (outer : List Env) (s : Shared) (H : Hp) (E : XK) (G H' : Hp), OkX (cxOf (L2.CX P w) P w K mg base N qual (defScope st) f cdv A outer s H E) (z.at_ G H' none) E k →
      PSs (cxOf (L2.CX P w) P w K mg base N qual (defScope st) f cdv A outer s H E) (defBody st) (tGs' (z.at_ G H' none) E gs t)) :
    FnOk P w K mg base (L2.CX P w) (k + 1) f fd ["self", p1, p2] (spI z C [f1, f2] 2 (initF N.length [1, 2] gs)) := by
  refine Fn'.okX Sc (fun vs H Q E h => ?_) fun cdv A outer s H vs Q E hr h => ?_
  · obtain ⟨_, _, _, _, us, _, rfl, _, _, _, _, _, _, hl, _⟩ := h
    show us.length + 1 = 3
    rw [hl]
  · obtain ⟨G, H1, x, dx, us, ds, rfl, hx, hdx, ne, rfl, ex, ia, hl, h⟩ := h
    have o : OkX (cxOf (L2.CX P w) P w K mg base N qual (defScope st) f cdv A outer s (upd (upd H1 dx (.own x)) x (.ins C dx [])) E) (z.at_ G H1 none) E k :=
      ⟨hK, takes_of rfl rfl rfl rfl, rfl, Sc.nd, hr, passes_of rfl⟩
    refine ⟨_, hb cdv A outer s _ E G H1 o, ?_⟩
    have hN : 3 ≤ N.length := by
      have := congrArg List.length Sc.pre
      rw [List.length_take] at this
      simp at this
      omega
    have hlen := ia.length
    have ld : ds.length = 2 := by rw [← hlen]; exact hl
    have keep : ∀ a o, H1 a = some o → (upd (upd H1 dx (.own x)) x (.ins C dx [])) a = some o := fun a o e => by
      rw [upd_ne (ne_of_none e hx), upd_ne (ne_of_none e hdx)]
      exact e
    have gx : G x = none := ex.nn hx
    have r : Rep (z.at_ G H1 none) (fun a => if a = x then some (.ins C dx []) else none) G (upd (upd H1 dx (.own x)) x (.ins C dx [])) (.no :: ds.map Sl.val ++ List.replicate (N.length - (ds.length + 1)) .no) (L2.start N (.ref x :: us)) := by
      refine ⟨⟨fun a o e => keep a o (ex a o e), Ex.refl G, fun a ha => .inl ha, fun a o e _ => keep a o e, (fun a e => by cases e), (fun a e => by cases e)⟩, ?_, fun i s es => ?_, fun i j p hi => ?_, fun a o e => ?_, fun a ha => ?_, fun a ha => ?_⟩
      · rw [start_len (by simp [hl]; omega), List.length_append, List.length_cons, List.length_map, List.length_replicate]
        omega
      · cases i with
        | zero => cases es; trivial
        | succ i =>
          rw [List.cons_append, List.getElem?_cons_succ] at es
          by_cases q : i < ds.length
          · rw [List.getElem?_append_left (by simpa using q)] at es
            obtain ⟨d, v, rfl, hv, w⟩ := slots_vals ia es
            exact ⟨v, start_get (vs := V.ref x :: us) (by simpa using hv), w⟩
          · rw [List.getElem?_append_right (by simpa using q)] at es
            rw [(List.mem_replicate.mp (List.mem_of_getElem? es)).2]
            trivial
      · obtain ⟨⟨s, es, os⟩, _⟩ := hi
        exfalso
        cases i with
        | zero => cases es; cases os
        | succ i =>
          rw [List.cons_append, List.getElem?_cons_succ] at es
          by_cases q : i < ds.length
          · rw [List.getElem?_append_left (by simpa using q)] at es
            obtain ⟨d, v, rfl, hv, w⟩ := slots_vals ia es
            cases os
          · rw [List.getElem?_append_right (by simpa using q)] at es
            rw [(List.mem_replicate.mp (List.mem_of_getElem? es)).2] at os
            cases os
      · by_cases q : a = x
        · subst q; rw [if_pos rfl] at e; rw [upd_same]; exact e
        · rw [if_neg q] at e; cases e
      · by_cases q : a = x
        · rw [q]; exact gx
        · rw [if_neg q] at ha; exact absurd rfl ha
      · by_cases q : a = x
        · rw [q]; exact hx
        · rw [if_neg q] at ha; exact absurd rfl ha
    refine ⟨_, G, _, r, (Pg.bind h).imp fun e he H' G' r' x' => ?_⟩
    obtain ⟨fs, efs, he⟩ := (show Pg (z.at_ G H1 none) E _ (ofO (valsAt e [1, 2])) from he).ofO
    rw [ht]
    have hH' : H' x = some (.ins C dx []) := r'.exT x _ (by rw [if_pos rfl])
    have gx' : G' x = none := r'.gt x (by rw [if_pos rfl]; intro w; cases w)
    -- the two slots
    obtain ⟨d1, d2, e1, e2, rfl⟩ : ∃ d1 d2, e[1]? = some (.val d1) ∧ e[2]? = some (.val d2) ∧ fs = [d1, d2] := by
      simp only [valsAt] at efs
      split at efs
      · rename_i d1 q1
        split at efs
        · rename_i l q2
          split at q2
          · rename_i d2 q3
            cases q2
            cases efs
            exact ⟨d1, d2, q1, q3, rfl⟩
          · cases q2
        · cases efs
      · cases efs
    obtain ⟨v1, s1, i1⟩ := r'.sl 1 _ e1
    obtain ⟨v2, s2, i2⟩ := r'.sl 2 _ e2
    have sj : ∀ {i : Nat} {v : V}, (L2.start N (.ref x :: us))[i]?.join = some v → (L2.start N (.ref x :: us))[i]? = some (some v) := fun {i v} e => by
      cases q : (L2.start N (.ref x :: us))[i]? with
      | none => rw [q] at e; cases e
      | some o => rw [q] at e; exact congrArg some e
    have s0 : (L2.start N (.ref x :: us))[0]? = some (some (.ref x)) := sj (start_get rfl)
    refine ⟨v1, sj s1, .ref x, s0, x, C, dx, [], rfl, hH', hC, n1, by simp, ?_⟩
    refine ⟨v2, sj s2, .ref x, s0, x, C, dx, [(f1, v1)], rfl, upd_same, hC, n2, by simp, ?_⟩
    have e3 : putF f2 v2 [(f1, v1)] = [(f1, v1), (f2, v2)] := by simp [putF, hne]
    rw [e3]
    refine he _ G' [(f1, v1), (f2, v2)] ?_ gx' upd_same rfl (.cons i1 (.cons i2 .nil))
    have up : ∀ a, a ≠ x → (upd (upd H' x (.ins C dx (putF f1 v1 []))) x (.ins C dx [(f1, v1), (f2, v2)])) a = H' a := fun a h => by rw [upd_ne h, upd_ne h]
    refine ⟨fun a o ea => ?_, r'.f.g0, r'.f.gn, fun a o ea hm => ?_, (fun a e => by cases e), (fun a e => by cases e)⟩
    · rw [up a (fun q => by rw [q, gx'] at ea; cases ea)]
      exact r'.f.exG a o ea
    · have : H1 a = some o := ea
      rw [up a (fun q => by rw [q, hx] at this; cases this)]
      exact r'.f.fr a o ea hm
end
end TN
namespace TN
open PySem PySem.Spec PyProof.Rows L2

/-! ### methods of tuples: t.index(x), t.index(x, a), t.count(x), whole numbers -/
section
variable {X : Cx}
theorem tupX_is {pins : List (Addr × Obj)} {σ : L2.St} {H : Hp} {s : Shared} {p : Addr} {vs : List V} (I : Inv X pins σ H s) (h : TupX X.K H p vs) :
    s.TypeIs (.ref p) "tuple" ∧ ∀ a, Value.ref p = .ref a → ∃ ob, s.heap.get? a = some ob ∧ ob.dict = none := by
  rcases h with ⟨o, h, hd⟩ | ⟨o, its, n, ⟨h1, hd⟩, hc, _⟩
  · obtain ⟨g, _, its, _, ⟨o', g', c, _⟩⟩ := I.hok p _ h
    rw [g] at g'
    cases g'
    exact ⟨⟨o, g, c⟩, fun a e => by cases e; exact ⟨o, g, hd⟩⟩
  · have g := I.kIn p o h1
    exact ⟨⟨o, g, hc⟩, fun a e => by cases e; exact ⟨o, g, hd⟩⟩
def tMtT (K : PySem.W.Frag) (r : V → List V → Hp → VK → Prop) (to : TE) (t : TA) : TE := fun σ H Q => to σ H fun x H1 => (∃ p vs, x = .ref p ∧ TupX K H1 p vs) ∧ t σ H1 fun xs H2 => r x xs H2 Q
theorem pe_mtT {o e : Expr} {es : List Expr} {to : TE} {t : TA} {name : Str} {apos cpos : Pos} {id : String} {r : V → List V → Hp → VK → Prop} (slot : Slot "tuple" name id) (hty : typeOf (.builtin id) = pure (.type "method_descriptor")) (hm : MtR X id r) (ho : PE X o to) (ha : PA X (e :: es) t)
    (hbase : attributeBase o name X.env (eval o X.env) = eval o X.env := by rfl)
    (hfew : ((backTo cpos (starEach (e :: es) X.env)).all (fun x => !x.1) && (backToKw cpos (keywordEach [] X.env)).all (fun x => x.1.isSome)
      && decide ((e :: es).length + ([] : List Keyword).length + (if ([] : List Keyword).isEmpty then 0 else 1) < 30)) = true := by rfl)
    (hline : (apos.endLine == cpos.line) = true := by rfl) (hs : starEach (e :: es) X.env = (false, eval e X.env) :: starEach es X.env := by rfl) (hplain : (backTo cpos (starEach es X.env)).any (·.1) = false := by rfl) :
    PE X (.Call (.Attribute o name apos) (e :: es) [] cpos) (tMtT X.K r to t) := by
  refine ⟨fun pins s σ H Q I h => ?_⟩
  refine wpAny_Call_method_late hbase hfew hline rfl (thn (ho.run pins s σ H _ I h) fun v s1 ⟨x, H1, I1, r1, ⟨p, vs, ex, tx⟩, q1⟩ => ?_)
  subst ex
  cases (show v = Value.ref p from r1)
  obtain ⟨h1, h2⟩ := tupX_is I1 tx
  refine ⟨"tuple", id, PySem.F.plainAttrs_tuple, slot, hty, h1, h2, ?_⟩
  have hA := ha.run cpos pins s1 σ H1 _ I1 q1
  rw [hs] at hA ⊢
  refine Calls.callWith_builtin (by show (false || (backTo cpos (starEach es X.env)).any (·.1)) = false; rw [hplain] <;> rfl) (Calls.evalArgs_plain ?_)
  exact thn hA fun us s2 ⟨ws, H2, I2, r2, q2⟩ => hm pins s2 σ H2 (.ref p) ws _ us Q I2 rfl r2 q2
/-- the first place from a on -/
def rIdxI (K : PySem.W.Frag) : V → List V → Hp → VK → Prop := fun x xs H Q => ∃ (p : Addr) (ns : List Int) (k : Int) (a j : Nat), x = .ref p ∧ (xs = [.int k] ∧ a = 0 ∨ xs = [.int k, .int a]) ∧ SqT K H p (ns.map V.int) ∧
  ns[j]? = some k ∧ a ≤ j ∧ (∀ m, a ≤ m → m < j → ns[m]? ≠ some k) ∧ Q (.int (j : Nat)) H
theorem mt_tidx : MtR X "tuple.index" (rIdxI X.K) := by
  intro pins s σ H x xs v us Q I rx rs h
  obtain ⟨p, ns, k, a, j, rfl, hx, hq, hj, haj, hno, q⟩ := h
  cases rx
  obtain ⟨its, r, ⟨⟨cls, dd, dt, sl⟩, ho, hc, n, hd⟩, hz⟩ := I.tuple hq
  simp only at hc hd
  subst hc hd
  have hi := ints_of_vals r
  have hl : its.toArray.size = ns.length := by rw [List.size_toArray, ← r.length, List.length_map]
  have at' : ∀ (m : Nat) (hm : m < its.toArray.size), ∃ t', its.toArray[m] = Value.int (ns[m]'(by omega)) t' := fun m hm => by
    have hm' : m < ns.length := by omega
    obtain ⟨w, hw, t', hw'⟩ := r.get (i := m) (x := .int ns[m]) (by simp [hm'])
    refine ⟨t', ?_⟩
    have e := (List.getElem?_eq_some_iff.mp hw).2
    rw [← hw', ← e]
    simp
  have hjn : j < ns.length := (List.getElem?_eq_some_iff.mp hj).1
  have hjs : j < its.toArray.size := by omega
  have key : ∀ (t : Tok), (∀ m (hm : m < its.toArray.size), PySem.SeqAt.EqAt X.A.in1 s its.toArray[m] (.int k t) (decide (ns[m]? = some k))) := fun t m hm => by
    obtain ⟨t', e⟩ := at' m hm
    rw [e]
    have := PySem.SeqAt.EqAt.int_int (A := X.A.in1) (s := s) (ns[m]'(by omega)) t' k t
    have hb : ((ns[m]'(by omega)) == k) = decide (ns[m]? = some k) := by
      rw [List.getElem?_eq_getElem (show m < ns.length by omega)]
      by_cases q : ns[m]'(by omega) = k <;> simp [q]
    rw [← hb]
    exact this
  rcases hx with ⟨rfl, rfl⟩ | rfl
  · obtain ⟨u, rfl, t, rfl⟩ := vals1 rs
    refine call_meets PySem.F.slot_tuple_index ⟨_, ho, rfl⟩ PySem.F.entry_tuple_index (PySem.F.args_tuple_index_2 _ _)
      (PySem.SeqAt.tuple_index2_found p its.toArray n dd sl (.int k t) (fun m => decide (ns[m]? = some k)) j hjs (Nat.zero_le _) hjs (decide_eq_true hj) (fun m _ h0 hm => decide_eq_false (hno m h0 hm))) ⟨ho, fun m hm => key t m hm, ⟨.int (j : Nat), H, I.tok _, ⟨_, rfl⟩, q⟩⟩
  · obtain ⟨u, w, rfl, ru, rw'⟩ := vals2 rs
    obtain ⟨t, rfl⟩ := ru
    obtain ⟨t2, rfl⟩ := rw'
    refine call_meets PySem.F.slot_tuple_index ⟨_, ho, rfl⟩ PySem.F.entry_tuple_index (PySem.F.args_tuple_index_3 _ _ _)
      (PySem.SeqAt.tuple_index3_found p its.toArray n dd sl (.int k t) (fun m => decide (ns[m]? = some k)) a t2 j hjs (by rw [PySem.SeqAt.searchFrom_nat]; exact haj) hjs (decide_eq_true hj) (fun m _ h0 hm => decide_eq_false (hno m (by rw [PySem.SeqAt.searchFrom_nat] at h0; exact h0) hm))) ⟨ho, fun m hm => key t m hm, ⟨.int (j : Nat), H, I.tok _, ⟨_, rfl⟩, q⟩⟩
def rCntT (K : PySem.W.Frag) : V → List V → Hp → VK → Prop := fun x xs H Q => ∃ (p : Addr) (ns : List Int) (k : Int), x = .ref p ∧ xs = [.int k] ∧ SqT K H p (ns.map V.int) ∧ Q (.int (ns.count k : Nat)) H
theorem mt_tcnt : MtR X "tuple.count" (rCntT X.K) := by
  intro pins s σ H x xs v us Q I rx rs h
  obtain ⟨p, ns, k, rfl, rfl, hq, q⟩ := h
  cases rx
  obtain ⟨u, rfl, t, rfl⟩ := vals1 rs
  obtain ⟨its, r, ⟨⟨cls, dd, dt, sl⟩, ho, hc, n, hd⟩, hz⟩ := I.tuple hq
  simp only at hc hd
  subst hc hd
  have hi := ints_of_vals r
  refine call_meets PySem.F.slot_tuple_count ⟨_, ho, rfl⟩ PySem.F.entry_tuple_count (PySem.F.args_tuple_count_2 _ _)
    (SeqAt.tuple_countAt p its.toArray n dd sl (.int k t) (eqk k)) ⟨ho, fun y hy => (eqk_gives hi y (by simpa using hy)).at _ _, ?_⟩
  have ec : its.toArray.toList.countP (eqk k) = ns.count k := eqk_count hi
  refine ⟨.int (ns.count k : Nat), H, I.tok _, ⟨s.toks, ?_⟩, q⟩
  rw [ec]
end
/-- a method of a tuple -/
def fMtT (op : List D → List D → Out R0) (f : F) (g : FA) : F := fun env => (f env).bind fun p => match p.1 with
  | .d (.tup ds) => (g p.2).bind fun q => (ofO (derAll q.2 q.1)).bind fun xs => (op ds xs).bind fun o => .ok (o.r, q.2)
  | _ => .no
structure MtD (X : Cx) (z : Z) (id : String) (op : List D → List D → Out R0) : Prop where
  run : ∃ r, MtR X id r ∧ ∀ G H v vs ds xs Q, Ex G H → Is z.K z.cl G v (.tup ds) → IsTs z.K z.cl G H vs xs → P0 z G H Q (op ds xs) → r v vs H Q
  nx : ∀ ds xs c d, op ds xs ≠ .exc c d
section
variable {X : Cx} {z : Z} {E : XK} {n : Nat} {apos cpos : Pos} {o e : Expr} {es : List Expr} {f : F} {g : FA} {name : Str} {id : String} {op : List D → List D → Out R0}
theorem we_mtT (hK : X.K = z.K) (M : MtD X z id op) (slot : Slot "tuple" name id) (hty : typeOf (.builtin id) = pure (.type "method_descriptor")) (ho : PE X o (tE z E f)) (ha : WA X z E (e :: es) g n)
    (hbase : attributeBase o name X.env (eval o X.env) = eval o X.env := by rfl)
    (hfew : ((backTo cpos (starEach (e :: es) X.env)).all (fun x => !x.1) && (backToKw cpos (keywordEach [] X.env)).all (fun x => x.1.isSome)
      && decide ((e :: es).length + ([] : List Keyword).length + (if ([] : List Keyword).isEmpty then 0 else 1) < 30)) = true := by rfl)
    (hline : (apos.endLine == cpos.line) = true := by rfl) (hs : starEach (e :: es) X.env = (false, eval e X.env) :: starEach es X.env := by rfl) (hplain : (backTo cpos (starEach es X.env)).any (·.1) = false := by rfl) :
    PE X (.Call (.Attribute o name apos) (e :: es) [] cpos) (tE z E (fMtT op f g)) := by
  obtain ⟨r, h1, h2⟩ := M.run
  refine pe_mono (pe_mtT slot hty h1 ho ha.pa hbase hfew hline hs hplain) fun σ H Q ⟨T, G, env, rp, h⟩ => ?_
  refine ⟨T, G, env, rp, (Pg.bind h).imp fun p hp v H1 G1 r1 e1 w1 => ?_⟩
  obtain ⟨p1, p2⟩ := p
  dsimp only at hp
  split at hp
  · rename_i ds
    have w1 : Is z.K z.cl G1 v (.tup ds) := w1
    have w1' := w1
    cases w1 with
    | @tup a vs _ ht ia =>
      rw [hK]
      refine ⟨⟨a, vs, rfl, ex_x r1.f.exG ht⟩, T, G1, p2, r1, (Pg.bind hp).imp fun q hq ws H2 G2 r2 e2 w2 => ?_⟩
      obtain ⟨xs, ed, hq⟩ := (Pg.bind hq).ofO
      exact h2 G2 H2 _ ws ds xs Q r2.f.exG (w1'.mono e2) (w2.der r2 ed) (p0_end (E := E) r2 ((Pg.bind hq).imp fun o ho => CR.mono ho (e1.trans e2)) (M.nx _ _))
  · exact hp.elim
end
/-- the first place of k from a on -/
def firstI (k : Int) : Nat → List Int → Nat → Option Nat
  | _, [], _ => none
  | a, n :: ns, i => if a ≤ i ∧ n = k then some i else firstI k a ns (i + 1)
theorem firstI_some {k : Int} {a : Nat} : ∀ {ns : List Int} {i j : Nat}, firstI k a ns i = some j → i ≤ j ∧ ns[j - i]? = some k ∧ a ≤ j ∧ ∀ m, a ≤ m → i ≤ m → m < j → ns[m - i]? ≠ some k
  | [], _, _, h => by cases h
  | n :: ns, i, j, h => by
    unfold firstI at h
    split at h
    · rename_i q
      cases h
      refine ⟨Nat.le_refl _, by simp [q.2], q.1, fun m _ h1 h2 => by omega⟩
    · rename_i q
      obtain ⟨h1, h2, h3, h4⟩ := firstI_some h
      refine ⟨by omega, ?_, h3, fun m ha hi hm => ?_⟩
      · rw [show j - i = (j - (i + 1)) + 1 by omega, List.getElem?_cons_succ]
        exact h2
      · by_cases e : m = i
        · subst e
          rw [Nat.sub_self, List.getElem?_cons_zero]
          intro w
          exact q ⟨ha, Option.some.inj w⟩
        · rw [show m - i = (m - (i + 1)) + 1 by omega, List.getElem?_cons_succ]
          exact h4 m ha (by omega) hm
def mIdx : List D → List D → Out R0
  | ds, [.int k] => match toInts ds with
    | some ns => match firstI k 0 ns 0 with
      | some j => .ok (.d (.int (j : Nat)))
      | none => .no
    | none => .no
  | ds, [.int k, .int a] => if 0 ≤ a then match toInts ds with
    | some ns => match firstI k a.toNat ns 0 with
      | some j => .ok (.d (.int (j : Nat)))
      | none => .no
    | none => .no else .no
  | _, _ => .no
def mCnt : List D → List D → Out R0
  | ds, [.int k] => match toInts ds with
    | some ns => .ok (.d (.int (ns.count k : Nat)))
    | none => .no
  | _, _ => .no
section
variable {X : Cx} {z : Z}
theorem md_idx (hK : X.K = z.K) : MtD X z "tuple.index" mIdx := ⟨⟨_, mt_tidx, fun G H v vs ds xs Q e iv i p => by
  rw [hK]
  cases iv with
  | @tup a ws _ ht ia =>
    have hs : SqT z.K H a ws := ex_t e ht.sq
    unfold mIdx at p
    split at p
    · obtain ⟨w, rfl, iw⟩ := isTs1 i
      split at p
      · rename_i ns q
        split at p
        · rename_i j hj
          obtain ⟨_, h2, h3, h4⟩ := firstI_some hj
          rw [toInts_eq q] at ia
          rw [IsA.ints ia] at hs
          exact ⟨a, ns, _, 0, j, rfl, .inl ⟨by rw [isInt iw], rfl⟩, hs, by simpa using h2, h3, fun m a1 a2 => by simpa using h4 m a1 (Nat.zero_le _) a2, p _ (.int _)⟩
        · exact p.elim
      · exact p.elim
    · obtain ⟨w, w2, rfl, iw, iw2⟩ := isTs2 i
      split at p
      · rename_i k b hb
        split at p
        · rename_i ns q
          split at p
          · rename_i j hj
            obtain ⟨_, h2, h3, h4⟩ := firstI_some hj
            rw [toInts_eq q] at ia
            rw [IsA.ints ia] at hs
            refine ⟨a, ns, k, b.toNat, j, rfl, .inr ?_, hs, by simpa using h2, h3, fun m a1 a2 => by simpa using h4 m a1 (Nat.zero_le _) a2, p _ (.int _)⟩
            rw [isInt iw, isInt iw2, Int.toNat_of_nonneg hb]
          · exact p.elim
        · exact p.elim
      · exact p.elim
    · exact p.elim⟩, fun ds xs c d => by unfold mIdx; split <;> (try split) <;> (try split) <;> (try split) <;> (intro h; cases h)⟩
theorem md_cnt (hK : X.K = z.K) : MtD X z "tuple.count" mCnt := ⟨⟨_, mt_tcnt, fun G H v vs ds xs Q e iv i p => by
  rw [hK]
  cases iv with
  | @tup a ws _ ht ia =>
    have hs : SqT z.K H a ws := ex_t e ht.sq
    unfold mCnt at p
    split at p
    · obtain ⟨w, rfl, iw⟩ := isTs1 i
      split at p
      · rename_i ns q
        rw [toInts_eq q] at ia
        rw [IsA.ints ia] at hs
        exact ⟨a, ns, _, rfl, by rw [isInt iw], hs, p _ (.int _)⟩
      · exact p.elim
    · exact p.elim⟩, fun ds xs c d => by unfold mCnt; split <;> (try split) <;> (intro h; cases h)⟩
end
end TN
namespace TN
open PySem PySem.Spec PyProof.Rows L2

/-! ### a comprehension with two fors -/
def in2F (ga : GA) (c : FB) (f : F) (vs : List Nat) : List D → List D → Ev → Out (List D × Ev)
  | [], acc, env => .ok (acc, env)
  | d :: ds, acc, env => (ofO (ga d (wipeE env vs))).bind fun e => (noX (c e)).bind fun p => if p.1 = true then
      (noX (f p.2)).bind fun q => (ofO (q.1.opd.fix q.2)).bind fun y => if acc.length < 100000 then in2F ga c f vs ds (acc ++ [y.1]) y.2 else .no
    else in2F ga c f vs ds acc p.2
def out2F (ga : GA) (c : FB) (fi1 : FI) (ga1 : GA) (c1 : FB) (f : F) (vs vs1 : List Nat) : List D → List D → Ev → Out (List D × Ev)
  | [], acc, env => .ok (acc, env)
  | d :: ds, acc, env => (ofO (ga d (wipeE env vs))).bind fun e => (noX (c e)).bind fun p => if p.1 = true then
      (noX (fi1 p.2)).bind fun q => (in2F ga1 c1 f vs1 q.1 acc q.2).bind fun r => out2F ga c fi1 ga1 c1 f vs vs1 ds r.1 r.2
    else out2F ga c fi1 ga1 c1 f vs vs1 ds acc p.2
def fLc2 (fi : FI) (ga : GA) (c : FB) (fi1 : FI) (ga1 : GA) (c1 : FB) (f : F) (vs vs1 : List Nat) : F := fun env => (fi env).bind fun p =>
    (out2F ga c fi1 ga1 c1 f vs vs1 p.1 [] p.2).bind fun q => .ok (.new q.1, rstF (oldS p.2) vs 0 (wipeE q.2 vs))
theorem wipe_sub {σ τ : L2.St} {us vs : List Nat} (h : wipe σ us = wipe τ us) (hs : ∀ i ∈ us, i ∈ vs) : wipe σ vs = wipe τ vs := by
  have hl : σ.length = τ.length := by
    have := congrArg List.length h
    rwa [wipe_length, wipe_length] at this
  apply List.ext_getElem?
  intro j
  by_cases hj : j ∈ vs
  · have one : ∀ τ : L2.St, (wipe τ vs)[j]? = if j < τ.length then some none else none := fun τ => by
      by_cases hl : j < τ.length
      · rw [if_pos hl]
        cases q : (wipe τ vs)[j]? with
        | none => rw [List.getElem?_eq_none_iff, wipe_length] at q; omega
        | some o =>
          cases o with
          | none => rfl
          | some v => exact absurd hj (wipe_some q).2
      · rw [if_neg hl, List.getElem?_eq_none (by rw [wipe_length]; omega)]
    rw [one, one, hl]
  · have hu : j ∉ us := fun m => hj (hs j m)
    rw [wipe_get hj, wipe_get hj, ← wipe_get hu (σ := σ), ← wipe_get hu (σ := τ), h]
theorem wipe_wipe (σ : L2.St) (vs : List Nat) : wipe (wipe σ vs) vs = wipe σ vs := by
  have one : ∀ τ : L2.St, ∀ j ∈ vs, (wipe τ vs)[j]? = if j < τ.length then some none else none := fun τ j hj => by
    by_cases hl : j < τ.length
    · rw [if_pos hl]
      cases q : (wipe τ vs)[j]? with
      | none => rw [List.getElem?_eq_none_iff, wipe_length] at q; omega
      | some o =>
        cases o with
        | none => rfl
        | some v => exact absurd hj (wipe_some q).2
    · rw [if_neg hl, List.getElem?_eq_none (by rw [wipe_length]; omega)]
  apply List.ext_getElem?
  intro j
  by_cases hj : j ∈ vs
  · rw [one _ j hj, one _ j hj, wipe_length]
  · rw [wipe_get hj]
theorem updT {T H : Hp} {D : Addr} {o : HO} (e : Ex T H) (h : H D = some o) : Ex (upd T D o) H := fun a u ha => by
  by_cases q : a = D
  · subst q; rw [upd_same] at ha; rw [h]; exact ha
  · rw [upd_ne q] at ha; exact e a u ha
/-- the list under way grows -/
theorem Rep.more {z : Z} {T G H : Hp} {env : Ev} {σ : L2.St} {Da : Addr} {xs ys : List V} (r : Rep z (upd T Da (.lst xs)) G H env σ) (h0 : z.H0 Da = none) : Rep z (upd T Da (.lst ys)) G (upd H Da (.lst ys)) env σ := by
  have tD : (upd T Da (.lst xs)) Da ≠ none := by rw [upd_same]; intro w; cases w
  refine r.temp (Da := Da) (fun a ha => upd_ne ha) (r.gt Da tD) h0 (r.noOw tD) (fun a u ha => ?_) fun a ha => ?_
  · by_cases q : a = Da
    · subst q; rw [upd_same] at ha ⊢; exact ha
    · rw [upd_ne q] at ha ⊢
      exact r.exT a u (by rw [upd_ne q]; exact ha)
  · by_cases q : a = Da
    · exact .inl q
    · rw [upd_ne q] at ha
      exact .inr (by rw [upd_ne q]; exact ha)
section
variable {X : Cx} {z : Z} {E : XK} {k n : Nat} {pos : Pos} {tg iter tg1 iter1 elt : Expr} {ifs ifs1 : List Expr} {fi fi1 : FI} {ga ga1 : GA} {is is1 : List Nat} {c c1 : FB} {f : F} {scope : Scope} {own : List (Str × Nat)}
theorem te_lc2 {vs vs1 : List Nat} {σ : L2.St} {H : Hp} {Q : VK} (his : ∀ i ∈ is, i ∈ vs) (his1 : ∀ i ∈ is1, i ∈ vs1) (hvv : ∀ i ∈ vs1, i ∈ vs) (h : tE z E (fLc2 fi ga c fi1 ga1 c1 f vs vs1) σ H Q) :
    tLc2 (tI z E fi) (tG z is ga) (tT z E0 c) (tI z E0 fi1) (tG z is1 ga1) (tT z E0 c1) (tE z E0 f) vs vs1 σ H Q := by
  obtain ⟨T, G, env, r, h⟩ := h
  refine ⟨T, G, env, r, (Pg.bind h).imp fun p hp J H1 G1 r1 e1 wk => ?_⟩
  obtain ⟨ds, env1⟩ := p
  dsimp only at hp
  intro Da hD
  obtain ⟨n1, n2, n3, n4, n5⟩ := r1.nn hD
  have hp := Pg.bind hp
  -- what is asked at the end of the whole
  refine ⟨fun i m H' => ∃ G' env' σ' acc accV, Rep z (upd T Da (.lst accV)) G' H' env' σ' ∧ wipe σ' vs = wipe σ vs ∧ Ex G1 G' ∧ m + i = ds.length ∧ IsA z.K z.cl G' accV acc ∧
    Pg z E (fun q : List D × Ev => Pg z E (CR z T σ G Q) (.ok (.new q.1, rstF (oldS env1) vs 0 (wipeE q.2 vs)))) (out2F ga c fi1 ga1 c1 f vs vs1 (ds.drop i) acc env'), ⟨ds.length, G1, env1, σ, [], [], ?_, rfl, Ex.refl G1, rfl, .nil, hp⟩, ?_⟩
  · refine r1.temp (Da := Da) (fun a ha => upd_ne ha) n1 n3 n5 (fun a u ha => ?_) fun a ha => ?_
    · by_cases q : a = Da
      · subst q; rw [upd_same] at ha ⊢; exact ha
      · rw [upd_ne q] at ha ⊢; exact r1.exT a u ha
    · by_cases q : a = Da
      · exact .inl q
      · rw [upd_ne q] at ha; exact .inr ha
  · rintro i m H2 ⟨G2, env2, σ2, acc, accV, r2, hw, x2, em, ia, h2⟩
    have tD : ∀ xs : List V, (upd T Da (.lst xs)) Da ≠ none := fun xs => by rw [upd_same]; intro w; cases w
    have hDa : H2 Da = some (.lst accV) := r2.exT Da _ upd_same
    cases q : ds.drop i with
    | nil =>
      rw [q] at h2
      have hl : ds.length ≤ i := by
        have := congrArg List.length q
        rw [List.length_drop] at this
        simp at this
        omega
      refine .inl ⟨(wk i H2 (x2.trans r2.f.exG)).2 hl, ?_⟩
      have r3 := r2.wipe vs
      rw [hw] at r3
      have r4 : Rep z T G2 H2 (wipeE env2 vs) (wipe σ vs) := r3.temp (Da := Da) (fun _ _ => rfl) (r2.gt Da (tD _)) n3 (r3.noOw (tD _)) (fun a u ha => by
        by_cases q : a = Da
        · subst q; rw [n2] at ha; cases ha
        · exact r2.exT a u (by rw [upd_ne q]; exact ha)) fun a ha => by
        by_cases q : a = Da
        · exact .inl q
        · exact .inr (by rw [upd_ne q]; exact ha)
      have r5 := r1.back' r4 x2
      have h2 : CR z T σ G Q (.new acc, rstF (oldS env1) vs 0 (wipeE env2 vs)) := h2
      refine h2 (.ref Da) H2 G2 r5 (e1.trans x2) ⟨Da, accV, rfl, hDa, ia, r2.gt Da (tD _), n2, n3, n4, fun j hj => ?_⟩
      obtain ⟨⟨s, es, os⟩, ep⟩ := hj
      rw [rstF_get, Nat.zero_add, Option.map_eq_some_iff] at es
      obtain ⟨s', es', ee⟩ := es
      by_cases hj : vs.contains j = true
      · rw [if_pos hj] at ee
        subst ee
        unfold oldS at os
        split at os <;> cases os
      · rw [if_neg hj] at ee
        subst ee
        exact r3.noOw (tD _) j ⟨⟨s', es', os⟩, by rw [wipe_get (fun m => hj (by simpa using m))]; exact ep⟩
    | cons d rest =>
      rw [q] at h2
      obtain ⟨hd, hr⟩ := drop_cons q
      obtain ⟨hgo, hy⟩ := wk.at_ x2 r2.f.exG hd
      have hl : i < ds.length := getElem?_lt hd
      obtain ⟨e, eg, h2⟩ := (Pg.bind h2).ofO
      refine .inr ⟨hgo, fun H' => ∃ G' env' σ' acc' accV', Rep z (upd T Da (.lst accV')) G' H' env' σ' ∧ wipe σ' vs = wipe σ vs ∧ Ex G1 G' ∧ IsA z.K z.cl G' accV' acc' ∧
        Pg z E (fun q : List D × Ev => Pg z E (CR z T σ G Q) (.ok (.new q.1, rstF (oldS env1) vs 0 (wipeE q.2 vs)))) (out2F ga c fi1 ga1 c1 f vs vs1 rest acc' env'), fun H' ⟨G', env', σ', acc', accV', a1, a2, a3, a4, a6⟩ => ⟨m - 1, by omega, G', env', σ', acc', accV', a1, a2, a3, by omega, a4, by rw [hr]; exact a6⟩, fun x H' y => ?_⟩
      have r3 := r2.wipe vs
      rw [hw] at r3
      obtain ⟨G4, r4, x4, w4⟩ := r3.yield (hy x H' y)
      refine ⟨_, G4, _, d, e, r4, w4, eg, fun σ5 r5 hw5 => ?_⟩
      have hws : wipe σ5 vs = wipe σ vs := (hw5 vs his).trans (wipe_wipe σ vs)
      refine ⟨hws, _, G4, e, r5, ((Pg.bind h2).noX).imp fun b hb H6 G6 r6 x6 => ?_⟩
      obtain ⟨b1, env6⟩ := b
      cases b1 with
      | false => exact ⟨G6, env6, σ5, acc, accV, r6, hws, (x2.trans x4).trans x6, ia.mono (x4.trans x6), hb⟩
      | true =>
        refine ⟨_, G6, env6, r6, ((Pg.bind (show Pg z E _ ((noX (fi1 env6)).bind _) from hb)).noX).imp fun pi hpi J1 H7 G7 r7 x7 wk1 => ?_⟩
        obtain ⟨ds1, env7⟩ := pi
        have x27 : Ex G2 G7 := (x4.trans x6).trans x7
        have hpi' := Pg.bind hpi
        -- the inner loop
        refine ⟨fun j k' H' => ∃ G' env' σ' acc' accV', Rep z (upd T Da (.lst accV')) G' H' env' σ' ∧ wipe σ' vs1 = wipe σ5 vs1 ∧ Ex G7 G' ∧ k' + j = ds1.length ∧ IsA z.K z.cl G' accV' acc' ∧
          Pg z E (fun r => Pg z E (fun q : List D × Ev => Pg z E (CR z T σ G Q) (.ok (.new q.1, rstF (oldS env1) vs 0 (wipeE q.2 vs)))) (out2F ga c fi1 ga1 c1 f vs vs1 rest r.1 r.2)) (in2F ga1 c1 f vs1 (ds1.drop j) acc' env'), ⟨ds1.length, G7, env7, σ5, acc, accV, r7, rfl, Ex.refl G7, rfl, ia.mono x27, hpi'⟩, ?_⟩
        rintro j k' H8 ⟨G8, env8, σ8, acc8, accV8, r8, hw8, x8, em8, ia8, h8⟩
        have hD8 : H8 Da = some (.lst accV8) := r8.exT Da _ upd_same
        have hw8v : wipe σ8 vs = wipe σ vs := (wipe_sub hw8 hvv).trans hws
        cases q8 : ds1.drop j with
        | nil =>
          rw [q8] at h8
          have hl8 : ds1.length ≤ j := by
            have := congrArg List.length q8
            rw [List.length_drop] at this
            simp at this
            omega
          exact .inl ⟨(wk1 j H8 (x8.trans r8.f.exG)).2 hl8, G8, env8, σ8, acc8, accV8, r8, hw8v, (x2.trans x27).trans x8, ia8, h8⟩
        | cons d8 rest8 =>
          rw [q8] at h8
          obtain ⟨hd8, hr8⟩ := drop_cons q8
          obtain ⟨hgo8, hy8⟩ := wk1.at_ x8 r8.f.exG hd8
          have hl8 : j < ds1.length := getElem?_lt hd8
          obtain ⟨e8, eg8, h8⟩ := (Pg.bind h8).ofO
          refine .inr ⟨hgo8, fun H' => ∃ G' env' σ' acc' accV', Rep z (upd T Da (.lst accV')) G' H' env' σ' ∧ wipe σ' vs1 = wipe σ5 vs1 ∧ Ex G7 G' ∧ IsA z.K z.cl G' accV' acc' ∧
            Pg z E (fun r => Pg z E (fun q : List D × Ev => Pg z E (CR z T σ G Q) (.ok (.new q.1, rstF (oldS env1) vs 0 (wipeE q.2 vs)))) (out2F ga c fi1 ga1 c1 f vs vs1 rest r.1 r.2)) (in2F ga1 c1 f vs1 rest8 acc' env'), fun H' ⟨G', env', σ', acc', accV', a1, a2, a3, a4, a6⟩ => ⟨k' - 1, by omega, G', env', σ', acc', accV', a1, a2, a3, by omega, a4, by rw [hr8]; exact a6⟩, fun x' H' y' => ?_⟩
          have r9 := r8.wipe vs1
          rw [hw8] at r9
          obtain ⟨G9, r9, x9, w9⟩ := r9.yield (hy8 x' H' y')
          refine ⟨_, G9, _, d8, e8, r9, w9, eg8, fun σa ra hwa => ?_⟩
          have hwsa : wipe σa vs1 = wipe σ5 vs1 := (hwa vs1 his1).trans (wipe_wipe σ5 vs1)
          refine ⟨hwsa, _, G9, e8, ra, ((Pg.bind h8).noX).imp fun b hb Hb Gb rb xb => ?_⟩
          obtain ⟨b1, envb⟩ := b
          cases b1 with
          | false => exact ⟨Gb, envb, σa, acc8, accV8, rb, hwsa, (x8.trans x9).trans xb, ia8.mono (x9.trans xb), hb⟩
          | true =>
            refine ⟨_, Gb, envb, rb, ((Pg.bind (show Pg z E _ ((noX (f envb)).bind _) from hb)).noX).imp fun u hu v Hc Gc rc xc wc => ?_⟩
            obtain ⟨u1, envc⟩ := u
            obtain ⟨Gd, rd, xd, wd⟩ := wc.opd rc
            obtain ⟨⟨yd, enve⟩, ef, hu⟩ := (Pg.bind hu).ofO
            obtain ⟨Ge, re, xe, we⟩ := wd.fix rd ef
            have xx : Ex G8 Ge := ((x9.trans xb).trans (xc.trans xd)).trans xe
            have hDc : Hc Da = some (.lst accV8) := re.exT Da _ upd_same
            dsimp only at hu
            split at hu
            · rename_i hsz
              refine ⟨accV8, hDc, ?_, Ge, enve, σa, acc8 ++ [yd], accV8 ++ [v], re.more n3, hwsa, x8.trans xx, (ia8.mono xx).append (.cons we .nil), hu⟩
              rw [ia8.length]
              exact line100' hsz
            · exact hu.elim
theorem we_lc2 (o : OkX X z E k) (ok : BlkOk X.N X.env.scope scope own) {vs1 : List Nat} (hi : PI X tg iter (tI z E fi))
    (hg : ∀ (s : Shared) (H : Hp) (C : Addr) (cl : List (Str × Addr)) (fp : List Addr), PG (X.blk s H scope (compEnvC scope cl C X.env) fp) tg (tG z is ga)) (ht : ∀ (s : Shared) (H : Hp) (C : Addr) (cl : List (Str × Addr)) (fp : List Addr), PTs (X.blk s H scope (compEnvC scope cl C X.env) fp) ifs (tT z E0 c))
    (hi1 : ∀ (s : Shared) (H : Hp) (C : Addr) (cl : List (Str × Addr)) (fp : List Addr), PI (X.blk s H scope (compEnvC scope cl C X.env) fp) tg1 iter1 (tI z E0 fi1))
    (hg1 : ∀ (s : Shared) (H : Hp) (C : Addr) (cl : List (Str × Addr)) (fp : List Addr), PG (X.blk s H scope (compEnvC scope cl C X.env) fp) tg1 (tG z is1 ga1)) (ht1 : ∀ (s : Shared) (H : Hp) (C : Addr) (cl : List (Str × Addr)) (fp : List Addr), PTs (X.blk s H scope (compEnvC scope cl C X.env) fp) ifs1 (tT z E0 c1))
    (he : ∀ (s : Shared) (H : Hp) (C : Addr) (cl : List (Str × Addr)) (fp : List Addr), PE (X.blk s H scope (compEnvC scope cl C X.env) fp) elt (tE z E0 f))
    (his : ∀ i ∈ is, i ∈ own.map (·.2) := by decide) (his1 : ∀ i ∈ is1, i ∈ vs1 := by decide) (hvv : ∀ i ∈ vs1, i ∈ own.map (·.2) := by decide) (hs : ∀ x, foldedSetIterable iter X.env x = pure x := by intro _; rfl) (hs1 : ∀ env x, foldedSetIterable iter1 env x = pure x := by intro _ _; rfl) :
    PE X (.ListComp elt [⟨tg, iter, ifs, 0⟩, ⟨tg1, iter1, ifs1, 0⟩] scope pos) (tE z E (fLc2 fi ga c fi1 ga1 c1 f (own.map (·.2)) vs1)) :=
  pe_mono (pe_lc2 o.calm o.nd hi ok hvv hg ht hi1 hg1 ht1 he hs hs1) fun σ H Q h => te_lc2 his his1 hvv h
end
end TN
namespace TN
open PySem PySem.Spec PyProof.Rows L2
/-! ### < of whole numbers and of tuples of them -/
def dLt : D → D → Out R0
  | .int i, .int j => .ok (.d (.bl (decide (i < j))))
  | .tup a, .tup b => match toInts a, toInts b with
    | some ns, some ms => .ok (.d (.bl (HT.lexLt ns ms)))
    | _, _ => .no
  | _, _ => .no
section
variable {X : Cx} {z : Z} {E : XK} {k n : Nat} {p pos tpos : Pos} {e : Expr} {elts : List Expr} {kk : Nat} {g : FA}
theorem od_ltX (o : OkX X z E k) : OpD X z (compareOp .Lt) dLt := by
  obtain ⟨r0, h1, h2⟩ := (od_lt (X := X) (z := z)).run
  refine ⟨⟨fun x y H Q => r0 x y H Q ∨ rLtT X.K x y H Q, fun pins s σ H x y v u Q I rx ry h => ?_, fun G H x y dx dy Q e ix iy p => ?_⟩, fun x y c d => ?_⟩
  · rcases h with h | h
    · exact h1 pins s σ H x y v u Q I rx ry h
    · exact op_ltT o.room.units0 pins s σ H x y v u Q I rx ry h
  · rw [o.K]
    unfold dLt at p
    split at p
    · exact .inl (h2 G H x y _ _ Q e ix iy p)
    · split at p
      · rename_i a b _ _ ns ms qa qb
        obtain ⟨p1, vs, rfl, hs, ia, _⟩ := isTup e ix
        obtain ⟨p2, ws, rfl, hs2, ib, _⟩ := isTup e iy
        rw [toInts_eq qa] at ia
        rw [toInts_eq qb] at ib
        rw [IsA.ints ia] at hs
        rw [IsA.ints ib] at hs2
        exact .inr ⟨p1, p2, _, _, rfl, rfl, hs, hs2, p _ (.bl _)⟩
      · exact p.elim
    · exact p.elim
  · unfold dLt
    split <;> (try split) <;> (intro h; cases h)
/-! ### enumerate of a list -/
def fEnum (g : FA) : FI := fun env => (g env).bind fun p => match fixAll p.2 p.1 with
  | some ([.lst ds], e) => .ok (enumD 0 ds, e)
  | _ => .no
theorem wi_enum (hK : X.K = z.K) (hm : X.mg "enumerate" = none) (ha : WA X z E [e] g n) (hg : Gl X "enumerate" := by rfl) (hs : starEach [e] X.env = [(false, eval e X.env)] := by rfl) : PI X (.Tuple elts kk tpos) (.Call (.Name "enumerate" p) [e] [] pos) (tI z E (fEnum g)) :=
  pi_mono (pi_enum hg hm ha.pa hs) fun σ H R ⟨T, G, env, r, h⟩ => by
    rw [hK]
    refine ⟨T, G, env, r, (Pg.bind h).imp fun p hp vs H1 G1 r1 e1 w1 => ?_⟩
    split at hp
    · rename_i ds en ed
      obtain ⟨G2, r2, x2, w⟩ := w1.fix r1 ed
      cases w with
      | cons wa w =>
        cases w
        cases wa with
        | lst ha a => exact ⟨_, _, rfl, SqL.of (r2.f.exG _ _ ha), hp _ H1 G2 r2 (e1.trans x2) (walkOk_e (SqL.of ha) a)⟩
    · exact hp.elim
end
end TN
namespace TN
open PySem PySem.Spec PyProof.Rows L2
/-! ### a class and what its text has written, in bundles -/
/-- the statement j of a class -/
def inCls (st : Stmt) (j : Nat) : Stmt := match st with
  | .ClassDef _ _ _ body _ _ _ _ _ _ _ => body.getD j (.Pass ⟨0, 0, 0, 0⟩)
  | _ => .Pass ⟨0, 0, 0, 0⟩
structure ClB (K : PySem.W.Frag) (mg : Str → Option Value) (z : Z) (x : Str) (C : Addr) (ns : List Str) : Prop where
  hc : z.cl 0 = (C, ns)
  mgC : mg x = some (.ref C)
  kit : KitB K C
  no : ∀ f ∈ ns, NoAttr K C f
  ne : PySem.W.findIn K (.ref C) "__ne__" = some (some (.builtin "object.__ne__"))
def PrB (P : Program) (w : World) (K : PySem.W.Frag) (mg : Str → Option Value) (base : Heap) (C : Addr) (nm f : Str) : Prop := ∃ p g fd, PropOf K C nm p g ∧ FnOk P w K mg base CX0 1 g fd ["self"] (getSp C f) ∧ Binds K fd ["self"] []
def MkB (P : Program) (w : World) (K : PySem.W.Frag) (mg : Str → Option Value) (base : Heap) (z : Z) (k : Nat) (C : Addr) (ns ps : List Str) (n : Nat) (ι : In) : Prop := ∃ fi fd, Mk K C fi ∧ FnOk P w K mg base (L2.CX P w) k fi fd ps (spI z C ns n ι) ∧ Binds K fd ps []
def EqF (P : Program) (w : World) (K : PySem.W.Frag) (mg : Str → Option Value) (base : Heap) (z : Z) (k : Nat) (C : Addr) (φ : Fn) : Prop := ∃ f fd, FnOk P w K mg base (L2.CX P w) k f fd ["self", "other"] (spF z false 2 φ) ∧ Binds K fd ["self", "other"] [] ∧ PySem.W.findIn K (.ref C) "__eq__" = some (some (.ref f)) ∧ PySem.W.isFn K (.ref f) = true
theorem ClB.at_ {K : PySem.W.Frag} {mg : Str → Option Value} {z : Z} {x : Str} {C : Addr} {ns : List Str} (h : ClB K mg z x C ns) (G H : Hp) (M : Option Addr) : ClB K mg (z.at_ G H M) x C ns := ⟨h.hc, h.mgC, h.kit, h.no, h.ne⟩
theorem spI_at {z : Z} {C : Addr} {ns : List Str} {n : Nat} {ι : In} {G0 H0 : Hp} {M0 : Option Addr} {vs : List V} {H : Hp} {Q : VK} {E : XK} (h : spI (z.at_ G0 H0 M0) C ns n ι vs H Q E) : spI z C ns n ι vs H Q E := h
theorem MkB_at {P : Program} {w : World} {K : PySem.W.Frag} {mg : Str → Option Value} {base : Heap} {z : Z} {k : Nat} {C : Addr} {ns ps : List Str} {n : Nat} {ι : In} (h : MkB P w K mg base z k C ns ps n ι) (G H : Hp) (M : Option Addr) : MkB P w K mg base (z.at_ G H M) k C ns ps n ι := by
  obtain ⟨fi, fd, m, f, b⟩ := h
  exact ⟨fi, fd, m, f.imp fun vs H Q E q => spI_at q, b⟩
theorem EqF_at {P : Program} {w : World} {K : PySem.W.Frag} {mg : Str → Option Value} {base : Heap} {z : Z} {k : Nat} {C : Addr} {φ : Fn} (h : EqF P w K mg base z k C φ) (G H : Hp) (M : Option Addr) : EqF P w K mg base (z.at_ G H M) k C φ := by
  obtain ⟨f, fd, a, b⟩ := h
  exact ⟨f, fd, a.imp fun vs H Q E q => spF_at q, b⟩
section
variable {X : Cx} {z : Z} {E : XK} {k j n : Nat} {pos p : Pos} {e a b : Expr} {es : List Expr} {g fa fb : F} {ga : FA} {f nm x : Str} {C : Addr} {ns ps : List Str} {ι : In} {φ : Fn}
theorem we_fldB {i : Nat} (he : PE X e (tE z E g)) (W : ClB X.K X.mg z x C ns) (hj : AtF ns i f) (hf : f ∈ ns := by decide) (hb : attributeBase e f X.env (eval e X.env) = eval e X.env := by rfl) : PE X (.Attribute e f pos) (tE z E (fAt 0 i g)) :=
  we_fld he W.hc W.kit.cl (W.no f hf) hj hb
theorem we_propB {i : Nat} (he : PE X e (tE z E g)) (o : OkX X z E k) (W : ClB X.K X.mg z x C ns) (B : PrB X.prog X.w X.K X.mg X.base C nm f) (hj : AtF ns i f) (hk : 2 ≤ k := by decide) (hb : attributeBase e nm X.env (eval e X.env) = eval e X.env := by rfl) : PE X (.Attribute e nm pos) (tE z E (fAt 0 i g)) := by
  obtain ⟨p, g, fd, hp, F, b⟩ := B
  exact we_prop he o W.hc W.kit.cl hp F b hj hk hb
theorem we_mkB (o : OkX X z E k) (W : ClB X.K X.mg z x C ns) (B : MkB X.prog X.w X.K X.mg X.base z j C ns ps n ι) (ha : WA X z E (e :: es) ga n) (hk : j + 1 ≤ k := by decide) (hg : Gl X x := by rfl) (hdb : (x == ("__debug__" : Str)) = false := by decide) (he : starEach (e :: es) X.env = (false, eval e X.env) :: starEach es X.env := by rfl) (hpl : (backTo pos (starEach es X.env)).any (·.1) = false := by rfl) :
    PE X (.Call (.Name x p) (e :: es) [] pos) (tE z E (fMk 0 ι ga)) := by
  obtain ⟨fi, fd, M, F, b⟩ := B
  exact we_mk o W.hc M F b W.mgC ha hk hg hdb he hpl
theorem we_eqB (o : OkX X z E k) (W : ClB X.K X.mg z x C ns) (B : EqF X.prog X.w X.K X.mg X.base z j C φ) (ha : PE X a (tE z E fa)) (hb : PE X b (tE z E fb)) (hk : j ≤ k := by decide) (hm : behindInMarks .Eq b = false := by first | exact nomark _ | with_unfolding_all rfl) : PE X (.Compare a [.Eq] [b] pos) (tE z E (fEqO 0 φ false fa fb)) :=
  we_eqO o W.hc ⟨B, W.ne, W.kit.hm⟩ ha hb hk hm
theorem we_neB (o : OkX X z E k) (W : ClB X.K X.mg z x C ns) (B : EqF X.prog X.w X.K X.mg X.base z j C φ) (ha : PE X a (tE z E fa)) (hb : PE X b (tE z E fb)) (hk : j + 1 ≤ k := by decide) (hm : behindInMarks .NotEq b = false := by first | exact nomark _ | with_unfolding_all rfl) : PE X (.Compare a [.NotEq] [b] pos) (tE z E (fEqO 0 φ true fa fb)) :=
  we_neO o W.hc ⟨B, W.ne, W.kit.hm⟩ ha hb hk hm
theorem we_clsB (W : ClB X.K X.mg z x C ns) (hg : Gl X x := by rfl) (hd : (x == ("__debug__" : Str)) = false := by decide) : PE X (.Name x pos) (tE z E (fC (.cls 0))) := we_cls W.mgC W.hc hg hd
end
section
variable {X : Cx} {z : Z} {E : XK} {k j : Nat} {pos : Pos} {a b : Expr} {fa fb : F} {x : Str} {C : Addr} {ns : List Str} {φ : Fn}
theorem wt_eqB (o : OkX X z E k) (W : ClB X.K X.mg z x C ns) (B : EqF X.prog X.w X.K X.mg X.base z j C φ) (ha : PE X a (tE z E fa)) (hb : PE X b (tE z E fb)) (hk : j ≤ k := by decide) (hm : behindInMarks .Eq b = false := by first | exact nomark _ | with_unfolding_all rfl) : PT X (.Compare a [.Eq] [b] pos) (tT z E (bOf (fEqO 0 φ false fa fb))) := by
  obtain ⟨f, fd, Fo, b, hs, hf⟩ := B
  obtain ⟨r, h1, h2⟩ := (od_eq o).run
  have h3 : OpR X (compareOp .Eq) (rOwnEq C (spF z false 2 φ) E false) := op_ownEq Fo b hs hf (o.room.mono hk) (passes_call (W := fun c d _ H => E c d H) o.tk fun _ _ _ _ h => h)
  exact pt_mono (pt_cmpR (r := fun x y H Q => r x y H Q ∨ rOwnEq C (spF z false 2 φ) E false x y H Q) (fun pins s σ H x y v u Q I rx ry h => by
    rcases h with h | h
    · exact h1 pins s σ H x y v u Q I rx ry h
    · exact h3 pins s σ H x y v u Q I rx ry h) ha hb hm) fun _ _ _ h => te_eqO W.hc h2 (te_bOf h)
theorem wt_neB (o : OkX X z E k) (W : ClB X.K X.mg z x C ns) (B : EqF X.prog X.w X.K X.mg X.base z j C φ) (ha : PE X a (tE z E fa)) (hb : PE X b (tE z E fb)) (hk : j + 1 ≤ k := by decide) (hm : behindInMarks .NotEq b = false := by first | exact nomark _ | with_unfolding_all rfl) : PT X (.Compare a [.NotEq] [b] pos) (tT z E (bOf (fEqO 0 φ true fa fb))) := by
  obtain ⟨f, fd, Fo, b, hs, hf⟩ := B
  obtain ⟨r, h1, h2⟩ := (od_ne o).run
  have h3 : OpR X (compareOp .NotEq) (rOwnEq C (spF z false 2 φ) E true) := op_ownNe Fo b hs hf W.ne W.kit.hm (o.room.mono hk) (passes_call (W := fun c d _ H => E c d H) o.tk fun _ _ _ _ h => h)
  exact pt_mono (pt_cmpR (r := fun x y H Q => r x y H Q ∨ rOwnEq C (spF z false 2 φ) E true x y H Q) (fun pins s σ H x y v u Q I rx ry h => by
    rcases h with h | h
    · exact h1 pins s σ H x y v u Q I rx ry h
    · exact h3 pins s σ H x y v u Q I rx ry h) ha hb hm) fun _ _ _ h => te_eqO W.hc h2 (te_bOf h)
end
theorem atF0 {a : Str} {r : List Str} : AtF (a :: r) 0 a := ⟨rfl, fun i h => absurd h (Nat.not_lt_zero i)⟩
theorem atF1 {a b : Str} {r : List Str} (h : a ≠ b) : AtF (a :: b :: r) 1 b := ⟨rfl, fun i hi e => by
  have : i = 0 := by omega
  subst this
  exact h (Option.some.inj e)⟩
/-- a statement that is not reached -/
def sNever : S := fun _ => .no
theorem ws_never {X : Cx} {z : Z} {E : XK} {st : Stmt} : PS X st (tS z E sNever) := sNever_ok
section
variable {X : Cx} {z : Z} {E : XK} {k n : Nat} {pos : Pos} {tg iter tg1 iter1 elt : Expr} {ifs ifs1 : List Expr} {fi fi1 : FI} {ga ga1 : GA} {is is1 : List Nat} {c c1 : FB} {f : F} {scope : Scope} {own : List (Str × Nat)}
theorem ws_setLc2 {i : Nat} {y : Str} {py spos : Pos} (o : OkX X z E k) (ok : BlkOk X.N X.env.scope scope own) {vs1 : List Nat} (hi : PI X tg iter (tI z E fi))
    (hg : ∀ (s : Shared) (H : Hp) (C : Addr) (cl : List (Str × Addr)) (fp : List Addr), PG (X.blk s H scope (compEnvC scope cl C X.env) fp) tg (tG z is ga)) (ht : ∀ (s : Shared) (H : Hp) (C : Addr) (cl : List (Str × Addr)) (fp : List Addr), PTs (X.blk s H scope (compEnvC scope cl C X.env) fp) ifs (tT z E0 c))
    (hi1 : ∀ (s : Shared) (H : Hp) (C : Addr) (cl : List (Str × Addr)) (fp : List Addr), PI (X.blk s H scope (compEnvC scope cl C X.env) fp) tg1 iter1 (tI z E0 fi1))
    (hg1 : ∀ (s : Shared) (H : Hp) (C : Addr) (cl : List (Str × Addr)) (fp : List Addr), PG (X.blk s H scope (compEnvC scope cl C X.env) fp) tg1 (tG z is1 ga1)) (ht1 : ∀ (s : Shared) (H : Hp) (C : Addr) (cl : List (Str × Addr)) (fp : List Addr), PTs (X.blk s H scope (compEnvC scope cl C X.env) fp) ifs1 (tT z E0 c1))
    (he : ∀ (s : Shared) (H : Hp) (C : Addr) (cl : List (Str × Addr)) (fp : List Addr), PE (X.blk s H scope (compEnvC scope cl C X.env) fp) elt (tE z E0 f))
    (hy : X.N[i]? = some y := by rfl) (hyl : X.env.scope.names.lookup y = some .local := by rfl)
    (hsw : swapsWith (.ListComp elt [⟨tg, iter, ifs, 0⟩, ⟨tg1, iter1, ifs1, 0⟩] scope pos) (some (.Name y py)) spos.line X.env = pure true := by exact sw_true rfl rfl rfl (by decide +kernel))
    (his : ∀ i ∈ is, i ∈ own.map (·.2) := by decide) (his1 : ∀ i ∈ is1, i ∈ vs1 := by decide) (hvv : ∀ i ∈ vs1, i ∈ own.map (·.2) := by decide) (hs : ∀ x, foldedSetIterable iter X.env x = pure x := by intro _; rfl) (hs1 : ∀ env x, foldedSetIterable iter1 env x = pure x := by intro _ _; rfl) :
    PS X (.Assign [.Name y py] (.ListComp elt [⟨tg, iter, ifs, 0⟩, ⟨tg1, iter1, ifs1, 0⟩] scope pos) spos) (tS z E (sSet i (fLc2 fi ga c fi1 ga1 c1 f (own.map (·.2)) vs1))) :=
  ps_mono (L2.ps_setLc2 o.calm o.nd hy hyl hsw hi ok hvv hg ht hi1 hg1 ht1 he hs hs1) fun D σ H h => te_lc2 his his1 hvv (ts_set h)
end
end TN
namespace TN
open PySem PySem.Spec PyProof.Rows L2
/-! ### n.bit_length() -/
def fBits (f : F) : F := fun env => (f env).bind fun p => match p.1 with
  | .d (.int i) => .ok (.d (.int (Builtin.Int.intBits i : Nat)), p.2)
  | _ => .no
section
variable {X : Cx} {z : Z} {E : XK} {o : Expr} {f : F} {apos pos : Pos}
theorem we_bits (ho : PE X o (tE z E f)) (hbase : attributeBase o "bit_length" X.env (eval o X.env) = eval o X.env := by rfl) (hline : (apos.endLine == pos.line) = true := by rfl) : PE X (.Call (.Attribute o "bit_length" apos) [] [] pos) (tE z E (fBits f)) :=
  pe_mono (pe_bits ho hbase hline) fun σ H Q ⟨T, G, env, r, h⟩ => by
    refine ⟨T, G, env, r, (Pg.bind h).imp fun p hp v H1 G1 r1 e1 w1 => ?_⟩
    obtain ⟨p1, p2⟩ := p
    dsimp only at hp
    split at hp
    · rename_i i
      have w1 : Is z.K z.cl G1 v (.int i) := w1
      cases w1
      exact ⟨i, rfl, hp (.int _) H1 G1 r1 e1 (.int _)⟩
    · exact hp.elim
end
end TN
namespace TN
open PySem PySem.Spec PyProof.Rows L2
open AutoSeq1 (wpAny_loadPart')
/-! ### enumerate(tuple) -/
theorem new_enumT (t : Addr) (items : Array Value) (n : Nat) (dct : Option Addr) (sl : Array (Option Value)) :
    Meets (Builtin.«enumerate.__new__» ⟨[.type "enumerate", .ref t], []⟩) (fun _ R s => s.heap.get? t = some { cls := .type "tuple", dict := dct, data := .seq items n, slots := sl } ∧
      R (.ok (.ret (.ref (s.heap.push { cls := .type "tuple_iterator", data := .fields #[.ref t, .int 0 0] }).objs.size)))
        { s with heap := (s.heap.push { cls := .type "tuple_iterator", data := .fields #[.ref t, .int 0 0] }).push { cls := .type "enumerate", data := .fields #[.none, .bool false, .ref s.heap.objs.size, rawInt 0, .none, .none] } }) :=
  .of_wp fun prog w A R s h => by
    obtain ⟨hp, g, d, tk, os⟩ := s; obtain ⟨hl, h⟩ := h
    have hsub := sub_enumerate
    have hT : Heap.IsTuple (Shared.heap ⟨hp, g, d, tk, os⟩) t items := ⟨_, hl, rfl, n, rfl⟩
    wp_walk using wpAny_loadPart' hl
    refine wpAny_stack_any fun st => wpAny_pure ?_
    split
    · rename_i c _ _ _ _ _
      cases (c == Value.type "enumerate") <;> (wp_walk using wpAny_loadPart' hl, wpAny_pyIter_tuple hT; exact ⟨_, rfl, h⟩)
    · wp_walk using wpAny_loadPart' hl, wpAny_pyIter_tuple hT
      exact ⟨_, rfl, h⟩
section
variable {prog : Program} {w : World} {A : Around} {E : Value → Shared → Prop} {s : Shared}
theorem call_enumT {l : Addr} {items : Array Value} {Q : Value → Shared → Prop} (hL : s.heap.IsTuple l items)
    (h : ∀ h', IsEnum h' (s.heap.objs.size + 1) s.heap.objs.size 0 .none → h'.IsTupleIter s.heap.objs.size l 0 → h'.objs.size = s.heap.objs.size + 2 →
      (∀ b o, s.heap.get? b = some o → h'.get? b = some o) → Q (.ref (s.heap.objs.size + 1)) { s with heap := h' }) :
    wpAny (model prog w) A (call (.type "enumerate") [.ref l]) Q E s := by
  obtain ⟨⟨c, dct, dt, sl⟩, hl, hc, n, hd⟩ := hL
  replace hc : c = .type "tuple" := hc
  replace hd : dt = .seq items n := hd
  subst hc hd
  refine callType_new F.called_enumerate (by decide) (F.typeCall_enumerate_1 _) (F.newCall_enumerate_1 _) (fun obj => F.args_object_init_2 obj _) F.entry_enumerate_new
    (new_enumT l items n dct sl) ⟨hl, ?_⟩
  have hz : (s.heap.push { cls := .type "tuple_iterator", data := .fields #[.ref l, .int 0 0] }).objs.size = s.heap.objs.size + 1 := Heap.size_push ..
  show _ ∧ _
  rw [hz]
  have he : IsEnum ((s.heap.push { cls := .type "tuple_iterator", data := .fields #[.ref l, .int 0 0] }).push
      { cls := .type "enumerate", data := .fields #[.none, .bool false, .ref s.heap.objs.size, rawInt 0, .none, .none] }) (s.heap.objs.size + 1) s.heap.objs.size 0 .none := by
    have q := Heap.get?_push_size (s.heap.push { cls := .type "tuple_iterator", data := .fields #[.ref l, .int 0 0] })
      (o := { cls := .type "enumerate", data := .fields #[.none, .bool false, .ref s.heap.objs.size, rawInt 0, .none, .none] }) rfl
    rw [hz] at q; exact q
  exact ⟨⟨_, he, rfl⟩, h _ he ⟨_, Heap.get?_push_of_some _ (Heap.get?_push_size _ rfl), rfl, rfl⟩ (by rw [Heap.size_push, hz]) fun b o x => Heap.get?_push_of_some _ (Heap.get?_push_of_some _ x)⟩
theorem next_enumT_end {e it l : Addr} {i : Nat} {c : Int} {items : Array Value} {old : Value} {Q : Option Value → Shared → Prop} (hh : A.handled = none) (he : IsEnum s.heap e it c old) (hit : s.heap.IsTupleIter it l i) (hl : s.heap.IsTuple l items) (hx : items[i]? = none)
    (hQ : ∀ h', Heap.ExtBut it s.heap h' → Q none { s with heap := h' }) : wpAny (model prog w) A (pyNext (.ref e)) Q E s := by
  have hT : s.TypeIs (.ref e) "enumerate" := ⟨_, he, rfl⟩
  unfold pyNext
  refine wpAny_bind (wpAny_attempt (wpAny_callSpecial?_slot (name := Str.ofString "__next__") hT F.slot_enumerate_next
    (wpAny_call_entry F.slot_enumerate_next hT F.entry_enumerate_next ?_ (F.args_enumerate_next_1 _))))
  show wpAny _ _ (field (.ref e) 2 >>= _) _ _ _
  refine wpAny_bind (wpAny_field he rfl (x := .ref it) rfl ?_)
  refine wpAny_bind (wpAny_nextOf_tuple_end hh hit hl hx fun h' x q qx => ?_)
  obtain ⟨o, ho, hc⟩ := qx
  refine wpAny_bind (wpAny_isInstance (T := "StopIteration") (b := true) ⟨o, ho, hc⟩ isSubtype_stop ?_)
  exact wpAny_pure (hQ _ q)
end
def IteT (K : PySem.W.Frag) (a : Addr) : It :=
  ⟨fun i H => ∃ (xs : List V) (x : V), SqT K H a xs ∧ xs[i]? = some x, fun i H v H' => ∃ T x, v = .ref T ∧ H T = none ∧ H' = upd H T (.tup [.int (i : Nat), x]) ∧ ∀ xs, SqT K H a xs → xs[i]? = some x, fun i H => ∃ xs : List V, SqT K H a xs ∧ xs.length ≤ i⟩
theorem turn_enumT {P : Program} {w : World} {K : PySem.W.Frag} {elts : List Expr} {kk : Nat} {tpos : Pos} (a e it : Addr) :
    Turn P w K (.Tuple elts kk tpos) (IteT K a) [e, it] e (fun i h => (∃ old, IsEnum h e it ((i : Nat) : Int) old) ∧ h.IsTupleIter it a i ∧ e ≠ it) where
  mem := by simp
  obj := fun i h st b hb => by
    obtain ⟨⟨old, he⟩, ⟨o, ho, hc, hd⟩, _⟩ := st
    have e' : b = e ∨ b = it := by simpa using hb
    rcases e' with z | z
    · rw [z]; exact ⟨_, he, fun v q => nomatch q⟩
    · rw [z]; exact ⟨o, ho, fun v q => by rw [hd] at q; cases q⟩
  keep := fun i h h' st k => let ⟨⟨old, he⟩, hi, hne⟩ := st; ⟨⟨old, k e (by simp) _ he⟩, hi.at fun o q => k it (by simp) o q, hne⟩
  item := by
    intro X hP hw hK hc i pins s σ H E I hf st hg
    subst hP hw hK
    obtain ⟨⟨old, he⟩, hit, hne⟩ := st
    obtain ⟨xs, x, hq, hx⟩ := hg
    obtain ⟨its, rv, p, hz⟩ := I.tuple hq
    obtain ⟨u, hu, ru⟩ := rv.get hx
    have hel : e < s.heap.objs.size := Heap.lt_size he
    have hil : it < s.heap.objs.size := by obtain ⟨_, q, _⟩ := hit; exact Heap.lt_size q
    have nai : a ≠ it := fun q => by
      obtain ⟨o, ho, c, _⟩ := hit
      obtain ⟨o', ho', c', _⟩ := p
      rw [q, ho] at ho'
      cases ho'
      rw [c] at c'
      exact absurd (Value.type.inj c') (by decide)
    have nea : e ≠ a := fun q => by
      obtain ⟨o', ho', c', _⟩ := p
      have he' := he
      unfold IsEnum at he'
      rw [← q, he'] at ho'
      cases ho'
      exact absurd (Value.type.inj c') (by decide)
    refine wpAny_pyNext_enum_itemD (Draws.tuple (A := X.A.in1) (I.ok.hd hc) it a nai its.toArray) he ⟨hit, p⟩ (by rw [List.size_toArray]; exact getElem?_lt hu) hne (by simp [hne, nea]) fun v h' tk hv ho st' hT hsz hk => ?_
    have ev : v = u := by
      have hv : its.toArray[i]? = some v := hv
      rw [show its.toArray[i]? = some u by simpa using hu] at hv
      exact (Option.some.inj hv).symm
    subst ev
    refine ⟨_, rfl, wpAny_letOwnedTupleGo_enum (s := { s with heap := h', toks := tk + 1 }) ho fun h'' he' sb => ?_⟩
    have hT2 : h''.get? s.heap.objs.size = some { cls := .type "tuple", data := .seq #[.int i tk, v] } := (sb.2 _ (Nat.ne_of_gt hel)).trans hT
    have new : ObjOk X.prog X.w (upd H s.heap.objs.size (.tup [.int (i : Nat), x])) h'' s.heap.objs.size (.tup [.int (i : Nat), x]) :=
      ⟨by show 2 ≤ sizeLine; decide, [.int i tk, v], .cons ⟨_, rfl⟩ (.cons ru .nil), ⟨_, hT2, rfl, _, rfl⟩⟩
    have I1 : Inv X pins σ (upd H s.heap.objs.size (.tup [.int (i : Nat), x])) { s with heap := h'', toks := tk + 1 } :=
      I.turnedNew (ch := [e, it]) (fun b ob hb q => (sb.2 b (fun z => hb (by simp [z]))).trans (hk b ob (fun z => hb (by simp [z])) (fun z => hb (by simp [z])) q)) hf (Nat.le_refl _) new
    refine ⟨.ref s.heap.objs.size, _, I1, rfl, ⟨_, x, rfl, I.hok.fresh (Nat.le_refl _), rfl, fun ys hy => by rw [I.tuple_inj hy hq]; exact hx⟩, ⟨⟨v, ?_⟩, st'.1.at fun o q => (sb.2 it (Ne.symm hne)).trans q, hne⟩, fun b hb => ?_⟩
    · have e1 : ((i + 1 : Nat) : Int) = (i : Int) + 1 := by omega
      rw [e1]; exact he'
    · have hb' : b < s.heap.objs.size := by
        have e' : b = e ∨ b = it := by simpa using hb
        rcases e' with z | z
        · rw [z]; exact hel
        · rw [z]; exact hil
      rw [upd_ne (Nat.ne_of_lt hb')]
      exact (hf b hb).1
  done := by
    intro X hP hw hK hc i pins s σ H E I hf st hg
    subst hP hw hK
    obtain ⟨⟨old, he⟩, hit, hne⟩ := st
    obtain ⟨xs, hq, hx⟩ := hg
    obtain ⟨its, rv, p, hz⟩ := I.tuple hq
    obtain ⟨f0, f1, f2, f3, f4, f5⟩ := hf it (by simp)
    have hl := rv.length
    exact next_enumT_end (I.ok.hd hc) he hit p (by simp; omega) fun h' eb => ⟨rfl, I.turned (t' := s.toks) (fun b o hb q => eb b o hb q) f0 f1 f3 f4 f5⟩
  self := fun A i s Q E st h => let ⟨⟨_, he⟩, _⟩ := st; wpAny_pyIter_enum he h
def iEnumT (K : PySem.W.Frag) (ta : TA) : TI := fun σ H R => ta σ H fun vs H1 => ∃ a, vs = [.ref a] ∧ ((∃ xs, SqL K H1 a xs) ∧ R (Ite K a) H1 ∨ (∃ xs, SqT K H1 a xs) ∧ R (IteT K a) H1)
theorem pi_enumT {X : Cx} {e : Expr} {ta : TA} {p pos tpos : Pos} {elts : List Expr} {kk : Nat} (hg : Gl X "enumerate") (hm : X.mg "enumerate" = none) (ha : PA X [e] ta) (hs : starEach [e] X.env = [(false, eval e X.env)] := by rfl) :
    PI X (.Tuple elts kk tpos) (.Call (.Name "enumerate" p) [e] [] pos) (iEnumT X.K ta) := by
  refine ⟨fun pins s σ H R I h => ?_⟩
  refine Call_ (ld_blt I hg hm boot_enumerate (PyProof.Rows.callWith_type1 (thn (ha.run pos pins s σ H _ I h) fun us s1 ⟨vs, H1, I1, r1, q1⟩ => ?_) hs rfl))
  obtain ⟨a, ex, q⟩ := q1
  subst ex
  cases r1 with
  | cons r rr =>
    cases rr
    cases r
    have fp : ∀ b ∈ [s1.heap.objs.size + 1, s1.heap.objs.size], s1.heap.objs.size ≤ b := fun b hb => by
      have e' : b = s1.heap.objs.size + 1 ∨ b = s1.heap.objs.size := by simpa using hb
      rcases e' with z | z
      · rw [z]; exact Nat.le_add_right _ _
      · rw [z]; exact Nat.le_refl _
    rcases q with ⟨⟨xs, hq⟩, q⟩ | ⟨⟨xs, hq⟩, q⟩
    · obtain ⟨its, rv, p', hz⟩ := I1.list hq
      refine call_enumerate_list p'.isList fun h' he hit hsz hk => wpAny_pyIter_enum he ?_
      have I2 : Inv X pins σ H1 { s1 with heap := h' } := I1.kept (t' := s1.toks) hk
      exact ⟨s1.heap.objs.size + 1, [s1.heap.objs.size + 1, s1.heap.objs.size], _, _, H1, rfl, I2, turn_enum a (s1.heap.objs.size + 1) s1.heap.objs.size, ⟨⟨.none, he⟩, hit, Nat.succ_ne_self _⟩, fun b hb => I1.fpOk (fp b hb) (I1.hok.fresh (fp b hb)), q⟩
    · obtain ⟨its, rv, p', hz⟩ := I1.tuple hq
      refine call_enumT p' fun h' he hit hsz hk => wpAny_pyIter_enum he ?_
      have I2 : Inv X pins σ H1 { s1 with heap := h' } := I1.kept (t' := s1.toks) hk
      exact ⟨s1.heap.objs.size + 1, [s1.heap.objs.size + 1, s1.heap.objs.size], _, _, H1, rfl, I2, turn_enumT a (s1.heap.objs.size + 1) s1.heap.objs.size, ⟨⟨.none, he⟩, hit, Nat.succ_ne_self _⟩, fun b hb => I1.fpOk (fp b hb) (I1.hok.fresh (fp b hb)), q⟩
def fEnumA (g : FA) : FI := fun env => (g env).bind fun p => match fixAll p.2 p.1 with
  | some ([.lst ds], e) => .ok (enumD 0 ds, e)
  | some ([.tup ds], e) => .ok (enumD 0 ds, e)
  | _ => .no
section
variable {X : Cx} {z : Z} {E : XK} {n : Nat} {p pos tpos : Pos} {e : Expr} {elts : List Expr} {kk : Nat} {g : FA} {G : Hp} {a : Addr} {vs : List V} {ds : List D}
theorem walkOk_eT (hl : SqT z.K G a vs) (h : IsA z.K z.cl G vs ds) : WalkOk z (IteT z.K a) G (enumD 0 ds) := fun i H e => by
  refine ⟨fun d hd => ?_, fun hi => ?_⟩
  · obtain ⟨d1, h1, rfl⟩ := enumD_get hd
    obtain ⟨v, hv, wv⟩ := h.get h1
    refine ⟨⟨vs, v, ex_t e hl, hv⟩, fun x H' y => ?_⟩
    obtain ⟨T, x1, rfl, hT, rfl, q1⟩ := y
    have q1 := q1 vs (ex_t e hl)
    rw [hv] at q1
    cases q1
    refine .inr ⟨T, _, hT, rfl, ?_⟩
    rw [Nat.zero_add]
    exact isPair (.int _) wv (e.nn hT)
  · refine ⟨vs, ex_t e hl, ?_⟩
    rw [h.length]
    rw [enumD_length] at hi
    exact hi
theorem wi_enumA (hK : X.K = z.K) (hm : X.mg "enumerate" = none) (ha : WA X z E [e] g n) (hg : Gl X "enumerate" := by rfl) (hs : starEach [e] X.env = [(false, eval e X.env)] := by rfl) : PI X (.Tuple elts kk tpos) (.Call (.Name "enumerate" p) [e] [] pos) (tI z E (fEnumA g)) :=
  pi_mono (pi_enumT hg hm ha.pa hs) fun σ H R ⟨T, G, env, r, h⟩ => by
    rw [hK]
    refine ⟨T, G, env, r, (Pg.bind h).imp fun p hp vs H1 G1 r1 e1 w1 => ?_⟩
    split at hp
    · rename_i ds en ed
      obtain ⟨G2, r2, x2, w⟩ := w1.fix r1 ed
      cases w with
      | cons wa w =>
        cases w
        cases wa with
        | lst ha a => exact ⟨_, rfl, .inl ⟨⟨_, SqL.of (r2.f.exG _ _ ha)⟩, hp _ H1 G2 r2 (e1.trans x2) (walkOk_e (SqL.of ha) a)⟩⟩
    · rename_i ds en ed
      obtain ⟨G2, r2, x2, w⟩ := w1.fix r1 ed
      cases w with
      | cons wa w =>
        cases w
        cases wa with
        | tup ha a => exact ⟨_, rfl, .inr ⟨⟨_, ex_t r2.f.exG ha.sq⟩, hp _ H1 G2 r2 (e1.trans x2) (walkOk_eT ha.sq a)⟩⟩
    · exact hp.elim
end
end TN
namespace TN
open PySem PySem.Spec PyProof.Rows L2
/-! ### the law's own promise, without words of classes -/
def spTop (K : PySem.W.Frag) : Sp := fun vs H Q _ => ∃ (a : Addr) (ns : List Int), vs = [.ref a] ∧ SqL K H a (ns.map V.int) ∧ ns.length ≤ 63 ∧ ∀ H', Q (.bl true) H'
theorem top_of {K : PySem.W.Frag} {z : Z} {φ : Fn} {vs : List V} {H : Hp} {Q : VK} {E : XK} (hK : z.K = K) (mt : ∀ ns : List Int, ns.length ≤ 63 → φ [.scr ns] = .ok (.d (.bl true), [])) (h : spTop K vs H Q E) : spF z false 1 φ vs H Q E := by
  obtain ⟨a, ns, rfl, hs, hl, q⟩ := h
  subst hK
  refine ⟨H, [.scr ns], none, .pure (.cons (.scr hs) .nil), Ex.refl H, rfl, ?_⟩
  rw [mt ns hl]
  intro v H' G' _ r _
  cases r
  exact q H'
end TN
namespace TN
open PySem PySem.Spec PyProof.Rows L2
/-! ### isinstance with one own class: from the class's own facts -/
theorem mro_cls {K : PySem.W.Frag} {C : Addr} {t : String} {m : List Value} (e : fastBuiltinMro t = some m) (h : m.contains (.ref C) = false) : PySem.W.subIn K (.type t) (.ref C) = some false := by
  show (fastBuiltinMro t).map (·.contains (.ref C)) = some false
  rw [e]
  exact congrArg some h
theorem sub_types {K : PySem.W.Frag} {C : Addr} : ∀ t ∈ ["NoneType", "bool", "int", "str", "tuple", "list", "dict"], PySem.W.subIn K (.type t) (.ref C) = some false := by
  intro t h
  simp only [List.mem_cons, List.not_mem_nil, or_false] at h
  rcases h with rfl | rfl | rfl | rfl | rfl | rfl | rfl
  · exact mro_cls (m := [.type "NoneType", .type "object"]) (by decide +kernel) rfl
  · exact mro_cls (m := [.type "bool", .type "int", .type "object"]) (by decide +kernel) rfl
  · exact mro_cls (m := [.type "int", .type "object"]) (by decide +kernel) rfl
  · exact mro_cls (m := [.type "str", .type "object"]) (by decide +kernel) rfl
  · exact mro_cls (m := [.type "tuple", .type "object"]) (by decide +kernel) rfl
  · exact mro_cls (m := [.type "list", .type "object"]) (by decide +kernel) rfl
  · exact mro_cls (m := [.type "dict", .type "object"]) (by decide +kernel) rfl
theorem kitMeta_all : ∀ T ∈ ["int", "bool", "str", "tuple", "list", "dict"], PySem.W.kitMeta T = true := by decide +kernel
theorem kit_x {K : PySem.W.Frag} {C : Addr} {T : String} (hT : T ∈ ["int", "bool", "str", "tuple", "list", "dict"]) (h : PySem.W.subIn K (.ref C) (.type T) = some false) : PySem.W.kitOne K (.ref C) (.type T) = some false := by
  unfold PySem.W.kitOne
  rw [if_neg (by simp)]
  unfold PySem.W.kitCls
  simp only
  rw [if_pos (kitMeta_all T hT)]
  exact h
theorem kit_y {K : PySem.W.Frag} {C : Addr} {t : String} (ht : t ∈ ["NoneType", "bool", "int", "str", "tuple", "list", "dict"]) (h1 : PySem.W.isClsIn K C = true) (h2 : PySem.W.typeIn K (.ref C) = some (.type "type")) : PySem.W.kitOne K (.type t) (.ref C) = some false := by
  unfold PySem.W.kitOne
  rw [if_neg (by simp)]
  unfold PySem.W.kitCls
  simp only
  rw [if_pos (by rw [h2]; simp; exact h1)]
  exact sub_types t ht
end TN
namespace TN
open PySem PySem.Spec PyProof.Rows L2
/-! ### sorted and min of tuples of whole numbers -/
def pyT (k : List Int) : PyData := .tuple (k.map PyData.int)
theorem lex_dec : ∀ a b : List Int, HT.lexLt a b = decide (a < b)
  | [], [] => rfl
  | [], y :: b => by rw [HT.lexLt_nil_cons]; simp
  | x :: a, [] => by rw [HT.lexLt_cons_nil]; simp
  | x :: a, y :: b => by
    rw [HT.lexLt_cons, lex_dec a b]
    by_cases h : x = y
    · subst h
      rw [if_pos rfl]
      simp
    · rw [if_neg h]
      simp [List.cons_lt_cons_iff, h]
theorem dataLt_pyT (a b : List Int) : PySem.W.dataLt (pyT a) (pyT b) = HT.lexLt a b := by
  rw [lex_dec]
  exact PySem.W.dataLt_ints a b
theorem alike_pyT (a b : List Int) : PySem.W.alike (pyT a) (pyT b) = true := by
  unfold pyT
  simp only [PySem.W.alike]
  exact PySem.W.alike_ints a b
theorem depth_pyT (a : List Int) : (pyT a).depth = 1 := by
  unfold pyT
  simp only [PyData.depth, PySem.W.depth_ints]
theorem lexLt_irr : ∀ a : List Int, HT.lexLt a a = false
  | [] => rfl
  | x :: a => by rw [HT.lexLt_cons, if_pos rfl, lexLt_irr a]
theorem lexLt_tri : ∀ {a b : List Int}, HT.lexLt a b = false → HT.lexLt b a = false → a = b
  | [], [], _, _ => rfl
  | [], y :: b, h, _ => by rw [HT.lexLt_nil_cons] at h; cases h
  | x :: a, [], _, h => by rw [HT.lexLt_nil_cons] at h; cases h
  | x :: a, y :: b, h1, h2 => by
    rw [HT.lexLt_cons] at h1 h2
    by_cases h : x = y
    · subst h
      rw [if_pos rfl] at h1 h2
      rw [lexLt_tri h1 h2]
    · rw [if_neg h] at h1
      rw [if_neg (Ne.symm h)] at h2
      simp only [decide_eq_false_iff_not] at h1 h2
      omega
theorem lexLt_trans : ∀ {a b c : List Int}, HT.lexLt a b = true → HT.lexLt b c = true → HT.lexLt a c = true
  | [], [], _, h, _ => by cases h
  | [], y :: b, [], _, h => by cases h
  | [], y :: b, z :: c, _, _ => rfl
  | x :: a, [], _, h, _ => by cases h
  | x :: a, y :: b, [], _, h => by cases h
  | x :: a, y :: b, z :: c, h1, h2 => by
    rw [HT.lexLt_cons] at h1 h2 ⊢
    by_cases h : x = y
    · subst h
      rw [if_pos rfl] at h1
      by_cases h' : x = z
      · subst h'
        rw [if_pos rfl] at h2 ⊢
        exact lexLt_trans h1 h2
      · rw [if_neg h'] at h2 ⊢
        exact h2
    · rw [if_neg h] at h1
      simp only [decide_eq_true_eq] at h1
      by_cases h' : y = z
      · subst h'
        rw [if_neg h]
        simpa using h1
      · rw [if_neg h'] at h2
        simp only [decide_eq_true_eq] at h2
        rw [if_neg (by omega)]
        simp only [decide_eq_true_eq]
        omega
/-- a ≤ b -/
def leL (a b : List Int) : Bool := !HT.lexLt b a
theorem leL_total (a b : List Int) : leL a b = true ∨ leL b a = true := by
  unfold leL
  cases h : HT.lexLt b a with
  | false => exact .inl rfl
  | true =>
    refine .inr ?_
    cases h2 : HT.lexLt a b with
    | false => rfl
    | true => have := lexLt_trans h h2; rw [lexLt_irr] at this; cases this
theorem leL_anti {a b : List Int} (h1 : leL a b = true) (h2 : leL b a = true) : a = b := by
  unfold leL at h1 h2
  simp only [Bool.not_eq_true'] at h1 h2
  exact lexLt_tri h2 h1
theorem leL_trans {a b c : List Int} (h1 : leL a b = true) (h2 : leL b c = true) : leL a c = true := by
  rcases leL_total a c with h | h
  · exact h
  · by_cases e : a = c
    · subst e; exact h
    · unfold leL at h1 h2 h ⊢
      simp only [Bool.not_eq_true'] at h1 h2 h ⊢
      cases q : HT.lexLt c a with
      | false => rfl
      | true =>
        rcases (show HT.lexLt c b = true ∨ HT.lexLt b c = true ∨ b = c by
          cases h3 : HT.lexLt c b with
          | true => exact .inl rfl
          | false => cases h4 : HT.lexLt b c with
            | true => exact .inr (.inl rfl)
            | false => exact .inr (.inr (lexLt_tri h4 h3))) with w | w | w
        · rw [w] at h2; cases h2
        · have := lexLt_trans w q; rw [h1] at this; cases this
        · subst w; rw [h1] at q; cases q
def insL (x : List Int) : List (List Int) → List (List Int)
  | [] => [x]
  | y :: l => if leL x y = true then x :: y :: l else y :: insL x l
def sortL : List (List Int) → List (List Int)
  | [] => []
  | x :: l => insL x (sortL l)
theorem insL_perm (x : List Int) : ∀ l, (insL x l).Perm (x :: l)
  | [] => .refl _
  | y :: l => by
    unfold insL
    split
    · exact .refl _
    · exact ((insL_perm x l).cons y).trans (List.Perm.swap ..)
theorem sortL_perm : ∀ l, (sortL l).Perm l
  | [] => .refl _
  | x :: l => (insL_perm x _).trans ((sortL_perm l).cons x)
theorem insL_sorted (x : List Int) : ∀ {l : List (List Int)}, l.Pairwise (fun a b => leL a b = true) → (insL x l).Pairwise (fun a b => leL a b = true)
  | [], _ => by simp [insL]
  | y :: l, h => by
    unfold insL
    rw [List.pairwise_cons] at h
    split
    · rename_i q
      refine List.pairwise_cons.mpr ⟨fun z m => ?_, List.pairwise_cons.mpr h⟩
      rcases List.mem_cons.mp m with rfl | m
      · exact q
      · exact leL_trans q (h.1 z m)
    · rename_i q
      refine List.pairwise_cons.mpr ⟨fun z m => ?_, insL_sorted x h.2⟩
      rcases List.mem_cons.mp ((insL_perm x l).mem_iff.mp m) with rfl | m
      · exact (leL_total y z).resolve_right q
      · exact h.1 z m
theorem sortL_sorted : ∀ l, (sortL l).Pairwise (fun a b => leL a b = true)
  | [] => .nil
  | x :: l => insL_sorted x (sortL_sorted l)
theorem sortedL_unique : ∀ {a b : List (List Int)}, a.Perm b → a.Pairwise (fun a b => leL a b = true) → b.Pairwise (fun a b => leL a b = true) → a = b
  | [], b, p, _, _ => by rw [List.nil_perm.mp p]
  | x :: a, [], p, _, _ => by have := p.length_eq; simp at this
  | x :: a, y :: b, p, ha, hb => by
    rw [List.pairwise_cons] at ha hb
    have e : x = y := by
      have m1 : x ∈ y :: b := p.mem_iff.mp List.mem_cons_self
      have m2 : y ∈ x :: a := p.mem_iff.mpr List.mem_cons_self
      rcases List.mem_cons.mp m1 with q | q
      · exact q
      · rcases List.mem_cons.mp m2 with w | w
        · exact w.symm
        · exact leL_anti (ha.1 y w) (hb.1 x q)
    subst e
    rw [sortedL_unique (List.Perm.cons_inv p) ha.2 hb.2]
/-- lists of tuples of whole numbers -/
def toTups : List D → Option (List (List Int))
  | [] => some []
  | .tup xs :: ds => match toInts xs with
    | some k => match toTups ds with
      | some ks => some (k :: ks)
      | none => none
    | none => none
  | _ :: _ => none
def tD (k : List Int) : D := .tup (k.map D.int)
theorem toTups_eq : ∀ {ds : List D} {ks : List (List Int)}, toTups ds = some ks → ds = ks.map tD
  | [], _, h => by cases h; rfl
  | .tup xs :: ds, ks, h => by
    unfold toTups at h
    split at h
    · rename_i k q
      split at h
      · rename_i ks' q2
        cases h
        rw [toTups_eq q2, List.map_cons]
        unfold tD
        rw [toInts_eq q]
      · cases h
    · cases h
  | .non :: _, _, h | .bl _ :: _, _, h | .int _ :: _, _, h | .str _ :: _, _, h | .wtup _ :: _, _, h | .lst _ :: _, _, h | .scr _ :: _, _, h | .dct :: _, _, h | .obj _ _ :: _, _, h | .ty _ :: _, _, h | .cls _ :: _, _, h => by cases h
theorem toTups_map : ∀ ks : List (List Int), toTups (ks.map tD) = some ks
  | [] => rfl
  | k :: ks => by
    show (match toInts (k.map D.int) with
    | some k => match toTups (ks.map tD) with
      | some ks => some (k :: ks)
      | none => none
    | none => none) = _
    rw [toInts_map, toTups_map ks]
def minL (x : List Int) (xs : List (List Int)) : List Int := xs.foldl (fun a y => if HT.lexLt y a = true then y else a) x
theorem minL_mem : ∀ (xs : List (List Int)) (x : List Int), minL x xs ∈ x :: xs
  | [], x => List.mem_cons_self
  | y :: xs, x => by
    show minL (if HT.lexLt y x = true then y else x) xs ∈ _
    have := minL_mem xs (if HT.lexLt y x = true then y else x)
    rcases List.mem_cons.mp this with e | m
    · rw [e]
      split
      · exact List.mem_cons_of_mem _ List.mem_cons_self
      · exact List.mem_cons_self
    · exact List.mem_cons_of_mem _ (List.mem_cons_of_mem _ m)
theorem minL_le : ∀ (xs : List (List Int)) (x : List Int), ∀ y ∈ x :: xs, leL (minL x xs) y = true
  | [], x, y, m => by
    rw [List.mem_singleton.mp m]
    exact (leL_total x x).elim id id
  | z :: xs, x, y, m => by
    show leL (minL (if HT.lexLt z x = true then z else x) xs) y = true
    have ih := minL_le xs (if HT.lexLt z x = true then z else x)
    have h0 := ih _ List.mem_cons_self
    rcases List.mem_cons.mp m with rfl | m
    · refine leL_trans h0 ?_
      split
      · rename_i q
        unfold leL
        cases w : HT.lexLt y z with
        | false => rfl
        | true => have := lexLt_trans q w; rw [lexLt_irr] at this; cases this
      · exact (leL_total y y).elim id id
    · rcases List.mem_cons.mp m with rfl | m
      · refine leL_trans h0 ?_
        split
        · exact (leL_total y y).elim id id
        · rename_i q
          unfold leL
          simpa using q
      · exact ih y (List.mem_cons_of_mem _ m)
theorem minD_pyT (x : List Int) : ∀ xs : List (List Int), PySem.W.minD (pyT x) (xs.map pyT) = pyT (minL x xs) := fun xs => by
  unfold PySem.W.minD minL
  induction xs generalizing x with
  | nil => rfl
  | cons y ys ih =>
    rw [List.map_cons, List.foldl_cons, List.foldl_cons, ← ih]
    rw [dataLt_pyT y x]
    cases HT.lexLt y x <;> rfl
section
variable {X : Cx} {z : Z} {E : XK} {k : Nat}
def rSortedL (K : PySem.W.Frag) : List V → Hp → VK → Prop := fun vs H Q => ∃ (a : Addr) (xs : List V) (ks : List (List Int)), vs = [V.ref a] ∧ SqL K H a xs ∧ DpAll K H xs (ks.map pyT) ∧ (∀ k ∈ ks, k ≠ []) ∧
  ∀ (zs : List (V × List Int)) (p : Addr), zs.Perm (xs.zip ks) → zs.Pairwise (fun p q => leL p.2 q.2 = true) → H p = none → Q (.ref p) (upd H p (.lst (zs.map (·.1))))
theorem each_of_vals : ∀ {xs : List V} {us : List Value} {ks : List (List Int)}, Vals xs us → xs.length = ks.length → PySem.W.EachIs (fun u (b : V × List Int) => RelV b.1 u) us (xs.zip ks)
  | [], [], [], .nil, _ => .nil
  | x :: xs, u :: us, k :: ks, .cons r t, h => .cons r (each_of_vals t (by simpa using h))
theorem vals_of_each : ∀ {us : List Value} {zs : List (V × List Int)}, PySem.W.EachIs (fun u (b : V × List Int) => RelV b.1 u) us zs → Vals (zs.map (·.1)) us
  | [], [], .nil => .nil
  | u :: us, b :: zs, .cons r t => .cons r (vals_of_each t)
theorem each_reads {h : Heap} : ∀ {us : List Value} {xs : List V} {ks : List (List Int)} {as : List Addr}, ReadsAll h us (ks.map pyT) as → xs.length = ks.length → PySem.W.EachIs (fun u (b : V × List Int) => ∃ as, Reads h u (pyT b.2) as) us (xs.zip ks)
  | [], [], [], _, .nil, _ => .nil
  | u :: us, x :: xs, k :: ks, _, .cons r t, e => .cons ⟨_, r⟩ (each_reads t (by simpa using e))
  | [], x :: xs, [], _, .nil, e => by simp at e
  | _ :: _, [], _ :: _, _, _, e => by simp at e
theorem dpAll_length {K : PySem.W.Frag} {H : Hp} : ∀ {xs : List V} {ds : List PyData}, DpAll K H xs ds → xs.length = ds.length
  | [], [], .nil => rfl
  | _ :: _, _ :: _, .cons _ t => congrArg (· + 1) (dpAll_length t)
theorem cr_sortedL (hr : Room k X.A) : CallR X (.builtin "sorted") (rSortedL X.K) := by
  intro pins s σ H vs us Q I r h
  obtain ⟨a, xs, ks, rfl, hs, hd, hne, q⟩ := h
  obtain ⟨its, rv, hl, hz⟩ := I.list hs
  rw [Vals.ref1 r]
  have hlen : xs.length = ks.length := by rw [dpAll_length hd, List.length_map]
  obtain ⟨as, hra⟩ := Dp.readsAll I (ks.map pyT) xs its hd rv
  have hu := hr.units
  have hbk : (xs.zip ks).map (fun b => pyT b.2) = ks.map pyT := by
    have : (xs.zip ks).map (fun b => pyT b.2) = ((xs.zip ks).map Prod.snd).map pyT := by rw [List.map_map]; rfl
    rw [this, List.map_snd_zip (by omega)]
  refine PySem.W.sorted_data (β := V × List Int) (R := fun u b => RelV b.1 u) (enc := fun b => pyT b.2) hl.isList (each_of_vals rv hlen) (each_reads hra hlen) (PySem.W.AllAlike.of fun b b' => alike_pyT _ _) ?_ (by rw [List.length_zip]; omega) (fun b _ => by rw [depth_pyT]; omega) fun out ho he => ?_
  · refine .inl fun d hd => ?_
    obtain ⟨b, hb, rfl⟩ := List.mem_map.mp hd
    have hb2 := hne b.2 (List.of_mem_zip hb).2
    cases e : b.2 with
    | nil => exact absurd e hb2
    | cons y ys => exact ⟨.int y, ys.map .int, by unfold pyT; simp⟩
  · have le_eq : PySem.W.dataLe false (fun b : V × List Int => pyT b.2) = fun p q => leL p.2 q.2 := by
      rw [PySem.W.dataLe_eq]
      funext p q
      simp only [cond]
      rw [dataLt_pyT]
      rfl
    rw [le_eq] at he
    have hperm := List.mergeSort_perm (xs.zip ks) (fun p q => leL p.2 q.2)
    have hsort := List.pairwise_mergeSort (le := fun (p q : V × List Int) => leL p.2 q.2) (fun a b c => leL_trans) (fun a b => by
      rcases leL_total a.2 b.2 with w | w <;> simp [w]) (xs.zip ks)
    have rv' := vals_of_each he
    obtain ⟨ep, he'⟩ := PyProof.Rows.sortedAll_at s.heap its (List.toArray out)
    have hlo : (((xs.zip ks).mergeSort (fun p q => leL p.2 q.2)).map (·.1)).length ≤ sizeLine := by
      rw [List.length_map, hperm.length_eq, List.length_zip]
      omega
    exact ⟨.ref _, upd H (s.heap.objs.size + 1) (.lst (((xs.zip ks).mergeSort (fun p q => leL p.2 q.2)).map (·.1))), I.laid (t' := s.toks) (fun _ _ => PyProof.Rows.sortedAll_old) (Nat.le_succ _) ⟨hlo, out, ep, rv', he'⟩, rfl, q _ _ hperm hsort (I.hok.fresh (Nat.le_succ _))⟩
end
end TN
namespace TN
open PySem PySem.Spec PyProof.Rows L2
/-! ### min and max of lists, of tuples, of three -/
section
open PySem.W
variable {prog : Program} {w : World} {A : Around} {E : Value → Shared → Prop} {s : Shared}
theorem call_min_threeH {a b c : Value} {Q : Value → Shared → Prop}
    (h : wpAny (model prog w) A.in1 (pyIter (.ref s.heap.objs.size)) (fun it s₂ => ∃ I fp wr G n P St H bt, it = .ref I ∧ WalksS prog w A.in1 I fp wr G n P St ∧ St 0 s₂ ∧ (∀ b ∈ fp, b < s₂.heap.objs.size) ∧ 0 < n ∧
      (∀ b o, H.get? b = some o → b ∉ wr) ∧ (∀ b o, H.get? b = some o → s₂.heap.get? b = some o) ∧ CmpIn prog w A.in1 .Lt H P bt ∧ ∀ v s', P (argBest bt (n - 1)) v → Moved wr G s₂ s' → Q v s') E { s with heap := s.heap.push { cls := .type "tuple", data := .seq #[a, b, c] } }) :
    wpAny (model prog w) A (call (.builtin "min") [a, b, c]) Q E s := by
  have hname : (toString "min" ++ toString ".loop" : String) = "min.loop" := by decide
  refine call_function_tree F.kind_min F.plain_min F.entry_min (F.args_min3 _ _ _) ?_
  show wpAny _ A.in1 (Builtin.Builtins.bindParams "min" ["key", "default"] 0 ⟨[], []⟩ >>= _) _ _ s
  refine wpAny_bind (wpAny_of_eq (show Builtin.Builtins.bindParams "min" ["key", "default"] 0 ⟨[], []⟩ = pure [none, none] from rfl) ?_)
  show wpAny _ A.in1 (newTuple [a, b, c] >>= _) _ _ s
  refine wpAny_bind (wpAny_newObj_type ?_)
  refine wpAny_bind (wpAny_mono h (fun it s₂ h₂ => ?_) fun _ _ e => e)
  obtain ⟨I, fp, wr, G, n, P, St, H, bt, rfl, W, hst, hfp, hn, hw, hkeep, hcmp, hQ⟩ := h₂
  refine wpAny_bind (wpAny_newObj_type ?_)
  have hSf : s₂.heap.objs.size ∉ fp := fun hm => Nat.lt_irrefl _ (hfp _ hm)
  rw [hname]
  refine wpAny_pure ⟨plainId_quiet F.plain_min_loop _, codeAny_min_loop_firstH W H hw bt hcmp s₂.heap.objs.size hSf (fresh_in hkeep) _ hn (fun b o e => Heap.get?_push_of_some _ (hkeep b o e)) (W.frame 0 s₂ _ s₂.toks hst (Nat.le_refl _) fun b _ o e => Heap.get?_push_of_some _ e) (Heap.get?_push_size _ rfl) fun v s' hP hm => ?_⟩
  exact hQ v s' hP (Moved.drop_new (tk := s₂.toks) hm (Nat.le_refl _))
theorem min_three_data {a b c : Value} {x : PyData} {xs : List PyData} {as : List Addr} {Q : Value → Shared → Prop} (hh : A.handled = none) (hr : ReadsAll s.heap [a, b, c] (x :: xs) as) (ha : AlikeAll (x :: xs)) (hu : A.units + 1 + PyData.depthAll (x :: xs) < cLine)
    (h : ∀ (i : Nat) v h' tk bs, [a, b, c][i]? = some v → Reads h' v (minD x xs) bs → (∀ b o, s.heap.get? b = some o → h'.get? b = some o) → Q v { s with heap := h', toks := tk }) :
    wpAny (model prog w) A (call (.builtin "min") [a, b, c]) Q E s := by
  have keep : ∀ b' o, s.heap.get? b' = some o → (s.heap.push { cls := .type "tuple", data := .seq #[a, b, c] }).get? b' = some o := fun b' o e => Heap.get?_push_of_some _ e
  have hT : (s.heap.push { cls := .type "tuple", data := .seq #[a, b, c] }).IsTuple s.heap.objs.size #[a, b, c] := ⟨_, Heap.get?_push_size _ rfl, rfl, 0, rfl⟩
  have hr1 : ReadsAll (s.heap.push { cls := .type "tuple", data := .seq #[a, b, c] }) #[a, b, c].toList (x :: xs) as := PyProof.Rows.ReadsAll.keeps keep hr
  have hn : #[a, b, c].size = xs.length + 1 := readsAll_len hr1
  refine call_min_threeH (iter_tupleW (s := { s with heap := s.heap.push { cls := .type "tuple", data := .seq #[a, b, c] } }) (A := A.in1) hh hT fun s₂ e W st hfp hw hk => ?_)
  refine ⟨_, _, _, _, _, _, _, (s.heap.push { cls := .type "tuple", data := .seq #[a, b, c] }), _, rfl, W, st, hfp, by omega, hw, hk, cmpIn_lt (s := { s with heap := s.heap.push { cls := .type "tuple", data := .seq #[a, b, c] } }) (A := A.in1) hr1 ha (by show A.units + 1 + _ < _; exact hu), fun v s' hP m => ?_⟩
  obtain ⟨h', tk, rfl, hk'⟩ := moved_old e rfl m
  obtain ⟨bs, r, _, _, _⟩ := readsAll_atA hr1 _ v hP
  have e1 : #[a, b, c].size - 1 = xs.length := by omega
  have e2 := (argBest_fold dataLt PyData.none x xs xs.length (Nat.le_refl _)).2
  rw [List.take_length] at e2
  rw [e1] at r
  exact h _ v h' tk bs (by simpa using hP) (reads_keeps hk' (by unfold minD; rw [← e2]; exact r)) fun b' o q => hk' b' o (keep b' o q)
end
section
variable {X : Cx} {z : Z} {E : XK} {k : Nat}
/-- the item that is the best one -/
def BestOf (xs : List V) (ds : List PyData) (d : PyData) (H : Hp) (Q : VK) : Prop := ∀ (i : Nat) x, xs[i]? = some x → ds[i]? = some d → Q x H
theorem reads_each {h : Heap} : ∀ {vs : List Value} {ds : List PyData} {as : List Addr}, ReadsAll h vs ds as → ∀ (i : Nat) v, vs[i]? = some v → ∃ d as, ds[i]? = some d ∧ Reads h v d as
  | _, _, _, .nil, i, v, e => by simp at e
  | _, _, _, .cons r t, 0, v, e => by
    simp only [List.getElem?_cons_zero, Option.some.injEq] at e
    subst e
    exact ⟨_, _, rfl, r⟩
  | _, _, _, .cons r t, i + 1, v, e => by
    rw [List.getElem?_cons_succ] at e ⊢
    exact reads_each t i v e
theorem vals_at : ∀ {xs : List V} {us : List Value}, Vals xs us → ∀ (i : Nat) u, us[i]? = some u → ∃ x, xs[i]? = some x ∧ RelV x u
  | [], [], .nil, i, u, e => by simp at e
  | x :: xs, u :: us, .cons r t, 0, v, e => by
    simp only [List.getElem?_cons_zero, Option.some.injEq] at e
    subst e
    exact ⟨_, rfl, r⟩
  | x :: xs, u :: us, .cons r t, i + 1, v, e => by
    rw [List.getElem?_cons_succ] at e ⊢
    exact vals_at t i v e
theorem best_end {pins : List (Addr × Obj)} {σ : L2.St} {H : Hp} {s : Shared} {xs : List V} {us : List Value} {ds : List PyData} {d : PyData} {as bs : List Addr} {i : Nat} {v : Value} {h' : Heap} {tk : Nat} {Q : VK} (I : Inv X pins σ H s) (rv : Vals xs us) (hr : ReadsAll s.heap us ds as) (ha : PySem.W.AlikeAll ds) (hd : d ∈ ds)
    (hv : us[i]? = some v) (r : Reads h' v d bs) (hk : ∀ b o, s.heap.get? b = some o → h'.get? b = some o) (q : BestOf xs ds d H Q) : ∃ y H', L2.Inv X pins σ H' { s with heap := h', toks := tk } ∧ RelV y v ∧ Q y H' := by
  obtain ⟨x, ex, rx⟩ := vals_at rv i v hv
  obtain ⟨d', as', ed, r'⟩ := reads_each hr i v hv
  have e : d' = d := PySem.W.alike_unique _ _ _ _ _ (ha.1 _ (List.mem_of_getElem? ed) _ hd) (PyProof.Rows.Reads.keeps hk r') r
  subst e
  exact ⟨x, H, I.kept hk, rx, q i x ex ed⟩
theorem minD_mem : ∀ (ds : List PyData) (d : PyData), PySem.W.minD d ds ∈ d :: ds
  | [], d => List.mem_cons_self
  | y :: ds, d => by
    show PySem.W.minD (if PySem.W.dataLt y d then y else d) ds ∈ _
    rcases List.mem_cons.mp (minD_mem ds (if PySem.W.dataLt y d then y else d)) with e | m
    · rw [e]
      split
      · exact List.mem_cons_of_mem _ List.mem_cons_self
      · exact List.mem_cons_self
    · exact List.mem_cons_of_mem _ (List.mem_cons_of_mem _ m)
theorem maxD_mem : ∀ (ds : List PyData) (d : PyData), PySem.W.maxD d ds ∈ d :: ds
  | [], d => List.mem_cons_self
  | y :: ds, d => by
    show PySem.W.maxD (if PySem.W.dataLt d y then y else d) ds ∈ _
    rcases List.mem_cons.mp (maxD_mem ds (if PySem.W.dataLt d y then y else d)) with e | m
    · rw [e]
      split
      · exact List.mem_cons_of_mem _ List.mem_cons_self
      · exact List.mem_cons_self
    · exact List.mem_cons_of_mem _ (List.mem_cons_of_mem _ m)
def Alk (d : PyData) (ds : List PyData) : Prop := PySem.W.AlikeAll (d :: ds) ∧ PyData.depthAll (d :: ds) ≤ 60
def rMinG (K : PySem.W.Frag) : List V → Hp → VK → Prop := fun vs H Q => ∃ xs d ds, DpAll K H xs (d :: ds) ∧ Alk d ds ∧ BestOf xs (d :: ds) (PySem.W.minD d ds) H Q ∧
  ((∃ a, vs = [V.ref a] ∧ (SqL K H a xs ∨ SqT K H a xs)) ∨ ∃ x y w, vs = [x, y, w] ∧ xs = [x, y, w])
theorem cr_minG (hc : X.calm = true) (hr : Room k X.A) : CallR X (.builtin "min") (rMinG X.K) := by
  intro pins s σ H vs us Q I r h
  obtain ⟨xs, d, ds, hd, ha, hq, h⟩ := h
  have hu := hr.units
  have hdep := ha.2
  rcases h with ⟨a, rfl, h | h⟩ | ⟨x, y, w, rfl, rfl⟩
  · obtain ⟨its, rv, hl, hz⟩ := I.list h
    obtain ⟨as, hra⟩ := Dp.readsAll I _ xs its hd rv
    rw [Vals.ref1 r]
    refine PySem.W.min_list_data (I.ok.hd hc) hl.isList (by simpa using hra) ha.1 (by omega) fun i v h' tk bs hv hr' hk => ?_
    exact best_end I rv hra ha.1 (minD_mem _ _) (by simpa using hv) hr' hk hq
  · obtain ⟨its, rv, ht, hz⟩ := I.tuple h
    obtain ⟨as, hra⟩ := Dp.readsAll I _ xs its hd rv
    rw [Vals.ref1 r]
    refine PySem.W.min_tuple_data (I.ok.hd hc) ht (by simpa using hra) ha.1 (by omega) fun i v h' tk bs hv hr' hk => ?_
    exact best_end I rv hra ha.1 (minD_mem _ _) (by simpa using hv) hr' hk hq
  · obtain ⟨as, hra⟩ := Dp.readsAll I _ _ us hd r
    match us, r with
    | [u1, u2, u3], r =>
      exact min_three_data (I.ok.hd hc) hra ha.1 (by omega) fun i v h' tk bs hv hr' hk => best_end I r hra ha.1 (minD_mem _ _) hv hr' hk hq
def rMaxG (K : PySem.W.Frag) : List V → Hp → VK → Prop := fun vs H Q => ∃ xs d ds, DpAll K H xs (d :: ds) ∧ Alk d ds ∧ BestOf xs (d :: ds) (PySem.W.maxD d ds) H Q ∧
  (∃ a, vs = [V.ref a] ∧ (SqL K H a xs ∨ SqT K H a xs))
theorem cr_maxG (hc : X.calm = true) (hr : Room k X.A) : CallR X (.builtin "max") (rMaxG X.K) := by
  intro pins s σ H vs us Q I r h
  obtain ⟨xs, d, ds, hd, ha, hq, h⟩ := h
  have hu := hr.units
  have hdep := ha.2
  obtain ⟨a, rfl, h | h⟩ := h
  · obtain ⟨its, rv, hl, hz⟩ := I.list h
    obtain ⟨as, hra⟩ := Dp.readsAll I _ xs its hd rv
    rw [Vals.ref1 r]
    refine PySem.W.max_list_data (I.ok.hd hc) hl.isList (by simpa using hra) ha.1 (by omega) fun i v h' tk bs hv hr' hk => ?_
    exact best_end I rv hra ha.1 (maxD_mem _ _) (by simpa using hv) hr' hk hq
  · obtain ⟨its, rv, ht, hz⟩ := I.tuple h
    obtain ⟨as, hra⟩ := Dp.readsAll I _ xs its hd rv
    rw [Vals.ref1 r]
    refine PySem.W.max_tuple_data (I.ok.hd hc) ht (by simpa using hra) ha.1 (by omega) fun i v h' tk bs hv hr' hk => ?_
    exact best_end I rv hra ha.1 (maxD_mem _ _) (by simpa using hv) hr' hk hq
/-! ### as operations on data -/
def minI (n : Int) (ns : List Int) : Int := ns.foldl (fun a y => if y < a then y else a) n
def maxI (n : Int) (ns : List Int) : Int := ns.foldl (fun a y => if a < y then y else a) n
def minS (ds : List D) : Out R0 := match toInts ds with
  | some (n :: ns) => .ok (.d (.int (minI n ns)))
  | _ => match toTups ds with
    | some (k :: ks) => .ok (.d (tD (minL k ks)))
    | _ => .no
def maxS (ds : List D) : Out R0 := match toInts ds with
  | some (n :: ns) => .ok (.d (.int (maxI n ns)))
  | _ => .no
def bMinX : List D → Out R0
  | [.lst ds] => minS ds
  | [.tup ds] => minS ds
  | [.int i, .int j] => .ok (.d (.int (if j < i then j else i)))
  | [a, b, c] => minS [a, b, c]
  | _ => .no
def bMaxX : List D → Out R0
  | [.lst ds] => maxS ds
  | [.tup ds] => maxS ds
  | [.int i, .int j] => .ok (.d (.int (if j > i then j else i)))
  | _ => .no
theorem minD_int (n : Int) : ∀ ns : List Int, PySem.W.minD (.int n) (ns.map PyData.int) = .int (minI n ns) := fun ns => by
  unfold PySem.W.minD minI
  induction ns generalizing n with
  | nil => rfl
  | cons y ys ih =>
    rw [List.map_cons, List.foldl_cons, List.foldl_cons, ← ih]
    rw [PySem.W.dataLt_int]
    by_cases h : y < n <;> simp [h]
theorem maxD_int (n : Int) : ∀ ns : List Int, PySem.W.maxD (.int n) (ns.map PyData.int) = .int (maxI n ns) := fun ns => by
  unfold PySem.W.maxD maxI
  induction ns generalizing n with
  | nil => rfl
  | cons y ys ih =>
    rw [List.map_cons, List.foldl_cons, List.foldl_cons, ← ih]
    rw [PySem.W.dataLt_int]
    by_cases h : n < y <;> simp [h]
theorem alk_ints (n : Int) (ns : List Int) : Alk (.int n) (ns.map PyData.int) := by
  refine ⟨⟨fun x hx y hy => ?_, fun x hx => ?_⟩, ?_⟩
  · obtain ⟨a, _, rfl⟩ := List.mem_map.mp (show x ∈ (n :: ns).map PyData.int from hx)
    obtain ⟨b, _, rfl⟩ := List.mem_map.mp (show y ∈ (n :: ns).map PyData.int from hy)
    simp only [PySem.W.alike]
  · obtain ⟨a, _, rfl⟩ := List.mem_map.mp (show x ∈ (n :: ns).map PyData.int from hx)
    exact fun e => by cases e
  · have := PySem.W.depth_ints (n :: ns)
    rw [List.map_cons] at this
    omega
theorem depthAll_pyT : ∀ ks : List (List Int), PyData.depthAll (ks.map pyT) ≤ 1
  | [] => by simp [PyData.depthAll]
  | k :: ks => by
    simp only [List.map_cons, PyData.depthAll, depth_pyT]
    have := depthAll_pyT ks
    omega
theorem alk_tups (k : List Int) (ks : List (List Int)) : Alk (pyT k) (ks.map pyT) := by
  refine ⟨⟨fun x hx y hy => ?_, fun x hx => ?_⟩, ?_⟩
  · obtain ⟨a, _, rfl⟩ := List.mem_map.mp (show x ∈ (k :: ks).map pyT from hx)
    obtain ⟨b, _, rfl⟩ := List.mem_map.mp (show y ∈ (k :: ks).map pyT from hy)
    exact alike_pyT _ _
  · obtain ⟨a, _, rfl⟩ := List.mem_map.mp (show x ∈ (k :: ks).map pyT from hx)
    exact fun e => by cases e
  · have := depthAll_pyT (k :: ks)
    rw [List.map_cons] at this
    omega
theorem toPy_tD (k : List Int) : toPy (tD k) = some (pyT k) := by
  have : ∀ ns : List Int, toPyL (ns.map D.int) = some (ns.map PyData.int) := fun ns => by
    induction ns with
    | nil => rfl
    | cons n ns ih =>
      show (match toPy (.int n) with
        | some p => match toPyL (ns.map D.int) with
          | some ps => some (p :: ps)
          | none => none
        | none => none) = _
      rw [ih]
      rfl
  unfold tD pyT
  simp only [toPy, this]
theorem toPyL_tDs : ∀ ks : List (List Int), toPyL (ks.map tD) = some (ks.map pyT)
  | [] => rfl
  | k :: ks => by
    show (match toPy (tD k) with
        | some p => match toPyL (ks.map tD) with
          | some ps => some (p :: ps)
          | none => none
        | none => none) = _
    rw [toPy_tD, toPyL_tDs ks]
    rfl
theorem toPyL_intsD : ∀ ns : List Int, toPyL (ns.map D.int) = some (ns.map PyData.int)
  | [] => rfl
  | n :: ns => by
    show (match toPy (.int n) with
        | some p => match toPyL (ns.map D.int) with
          | some ps => some (p :: ps)
          | none => none
        | none => none) = _
    rw [toPyL_intsD ns]
    rfl
theorem pyT_inj {a b : List Int} (h : pyT a = pyT b) : a = b := by
  unfold pyT at h
  injection h with h
  exact (List.map_inj_right (fun x y e => by injection e)).mp h
/-- the two kinds of items -/
theorem minS_best {G H : Hp} {vs : List V} {ds : List D} {Q : VK} (e : Ex G H) (ia : IsA z.K z.cl G vs ds) (p : P0 z G H Q (minS ds)) : ∃ d qs, DpAll z.K H vs (d :: qs) ∧ Alk d qs ∧ BestOf vs (d :: qs) (PySem.W.minD d qs) H Q := by
  unfold minS at p
  split at p
  · rename_i n ns q
    have qd := toInts_eq q
    subst qd
    refine ⟨.int n, ns.map .int, isA_dp (ia.mono e) (toPyL_intsD (n :: ns)), alk_ints n ns, fun i x hx hd => ?_⟩
    rw [minD_int] at hd
    rw [IsA.ints ia, List.getElem?_map] at hx
    rw [← List.map_cons, List.getElem?_map] at hd
    cases w : (n :: ns)[i]? with
    | none => rw [w] at hx; cases hx
    | some m =>
      rw [w] at hx hd
      simp only [Option.map_some, Option.some.injEq] at hx hd
      injection hd with hd
      subst hx hd
      exact p _ (.int _)
  · split at p
    · rename_i k ks q
      have qd := toTups_eq q
      subst qd
      refine ⟨pyT k, ks.map pyT, isA_dp (ia.mono e) (toPyL_tDs (k :: ks)), alk_tups k ks, fun i x hx hd => ?_⟩
      rw [minD_pyT] at hd
      rw [← List.map_cons, List.getElem?_map] at hd
      obtain ⟨d', e1, w⟩ := IsA.get' ia hx
      rw [List.getElem?_map] at e1
      cases w2 : (k :: ks)[i]? with
      | none => rw [w2] at hd; cases hd
      | some m =>
        rw [w2] at hd e1
        simp only [Option.map_some, Option.some.injEq] at hd e1
        have := pyT_inj hd
        subst this
        subst e1
        exact p _ w
    · exact p.elim
theorem maxS_best {G H : Hp} {vs : List V} {ds : List D} {Q : VK} (e : Ex G H) (ia : IsA z.K z.cl G vs ds) (p : P0 z G H Q (maxS ds)) : ∃ d qs, DpAll z.K H vs (d :: qs) ∧ Alk d qs ∧ BestOf vs (d :: qs) (PySem.W.maxD d qs) H Q := by
  unfold maxS at p
  split at p
  · rename_i n ns q
    have qd := toInts_eq q
    subst qd
    refine ⟨.int n, ns.map .int, isA_dp (ia.mono e) (toPyL_intsD (n :: ns)), alk_ints n ns, fun i x hx hd => ?_⟩
    rw [maxD_int] at hd
    rw [IsA.ints ia, List.getElem?_map] at hx
    rw [← List.map_cons, List.getElem?_map] at hd
    cases w : (n :: ns)[i]? with
    | none => rw [w] at hx; cases hx
    | some m =>
      rw [w] at hx hd
      simp only [Option.map_some, Option.some.injEq] at hx hd
      injection hd with hd
      subst hx hd
      exact p _ (.int _)
  · exact p.elim
theorem minS_nx (ds : List D) : ∀ c d, minS ds ≠ .exc c d := fun c d => by unfold minS; split <;> (try split) <;> (intro h; cases h)
theorem maxS_nx (ds : List D) : ∀ c d, maxS ds ≠ .exc c d := fun c d => by unfold maxS; split <;> (intro h; cases h)
theorem minS_three {a b c : D} {r : R0} (h : minS [a, b, c] = .ok r) : (∃ i j l, [a, b, c] = [D.int i, .int j, .int l]) ∨ ∃ i j l, [a, b, c] = [tD i, tD j, tD l] := by
  unfold minS at h
  split at h
  · rename_i n ns q
    have qd := toInts_eq q
    match ns, qd with
    | [j, l], qd => exact .inl ⟨n, j, l, qd⟩
  · split at h
    · rename_i k ks q
      have qd := toTups_eq q
      match ks, qd with
      | [j, l], qd => exact .inr ⟨k, j, l, qd⟩
    · cases h
theorem isT_val {K : PySem.W.Frag} {cl : Cl} {G H : Hp} {v : V} {d : D} (h : IsT K cl G H v d) (hn : ∀ xs, d ≠ .lst xs) : Is K cl G v d := by
  rcases h with h | ⟨p, vs, xs, _, e, _⟩
  · exact h
  · exact absurd e (hn xs)
theorem isTs3 {K : PySem.W.Frag} {cl : Cl} {G H : Hp} {vs : List V} {a b c : D} (h : IsTs K cl G H vs [a, b, c]) : ∃ x y w, vs = [x, y, w] ∧ IsT K cl G H x a ∧ IsT K cl G H y b ∧ IsT K cl G H w c := by
  match vs, h with
  | [x, y, w], h => exact ⟨x, y, w, rfl, h.1, h.2.1, h.2.2.1⟩
  | [], h => exact h.elim
  | [_], h => exact h.2.elim
  | [_, _], h => exact h.2.2.elim
  | _ :: _ :: _ :: _ :: _, h => exact h.2.2.2.elim
theorem cd_minX (o : OkX X z E k) : CallD X z (.builtin "min") bMinX := ⟨⟨fun vs H Q => (fun xs H Q => ∃ i j, xs = [V.int i, V.int j] ∧ Q (V.int (if j < i then j else i)) H) vs H Q ∨ rMinG X.K vs H Q, fun pins s σ H vs us Q I r h => by
    rcases h with h | h
    · exact call_min2 o.calm pins s σ H vs us Q I r h
    · exact cr_minG o.calm o.room pins s σ H vs us Q I r h, fun G H vs ds Q e i p => by
  rw [o.K]
  unfold bMinX at p
  split at p
  · obtain ⟨v, rfl, w⟩ := isTs1 i
    obtain ⟨a, vs, rfl, hs, ia⟩ := isLst e w
    obtain ⟨d, qs, h1, h2, h3⟩ := minS_best e ia p
    exact .inr ⟨vs, d, qs, h1, h2, h3, .inl ⟨a, rfl, .inl (SqL.of hs)⟩⟩
  · obtain ⟨v, rfl, w⟩ := isTs1 i
    obtain ⟨a, vs, rfl, hs, ia, _⟩ := isTup e w
    obtain ⟨d, qs, h1, h2, h3⟩ := minS_best e ia p
    exact .inr ⟨vs, d, qs, h1, h2, h3, .inl ⟨a, rfl, .inr hs⟩⟩
  · obtain ⟨v, w, rfl, wv, ww⟩ := isTs2 i
    exact .inl ⟨_, _, by rw [isInt wv, isInt ww], p _ (.int _)⟩
  · rename_i a b c
    obtain ⟨x, y, w, rfl, wx, wy, ww⟩ := isTs3 i
    cases hm : minS [a, b, c] with
    | ok r =>
      have ia : IsA z.K z.cl G [x, y, w] [a, b, c] := by
        rcases minS_three hm with ⟨i, j, l, h⟩ | ⟨i, j, l, h⟩
        · cases h
          exact .cons (isT_val wx (fun _ e => by cases e)) (.cons (isT_val wy (fun _ e => by cases e)) (.cons (isT_val ww (fun _ e => by cases e)) .nil))
        · cases h
          exact .cons (isT_val wx (fun _ e => by cases e)) (.cons (isT_val wy (fun _ e => by cases e)) (.cons (isT_val ww (fun _ e => by cases e)) .nil))
      obtain ⟨d, qs, h1, h2, h3⟩ := minS_best e ia p
      exact .inr ⟨[x, y, w], d, qs, h1, h2, h3, .inr ⟨x, y, w, rfl, rfl⟩⟩
    | exc c d => exact absurd hm (minS_nx _ _ _)
    | no => rw [hm] at p; exact p.elim
  · exact p.elim⟩, fun x c d => by
    unfold bMinX
    split
    · exact minS_nx _ _ _
    · exact minS_nx _ _ _
    · intro h; cases h
    · exact minS_nx _ _ _
    · intro h; cases h⟩
theorem cd_maxX (o : OkX X z E k) : CallD X z (.builtin "max") bMaxX := ⟨⟨fun vs H Q => (fun xs H Q => ∃ i j, xs = [V.int i, V.int j] ∧ Q (V.int (if j > i then j else i)) H) vs H Q ∨ rMaxG X.K vs H Q, fun pins s σ H vs us Q I r h => by
    rcases h with h | h
    · exact call_max2 o.calm pins s σ H vs us Q I r h
    · exact cr_maxG o.calm o.room pins s σ H vs us Q I r h, fun G H vs ds Q e i p => by
  rw [o.K]
  unfold bMaxX at p
  split at p
  · obtain ⟨v, rfl, w⟩ := isTs1 i
    obtain ⟨a, vs, rfl, hs, ia⟩ := isLst e w
    obtain ⟨d, qs, h1, h2, h3⟩ := maxS_best e ia p
    exact .inr ⟨vs, d, qs, h1, h2, h3, ⟨a, rfl, .inl (SqL.of hs)⟩⟩
  · obtain ⟨v, rfl, w⟩ := isTs1 i
    obtain ⟨a, vs, rfl, hs, ia, _⟩ := isTup e w
    obtain ⟨d, qs, h1, h2, h3⟩ := maxS_best e ia p
    exact .inr ⟨vs, d, qs, h1, h2, h3, ⟨a, rfl, .inr hs⟩⟩
  · obtain ⟨v, w, rfl, wv, ww⟩ := isTs2 i
    exact .inl ⟨_, _, by rw [isInt wv, isInt ww], p _ (.int _)⟩
  · exact p.elim⟩, fun x c d => by
    unfold bMaxX
    split
    · exact maxS_nx _ _ _
    · exact maxS_nx _ _ _
    · intro h; cases h
    · intro h; cases h⟩
/-! ### sorted -/
def bSortedX : List D → Out R0
  | [.lst ds] => match toInts ds with
    | some is => .ok (.ls ((sortI is).map D.int))
    | none => match toTups ds with
      | some ks => if ks.all (fun k => !k.isEmpty) then .ok (.ls ((sortL ks).map tD)) else .no
      | none => .no
  | [.tup ds] => match toInts ds with
    | some is => .ok (.ls ((sortI is).map D.int))
    | none => .no
  | _ => .no
theorem isA_zip {K : PySem.W.Frag} {cl : Cl} {G : Hp} : ∀ {vs : List V} {ks : List (List Int)}, IsA K cl G vs (ks.map tD) → ∀ p ∈ vs.zip ks, Is K cl G p.1 (tD p.2)
  | [], [], _, p, m => by cases m
  | v :: vs, k :: ks, .cons h t, p, m => by
    rcases List.mem_cons.mp m with e | m
    · subst e; exact h
    · exact isA_zip t p m
theorem isA_of_all {K : PySem.W.Frag} {cl : Cl} {G : Hp} : ∀ {zs : List (V × List Int)}, (∀ p ∈ zs, Is K cl G p.1 (tD p.2)) → IsA K cl G (zs.map (·.1)) ((zs.map (·.2)).map tD)
  | [], _ => .nil
  | p :: zs, h => .cons (h p List.mem_cons_self) (isA_of_all fun q m => h q (List.mem_cons_of_mem _ m))
theorem cd_sortedX (o : OkX X z E k) : CallD X z (.builtin "sorted") bSortedX := ⟨⟨fun vs H Q => (rSortedI X.K vs H Q ∨ rSortedTu X.K vs H Q) ∨ rSortedL X.K vs H Q, fun pins s σ H vs us Q I r h => by
    rcases h with (h | h) | h
    · exact cr_sortedI pins s σ H vs us Q I r h
    · exact cr_sortedTu pins s σ H vs us Q I r h
    · exact cr_sortedL o.room pins s σ H vs us Q I r h, fun G H vs ds Q e i p => by
  rw [o.K]
  unfold bSortedX at p
  split at p
  · obtain ⟨v, rfl, w⟩ := isTs1 i
    obtain ⟨a, vs, rfl, hs, ia⟩ := isLst e w
    split at p
    · rename_i bs q
      rw [toInts_eq q] at ia
      rw [IsA.ints ia] at hs
      exact .inl (.inl ⟨a, bs, rfl, SqL.of hs, fun ns' p' h1 h2 h3 => sorted_end h1 h2 h3 p⟩)
    · split at p
      · rename_i ks q
        split at p
        · rename_i hne
          rw [toTups_eq q] at ia
          have ln : vs.length = ks.length := by have := ia.length; rw [List.length_map] at this; exact this
          refine .inr ⟨a, vs, ks, rfl, SqL.of hs, isA_dp (ia.mono e) (toPyL_tDs ks), fun k m => ?_, fun zs p' h1 h2 h3 => ?_⟩
          · have := List.all_eq_true.mp hne k m
            intro w
            subst w
            cases this
          · have sp : zs.map (·.2) = sortL ks := sortedL_unique (((h1.map (·.2)).trans (by rw [List.map_snd_zip (by omega)])).trans (sortL_perm ks).symm) (by rw [List.pairwise_map]; exact h2) (sortL_sorted ks)
            have ia2 := isA_of_all (zs := zs) (K := z.K) (cl := z.cl) (G := G) fun q m => isA_zip ia q (h1.mem_iff.mp m)
            rw [sp] at ia2
            exact p p' _ h3 ia2
        · exact p.elim
      · exact p.elim
  · split at p
    · rename_i bs q
      obtain ⟨v, rfl, w⟩ := isTs1 i
      obtain ⟨a, vs, rfl, hs, ia, _⟩ := isTup e w
      rw [toInts_eq q] at ia
      rw [IsA.ints ia] at hs
      exact .inl (.inr ⟨a, bs, rfl, hs, fun ns' p' h1 h2 h3 => sorted_end h1 h2 h3 p⟩)
    · exact p.elim
  · exact p.elim⟩, fun x c d => by unfold bSortedX; split <;> (try split) <;> (try split) <;> (try split) <;> (intro h; cases h)⟩
end
end TN
namespace PL
open PySem PySem.Spec PyProof.Rows L2 TN
def b_is_whole : S := sRet (fAndV (fBi bIsi (aCons (fVar 0) (aCons (fC (.ty "int")) (aNil)))) (fNotV (fBi bIsi (aCons (fVar 0) (aCons (fC (.ty "bool")) (aNil))))))
def m_is_whole : Fn := fnOf false 1 b_is_whole
def b_is_below : S := sRet (fAndV (fCall false m_is_whole (aCons (fVar 0) (aNil))) (fChain (oI gLe) (oI gLt) (fC (.int 0)) (fVar 0) (fVar 1)))
def m_is_below : Fn := fnOf false 2 b_is_below
def b_are_below : S := sRet (fAndV (fBi bIsi (aCons (fVar 0) (aCons (fC (.ty "tuple")) (aNil)))) (fBi bAll (aCons (fLc (fSeq (fVar 0)) (gN 2) (bYes) (fCall false m_is_below (aCons (fVar 2) (aCons (fVar 1) (aNil)))) [2]) (aNil))))
def m_are_below : Fn := fnOf false 3 b_are_below
def b_is_ascending : S := sCons (sIf (fNotB (fTru (fCall false m_are_below (aCons (fVar 0) (aCons (fVar 1) (aNil)))))) (sRet (fC (.bl false))) (sNil)) (sRet (fBi bAll (aCons (fLc (fZip (aCons (fVar 0) (aCons (fSl dSl (fVar 0) (oSome (fC (.int 1))) (oNone)) (aNil)))) (gT [2, 3]) (bYes) (fBin dLt (fVar 2) (fVar 3)) [2, 3]) (aNil))))
def m_is_ascending : Fn := fnOf false 4 b_is_ascending
def b_are_pairs : S := sCons (sIf (fNotB (fTru (fBi bIsi (aCons (fVar 0) (aCons (fC (.ty "tuple")) (aNil)))))) (sRet (fC (.bl false))) (sNil)) (sCons (sIf (fNotB (fTru (fBi bAll (aCons (fLc (fSeq (fVar 0)) (gN 4) (bYes) (fAndV (fCall false m_is_ascending (aCons (fVar 4) (aCons (fVar 1) (aNil)))) (fBin (dEq false) (fBi bLen (aCons (fVar 4) (aNil))) (fC (.int 2)))) [4]) (aNil))))) (sRet (fC (.bl false))) (sNil)) (sRet (fBi bAll (aCons (fLc (fZip (aCons (fVar 0) (aCons (fSl dSl (fVar 0) (oSome (fC (.int 1))) (oNone)) (aNil)))) (gT [2, 3]) (bYes) (fBin dLt (fVar 2) (fVar 3)) [2, 3]) (aNil)))))
def m_are_pairs : Fn := fnOf false 5 b_are_pairs
def b_is_ring : S := sCons (sIf (fOrB (fNotB (fTru (fBi bIsi (aCons (fVar 0) (aCons (fC (.ty "tuple")) (aNil)))))) (fNotB (fTru (fBi bAll (aCons (fLc (fSeq (fVar 0)) (gN 2) (bYes) (fCall false m_is_whole (aCons (fVar 2) (aNil))) [2]) (aNil)))))) (sRet (fC (.bl false))) (sNil)) (sCons (sSet 1 (fBin (oI gDiv) (fBi bLen (aCons (fVar 0) (aNil))) (fC (.int 2)))) (sRet (fAndV (fChain (oI gLe) (oI gLe) (fC (.int 1)) (fVar 1) (fC (.int 10))) (fBin (dEq false) (fBi bSortedX (aCons (fVar 0) (aNil))) (fBi bSortedX (aCons (fBin dMul (fLRg1 (fVar 1)) (fC (.int 2))) (aNil)))))))
def m_is_ring : Fn := fnOf false 3 b_is_ring
def b_check_ring : S := sIf (fNotB (fTru (fCall false m_is_ring (aCons (fVar 0) (aNil))))) (sNever) (sNil)
def m_check_ring : Fn := fnOf false 1 b_check_ring
def b__check_name : S := sIf (fNotB (fTru (fCall false m_is_below (aCons (fVar 1) (aCons (fBin (oI gDiv) (fBi bLen (aCons (fVar 0) (aNil))) (fC (.int 2))) (aNil)))))) (sNever) (sNil)
def m__check_name : Fn := fnOf false 2 b__check_name
def b__ends : S := sCons (sSet 2 (fMtT mIdx (fVar 0) (aCons (fVar 1) (aNil)))) (sRet (fTup (aCons (fVar 2) (aCons (fMtT mIdx (fVar 0) (aCons (fVar 1) (aCons (fBin dAdd (fVar 2) (fC (.int 1))) (aNil)))) (aNil)))))
def m__ends : Fn := fnOf false 3 b__ends
def b_ends_of : S := sCons (sExpr (fCall false m_check_ring (aCons (fVar 0) (aNil)))) (sCons (sExpr (fCall false m__check_name (aCons (fVar 0) (aCons (fVar 1) (aNil))))) (sRet (fCall false m__ends (aCons (fVar 0) (aCons (fVar 1) (aNil))))))
def m_ends_of : Fn := fnOf false 2 b_ends_of
def b_crossing : S := sCons (sExpr (fCall false m_check_ring (aCons (fVar 0) (aNil)))) (sCons (sExpr (fCall false m__check_name (aCons (fVar 0) (aCons (fVar 1) (aNil))))) (sCons (sAsg (gT [2, 3]) (fCall false m__ends (aCons (fVar 0) (aCons (fVar 1) (aNil))))) (sCons (sSet 4 (fSl dSl (fVar 0) (oSome (fBin dAdd (fVar 2) (fC (.int 1)))) (oSome (fVar 3)))) (sRet (fBi bTuple (aCons (fLc (fRng1 (aCons (fBin (oI gDiv) (fBi bLen (aCons (fVar 0) (aNil))) (fC (.int 2))) (aNil))) (gN 5) (bOf (fBin (dEq false) (fMtT mCnt (fVar 4) (aCons (fVar 5) (aNil))) (fC (.int 1)))) (fVar 5) [5]) (aNil)))))))
def m_crossing : Fn := fnOf false 6 b_crossing
def m_Web : In := initF 3 [1, 2] [fOrB (fNotB (fTru (fCall false m_is_whole (aCons (fVar 1) (aNil))))) (fNotB (bOf (fChain (oI gLe) (oI gLe) (fC (.int 1)) (fVar 1) (fC (.int 10))))), fNotB (fTru (fCall false m_are_pairs (aCons (fVar 2) (aCons (fVar 1) (aNil)))))]
def b_web_of : S := sCons (sExpr (fCall false m_check_ring (aCons (fVar 0) (aNil)))) (sCons (sSet 1 (fBin (oI gDiv) (fBi bLen (aCons (fVar 0) (aNil))) (fC (.int 2)))) (sCons (sSet 2 (fLc2 (fRng1 (aCons (fVar 1) (aNil))) (gN 3) (bYes) (fSeq (fCall false m_crossing (aCons (fVar 0) (aCons (fVar 3) (aNil))))) (gN 4) (bOf (fBin dLt (fVar 3) (fVar 4))) (fTup (aCons (fVar 3) (aCons (fVar 4) (aNil)))) [3, 4] [4])) (sRet (fMk 0 m_Web (aCons (fVar 1) (aCons (fBi bTuple (aCons (fVar 2) (aNil))) (aNil)))))))
def m_web_of : Fn := fnOf false 5 b_web_of
def b_turned_about : S := sCons (sExpr (fCall false m_check_ring (aCons (fVar 0) (aNil)))) (sCons (sIf (fNotB (fTru (fCall false m_is_below (aCons (fVar 1) (aCons (fBi bLen (aCons (fVar 0) (aNil))) (aNil)))))) (sNever) (sNil)) (sRet (fBin dAdd (fSl dSl (fVar 0) (oSome (fVar 1)) (oNone)) (fSl dSl (fVar 0) (oNone) (oSome (fVar 1))))))
def m_turned_about : Fn := fnOf false 2 b_turned_about
def b_mirrored : S := sCons (sExpr (fCall false m_check_ring (aCons (fVar 0) (aNil)))) (sRet (fBack (fVar 0)))
def m_mirrored : Fn := fnOf false 1 b_mirrored
def b__law_urn : S := sCons (sSet 2 (fIf (bOf (fBin (oI gLt) (fVar 1) (fBi bLen (aCons (fVar 0) (aNil))))) (fBi bInt (aCons (fBin dIx (fVar 0) (fVar 1)) (aNil))) (fBin dAdd (fBin dMul (fC (.int 193)) (fVar 1)) (fC (.int 71))))) (sCons (sSet 3 (fBin (oI gMod) (fBi bInt (aCons (fBi bAbs (aCons (fVar 2) (aNil))) (aNil))) (fBin (oI gPow) (fBin (oI gPow) (fC (.int 10)) (fC (.int 55))) (fC (.int 6))))) (sRet (fLst (aCons (fBi bMaxX (aCons (fC (.int 0)) (aCons (fBin (oI gMinus) (fVar 3) (fBin (oI gPow) (fC (.int 10)) (fC (.int 16)))) (aNil)))) (aCons (fBin dAdd (fBin dAdd (fBin dAdd (fBin dMul (fBin (oI gMod) (fBi bInt (aCons (fVar 3) (aNil))) (fC (.int 2305843009213693693))) (fC (.int 101))) (fBin dMul (fC (.int 587)) (fVar 1))) (fBin dMul (fC (.int 59)) (fBi bInt (aCons (fBin (oI gLt) (fVar 2) (fC (.int 0))) (aNil))))) (fC (.int 19))) (aCons (fC (.int 0)) (aNil)))))))
def m__law_urn : Fn := fnOf false 4 b__law_urn
def b__law_ball : S := sCons (sIf (bOf (fBin (oI gGt) (fBin dIx (fVar 0) (fC (.int 0))) (fC (.int 0)))) (sCons (sSet 2 (fBin (oI gMod) (fBi bInt (aCons (fBin dIx (fVar 0) (fC (.int 0))) (aNil))) (fVar 1))) (sCons (sSetIx 0 (fC (.int 0)) (fBin (oI gDiv) (fBin dIx (fVar 0) (fC (.int 0))) (fVar 1))) (sRet (fVar 2)))) (sNil)) (sCons (sSetIx 0 (fC (.int 2)) (fBin dAdd (fBin dIx (fVar 0) (fC (.int 2))) (fC (.int 1)))) (sCons (sSet 3 (fBin (oI gMod) (fBi bInt (aCons (fBin dAdd (fBin dIx (fVar 0) (fC (.int 1))) (fBin dMul (fC (.int 86028121)) (fBin dIx (fVar 0) (fC (.int 2))))) (aNil))) (fC (.int 2305843009213693951)))) (sCons (sSet 4 (fBin dAdd (fBin dMul (fBin (oI gMod) (fBi bInt (aCons (fBin dAdd (fBin dMul (fVar 3) (fVar 3)) (fBin dMul (fC (.int 139)) (fBin dIx (fVar 0) (fC (.int 2))))) (aNil))) (fC (.int 2305843009213693907))) (fC (.int 7368791))) (fVar 3))) (sRet (fBin (oI gMod) (fBi bInt (aCons (fBin (oI gDiv) (fVar 4) (fC (.int 65543))) (aNil))) (fVar 1))))))
def m__law_ball : Fn := fnOf true 5 b__law_ball
def b__law_mixed : S := sCons (sPar 2 3 (fBi bList (aCons (fVar 1) (aNil))) (fLst (aNil))) (sCons (sWhile (bOf (fBin (dEq true) (fVar 2) (fLst (aNil)))) (sExpr (fApp 3 (fPopI 2 (fCall true m__law_ball (aCons (fVar 0) (aCons (fBi bLen (aCons (fVar 2) (aNil))) (aNil)))))))) (sRet (fVar 3)))
def m__law_mixed : Fn := fnOf true 4 b__law_mixed
def b__law_ring : S := sRet (fBi bTuple (aCons (fCall true m__law_mixed (aCons (fVar 0) (aCons (fBi bSortedX (aCons (fBin dMul (fLRg1 (fVar 1)) (fC (.int 2))) (aNil))) (aNil)))) (aNil)))
def m__law_ring : Fn := fnOf true 2 b__law_ring
def b__law_ends : S := sRet (fLc (fEnumA (aCons (fVar 0) (aNil))) (gT [2, 3]) (bOf (fBin (dEq false) (fVar 3) (fVar 1))) (fVar 2) [2, 3])
def m__law_ends : Fn := fnOf false 4 b__law_ends
def b__law_do_cross : S := sCons (sAsg (gT [3, 4]) (fCall false m__law_ends (aCons (fVar 0) (aCons (fVar 1) (aNil))))) (sRet (fBin (dEq false) (fBi bLen (aCons (fLc (fSeq (fCall false m__law_ends (aCons (fVar 0) (aCons (fVar 2) (aNil))))) (gN 5) (bOf (fChain (oI gLt) (oI gLt) (fVar 3) (fVar 5) (fVar 4))) (fC (.int 1)) [5]) (aNil))) (fC (.int 1))))
def m__law_do_cross : Fn := fnOf false 6 b__law_do_cross
def b__law_ties : S := sCons (sPar 1 2 (fBin (oI gDiv) (fBi bLen (aCons (fVar 0) (aNil))) (fC (.int 2))) (fLst (aNil))) (sCons (sFor (fRng1 (aCons (fVar 1) (aNil))) (gN 3) (sExpr (fExt 2 (fLc (fRng2 (aCons (fBin dAdd (fVar 3) (fC (.int 1))) (aCons (fVar 1) (aNil)))) (gN 4) (fTru (fCall false m__law_do_cross (aCons (fVar 0) (aCons (fVar 3) (aCons (fVar 4) (aNil)))))) (fTup (aCons (fVar 3) (aCons (fVar 4) (aNil)))) [4])))) (sRet (fBi bTuple (aCons (fVar 2) (aNil)))))
def m__law_ties : Fn := fnOf false 5 b__law_ties
def b_Web_eq : S := sRet (fAndV (fBi bIsiC (aCons (fVar 1) (aCons (fC (.cls 0)) (aNil)))) (fAndV (fBin (dEq false) (fAt 0 0 (fVar 0)) (fAt 0 0 (fVar 1))) (fBin (dEq false) (fAt 0 1 (fVar 0)) (fAt 0 1 (fVar 1)))))
def m_Web_eq : Fn := fnOf false 2 b_Web_eq
def b__law_right_k20 : S := sCons (sSet 1 (fBin dAdd (fC (.int 1)) (fCall true m__law_ball (aCons (fVar 0) (aCons (fC (.int 10)) (aNil)))))) (sCons (sSet 2 (fCall true m__law_ring (aCons (fVar 0) (aCons (fVar 1) (aNil))))) (sCons (sSet 3 (fMk 0 m_Web (aCons (fVar 1) (aCons (fCall false m__law_ties (aCons (fVar 2) (aNil))) (aNil))))) (sCons (sFor (fRng1 (aCons (fVar 1) (aNil))) (gN 4) (sCons (sIf (bOf (fBin (dEq true) (fCall false m_ends_of (aCons (fVar 2) (aCons (fVar 4) (aNil)))) (fBi bTuple (aCons (fCall false m__law_ends (aCons (fVar 2) (aCons (fVar 4) (aNil)))) (aNil))))) (sRet (fC (.bl false))) (sNil)) (sIf (bOf (fBin (dEq true) (fCall false m_crossing (aCons (fVar 2) (aCons (fVar 4) (aNil)))) (fBi bTuple (aCons (fLc (fRng1 (aCons (fVar 1) (aNil))) (gN 7) (fTru (fCall false m__law_do_cross (aCons (fVar 2) (aCons (fVar 4) (aCons (fVar 7) (aNil)))))) (fVar 7) [7]) (aNil))))) (sRet (fC (.bl false))) (sNil)))) (sCons (sSet 5 (fCall true m__law_ball (aCons (fVar 0) (aCons (fBin dMul (fC (.int 2)) (fVar 1)) (aNil))))) (sCons (sSet 6 (fCall false m_turned_about (aCons (fVar 2) (aCons (fVar 5) (aNil))))) (sCons (sIf (fOrB (bOf (fEqO 0 m_Web_eq true (fCall false m_web_of (aCons (fVar 2) (aNil))) (fVar 3))) (fOrB (bOf (fBin (dEq true) (fVar 6) (fBin dAdd (fSl dSl (fVar 2) (oSome (fVar 5)) (oNone)) (fSl dSl (fVar 2) (oNone) (oSome (fVar 5)))))) (bOf (fBin (dEq true) (fCall false m_mirrored (aCons (fVar 2) (aNil))) (fBi bTuple (aCons (fBack (fBi bList (aCons (fVar 2) (aNil)))) (aNil))))))) (sRet (fC (.bl false))) (sNil)) (sRet (fAndV (fEqO 0 m_Web_eq false (fCall false m_web_of (aCons (fVar 6) (aNil))) (fVar 3)) (fEqO 0 m_Web_eq false (fCall false m_web_of (aCons (fCall false m_mirrored (aCons (fVar 6) (aNil))) (aNil))) (fVar 3))))))))))
def m__law_right_k20 : Fn := fnOf true 8 b__law_right_k20
def b__law_is_plain (m__law_is_plain_ : Fn) : S := sCons (sIf (fTru (fBi bIsi (aCons (fVar 0) (aCons (fC (.ty "tuple")) (aNil))))) (sRet (fBin (dEq false) (fLc (fSeq (fVar 0)) (gN 1) (fNotB (fTru (fCall false m__law_is_plain_ (aCons (fVar 1) (aNil))))) (fVar 1) [1]) (fLst (aNil)))) (sNil)) (sRet (fOrV (fBin (dIs false) (fVar 0) (fC .non)) (fOrV (fBi bIsi (aCons (fVar 0) (aCons (fC (.ty "int")) (aNil)))) (fBi bIsi (aCons (fVar 0) (aCons (fC (.ty "str")) (aNil)))))))
def m__law_is_plain : Nat → Fn
  | 0 => fun _ => .no
  | n + 1 => fnOf false 2 (b__law_is_plain (m__law_is_plain n))
def b_law_k20 : S := sCons (sFor (fRng1 (aCons (fBi bMaxX (aCons (fC (.int 1)) (aCons (fBi bMinX (aCons (fC (.int 3)) (aCons (fBi bLen (aCons (fVar 0) (aNil))) (aNil)))) (aNil)))) (aNil))) (gN 1) (sCons (sSet 2 (fCall false m__law_urn (aCons (fVar 0) (aCons (fVar 1) (aNil))))) (sFor (fRng1 (aCons (fC (.int 8)) (aNil))) (gN 3) (sIf (fNotB (fTru (fCall true m__law_right_k20 (aCons (fVar 2) (aNil))))) (sRet (fC (.bl false))) (sNil))))) (sCons (sSet 4 (fTup (aCons (fC (.int 0)) (aCons (fC (.int 1)) (aCons (fC (.int 4)) (aCons (fC (.int 0)) (aCons (fC (.int 3)) (aCons (fC (.int 4)) (aCons (fC (.int 2)) (aCons (fC (.int 3)) (aCons (fC (.int 1)) (aCons (fC (.int 2)) (aNil))))))))))))) (sCons (sIf (fOrB (bOf (fBin (dEq true) (fCall false m_ends_of (aCons (fVar 4) (aCons (fC (.int 3)) (aNil)))) (fTup (aCons (fC (.int 4)) (aCons (fC (.int 7)) (aNil)))))) (bOf (fBin (dEq true) (fCall false m_crossing (aCons (fVar 4) (aCons (fC (.int 0)) (aNil)))) (fTup (aCons (fC (.int 1)) (aCons (fC (.int 4)) (aNil))))))) (sRet (fC (.bl false))) (sNil)) (sCons (sIf (fOrB (bOf (fBin (dEq true) (fAt 0 1 (fCall false m_web_of (aCons (fVar 4) (aNil)))) (fTup (aCons (fTup (aCons (fC (.int 0)) (aCons (fC (.int 1)) (aNil)))) (aCons (fTup (aCons (fC (.int 0)) (aCons (fC (.int 4)) (aNil)))) (aCons (fTup (aCons (fC (.int 1)) (aCons (fC (.int 2)) (aNil)))) (aCons (fTup (aCons (fC (.int 2)) (aCons (fC (.int 3)) (aNil)))) (aCons (fTup (aCons (fC (.int 3)) (aCons (fC (.int 4)) (aNil)))) (aNil))))))))) (bOf (fEqO 0 m_Web_eq true (fCall false m_web_of (aCons (fTup (aCons (fC (.int 0)) (aCons (fC (.int 0)) (aNil)))) (aNil))) (fMk 0 m_Web (aCons (fC (.int 1)) (aCons (fTup (aNil)) (aNil))))))) (sRet (fC (.bl false))) (sNil)) (sCons (sIf (fNotB (fTru (fCall false (m__law_is_plain 8) (aCons (fTup (aCons (fCall false m_ends_of (aCons (fVar 4) (aCons (fC (.int 3)) (aNil)))) (aCons (fCall false m_crossing (aCons (fVar 4) (aCons (fC (.int 0)) (aNil)))) (aCons (fAt 0 1 (fCall false m_web_of (aCons (fVar 4) (aNil)))) (aCons (fCall false m_turned_about (aCons (fVar 4) (aCons (fC (.int 1)) (aNil)))) (aCons (fCall false m_mirrored (aCons (fVar 4) (aNil))) (aNil))))))) (aNil))))) (sRet (fC (.bl false))) (sNil)) (sRet (fAndV (fBin (dEq false) (fCall false m_turned_about (aCons (fTup (aCons (fC (.int 0)) (aCons (fC (.int 1)) (aCons (fC (.int 0)) (aCons (fC (.int 1)) (aNil)))))) (aCons (fC (.int 1)) (aNil)))) (fTup (aCons (fC (.int 1)) (aCons (fC (.int 0)) (aCons (fC (.int 1)) (aCons (fC (.int 0)) (aNil))))))) (fBin (dEq false) (fCall false m_mirrored (aCons (fTup (aCons (fC (.int 0)) (aCons (fC (.int 0)) (aCons (fC (.int 1)) (aCons (fC (.int 1)) (aNil)))))) (aNil))) (fTup (aCons (fC (.int 1)) (aCons (fC (.int 1)) (aCons (fC (.int 0)) (aCons (fC (.int 0)) (aNil)))))))))))))
def m_law_k20 : Fn := fnOf false 5 b_law_k20
end PL
namespace TN
open PySem PySem.Spec PyProof.Rows L2

/-! ### how the pure data run -/
theorem two62 : (2 : Int) ^ 62 = 4611686018427387904 := by decide +kernel
theorem two63 : (2 : Int) ^ 63 = 9223372036854775808 := by decide +kernel
section
variable {α β : Type}
@[simp] theorem e_bok (a : α) (k : α → Out β) : (Out.ok a).bind k = k a := rfl
@[simp] theorem e_bno (k : α → Out β) : (Out.no).bind k = .no := rfl
@[simp] theorem e_bexc (c : Nat) (d : D) (k : α → Out β) : (Out.exc c d).bind k = .exc c d := rfl
@[simp] theorem e_ofs (a : α) : ofO (some a) = .ok a := rfl
@[simp] theorem e_ofn : ofO (none : Option α) = .no := rfl
@[simp] theorem e_noX (a : α) : noX (.ok a) = .ok a := rfl
end
section
variable (env : Ev) (i j : Nat) (d d' : D) (ds xs ys : List D) (r : R) (rs : List R)
@[simp] theorem e_var : fVar i env = (match env[i]? with
  | some (.val d) => .ok (.d d, env)
  | some (.own _) => .ok (.at_ i, env)
  | some (.par _) => .ok (.at_ i, env)
  | _ => .no) := rfl
@[simp] theorem e_c : fC d env = .ok (.d d, env) := rfl
@[simp] theorem e_opd1 : R.opd (.d d) = .d d := rfl
@[simp] theorem e_opd2 : R.opd (.new xs) = .d (.lst xs) := rfl
@[simp] theorem e_opd3 : R.opd (.at_ i) = .at_ i := rfl
@[simp] theorem e_der1 : R.der env (.d d) = some d := rfl
@[simp] theorem e_der2 : R.der env (.at_ i) = (match env[i]? with
  | some (.val d) => some d
  | some (.own xs) => some (.lst xs)
  | some (.par xs) => some (.lst xs)
  | _ => none) := by
  unfold R.der
  rfl
@[simp] theorem e_der3 : R.der env (.new xs) = none := rfl
@[simp] theorem e_fix1 : R.fix env (.d d) = some (d, env) := rfl
@[simp] theorem e_fix3 : R.fix env (.new xs) = none := rfl
@[simp] theorem e_r1 : R0.r (.d d) = .d d := rfl
@[simp] theorem e_r2 : R0.r (.tp xs) = .d (.tup xs) := rfl
@[simp] theorem e_r3 : R0.r (.ls xs) = .new xs := rfl
@[simp] theorem e_two {β : Type} (fa fb : F) (k : D → D → Ev → Out β) : fTwo fa fb k env = (fa env).bind fun p => (fb p.2).bind fun q =>
  (ofO (p.1.opd.der q.2)).bind fun x => (ofO (q.1.opd.der q.2)).bind fun y => k x y q.2 := rfl
@[simp] theorem e_bin (op : D → D → Out R0) (fa fb : F) : fBin op fa fb env = fTwo fa fb (fun x y e => (op x y).bind fun q => .ok (q.r, e)) env := rfl
@[simp] theorem e_bOf (f : F) : bOf f env = (f env).bind fun p => (match p.1 with
  | .d (.bl b) => .ok (b, p.2)
  | _ => .no) := rfl
@[simp] theorem e_notB (f : FB) : fNotB f env = (f env).bind fun p => .ok (!p.1, p.2) := rfl
@[simp] theorem e_andB (f g : FB) : fAndB f g env = (f env).bind fun p => if p.1 = true then g p.2 else .ok (false, p.2) := rfl
@[simp] theorem e_orB (f g : FB) : fOrB f g env = (f env).bind fun p => if p.1 = true then .ok (true, p.2) else g p.2 := rfl
@[simp] theorem e_andV (f g : F) : fAndV f g env = (bOf f env).bind fun p => if p.1 = true then g p.2 else .ok (.d (.bl false), p.2) := rfl
@[simp] theorem e_orV (f g : F) : fOrV f g env = (bOf f env).bind fun p => if p.1 = true then .ok (.d (.bl true), p.2) else g p.2 := rfl
@[simp] theorem e_notV (f : F) : fNotV f env = (bOf f env).bind fun p => .ok (.d (.bl (!p.1)), p.2) := rfl
@[simp] theorem e_if (c : FB) (f g : F) : fIf c f g env = (c env).bind fun p => if p.1 = true then f p.2 else g p.2 := rfl
@[simp] theorem e_chain (op op' : D → D → Out R0) (fa fb fc : F) : fChain op op' fa fb fc env = (fa env).bind fun p => (fb p.2).bind fun q => (ofO (p.1.opd.der q.2)).bind fun x => (ofO (q.1.opd.der q.2)).bind fun y =>
  (match op x y with
  | .ok (.d (.bl false)) => .ok (.d (.bl false), q.2)
  | .ok (.d (.bl true)) => (fc q.2).bind fun s => (ofO (q.1.opd.der s.2)).bind fun y => (ofO (s.1.opd.der s.2)).bind fun w => (op' y w).bind fun o => .ok (o.r, s.2)
  | _ => .no) := rfl
@[simp] theorem e_aNil : aNil env = .ok ([], env) := rfl
@[simp] theorem e_aCons (f : F) (g : FA) : aCons f g env = (f env).bind fun p => (g p.2).bind fun q => .ok (p.1.opd :: q.1, q.2) := rfl
@[simp] theorem e_tup (g : FA) : fTup g env = (g env).bind fun p => (match fixAll p.2 p.1 with
  | some (ds, e) => if ds.length ≤ 100000 then .ok (.d (.tup ds), e) else .no
  | none => .no) := rfl
@[simp] theorem e_lst (g : FA) : fLst g env = (g env).bind fun p => (match fixAll p.2 p.1 with
  | some (ds, e) => if ds.length ≤ 100000 then .ok (.new ds, e) else .no
  | none => .no) := rfl
@[simp] theorem e_fa0 : fixAll env [] = some ([], env) := rfl
@[simp] theorem e_fa1 : fixAll env (.d d :: rs) = (match fixAll env rs with
  | some (ds, e) => some (d :: ds, e)
  | none => none) := rfl
@[simp] theorem e_dct : fDct env = .ok (.d .dct, env) := rfl
@[simp] theorem e_oN : oNone env = .ok (none, env) := rfl
@[simp] theorem e_oS (f : F) : oSome f env = (f env).bind fun p => (match p.1 with
  | .d (.int i) => .ok (some i, p.2)
  | _ => .no) := rfl
@[simp] theorem e_sl (op : D → Option Int → Option Int → Out R0) (f : F) (lo hi : FO) : fSl op f lo hi env = (f env).bind fun p => (lo p.2).bind fun q => (hi q.2).bind fun s => (ofO (p.1.opd.der s.2)).bind fun x => (op x q.1 s.1).bind fun o => .ok (o.r, s.2) := rfl
@[simp] theorem e_da0 : derAll env [] = some [] := rfl
@[simp] theorem e_da1 : derAll env (r :: rs) = (match r.der env with
    | some d => (match derAll env rs with
      | some ds => some (d :: ds)
      | none => none)
    | none => none) := rfl
@[simp] theorem e_bi (op : List D → Out R0) (g : FA) : fBi op g env = (g env).bind fun p => (ofO (derAll p.2 p.1)).bind fun ds => (op ds).bind fun o => .ok (o.r, p.2) := rfl
@[simp] theorem e_putL (φ : Fn) : putL φ ds env i = (match env[i]? with
  | some (.own xs) => (φ (.lst xs :: ds)).bind fun s => .ok (s.1.r, env.set i (.own s.2))
  | some (.par xs) => (φ (.lst xs :: ds)).bind fun s => .ok (s.1.r, env.set i (.par s.2))
  | _ => .no) := rfl
@[simp] theorem e_ck0 (φ : Fn) : callK φ false rs env = (ofO (fixAll env rs)).bind fun q => (φ q.1).bind fun s => .ok (s.1.r, q.2) := rfl
@[simp] theorem e_ck1 (φ : Fn) : callK φ true (.at_ i :: rs) env = (ofO (fixAll env rs)).bind fun q => putL φ q.1 q.2 i := rfl
@[simp] theorem e_call (m : Bool) (φ : Fn) (g : FA) : fCall m φ g env = (g env).bind fun p => callK φ m p.1 p.2 := rfl
@[simp] theorem e_sNil : sNil env = .ok (.nx, env) := rfl
@[simp] theorem e_sCons (s t : S) : sCons s t env = (s env).bind fun p => (match p.1 with
  | .nx => t p.2
  | .ret r => .ok (.ret r, p.2)) := rfl
@[simp] theorem e_st1 : stored env (.d d) = some (.val d, env) := rfl
@[simp] theorem e_st2 : stored env (.new xs) = some (.own xs, env) := rfl
@[simp] theorem e_sSet (f : F) : sSet i f env = (f env).bind fun p => (ofO (stored p.2 p.1)).bind fun q => if i < q.2.length then .ok (.nx, q.2.set i q.1) else .no := rfl
@[simp] theorem e_sRet (f : F) : sRet f env = (f env).bind fun p => .ok (.ret p.1, p.2) := rfl
@[simp] theorem e_sRetN : sRetN env = .ok (.ret (.d .non), env) := rfl
@[simp] theorem e_sExpr (f : F) : sExpr f env = (f env).bind fun p => .ok (.nx, p.2) := rfl
@[simp] theorem e_sIf (c : FB) (s t : S) : sIf c s t env = (c env).bind fun p => if p.1 = true then s p.2 else t p.2 := rfl
@[simp] theorem e_it1 : D.items (.tup xs) = some xs := rfl
@[simp] theorem e_it2 : D.items (.lst xs) = some xs := rfl
@[simp] theorem e_it3 (ns : List Int) : D.items (.scr ns) = some (ns.map D.int) := rfl
@[simp] theorem e_seq (f : F) : fSeq f env = (f env).bind fun p => (ofO (p.1.opd.fix p.2)).bind fun q => (ofO q.1.items).bind fun ds => .ok (ds, q.2) := rfl
@[simp] theorem e_rng1 (g : FA) : fRng1 g env = (g env).bind fun p => (match derAll p.2 p.1 with
  | some [.int j] => if -4611686018427387904 ≤ j ∧ j < 4611686018427387904 then .ok (rng 0 j, p.2) else .no
  | _ => .no) := by
  unfold fRng1
  rw [two62]
  try rfl
@[simp] theorem e_rng2 (g : FA) : fRng2 g env = (g env).bind fun p => (match derAll p.2 p.1 with
  | some [.int i, .int j] => if (-4611686018427387904 ≤ i ∧ i < 4611686018427387904) ∧ -4611686018427387904 ≤ j ∧ j < 4611686018427387904 then .ok (rng i j, p.2) else .no
  | _ => .no) := by
  unfold fRng2
  rw [two62]
  try rfl
@[simp] theorem e_gN : gN i d env = if i < env.length then some (env.set i (.val d)) else none := rfl
@[simp] theorem e_gT (is : List Nat) : gT is (.tup ds) env = gTs is ds env := rfl
@[simp] theorem e_gT0 : gTs [] [] env = some env := rfl
@[simp] theorem e_gT1 (is : List Nat) : gTs (i :: is) (d :: ds) env = (match gN i d env with
    | some e => gTs is ds e
    | none => none) := rfl
@[simp] theorem e_yes : bYes env = .ok (true, env) := rfl
@[simp] theorem e_ret1 : retOf env (.d d) = some (.d d) := rfl
@[simp] theorem e_ret2 : retOf env (.new xs) = some (.ls xs) := rfl
@[simp] theorem e_ret3 : retOf env (.at_ i) = (match env[i]? with
    | some (.val y) => some (.d y)
    | some (.own xs) => some (.ls xs)
    | _ => none) := rfl
@[simp] theorem e_par0 : parOf false env = some [] := rfl
@[simp] theorem e_par1 : parOf true env = (match env[(0 : Nat)]? with
  | some (.par xs) => some xs
  | _ => none) := rfl
@[simp] theorem e_stE0 (n : Nat) : startE false n ds = some (ds.map Sl.val ++ List.replicate (n - ds.length) .no) := rfl
@[simp] theorem e_stE1 (n : Nat) : startE true n (.lst xs :: ds) = some (.par xs :: ds.map Sl.val ++ List.replicate (n - (ds.length + 1)) .no) := rfl
@[simp] theorem e_fn (m : Bool) (n : Nat) (body : S) : fnOf m n body ds = (ofO (startE m n ds)).bind fun e => (body e).bind fun p => (match p.1 with
  | .nx => (ofO (parOf m p.2)).bind fun xs => .ok (.d .non, xs)
  | .ret r => (ofO (retOf p.2 r)).bind fun q => (ofO (parOf m p.2)).bind fun xs => .ok (q, xs)) := rfl
@[simp] theorem e_lstAt : lstAt env i = (match env[i]? with
  | some (.own xs) => some (xs, .own)
  | some (.par xs) => some (xs, .par)
  | _ => none) := rfl
@[simp] theorem e_app (f : F) : fApp i f env = (ofO (lstAt env i)).bind fun _ => (f env).bind fun p => (ofO (p.1.opd.fix p.2)).bind fun y => (ofO (lstAt y.2 i)).bind fun l =>
  if l.1.length < 100000 then .ok (.d .non, y.2.set i (l.2 (l.1 ++ [y.1]))) else .no := rfl
@[simp] theorem e_lrg (f : F) : fLRg1 f env = (f env).bind fun q => (match q.1 with
  | .d (.int j) => if 0 ≤ j ∧ j ≤ 100000 then .ok (.new (rng 0 j), q.2) else .no
  | _ => .no) := rfl
@[simp] theorem e_popI (f : F) : fPopI i f env = (ofO (lstAt env i)).bind fun _ => (f env).bind fun p => (match p.1 with
  | .d (.int j) => if -4611686018427387904 ≤ j ∧ j < 4611686018427387904 then (ofO (lstAt p.2 i)).bind fun l => (ofO (ixN l.1.length j)).bind fun m => (ofO l.1[m]?).bind fun d => .ok (.d d, p.2.set i (l.2 (l.1.eraseIdx m))) else .no
  | _ => .no) := by
  unfold fPopI
  rw [two62]
  try rfl
@[simp] theorem e_sSetIx (fi fv : F) : sSetIx i fi fv env = (fv env).bind fun p => (ofO (p.1.opd.fix p.2)).bind fun y => (ofO (lstAt y.2 i)).bind fun _ => (fi y.2).bind fun q => (match q.1 with
  | .d (.int j) => (ofO (lstAt q.2 i)).bind fun l => (ofO (ixN l.1.length j)).bind fun m => .ok (.nx, q.2.set i (l.2 (l.1.set m y.1)))
  | _ => .no) := rfl
@[simp] theorem e_sN1 : storeN (.d d) = some (.val d) := rfl
@[simp] theorem e_sN2 : storeN (.new xs) = some (.own xs) := rfl
@[simp] theorem e_sPar (fa fb : F) : sPar i j fa fb env = (fa env).bind fun p => (fb p.2).bind fun q => (ofO (storeN p.1)).bind fun a => (ofO (storeN q.1)).bind fun b =>
  if i < q.2.length ∧ j < q.2.length ∧ i ≠ j then .ok (.nx, (q.2.set i a).set j b) else .no := rfl
@[simp] theorem e_back (f : F) : fBack f env = (f env).bind fun p => (match p.1.opd.der p.2 with
  | some (.tup ds) => .ok (.d (.tup ds.reverse), p.2)
  | some (.lst ds) => .ok (.new ds.reverse, p.2)
  | _ => .no) := rfl
@[simp] theorem e_tru (f : F) : fTru f env = (f env).bind fun p => (ofO ((p.1.opd.der p.2).bind D.tru)).bind fun b => .ok (b, p.2) := rfl
@[simp] theorem e_trub (b : Bool) : D.tru (.bl b) = some b := rfl
@[simp] theorem e_oI (g : Int → Int → Option D) (a b : Int) : oI g (.int a) (.int b) = (match g a b with
    | some k => .ok (.d k)
    | none => .no) := rfl
@[simp] theorem e_add (a b : Int) : dAdd (.int a) (.int b) = .ok (.d (.int (a + b))) := rfl
@[simp] theorem e_mul (a b : Int) : dMul (.int a) (.int b) = (match gMul a b with
    | some k => .ok (.d k)
    | none => .no) := rfl
@[simp] theorem e_bInt (a : Int) : bInt [.int a] = .ok (.d (.int a)) := rfl
@[simp] theorem e_bIntb (b : Bool) : bInt [.bl b] = .ok (.d (.int (if b then 1 else 0))) := rfl
@[simp] theorem e_bAbs (a : Int) : bAbs [.int a] = .ok (.d (.int (if a < 0 then -a else a))) := rfl
@[simp] theorem e_bMax (a b : Int) : bMax [.int a, .int b] = .ok (.d (.int (if b > a then b else a))) := rfl
@[simp] theorem e_bMin (a b : Int) : bMin [.int a, .int b] = .ok (.d (.int (if b < a then b else a))) := rfl
@[simp] theorem e_bLen1 : bLen [.tup xs] = .ok (.d (.int xs.length)) := rfl
@[simp] theorem e_bLen2 : bLen [.lst xs] = .ok (.d (.int xs.length)) := rfl
@[simp] theorem e_bLen3 (ns : List Int) : bLen [.scr ns] = .ok (.d (.int ns.length)) := rfl
@[simp] theorem e_bTup1 : bTuple [.tup xs] = .ok (.d (.tup xs)) := rfl
@[simp] theorem e_bTup2 : bTuple [.lst xs] = .ok (.tp xs) := rfl
@[simp] theorem e_bLst1 : bList [.tup xs] = .ok (.ls xs) := rfl
@[simp] theorem e_bLst2 : bList [.lst xs] = .ok (.ls xs) := rfl
@[simp] theorem e_gm (a b : Int) : gMinus a b = some (.int (a - b)) := rfl
@[simp] theorem e_glt (a b : Int) : gLt a b = some (.bl (decide (a < b))) := rfl
@[simp] theorem e_gle (a b : Int) : gLe a b = some (.bl (decide (a ≤ b))) := rfl
@[simp] theorem e_ggt (a b : Int) : gGt a b = some (.bl (decide (b < a))) := rfl
@[simp] theorem e_gge (a b : Int) : gGe a b = some (.bl (decide (b ≤ a))) := rfl
@[simp] theorem e_ix1 (a : Int) : dIx (.tup xs) (.int a) = (match atI xs a with
    | some d => .ok (.d d)
    | none => .no) := rfl
@[simp] theorem e_ix2 (a : Int) : dIx (.lst xs) (.int a) = (match atI xs a with
    | some d => .ok (.d d)
    | none => .no) := rfl
@[simp] theorem e_ix3 (ns : List Int) (a : Int) : dIx (.scr ns) (.int a) = (match atI ns a with
    | some d => .ok (.d (.int d))
    | none => .no) := rfl
end
theorem e_gdiv {a b : Int} (h : 0 < b) (h2 : b < 1073741824) : gDiv a b = some (.int (a / b)) := if_pos ⟨h, h2⟩
theorem e_gmod {a b : Int} (h : 0 < b) : gMod a b = some (.int (a % b)) := if_pos h
theorem two64 : (2 : Int) ^ 64 = 18446744073709551616 := by decide +kernel
theorem e_gmulL {a b : Int} (h : -18446744073709551616 < a ∧ a < 18446744073709551616) : gMul a b = some (.int (a * b)) := if_pos (.inl (by rw [two64]; exact h))
theorem e_gmulR {a b : Int} (h : -18446744073709551616 < b ∧ b < 18446744073709551616) : gMul a b = some (.int (a * b)) := if_pos (.inr (by rw [two64]; exact h))
theorem e_gmulM {x m b : Int} (h : 0 < m ∧ m ≤ 18446744073709551616) : gMul (x % m) b = some (.int (x % m * b)) := by
  have h1 := Int.emod_nonneg x (show m ≠ 0 by omega)
  have h2 := Int.emod_lt_of_pos x h.1
  exact e_gmulL ⟨by omega, by omega⟩
@[simp] theorem e_at0 {α : Type} (x : α) (xs : List α) : atI (x :: xs) 0 = some x := atI_nat (j := 0) rfl
@[simp] theorem e_at1 {α : Type} (x y : α) (xs : List α) : atI (x :: y :: xs) 1 = some y := atI_nat (j := 1) rfl
@[simp] theorem e_at2 {α : Type} (x y z : α) (xs : List α) : atI (x :: y :: z :: xs) 2 = some z := atI_nat (j := 2) rfl
theorem e_atN {α : Type} (xs : List α) (i : Nat) : atI xs (i : Int) = xs[i]? := by
  unfold atI ixN
  by_cases h : i < xs.length
  · simp [h]
  · simp [h, List.getElem?_eq_none (Nat.le_of_not_lt h)]
theorem bits1 : Builtin.Int.intBits (10 : Int) * (55 : Int) ≤ 2 ^ 27 := by decide +kernel
theorem bits3 : Builtin.Int.intBits (10 : Int) * (16 : Int) ≤ 2 ^ 27 := by decide +kernel
theorem bits2 : Builtin.Int.intBits ((10 : Int) ^ (55 : Int).toNat) * (6 : Int) ≤ 2 ^ 27 := by decide +kernel
theorem powers : ∃ p q r : Int, gPow 10 55 = some (.int p) ∧ gPow p 6 = some (.int q) ∧ gPow 10 16 = some (.int r) ∧ 0 < q := by
  refine ⟨(10 : Int) ^ (55 : Int).toNat, ((10 : Int) ^ (55 : Int).toNat) ^ (6 : Int).toNat, (10 : Int) ^ (16 : Int).toNat, if_pos ⟨by omega, bits1⟩, if_pos ⟨by omega, bits2⟩, if_pos ⟨by omega, bits3⟩, ?_⟩
  exact Int.pow_pos (Int.pow_pos (by omega))
/-! ### lists of whole numbers -/
theorem toPyL_ints : ∀ ns : List Int, toPyL (ns.map D.int) = some (ns.map PyData.int)
  | [] => rfl
  | n :: ns => by
    show (match toPy (.int n) with
      | some p => match toPyL (ns.map D.int) with
        | some ps => some (p :: ps)
        | none => none
      | none => none) = _
    rw [toPyL_ints ns]
    rfl
theorem depth_ints : ∀ ns : List Int, PyData.depthAll (ns.map PyData.int) = 0
  | [] => by simp [PyData.depthAll]
  | n :: ns => by simp [PyData.depthAll, PyData.depth, depth_ints ns]
theorem eqvAll_ints : ∀ a b : List Int, PyData.eqvAll (a.map PyData.int) (b.map PyData.int) = decide (a = b)
  | [], [] => by simp [PyData.eqvAll]
  | [], y :: b => by simp [PyData.eqvAll]
  | x :: a, [] => by simp [PyData.eqvAll]
  | x :: a, y :: b => by
    simp only [List.map_cons, PyData.eqvAll, PyData.eqv, eqvAll_ints a b]
    by_cases h : x = y <;> by_cases h2 : a = b <;> simp [h, h2]
theorem toPy_lst (ns : List Int) : toPy (.lst (ns.map D.int)) = some (.list (ns.map PyData.int)) := by
  simp only [toPy, toPyL_ints]
theorem toPy_tup (ns : List Int) : toPy (.tup (ns.map D.int)) = some (.tuple (ns.map PyData.int)) := by
  simp only [toPy, toPyL_ints]
theorem dEq_lst (neg : Bool) (a b : List Int) : dEq neg (.lst (a.map D.int)) (.lst (b.map D.int)) = .ok (.d (.bl (if neg then !decide (a = b) else decide (a = b)))) := by
  unfold dEq
  rw [toPy_lst, toPy_lst]
  simp only [PyData.depth, depth_ints, PyData.eqv, eqvAll_ints]
  rfl
theorem dEq_nil (neg : Bool) (a : List Int) : dEq neg (.lst (a.map D.int)) (.lst []) = .ok (.d (.bl (if neg then !decide (a = []) else decide (a = [])))) := dEq_lst neg a []
theorem toInts_of : ∀ ns : List Int, toInts (ns.map D.int) = some ns
  | [] => rfl
  | n :: ns => by
    show (match toInts (ns.map D.int) with
      | some is => some (n :: is)
      | none => none) = _
    rw [toInts_of ns]
theorem bSorted_lst (ns : List Int) : bSorted [.lst (ns.map D.int)] = .ok (.ls ((sortI ns).map D.int)) := by
  simp only [bSorted, toInts_of]
theorem bSorted_tup (ns : List Int) : bSorted [.tup (ns.map D.int)] = .ok (.ls ((sortI ns).map D.int)) := by
  simp only [bSorted, toInts_of]
def rngI (n : Int) : List Int := (List.range n.toNat).map fun (k : Nat) => (k : Int)
theorem rng_eq (n : Int) : rng 0 n = (rngI n).map D.int := by
  unfold rng rngI
  rw [List.map_map, Int.sub_zero]
  exact List.map_congr_left fun k _ => by simp
theorem dMul_lst {ns : List Int} {k : Int} (h : -(2 ^ 63) ≤ k ∧ k < 2 ^ 63 ∧ (ns.map D.int).length * k.toNat ≤ 100000) : dMul (.lst (ns.map D.int)) (.int k) = .ok (.ls ((List.replicate k.toNat ns).flatten.map D.int)) := by
  show (if _ then _ else _) = _
  rw [if_pos h]
  simp
/-! ### a comprehension whose parts write nothing -/
theorem set_two {env : Ev} {v : Nat} {a b : Sl} : (env.set v a).set v b = env.set v b := List.set_set ..
theorem lcF_pure {c : FB} {f : F} {v : Nat} {env : Ev} (p : D → Bool) (y : D → D) (hv : v < env.length) : ∀ {ds : List D}
    (hc : ∀ d ∈ ds, c (env.set v (.val d)) = .ok (p d, env.set v (.val d)))
    (hf : ∀ d ∈ ds, p d = true → ∃ r, f (env.set v (.val d)) = .ok (r, env.set v (.val d)) ∧ r.opd.fix (env.set v (.val d)) = some (y d, env.set v (.val d)))
    {e : Ev} (he : e.set v .no = env.set v .no), ∃ e', lcF (gN v) c f [v] ds e = .ok ((ds.filter p).map y, e') ∧ e'.set v .no = env.set v .no
  | [], _, _, e, he => ⟨e, rfl, he⟩
  | d :: ds, hc, hf, e, he => by
    have hl : v < (wipeE e [v]).length := by
      show v < (e.set v .no).length
      rw [he, List.length_set]
      exact hv
    have h1 : gN v d (wipeE e [v]) = some (env.set v (.val d)) := by
      unfold gN
      rw [if_pos hl]
      show some ((e.set v .no).set v (.val d)) = _
      rw [he, set_two]
    have back : (env.set v (.val d)).set v .no = env.set v .no := set_two
    obtain ⟨e', i1, i2⟩ := lcF_pure (env := env) p y hv (fun d m => hc d (List.mem_cons_of_mem _ m)) (fun d m => hf d (List.mem_cons_of_mem _ m)) back
    have h2 := hc d List.mem_cons_self
    by_cases q : p d = true
    · obtain ⟨r, f1, f2⟩ := hf d List.mem_cons_self q
      refine ⟨e', ?_, i2⟩
      show (ofO (gN v d (wipeE e [v]))).bind _ = _
      rw [h1]
      show (noX (c (env.set v (.val d)))).bind _ = _
      rw [h2]
      show (if p d = true then _ else _) = _
      rw [if_pos q, f1]
      show (ofO (r.opd.fix (env.set v (.val d)))).bind _ = _
      rw [f2]
      show (lcF (gN v) c f [v] ds (env.set v (.val d))).bind _ = _
      rw [i1, List.filter_cons_of_pos q]
      rfl
    · refine ⟨e', ?_, i2⟩
      show (ofO (gN v d (wipeE e [v]))).bind _ = _
      rw [h1]
      show (noX (c (env.set v (.val d)))).bind _ = _
      rw [h2]
      show (if p d = true then _ else _) = _
      rw [if_neg q, List.filter_cons_of_neg q]
      exact i1
theorem rst_back {env e : Ev} {v : Nat} {s : Sl} (hs : env[v]? = some s) (hw : s.ow = false) (he : e.set v .no = env.set v .no) : rstF (oldS env) [v] 0 (wipeE e [v]) = env := by
  apply List.ext_getElem?
  intro i
  have hv : v < env.length := getElem?_lt hs
  rw [rstF_get, Nat.zero_add]
  show ((e.set v .no)[i]?).map _ = _
  rw [he]
  by_cases q : i = v
  · subst q
    rw [List.getElem?_set_self hv, hs]
    show some (if List.contains [i] i = true then oldS env i else _) = some s
    rw [if_pos (by simp)]
    unfold oldS
    rw [hs]
    cases s <;> first | rfl | cases hw
  · rw [List.getElem?_set_ne (fun w => q w.symm)]
    cases h : env[i]? with
    | none => rfl
    | some t =>
      show some (if List.contains [v] i = true then _ else t) = some t
      rw [if_neg (by simpa using q)]
theorem fLc_pure {fi : FI} {c : FB} {f : F} {v : Nat} {e0 env : Ev} {ds : List D} {s : Sl} (p : D → Bool) (y : D → D) (h0 : fi e0 = .ok (ds, env)) (hl : ds.length ≤ 100000) (hs : env[v]? = some s) (hw : s.ow = false)
    (hc : ∀ d ∈ ds, c (env.set v (.val d)) = .ok (p d, env.set v (.val d)))
    (hf : ∀ d ∈ ds, p d = true → ∃ r, f (env.set v (.val d)) = .ok (r, env.set v (.val d)) ∧ r.opd.fix (env.set v (.val d)) = some (y d, env.set v (.val d))) :
    fLc fi (gN v) c f [v] e0 = .ok (.new ((ds.filter p).map y), env) := by
  obtain ⟨e', h1, h2⟩ := lcF_pure (env := env) p y (getElem?_lt hs) hc hf rfl
  unfold fLc
  rw [h0]
  show (if ds.length ≤ 100000 then _ else _) = _
  rw [if_pos hl]
  show (lcF (gN v) c f [v] ds env).bind _ = _
  rw [h1]
  show Out.ok (R.new _, rstF (oldS env) [v] 0 (wipeE e' [v])) = _
  rw [rst_back hs hw h2]
theorem perm_pick : ∀ (l : List Int) (j : Nat) (h : j < l.length), (l[j] :: l.eraseIdx j).Perm l
  | x :: l, 0, _ => .refl _
  | x :: l, j + 1, h => ((List.Perm.swap ..).trans ((perm_pick l j (Nat.lt_of_succ_lt_succ h)).cons x))
theorem erase_map {α β : Type} (f : α → β) : ∀ (l : List α) (j : Nat), (l.map f).eraseIdx j = (l.eraseIdx j).map f
  | [], _ => rfl
  | _ :: _, 0 => rfl
  | x :: l, j + 1 => congrArg (f x :: ·) (erase_map f l j)
theorem ixN_nat {n j : Nat} (h : j < n) : ixN n (j : Int) = some j := by
  unfold ixN
  rw [if_pos (by omega), if_pos (by omega)]
  simp
theorem forF_all {ga : GA} {s : S} {I : Ev → Prop} : ∀ {ds : List D} {e : Ev}, I e → (∀ d ∈ ds, ∀ e, I e → ∃ e' e'', ga d e = some e' ∧ s e' = .ok (.nx, e'') ∧ I e'') → ∃ e', forF ga s ds e = .ok (.nx, e') ∧ I e'
  | [], e, h, _ => ⟨e, rfl, h⟩
  | d :: ds, e, h, hs => by
    obtain ⟨e1, e2, h1, h2, h3⟩ := hs d List.mem_cons_self e h
    obtain ⟨e3, h4, h5⟩ := forF_all h3 fun d m => hs d (List.mem_cons_of_mem _ m)
    refine ⟨e3, ?_, h5⟩
    show (ofO (ga d e)).bind _ = _
    rw [h1]
    show (s e1).bind _ = _
    rw [h2]
    exact h4
@[simp] theorem e_for (fi : FI) (ga : GA) (s : S) (env : Ev) : sFor fi ga s env = (fi env).bind fun p => forF ga s p.1 p.2 := rfl
@[simp] theorem e_while (c : FB) (s : S) (env : Ev) : sWhile c s env = whileF c s turns env := rfl
theorem lt_turns {n : Nat} (h : n ≤ 1000) : n < turns := Nat.lt_of_le_of_lt h (by decide)
theorem dSl_tup (ds : List D) (lo hi : Option Int) : ∃ q ys, dSl (.tup ds) lo hi = .ok q ∧ q.r = .d (.tup ys) ∧ ys.length ≤ ds.length ∧ ∀ y ∈ ys, y ∈ ds := by
  by_cases h : HT.sIx ds.length 0 lo = 0 ∧ HT.sIx ds.length ds.length hi = ds.length
  · exact ⟨.d (.tup ds), ds, if_pos h, rfl, Nat.le_refl _, fun _ m => m⟩
  · exact ⟨.tp (cutD ds lo hi), cutD ds lo hi, if_neg h, rfl, by unfold cutD; simp only [List.length_take, List.length_drop]; omega, fun _ m => List.mem_of_mem_drop (List.mem_of_mem_take m)⟩
theorem dAdd_tup (a b : List D) (h : a.length + b.length ≤ 100000) : ∃ q, dAdd (.tup a) (.tup b) = .ok q ∧ q.r = .d (.tup (a ++ b)) := by
  unfold dAdd
  simp only
  rw [if_pos h]
  cases a with
  | nil => exact ⟨_, rfl, rfl⟩
  | cons x a => cases b with
    | nil => exact ⟨_, rfl, by simp⟩
    | cons y b => exact ⟨_, rfl, rfl⟩
theorem dAdd_lst (a b : List D) (h : a.length + b.length ≤ 100000) : dAdd (.lst a) (.lst b) = .ok (.ls (a ++ b)) := by
  unfold dAdd
  simp only
  rw [if_pos h]
theorem toBls_of {α : Type} (g : α → Bool) : ∀ xs : List α, toBls (xs.map fun x => D.bl (g x)) = some (xs.map g)
  | [] => rfl
  | x :: xs => by
    simp only [List.map_cons, toBls, toBls_of g xs]
theorem bAll_map {α : Type} (g : α → Bool) (xs : List α) : bAll [.lst (xs.map fun x => D.bl (g x))] = .ok (.d (.bl (xs.all g))) := by
  simp only [bAll]
  rw [toBls_of]
  simp only [List.all_map]
  rfl
theorem sortI_length (l : List Int) : (sortI l).length = l.length := (sortI_perm l).length_eq
theorem sortI_congr {a b : List Int} (h : a.Perm b) : sortI a = sortI b := sorted_unique ((sortI_perm a).trans (h.trans (sortI_perm b).symm)) (sortI_sorted a) (sortI_sorted b)
theorem rngI_length (n : Int) : (rngI n).length = n.toNat := by
  unfold rngI
  rw [List.length_map, List.length_range]
theorem rngI_mem {n x : Int} (h : x ∈ rngI n) : 0 ≤ x ∧ x < n := by
  unfold rngI at h
  obtain ⟨k, h1, rfl⟩ := List.mem_map.mp h
  have := List.mem_range.mp h1
  omega
@[simp] theorem e_un (g : Int → Int) (f : F) (env : Ev) : fUn g f env = (f env).bind fun p => (match p.1 with
  | .d (.int i) => .ok (.d (.int (g i)), p.2)
  | _ => .no) := rfl
theorem forF_idx {ga : GA} {s : S} {I : Nat → Ev → Prop} {m : Nat} : ∀ {ds : List D} {k : Nat} {e : Ev}, I k e → k + ds.length ≤ m → (∀ d ∈ ds, ∀ k e, k < m → I k e → ∃ e' e'', ga d e = some e' ∧ s e' = .ok (.nx, e'') ∧ I (k + 1) e'') → ∃ e', forF ga s ds e = .ok (.nx, e') ∧ I (k + ds.length) e'
  | [], k, e, h, _, _ => ⟨e, rfl, h⟩
  | d :: ds, k, e, h, hm, hs => by
    rw [List.length_cons] at hm
    obtain ⟨e1, e2, h1, h2, h3⟩ := hs d List.mem_cons_self k e (by omega) h
    obtain ⟨e3, h4, h5⟩ := forF_idx (m := m) h3 (by omega) fun d m => hs d (List.mem_cons_of_mem _ m)
    refine ⟨e3, ?_, by rw [List.length_cons, ← Nat.add_assoc, Nat.add_right_comm]; exact h5⟩
    show (ofO (ga d e)).bind _ = _
    rw [h1]
    show (s e1).bind _ = _
    rw [h2]
    exact h4
/-! ### an urn -/
def Urn (xs : List D) : Prop := ∃ a b c : Int, xs = [.int a, .int b, .int c]
end TN
namespace TN
open PySem PySem.Spec PyProof.Rows L2
/-! ### how the pure data run, second part: the class, methods of tuples, zip, enumerate -/
section
variable (env : Ev) (i j c : Nat) (d d' : D) (ds xs ys : List D) (r : R) (rs : List R)
@[simp] theorem e_fAt (g : F) : fAt c j g env = (g env).bind fun p => (match p.1 with
  | .d (.obj c' ds) => if c' = c then (ofO ds[j]?).bind fun d => .ok (.d d, p.2) else .no
  | _ => .no) := rfl
@[simp] theorem e_fMk (ι : In) (g : FA) : fMk c ι g env = (g env).bind fun p => (ofO (fixAll p.2 p.1)).bind fun q => (ι q.1).bind fun fs => .ok (.d (.obj c fs), q.2) := rfl
@[simp] theorem e_eqO (φ : Fn) (neg : Bool) (fa fb : F) : fEqO c φ neg fa fb env = fTwo fa fb (kEqO c φ neg) env := rfl
theorem e_kEqO (φ : Fn) (neg : Bool) (e : Ev) : kEqO c φ neg (.obj c xs) (.obj c ys) e = (φ [.obj c xs, .obj c ys]).bind fun s => (match s.1 with
      | .d (.bl r) => .ok (.d (.bl (if neg then !r else r)), e)
      | _ => .no) := if_pos ⟨rfl, rfl⟩
@[simp] theorem e_mtT (op : List D → List D → Out R0) (f : F) (g : FA) : fMtT op f g env = (f env).bind fun p => (match p.1 with
  | .d (.tup ds) => (g p.2).bind fun q => (ofO (derAll q.2 q.1)).bind fun xs => (op ds xs).bind fun o => .ok (o.r, q.2)
  | _ => .no) := rfl
@[simp] theorem e_zip (g : FA) : fZip g env = (g env).bind fun p => (match fixAll p.2 p.1 with
  | some ([.tup a, .tup b], e) => .ok (List.zipWith (fun x y => D.wtup [x, y]) a b, e)
  | some ([.lst a, .lst b], e) => .ok (List.zipWith (fun x y => D.wtup [x, y]) a b, e)
  | _ => .no) := rfl
@[simp] theorem e_enumA (g : FA) : fEnumA g env = (g env).bind fun p => (match fixAll p.2 p.1 with
  | some ([.lst ds], e) => .ok (enumD 0 ds, e)
  | some ([.tup ds], e) => .ok (enumD 0 ds, e)
  | _ => .no) := rfl
@[simp] theorem e_gTw (is : List Nat) : gT is (.wtup ds) env = gTs is ds env := rfl
@[simp] theorem e_bits (f : F) : fBits f env = (f env).bind fun p => (match p.1 with
  | .d (.int i) => .ok (.d (.int (Builtin.Int.intBits i : Nat)), p.2)
  | _ => .no) := rfl
@[simp] theorem e_sAsg (ga : GA) (f : F) : sAsg ga f env = (f env).bind fun p => (ofO (p.1.opd.fix p.2)).bind fun y => (ofO (ga y.1 y.2)).bind fun e => .ok (.nx, e) := rfl
@[simp] theorem e_never : sNever env = .no := rfl
@[simp] theorem e_dLt (a b : Int) : dLt (.int a) (.int b) = .ok (.d (.bl (decide (a < b)))) := rfl
theorem e_dLtT (ns ms : List Int) : dLt (.tup (ns.map D.int)) (.tup (ms.map D.int)) = .ok (.d (.bl (HT.lexLt ns ms))) := by
  simp only [dLt, toInts_of]
theorem e_isiO (xs : List D) : bIsiC [.obj 0 xs, .cls 0] = .ok (.d (.bl true)) := rfl
@[simp] theorem e_g0 : gAll [] env = .ok env := rfl
@[simp] theorem e_g1 (t : FB) (ts : List FB) : gAll (t :: ts) env = (t env).bind fun p => if p.1 = true then .no else gAll ts p.2 := rfl
@[simp] theorem e_init (n : Nat) (is : List Nat) (gs : List FB) : initF n is gs ds = (gAll gs (.no :: ds.map Sl.val ++ List.replicate (n - (ds.length + 1)) .no)).bind fun e => ofO (valsAt e is) := rfl
@[simp] theorem e_va0 : valsAt env [] = some [] := rfl
@[simp] theorem e_va1 (is : List Nat) : valsAt env (i :: is) = (match env[i]? with
    | some (.val d) => (match valsAt env is with
      | some ds => some (d :: ds)
      | none => none)
    | _ => none) := rfl
theorem mIdx_of {ns : List Int} {k : Int} {j : Nat} (h : firstI k 0 ns 0 = some j) : mIdx (ns.map D.int) [.int k] = .ok (.d (.int (j : Nat))) := by
  simp only [mIdx, toInts_of, h]
theorem mIdx_from {ns : List Int} {k a : Int} {j : Nat} (ha : 0 ≤ a) (h : firstI k a.toNat ns 0 = some j) : mIdx (ns.map D.int) [.int k, .int a] = .ok (.d (.int (j : Nat))) := by
  simp only [mIdx, toInts_of, h]
  rw [if_pos ha]
theorem mCnt_of (ns : List Int) (k : Int) : mCnt (ns.map D.int) [.int k] = .ok (.d (.int (ns.count k : Nat))) := by
  simp only [mCnt, toInts_of]
end
end TN
namespace TN
open PySem PySem.Spec PyProof.Rows L2
/-! ### a comprehension whose parts write nothing, any target -/
theorem lcF_gen {ga : GA} {c : FB} {f : F} {vs : List Nat} {w : Ev} (p : D → Bool) (y : D → D) (en : D → Ev) : ∀ {ds : List D}
    (hg : ∀ d ∈ ds, ga d w = some (en d) ∧ wipeE (en d) vs = w) (hc : ∀ d ∈ ds, c (en d) = .ok (p d, en d))
    (hf : ∀ d ∈ ds, p d = true → ∃ r, f (en d) = .ok (r, en d) ∧ r.opd.fix (en d) = some (y d, en d))
    {e : Ev} (he : wipeE e vs = w), ∃ e', lcF ga c f vs ds e = .ok ((ds.filter p).map y, e') ∧ wipeE e' vs = w
  | [], _, _, _, e, he => ⟨e, rfl, he⟩
  | d :: ds, hg, hc, hf, e, he => by
    obtain ⟨h1, back⟩ := hg d List.mem_cons_self
    obtain ⟨e', i1, i2⟩ := lcF_gen p y en (fun d m => hg d (List.mem_cons_of_mem _ m)) (fun d m => hc d (List.mem_cons_of_mem _ m)) (fun d m => hf d (List.mem_cons_of_mem _ m)) back
    have h2 := hc d List.mem_cons_self
    refine ⟨e', ?_, i2⟩
    show (ofO (ga d (wipeE e vs))).bind _ = _
    rw [he, h1]
    show (noX (c (en d))).bind _ = _
    rw [h2]
    show (if p d = true then _ else _) = _
    by_cases q : p d = true
    · obtain ⟨r, f1, f2⟩ := hf d List.mem_cons_self q
      rw [if_pos q, f1]
      show (ofO (r.opd.fix (en d))).bind _ = _
      rw [f2]
      show (lcF ga c f vs ds (en d)).bind _ = _
      rw [i1, List.filter_cons_of_pos q]
      rfl
    · rw [if_neg q, List.filter_cons_of_neg q]
      exact i1
theorem wipeE_get {env : Ev} {i : Nat} : ∀ {vs : List Nat}, i ∉ vs → (wipeE env vs)[i]? = env[i]?
  | [], _ => rfl
  | v :: vs, h => by
    have h1 : v ≠ i := fun e => h (by rw [e]; exact List.mem_cons_self)
    show ((wipeE env vs).set v .no)[i]? = _
    rw [List.getElem?_set_ne h1]
    exact wipeE_get fun m => h (List.mem_cons_of_mem _ m)
theorem wipeE_len {env : Ev} : ∀ vs : List Nat, (wipeE env vs).length = env.length
  | [] => rfl
  | v :: vs => by
    show ((wipeE env vs).set v .no).length = _
    rw [List.length_set]
    exact wipeE_len vs
theorem rst_gen {env e : Ev} {vs : List Nat} (hs : ∀ v ∈ vs, ∀ s, env[v]? = some s → s.ow = false) (he : wipeE e vs = wipeE env vs) : rstF (oldS env) vs 0 (wipeE e vs) = env := by
  apply List.ext_getElem?
  intro i
  rw [rstF_get, Nat.zero_add, he]
  by_cases q : i ∈ vs
  · cases h : env[i]? with
    | none =>
      rw [List.getElem?_eq_none (by rw [wipeE_len]; exact List.getElem?_eq_none_iff.mp h)]
      rfl
    | some s =>
      have hl : i < (wipeE env vs).length := by rw [wipeE_len]; exact getElem?_lt h
      rw [List.getElem?_eq_getElem hl]
      show some (if vs.contains i = true then oldS env i else _) = some s
      rw [if_pos (by simpa using q)]
      unfold oldS
      rw [h]
      have := hs i q s h
      cases s <;> first | rfl | cases this
  · rw [wipeE_get q]
    cases h : env[i]? with
    | none => rfl
    | some t =>
      show some (if vs.contains i = true then _ else t) = some t
      rw [if_neg (by simpa using q)]
theorem fLc_gen {fi : FI} {ga : GA} {c : FB} {f : F} {vs : List Nat} {e0 env : Ev} {ds : List D} (p : D → Bool) (y : D → D) (en : D → Ev) (h0 : fi e0 = .ok (ds, env)) (hl : ds.length ≤ 100000) (hs : ∀ v ∈ vs, ∀ s, env[v]? = some s → s.ow = false)
    (hg : ∀ d ∈ ds, ga d (wipeE env vs) = some (en d) ∧ wipeE (en d) vs = wipeE env vs) (hc : ∀ d ∈ ds, c (en d) = .ok (p d, en d))
    (hf : ∀ d ∈ ds, p d = true → ∃ r, f (en d) = .ok (r, en d) ∧ r.opd.fix (en d) = some (y d, en d)) :
    fLc fi ga c f vs e0 = .ok (.new ((ds.filter p).map y), env) := by
  obtain ⟨e', h1, h2⟩ := lcF_gen p y en hg hc hf rfl
  unfold fLc
  rw [h0]
  show (if ds.length ≤ 100000 then _ else _) = _
  rw [if_pos hl]
  show (lcF ga c f vs ds env).bind _ = _
  rw [h1]
  show Out.ok (R.new _, rstF (oldS env) vs 0 (wipeE e' vs)) = _
  rw [rst_gen hs h2]
end TN
namespace TN
open PySem PySem.Spec PyProof.Rows L2
@[simp] theorem e_gTl (is : List Nat) (ds : List D) (env : Ev) : gT is (.lst ds) env = gTs is ds env := rfl
/-! ### typed values as trees of data -/
class En (α : Type) [DecidableEq α] where
  d : α → D
  p : α → PyData
  k : Nat
  to : ∀ a, toPy (d a) = some (p a)
  dp : ∀ a, (p a).depth ≤ k
  eq : ∀ a b, PyData.eqv (p a) (p b) = decide (a = b)
section
variable {α β : Type} [DecidableEq α] [DecidableEq β]
theorem toPyL_en [E : En α] : ∀ l : List α, toPyL (l.map E.d) = some (l.map E.p)
  | [] => rfl
  | a :: l => by
    simp only [List.map_cons, toPyL, E.to a, toPyL_en l]
theorem depthAll_en [E : En α] : ∀ l : List α, PyData.depthAll (l.map E.p) ≤ E.k
  | [] => Nat.zero_le _
  | a :: l => by
    simp only [List.map_cons, PyData.depthAll]
    exact Nat.max_le.mpr ⟨E.dp a, depthAll_en l⟩
theorem eqvAll_en [E : En α] : ∀ a b : List α, PyData.eqvAll (a.map E.p) (b.map E.p) = decide (a = b)
  | [], [] => by simp [PyData.eqvAll]
  | [], y :: b => by simp [PyData.eqvAll]
  | x :: a, [] => by simp [PyData.eqvAll]
  | x :: a, y :: b => by
    simp only [List.map_cons, PyData.eqvAll, E.eq, eqvAll_en a b]
    by_cases h : x = y <;> by_cases h2 : a = b <;> simp [h, h2]
instance : En Int := ⟨.int, .int, 0, fun _ => rfl, fun _ => Nat.le_refl _, fun a b => by
  simp only [PyData.eqv]
  by_cases h : a = b <;> simp [h]⟩
instance [E : En α] : En (List α) := ⟨fun l => .tup (l.map E.d), fun l => .tuple (l.map E.p), E.k + 1, fun l => by simp only [toPy, toPyL_en], fun l => by
  simp only [PyData.depth]
  exact Nat.succ_le_succ (depthAll_en l), fun a b => by simp only [PyData.eqv, eqvAll_en]⟩
instance [E : En α] [F : En β] : En (α × β) := ⟨fun q => .tup [E.d q.1, F.d q.2], fun q => .tuple [E.p q.1, F.p q.2], max E.k F.k + 1, fun q => by
  simp only [toPy, toPyL, E.to, F.to], fun q => by
  simp only [PyData.depth, PyData.depthAll]
  have h1 := E.dp q.1
  have h2 := F.dp q.2
  omega, fun a b => by
  obtain ⟨a1, a2⟩ := a
  obtain ⟨b1, b2⟩ := b
  simp only [PyData.eqv, PyData.eqvAll, E.eq, F.eq, Bool.and_true, Prod.mk.injEq]
  by_cases h : a1 = b1 <;> by_cases h2 : a2 = b2 <;> simp [h, h2]⟩
theorem dEq_en [E : En α] (neg : Bool) (a b : α) (h : E.k ≤ 60) : dEq neg (E.d a) (E.d b) = .ok (.d (.bl (if neg then !decide (a = b) else decide (a = b)))) := by
  unfold dEq
  rw [E.to, E.to]
  simp only
  rw [if_pos (Nat.le_trans (E.dp a) h), E.eq]
theorem dEq_enL [E : En α] (neg : Bool) (a b : List α) (h : E.k ≤ 59) : dEq neg (.lst (a.map E.d)) (.lst (b.map E.d)) = .ok (.d (.bl (if neg then !decide (a = b) else decide (a = b)))) := by
  have t : ∀ l : List α, toPy (.lst (l.map E.d)) = some (.list (l.map E.p)) := fun l => by simp only [toPy, toPyL_en]
  unfold dEq
  rw [t, t]
  simp only
  have := depthAll_en (E := E) a
  rw [if_pos (by simp only [PyData.depth]; omega)]
  simp only [PyData.eqv, eqvAll_en]
end
def pD2 (p : Int × Int) : D := .tup [.int p.1, .int p.2]
theorem dEq_tupI (neg : Bool) (a b : List Int) : dEq neg (.tup (a.map D.int)) (.tup (b.map D.int)) = .ok (.d (.bl (if neg then !decide (a = b) else decide (a = b)))) := dEq_en (α := List Int) neg a b (by decide)
theorem dEq_pairs (neg : Bool) (a b : List (Int × Int)) : dEq neg (.tup (a.map pD2)) (.tup (b.map pD2)) = .ok (.d (.bl (if neg then !decide (a = b) else decide (a = b)))) := dEq_en (α := List (Int × Int)) neg a b (by decide)
theorem dEq_intN (neg : Bool) (a b : Int) : dEq neg (.int a) (.int b) = .ok (.d (.bl (if neg then !decide (a = b) else decide (a = b)))) := dEq_en (α := Int) neg a b (by decide)
/-! ### a comprehension over what is there, its parts writing nothing -/
theorem fLc_val {fi : FI} {c : FB} {f : F} {v : Nat} {env : Ev} {s : Sl} (ds : List D) (p : D → Bool) (y : D → D) (h0 : fi env = .ok (ds, env)) (hl : ds.length ≤ 100000) (hs : env[v]? = some s) (hw : s.ow = false)
    (hc : ∀ d ∈ ds, c (env.set v (.val d)) = .ok (p d, env.set v (.val d)))
    (hf : ∀ d ∈ ds, p d = true → ∃ r, f (env.set v (.val d)) = .ok (r, env.set v (.val d)) ∧ r.opd.fix (env.set v (.val d)) = some (y d, env.set v (.val d))) :
    fLc fi (gN v) c f [v] env = .ok (.new ((ds.filter p).map y), env) := fLc_pure p y h0 hl hs hw hc hf
/-- over whole numbers: typed -/
theorem fLc_I {α : Type} {fi : FI} {c : FB} {f : F} {v : Nat} {env : Ev} {s : Sl} (as : List α) (e : α → D) (p : α → Bool) (y : α → D) (h0 : fi env = .ok (as.map e, env)) (hl : as.length ≤ 100000) (hs : env[v]? = some s) (hw : s.ow = false)
    (hc : ∀ a ∈ as, c (env.set v (.val (e a))) = .ok (p a, env.set v (.val (e a))))
    (hf : ∀ a ∈ as, p a = true → ∃ r, f (env.set v (.val (e a))) = .ok (r, env.set v (.val (e a))) ∧ r.opd.fix (env.set v (.val (e a))) = some (y a, env.set v (.val (e a)))) :
    fLc fi (gN v) c f [v] env = .ok (.new ((as.filter p).map y), env) := by
  have hv : v < env.length := getElem?_lt hs
  have go : ∀ (as : List α), (∀ a ∈ as, c (env.set v (.val (e a))) = .ok (p a, env.set v (.val (e a)))) → (∀ a ∈ as, p a = true → ∃ r, f (env.set v (.val (e a))) = .ok (r, env.set v (.val (e a))) ∧ r.opd.fix (env.set v (.val (e a))) = some (y a, env.set v (.val (e a)))) →
      ∀ w : Ev, wipeE w [v] = wipeE env [v] → ∃ e', lcF (gN v) c f [v] (as.map e) w = .ok ((as.filter p).map y, e') ∧ wipeE e' [v] = wipeE env [v] := by
    intro as
    induction as with
    | nil => exact fun _ _ w hw => ⟨w, rfl, hw⟩
    | cons a as ih =>
      intro hc hf w hw
      have hg : gN v (e a) (wipeE w [v]) = some (env.set v (.val (e a))) := by
        rw [hw]
        unfold gN
        rw [if_pos (by show v < (env.set v .no).length; rw [List.length_set]; exact hv)]
        exact congrArg some set_two
      have back : wipeE (env.set v (.val (e a))) [v] = wipeE env [v] := set_two
      obtain ⟨e', i1, i2⟩ := ih (fun b m => hc b (List.mem_cons_of_mem _ m)) (fun b m => hf b (List.mem_cons_of_mem _ m)) _ back
      refine ⟨e', ?_, i2⟩
      show (ofO (gN v (e a) (wipeE w [v]))).bind _ = _
      rw [hg]
      show (noX (c (env.set v (.val (e a))))).bind _ = _
      rw [hc a List.mem_cons_self]
      show (if p a = true then _ else _) = _
      by_cases q : p a = true
      · obtain ⟨r, f1, f2⟩ := hf a List.mem_cons_self q
        rw [if_pos q, f1]
        show (ofO (r.opd.fix (env.set v (.val (e a))))).bind _ = _
        rw [f2]
        show (lcF (gN v) c f [v] (as.map e) (env.set v (.val (e a)))).bind _ = _
        rw [i1, List.filter_cons_of_pos q]
        rfl
      · rw [if_neg q, List.filter_cons_of_neg q]
        exact i1
  obtain ⟨e', h1, h2⟩ := go as hc hf env rfl
  unfold fLc
  rw [h0]
  show (if (as.map e).length ≤ 100000 then _ else _) = _
  rw [if_pos (by rw [List.length_map]; exact hl)]
  show (lcF (gN v) c f [v] (as.map e) env).bind _ = _
  rw [h1]
  show Out.ok (R.new _, rstF (oldS env) [v] 0 (wipeE e' [v])) = _
  rw [rst_gen (fun u m t ht => by
    rw [List.mem_singleton.mp m] at ht
    rw [hs] at ht
    cases ht
    exact hw) h2]
/-! ### two fors, the parts writing nothing -/
theorem in2F_I {α : Type} {c : FB} {f : F} {ga : GA} {vs : List Nat} {w : Ev} (e : α → D) (p : α → Bool) (y : α → D) (en : α → Ev) : ∀ (as : List α) (acc : List D) (e0 : Ev), wipeE e0 vs = w → acc.length + as.length ≤ 100000 →
    (∀ a ∈ as, ga (e a) w = some (en a) ∧ wipeE (en a) vs = w) → (∀ a ∈ as, c (en a) = .ok (p a, en a)) →
    (∀ a ∈ as, p a = true → ∃ r, f (en a) = .ok (r, en a) ∧ r.opd.fix (en a) = some (y a, en a)) →
    ∃ e', in2F ga c f vs (as.map e) acc e0 = .ok (acc ++ (as.filter p).map y, e') ∧ wipeE e' vs = w
  | [], acc, e0, hw, _, _, _, _ => ⟨e0, by simp [in2F], hw⟩
  | a :: as, acc, e0, hw, hl, hg, hc, hf => by
    obtain ⟨g1, g2⟩ := hg a List.mem_cons_self
    rw [List.length_cons] at hl
    show ∃ e', (ofO (ga (e a) (wipeE e0 vs))).bind _ = _ ∧ _
    rw [hw, g1]
    show ∃ e', (noX (c (en a))).bind _ = _ ∧ _
    rw [hc a List.mem_cons_self]
    show ∃ e', (if p a = true then _ else _) = _ ∧ _
    by_cases q : p a = true
    · obtain ⟨r, f1, f2⟩ := hf a List.mem_cons_self q
      obtain ⟨e', i1, i2⟩ := in2F_I e p y en as (acc ++ [y a]) (en a) g2 (by rw [List.length_append]; simp; omega) (fun b m => hg b (List.mem_cons_of_mem _ m)) (fun b m => hc b (List.mem_cons_of_mem _ m)) (fun b m => hf b (List.mem_cons_of_mem _ m))
      refine ⟨e', ?_, i2⟩
      rw [if_pos q, f1]
      show (ofO (r.opd.fix (en a))).bind _ = _
      rw [f2]
      show (if acc.length < 100000 then _ else _) = _
      rw [if_pos (by omega)]
      show in2F ga c f vs (as.map e) (acc ++ [y a]) (en a) = _
      rw [i1, List.filter_cons_of_pos q, List.map_cons, List.append_assoc]
      rfl
    · obtain ⟨e', i1, i2⟩ := in2F_I e p y en as acc (en a) g2 (by omega) (fun b m => hg b (List.mem_cons_of_mem _ m)) (fun b m => hc b (List.mem_cons_of_mem _ m)) (fun b m => hf b (List.mem_cons_of_mem _ m))
      refine ⟨e', ?_, i2⟩
      rw [if_neg q, List.filter_cons_of_neg q]
      exact i1
theorem wipeE_at (e : Ev) (i : Nat) : ∀ vs : List Nat, (wipeE e vs)[i]? = if i ∈ vs then (e[i]?).map (fun _ => Sl.no) else e[i]?
  | [] => by simp [wipeE]
  | v :: vs => by
    show ((wipeE e vs).set v .no)[i]? = _
    by_cases q : v = i
    · subst q
      rw [if_pos List.mem_cons_self]
      by_cases hl : v < e.length
      · rw [List.getElem?_set_self (by rw [wipeE_len]; exact hl), List.getElem?_eq_getElem hl]
        rfl
      · rw [List.getElem?_eq_none (by rw [List.length_set, wipeE_len]; omega), List.getElem?_eq_none (by omega)]
        rfl
    · rw [List.getElem?_set_ne q, wipeE_at e i vs]
      have : i ∈ v :: vs ↔ i ∈ vs := by
        rw [List.mem_cons]
        exact ⟨fun h => h.resolve_left fun e => q e.symm, .inr⟩
      by_cases m : i ∈ vs
      · rw [if_pos m, if_pos (this.mpr m)]
      · rw [if_neg m, if_neg (fun h => m (this.mp h))]
theorem wipe_more {e e' : Ev} {us vs : List Nat} (h : wipeE e us = wipeE e' us) (hs : ∀ i ∈ us, i ∈ vs) : wipeE e vs = wipeE e' vs := by
  have ln : e.length = e'.length := by
    have := congrArg List.length h
    rwa [wipeE_len, wipeE_len] at this
  apply List.ext_getElem?
  intro i
  rw [wipeE_at, wipeE_at]
  by_cases m : i ∈ vs
  · rw [if_pos m, if_pos m]
    by_cases q : i < e.length
    · rw [List.getElem?_eq_getElem q, List.getElem?_eq_getElem (ln ▸ q)]
      rfl
    · rw [List.getElem?_eq_none (by omega), List.getElem?_eq_none (by omega)]
  · rw [if_neg m, if_neg m]
    have := congrArg (fun l : Ev => l[i]?) h
    rw [wipeE_at, wipeE_at, if_neg (fun q => m (hs i q)), if_neg (fun q => m (hs i q))] at this
    exact this
theorem out2F_I {α β : Type} {c c1 : FB} {f : F} {fi1 : FI} {ga ga1 : GA} {vs vs1 : List Nat} {w : Ev} (hv : ∀ i ∈ vs1, i ∈ vs) (e : α → D) (p : α → Bool) (en : α → Ev) (bs : α → List β) (e1 : β → D) (p1 : α → β → Bool) (y : α → β → D) (en1 : α → β → Ev) : ∀ (as : List α) (acc : List D) (e0 : Ev), wipeE e0 vs = w →
    acc.length + (as.flatMap bs).length ≤ 100000 →
    (∀ a ∈ as, ga (e a) w = some (en a) ∧ wipeE (en a) vs = w) → (∀ a ∈ as, c (en a) = .ok (p a, en a)) →
    (∀ a ∈ as, p a = true → fi1 (en a) = .ok ((bs a).map e1, en a)) →
    (∀ a ∈ as, p a = true → ∀ b ∈ bs a, ga1 (e1 b) (wipeE (en a) vs1) = some (en1 a b) ∧ wipeE (en1 a b) vs1 = wipeE (en a) vs1) →
    (∀ a ∈ as, p a = true → ∀ b ∈ bs a, c1 (en1 a b) = .ok (p1 a b, en1 a b)) →
    (∀ a ∈ as, p a = true → ∀ b ∈ bs a, p1 a b = true → ∃ r, f (en1 a b) = .ok (r, en1 a b) ∧ r.opd.fix (en1 a b) = some (y a b, en1 a b)) →
    ∃ e', out2F ga c fi1 ga1 c1 f vs vs1 (as.map e) acc e0 = .ok (acc ++ ((as.filter p).flatMap fun a => ((bs a).filter (p1 a)).map (y a)), e') ∧ wipeE e' vs = w
  | [], acc, e0, hw, _, _, _, _, _, _, _ => ⟨e0, by simp [out2F], hw⟩
  | a :: as, acc, e0, hw, hl, hg, hc, hi, hg1, hc1, hf => by
    obtain ⟨g1, g2⟩ := hg a List.mem_cons_self
    rw [List.flatMap_cons, List.length_append] at hl
    show ∃ e', (ofO (ga (e a) (wipeE e0 vs))).bind _ = _ ∧ _
    rw [hw, g1]
    show ∃ e', (noX (c (en a))).bind _ = _ ∧ _
    rw [hc a List.mem_cons_self]
    show ∃ e', (if p a = true then _ else _) = _ ∧ _
    have more := fun acc e0 h1 h2 => out2F_I hv e p en bs e1 p1 y en1 as acc e0 h1 h2 (fun b m => hg b (List.mem_cons_of_mem _ m)) (fun b m => hc b (List.mem_cons_of_mem _ m)) (fun b m => hi b (List.mem_cons_of_mem _ m)) (fun b m => hg1 b (List.mem_cons_of_mem _ m)) (fun b m => hc1 b (List.mem_cons_of_mem _ m)) (fun b m => hf b (List.mem_cons_of_mem _ m))
    by_cases q : p a = true
    · obtain ⟨e2, i1, i2⟩ := in2F_I e1 (p1 a) (y a) (en1 a) (bs a) acc (en a) rfl (by omega) (hg1 a List.mem_cons_self q) (hc1 a List.mem_cons_self q) (hf a List.mem_cons_self q)
      have w2 : wipeE e2 vs = w := (wipe_more i2 hv).trans g2
      have lf : (((bs a).filter (p1 a)).map (y a)).length ≤ (bs a).length := by rw [List.length_map]; exact List.length_filter_le ..
      obtain ⟨e3, j1, j2⟩ := more (acc ++ ((bs a).filter (p1 a)).map (y a)) e2 w2 (by rw [List.length_append]; omega)
      refine ⟨e3, ?_, j2⟩
      rw [if_pos q, hi a List.mem_cons_self q]
      show (in2F ga1 c1 f vs1 ((bs a).map e1) acc (en a)).bind _ = _
      rw [i1]
      show out2F ga c fi1 ga1 c1 f vs vs1 (as.map e) _ e2 = _
      rw [j1, List.filter_cons_of_pos q, List.flatMap_cons, List.append_assoc]
    · obtain ⟨e3, j1, j2⟩ := more acc (en a) g2 (by omega)
      refine ⟨e3, ?_, j2⟩
      rw [if_neg q, List.filter_cons_of_neg q]
      exact j1
theorem fLc2_I {α β : Type} {fi : FI} {c c1 : FB} {f : F} {fi1 : FI} {ga ga1 : GA} {vs vs1 : List Nat} {env : Ev} (as : List α) (e : α → D) (p : α → Bool) (en : α → Ev) (bs : α → List β) (e1 : β → D) (p1 : α → β → Bool) (y : α → β → D) (en1 : α → β → Ev)
    (hv : ∀ i ∈ vs1, i ∈ vs) (h0 : fi env = .ok (as.map e, env)) (hl : (as.flatMap bs).length ≤ 100000) (hs : ∀ v ∈ vs, ∀ s, env[v]? = some s → s.ow = false)
    (hg : ∀ a ∈ as, ga (e a) (wipeE env vs) = some (en a) ∧ wipeE (en a) vs = wipeE env vs) (hc : ∀ a ∈ as, c (en a) = .ok (p a, en a))
    (hi : ∀ a ∈ as, p a = true → fi1 (en a) = .ok ((bs a).map e1, en a))
    (hg1 : ∀ a ∈ as, p a = true → ∀ b ∈ bs a, ga1 (e1 b) (wipeE (en a) vs1) = some (en1 a b) ∧ wipeE (en1 a b) vs1 = wipeE (en a) vs1)
    (hc1 : ∀ a ∈ as, p a = true → ∀ b ∈ bs a, c1 (en1 a b) = .ok (p1 a b, en1 a b))
    (hf : ∀ a ∈ as, p a = true → ∀ b ∈ bs a, p1 a b = true → ∃ r, f (en1 a b) = .ok (r, en1 a b) ∧ r.opd.fix (en1 a b) = some (y a b, en1 a b)) :
    fLc2 fi ga c fi1 ga1 c1 f vs vs1 env = .ok (.new ((as.filter p).flatMap fun a => ((bs a).filter (p1 a)).map (y a)), env) := by
  obtain ⟨e', h1, h2⟩ := out2F_I hv e p en bs e1 p1 y en1 as [] env rfl (by simpa using hl) hg hc hi hg1 hc1 hf
  unfold fLc2
  rw [h0]
  show (out2F ga c fi1 ga1 c1 f vs vs1 (as.map e) [] env).bind _ = _
  rw [h1]
  show Out.ok (R.new _, rstF (oldS env) vs 0 (wipeE e' vs)) = _
  rw [rst_gen hs h2, List.nil_append]
/-- any target, typed, what is gone over being frozen -/
theorem fLc_T0 {α : Type} {fi : FI} {ga : GA} {c : FB} {f : F} {vs : List Nat} {e0 env : Ev} (as : List α) (e : α → D) (p : α → Bool) (y : α → D) (en : α → Ev) (h0 : fi e0 = .ok (as.map e, env)) (hl : as.length ≤ 100000) (hs : ∀ v ∈ vs, ∀ s, env[v]? = some s → s.ow = false)
    (hg : ∀ a ∈ as, ga (e a) (wipeE env vs) = some (en a) ∧ wipeE (en a) vs = wipeE env vs) (hc : ∀ a ∈ as, c (en a) = .ok (p a, en a))
    (hf : ∀ a ∈ as, p a = true → ∃ r, f (en a) = .ok (r, en a) ∧ r.opd.fix (en a) = some (y a, en a)) :
    fLc fi ga c f vs e0 = .ok (.new ((as.filter p).map y), env) := by
  have go : ∀ (as : List α), (∀ a ∈ as, ga (e a) (wipeE env vs) = some (en a) ∧ wipeE (en a) vs = wipeE env vs) → (∀ a ∈ as, c (en a) = .ok (p a, en a)) → (∀ a ∈ as, p a = true → ∃ r, f (en a) = .ok (r, en a) ∧ r.opd.fix (en a) = some (y a, en a)) →
      ∀ w : Ev, wipeE w vs = wipeE env vs → ∃ e', lcF ga c f vs (as.map e) w = .ok ((as.filter p).map y, e') ∧ wipeE e' vs = wipeE env vs := by
    intro as
    induction as with
    | nil => exact fun _ _ _ w hw => ⟨w, rfl, hw⟩
    | cons a as ih =>
      intro hg hc hf w hw
      obtain ⟨g1, g2⟩ := hg a List.mem_cons_self
      obtain ⟨e', i1, i2⟩ := ih (fun b m => hg b (List.mem_cons_of_mem _ m)) (fun b m => hc b (List.mem_cons_of_mem _ m)) (fun b m => hf b (List.mem_cons_of_mem _ m)) _ g2
      refine ⟨e', ?_, i2⟩
      show (ofO (ga (e a) (wipeE w vs))).bind _ = _
      rw [hw, g1]
      show (noX (c (en a))).bind _ = _
      rw [hc a List.mem_cons_self]
      show (if p a = true then _ else _) = _
      by_cases q : p a = true
      · obtain ⟨r, f1, f2⟩ := hf a List.mem_cons_self q
        rw [if_pos q, f1]
        show (ofO (r.opd.fix (en a))).bind _ = _
        rw [f2]
        show (lcF ga c f vs (as.map e) (en a)).bind _ = _
        rw [i1, List.filter_cons_of_pos q]
        rfl
      · rw [if_neg q, List.filter_cons_of_neg q]
        exact i1
  obtain ⟨e', h1, h2⟩ := go as hg hc hf env rfl
  unfold fLc
  rw [h0]
  show (if (as.map e).length ≤ 100000 then _ else _) = _
  rw [if_pos (by rw [List.length_map]; exact hl)]
  show (lcF ga c f vs (as.map e) env).bind _ = _
  rw [h1]
  show Out.ok (R.new _, rstF (oldS env) vs 0 (wipeE e' vs)) = _
  rw [rst_gen hs h2]
/-- any target, typed -/
theorem fLc_T {α : Type} {fi : FI} {ga : GA} {c : FB} {f : F} {vs : List Nat} {env : Ev} (as : List α) (e : α → D) (p : α → Bool) (y : α → D) (en : α → Ev) (h0 : fi env = .ok (as.map e, env)) (hl : as.length ≤ 100000) (hs : ∀ v ∈ vs, ∀ s, env[v]? = some s → s.ow = false)
    (hg : ∀ a ∈ as, ga (e a) (wipeE env vs) = some (en a) ∧ wipeE (en a) vs = wipeE env vs) (hc : ∀ a ∈ as, c (en a) = .ok (p a, en a))
    (hf : ∀ a ∈ as, p a = true → ∃ r, f (en a) = .ok (r, en a) ∧ r.opd.fix (en a) = some (y a, en a)) :
    fLc fi ga c f vs env = .ok (.new ((as.filter p).map y), env) := fLc_T0 as e p y en h0 hl hs hg hc hf
/-- a loop that goes on to its end -/
theorem forF_I {α σ : Type} {ga : GA} {s : S} (e : α → D) (step : σ → α → σ) (I : σ → Ev → Prop) : ∀ (as : List α) (t : σ) (w : Ev), I t w →
    (∀ a ∈ as, ∀ t w, I t w → ∃ w1 w2, ga (e a) w = some w1 ∧ s w1 = .ok (.nx, w2) ∧ I (step t a) w2) → ∃ w', forF ga s (as.map e) w = .ok (.nx, w') ∧ I (as.foldl step t) w'
  | [], t, w, h, _ => ⟨w, rfl, h⟩
  | a :: as, t, w, h, hs => by
    obtain ⟨w1, w2, h1, h2, h3⟩ := hs a List.mem_cons_self t w h
    obtain ⟨w3, h4, h5⟩ := forF_I e step I as _ w2 h3 fun b m => hs b (List.mem_cons_of_mem _ m)
    refine ⟨w3, ?_, h5⟩
    show (ofO (ga (e a) w)).bind _ = _
    rw [h1]
    show (s w1).bind _ = _
    rw [h2]
    exact h4
theorem foldl_app {α β : Type} (f : α → List β) : ∀ (as : List α) (s : List β), as.foldl (fun s a => s ++ f a) s = s ++ as.flatMap f
  | [], s => by simp
  | a :: as, s => by rw [List.foldl_cons, foldl_app f as, List.flatMap_cons, List.append_assoc]
theorem flatMap_le {α β : Type} {f : α → List β} {k : Nat} : ∀ {l : List α}, (∀ a ∈ l, (f a).length ≤ k) → (l.flatMap f).length ≤ l.length * k
  | [], _ => by simp
  | a :: l, h => by
    rw [List.flatMap_cons, List.length_append, List.length_cons, Nat.succ_mul]
    have h1 := h a List.mem_cons_self
    have h2 := flatMap_le (l := l) fun b m => h b (List.mem_cons_of_mem _ m)
    omega
/-! ### slices from a place on, up to a place -/
theorem sIx_nat' (n : Nat) (i : Nat) (d : Nat) : HT.sIx n d (some (i : Int)) = min i n := by
  have := HT.sIx_nat (n := n) (d := d) (k := i)
  simpa using this
theorem dSl_from (ds : List D) (i : Nat) : ∃ q, dSl (.tup ds) (some (i : Int)) none = .ok q ∧ q.r = .d (.tup (ds.drop i)) := by
  have e1 : HT.sIx ds.length 0 (some (i : Int)) = min i ds.length := sIx_nat' ..
  have e2 : HT.sIx ds.length ds.length none = ds.length := rfl
  by_cases h : HT.sIx ds.length 0 (some (i : Int)) = 0 ∧ HT.sIx ds.length ds.length none = ds.length
  · refine ⟨.d (.tup ds), if_pos h, ?_⟩
    have h1 := h.1
    rw [e1] at h1
    by_cases z : i = 0
    · subst z; rfl
    · have : ds.length = 0 := by omega
      have := List.eq_nil_of_length_eq_zero this
      subst this
      simp
  · refine ⟨.tp (cutD ds (some (i : Int)) none), if_neg h, ?_⟩
    show R.d (.tup _) = _
    unfold cutD
    rw [e1, e2]
    congr 2
    rw [List.take_of_length_le (by rw [List.length_drop]; omega)]
    by_cases z : i ≤ ds.length
    · rw [Nat.min_eq_left z]
    · rw [Nat.min_eq_right (by omega), List.drop_length, List.drop_eq_nil_of_le (by omega)]
theorem dSl_to (ds : List D) (i : Nat) : ∃ q, dSl (.tup ds) none (some (i : Int)) = .ok q ∧ q.r = .d (.tup (ds.take i)) := by
  have e1 : HT.sIx ds.length ds.length (some (i : Int)) = min i ds.length := sIx_nat' ..
  have e2 : HT.sIx ds.length 0 none = 0 := rfl
  by_cases h : HT.sIx ds.length 0 none = 0 ∧ HT.sIx ds.length ds.length (some (i : Int)) = ds.length
  · refine ⟨.d (.tup ds), if_pos h, ?_⟩
    have h1 := h.2
    rw [e1] at h1
    rw [List.take_of_length_le (by omega)]
    rfl
  · refine ⟨.tp (cutD ds none (some (i : Int))), if_neg h, ?_⟩
    show R.d (.tup _) = _
    unfold cutD
    rw [e1, e2, List.drop_zero, Nat.sub_zero]
    congr 2
    by_cases z : i ≤ ds.length
    · rw [Nat.min_eq_left z]
    · rw [Nat.min_eq_right (by omega), List.take_of_length_le (by omega), List.take_of_length_le (by omega)]
/-! ### in, of whole numbers -/
theorem dIn_ints (neg : Bool) (x : Int) (ns : List Int) : dIn neg (.int x) (.tup (ns.map D.int)) = .ok (.d (.bl (if neg then !ns.contains x else ns.contains x))) := by
  have any_ : (ns.map PyData.int).any (fun y => PyData.eqv y (.int x)) = ns.contains x := by
    rw [List.any_map]
    induction ns with
    | nil => rfl
    | cons n ns ih =>
      rw [List.any_cons, ih, List.contains_cons]
      congr 1
      simp only [Function.comp, PyData.eqv]
      by_cases h : n = x
      · subst h; simp
      · rw [beq_eq_false_iff_ne.mpr h, beq_eq_false_iff_ne.mpr (Ne.symm h)]
  unfold dIn
  rw [toPy_tup, show toPy (.int x) = some (.int x) from rfl]
  simp only [any_, PyData.depth]
  rfl
theorem first_idx {x : Int} : ∀ {ns : List Int} (i : Nat), x ∈ ns → firstI x 0 ns i = some (i + ns.idxOf x)
  | n :: ns, i, h => by
    show (if 0 ≤ i ∧ n = x then some i else firstI x 0 ns (i + 1)) = _
    by_cases e : n = x
    · subst e
      rw [if_pos ⟨Nat.zero_le _, rfl⟩]
      simp
    · rw [if_neg (fun q => e q.2)]
      rw [first_idx (i + 1) ((List.mem_cons.mp h).resolve_left fun q => e q.symm), List.idxOf_cons]
      rw [beq_eq_false_iff_ne.mpr e]
      simp
      omega
end TN
namespace TN
open PySem PySem.Spec PyProof.Rows L2
/-! ### x += e, x -= e of whole numbers -/
def sAugI (i : Nat) (g : Int → Int → Int) (f : F) : S := fun env => match env[i]? with
  | some (.val (.int a)) => (f env).bind fun p => match p.1 with
    | .d (.int b) => if i < p.2.length then .ok (.nx, p.2.set i (.val (.int (g a b)))) else .no
    | _ => .no
  | _ => .no
section
variable {X : Cx} {z : Z} {E : XK} {k n i : Nat} {e ei o : Expr} {f fi : F} {σ : L2.St} {H : Hp} {D : Ends} {pos tpos : Pos} {g : Int → Int → Int} {op : Operator}
theorem ts_augI (h : tS z E (sAugI i g f) D σ H) : tAug i (tE z E f) (ipI g) D σ H := by
  obtain ⟨T, G, env, r, h⟩ := h
  unfold sAugI at h
  split at h
  · rename_i a q
    have w := r.sl i _ q
    obtain ⟨v, e1, w⟩ := w
    cases w
    have e2 : σ[i]? = some (some (.int a)) := by
      cases hh : σ[i]? with
      | none => rw [hh] at e1; cases e1
      | some o => rw [hh] at e1; exact congrArg some e1
    refine ⟨_, e2, T, G, env, r, (Pg.bind h).imp fun p hp u H2 G2 r2 x2 w2 => ?_⟩
    obtain ⟨q1, q2⟩ := p
    dsimp only at hp
    split at hp
    · rename_i b
      have w2 : Is z.K z.cl G2 u (.int b) := w2
      cases w2
      split at hp
      · rename_i hi
        exact ⟨a, b, rfl, rfl, hp _ H2 G2 (r2.set ⟨_, rfl, .int _⟩ (fun q e => by cases e) hi) x2⟩
      · exact hp.elim
    · exact hp.elim
  · exact h.elim
theorem ws_augI {x : Str} {pos' : Pos} (o : OkX X z E k) (he : PE X e (tE z E f)) (ho : PIp X op (ipI g)) (hi : X.N[i]? = some x := by rfl) (hx : Loc X.env.scope x := by first | exact .inl rfl | exact .inr rfl) (hf : X.fn x = true ∨ X.env.scope.names.lookup x = some .local := by first | exact .inl rfl | exact .inr rfl) :
    PS X (.AugAssign (.Name x pos') op e pos) (tS z E (sAugI i g f)) := ps_mono (ps_aug o.nd hi hx he ho hf) fun _ _ _ h => ts_augI h
/-! ### x[i] += e -/
def rGetL : V → V → Hp → VK → Prop := fun o i H Q => ∃ p xs k v, o = .ref p ∧ i = .int k ∧ H p = some (.lst xs) ∧ atI xs k = some v ∧ Q v H
theorem get_list : PGet X rGetL := by
  intro pins s σ H o i ov iv Q I ro ri h
  obtain ⟨p, xs, k, v, rfl, rfl, hp, he, q⟩ := h
  cases ro
  obtain ⟨t, rfl⟩ := ri
  obtain ⟨its, r, pl, hz⟩ := I.list (SqL.of hp)
  obtain ⟨j, h1, h2, h3, h4, h5⟩ := atI_get he
  obtain ⟨w, ew, rw'⟩ := r.get h2
  have hl := r.length
  have hn := line63
  have fin : EP X pins σ Q w s := ⟨v, H, I, rw', q⟩
  by_cases h0 : 0 ≤ k
  · have hj : k.toNat = j := by
      rw [seqIndex_of h0 h5] at h1
      exact Option.some.inj h1
    exact wpAny_getItem_list (x := w) pl.isList h0 (by omega) (by rw [hj]; simpa using ew) fin
  · have hj : (k + (its.toArray.size : Int)).toNat = j := by
      rw [seqIndex_neg (by omega) h4] at h1
      rw [List.size_toArray, ← hl]
      exact Option.some.inj h1
    exact wpAny_getItem_list_neg (x := w) pl.isList (by omega) (by rw [List.size_toArray] <;> omega) (by omega) (by rw [hj]; simpa using ew) fin
def sAugS (i : Nat) (g : Int → Int → Int) (fi fv : F) : S := fun env => (ofO (lstAt env i)).bind fun _ => (fi env).bind fun q => match q.1 with
  | .d (.int j) => (ofO (lstAt q.2 i)).bind fun l => match atI l.1 j with
    | some (.int a) => (fv q.2).bind fun p => match p.1 with
      | .d (.int b) => (ofO (lstAt p.2 i)).bind fun l2 => (ofO (ixN l2.1.length j)).bind fun m => .ok (.nx, p.2.set i (l2.2 (l2.1.set m (.int (g a b)))))
      | _ => .no
    | _ => .no
  | _ => .no
theorem ts_augS (h : tS z E (sAugS i g fi f) D σ H) : tAugS (tVar i) (tE z E fi) (tE z E f) rGetL (ipI g) rSetL D σ H := by
  obtain ⟨T, G, env, r, h⟩ := h
  unfold sAugS at h
  obtain ⟨⟨xs0, mk0⟩, el0, h⟩ := (Pg.bind h).ofO
  obtain ⟨p0, vs0, es0, _, hp0, _, _⟩ := lstAt_ow r el0
  refine ⟨_, es0, T, G, env, r, (Pg.bind h).imp fun q hq u H2 G2 r2 x2 w2 => ?_⟩
  obtain ⟨q1, q2⟩ := q
  dsimp only at hq
  split at hq
  · rename_i j
    have w2 : Is z.K z.cl G2 u (.int j) := w2
    cases w2
    obtain ⟨⟨xs, mk⟩, el, hq⟩ := (Pg.bind hq).ofO
    obtain ⟨p, vs, es, _, hpp, a, st⟩ := lstAt_ow r2 el
    rw [es0] at es
    cases es
    dsimp only at hq
    split at hq
    · rename_i a' qa
      obtain ⟨v, hv, wv⟩ := atI_is a qa
      cases wv
      refine ⟨p0, vs, j, _, rfl, rfl, hpp, hv, T, G2, q2, r2, (Pg.bind hq).imp fun y hy u3 H3 G3 r3 x3 w3 => ?_⟩
      obtain ⟨y1, y2⟩ := y
      dsimp only at hy
      split at hy
      · rename_i b
        have w3 : Is z.K z.cl G3 u3 (.int b) := w3
        cases w3
        refine ⟨a', b, rfl, rfl, ?_⟩
        obtain ⟨⟨xs3, mk3⟩, el3, hy⟩ := (Pg.bind hy).ofO
        obtain ⟨m, em, hy⟩ := (Pg.bind hy).ofO
        obtain ⟨p3, vs3, es3, _, hpp3, a3, st3⟩ := lstAt_ow r3 el3
        rw [es0] at es3
        cases es3
        exact ⟨p0, vs3, j, m, rfl, rfl, hpp3, by rw [a3.length]; exact em, hy σ _ G3 (st3 _ _ (a3.set (.int _) m)) (x2.trans x3)⟩
      · exact hy.elim
    · exact hq.elim
  · exact hq.elim
theorem ws_augS {oe ie : Expr} (ho : PE X oe (tVar i)) (hi : PE X ie (tE z E fi)) (he : PE X e (tE z E f)) (hp : PIp X op (ipI g))
    (ha : ∀ ov iv new, augStore ie ov iv new = (do holding [new, ov, iv] (setItem ov iv new); release [new, ov, iv] []; pure .next) := by intros; rfl) : PS X (.AugAssign (.Subscript oe ie tpos) op e pos) (tS z E (sAugS i g fi f)) := ps_mono (ps_augS ho hi get_list he hp set_list ha) fun _ _ _ h => ts_augS h
end
/-! ### targets within targets -/
def gTg : List GA → List D → Ev → Option Ev
  | [], [], env => some env
  | g :: gs, d :: ds, env => match g d env with
    | some e => gTg gs ds e
    | none => none
  | _, _, _ => none
def gTn (gs : List GA) : GA := fun d env => match d with
  | .tup ds => gTg gs ds env
  | .wtup ds => gTg gs ds env
  | .lst ds => gTg gs ds env
  | _ => none
def tGg (z : Z) (is : List Nat) (gs : List GA) : TGs := fun vs σ H Q => ∃ T G env ds env', Rep z T G H env σ ∧ IsA z.K z.cl G vs ds ∧ gTg gs ds env = some env' ∧ ∀ σ', Rep z T G H env' σ' → (∀ vs, (∀ i ∈ is, i ∈ vs) → wipe σ' vs = wipe σ vs) → Q σ' H
section
variable {X : Cx} {z : Z} {es : List Expr} {pos : Pos}
theorem wgg_nil : PGs X [] (tGg z [] []) := ⟨fun pins s σ H vs us Q I r ⟨T, G, env, ds, env', rp, w, e, h⟩ => pgs_nil.run pins s σ H vs us Q I r (by
  cases w with
  | nil => cases e; exact ⟨rfl, h σ rp fun _ _ => rfl⟩
  | cons _ _ => cases e)⟩
theorem wgg_cons {e : Expr} {js is : List Nat} {g : GA} {gs : List GA} (h1 : PG X e (tG z js g)) (h2 : PGs X es (tGg z is gs)) (hs : (assignEach (e :: es) X.env).map (·.2) = assign e X.env :: (assignEach es X.env).map (·.2) := by rfl) : PGs X (e :: es) (tGg z (js ++ is) (g :: gs)) := by
  refine ⟨fun pins s σ H vs us Q I r ⟨T, G, env, ds, env', rp, w, ee, h⟩ => (pgs_cons h1 h2 hs).run pins s σ H vs us Q I r ?_⟩
  cases w with
  | nil => cases ee
  | @cons v vs d ds w ws =>
    simp only [gTg] at ee
    split at ee
    · rename_i e1 q
      refine ⟨v, vs, rfl, T, G, env, d, e1, rp, w, q, fun σ' r' hw => ⟨T, G, e1, ds, env', r', ws, ee, fun σ2 r2 hw2 => h σ2 r2 fun vs hv => ?_⟩⟩
      rw [hw2 vs fun j hj => hv j (List.mem_append_right _ hj)]
      exact hw vs fun j hj => hv j (List.mem_append_left _ hj)
    · cases ee
theorem gTg_len : ∀ {gs : List GA} {ds : List D} {env env' : Ev}, gTg gs ds env = some env' → ds.length = gs.length
  | [], [], _, _, _ => rfl
  | [], _ :: _, _, _, e => by cases e
  | _ :: _, [], _, _, e => by cases e
  | g :: gs, d :: ds, env, env', e => by
    simp only [gTg] at e
    split at e
    · rw [List.length_cons, List.length_cons, gTg_len e]
    · cases e
theorem wg_tupn {is : List Nat} {gs : List GA} {kk : Nat} (hK : X.K = z.K) (hc : X.calm = true) (h : PGs X es (tGg z is gs)) (hl : gs.length = es.length := by rfl) (hn : (assignEach es X.env).length = es.length := by rfl) (hst : (assignEach es X.env).findIdx? (·.1) = none := by rfl) : PG X (.Tuple es kk pos) (tG z is (gTn gs)) := by
  refine ⟨fun pins s σ H v u Q I r ⟨T, G, env, d, env', rp, w, ee, h'⟩ => ?_⟩
  unfold gTn at ee
  split at ee
  · rename_i ds
    cases w with
    | @tup a vs _ hs ha =>
      refine (pg_tup hc h hn hst).run pins s σ H _ u Q I r ?_
      rw [hK]
      exact ⟨a, vs, rfl, ex_t rp.f.exG hs.sq, by rw [ha.length, gTg_len ee, hl], T, G, env, ds, env', rp, ha, ee, h'⟩
  · rename_i ds
    cases w with
    | @wtup a vs _ hs ha =>
      refine (pg_tup hc h hn hst).run pins s σ H _ u Q I r ?_
      rw [hK]
      exact ⟨a, vs, rfl, ex_t rp.f.exG hs, by rw [ha.length, gTg_len ee, hl], T, G, env, ds, env', rp, ha, ee, h'⟩
  · rename_i ds
    cases w with
    | @lst a vs _ hs ha =>
      refine (pg_unl hc h hn hst).run pins s σ H _ u Q I r ?_
      rw [hK]
      exact ⟨a, vs, rfl, SqL.of (rp.f.exG _ _ hs), by rw [ha.length, gTg_len ee, hl], T, G, env, ds, env', rp, ha, ee, h'⟩
  · cases ee
end
end TN
namespace TN
open PySem PySem.Spec PyProof.Rows L2
@[simp] theorem e_bMaxX (a b : Int) : bMaxX [.int a, .int b] = .ok (.d (.int (if b > a then b else a))) := rfl
@[simp] theorem e_bMinX (a b : Int) : bMinX [.int a, .int b] = .ok (.d (.int (if b < a then b else a))) := rfl
theorem bSortedX_lst (ns : List Int) : bSortedX [.lst (ns.map D.int)] = .ok (.ls ((sortI ns).map D.int)) := by
  simp only [bSortedX, toInts_map]
theorem bSortedX_tup (ns : List Int) : bSortedX [.tup (ns.map D.int)] = .ok (.ls ((sortI ns).map D.int)) := by
  simp only [bSortedX, toInts_map]
theorem toInts_tD (k : List Int) (ks : List (List Int)) : toInts ((k :: ks).map tD) = none := rfl
/-- sorted of tuples of whole numbers, none empty -/
theorem bSortedX_tups (ks : List (List Int)) (h : ∀ k ∈ ks, k ≠ []) : bSortedX [.lst (ks.map tD)] = .ok (.ls ((sortL ks).map tD)) := by
  cases ks with
  | nil => rfl
  | cons k ks =>
    simp only [bSortedX, toInts_tD, toTups_map]
    rw [if_pos (List.all_eq_true.mpr fun x m => by
      cases e : x with
      | nil => exact absurd e (h x m)
      | cons a b => rfl)]
theorem minS_ints (n : Int) (ns : List Int) : minS ((n :: ns).map D.int) = .ok (.d (.int (minI n ns))) := by
  simp only [minS, toInts_map]
theorem maxS_ints (n : Int) (ns : List Int) : maxS ((n :: ns).map D.int) = .ok (.d (.int (maxI n ns))) := by
  simp only [maxS, toInts_map]
theorem minS_tups (k : List Int) (ks : List (List Int)) : minS ((k :: ks).map tD) = .ok (.d (tD (minL k ks))) := by
  simp only [minS, toInts_tD, toTups_map]
end TN
namespace PL
open PySem PySem.Spec PyProof.Rows L2 TN
theorem urn_ok (ns : List Int) (i : Nat) : ∃ u, Urn u ∧ m__law_urn [.scr ns, .int i] = .ok (.ls u, []) := by
  obtain ⟨p, q, r, h1, h2, h3, h4⟩ := powers
  by_cases h : i < ns.length
  · have : atI ns (i : Int) = some ns[i] := atI_nat (List.getElem?_eq_getElem h)
    simp -implicitDefEqProofs [m__law_urn, b__law_urn, this, h, h1, h2, h3, h4, e_gmod, e_gmulM, e_gmulL, e_gmulR, Urn]
  · simp -implicitDefEqProofs [m__law_urn, b__law_urn, h, h1, h2, h3, h4, e_gmod, e_gmulM, e_gmulL, e_gmulR, Urn]
theorem ball_ok {u : List D} (hu : Urn u) {n : Int} (h0 : 0 < n) (h1 : n < 1073741824) : ∃ r u', 0 ≤ r ∧ r < n ∧ Urn u' ∧ m__law_ball [.lst u, .int n] = .ok (.d (.int r), u') := by
  obtain ⟨a, b, c, rfl⟩ := hu
  have q := Int.emod_nonneg a (show n ≠ 0 by omega)
  have q2 := Int.emod_lt_of_pos a h0
  by_cases ha : 0 < a
  · refine ⟨a % n, _, q, q2, ⟨a / n, b, c, rfl⟩, ?_⟩
    simp -implicitDefEqProofs [m__law_ball, b__law_ball, ha, e_gmod, h0, h1, e_gdiv, ixN]
  · simp -implicitDefEqProofs [m__law_ball, b__law_ball, ha, e_gmod, h0, h1, e_gdiv, e_gmulM, e_gmulL, e_gmulR, ixN]
    exact ⟨_, Int.emod_nonneg _ (by omega), Int.emod_lt_of_pos _ h0, ⟨a, b, c + 1, rfl⟩, rfl⟩
theorem mixed_go : ∀ (k : Nat) (l f : List Int) (u : List D) (it : D), l.length < k → l.length ≤ 1000 → f.length + l.length ≤ 1000 → Urn u → ∃ (g : List Int) (u' : List D), g.Perm (f ++ l) ∧ Urn u' ∧
    whileF (bOf (fBin (dEq true) (fVar 2) (fLst (aNil)))) (sExpr (fApp 3 (fPopI 2 (fCall true m__law_ball (aCons (fVar 0) (aCons (fBi bLen (aCons (fVar 2) (aNil))) (aNil))))))) k [.par u, .val it, .own (l.map D.int), .own (f.map D.int)] = .ok (.nx, [.par u', .val it, .own [], .own (g.map D.int)])
  | 0, l, f, u, it, hk, _, _, _ => absurd hk (Nat.not_lt_zero _)
  | k + 1, [], f, u, it, hk, _, _, hu => ⟨f, u, by simp, hu, by
    have := dEq_nil true []
    simp only [List.map_nil] at this
    simp -implicitDefEqProofs [whileF, this]⟩
  | k + 1, x :: l, f, u, it, hk, hl, hf, hu => by
    obtain ⟨r, u', r0, r1, hu', eb⟩ := ball_ok hu (n := ((x :: l).length : Int)) (by simp only [List.length_cons]; omega) (by simp only [List.length_cons] at hl ⊢; omega)
    obtain ⟨j, rfl⟩ : ∃ j : Nat, r = j := ⟨r.toNat, by omega⟩
    have hj : j < (x :: l).length := by omega
    have hj2 : j < l.length + 1 := hj
    have el : ((x :: l).eraseIdx j).length = l.length := by rw [List.length_eraseIdx_of_lt hj]; rfl
    obtain ⟨g, u2, hp, hu2, ih⟩ := mixed_go k ((x :: l).eraseIdx j) (f ++ [(x :: l)[j]]) u' it (by rw [el]; simp only [List.length_cons] at hk; omega) (by rw [el]; simp only [List.length_cons] at hl; omega) (by rw [el, List.length_append]; simp only [List.length_cons, List.length_nil] at hf ⊢; omega) hu'
    refine ⟨g, u2, hp.trans ?_, hu2, ?_⟩
    · rw [List.append_assoc]
      exact (List.Perm.refl f).append (perm_pick _ _ hj)
    · have q := dEq_nil true (x :: l)
      simp only [List.map_cons] at q
      have hx : ixN (l.length + 1) (j : Int) = some j := ixN_nat hj2
      have hg : (D.int x :: l.map D.int)[j]? = some (.int (x :: l)[j]) := by
        rw [← List.map_cons (f := D.int), List.getElem?_map, List.getElem?_eq_getElem hj]
        rfl
      have he : (D.int x :: l.map D.int).eraseIdx j = ((x :: l).eraseIdx j).map D.int := by
        rw [← List.map_cons (f := D.int), erase_map]
      have hfl : f.length < 100000 := by omega
      have hm : f.map D.int ++ [D.int (x :: l)[j]] = (f ++ [(x :: l)[j]]).map D.int := by simp
      have h62 : (j : Int) < 4611686018427387904 := by simp only [List.length_cons] at hl; omega
      have h63 : -4611686018427387904 ≤ (j : Int) := by omega
      simp only [List.length_cons] at eb
      push_cast at eb
      simp -implicitDefEqProofs only [List.map_nil, List.map_cons, whileF, q, eb, h62, h63, hx, hg, he, hfl]
      simp -implicitDefEqProofs [q, eb, h62, h63, hx, hg, he, hfl]
      rw [hm]
      exact ih
theorem mixed_ok {u : List D} (hu : Urn u) {it : List Int} (hl : it.length ≤ 1000) : ∃ (g : List Int) (u' : List D), g.Perm it ∧ Urn u' ∧ m__law_mixed [.lst u, .lst (it.map D.int)] = .ok (.ls (g.map D.int), u') := by
  obtain ⟨g, u', hp, hu', e⟩ := mixed_go turns it [] u (.lst (it.map D.int)) (lt_turns hl) hl (by simpa using hl) hu
  refine ⟨g, u', hp, hu', ?_⟩
  simp only [List.map_nil] at e
  simp -implicitDefEqProofs [m__law_mixed, b__law_mixed, e]
def two (n : Int) : List Int := (List.replicate 2 (rngI n)).flatten
theorem two_length (n : Int) : (two n).length = 2 * n.toNat := by
  unfold two
  simp [rngI_length]
  omega
theorem two_mul {n : Int} (h1 : n ≤ 1000) : dMul (.lst ((rngI n).map D.int)) (.int 2) = .ok (.ls ((two n).map D.int)) := by
  refine dMul_lst ⟨by omega, by omega, ?_⟩
  rw [List.length_map, rngI_length]
  show n.toNat * 2 ≤ 100000
  omega
theorem ring_ok {u : List D} (hu : Urn u) {n : Int} (h0 : 0 ≤ n) (h1 : n ≤ 10) : ∃ (g : List Int) (u' : List D), g.Perm (two n) ∧ Urn u' ∧ m__law_ring [.lst u, .int n] = .ok (.d (.tup (g.map D.int)), u') := by
  obtain ⟨g, u', hp, hu', e⟩ := mixed_ok hu (it := sortI (two n)) (by rw [sortI_length, two_length]; omega)
  refine ⟨g, u', hp.trans (sortI_perm _), hu', ?_⟩
  have h2 : n ≤ 100000 := by omega
  simp -implicitDefEqProofs [m__law_ring, b__law_ring, rng_eq, two_mul (show n ≤ 1000 by omega), bSortedX_lst, e, h0, h2]
end PL
namespace PL
open PySem PySem.Spec PyProof.Rows L2 TN
/-! ### is_ring -/
def wholeD : D → Bool
  | .int _ => true
  | _ => false
theorem whole_eq {d : D} (h : (tyOf d).isSome) : m_is_whole [d] = .ok (.d (.bl (wholeD d)), []) := by
  cases d <;> simp -implicitDefEqProofs [m_is_whole, b_is_whole, bIsi, tyOf, isiT, wholeD] <;> simp [tyOf] at h
def ringB (is : List Int) : Bool := decide (1 ≤ is.length / 2) && decide (is.length / 2 ≤ 10) && decide (sortI is = sortI (two ((is.length / 2 : Nat) : Int)))
def ringD : D → Bool
  | .tup xs => match toInts xs with
    | some is => ringB is
    | none => false
  | _ => false
def Good (d : D) : Prop := (tyOf d).isSome ∧ ∀ xs, d = .tup xs → xs.length ≤ 1000 ∧ ∀ x ∈ xs, (tyOf x).isSome
theorem ints_of : ∀ {xs : List D}, xs.all wholeD = true → ∃ is : List Int, xs = is.map D.int
  | [], _ => ⟨[], rfl⟩
  | x :: xs, h => by
    simp only [List.all_cons, Bool.and_eq_true] at h
    obtain ⟨is, rfl⟩ := ints_of h.2
    cases x with
    | int i => exact ⟨i :: is, rfl⟩
    | _ => cases h.1
theorem all_ints : ∀ is : List Int, (is.map D.int).all wholeD = true
  | [] => rfl
  | i :: is => by simp only [List.map_cons, List.all_cons, wholeD, all_ints is, Bool.and_self]
theorem toInts_bad : ∀ {xs : List D}, xs.all wholeD = false → toInts xs = none
  | [], h => by cases h
  | x :: xs, h => by
    cases x with
    | int i =>
      simp only [List.all_cons, wholeD, Bool.true_and] at h
      simp only [toInts, toInts_bad h]
    | _ => simp only [toInts]
theorem is_ring_eq {d : D} (h : Good d) : m_is_ring [d] = .ok (.d (.bl (ringD d)), []) := by
  obtain ⟨h1, h2⟩ := h
  cases d with
  | tup xs =>
    obtain ⟨h3, h4⟩ := h2 xs rfl
    have lc : fLc (fSeq (fVar 0)) (gN 2) (bYes) (fCall false m_is_whole (aCons (fVar 2) (aNil))) [2] [.val (.tup xs), .no, .no] = .ok (.new (xs.map fun x => D.bl (wholeD x)), [.val (.tup xs), .no, .no]) := by
      have := fLc_pure (fi := fSeq (fVar 0)) (c := bYes) (f := fCall false m_is_whole (aCons (fVar 2) (aNil))) (v := 2) (e0 := [.val (.tup xs), .no, .no]) (env := [.val (.tup xs), .no, .no]) (ds := xs) (s := .no) (fun _ => true) (fun x => D.bl (wholeD x)) (by simp -implicitDefEqProofs) (by omega) rfl rfl (fun d _ => rfl) fun d hd _ => ⟨.d (.bl (wholeD d)), by simp -implicitDefEqProofs [whole_eq (h4 d hd)], rfl⟩
      rw [this, List.filter_eq_self.mpr (fun _ _ => rfl)]
    cases hw : xs.all wholeD with
    | false =>
      have : ringD (.tup xs) = false := by simp only [ringD, toInts_bad hw]
      rw [this]
      simp -implicitDefEqProofs [m_is_ring, b_is_ring, bIsi, tyOf, isiT, lc, bAll_map, hw]
    | true =>
      obtain ⟨is, rfl⟩ := ints_of hw
      have : ringD (.tup (is.map D.int)) = ringB is := by simp only [ringD, toInts_of]
      rw [this]
      rw [List.length_map] at h3
      obtain ⟨k, hk⟩ : ∃ k : Int, (is.length : Int) / 2 = k := ⟨_, rfl⟩
      have hk2 : k = ((is.length / 2 : Nat) : Int) := by omega
      have ba := bAll_map wholeD (is.map D.int)
      rw [all_ints] at ba
      by_cases c1 : 1 ≤ k
      · by_cases c2 : k ≤ 10
        · have c3 : 0 ≤ k := by omega
          have c4 : k ≤ 100000 := by omega
          have : ringB is = decide (sortI is = sortI (two k)) := by
            unfold ringB
            rw [hk2, decide_eq_true (show 1 ≤ is.length / 2 by omega), decide_eq_true (show is.length / 2 ≤ 10 by omega)]
            rfl
          rw [this]
          simp -implicitDefEqProofs [-List.map_map, m_is_ring, b_is_ring, bIsi, tyOf, isiT, lc, ba, e_gdiv, hk, c1, c2, c3, c4, bSortedX_tup, rng_eq, two_mul (show k ≤ 1000 by omega), bSortedX_lst, dEq_lst]
        · have : ringB is = false := by
            unfold ringB
            rw [decide_eq_false (show ¬ is.length / 2 ≤ 10 by omega)]
            simp
          rw [this]
          simp -implicitDefEqProofs [-List.map_map, m_is_ring, b_is_ring, bIsi, tyOf, isiT, lc, ba, e_gdiv, hk, c1, c2]
      · have : ringB is = false := by
          unfold ringB
          rw [decide_eq_false (show ¬ 1 ≤ is.length / 2 by omega)]
          simp
        rw [this]
        simp -implicitDefEqProofs [-List.map_map, m_is_ring, b_is_ring, bIsi, tyOf, isiT, lc, ba, e_gdiv, hk, c1]
  | _ => simp -implicitDefEqProofs [m_is_ring, b_is_ring, bIsi, tyOf, isiT, ringD] <;> simp [tyOf] at h1
/-! ### places -/
theorem below_eq (k n : Int) : m_is_below [.int k, .int n] = .ok (.d (.bl (decide (0 ≤ k) && decide (k < n))), []) := by
  by_cases h0 : 0 ≤ k <;> by_cases h1 : k < n <;> simp -implicitDefEqProofs [m_is_below, b_is_below, whole_eq, wholeD, tyOf, h0, h1]
theorem check_eq {g : List Int} (h : ringD (.tup (g.map D.int)) = true) (hl : g.length ≤ 1000) : m_check_ring [.tup (g.map D.int)] = .ok (.d .non, []) := by
  have e := is_ring_eq (d := .tup (g.map D.int)) ⟨rfl, fun xs q => by
    cases q
    exact ⟨by rw [List.length_map]; exact hl, fun x m => by obtain ⟨i, _, rfl⟩ := List.mem_map.mp m; rfl⟩⟩
  rw [h] at e
  simp -implicitDefEqProofs [m_check_ring, b_check_ring, e]
theorem ends_eq {g : List Int} {k : Int} {i j : Nat} (h1 : firstI k 0 g 0 = some i) (h2 : firstI k (i + 1) g 0 = some j) : m__ends [.tup (g.map D.int), .int k] = .ok (.d (.tup [.int i, .int j]), []) := by
  have e1 := mIdx_of h1
  have e2 := mIdx_from (ns := g) (k := k) (a := (i : Int) + 1) (j := j) (by omega) (by rw [show ((i : Int) + 1).toNat = i + 1 by omega]; exact h2)
  simp -implicitDefEqProofs [m__ends, b__ends, e1, e2]
theorem name_eq {g : List Int} {k : Int} (h0 : 0 ≤ k) (h1 : k < (g.length : Int) / 2) : m__check_name [.tup (g.map D.int), .int k] = .ok (.d .non, []) := by
  simp -implicitDefEqProofs [m__check_name, b__check_name, below_eq, e_gdiv, h0, h1]
theorem ends_of_eq {g : List Int} {k : Int} {i j : Nat} (hr : ringD (.tup (g.map D.int)) = true) (hl : g.length ≤ 1000) (h0 : 0 ≤ k) (hk : k < (g.length : Int) / 2) (h1 : firstI k 0 g 0 = some i) (h2 : firstI k (i + 1) g 0 = some j) : m_ends_of [.tup (g.map D.int), .int k] = .ok (.d (.tup [.int i, .int j]), []) := by
  simp -implicitDefEqProofs [m_ends_of, b_ends_of, check_eq hr hl, name_eq h0 hk, ends_eq h1 h2]
def btw (g : List Int) (i j : Nat) : List Int := (g.drop (i + 1)).take (j - (i + 1))
theorem slice_eq {g : List Int} {i j : Nat} (h1 : i < j) (h2 : j < g.length) : dSl (.tup (g.map D.int)) (some ((i : Int) + 1)) (some (j : Int)) = .ok (.tp ((btw g i j).map D.int)) := by
  have e0 : ((i : Int) + 1) = ((i + 1 : Nat) : Int) := by omega
  have s1 : HT.sIx (g.map D.int).length 0 (some ((i : Int) + 1)) = i + 1 := by
    rw [e0, HT.sIx_nat, List.length_map]
    omega
  have s2 : HT.sIx (g.map D.int).length (g.map D.int).length (some (j : Int)) = j := by
    rw [HT.sIx_nat, List.length_map]
    omega
  show (if _ then _ else _) = _
  rw [if_neg (by rw [s1]; omega)]
  unfold TN.cutD btw
  rw [s1, s2, List.map_take, List.map_drop]
theorem count_test (b : List Int) (o : Int) : dEq false (.int (b.count o : Nat)) (.int 1) = .ok (.d (.bl (b.count o == 1))) := by
  have e : ((b.count o : Nat) : Int) = 1 ↔ b.count o = 1 := by omega
  simp only [dEq, toPy, PyData.depth, PyData.eqv]
  have e2 : (((b.count o : Nat) : Int) == 1) = (b.count o == 1) := by
    by_cases h : b.count o = 1
    · rw [beq_iff_eq.mpr h, beq_iff_eq.mpr (e.mpr h)]
    · rw [beq_eq_false_iff_ne.mpr h, beq_eq_false_iff_ne.mpr fun q => h (e.mp q)]
  rw [e2]
  simp
theorem crossing_eq {g : List Int} {k : Int} {i j : Nat} (hr : ringD (.tup (g.map D.int)) = true) (hl : g.length ≤ 1000) (h0 : 0 ≤ k) (hk : k < (g.length : Int) / 2) (h1 : firstI k 0 g 0 = some i) (h2 : firstI k (i + 1) g 0 = some j) (hj : j < g.length) (hij : i < j) :
    m_crossing [.tup (g.map D.int), .int k] = .ok (.d (.tup (((rngI ((g.length : Int) / 2)).filter fun o => (btw g i j).count o == 1).map D.int)), []) := by
  have sl := slice_eq hij hj
  obtain ⟨n, hn⟩ : ∃ n : Int, (g.length : Int) / 2 = n := ⟨_, rfl⟩
  have n0 : 0 ≤ n := by omega
  have n1 : n ≤ 1000 := by omega
  have lc : fLc (fRng1 (aCons (fBin (oI gDiv) (fBi bLen (aCons (fVar 0) (aNil))) (fC (.int 2))) (aNil))) (gN 5) (bOf (fBin (dEq false) (fMtT mCnt (fVar 4) (aCons (fVar 5) (aNil))) (fC (.int 1)))) (fVar 5) [5] [.val (.tup (g.map D.int)), .val (.int k), .val (.int i), .val (.int j), .val (.tup ((btw g i j).map D.int)), .no]
      = .ok (.new (((rngI n).filter fun o => (btw g i j).count o == 1).map D.int), [.val (.tup (g.map D.int)), .val (.int k), .val (.int i), .val (.int j), .val (.tup ((btw g i j).map D.int)), .no]) := by
    have a1 : (-4611686018427387904 : Int) ≤ n := by omega
    have a2 : n < 4611686018427387904 := by omega
    have := fLc_pure (fi := fRng1 (aCons (fBin (oI gDiv) (fBi bLen (aCons (fVar 0) (aNil))) (fC (.int 2))) (aNil))) (c := bOf (fBin (dEq false) (fMtT mCnt (fVar 4) (aCons (fVar 5) (aNil))) (fC (.int 1)))) (f := fVar 5) (v := 5) (e0 := [.val (.tup (g.map D.int)), .val (.int k), .val (.int i), .val (.int j), .val (.tup ((btw g i j).map D.int)), .no]) (env := [.val (.tup (g.map D.int)), .val (.int k), .val (.int i), .val (.int j), .val (.tup ((btw g i j).map D.int)), .no]) (ds := (rngI n).map D.int) (s := .no)
      (fun d => match d with | .int o => (btw g i j).count o == 1 | _ => false) id (by simp -implicitDefEqProofs [e_gdiv, hn, a1, a2, rng_eq]) (by rw [List.length_map, rngI_length]; omega) rfl rfl (fun d hd => by
        obtain ⟨o, _, rfl⟩ := List.mem_map.mp hd
        simp -implicitDefEqProofs [mCnt_of, count_test]) fun d hd _ => by
        obtain ⟨o, _, rfl⟩ := List.mem_map.mp hd
        exact ⟨.d (.int o), by simp -implicitDefEqProofs, rfl⟩
    rw [this, List.map_id, List.filter_map]
    rfl
  rw [hn]
  simp -implicitDefEqProofs [m_crossing, b_crossing, check_eq hr hl, name_eq h0 hk, ends_eq h1 h2, sl, lc]
/-! ### the law's own places -/
/-- the places of k, counted from i -/
def placesI (k : Int) : List Int → Nat → List Int
  | [], _ => []
  | n :: ns, i => if n = k then (i : Int) :: placesI k ns (i + 1) else placesI k ns (i + 1)
def isOne (k : Int) : D → Bool
  | .wtup [_, .int n] => n == k
  | _ => false
def placeOf : D → D
  | .wtup [p, _] => p
  | d => d
theorem enum_places (k : Int) : ∀ (g : List Int) (i : Nat), ((enumD i (g.map D.int)).filter (isOne k)).map placeOf = (placesI k g i).map D.int
  | [], _ => rfl
  | n :: g, i => by
    show (List.filter (isOne k) (D.wtup [.int i, .int n] :: enumD (i + 1) (g.map D.int))).map placeOf = _
    by_cases h : n = k
    · rw [List.filter_cons_of_pos (by simp [isOne, h]), List.map_cons, enum_places k g (i + 1)]
      simp [placesI, h, placeOf]
    · rw [List.filter_cons_of_neg (by simp [isOne, h]), enum_places k g (i + 1)]
      simp [placesI, h]
theorem enumD_mem : ∀ {g : List Int} {i : Nat} {d : D}, d ∈ enumD i (g.map D.int) → ∃ (p n : Int), d = .wtup [.int p, .int n]
  | [], _, _, h => by cases h
  | n :: g, i, d, h => by
    rcases List.mem_cons.mp h with e | e
    · exact ⟨_, _, e⟩
    · exact enumD_mem e
theorem dEq_int (a b : Int) : dEq false (.int a) (.int b) = .ok (.d (.bl (a == b))) := by
  simp [dEq, toPy, PyData.depth, PyData.eqv]
theorem law_ends_eq (g : List Int) (k : Int) (hl : g.length ≤ 1000) : m__law_ends [.tup (g.map D.int), .int k] = .ok (.ls ((placesI k g 0).map D.int), []) := by
  have lc : fLc (fEnumA (aCons (fVar 0) (aNil))) (gT [2, 3]) (bOf (fBin (dEq false) (fVar 3) (fVar 1))) (fVar 2) [2, 3] [.val (.tup (g.map D.int)), .val (.int k), .no, .no] = .ok (.new ((placesI k g 0).map D.int), [.val (.tup (g.map D.int)), .val (.int k), .no, .no]) := by
    have := fLc_gen (fi := fEnumA (aCons (fVar 0) (aNil))) (ga := gT [2, 3]) (c := bOf (fBin (dEq false) (fVar 3) (fVar 1))) (f := fVar 2) (vs := [2, 3]) (e0 := [.val (.tup (g.map D.int)), .val (.int k), .no, .no]) (env := [.val (.tup (g.map D.int)), .val (.int k), .no, .no]) (ds := enumD 0 (g.map D.int)) (isOne k) placeOf
      (fun d => match d with | .wtup [p, n] => [.val (.tup (g.map D.int)), .val (.int k), .val p, .val n] | _ => [])
      (by simp -implicitDefEqProofs) (by rw [enumD_length, List.length_map]; omega)
      (fun v hv s hs => by
        simp only [List.mem_cons, List.not_mem_nil, or_false] at hv
        rcases hv with rfl | rfl <;> (cases hs; rfl))
      (fun d hd => by
        obtain ⟨p, n, rfl⟩ := enumD_mem hd
        exact ⟨rfl, rfl⟩)
      (fun d hd => by
        obtain ⟨p, n, rfl⟩ := enumD_mem hd
        simp -implicitDefEqProofs [isOne, dEq_int])
      (fun d hd _ => by
        obtain ⟨p, n, rfl⟩ := enumD_mem hd
        exact ⟨.d (.int p), by simp -implicitDefEqProofs, rfl⟩)
    rw [this, enum_places]
  simp -implicitDefEqProofs [m__law_ends, b__law_ends, lc]
end PL
/-! rings as words: restricted to some names, they are few -/
namespace RM
/-! ### between the two places of a name -/
section
variable {α : Type} [BEq α] [LawfulBEq α]
def btwn (a : α) (g : List α) : List α := ((g.dropWhile (· != a)).drop 1).takeWhile (· != a)
theorem dropWhile_app {p : α → Bool} : ∀ {l r : List α}, (∀ x ∈ l, p x = true) → (l ++ r).dropWhile p = r.dropWhile p
  | [], _, _ => rfl
  | x :: l, r, h => by
    rw [List.cons_append, List.dropWhile_cons_of_pos (h x List.mem_cons_self)]
    exact dropWhile_app fun y m => h y (List.mem_cons_of_mem _ m)
theorem takeWhile_app {p : α → Bool} : ∀ {l r : List α}, (∀ x ∈ l, p x = true) → (l ++ r).takeWhile p = l ++ r.takeWhile p
  | [], _, _ => rfl
  | x :: l, r, h => by
    rw [List.cons_append, List.takeWhile_cons_of_pos (h x List.mem_cons_self), takeWhile_app fun y m => h y (List.mem_cons_of_mem _ m)]
    rfl
theorem ne_of_not_mem {a : α} {l : List α} (h : a ∉ l) : ∀ x ∈ l, (x != a) = true := fun x m => by
  rw [bne_iff_ne]
  intro e
  exact h (e ▸ m)
theorem btwn_of {a : α} {P M S : List α} (hP : a ∉ P) (hM : a ∉ M) : btwn a (P ++ a :: (M ++ a :: S)) = M := by
  unfold btwn
  rw [dropWhile_app (ne_of_not_mem hP), List.dropWhile_cons_of_neg (by simp)]
  show (M ++ a :: S).takeWhile _ = M
  rw [takeWhile_app (ne_of_not_mem hM), List.takeWhile_cons_of_neg (by simp), List.append_nil]
/-- first occurrence -/
theorem split_first {a : α} : ∀ {l : List α}, a ∈ l → ∃ P S, l = P ++ a :: S ∧ a ∉ P
  | x :: l, h => by
    by_cases e : x = a
    · subst e; exact ⟨[], l, rfl, by simp⟩
    · have : a ∈ l := by
        rcases List.mem_cons.mp h with q | q
        · exact absurd q.symm e
        · exact q
      obtain ⟨P, S, h1, h2⟩ := split_first this
      exact ⟨x :: P, S, by rw [h1]; rfl, fun m => by
        rcases List.mem_cons.mp m with q | q
        · exact e q.symm
        · exact h2 q⟩
/-- a name that stands twice -/
theorem split_two {a : α} {l : List α} (h : l.count a = 2) : ∃ P M S, l = P ++ a :: (M ++ a :: S) ∧ a ∉ P ∧ a ∉ M ∧ a ∉ S := by
  have m1 : a ∈ l := List.count_pos_iff.mp (by omega)
  obtain ⟨P, R, e1, h1⟩ := split_first m1
  have c1 : R.count a = 1 := by
    rw [e1, List.count_append, List.count_cons_self, List.count_eq_zero_of_not_mem h1] at h
    omega
  have m2 : a ∈ R := List.count_pos_iff.mp (by omega)
  obtain ⟨M, S, e2, h2⟩ := split_first m2
  refine ⟨P, M, S, by rw [e1, e2], h1, h2, ?_⟩
  rw [e2, List.count_append, List.count_cons_self, List.count_eq_zero_of_not_mem h2] at c1
  exact List.count_eq_zero.mp (by omega)
def cr (g : List α) (a b : α) : Bool := (btwn a g).count b == 1
end
/-! ### words -/
/-- the names of a word, told by their places in ns; others are left out -/
def enc (ns : List Int) (g : List Int) : List Nat := g.filterMap fun x => ns.findIdx? (· == x)
theorem enc_app (ns a b : List Int) : enc ns (a ++ b) = enc ns a ++ enc ns b := List.filterMap_append ..
theorem enc_rev (ns a : List Int) : enc ns a.reverse = (enc ns a).reverse := by
  unfold enc
  rw [List.filterMap_reverse]
theorem enc_cons (ns : List Int) (x : Int) (a : List Int) : enc ns (x :: a) = (match ns.findIdx? (· == x) with
  | some i => i :: enc ns a
  | none => enc ns a) := by
  unfold enc
  rw [List.filterMap_cons]
  cases ns.findIdx? (· == x) <;> rfl
theorem idx_at : ∀ {ns : List Int} {i : Nat} {a : Int}, ns.Nodup → ns[i]? = some a → ns.findIdx? (· == a) = some i
  | [], i, a, _, h => by simp at h
  | n :: ns, 0, a, _, h => by
    simp only [List.getElem?_cons_zero, Option.some.injEq] at h
    subst h
    simp [List.findIdx?_cons]
  | n :: ns, i + 1, a, hd, h => by
    simp only [List.getElem?_cons_succ] at h
    rw [List.nodup_cons] at hd
    have ne : n ≠ a := fun e => hd.1 (e ▸ List.mem_of_getElem? h)
    rw [List.findIdx?_cons, beq_eq_false_iff_ne.mpr ne]
    simp [idx_at hd.2 h]
theorem at_idx {ns : List Int} {i : Nat} {a : Int} (h : ns.findIdx? (· == a) = some i) : ns[i]? = some a := by
  rw [List.findIdx?_eq_some_iff_getElem] at h
  obtain ⟨h1, h2, _⟩ := h
  rw [List.getElem?_eq_getElem h1]
  exact congrArg some (by simpa using h2)
theorem enc_mem {ns : List Int} (hd : ns.Nodup) {i : Nat} {a : Int} (h : ns[i]? = some a) {g : List Int} : i ∈ enc ns g ↔ a ∈ g := by
  unfold enc
  rw [List.mem_filterMap]
  constructor
  · rintro ⟨x, m, e⟩
    have := at_idx e
    rw [h] at this
    cases this
    exact m
  · intro m
    exact ⟨a, m, idx_at hd h⟩
theorem enc_count {ns : List Int} (hd : ns.Nodup) {i : Nat} {a : Int} (h : ns[i]? = some a) : ∀ g : List Int, (enc ns g).count i = g.count a
  | [] => rfl
  | x :: g => by
    rw [enc_cons, List.count_cons]
    by_cases e : x = a
    · subst e
      rw [idx_at hd h]
      simp only [List.count_cons_self, enc_count hd h g]
      simp
    · rw [beq_eq_false_iff_ne.mpr e]
      cases q : ns.findIdx? (· == x) with
      | none => simp only [enc_count hd h g]; simp
      | some j =>
        have ne : j ≠ i := fun w => by
          subst w
          have := at_idx q
          rw [h] at this
          cases this
          exact e rfl
        simp only
        rw [List.count_cons, enc_count hd h g, beq_eq_false_iff_ne.mpr ne]
theorem enc_btwn {ns : List Int} (hd : ns.Nodup) {i : Nat} {a : Int} (h : ns[i]? = some a) {g : List Int} (h2 : g.count a = 2) : btwn i (enc ns g) = enc ns (btwn a g) := by
  obtain ⟨P, M, S, rfl, hP, hM, hS⟩ := split_two h2
  rw [btwn_of hP hM, enc_app, enc_cons, idx_at hd h]
  simp only
  rw [enc_app, enc_cons, idx_at hd h]
  simp only
  rw [btwn_of (fun m => hP ((enc_mem hd h).mp m)) (fun m => hM ((enc_mem hd h).mp m))]
theorem enc_cr {ns : List Int} (hd : ns.Nodup) {i j : Nat} {a b : Int} (h : ns[i]? = some a) (hb : ns[j]? = some b) {g : List Int} (h2 : g.count a = 2) : cr (enc ns g) i j = cr g a b := by
  unfold cr
  rw [enc_btwn hd h h2, enc_count hd hb]
theorem enc_lt {ns g : List Int} : ∀ i ∈ enc ns g, i < ns.length := fun i m => by
  unfold enc at m
  rw [List.mem_filterMap] at m
  obtain ⟨x, _, e⟩ := m
  exact (List.getElem?_eq_some_iff.mp (at_idx e)).1
/-! ### all words with so many of each -/
def dec (cs : List Nat) (i : Nat) : List Nat := cs.set i (cs.getD i 0 - 1)
/-- all words of length k with cs[i] times the name i -/
def words : Nat → List Nat → List (List Nat)
  | 0, _ => [[]]
  | k + 1, cs => (List.range cs.length).flatMap fun i => if cs.getD i 0 = 0 then [] else (words k (dec cs i)).map (i :: ·)
theorem words_mem : ∀ {w : List Nat} {cs : List Nat}, (∀ i ∈ w, i < cs.length) → (∀ i, i < cs.length → w.count i = cs.getD i 0) → w ∈ words w.length cs
  | [], cs, _, _ => by simp [words]
  | i :: w, cs, h, hc => by
    have hi := h i List.mem_cons_self
    have ci := hc i hi
    rw [List.count_cons_self] at ci
    show _ ∈ (List.range cs.length).flatMap _
    rw [List.mem_flatMap]
    refine ⟨i, List.mem_range.mpr hi, ?_⟩
    rw [if_neg (by omega)]
    refine List.mem_map.mpr ⟨w, words_mem (cs := dec cs i) (fun j m => by unfold dec; rw [List.length_set]; exact h j (List.mem_cons_of_mem _ m)) (fun j hj => ?_), rfl⟩
    unfold dec at hj ⊢
    rw [List.length_set] at hj
    have cj := hc j hj
    by_cases e : i = j
    · subst e
      rw [List.getD_eq_getElem?_getD, List.getElem?_set_self hi]
      simp only [Option.getD_some]
      omega
    · rw [List.getD_eq_getElem?_getD, List.getElem?_set_ne e, ← List.getD_eq_getElem?_getD, ← cj, List.count_cons_of_ne (by simpa using e)]
/-- the word of a ring at some names -/
theorem count_sum : ∀ {w : List Nat} {k : Nat}, (∀ i ∈ w, i < k) → w.length = ((List.range k).map fun i => w.count i).sum
  | [], k, _ => by
    have : ((List.range k).map fun i => ([] : List Nat).count i) = List.replicate k 0 := by
      simp [List.map_const']
    rw [this]
    simp
  | x :: w, k, h => by
    have ih := count_sum (w := w) (k := k) fun i m => h i (List.mem_cons_of_mem _ m)
    have hx := h x List.mem_cons_self
    have key : ∀ (n : Nat), ((List.range n).map fun i => (x :: w).count i).sum = ((List.range n).map fun i => w.count i).sum + (if x < n then 1 else 0) := by
      intro n
      induction n with
      | zero => simp
      | succ n ihn =>
        rw [List.range_succ, List.map_append, List.map_append, List.sum_append, List.sum_append, ihn]
        simp only [List.map_cons, List.map_nil, List.sum_cons, List.sum_nil]
        rw [List.count_cons]
        by_cases e : x = n
        · subst e; simp; omega
        · have : (x == n) = false := beq_eq_false_iff_ne.mpr e
          rw [this]
          by_cases q : x < n
          · rw [if_pos q, if_pos (show x < n + 1 by omega)]; simp; omega
          · rw [if_neg q, if_neg (show ¬ x < n + 1 by omega)]; simp
    rw [key, if_pos hx, ← ih]
    rfl
theorem enc_word {ns g : List Int} (hd : ns.Nodup) (h2 : ∀ a ∈ ns, g.count a = 2) : enc ns g ∈ words (2 * ns.length) (List.replicate ns.length 2) := by
  have hc : ∀ i, i < ns.length → (enc ns g).count i = 2 := fun i hi => by
    rw [enc_count hd (List.getElem?_eq_getElem hi)]
    exact h2 _ (List.getElem_mem hi)
  have hl : (enc ns g).length = 2 * ns.length := by
    rw [count_sum (k := ns.length) enc_lt]
    have : ((List.range ns.length).map fun i => (enc ns g).count i) = List.replicate ns.length 2 := by
      apply List.ext_getElem?
      intro i
      by_cases q : i < ns.length
      · simp [q, hc i q]
      · simp [q]
    rw [this, List.sum_replicate_nat]
    omega
  rw [← hl]
  refine words_mem (fun i m => by rw [List.length_replicate]; exact enc_lt i m) fun i hi => ?_
  rw [List.length_replicate] at hi
  rw [hc i hi]
  simp [hi]
/-! ### crossing -/
theorem all_words {k : Nat} {cs : List Nat} {p : List Nat → Bool} (h : (words k cs).all p = true) {w : List Nat} (m : w ∈ words k cs) : p w = true := List.all_eq_true.mp h w m
theorem cr_self {g : List Int} {a : Int} (h : g.count a = 2) : cr g a a = false := by
  obtain ⟨P, M, S, rfl, hP, hM, hS⟩ := split_two h
  unfold cr
  rw [btwn_of hP hM, List.count_eq_zero_of_not_mem hM]
  rfl
theorem nd2 {a b : Int} (h : a ≠ b) : [a, b].Nodup := by simp [h]
theorem two2 {g : List Int} {a b : Int} (ha : g.count a = 2) (hb : g.count b = 2) : ∀ x ∈ [a, b], g.count x = 2 := fun x m => by
  simp only [List.mem_cons, List.not_mem_nil, or_false] at m
  rcases m with rfl | rfl
  · exact ha
  · exact hb
theorem cr_sym {g : List Int} {a b : Int} (ha : g.count a = 2) (hb : g.count b = 2) : cr g a b = cr g b a := by
  by_cases e : a = b
  · subst e; rfl
  · have w : _ ∈ words 4 [2, 2] := enc_word (nd2 e) (two2 ha hb)
    rw [← enc_cr (nd2 e) (i := 0) (j := 1) rfl rfl ha, ← enc_cr (nd2 e) (i := 1) (j := 0) rfl rfl hb]
    have := all_words (p := fun w => cr w 0 1 == cr w 1 0) (by decide +kernel) w
    simpa using this
theorem app_split {α : Type} {l x y : List α} (h : l = x ++ y) : x = l.take x.length ∧ y = l.drop x.length := by
  subst h
  simp
/-- turned about -/
theorem cr_about {x y : List Int} {a b : Int} (ha : (x ++ y).count a = 2) (hb : (x ++ y).count b = 2) : cr (y ++ x) a b = cr (x ++ y) a b := by
  have ha' : (y ++ x).count a = 2 := by rw [List.count_append] at ha ⊢; omega
  have hb' : (y ++ x).count b = 2 := by rw [List.count_append] at hb ⊢; omega
  by_cases e : a = b
  · subst e; rw [cr_self ha, cr_self ha']
  · have w : _ ∈ words 4 [2, 2] := enc_word (nd2 e) (two2 ha hb)
    rw [← enc_cr (nd2 e) (i := 0) (j := 1) rfl rfl ha, ← enc_cr (nd2 e) (i := 0) (j := 1) rfl rfl ha']
    have es := enc_app [a, b] x y
    obtain ⟨e1, e2⟩ := app_split es
    have hl : (enc [a, b] x).length ≤ 4 := by
      have q : (enc [a, b] (x ++ y)).length = 4 := by
        have := all_words (p := fun w => w.length == 4) (by decide +kernel) w
        simpa using this
      rw [es, List.length_append] at q
      omega
    have := all_words (p := fun w => (List.range 5).all fun j => cr (w.drop j ++ w.take j) 0 1 == cr w 0 1) (by decide +kernel) w
    rw [List.all_eq_true] at this
    have := this _ (List.mem_range.mpr (Nat.lt_succ_of_le hl))
    rw [enc_app, e1, e2]
    rw [← e1, ← e2]
    rw [← e1, ← e2] at this
    simpa using this
theorem cr_rev {g : List Int} {a b : Int} (ha : g.count a = 2) (hb : g.count b = 2) : cr g.reverse a b = cr g a b := by
  have ha' : g.reverse.count a = 2 := by rw [List.count_reverse]; exact ha
  by_cases e : a = b
  · subst e; rw [cr_self ha, cr_self ha']
  · have w : _ ∈ words 4 [2, 2] := enc_word (nd2 e) (two2 ha hb)
    rw [← enc_cr (nd2 e) (i := 0) (j := 1) rfl rfl ha, ← enc_cr (nd2 e) (i := 0) (j := 1) rfl rfl ha', enc_rev]
    have := all_words (p := fun w => cr w.reverse 0 1 == cr w 0 1) (by decide +kernel) w
    simpa using this
end RM
namespace PL
open PySem PySem.Spec PyProof.Rows L2 TN
/-! ### rings of n chords -/
structure RingN (n : Int) (g : List Int) : Prop where
  perm : g.Perm (two n)
  lo : 1 ≤ n
  hi : n ≤ 10
theorem rngI_lt (n : Int) : (rngI n).Pairwise (· < ·) := by
  unfold rngI
  rw [List.pairwise_map]
  exact (List.pairwise_lt_range).imp fun h => by omega
theorem rngI_nodup (n : Int) : (rngI n).Nodup := (rngI_lt n).imp fun h e => by omega
theorem mem_rngI {n x : Int} : x ∈ rngI n ↔ 0 ≤ x ∧ x < n := by
  constructor
  · exact rngI_mem
  · intro ⟨h0, h1⟩
    unfold rngI
    exact List.mem_map.mpr ⟨x.toNat, List.mem_range.mpr (by omega), by omega⟩
theorem rngI_count {n k : Int} (h : 0 ≤ k ∧ k < n) : (rngI n).count k = 1 := by
  have h1 : (rngI n).count k ≤ 1 := List.nodup_iff_count.mp (rngI_nodup n) k
  have h2 := List.count_pos_iff.mpr (mem_rngI.mpr h)
  omega
theorem two_eq (n : Int) : two n = rngI n ++ rngI n := by
  unfold two
  simp [List.replicate]
theorem two_count {n k : Int} (h : 0 ≤ k ∧ k < n) : (two n).count k = 2 := by
  rw [two_eq, List.count_append, rngI_count h]
section
variable {n k : Int} {g : List Int}
theorem RingN.count (h : RingN n g) (hk : 0 ≤ k ∧ k < n) : g.count k = 2 := by rw [h.perm.count_eq, two_count hk]
theorem RingN.len (h : RingN n g) : g.length = 2 * n.toNat := by rw [h.perm.length_eq, two_length]
theorem RingN.half (h : RingN n g) : (g.length : Int) / 2 = n := by
  have := h.len
  have := h.lo
  omega
theorem RingN.le (h : RingN n g) : g.length ≤ 20 := by
  have := h.len
  have := h.hi
  omega
theorem RingN.mem (h : RingN n g) (m : k ∈ g) : 0 ≤ k ∧ k < n := by
  have := h.perm.mem_iff.mp m
  rw [two_eq] at this
  rcases List.mem_append.mp this with q | q <;> exact rngI_mem q
theorem RingN.isD (h : RingN n g) : ringD (.tup (g.map D.int)) = true := by
  have e : ringD (.tup (g.map D.int)) = ringB g := by simp only [ringD, toInts_of]
  have l := h.len
  have lo := h.lo
  have hi := h.hi
  have hn : ((g.length / 2 : Nat) : Int) = n := by omega
  rw [e]
  unfold ringB
  rw [hn, sortI_congr h.perm, decide_eq_true (show 1 ≤ g.length / 2 by omega), decide_eq_true (show g.length / 2 ≤ 10 by omega)]
  simp
theorem RingN.of_perm {g' : List Int} (h : RingN n g) (p : g'.Perm g) : RingN n g' := ⟨p.trans h.perm, h.lo, h.hi⟩
/-! ### the two places of a name -/
theorem first_skip {a : Nat} : ∀ (P R : List Int) (i : Nat), (∀ x m, P[m]? = some x → a ≤ i + m → x ≠ k) → firstI k a (P ++ R) i = firstI k a R (i + P.length)
  | [], R, i, _ => rfl
  | y :: P, R, i, h => by
    show (if a ≤ i ∧ y = k then some i else firstI k a (P ++ R) (i + 1)) = _
    rw [if_neg (fun q => h y 0 rfl q.1 q.2), first_skip P R (i + 1) fun x m e ha => h x (m + 1) (by simpa using e) (by omega)]
    rw [List.length_cons]
    congr 1
    omega
theorem places_app : ∀ (A B : List Int) (i : Nat), placesI k (A ++ B) i = placesI k A i ++ placesI k B (i + A.length)
  | [], B, i => rfl
  | x :: A, B, i => by
    have e : i + (A.length + 1) = i + 1 + A.length := by omega
    rw [List.cons_append, List.length_cons, e]
    by_cases q : x = k
    · simp only [placesI, if_pos q, places_app A B (i + 1), List.cons_append]
    · simp only [placesI, if_neg q, places_app A B (i + 1)]
theorem places_none : ∀ {A : List Int} {i : Nat}, k ∉ A → placesI k A i = []
  | [], _, _ => rfl
  | x :: A, i, h => by
    have q : x ≠ k := fun e => h (e ▸ List.mem_cons_self)
    simp only [placesI, if_neg q]
    exact places_none fun m => h (List.mem_cons_of_mem _ m)
theorem places_len {k : Int} : ∀ (A : List Int) (i : Nat), (placesI k A i).length = A.count k
  | [], _ => rfl
  | x :: A, i => by
    by_cases q : x = k
    · subst q
      rw [List.count_cons_self, ← places_len A (i + 1)]
      simp only [placesI, if_true, List.length_cons]
    · have : (x == k) = false := beq_eq_false_iff_ne.mpr q
      rw [List.count_cons, this, ← places_len A (i + 1)]
      simp only [placesI, if_neg q]
      simp
theorem places_mem {p : Int} : ∀ {A : List Int} {i : Nat}, p ∈ placesI k A i → (i : Int) ≤ p ∧ p < (i : Int) + A.length
  | [], _, h => by cases h
  | x :: A, i, h => by
    rw [List.length_cons]
    by_cases q : x = k
    · simp only [placesI, if_pos q] at h
      rcases List.mem_cons.mp h with e | m
      · subst e; omega
      · have := places_mem m
        omega
    · simp only [placesI, if_neg q] at h
      have := places_mem h
      omega
theorem ends_split (h : g.count k = 2) : ∃ P M S, g = P ++ k :: (M ++ k :: S) ∧ k ∉ P ∧ k ∉ M ∧ k ∉ S ∧ RM.btwn k g = M ∧ firstI k 0 g 0 = some P.length ∧ firstI k (P.length + 1) g 0 = some (P.length + 1 + M.length) ∧
    placesI k g 0 = [(P.length : Int), ((P.length + 1 + M.length : Nat) : Int)] ∧ btw g P.length (P.length + 1 + M.length) = M ∧ P.length + 1 + M.length < g.length := by
  obtain ⟨P, M, S, e, hP, hM, hS⟩ := RM.split_two h
  refine ⟨P, M, S, e, hP, hM, hS, by rw [e]; exact RM.btwn_of hP hM, ?_, ?_, ?_, ?_, ?_⟩
  · rw [e, first_skip P _ 0 fun x m q _ w => hP (by rw [← w]; exact List.mem_of_getElem? q)]
    show (if _ ∧ _ then _ else _) = _
    rw [if_pos ⟨Nat.zero_le _, rfl⟩, Nat.zero_add]
  · rw [e, first_skip P _ 0 fun x m q ha w => by
      have := (List.getElem?_eq_some_iff.mp q).1
      omega, Nat.zero_add]
    show (if P.length + 1 ≤ P.length ∧ k = k then _ else firstI k _ (M ++ k :: S) (P.length + 1)) = _
    rw [if_neg (by omega), first_skip M _ _ fun x m q _ w => hM (by rw [← w]; exact List.mem_of_getElem? q)]
    show (if _ ∧ _ then _ else _) = _
    rw [if_pos ⟨by omega, rfl⟩]
  · rw [e, places_app, places_none hP, Nat.zero_add]
    show (if k = k then (P.length : Int) :: placesI k (M ++ k :: S) (P.length + 1) else _) = _
    rw [if_pos rfl, places_app, places_none hM]
    show (P.length : Int) :: (if k = k then ((P.length + 1 + M.length : Nat) : Int) :: placesI k S _ else _) = _
    rw [if_pos rfl, places_none hS]
  · unfold btw
    rw [e, show P ++ k :: (M ++ k :: S) = (P ++ [k]) ++ (M ++ k :: S) by simp, List.drop_left' (by simp), show P.length + 1 + M.length - (P.length + 1) = M.length by omega, List.take_left' rfl]
  · rw [e]
    simp only [List.length_append, List.length_cons]
    omega
/-! ### ends, crossing -/
theorem ends_of_ok (h : RingN n g) (hk : 0 ≤ k ∧ k < n) : m_ends_of [.tup (g.map D.int), .int k] = .ok (.d (.tup ((placesI k g 0).map D.int)), []) := by
  obtain ⟨P, M, S, e, hP, hM, hS, hb, f1, f2, hp, hw, hl⟩ := ends_split (h.count hk)
  rw [ends_of_eq h.isD (by have := h.le; omega) hk.1 (by rw [h.half]; exact hk.2) f1 f2, hp]
  rfl
theorem crossing_ok (h : RingN n g) (hk : 0 ≤ k ∧ k < n) : m_crossing [.tup (g.map D.int), .int k] = .ok (.d (.tup (((rngI n).filter fun o => RM.cr g k o).map D.int)), []) := by
  obtain ⟨P, M, S, e, hP, hM, hS, hb, f1, f2, hp, hw, hl⟩ := ends_split (h.count hk)
  rw [crossing_eq h.isD (by have := h.le; omega) hk.1 (by rw [h.half]; exact hk.2) f1 f2 hl (by omega), h.half, hw]
  unfold RM.cr
  rw [hb]
theorem between_len {P M S : List Int} {o i j : Int} (hi : i = P.length) (hj : j = i + 1 + M.length) : ((placesI o (P ++ k :: (M ++ k :: S)) 0).filter fun p => decide (i < p) && decide (p < j)).length = M.count o := by
  have e : P ++ k :: (M ++ k :: S) = (P ++ [k]) ++ (M ++ (k :: S)) := by simp
  rw [e, places_app (P ++ [k]), places_app M, List.filter_append, List.filter_append, List.length_append, List.length_append]
  have a1 : (placesI o (P ++ [k]) 0).filter (fun p => decide (i < p) && decide (p < j)) = [] := List.filter_eq_nil_iff.mpr fun p m => by
    have := places_mem m
    simp only [List.length_append, List.length_cons, List.length_nil] at this
    simp
    omega
  have a2 : ∀ a : Nat, a = P.length + 1 → (placesI o M a).filter (fun p => decide (i < p) && decide (p < j)) = placesI o M a := fun a ha => List.filter_eq_self.mpr fun p m => by
    have := places_mem m
    simp
    omega
  have a3 : ∀ a : Nat, a = P.length + 1 + M.length → (placesI o (k :: S) a).filter (fun p => decide (i < p) && decide (p < j)) = [] := fun a ha => List.filter_eq_nil_iff.mpr fun p m => by
    have := places_mem m
    simp
    omega
  rw [a1, a2 _ (by simp), a3 _ (by simp), places_len]
  simp
theorem do_cross_ok {o : Int} (h : RingN n g) (hk : 0 ≤ k ∧ k < n) : m__law_do_cross [.tup (g.map D.int), .int k, .int o] = .ok (.d (.bl (RM.cr g k o)), []) := by
  obtain ⟨P, M, S, e, hP, hM, hS, hb, f1, f2, hp, hw, hl⟩ := ends_split (h.count hk)
  have hle := h.le
  have l1 := law_ends_eq g k (by omega)
  have l2 := law_ends_eq g o (by omega)
  rw [hp] at l1
  obtain ⟨i, hi⟩ : ∃ i : Int, i = P.length := ⟨_, rfl⟩
  obtain ⟨j, hj⟩ : ∃ j : Int, j = i + 1 + M.length := ⟨_, rfl⟩
  rw [← hi, show ((P.length + 1 + M.length : Nat) : Int) = j by omega] at l1
  have ln := between_len (k := k) (P := P) (M := M) (S := S) (o := o) hi hj
  rw [← e] at ln
  have pl : (placesI o g 0).length ≤ 100000 := by
    have := places_len (k := o) g 0
    have := List.count_le_length (a := o) (l := g)
    omega
  have ct : dEq false (.int ((M.count o : Nat) : Int)) (.int 1) = .ok (.d (.bl (M.count o == 1))) := count_test M o
  simp -implicitDefEqProofs [m__law_do_cross, b__law_do_cross, l1]
  rw [fLc_I (placesI o g 0) D.int (fun p => decide (i < p) && decide (p < j)) (fun _ => D.int 1) (by simp -implicitDefEqProofs [l2]) pl rfl rfl
    (fun p _ => by
      by_cases q1 : i < p <;> by_cases q2 : p < j <;> simp -implicitDefEqProofs [q1, q2])
    (fun p _ _ => ⟨.d (.int 1), by simp -implicitDefEqProofs, rfl⟩)]
  simp -implicitDefEqProofs [ln, ct]
  unfold RM.cr
  rw [hb]
end
end PL
namespace PL
open PySem PySem.Spec PyProof.Rows L2 TN
/-! ### ascending tuples -/
def inR (n : Int) (k : Int) : Bool := decide (0 ≤ k) && decide (k < n)
theorem are_below_ok (xs : List Int) (n : Int) (hl : xs.length ≤ 100000) : m_are_below [.tup (xs.map D.int), .int n] = .ok (.d (.bl (xs.all (inR n))), []) := by
  simp -implicitDefEqProofs [m_are_below, b_are_below, bIsi, tyOf, isiT]
  rw [fLc_I xs D.int (fun _ => true) (fun k => D.bl (inR n k)) (by simp -implicitDefEqProofs) hl rfl rfl (fun a _ => rfl) (fun a _ _ => ⟨.d (.bl (inR n a)), by simp -implicitDefEqProofs [below_eq, inR], rfl⟩)]
  rw [List.filter_eq_self.mpr (fun _ _ => rfl)]
  simp -implicitDefEqProofs [bAll_map]
def ascB (xs : List Int) : Bool := (xs.zip (xs.drop 1)).all fun p => decide (p.1 < p.2)
theorem zipD {α : Type} (e : α → D) (xs ys : List α) : List.zipWith (fun x y => D.wtup [x, y]) (xs.map e) (ys.map e) = (xs.zip ys).map fun p => D.wtup [e p.1, e p.2] := by
  rw [List.zipWith_map, List.zip, List.map_zipWith]
theorem is_ascending_ok (xs : List Int) (n : Int) (hl : xs.length ≤ 100000) : m_is_ascending [.tup (xs.map D.int), .int n] = .ok (.d (.bl (xs.all (inR n) && ascB xs)), []) := by
  obtain ⟨q, e1, e2⟩ := dSl_from (xs.map D.int) 1
  have e1' : dSl (.tup (xs.map D.int)) (some 1) none = .ok q := e1
  cases hb : xs.all (inR n) with
  | false => simp -implicitDefEqProofs [m_is_ascending, b_is_ascending, are_below_ok xs n hl, hb]
  | true =>
    simp -implicitDefEqProofs [m_is_ascending, b_is_ascending, are_below_ok xs n hl, hb]
    rw [fLc_T (xs.zip (xs.drop 1)) (fun p => D.wtup [.int p.1, .int p.2]) (fun _ => true) (fun p => D.bl (decide (p.1 < p.2))) (fun p => [.val (.tup (xs.map D.int)), .val (.int n), .val (.int p.1), .val (.int p.2)])
      (by
        simp -implicitDefEqProofs [e1', e2]
        rw [← List.drop_one, ← List.map_drop, zipD D.int, List.drop_one]) (by rw [List.length_zip]; omega)
      (fun v hv s hs => by
        simp only [List.mem_cons, List.not_mem_nil, or_false] at hv
        rcases hv with rfl | rfl <;> (cases hs; rfl))
      (fun p _ => ⟨rfl, rfl⟩) (fun p _ => rfl) (fun p _ _ => ⟨.d (.bl (decide (p.1 < p.2))), by simp -implicitDefEqProofs, rfl⟩)]
    rw [List.filter_eq_self.mpr (fun _ _ => rfl)]
    simp -implicitDefEqProofs [bAll_map, ascB]
/-! ### ascending tuples of pairs -/
def pltB (p q : Int × Int) : Bool := HT.lexLt [p.1, p.2] [q.1, q.2]
def okP (n : Int) (p : Int × Int) : Bool := inR n p.1 && (inR n p.2 && decide (p.1 < p.2))
theorem pair_ok (p : Int × Int) (n : Int) : m_is_ascending [pD2 p, .int n] = .ok (.d (.bl (okP n p)), []) := by
  have := is_ascending_ok [p.1, p.2] n (by simp)
  simp only [List.map_cons, List.map_nil] at this
  show m_is_ascending [.tup [.int p.1, .int p.2], .int n] = _
  rw [this]
  simp [okP, ascB, Bool.and_assoc]
theorem are_pairs_ok (ts : List (Int × Int)) (n : Int) (hl : ts.length ≤ 100000) : m_are_pairs [.tup (ts.map pD2), .int n] = .ok (.d (.bl (ts.all (okP n) && (ts.zip (ts.drop 1)).all fun p => pltB p.1 p.2)), []) := by
  obtain ⟨q, e1, e2⟩ := dSl_from (ts.map pD2) 1
  have e1' : dSl (.tup (ts.map pD2)) (some 1) none = .ok q := e1
  have two_ : ∀ p : Int × Int, fBi bLen (aCons (fVar 4) aNil) [.val (.tup (ts.map pD2)), .val (.int n), .no, .no, .val (pD2 p)] = .ok (.d (.int 2), [.val (.tup (ts.map pD2)), .val (.int n), .no, .no, .val (pD2 p)]) := fun p => by
    simp -implicitDefEqProofs [pD2]
  have lc : fLc (fSeq (fVar 0)) (gN 4) (bYes) (fAndV (fCall false m_is_ascending (aCons (fVar 4) (aCons (fVar 1) (aNil)))) (fBin (dEq false) (fBi bLen (aCons (fVar 4) (aNil))) (fC (.int 2)))) [4] [.val (.tup (ts.map pD2)), .val (.int n), .no, .no, .no] = .ok (.new (ts.map fun p => D.bl (okP n p)), [.val (.tup (ts.map pD2)), .val (.int n), .no, .no, .no]) := by
    rw [fLc_I ts pD2 (fun _ => true) (fun p => D.bl (okP n p)) (by simp -implicitDefEqProofs) hl rfl rfl (fun a _ => rfl) (fun p _ _ => ⟨.d (.bl (okP n p)), by
      cases h : okP n p <;> simp -implicitDefEqProofs [pair_ok, h, pD2, dEq_intN] <;> (have := pair_ok p n; rw [h] at this; simp only [pD2] at this; simp -implicitDefEqProofs [this, dEq_intN]), rfl⟩)]
    rw [List.filter_eq_self.mpr (fun _ _ => rfl)]
  cases hb : ts.all (okP n) with
  | false => simp -implicitDefEqProofs [m_are_pairs, b_are_pairs, bIsi, tyOf, isiT, lc, bAll_map, hb]
  | true =>
    simp -implicitDefEqProofs [m_are_pairs, b_are_pairs, bIsi, tyOf, isiT, lc, bAll_map, hb]
    rw [fLc_T (ts.zip (ts.drop 1)) (fun p => D.wtup [pD2 p.1, pD2 p.2]) (fun _ => true) (fun p => D.bl (pltB p.1 p.2)) (fun p => [.val (.tup (ts.map pD2)), .val (.int n), .val (pD2 p.1), .val (pD2 p.2), .no])
      (by
        simp -implicitDefEqProofs [e1', e2]
        rw [← List.drop_one, ← List.map_drop, zipD pD2, List.drop_one]) (by rw [List.length_zip]; omega)
      (fun v hv s hs => by
        simp only [List.mem_cons, List.not_mem_nil, or_false] at hv
        rcases hv with rfl | rfl <;> (cases hs; rfl))
      (fun p _ => ⟨rfl, rfl⟩) (fun p _ => rfl) (fun p _ _ => ⟨.d (.bl (pltB p.1 p.2)), by
        have : dLt (pD2 p.1) (pD2 p.2) = .ok (.d (.bl (pltB p.1 p.2))) := e_dLtT [p.1.1, p.1.2] [p.2.1, p.2.2]
        simp -implicitDefEqProofs [this], rfl⟩)]
    rw [List.filter_eq_self.mpr (fun _ _ => rfl)]
    simp -implicitDefEqProofs [bAll_map]
/-! ### webs -/
def plt (p q : Int × Int) : Prop := p.1 < q.1 ∨ p.1 = q.1 ∧ p.2 < q.2
theorem pltB_of {p q : Int × Int} (h : plt p q) : pltB p q = true := by
  unfold pltB
  rw [HT.lexLt_cons]
  rcases h with h | ⟨h1, h2⟩
  · rw [if_neg (by omega)]; simpa using h
  · rw [if_pos h1, HT.lexLt_cons, if_neg (by omega)]; simpa using h2
structure WebN (n : Int) (ts : List (Int × Int)) : Prop where
  lo : 1 ≤ n
  hi : n ≤ 10
  ok : ∀ p ∈ ts, 0 ≤ p.1 ∧ p.1 < p.2 ∧ p.2 < n
  asc : ts.Pairwise plt
  len : ts.length ≤ 100000
abbrev W (n : Int) (ts : List (Int × Int)) : D := .obj 0 [.int n, .tup (ts.map pD2)]
theorem adj_of {α : Type} {r : α → α → Prop} : ∀ {l : List α}, l.Pairwise r → ∀ p ∈ l.zip (l.drop 1), r p.1 p.2
  | [], _, p, m => by cases m
  | [_], _, p, m => by cases m
  | a :: b :: l, h, p, m => by
    rw [List.pairwise_cons] at h
    rcases List.mem_cons.mp m with e | m
    · subst e; exact h.1 b List.mem_cons_self
    · exact adj_of h.2 p m
theorem mWeb_ok {n : Int} {ts : List (Int × Int)} (h : WebN n ts) : m_Web [.int n, .tup (ts.map pD2)] = .ok [.int n, .tup (ts.map pD2)] := by
  have a : ts.all (okP n) = true := List.all_eq_true.mpr fun p m => by
    have := h.ok p m
    simp only [okP, inR, Bool.and_eq_true, decide_eq_true_eq]
    omega
  have b : ((ts.zip (ts.drop 1)).all fun p => pltB p.1 p.2) = true := List.all_eq_true.mpr fun p m => pltB_of (adj_of h.asc p m)
  have w := whole_eq (d := .int n) rfl
  have lo := h.lo
  have hi := h.hi
  have pr := are_pairs_ok ts n h.len
  rw [a, b] at pr
  simp -implicitDefEqProofs [m_Web, w, wholeD, lo, hi, pr]
theorem web_eq_ok (n m : Int) (s t : List (Int × Int)) : m_Web_eq [W n s, W m t] = .ok (.d (.bl (decide (n = m) && decide (s = t))), []) := by
  by_cases h : n = m <;> simp -implicitDefEqProofs [m_Web_eq, b_Web_eq, W, e_isiO, dEq_intN, dEq_pairs, h]
/-- the ties of the names that stand in r -/
def tiesOf (n : Int) (r : Int → Int → Bool) : List (Int × Int) := (rngI n).flatMap fun a => ((rngI n).filter fun b => decide (a < b) && r a b).map fun b => (a, b)
theorem tiesOf_web {n : Int} (h0 : 1 ≤ n) (h1 : n ≤ 10) (r : Int → Int → Bool) : WebN n (tiesOf n r) := by
  refine ⟨h0, h1, fun p m => ?_, ?_, ?_⟩
  · obtain ⟨a, ha, hp⟩ := List.mem_flatMap.mp m
    obtain ⟨b, hb, rfl⟩ := List.mem_map.mp hp
    obtain ⟨hb, hq⟩ := List.mem_filter.mp hb
    simp only [Bool.and_eq_true, decide_eq_true_eq] at hq
    have := rngI_mem ha
    have := rngI_mem hb
    omega
  · unfold tiesOf
    rw [List.pairwise_flatMap]
    refine ⟨fun a _ => ?_, ?_⟩
    · rw [List.pairwise_map]
      exact ((rngI_lt n).filter _).imp fun h => .inr ⟨rfl, h⟩
    · refine (rngI_lt n).imp fun h x hx y hy => ?_
      obtain ⟨_, _, rfl⟩ := List.mem_map.mp hx
      obtain ⟨_, _, rfl⟩ := List.mem_map.mp hy
      exact .inl h
  · have := flatMap_le (f := fun a => ((rngI n).filter fun b => decide (a < b) && r a b).map fun b => (a, b)) (k := 10) (l := rngI n) fun a _ => by
      rw [List.length_map]
      refine Nat.le_trans (List.length_filter_le ..) ?_
      rw [rngI_length]
      omega
    unfold tiesOf
    rw [rngI_length] at this
    omega
theorem tiesOf_congr {n : Int} {r r' : Int → Int → Bool} (h : ∀ a b, 0 ≤ a → a < b → b < n → r a b = r' a b) : tiesOf n r = tiesOf n r' := by
  unfold tiesOf
  rw [List.flatMap_def, List.flatMap_def]
  congr 1
  refine List.map_congr_left fun a ha => ?_
  congr 1
  refine List.filter_congr fun b hb => ?_
  by_cases q : a < b
  · rw [h a b (rngI_mem ha).1 q (rngI_mem hb).2]
  · simp [q]
/-! ### the web of a ring -/
theorem web_of_ok {n : Int} {g : List Int} (h : RingN n g) : m_web_of [.tup (g.map D.int)] = .ok (.d (W n (tiesOf n (RM.cr g))), []) := by
  have lo := h.lo
  have hi := h.hi
  have ck := check_eq h.isD (by have := h.le; omega)
  have hw := mWeb_ok (tiesOf_web lo hi (RM.cr g))
  have a1 : (-4611686018427387904 : Int) ≤ n := by omega
  have a2 : n < 4611686018427387904 := by omega
  simp -implicitDefEqProofs [m_web_of, b_web_of, ck, e_gdiv, h.half]
  rw [fLc2_I (rngI n) D.int (fun _ => true) (fun a => [.val (.tup (g.map D.int)), .val (.int n), .no, .val (.int a), .no]) (fun a => (rngI n).filter (RM.cr g a)) D.int (fun a b => decide (a < b)) (fun a b => pD2 (a, b)) (fun a b => [.val (.tup (g.map D.int)), .val (.int n), .no, .val (.int a), .val (.int b)])
    (by decide) (by simp -implicitDefEqProofs [a1, a2, rng_eq])
    (by
      have := flatMap_le (f := fun a => (rngI n).filter (RM.cr g a)) (k := 10) (l := rngI n) fun a _ => by
        refine Nat.le_trans (List.length_filter_le ..) ?_
        rw [rngI_length]
        omega
      rw [rngI_length] at this
      omega)
    (fun v hv s hs => by
      simp only [List.mem_cons, List.not_mem_nil, or_false] at hv
      rcases hv with rfl | rfl <;> (cases hs; rfl))
    (fun a _ => ⟨rfl, rfl⟩) (fun a _ => rfl)
    (fun a ha _ => by simp -implicitDefEqProofs [crossing_ok h (rngI_mem ha)])
    (fun a _ _ b _ => ⟨rfl, rfl⟩) (fun a _ _ b _ => by simp -implicitDefEqProofs) (fun a _ _ b _ _ => ⟨.d (pD2 (a, b)), by simp -implicitDefEqProofs [pD2], rfl⟩)]
  rw [List.filter_eq_self.mpr (fun _ _ => rfl)]
  have e : ((rngI n).flatMap fun a => (((rngI n).filter (RM.cr g a)).filter fun b => decide (a < b)).map fun b => pD2 (a, b)) = (tiesOf n (RM.cr g)).map pD2 := by
    unfold tiesOf
    rw [List.map_flatMap]
    congr 1
    funext a
    rw [List.filter_filter, List.map_map]
    rfl
  rw [e]
  simp -implicitDefEqProofs [hw, W]
end PL
namespace PL
open PySem PySem.Spec PyProof.Rows L2 TN
@[simp] theorem e_ext (i : Nat) (f : F) (env : Ev) : fExt i f env = (ofO (lstAt env i)).bind fun _ => (f env).bind fun p => (match p.1.opd.der p.2 with
  | some (.lst ys) => (ofO (lstAt p.2 i)).bind fun l => if l.1.length + ys.length ≤ 100000 then .ok (.d .non, p.2.set i (l.2 (l.1 ++ ys))) else .no
  | _ => .no) := rfl
theorem rng_part {n a : Int} (h0 : 0 ≤ a) (h1 : a < n) : rng (a + 1) n = ((rngI n).filter fun b => decide (a < b)).map D.int := by
  have e : rngI n = rngI (a + 1) ++ (List.range (n - (a + 1)).toNat).map fun k : Nat => a + 1 + (k : Int) := by
    unfold rngI
    rw [show n.toNat = (a + 1).toNat + (n - (a + 1)).toNat by omega, List.range_add, List.map_append, List.map_map]
    congr 1
    refine List.map_congr_left fun k _ => ?_
    simp only [Function.comp]
    omega
  rw [e, List.filter_append, List.filter_eq_nil_iff.mpr (fun x m => by have := rngI_mem m; simp; omega), List.nil_append, List.filter_eq_self.mpr (fun x m => by
    obtain ⟨k, _, rfl⟩ := List.mem_map.mp m
    simp
    omega), List.map_map]
  rfl
/-- a loop that goes on to its end, its turns counted -/
theorem forF_N {α σ : Type} {ga : GA} {s : S} (e : α → D) (step : σ → α → σ) (I : Nat → σ → Ev → Prop) (m : Nat) : ∀ (as : List α) (k : Nat) (t : σ) (w : Ev), k + as.length ≤ m → I k t w →
    (∀ a ∈ as, ∀ k t w, k < m → I k t w → ∃ w1 w2, ga (e a) w = some w1 ∧ s w1 = .ok (.nx, w2) ∧ I (k + 1) (step t a) w2) → ∃ w', forF ga s (as.map e) w = .ok (.nx, w') ∧ I (k + as.length) (as.foldl step t) w'
  | [], k, t, w, _, h, _ => ⟨w, rfl, h⟩
  | a :: as, k, t, w, hm, h, hs => by
    rw [List.length_cons] at hm
    obtain ⟨w1, w2, h1, h2, h3⟩ := hs a List.mem_cons_self k t w (by omega) h
    obtain ⟨w3, h4, h5⟩ := forF_N e step I m as (k + 1) _ w2 (by omega) h3 fun b q => hs b (List.mem_cons_of_mem _ q)
    refine ⟨w3, ?_, by rw [List.length_cons, show k + (as.length + 1) = k + 1 + as.length by omega]; exact h5⟩
    show (ofO (ga (e a) w)).bind _ = _
    rw [h1]
    show (s w1).bind _ = _
    rw [h2]
    exact h4
/-- the own ties of a law: those of a relation told name by name -/
theorem ties_loop {n : Int} (r : Int → Int → Bool) : (rngI n).foldl (fun s a => s ++ (((rngI n).filter fun b => decide (a < b)).filter (r a)).map fun b => (a, b)) [] = tiesOf n r := by
  rw [foldl_app, List.nil_append]
  unfold tiesOf
  congr 1
  funext a
  rw [List.filter_filter]
  congr 1
  refine List.filter_congr fun b _ => ?_
  rw [Bool.and_comm]
theorem part_le {n : Int} (hi : n ≤ 10) (p : Int → Bool) : ((rngI n).filter p).length ≤ 10 := by
  refine Nat.le_trans (List.length_filter_le ..) ?_
  rw [rngI_length]
  omega
theorem law_ties_ok {n : Int} {g : List Int} (h : RingN n g) : m__law_ties [.tup (g.map D.int)] = .ok (.d (.tup ((tiesOf n (RM.cr g)).map pD2)), []) := by
  have lo := h.lo
  have hi := h.hi
  have a1 : (-4611686018427387904 : Int) ≤ n := by omega
  have a2 : n < 4611686018427387904 := by omega
  obtain ⟨w, f1, f2, x, f3⟩ := forF_N (ga := gN 3) (s := sExpr (fExt 2 (fLc (fRng2 (aCons (fBin dAdd (fVar 3) (fC (.int 1))) (aCons (fVar 1) (aNil)))) (gN 4) (fTru (fCall false m__law_do_cross (aCons (fVar 0) (aCons (fVar 3) (aCons (fVar 4) (aNil)))))) (fTup (aCons (fVar 3) (aCons (fVar 4) (aNil)))) [4]))) D.int
    (fun (s : List (Int × Int)) a => s ++ (((rngI n).filter fun b => decide (a < b)).filter (RM.cr g a)).map fun b => (a, b))
    (fun k s w => s.length ≤ k * 10 ∧ ∃ x, w = [.val (.tup (g.map D.int)), .val (.int n), .own (s.map pD2), x, .no]) 10 (rngI n) 0 [] [.val (.tup (g.map D.int)), .val (.int n), .own [], .no, .no] (by rw [rngI_length]; omega) ⟨by simp, _, rfl⟩ (fun a ha k s w hk ⟨hs, x, hw⟩ => by
      subst hw
      have ha := rngI_mem ha
      have b1 : (-4611686018427387904 : Int) ≤ a + 1 := by omega
      have b2 : a + 1 < 4611686018427387904 := by omega
      have pl := part_le hi fun b => decide (a < b)
      have ql : (((rngI n).filter fun b => decide (a < b)).filter (RM.cr g a)).length ≤ 10 := Nat.le_trans (List.length_filter_le ..) pl
      refine ⟨[.val (.tup (g.map D.int)), .val (.int n), .own (s.map pD2), .val (.int a), .no], _, by simp -implicitDefEqProofs, ?_, ?_, .val (.int a), rfl⟩
      · simp -implicitDefEqProofs
        rw [fLc_I ((rngI n).filter fun b => decide (a < b)) D.int (RM.cr g a) (fun b => pD2 (a, b)) (by simp -implicitDefEqProofs [a1, a2, b1, b2, rng_part ha.1 ha.2]) (by omega) rfl rfl
          (fun b _ => by simp -implicitDefEqProofs [do_cross_ok h ha]) (fun b _ _ => ⟨.d (pD2 (a, b)), by simp -implicitDefEqProofs [pD2], rfl⟩)]
        have : s.length + (((rngI n).filter fun b => decide (a < b)).filter (RM.cr g a)).length ≤ 100000 := by omega
        rw [List.filter_filter] at this
        simp -implicitDefEqProofs [this]
      · rw [List.length_append, List.length_map]
        omega)
  rw [ties_loop] at f2 f3
  subst f3
  simp -implicitDefEqProofs [m__law_ties, b__law_ties, e_gdiv, h.half, a1, a2, rng_eq, f1]
/-! ### turned about, read from behind -/
theorem turned_about_ok {n by_ : Int} {g : List Int} (h : RingN n g) (h0 : 0 ≤ by_) (h1 : by_ < 2 * n) : m_turned_about [.tup (g.map D.int), .int by_] = .ok (.d (.tup ((g.drop by_.toNat ++ g.take by_.toNat).map D.int)), []) := by
  obtain ⟨k, rfl⟩ : ∃ k : Nat, by_ = k := ⟨by_.toNat, by omega⟩
  have ck := check_eq h.isD (by have := h.le; omega)
  obtain ⟨q1, e1, f1⟩ := dSl_from (g.map D.int) k
  obtain ⟨q2, e2, f2⟩ := dSl_to (g.map D.int) k
  have hl := h.le
  obtain ⟨q3, e3, f3⟩ := dAdd_tup ((g.map D.int).drop k) ((g.map D.int).take k) (by simp; omega)
  have b := below_eq k (g.length : Nat)
  have l : (k : Int) < (g.length : Int) := by have := h.len; have := h.lo; omega
  rw [decide_eq_true h0, decide_eq_true l] at b
  simp -implicitDefEqProofs [m_turned_about, b_turned_about, ck, b, e1, f1, e2, f2, e3, f3]
theorem mirrored_ok {n : Int} {g : List Int} (h : RingN n g) : m_mirrored [.tup (g.map D.int)] = .ok (.d (.tup (g.reverse.map D.int)), []) := by
  have ck := check_eq h.isD (by have := h.le; omega)
  simp -implicitDefEqProofs [m_mirrored, b_mirrored, ck]
theorem RingN.about {n : Int} {g : List Int} (h : RingN n g) (k : Nat) : RingN n (g.drop k ++ g.take k) := h.of_perm (by
  have : (g.drop k ++ g.take k).Perm (g.take k ++ g.drop k) := List.perm_append_comm
  rwa [List.take_append_drop] at this)
theorem RingN.rev {n : Int} {g : List Int} (h : RingN n g) : RingN n g.reverse := h.of_perm (List.reverse_perm g)
theorem ties_about {n : Int} {g : List Int} (h : RingN n g) (k : Nat) : tiesOf n (RM.cr (g.drop k ++ g.take k)) = tiesOf n (RM.cr g) := tiesOf_congr fun a b ha hab hb => by
  have e := List.take_append_drop k g
  have := RM.cr_about (x := g.take k) (y := g.drop k) (a := a) (b := b) (by rw [e]; exact h.count ⟨ha, by omega⟩) (by rw [e]; exact h.count ⟨by omega, hb⟩)
  rw [this, e]
theorem ties_rev {n : Int} {g : List Int} (h : RingN n g) : tiesOf n (RM.cr g.reverse) = tiesOf n (RM.cr g) := tiesOf_congr fun a b ha hab hb => RM.cr_rev (h.count ⟨ha, by omega⟩) (h.count ⟨by omega, hb⟩)
/-! ### plain values -/
theorem plain_int (k : Nat) (i : Int) : m__law_is_plain (k + 1) [.int i] = .ok (.d (.bl true), []) := by
  simp -implicitDefEqProofs [m__law_is_plain, b__law_is_plain, bIsi, tyOf, isiT, dIs, isNonD]
theorem plain_tup {k : Nat} {xs : List D} (hl : xs.length ≤ 100000) (h : ∀ x ∈ xs, m__law_is_plain k [x] = .ok (.d (.bl true), [])) : m__law_is_plain (k + 1) [.tup xs] = .ok (.d (.bl true), []) := by
  simp -implicitDefEqProofs [m__law_is_plain, b__law_is_plain, bIsi, tyOf, isiT]
  rw [fLc_I xs id (fun _ => false) id (by simp -implicitDefEqProofs) hl rfl rfl (fun x m => by simp -implicitDefEqProofs [h x m]) (fun x _ q => by cases q)]
  have e := dEq_nil false []
  simp only [List.map_nil] at e
  have ff : xs.filter (fun _ => false) = [] := List.filter_eq_nil_iff.mpr fun _ _ h => by cases h
  rw [ff]
  simp -implicitDefEqProofs [e]
theorem plain_ints {k : Nat} (xs : List Int) (hl : xs.length ≤ 100000) : m__law_is_plain (k + 2) [.tup (xs.map D.int)] = .ok (.d (.bl true), []) := plain_tup (by rw [List.length_map]; exact hl) fun x m => by
  obtain ⟨i, _, rfl⟩ := List.mem_map.mp m
  exact plain_int k i
theorem plain_pairs {k : Nat} (xs : List (Int × Int)) (hl : xs.length ≤ 100000) : m__law_is_plain (k + 3) [.tup (xs.map pD2)] = .ok (.d (.bl true), []) := plain_tup (by rw [List.length_map]; exact hl) fun x m => by
  obtain ⟨i, _, rfl⟩ := List.mem_map.mp m
  exact plain_ints [i.1, i.2] (by simp)
end PL
namespace PL
open PySem PySem.Spec PyProof.Rows L2 TN
def b_are_all_once : S := sRet (fAndV (fCall false m_are_below (aCons (fVar 0) (aCons (fVar 1) (aNil)))) (fBin (dEq false) (fBi bSortedX (aCons (fVar 0) (aNil))) (fLRg1 (fVar 1))))
def m_are_all_once : Fn := fnOf false 2 b_are_all_once
def b_turned_ring : S := sCons (sExpr (fCall false m_check_ring (aCons (fVar 0) (aNil)))) (sCons (sExpr (fCall false m__check_name (aCons (fVar 0) (aCons (fVar 1) (aNil))))) (sCons (sAsg (gT [2, 3]) (fCall false m__ends (aCons (fVar 0) (aCons (fVar 1) (aNil))))) (sRet (fBin dAdd (fBin dAdd (fSl dSl (fVar 0) (oNone) (oSome (fVar 2))) (fBack (fSl dSl (fVar 0) (oSome (fVar 2)) (oSome (fBin dAdd (fVar 3) (fC (.int 1))))))) (fSl dSl (fVar 0) (oSome (fBin dAdd (fVar 3) (fC (.int 1)))) (oNone))))))
def m_turned_ring : Fn := fnOf false 4 b_turned_ring
def b_least_form : S := sCons (sExpr (fCall false m_check_ring (aCons (fVar 0) (aNil)))) (sCons (sSet 1 (fBack (fVar 0))) (sCons (sSet 2 (fLc2 (fSeq (fTup (aCons (fVar 0) (aCons (fVar 1) (aNil))))) (gN 3) (bYes) (fRng1 (aCons (fBi bLen (aCons (fVar 0) (aNil))) (aNil))) (gN 4) (bYes) (fBin dAdd (fSl dSl (fVar 3) (oSome (fVar 4)) (oNone)) (fSl dSl (fVar 3) (oNone) (oSome (fVar 4)))) [3, 4] [4])) (sRet (fBi bMinX (aCons (fVar 2) (aNil))))))
def m_least_form : Fn := fnOf false 5 b_least_form
def b__named : S := sRet (fBi bTuple (aCons (fLc (fSeq (fVar 0)) (gN 2) (bYes) (fBin dIx (fVar 1) (fVar 2)) [2]) (aNil)))
def m__named : Fn := fnOf false 3 b__named
def b_renamed_ring : S := sCons (sExpr (fCall false m_check_ring (aCons (fVar 0) (aNil)))) (sCons (sIf (fNotB (fTru (fCall false m_are_all_once (aCons (fVar 1) (aCons (fBin (oI gDiv) (fBi bLen (aCons (fVar 0) (aNil))) (fC (.int 2))) (aNil)))))) (sNever) (sNil)) (sRet (fCall false m__named (aCons (fVar 0) (aCons (fVar 1) (aNil))))))
def m_renamed_ring : Fn := fnOf false 2 b_renamed_ring
def b__law_taken : S := sRet (fBin dIx (fVar 1) (fCall true m__law_ball (aCons (fVar 0) (aCons (fBi bLen (aCons (fVar 1) (aNil))) (aNil)))))
def m__law_taken : Fn := fnOf true 2 b__law_taken
def b__law_form : S := sCons (sSet 1 (fVar 0)) (sCons (sFor (fRng1 (aCons (fBi bLen (aCons (fVar 0) (aNil))) (aNil))) (gN 2) (sCons (sSet 3 (fBin dAdd (fSl dSl (fVar 0) (oSome (fVar 2)) (oNone)) (fSl dSl (fVar 0) (oNone) (oSome (fVar 2))))) (sSet 1 (fBi bMinX (aCons (fVar 1) (aCons (fVar 3) (aCons (fBi bTuple (aCons (fBack (fBi bList (aCons (fVar 3) (aNil)))) (aNil))) (aNil)))))))) (sRet (fVar 1)))
def m__law_form : Fn := fnOf false 4 b__law_form
def b__law_right_k24 : S := sCons (sSet 1 (fBin dAdd (fC (.int 1)) (fCall true m__law_ball (aCons (fVar 0) (aCons (fCall true m__law_taken (aCons (fVar 0) (aCons (fLst (aCons (fC (.int 3)) (aCons (fC (.int 6)) (aCons (fC (.int 10)) (aNil))))) (aNil)))) (aNil)))))) (sCons (sAsg (gT [2, 3]) (fTup (aCons (fCall true m__law_ring (aCons (fVar 0) (aCons (fVar 1) (aNil)))) (aCons (fBi bTuple (aCons (fCall true m__law_mixed (aCons (fVar 0) (aCons (fLRg1 (fVar 1)) (aNil)))) (aNil))) (aNil))))) (sCons (sSet 4 (fCall false m__law_form (aCons (fVar 2) (aNil)))) (sCons (sSet 5 (fCall false m_turned_about (aCons (fVar 2) (aCons (fCall true m__law_ball (aCons (fVar 0) (aCons (fBin dMul (fC (.int 2)) (fVar 1)) (aNil)))) (aNil))))) (sCons (sSet 5 (fIf (bOf (fBin (dEq false) (fCall true m__law_ball (aCons (fVar 0) (aCons (fC (.int 2)) (aNil)))) (fC (.int 0)))) (fCall false m_mirrored (aCons (fVar 5) (aNil))) (fVar 5))) (sCons (sSet 6 (fCall true m__law_ring (aCons (fVar 0) (aCons (fVar 1) (aNil))))) (sCons (sIf (fOrB (bOf (fBin (dEq true) (fCall false m_least_form (aCons (fVar 2) (aNil))) (fVar 4))) (fOrB (bOf (fBin (dEq true) (fCall false m_least_form (aCons (fVar 5) (aNil))) (fVar 4))) (bOf (fBin (dEq true) (fCall false m_least_form (aCons (fVar 4) (aNil))) (fVar 4))))) (sRet (fC (.bl false))) (sNil)) (sCons (sIf (fOrB (bOf (fBin (dEq true) (fCall false m_least_form (aCons (fVar 6) (aNil))) (fCall false m__law_form (aCons (fVar 6) (aNil))))) (bOf (fEqO 0 m_Web_eq true (fCall false m_web_of (aCons (fVar 4) (aNil))) (fCall false m_web_of (aCons (fVar 2) (aNil)))))) (sRet (fC (.bl false))) (sNil)) (sCons (sSet 7 (fCall true m__law_ball (aCons (fVar 0) (aCons (fVar 1) (aNil))))) (sCons (sIf (bOf (fBin (dEq true) (fCall false m_least_form (aCons (fCall false m_turned_ring (aCons (fVar 2) (aCons (fVar 7) (aNil)))) (aNil))) (fCall false m_least_form (aCons (fCall false m_turned_ring (aCons (fVar 5) (aCons (fVar 7) (aNil)))) (aNil))))) (sRet (fC (.bl false))) (sNil)) (sRet (fBin (dEq false) (fCall false m_least_form (aCons (fCall false m_renamed_ring (aCons (fVar 2) (aCons (fVar 3) (aNil)))) (aNil))) (fCall false m__law_form (aCons (fBi bTuple (aCons (fLc (fSeq (fVar 2)) (gN 8) (bYes) (fBin dIx (fVar 3) (fVar 8)) [8]) (aNil))) (aNil))))))))))))))
def m__law_right_k24 : Fn := fnOf true 9 b__law_right_k24
def b_law_k24 : S := sCons (sFor (fRng1 (aCons (fBi bMaxX (aCons (fC (.int 1)) (aCons (fBi bMinX (aCons (fC (.int 3)) (aCons (fBi bLen (aCons (fVar 0) (aNil))) (aNil)))) (aNil)))) (aNil))) (gN 1) (sCons (sSet 2 (fCall false m__law_urn (aCons (fVar 0) (aCons (fVar 1) (aNil))))) (sFor (fRng1 (aCons (fC (.int 8)) (aNil))) (gN 3) (sIf (fNotB (fTru (fCall true m__law_right_k24 (aCons (fVar 2) (aNil))))) (sRet (fC (.bl false))) (sNil))))) (sCons (sSet 4 (fLc (fSeq (fTup (aCons (fTup (aCons (fC (.int 1)) (aCons (fC (.int 1)) (aCons (fC (.int 0)) (aCons (fC (.int 0)) (aNil)))))) (aCons (fTup (aCons (fC (.int 1)) (aCons (fC (.int 0)) (aCons (fC (.int 1)) (aCons (fC (.int 0)) (aNil)))))) (aCons (fTup (aCons (fC (.int 0)) (aCons (fC (.int 0)) (aNil)))) (aCons (fTup (aCons (fC (.int 2)) (aCons (fC (.int 1)) (aCons (fC (.int 0)) (aCons (fC (.int 2)) (aCons (fC (.int 0)) (aCons (fC (.int 1)) (aNil)))))))) (aCons (fTup (aCons (fC (.int 1)) (aCons (fC (.int 2)) (aCons (fC (.int 2)) (aCons (fC (.int 1)) (aCons (fC (.int 0)) (aCons (fC (.int 0)) (aNil)))))))) (aNil)))))))) (gN 5) (bYes) (fCall false m_least_form (aCons (fVar 5) (aNil))) [5])) (sCons (sIf (fNotB (fTru (fCall false (m__law_is_plain 8) (aCons (fBi bTuple (aCons (fVar 4) (aNil))) (aNil))))) (sRet (fC (.bl false))) (sNil)) (sRet (fBin (dEq false) (fVar 4) (fLst (aCons (fTup (aCons (fC (.int 0)) (aCons (fC (.int 0)) (aCons (fC (.int 1)) (aCons (fC (.int 1)) (aNil)))))) (aCons (fTup (aCons (fC (.int 0)) (aCons (fC (.int 1)) (aCons (fC (.int 0)) (aCons (fC (.int 1)) (aNil)))))) (aCons (fTup (aCons (fC (.int 0)) (aCons (fC (.int 0)) (aNil)))) (aCons (fTup (aCons (fC (.int 0)) (aCons (fC (.int 1)) (aCons (fC (.int 2)) (aCons (fC (.int 1)) (aCons (fC (.int 0)) (aCons (fC (.int 2)) (aNil)))))))) (aCons (fTup (aCons (fC (.int 0)) (aCons (fC (.int 0)) (aCons (fC (.int 1)) (aCons (fC (.int 2)) (aCons (fC (.int 2)) (aCons (fC (.int 1)) (aNil)))))))) (aNil)))))))))))
def m_law_k24 : Fn := fnOf false 6 b_law_k24
end PL
/-! rings turned at a name, rings like one another -/
namespace RM
section
variable {α : Type} [BEq α] [LawfulBEq α]
/-- the stretch between both places of v reversed -/
def turnR (v : α) (g : List α) : List α := g.takeWhile (· != v) ++ v :: ((btwn v g).reverse ++ v :: (((g.dropWhile (· != v)).drop 1).dropWhile (· != v)).drop 1)
theorem turnR_of {v : α} {P M S : List α} (hP : v ∉ P) (hM : v ∉ M) : turnR v (P ++ v :: (M ++ v :: S)) = P ++ v :: (M.reverse ++ v :: S) := by
  unfold turnR
  rw [btwn_of hP hM, takeWhile_app (ne_of_not_mem hP), List.takeWhile_cons_of_neg (by simp), dropWhile_app (ne_of_not_mem hP), List.dropWhile_cons_of_neg (by simp)]
  show P ++ [] ++ v :: (M.reverse ++ v :: ((M ++ v :: S).dropWhile (· != v)).drop 1) = _
  rw [dropWhile_app (ne_of_not_mem hM), List.dropWhile_cons_of_neg (by simp), List.append_nil]
  rfl
/-! ### like one another -/
/-- y is g turned about, or g read from behind turned about -/
def Lk (g y : List α) : Prop := (∃ a b, g = a ++ b ∧ y = b ++ a) ∨ ∃ a b, g.reverse = a ++ b ∧ y = b ++ a
theorem Lk.refl (g : List α) : Lk g g := .inl ⟨[], g, rfl, by simp⟩
theorem Lk.rev (g : List α) : Lk g g.reverse := .inr ⟨[], g.reverse, rfl, by simp⟩
theorem Lk.about (a b : List α) : Lk (a ++ b) (b ++ a) := .inl ⟨a, b, rfl, rfl⟩
omit [BEq α] [LawfulBEq α] in
theorem rot_rot {a b c d : List α} (h : b ++ a = c ++ d) : ∃ e f, a ++ b = e ++ f ∧ d ++ c = f ++ e := by
  rcases List.append_eq_append_iff.mp h with ⟨x, h1, h2⟩ | ⟨x, h1, h2⟩
  · subst h1 h2
    exact ⟨x, d ++ b, by simp, by simp⟩
  · subst h1 h2
    exact ⟨a ++ c, x, by simp, by simp⟩
theorem Lk.trans {g y w : List α} (h1 : Lk g y) (h2 : Lk y w) : Lk g w := by
  rcases h1 with ⟨a, b, rfl, rfl⟩ | ⟨a, b, h, rfl⟩
  · rcases h2 with ⟨c, d, h, rfl⟩ | ⟨c, d, h, rfl⟩
    · obtain ⟨e, f, q1, q2⟩ := rot_rot h
      exact .inl ⟨e, f, q1, q2⟩
    · rw [List.reverse_append] at h
      obtain ⟨e, f, q1, q2⟩ := rot_rot h
      exact .inr ⟨e, f, by rw [List.reverse_append]; exact q1, q2⟩
  · rcases h2 with ⟨c, d, h', rfl⟩ | ⟨c, d, h', rfl⟩
    · obtain ⟨e, f, q1, q2⟩ := rot_rot h'
      exact .inr ⟨e, f, by rw [h]; exact q1, q2⟩
    · have hg : g = b.reverse ++ a.reverse := by rw [← List.reverse_reverse g, h, List.reverse_append]
      rw [List.reverse_append] at h'
      obtain ⟨e, f, q1, q2⟩ := rot_rot h'
      exact .inl ⟨e, f, by rw [hg]; exact q1, q2⟩
theorem Lk.symm {g y : List α} (h : Lk g y) : Lk y g := by
  rcases h with ⟨a, b, rfl, rfl⟩ | ⟨a, b, h, rfl⟩
  · exact Lk.about b a
  · have hg : g = b.reverse ++ a.reverse := by rw [← List.reverse_reverse g, h, List.reverse_append]
    exact .inr ⟨a.reverse, b.reverse, by rw [List.reverse_append], hg⟩
/-- turned at a name, rings stay like -/
theorem turn_about {v : α} {a b : List α} (h : (a ++ b).count v = 2) : Lk (turnR v (a ++ b)) (turnR v (b ++ a)) := by
  obtain ⟨P, M, S, e, hP, hM, hS⟩ := split_two h
  rcases List.append_eq_append_iff.mp e with ⟨x, h1, h2⟩ | ⟨x, h1, h2⟩
  · -- the cut lies in P: P = a ++ x, b = x ++ v :: ..
    subst h1 h2
    have hx : v ∉ x := fun m => hP (List.mem_append_right _ m)
    have h1 : turnR v (a ++ (x ++ v :: (M ++ v :: S))) = a ++ x ++ v :: (M.reverse ++ v :: S) := by
      rw [← List.append_assoc]
      exact turnR_of hP hM
    have h2 : turnR v (x ++ v :: (M ++ v :: S) ++ a) = x ++ v :: (M.reverse ++ v :: (S ++ a)) := by
      rw [show x ++ v :: (M ++ v :: S) ++ a = x ++ v :: (M ++ v :: (S ++ a)) by simp]
      exact turnR_of hx hM
    rw [h1, h2]
    exact .inl ⟨a, x ++ v :: (M.reverse ++ v :: S), by simp, by simp⟩
  · -- a = P ++ x, v :: (M ++ v :: S) = x ++ b
    cases x with
    | nil =>
      rw [List.nil_append] at h2
      rw [List.append_nil] at h1
      subst h1 h2
      have h1 : turnR v (a ++ v :: (M ++ v :: S)) = a ++ v :: (M.reverse ++ v :: S) := turnR_of hP hM
      have h2 : turnR v (v :: (M ++ v :: S) ++ a) = v :: (M.reverse ++ v :: (S ++ a)) := by
        rw [show v :: (M ++ v :: S) ++ a = [] ++ v :: (M ++ v :: (S ++ a)) by simp]
        exact turnR_of (by simp) hM
      rw [h1, h2]
      exact .inl ⟨a, v :: (M.reverse ++ v :: S), by simp, by simp⟩
    | cons y x =>
      rw [List.cons_append] at h2
      injection h2 with e1 e2
      subst e1
      subst h1
      rcases List.append_eq_append_iff.mp e2 with ⟨w, h3, h4⟩ | ⟨w, h3, h4⟩
      · -- the cut lies behind the last v: x = M ++ w', w' ++ b = v :: S
        cases w with
        | nil =>
          rw [List.nil_append] at h4
          rw [List.append_nil] at h3
          subst h3
          rw [← h4]
          have h1 : turnR v (P ++ v :: x ++ v :: S) = P ++ v :: (x.reverse ++ v :: S) := by
            rw [show P ++ v :: x ++ v :: S = P ++ v :: (x ++ v :: S) by simp]
            exact turnR_of hP hM
          have hSP : v ∉ S ++ P := fun m => (List.mem_append.mp m).elim hS hP
          have h2 : turnR v (v :: S ++ (P ++ v :: x)) = v :: ((S ++ P).reverse ++ v :: x) := by
            rw [show v :: S ++ (P ++ v :: x) = [] ++ v :: ((S ++ P) ++ v :: x) by simp]
            exact turnR_of (by simp) hSP
          rw [h1, h2]
          refine .inr ⟨S.reverse ++ v :: x, v :: P.reverse, by simp, by simp⟩
        | cons u w =>
          rw [List.cons_append] at h4
          injection h4 with e3 e4
          subst e3
          subst h3 e4
          have hb : v ∉ b := fun m => hS (List.mem_append_right _ m)
          have hw : v ∉ w := fun m => hS (List.mem_append_left _ m)
          have h1 : turnR v (P ++ v :: (M ++ v :: w) ++ b) = P ++ v :: (M.reverse ++ v :: (w ++ b)) := by
            rw [show P ++ v :: (M ++ v :: w) ++ b = P ++ v :: (M ++ v :: (w ++ b)) by simp]
            exact turnR_of hP hM
          have hbP : v ∉ b ++ P := fun m => (List.mem_append.mp m).elim hb hP
          have h2 : turnR v (b ++ (P ++ v :: (M ++ v :: w))) = b ++ P ++ v :: (M.reverse ++ v :: w) := by
            rw [show b ++ (P ++ v :: (M ++ v :: w)) = b ++ P ++ v :: (M ++ v :: w) by simp]
            exact turnR_of hbP hM
          rw [h1, h2]
          exact .inl ⟨P ++ v :: (M.reverse ++ v :: w), b, by simp, by simp⟩
      · -- the cut lies between the two: M = x ++ w, b = w ++ v :: S
        subst h3 h4
        have hx : v ∉ x := fun m => hM (List.mem_append_left _ m)
        have hw : v ∉ w := fun m => hM (List.mem_append_right _ m)
        have h1 : turnR v (P ++ v :: x ++ (w ++ v :: S)) = P ++ v :: ((x ++ w).reverse ++ v :: S) := by
          rw [show P ++ v :: x ++ (w ++ v :: S) = P ++ v :: ((x ++ w) ++ v :: S) by simp]
          exact turnR_of hP hM
        have hSP : v ∉ S ++ P := fun m => (List.mem_append.mp m).elim hS hP
        have h2 : turnR v (w ++ v :: S ++ (P ++ v :: x)) = w ++ v :: ((S ++ P).reverse ++ v :: x) := by
          rw [show w ++ v :: S ++ (P ++ v :: x) = w ++ v :: ((S ++ P) ++ v :: x) by simp]
          exact turnR_of hw hSP
        rw [h1, h2]
        exact .inr ⟨S.reverse ++ v :: x, w ++ v :: P.reverse, by simp, by simp⟩
theorem turn_rev {v : α} {g : List α} (h : g.count v = 2) : turnR v g.reverse = (turnR v g).reverse := by
  obtain ⟨P, M, S, rfl, hP, hM, hS⟩ := split_two h
  rw [turnR_of hP hM, show (P ++ v :: (M ++ v :: S)).reverse = S.reverse ++ v :: (M.reverse ++ v :: P.reverse) by simp, turnR_of (by simpa using hS) (by simpa using hM)]
  simp
theorem turn_like {v : α} {g y : List α} (h : g.count v = 2) (l : Lk g y) : Lk (turnR v g) (turnR v y) := by
  rcases l with ⟨a, b, rfl, rfl⟩ | ⟨a, b, e, rfl⟩
  · exact turn_about h
  · have h2 : (a ++ b).count v = 2 := by rw [← e, List.count_reverse]; exact h
    have := turn_about h2
    rw [← e, turn_rev h] at this
    exact (Lk.rev _).trans this
omit [BEq α] [LawfulBEq α] in
theorem lk_perm {g y : List α} (h : Lk g y) : y.Perm g := by
  rcases h with ⟨a, b, rfl, rfl⟩ | ⟨a, b, e, rfl⟩
  · exact List.perm_append_comm
  · exact List.perm_append_comm.trans ((List.Perm.of_eq e.symm).trans (List.reverse_perm g))
theorem turn_perm {v : α} {g : List α} (h : g.count v = 2) : (turnR v g).Perm g := by
  obtain ⟨P, M, S, rfl, hP, hM, hS⟩ := split_two h
  rw [turnR_of hP hM]
  exact List.Perm.append_left _ (List.Perm.cons _ (List.Perm.append_right _ (List.reverse_perm M)))
end
end RM
namespace TN
open PySem PySem.Spec PyProof.Rows L2
theorem dSl_mid (ds : List D) (i j : Nat) (h : i ≤ j) : ∃ q, dSl (.tup ds) (some (i : Int)) (some (j : Int)) = .ok q ∧ q.r = .d (.tup ((ds.drop i).take (j - i))) := by
  have e1 : HT.sIx ds.length 0 (some (i : Int)) = min i ds.length := sIx_nat' ..
  have e2 : HT.sIx ds.length ds.length (some (j : Int)) = min j ds.length := sIx_nat' ..
  by_cases h' : HT.sIx ds.length 0 (some (i : Int)) = 0 ∧ HT.sIx ds.length ds.length (some (j : Int)) = ds.length
  · refine ⟨.d (.tup ds), if_pos h', ?_⟩
    obtain ⟨h1, h2⟩ := h'
    rw [e1] at h1
    rw [e2] at h2
    by_cases z : ds.length = 0
    · have := List.eq_nil_of_length_eq_zero z
      subst this
      simp
    · have : i = 0 := by omega
      subst this
      rw [List.drop_zero, List.take_of_length_le (by omega)]
      rfl
  · refine ⟨.tp (cutD ds (some (i : Int)) (some (j : Int))), if_neg h', ?_⟩
    show R.d (.tup _) = _
    unfold cutD
    rw [e1, e2]
    congr 2
    by_cases z : i ≤ ds.length
    · rw [Nat.min_eq_left z]
      by_cases w : j ≤ ds.length
      · rw [Nat.min_eq_left w]
      · rw [Nat.min_eq_right (by omega), List.take_of_length_le (by rw [List.length_drop]; omega), List.take_of_length_le (by rw [List.length_drop]; omega)]
    · rw [List.drop_eq_nil_of_le (show ds.length ≤ i by omega), Nat.min_eq_right (by omega), Nat.min_eq_right (by omega), List.drop_length]
      simp
theorem dSl_cat (ds : List D) (k : Nat) (h : ds.length ≤ 50000) : ∃ q1 q2 q3, dSl (.tup ds) (some (k : Int)) none = .ok q1 ∧ dSl (.tup ds) none (some (k : Int)) = .ok q2 ∧ q1.r = .d (.tup (ds.drop k)) ∧ q2.r = .d (.tup (ds.take k)) ∧ dAdd (.tup (ds.drop k)) (.tup (ds.take k)) = .ok q3 ∧ q3.r = .d (.tup (ds.drop k ++ ds.take k)) := by
  obtain ⟨q1, s1, t1⟩ := dSl_from ds k
  obtain ⟨q2, s2, t2⟩ := dSl_to ds k
  obtain ⟨q3, s3, t3⟩ := dAdd_tup (ds.drop k) (ds.take k) (by simp; omega)
  exact ⟨q1, q2, q3, s1, s2, t1, t2, s3, t3⟩
end TN
namespace PL
open PySem PySem.Spec PyProof.Rows L2 TN RM
def rot (g : List Int) (b : Int) : List Int := g.drop b.toNat ++ g.take b.toNat
def IsForm (g m : List Int) : Prop := Lk g m ∧ ∀ y, Lk g y → leL m y = true
theorem form_uniq {g g' m m' : List Int} (l : Lk g g') (h : IsForm g m) (h' : IsForm g' m') : m = m' := leL_anti (h.2 m' (l.trans h'.1)) (h'.2 m (l.symm.trans h.1))
theorem rot_lk (g : List Int) (b : Int) : Lk g (rot g b) := .inl ⟨g.take b.toNat, g.drop b.toNat, (List.take_append_drop _ _).symm, rfl⟩
theorem lk_rot {g a b : List Int} (h : g = a ++ b) (hg : g ≠ []) : ∃ k : Int, 0 ≤ k ∧ k < (g.length : Int) ∧ b ++ a = rot g k := by
  subst h
  cases b with
  | nil =>
    refine ⟨0, by omega, ?_, by simp [rot]⟩
    have := List.length_pos_iff.mpr hg
    omega
  | cons x b =>
    refine ⟨a.length, by omega, by simp; omega, ?_⟩
    unfold rot
    rw [Int.toNat_natCast, List.drop_left, List.take_left]
def likeL (g : List Int) : List (List Int) := [g, g.reverse].flatMap fun a => (rngI (g.length : Int)).map (rot a)
theorem likeL_iff {g : List Int} (hg : g ≠ []) (y : List Int) : y ∈ likeL g ↔ Lk g y := by
  unfold likeL
  rw [List.mem_flatMap]
  constructor
  · rintro ⟨a, ha, hy⟩
    obtain ⟨b, _, rfl⟩ := List.mem_map.mp hy
    rcases List.mem_cons.mp ha with rfl | ha
    · exact rot_lk _ b
    · rw [List.mem_singleton.mp ha]
      exact (Lk.rev g).trans (rot_lk _ b)
  · rintro (⟨a, b, h, rfl⟩ | ⟨a, b, h, rfl⟩)
    · obtain ⟨k, k0, k1, e⟩ := lk_rot h hg
      exact ⟨g, List.mem_cons_self, List.mem_map.mpr ⟨k, mem_rngI.mpr ⟨k0, k1⟩, e.symm⟩⟩
    · obtain ⟨k, k0, k1, e⟩ := lk_rot h (by simpa using hg)
      rw [List.length_reverse] at k1
      exact ⟨g.reverse, List.mem_cons_of_mem _ List.mem_cons_self, List.mem_map.mpr ⟨k, mem_rngI.mpr ⟨k0, k1⟩, e.symm⟩⟩
theorem minL_form {g x : List Int} {xs : List (List Int)} (h : ∀ y, y ∈ x :: xs ↔ Lk g y) : IsForm g (minL x xs) :=
  ⟨(h _).mp (minL_mem xs x), fun y l => minL_le xs x y ((h y).mpr l)⟩
theorem RingN.ne {n : Int} {g : List Int} (h : RingN n g) : g ≠ [] := by
  have := h.len
  have := h.lo
  intro e
  subst e
  simp at *
  omega
theorem least_form_ok {n : Int} {g : List Int} (h : RingN n g) : ∃ m, m_least_form [.tup (g.map D.int)] = .ok (.d (.tup (m.map D.int)), []) ∧ IsForm g m := by
  have hl := h.le
  have ck := check_eq h.isD (by omega)
  have a1 : (-4611686018427387904 : Int) ≤ (g.length : Int) := by omega
  have a2 : (g.length : Int) < 4611686018427387904 := by omega
  obtain ⟨x, xs, e⟩ : ∃ x xs, likeL g = x :: xs := by
    cases e : likeL g with
    | nil =>
      have := (likeL_iff h.ne g).mpr (Lk.refl g)
      rw [e] at this
      cases this
    | cons x xs => exact ⟨x, xs, rfl⟩
  refine ⟨minL x xs, ?_, minL_form fun y => by rw [← e]; exact likeL_iff h.ne y⟩
  have mm := minS_tups x xs
  rw [← e] at mm
  have lm : (((likeL g).map tD)) = [g, g.reverse].flatMap fun a => (rngI (g.length : Int)).map fun b => tD (rot a b) := by
    unfold likeL
    rw [List.map_flatMap]
    congr 1
    funext a
    rw [List.map_map]
    rfl
  have lc : fLc2 (fSeq (fTup (aCons (fVar 0) (aCons (fVar 1) (aNil))))) (gN 3) (bYes) (fRng1 (aCons (fBi bLen (aCons (fVar 0) (aNil))) (aNil))) (gN 4) (bYes) (fBin dAdd (fSl dSl (fVar 3) (oSome (fVar 4)) (oNone)) (fSl dSl (fVar 3) (oNone) (oSome (fVar 4)))) [3, 4] [4]
      [.val (.tup (g.map D.int)), .val (.tup (g.reverse.map D.int)), .no, .no, .no] = .ok (.new ((likeL g).map tD), [.val (.tup (g.map D.int)), .val (.tup (g.reverse.map D.int)), .no, .no, .no]) := by
    rw [fLc2_I [g, g.reverse] tD (fun _ => true) (fun a => [.val (.tup (g.map D.int)), .val (.tup (g.reverse.map D.int)), .no, .val (tD a), .no]) (fun a => rngI (g.length : Int)) D.int (fun a b => true) (fun a b => tD (rot a b)) (fun a b => [.val (.tup (g.map D.int)), .val (.tup (g.reverse.map D.int)), .no, .val (tD a), .val (.int b)])
      (by decide) (by simp -implicitDefEqProofs [tD]) (by
        have := flatMap_le (f := fun _ : List Int => rngI (g.length : Int)) (k := 20) (l := [g, g.reverse]) fun a _ => by rw [rngI_length]; omega
        simp only [List.length_cons, List.length_nil] at this
        omega)
      (fun v hv s hs => by
        simp only [List.mem_cons, List.not_mem_nil, or_false] at hv
        rcases hv with rfl | rfl <;> (cases hs; rfl))
      (fun a _ => ⟨rfl, rfl⟩) (fun a _ => rfl) (fun a _ _ => by simp -implicitDefEqProofs [a1, a2, rng_eq])
      (fun a _ _ b _ => ⟨rfl, rfl⟩) (fun a _ _ b _ => rfl) (fun a ha _ b hb _ => by
        have hb := rngI_mem hb
        obtain ⟨k, rfl⟩ : ∃ k : Nat, b = k := ⟨b.toNat, by omega⟩
        have la : (a.map D.int).length ≤ 50000 := by
          rw [List.length_map]
          rcases List.mem_cons.mp ha with rfl | ha
          · omega
          · rw [List.mem_singleton.mp ha, List.length_reverse]; omega
        obtain ⟨q1, q2, q3, s1, s2, t1, t2, s3, t3⟩ := dSl_cat (a.map D.int) k la
        exact ⟨.d (tD (rot a k)), by simp -implicitDefEqProofs [tD, rot, s1, s2, t1, t2, s3, t3], rfl⟩)]
    rw [lm, List.filter_eq_self.mpr (fun _ _ => rfl)]
    congr 2
  have bm : bMinX [.lst ((likeL g).map tD)] = .ok (.d (tD (minL x xs))) := mm
  simp only [List.map_reverse] at lc
  simp -implicitDefEqProofs [m_least_form, b_least_form, ck]
  rw [lc]
  simp -implicitDefEqProofs [bm, tD]
/-! ### the law's own form -/
theorem law_form_ok {n : Int} {g : List Int} (h : RingN n g) : ∃ m, m__law_form [.tup (g.map D.int)] = .ok (.d (.tup (m.map D.int)), []) ∧ IsForm g m := by
  have hl := h.le
  have a1 : (-4611686018427387904 : Int) ≤ (g.length : Int) := by omega
  have a2 : (g.length : Int) < 4611686018427387904 := by omega
  obtain ⟨w, f1, x, y, f2⟩ := forF_I (ga := gN 2) (s := sCons (sSet 3 (fBin dAdd (fSl dSl (fVar 0) (oSome (fVar 2)) (oNone)) (fSl dSl (fVar 0) (oNone) (oSome (fVar 2))))) (sSet 1 (fBi bMinX (aCons (fVar 1) (aCons (fVar 3) (aCons (fBi bTuple (aCons (fBack (fBi bList (aCons (fVar 3) (aNil)))) (aNil))) (aNil)))))))
    D.int (fun (s : List Int) b => minL s [rot g b, (rot g b).reverse]) (fun s w => ∃ x y, w = [.val (.tup (g.map D.int)), .val (.tup (s.map D.int)), x, y]) (rngI (g.length : Int)) g [.val (.tup (g.map D.int)), .val (.tup (g.map D.int)), .no, .no] ⟨_, _, rfl⟩ (fun b hb s w ⟨x, y, hw⟩ => by
      subst hw
      have hb := rngI_mem hb
      obtain ⟨k, rfl⟩ : ∃ k : Nat, b = k := ⟨b.toNat, by omega⟩
      obtain ⟨q1, q2, q3, s1, s2, t1, t2, s3, t3⟩ := dSl_cat (g.map D.int) k (by rw [List.length_map]; omega)
      refine ⟨[.val (.tup (g.map D.int)), .val (.tup (s.map D.int)), .val (.int k), y], [.val (.tup (g.map D.int)), .val (.tup ((minL s [rot g k, (rot g k).reverse]).map D.int)), .val (.int k), .val (.tup ((rot g k).map D.int))], by simp -implicitDefEqProofs, ?_, _, _, rfl⟩
      have mm := minS_tups s [rot g k, (rot g k).reverse]
      have bm : bMinX [.tup (s.map D.int), .tup ((rot g k).map D.int), .tup (((rot g k).reverse).map D.int)] = .ok (.d (.tup ((minL s [rot g k, (rot g k).reverse]).map D.int))) := mm
      simp only [rot, Int.toNat_natCast, List.map_append, List.map_drop, List.map_take, List.map_reverse, List.reverse_append] at bm
      simp -implicitDefEqProofs [s1, s2, t1, t2, s3, t3, rot]
      rw [bm]
      simp -implicitDefEqProofs)
  subst f2
  refine ⟨(rngI (g.length : Int)).foldl (fun (s : List Int) b => minL s [rot g b, (rot g b).reverse]) g, by simp -implicitDefEqProofs [m__law_form, b__law_form, a1, a2, rng_eq, f1], ?_⟩
  have fl : (rngI (g.length : Int)).foldl (fun (s : List Int) b => minL s [rot g b, (rot g b).reverse]) g = minL g ((rngI (g.length : Int)).flatMap fun b => [rot g b, (rot g b).reverse]) := by
    unfold minL
    rw [List.foldl_flatMap]
  rw [fl]
  refine minL_form fun y => ?_
  rw [List.mem_cons, List.mem_flatMap]
  constructor
  · rintro (rfl | ⟨b, hb, hy⟩)
    · exact Lk.refl _
    · rcases List.mem_cons.mp hy with rfl | hy
      · exact rot_lk g b
      · rw [List.mem_singleton.mp hy]
        exact (rot_lk g b).trans (Lk.rev _)
  · rintro (⟨a, b, e, rfl⟩ | ⟨a, b, e, rfl⟩)
    · obtain ⟨k, k0, k1, q⟩ := lk_rot e h.ne
      exact .inr ⟨k, mem_rngI.mpr ⟨k0, k1⟩, by rw [q]; exact List.mem_cons_self⟩
    · have hg : g = b.reverse ++ a.reverse := by rw [← List.reverse_reverse g, e, List.reverse_append]
      obtain ⟨k, k0, k1, q⟩ := lk_rot hg h.ne
      refine .inr ⟨k, mem_rngI.mpr ⟨k0, k1⟩, List.mem_cons_of_mem _ (List.mem_singleton.mpr ?_)⟩
      rw [← q, List.reverse_append, List.reverse_reverse, List.reverse_reverse]
theorem lk_ring {n : Int} {g y : List Int} (h : RingN n g) (l : Lk g y) : RingN n y := h.of_perm (lk_perm l)
theorem ties_lk {n : Int} {g y : List Int} (h : RingN n g) (l : Lk g y) : tiesOf n (RM.cr y) = tiesOf n (RM.cr g) := tiesOf_congr fun a b ha hab hb => by
  have ca := h.count ⟨ha, show a < n by omega⟩
  have cb := h.count ⟨show 0 ≤ b by omega, hb⟩
  rcases l with ⟨x, z, rfl, rfl⟩ | ⟨x, z, e, rfl⟩
  · exact RM.cr_about ca cb
  · have ca' : (x ++ z).count a = 2 := by rw [← e, List.count_reverse]; exact ca
    have cb' : (x ++ z).count b = 2 := by rw [← e, List.count_reverse]; exact cb
    rw [RM.cr_about ca' cb', ← e, RM.cr_rev ca cb]
/-! ### turned, renamed -/
theorem turned_ring_ok {n k : Int} {g : List Int} (h : RingN n g) (hk : 0 ≤ k ∧ k < n) : m_turned_ring [.tup (g.map D.int), .int k] = .ok (.d (.tup ((turnR k g).map D.int)), []) := by
  have hl := h.le
  have ck := check_eq h.isD (by omega)
  have nm := name_eq (g := g) hk.1 (by rw [h.half]; exact hk.2)
  obtain ⟨P, M, S, e, hP, hM, hS, hb, f1, f2, hp, hw, hlt⟩ := ends_split (h.count hk)
  have en := ends_eq f1 f2
  obtain ⟨j, hj⟩ : ∃ j : Nat, j = P.length + 1 + M.length := ⟨_, rfl⟩
  rw [← hj] at en
  obtain ⟨q1, s1, t1⟩ := dSl_to (g.map D.int) P.length
  obtain ⟨q2, s2, t2⟩ := dSl_mid (g.map D.int) P.length (j + 1) (by omega)
  obtain ⟨q3, s3, t3⟩ := dSl_from (g.map D.int) (j + 1)
  have e1 : g.take P.length = P := by rw [e, List.take_left]
  have e2 : (g.drop P.length).take (j + 1 - P.length) = k :: M ++ [k] := by
    rw [e, List.drop_left, show j + 1 - P.length = (k :: M ++ [k]).length by simp; omega, show k :: (M ++ k :: S) = (k :: M ++ [k]) ++ S by simp, List.take_left]
  have e3 : g.drop (j + 1) = S := by
    rw [e, show P ++ k :: (M ++ k :: S) = (P ++ k :: M ++ [k]) ++ S by simp, show j + 1 = (P ++ k :: M ++ [k]).length by simp; omega, List.drop_left]
  rw [← List.map_take, e1] at t1
  rw [← List.map_drop, ← List.map_take, e2] at t2
  rw [← List.map_drop, e3] at t3
  have gl : g.length = P.length + M.length + S.length + 2 := by rw [e]; simp; omega
  obtain ⟨q4, s4, t4⟩ := dAdd_tup (P.map D.int) ((k :: M ++ [k]).map D.int).reverse (by simp; omega)
  obtain ⟨q5, s5, t5⟩ := dAdd_tup (P.map D.int ++ ((k :: M ++ [k]).map D.int).reverse) (S.map D.int) (by simp; omega)
  have et : (turnR k g).map D.int = P.map D.int ++ ((k :: M ++ [k]).map D.int).reverse ++ S.map D.int := by
    rw [e, turnR_of hP hM]
    simp
  have c1 : ((j + 1 : Nat) : Int) = (j : Int) + 1 := by omega
  rw [c1] at s2 s3
  rw [et]
  generalize (k :: M ++ [k]).map D.int = y' at *
  generalize P.map D.int = p' at *
  generalize S.map D.int = s' at *
  simp -implicitDefEqProofs only [m_turned_ring, b_turned_ring, e_fn, e_stE0, e_ofs, e_bok, e_sCons, List.map_cons, List.map_nil, List.length_cons, List.length_nil]
  simp -implicitDefEqProofs [ck, nm, en, s1, t1, s2, t2, s3, t3, s4, t4, s5, t5]
theorem turn_ring {n k : Int} {g : List Int} (h : RingN n g) (hk : 0 ≤ k ∧ k < n) : RingN n (turnR k g) := h.of_perm (turn_perm (h.count hk))
/-- all names once -/
structure OrdN (n : Int) (o : List Int) : Prop where
  perm : o.Perm (rngI n)
theorem OrdN.len {n : Int} {o : List Int} (h : OrdN n o) : o.length = n.toNat := by rw [h.perm.length_eq, rngI_length]
def nth (o : List Int) (k : Int) : Int := o.getD k.toNat 0
theorem OrdN.at_ {n k : Int} {o : List Int} (h : OrdN n o) (hk : 0 ≤ k ∧ k < n) : atI (o.map D.int) k = some (.int (nth o k)) := by
  obtain ⟨j, rfl⟩ : ∃ j : Nat, k = j := ⟨k.toNat, by omega⟩
  have hl := h.len
  have hj : j < o.length := by omega
  refine atI_nat ?_
  rw [List.getElem?_map, List.getElem?_eq_getElem hj]
  unfold nth
  rw [Int.toNat_natCast, List.getD_eq_getElem?_getD, List.getElem?_eq_getElem hj]
  rfl
theorem once_ok {n : Int} {o : List Int} (h : OrdN n o) (h0 : 0 ≤ n) (h1 : n ≤ 1000) : m_are_all_once [.tup (o.map D.int), .int n] = .ok (.d (.bl true), []) := by
  have hl := h.len
  have ab := are_below_ok o n (by omega)
  have all : o.all (inR n) = true := List.all_eq_true.mpr fun x m => by
    have := mem_rngI.mp (h.perm.mem_iff.mp m)
    simp [inR, this]
  rw [all] at ab
  have so : sortI o = rngI n := by
    have e := sortI_congr h.perm
    rw [e]
    exact sorted_unique (sortI_perm _) (sortI_sorted _) ((rngI_lt n).imp fun h => by omega)
  have c2 : n ≤ 100000 := by omega
  simp -implicitDefEqProofs [m_are_all_once, b_are_all_once, ab, bSortedX_tup, so, h0, c2, rng_eq, dEq_lst]
theorem renamed_ring_ok {n : Int} {g o : List Int} (h : RingN n g) (ho : OrdN n o) : m_renamed_ring [.tup (g.map D.int), .tup (o.map D.int)] = .ok (.d (.tup ((g.map (nth o)).map D.int)), []) := by
  have hl := h.le
  have ck := check_eq h.isD (by omega)
  have on := once_ok ho (by have := h.lo; omega) (by have := h.hi; omega)
  have nm : m__named [.tup (g.map D.int), .tup (o.map D.int)] = .ok (.d (.tup ((g.map (nth o)).map D.int)), []) := by
    simp -implicitDefEqProofs [m__named, b__named]
    rw [fLc_I g D.int (fun _ => true) (fun x => D.int (nth o x)) (by simp -implicitDefEqProofs) (by omega) rfl rfl (fun _ _ => rfl) (fun x m _ => ⟨.d (.int (nth o x)), by simp -implicitDefEqProofs [ho.at_ (h.mem m)], rfl⟩)]
    rw [List.filter_eq_self.mpr (fun _ _ => rfl)]
    simp -implicitDefEqProofs
  simp -implicitDefEqProofs only [List.map_map] at nm ⊢
  simp -implicitDefEqProofs [m_renamed_ring, b_renamed_ring, ck, e_gdiv, h.half, on, nm]
theorem OrdN.inj {n : Int} {o : List Int} (ho : OrdN n o) {a b : Int} (ha : 0 ≤ a ∧ a < n) (hb : 0 ≤ b ∧ b < n) (e : nth o a = nth o b) : a = b := by
  have hl := ho.len
  have nd : o.Nodup := ho.perm.nodup_iff.mpr (rngI_nodup n)
  unfold nth at e
  rw [List.getD_eq_getElem?_getD, List.getD_eq_getElem?_getD, List.getElem?_eq_getElem (show a.toNat < o.length by omega), List.getElem?_eq_getElem (show b.toNat < o.length by omega)] at e
  have e' : o[a.toNat]'(by omega) = o[b.toNat]'(by omega) := e
  have := (List.getElem_inj nd).mp e'
  omega
theorem OrdN.mem {n : Int} {o : List Int} (ho : OrdN n o) {a : Int} (ha : 0 ≤ a ∧ a < n) : 0 ≤ nth o a ∧ nth o a < n := by
  have hl := ho.len
  refine mem_rngI.mp (ho.perm.mem_iff.mp ?_)
  unfold nth
  rw [List.getD_eq_getElem?_getD, List.getElem?_eq_getElem (show a.toNat < o.length by omega)]
  exact List.getElem_mem _
theorem map_nth {n : Int} {o : List Int} (ho : OrdN n o) (h0 : 0 ≤ n) : (rngI n).map (nth o) = o := by
  have hl := ho.len
  apply List.ext_getElem?
  intro i
  rw [List.getElem?_map]
  unfold rngI
  rw [List.getElem?_map]
  by_cases hi : i < o.length
  · rw [List.getElem?_range (by omega), List.getElem?_eq_getElem hi]
    simp only [Option.map_some, nth]
    rw [List.getD_eq_getElem?_getD, Int.toNat_natCast, List.getElem?_eq_getElem hi]
    rfl
  · rw [List.getElem?_eq_none (show (List.range n.toNat).length ≤ i by rw [List.length_range]; omega), List.getElem?_eq_none (show o.length ≤ i by omega)]
    rfl
theorem ren_ring {n : Int} {g o : List Int} (h : RingN n g) (ho : OrdN n o) : RingN n (g.map (nth o)) := by
  refine ⟨?_, h.lo, h.hi⟩
  have h0 : 0 ≤ n := by have := h.lo; omega
  refine (h.perm.map (nth o)).trans ?_
  rw [two_eq, List.map_append, map_nth ho h0]
  exact List.Perm.append ho.perm ho.perm
end PL
namespace PL
open PySem PySem.Spec PyProof.Rows L2 TN
def b_check_web : S := sIf (fNotB (fTru (fBi bIsiC (aCons (fVar 0) (aCons (fC (.cls 0)) (aNil)))))) (sNever) (sNil)
def m_check_web : Fn := fnOf false 1 b_check_web
def b_check_knot : S := sIf (fNotB (fTru (fCall false m_is_below (aCons (fVar 1) (aCons (fAt 0 0 (fVar 0)) (aNil)))))) (sNever) (sNil)
def m_check_knot : Fn := fnOf false 2 b_check_knot
def b_check_lot : S := sIf (fNotB (fTru (fCall false m_is_ascending (aCons (fVar 1) (aCons (fAt 0 0 (fVar 0)) (aNil)))))) (sNever) (sNil)
def m_check_lot : Fn := fnOf false 2 b_check_lot
def b_beyond_lot : S := sRet (fBi bTuple (aCons (fLc (fRng1 (aCons (fVar 0) (aNil))) (gN 2) (bOf (fBin (dIn true) (fVar 2) (fVar 1))) (fVar 2) [2]) (aNil)))
def m_beyond_lot : Fn := fnOf false 3 b_beyond_lot
def b__web_by : S := sRet (fMk 0 m_Web (aCons (fVar 0) (aCons (fBi bTuple (aCons (fBi bSortedX (aCons (fLc (fSeq (fVar 1)) (gN 2) (bYes) (fTup (aCons (fBi bMinX (aCons (fVar 2) (aNil))) (aCons (fBi bMaxX (aCons (fVar 2) (aNil))) (aNil)))) [2]) (aNil))) (aNil))) (aNil))))
def m__web_by : Fn := fnOf false 3 b__web_by
def b_lot_web : S := sCons (sExpr (fCall false m_check_web (aCons (fVar 0) (aNil)))) (sCons (sExpr (fCall false m_check_lot (aCons (fVar 0) (aCons (fVar 1) (aNil))))) (sCons (sIf (fNotB (fTru (fVar 1))) (sNever) (sNil)) (sCons (sSet 2 (fLc (fSeq (fAt 0 1 (fVar 0))) (gT [3, 4]) (fAndB (bOf (fBin (dIn false) (fVar 3) (fVar 1))) (bOf (fBin (dIn false) (fVar 4) (fVar 1)))) (fTup (aCons (fMtT mIdx (fVar 1) (aCons (fVar 3) (aNil))) (aCons (fMtT mIdx (fVar 1) (aCons (fVar 4) (aNil))) (aNil)))) [3, 4])) (sRet (fMk 0 m_Web (aCons (fBi bLen (aCons (fVar 1) (aNil))) (aCons (fBi bTuple (aCons (fVar 2) (aNil))) (aNil))))))))
def m_lot_web : Fn := fnOf false 5 b_lot_web
def b_left_out : S := sCons (sExpr (fCall false m_check_web (aCons (fVar 0) (aNil)))) (sCons (sExpr (fCall false m_check_knot (aCons (fVar 0) (aCons (fVar 1) (aNil))))) (sCons (sIf (bOf (fBin (dEq false) (fAt 0 0 (fVar 0)) (fC (.int 1)))) (sNever) (sNil)) (sRet (fCall false m_lot_web (aCons (fVar 0) (aCons (fCall false m_beyond_lot (aCons (fAt 0 0 (fVar 0)) (aCons (fTup (aCons (fVar 1) (aNil))) (aNil)))) (aNil)))))))
def m_left_out : Fn := fnOf false 2 b_left_out
def b_renamed : S := sCons (sExpr (fCall false m_check_web (aCons (fVar 0) (aNil)))) (sCons (sIf (fNotB (fTru (fCall false m_are_all_once (aCons (fVar 1) (aCons (fAt 0 0 (fVar 0)) (aNil)))))) (sNever) (sNil)) (sRet (fCall false m__web_by (aCons (fAt 0 0 (fVar 0)) (aCons (fLc (fSeq (fAt 0 1 (fVar 0))) (gT [2, 3]) (bYes) (fTup (aCons (fBin dIx (fVar 1) (fVar 2)) (aCons (fBin dIx (fVar 1) (fVar 3)) (aNil)))) [2, 3]) (aNil))))))
def m_renamed : Fn := fnOf false 4 b_renamed
def b_left_out_ring : S := sCons (sExpr (fCall false m_check_ring (aCons (fVar 0) (aNil)))) (sCons (sExpr (fCall false m__check_name (aCons (fVar 0) (aCons (fVar 1) (aNil))))) (sCons (sIf (bOf (fBin (dEq false) (fBi bLen (aCons (fVar 0) (aNil))) (fC (.int 2)))) (sNever) (sNil)) (sRet (fBi bTuple (aCons (fLc (fSeq (fVar 0)) (gN 2) (bOf (fBin (dEq true) (fVar 2) (fVar 1))) (fIf (bOf (fBin (oI gGt) (fVar 2) (fVar 1))) (fBin (oI gMinus) (fVar 2) (fC (.int 1))) (fVar 2)) [2]) (aNil))))))
def m_left_out_ring : Fn := fnOf false 3 b_left_out_ring
def b__law_left : S := sCons (sSet 2 (fLc (fSeq (fVar 0)) (gT [3, 4]) (bOf (fBin (dIn true) (fVar 1) (fTup (aCons (fVar 3) (aCons (fVar 4) (aNil)))))) (fTup (aCons (fVar 3) (aCons (fVar 4) (aNil)))) [3, 4])) (sRet (fBi bTuple (aCons (fBi bSortedX (aCons (fLc (fSeq (fVar 2)) (gT [3, 4]) (bYes) (fTup (aCons (fBin (oI gMinus) (fVar 3) (fBi bInt (aCons (fBin (oI gGt) (fVar 3) (fVar 1)) (aNil)))) (aCons (fBin (oI gMinus) (fVar 4) (fBi bInt (aCons (fBin (oI gGt) (fVar 4) (fVar 1)) (aNil)))) (aNil)))) [3, 4]) (aNil))) (aNil))))
def m__law_left : Fn := fnOf false 5 b__law_left
def b__law_right_k22 : S := sCons (sSet 1 (fBin dAdd (fC (.int 1)) (fCall true m__law_ball (aCons (fVar 0) (aCons (fC (.int 10)) (aNil)))))) (sCons (sAsg (gT [2, 3]) (fTup (aCons (fCall true m__law_ring (aCons (fVar 0) (aCons (fVar 1) (aNil)))) (aCons (fBi bTuple (aCons (fCall true m__law_mixed (aCons (fVar 0) (aCons (fLRg1 (fVar 1)) (aNil)))) (aNil))) (aNil))))) (sCons (sSet 4 (fCall false m_renamed_ring (aCons (fVar 2) (aCons (fVar 3) (aNil))))) (sCons (sIf (fOrB (bOf (fBin (dEq true) (fVar 4) (fBi bTuple (aCons (fLc (fSeq (fVar 2)) (gN 10) (bYes) (fBin dIx (fVar 3) (fVar 10)) [10]) (aNil))))) (bOf (fEqO 0 m_Web_eq true (fCall false m_web_of (aCons (fVar 4) (aNil))) (fCall false m_renamed (aCons (fCall false m_web_of (aCons (fVar 2) (aNil))) (aCons (fVar 3) (aNil))))))) (sRet (fC (.bl false))) (sNil)) (sCons (sSet 5 (fBi bSortedX (aCons (fLc (fSeq (fCall false m__law_ties (aCons (fVar 2) (aNil)))) (gT [10, 7]) (bYes) (fBi bTuple (aCons (fBi bSortedX (aCons (fLst (aCons (fBin dIx (fVar 3) (fVar 10)) (aCons (fBin dIx (fVar 3) (fVar 7)) (aNil)))) (aNil))) (aNil))) [10, 7]) (aNil)))) (sCons (sIf (fOrB (bOf (fBin (dEq true) (fAt 0 1 (fCall false m_web_of (aCons (fVar 4) (aNil)))) (fBi bTuple (aCons (fVar 5) (aNil))))) (bOf (fBin (dEq false) (fVar 1) (fC (.int 1))))) (sRet (fBin (dEq false) (fAt 0 1 (fCall false m_web_of (aCons (fVar 4) (aNil)))) (fBi bTuple (aCons (fVar 5) (aNil))))) (sNil)) (sCons (sAsg (gT [6, 7]) (fTup (aCons (fCall true m__law_ball (aCons (fVar 0) (aCons (fVar 1) (aNil)))) (aCons (fCall true m__law_ball (aCons (fVar 0) (aCons (fVar 1) (aNil)))) (aNil))))) (sCons (sSet 8 (fCall false m_left_out_ring (aCons (fVar 2) (aCons (fVar 6) (aNil))))) (sCons (sIf (bOf (fBin (dEq true) (fVar 8) (fBi bTuple (aCons (fLc (fSeq (fVar 2)) (gN 10) (bOf (fBin (dEq true) (fVar 10) (fVar 6))) (fBin (oI gMinus) (fVar 10) (fBi bInt (aCons (fBin (oI gGt) (fVar 10) (fVar 6)) (aNil)))) [10]) (aNil))))) (sRet (fC (.bl false))) (sNil)) (sCons (sIf (fOrB (bOf (fEqO 0 m_Web_eq true (fCall false m_web_of (aCons (fVar 8) (aNil))) (fCall false m_left_out (aCons (fCall false m_web_of (aCons (fVar 2) (aNil))) (aCons (fVar 6) (aNil)))))) (bOf (fBin (dEq true) (fAt 0 1 (fCall false m_web_of (aCons (fVar 8) (aNil)))) (fCall false m__law_left (aCons (fCall false m__law_ties (aCons (fVar 2) (aNil))) (aCons (fVar 6) (aNil))))))) (sRet (fC (.bl false))) (sNil)) (sCons (sIf (bOf (fBin (dEq false) (fVar 7) (fVar 6))) (sRet (fEqO 0 m_Web_eq false (fCall false m_web_of (aCons (fCall false m_left_out_ring (aCons (fCall false m_turned_ring (aCons (fVar 2) (aCons (fVar 6) (aNil)))) (aCons (fVar 6) (aNil)))) (aNil))) (fCall false m_left_out (aCons (fCall false m_web_of (aCons (fCall false m_turned_ring (aCons (fVar 2) (aCons (fVar 6) (aNil)))) (aNil))) (aCons (fVar 6) (aNil)))))) (sNil)) (sCons (sSet 9 (fBin (oI gMinus) (fVar 7) (fBi bInt (aCons (fBin (oI gGt) (fVar 7) (fVar 6)) (aNil))))) (sRet (fBin (dEq false) (fCall false m_left_out_ring (aCons (fCall false m_turned_ring (aCons (fVar 2) (aCons (fVar 7) (aNil)))) (aCons (fVar 6) (aNil)))) (fCall false m_turned_ring (aCons (fVar 8) (aCons (fVar 9) (aNil)))))))))))))))))
def m__law_right_k22 : Fn := fnOf true 11 b__law_right_k22
def b_law_k22 : S := sCons (sFor (fRng1 (aCons (fBi bMaxX (aCons (fC (.int 1)) (aCons (fBi bMinX (aCons (fC (.int 3)) (aCons (fBi bLen (aCons (fVar 0) (aNil))) (aNil)))) (aNil)))) (aNil))) (gN 1) (sCons (sSet 2 (fCall false m__law_urn (aCons (fVar 0) (aCons (fVar 1) (aNil))))) (sFor (fRng1 (aCons (fC (.int 8)) (aNil))) (gN 3) (sIf (fNotB (fTru (fCall true m__law_right_k22 (aCons (fVar 2) (aNil))))) (sRet (fC (.bl false))) (sNil))))) (sCons (sIf (bOf (fBin (dEq true) (fCall false m_left_out_ring (aCons (fTup (aCons (fC (.int 0)) (aCons (fC (.int 1)) (aCons (fC (.int 4)) (aCons (fC (.int 0)) (aCons (fC (.int 3)) (aCons (fC (.int 4)) (aCons (fC (.int 2)) (aCons (fC (.int 3)) (aCons (fC (.int 1)) (aCons (fC (.int 2)) (aNil)))))))))))) (aCons (fC (.int 2)) (aNil)))) (fTup (aCons (fC (.int 0)) (aCons (fC (.int 1)) (aCons (fC (.int 3)) (aCons (fC (.int 0)) (aCons (fC (.int 2)) (aCons (fC (.int 3)) (aCons (fC (.int 2)) (aCons (fC (.int 1)) (aNil)))))))))))) (sRet (fC (.bl false))) (sNil)) (sCons (sIf (fOrB (bOf (fBin (dEq true) (fCall false m_renamed_ring (aCons (fTup (aCons (fC (.int 0)) (aCons (fC (.int 1)) (aCons (fC (.int 0)) (aCons (fC (.int 1)) (aNil)))))) (aCons (fTup (aCons (fC (.int 1)) (aCons (fC (.int 0)) (aNil)))) (aNil)))) (fTup (aCons (fC (.int 1)) (aCons (fC (.int 0)) (aCons (fC (.int 1)) (aCons (fC (.int 0)) (aNil)))))))) (bOf (fBin (dEq true) (fCall false m_left_out_ring (aCons (fTup (aCons (fC (.int 1)) (aCons (fC (.int 0)) (aCons (fC (.int 0)) (aCons (fC (.int 1)) (aNil)))))) (aCons (fC (.int 1)) (aNil)))) (fTup (aCons (fC (.int 0)) (aCons (fC (.int 0)) (aNil))))))) (sRet (fC (.bl false))) (sNil)) (sCons (sIf (fNotB (fTru (fCall false (m__law_is_plain 8) (aCons (fTup (aCons (fCall false m_left_out_ring (aCons (fTup (aCons (fC (.int 0)) (aCons (fC (.int 1)) (aCons (fC (.int 2)) (aCons (fC (.int 0)) (aCons (fC (.int 1)) (aCons (fC (.int 2)) (aNil)))))))) (aCons (fC (.int 1)) (aNil)))) (aCons (fCall false m_renamed_ring (aCons (fTup (aCons (fC (.int 0)) (aCons (fC (.int 1)) (aCons (fC (.int 0)) (aCons (fC (.int 1)) (aNil)))))) (aCons (fTup (aCons (fC (.int 1)) (aCons (fC (.int 0)) (aNil)))) (aNil)))) (aCons (fAt 0 1 (fCall false m_web_of (aCons (fTup (aCons (fC (.int 0)) (aCons (fC (.int 0)) (aNil)))) (aNil)))) (aNil))))) (aNil))))) (sRet (fC (.bl false))) (sNil)) (sRet (fEqO 0 m_Web_eq false (fCall false m_web_of (aCons (fCall false m_left_out_ring (aCons (fTup (aCons (fC (.int 0)) (aCons (fC (.int 1)) (aCons (fC (.int 2)) (aCons (fC (.int 0)) (aCons (fC (.int 1)) (aCons (fC (.int 2)) (aNil)))))))) (aCons (fC (.int 1)) (aNil)))) (aNil))) (fMk 0 m_Web (aCons (fC (.int 2)) (aCons (fTup (aCons (fTup (aCons (fC (.int 0)) (aCons (fC (.int 1)) (aNil)))) (aNil))) (aNil)))))))))
def m_law_k22 : Fn := fnOf false 4 b_law_k22
end PL
/-! rings with names left out, and with other names -/
namespace RM
section
variable {α β : Type} [BEq α] [LawfulBEq α] [BEq β] [LawfulBEq β]
theorem filter_split {p : α → Bool} {a : α} {P M S : List α} (hp : p a = true) : (P ++ a :: (M ++ a :: S)).filter p = P.filter p ++ a :: (M.filter p ++ a :: S.filter p) := by
  rw [List.filter_append, List.filter_cons_of_pos hp, List.filter_append, List.filter_cons_of_pos hp]
theorem not_mem_filter {p : α → Bool} {a : α} {P : List α} (h : a ∉ P) : a ∉ P.filter p := fun m => h (List.mem_filter.mp m).1
theorem btwn_filter {p : α → Bool} {a : α} {g : List α} (hp : p a = true) (h : g.count a = 2) : btwn a (g.filter p) = (btwn a g).filter p := by
  obtain ⟨P, M, S, rfl, hP, hM, hS⟩ := split_two h
  rw [btwn_of hP hM, filter_split hp, btwn_of (not_mem_filter hP) (not_mem_filter hM)]
theorem cr_filter {p : α → Bool} {a b : α} {g : List α} (hp : p a = true) (hq : p b = true) (h : g.count a = 2) : cr (g.filter p) a b = cr g a b := by
  unfold cr
  rw [btwn_filter hp h, List.count_filter hq]
theorem turnR_filter {p : α → Bool} {a : α} {g : List α} (hp : p a = true) (h : g.count a = 2) : turnR a (g.filter p) = (turnR a g).filter p := by
  obtain ⟨P, M, S, rfl, hP, hM, hS⟩ := split_two h
  rw [turnR_of hP hM, filter_split hp, filter_split hp, turnR_of (not_mem_filter hP) (not_mem_filter hM), List.filter_reverse]
theorem not_mem_map {f : α → β} {a : α} {P : List α} (h : a ∉ P) (inj : ∀ x ∈ P, f x = f a → x = a) : f a ∉ P.map f := fun m => by
  obtain ⟨x, hx, e⟩ := List.mem_map.mp m
  exact h (inj x hx e ▸ hx)
theorem map_split {f : α → β} {a : α} {P M S : List α} : (P ++ a :: (M ++ a :: S)).map f = P.map f ++ f a :: (M.map f ++ f a :: S.map f) := by simp
theorem btwn_map {f : α → β} {a : α} {g : List α} (inj : ∀ x ∈ g, f x = f a → x = a) (h : g.count a = 2) : btwn (f a) (g.map f) = (btwn a g).map f := by
  obtain ⟨P, M, S, rfl, hP, hM, hS⟩ := split_two h
  rw [btwn_of hP hM, map_split, btwn_of (not_mem_map hP fun x m => inj x (by simp [m])) (not_mem_map hM fun x m => inj x (by simp [m]))]
theorem count_map_inj {f : α → β} {b : α} : ∀ {l : List α}, (∀ x ∈ l, f x = f b → x = b) → (l.map f).count (f b) = l.count b
  | [], _ => rfl
  | x :: l, inj => by
    rw [List.map_cons, List.count_cons, List.count_cons, count_map_inj fun y m => inj y (List.mem_cons_of_mem _ m)]
    congr 1
    by_cases e : x = b
    · subst e; simp
    · have : f x ≠ f b := fun q => e (inj x List.mem_cons_self q)
      rw [beq_eq_false_iff_ne.mpr e, beq_eq_false_iff_ne.mpr this]
theorem btwn_mem {a x : α} {g : List α} (h : x ∈ btwn a g) : x ∈ g := by
  unfold btwn at h
  have h1 := (List.takeWhile_sublist _).subset h
  have h2 := (List.drop_sublist _ _).subset h1
  exact (List.dropWhile_sublist _).subset h2
theorem cr_map {f : α → β} {a b : α} {g : List α} (ia : ∀ x ∈ g, f x = f a → x = a) (ib : ∀ x ∈ g, f x = f b → x = b) (h : g.count a = 2) : cr (g.map f) (f a) (f b) = cr g a b := by
  unfold cr
  rw [btwn_map ia h, count_map_inj fun x m => ib x (btwn_mem m)]
theorem turnR_map {f : α → β} {a : α} {g : List α} (inj : ∀ x ∈ g, f x = f a → x = a) (h : g.count a = 2) : turnR (f a) (g.map f) = (turnR a g).map f := by
  obtain ⟨P, M, S, rfl, hP, hM, hS⟩ := split_two h
  rw [turnR_of hP hM, map_split, turnR_of (not_mem_map hP fun x m => inj x (by simp [m])) (not_mem_map hM fun x m => inj x (by simp [m])), map_split, List.map_reverse]
end
end RM
namespace PL
open PySem PySem.Spec PyProof.Rows L2 TN RM
/-! ### ties, told by their members -/
theorem mem_ties {n : Int} {r : Int → Int → Bool} {p : Int × Int} : p ∈ tiesOf n r ↔ (0 ≤ p.1 ∧ p.1 < p.2 ∧ p.2 < n) ∧ r p.1 p.2 = true := by
  unfold tiesOf
  rw [List.mem_flatMap]
  constructor
  · rintro ⟨a, ha, hp⟩
    obtain ⟨b, hb, rfl⟩ := List.mem_map.mp hp
    obtain ⟨hb, hq⟩ := List.mem_filter.mp hb
    simp only [Bool.and_eq_true, decide_eq_true_eq] at hq
    exact ⟨⟨(rngI_mem ha).1, hq.1, (rngI_mem hb).2⟩, hq.2⟩
  · rintro ⟨⟨h0, h1, h2⟩, hr⟩
    exact ⟨p.1, mem_rngI.mpr ⟨h0, by omega⟩, List.mem_map.mpr ⟨p.2, List.mem_filter.mpr ⟨mem_rngI.mpr ⟨by omega, h2⟩, by simp [h1, hr]⟩, rfl⟩⟩
theorem plt_irr (p : Int × Int) : ¬ plt p p := fun h => by rcases h with h | ⟨_, h⟩ <;> omega
theorem plt_asym {p q : Int × Int} (h : plt p q) (h' : plt q p) : False := by
  rcases h with h | ⟨a, h⟩ <;> rcases h' with h' | ⟨b, h'⟩ <;> omega
theorem sorted_ext : ∀ {a b : List (Int × Int)}, a.Pairwise plt → b.Pairwise plt → (∀ p, p ∈ a ↔ p ∈ b) → a = b
  | [], [], _, _, _ => rfl
  | [], y :: b, _, _, h => by have := (h y).mpr List.mem_cons_self; cases this
  | x :: a, [], _, _, h => by have := (h x).mp List.mem_cons_self; cases this
  | x :: a, y :: b, ha, hb, h => by
    rw [List.pairwise_cons] at ha hb
    have e : x = y := by
      rcases List.mem_cons.mp ((h x).mp List.mem_cons_self) with q | q
      · exact q
      · rcases List.mem_cons.mp ((h y).mpr List.mem_cons_self) with w | w
        · exact w.symm
        · exact (plt_asym (ha.1 y w) (hb.1 x q)).elim
    subst e
    rw [sorted_ext ha.2 hb.2 fun p => ?_]
    constructor
    · intro m
      rcases List.mem_cons.mp ((h p).mp (List.mem_cons_of_mem _ m)) with q | q
      · subst q; exact (plt_irr _ (ha.1 _ m)).elim
      · exact q
    · intro m
      rcases List.mem_cons.mp ((h p).mpr (List.mem_cons_of_mem _ m)) with q | q
      · subst q; exact (plt_irr _ (hb.1 _ m)).elim
      · exact q
/-! ### sorted pairs -/
def pl (p : Int × Int) : List Int := [p.1, p.2]
theorem pD2_eq (p : Int × Int) : pD2 p = tD (pl p) := rfl
theorem map_pD2 (ts : List (Int × Int)) : ts.map pD2 = (ts.map pl).map tD := by
  rw [List.map_map]
  rfl
theorem leL_of_plt {p q : Int × Int} (h : plt p q) : leL (pl p) (pl q) = true := by
  unfold leL pl
  rw [HT.lexLt_cons]
  rcases h with h | ⟨h1, h2⟩
  · rw [if_neg (by omega)]; simp; omega
  · rw [if_pos h1.symm, HT.lexLt_cons, if_neg (by omega)]; simp; omega
theorem sort_ties {a b : List (Int × Int)} (p : a.Perm b) (hb : b.Pairwise plt) : sortL (a.map pl) = b.map pl :=
  sortedL_unique ((sortL_perm _).trans (p.map pl)) (sortL_sorted _) (by rw [List.pairwise_map]; exact hb.imp leL_of_plt)
theorem nodup_plt {a : List (Int × Int)} (h : a.Pairwise plt) : a.Nodup := h.imp fun h e => by subst e; exact plt_irr _ h
theorem perm_of_mem {α : Type} [BEq α] [LawfulBEq α] {a b : List α} (ha : a.Nodup) (hb : b.Nodup) (h : ∀ p, p ∈ a ↔ p ∈ b) : a.Perm b := by
  rw [List.perm_iff_count]
  intro p
  have h1 : a.count p ≤ 1 := List.nodup_iff_count.mp ha p
  have h2 : b.count p ≤ 1 := List.nodup_iff_count.mp hb p
  by_cases m : p ∈ a
  · have := List.count_pos_iff.mpr m
    have := List.count_pos_iff.mpr ((h p).mp m)
    omega
  · rw [List.count_eq_zero_of_not_mem m, List.count_eq_zero_of_not_mem fun w => m ((h p).mpr w)]
theorem bSorted_ties {a b : List (Int × Int)} (p : a.Perm b) (hb : b.Pairwise plt) : bSortedX [.lst (a.map pD2)] = .ok (.ls (b.map pD2)) := by
  rw [map_pD2, bSortedX_tups _ (fun k m => by
    obtain ⟨q, _, rfl⟩ := List.mem_map.mp m
    unfold pl
    simp), sort_ties p hb, ← map_pD2]
/-! ### checks of webs -/
theorem check_web_ok (n : Int) (ts : List (Int × Int)) : m_check_web [W n ts] = .ok (.d .non, []) := by
  simp -implicitDefEqProofs [m_check_web, b_check_web, W, e_isiO]
theorem check_knot_ok {n k : Int} (ts : List (Int × Int)) (h : 0 ≤ k ∧ k < n) : m_check_knot [W n ts, .int k] = .ok (.d .non, []) := by
  simp -implicitDefEqProofs [m_check_knot, b_check_knot, W, below_eq, h.1, h.2]
/-- ascending whole numbers from 0 on, below n -/
structure LotN (n : Int) (lot : List Int) : Prop where
  asc : lot.Pairwise (· < ·)
  mem : ∀ x ∈ lot, 0 ≤ x ∧ x < n
theorem asc_len {n : Int} : ∀ (lot : List Int) (lo : Int), lot.Pairwise (· < ·) → (∀ x ∈ lot, lo ≤ x ∧ x < n) → lot.length ≤ (n - lo).toNat
  | [], _, _, _ => Nat.zero_le _
  | x :: lot, lo, h, hm => by
    rw [List.pairwise_cons] at h
    have hx := hm x List.mem_cons_self
    have := asc_len lot (x + 1) h.2 fun y m => ⟨by have := h.1 y m; omega, (hm y (List.mem_cons_of_mem _ m)).2⟩
    rw [List.length_cons]
    omega
theorem LotN.len {n : Int} {lot : List Int} (h : LotN n lot) : lot.length ≤ n.toNat := by
  have := asc_len lot 0 h.asc h.mem
  simpa using this
theorem asc_ok {n : Int} {lot : List Int} (h : LotN n lot) (hn : n ≤ 1000) : m_is_ascending [.tup (lot.map D.int), .int n] = .ok (.d (.bl true), []) := by
  have hl := h.len
  rw [is_ascending_ok lot n (by omega)]
  have a : lot.all (inR n) = true := List.all_eq_true.mpr fun x m => by
    have := h.mem x m
    simp [inR, this]
  have b : ascB lot = true := List.all_eq_true.mpr fun p m => by
    have := adj_of h.asc p m
    simpa using this
  rw [a, b]
  rfl
theorem check_lot_ok {n : Int} (ts : List (Int × Int)) {lot : List Int} (h : LotN n lot) (hn : n ≤ 1000) : m_check_lot [W n ts, .tup (lot.map D.int)] = .ok (.d .non, []) := by
  simp -implicitDefEqProofs [m_check_lot, b_check_lot, W, asc_ok h hn]
/-! ### webs of lots -/
def ix (lot : List Int) (x : Int) : Int := (lot.idxOf x : Nat)
theorem ix_lt {lot : List Int} (h : lot.Pairwise (· < ·)) {x y : Int} (hx : x ∈ lot) (hy : y ∈ lot) (l : x < y) : ix lot x < ix lot y := by
  have lx := List.idxOf_lt_length_of_mem hx
  have ly := List.idxOf_lt_length_of_mem hy
  have ex := List.getElem_idxOf lx
  have ey := List.getElem_idxOf ly
  unfold ix
  rcases Nat.lt_trichotomy (lot.idxOf x) (lot.idxOf y) with q | q | q
  · omega
  · have : lot[lot.idxOf x]'lx = lot[lot.idxOf y]'ly := by congr 1
    rw [ex, ey] at this
    omega
  · have := List.pairwise_iff_getElem.mp h _ _ ly lx q
    rw [ex, ey] at this
    omega
theorem ix_mem {lot : List Int} {x : Int} (hx : x ∈ lot) : 0 ≤ ix lot x ∧ ix lot x < lot.length := by
  have lx := List.idxOf_lt_length_of_mem hx
  unfold ix
  omega
def lotTies (ts : List (Int × Int)) (lot : List Int) : List (Int × Int) := (ts.filter fun p => lot.contains p.1 && lot.contains p.2).map fun p => (ix lot p.1, ix lot p.2)
theorem lot_web_web {n : Int} {ts : List (Int × Int)} {lot : List Int} (w : WebN n ts) (h : LotN n lot) (h0 : lot ≠ []) : WebN lot.length (lotTies ts lot) := by
  have hl := h.len
  have hi := w.hi
  have hp := List.length_pos_iff.mpr h0
  refine ⟨by omega, by omega, fun p m => ?_, ?_, ?_⟩
  · obtain ⟨q, hq, rfl⟩ := List.mem_map.mp m
    obtain ⟨hq, hc⟩ := List.mem_filter.mp hq
    simp only [Bool.and_eq_true, List.contains_iff_mem] at hc
    have o := w.ok q hq
    exact ⟨(ix_mem hc.1).1, ix_lt h.asc hc.1 hc.2 o.2.1, (ix_mem hc.2).2⟩
  · unfold lotTies
    rw [List.pairwise_map]
    refine List.Pairwise.imp_of_mem (fun {p q} hp hq l => ?_) (w.asc.filter _)
    obtain ⟨_, hc⟩ := List.mem_filter.mp hp
    obtain ⟨_, hd⟩ := List.mem_filter.mp hq
    simp only [Bool.and_eq_true, List.contains_iff_mem] at hc hd
    rcases l with l | ⟨l1, l2⟩
    · exact .inl (ix_lt h.asc hc.1 hd.1 l)
    · exact .inr ⟨by rw [l1], ix_lt h.asc hc.2 hd.2 l2⟩
  · unfold lotTies
    rw [List.length_map]
    exact Nat.le_trans (List.length_filter_le ..) w.len
theorem lot_web_ok {n : Int} {ts : List (Int × Int)} {lot : List Int} (w : WebN n ts) (h : LotN n lot) (h0 : lot ≠ []) : m_lot_web [W n ts, .tup (lot.map D.int)] = .ok (.d (W lot.length (lotTies ts lot)), []) := by
  have hi := w.hi
  have cw := check_web_ok n ts
  have cl := check_lot_ok ts h (by omega)
  have mw := mWeb_ok (lot_web_web w h h0)
  have ne : lot.isEmpty = false := by cases lot with
    | nil => exact absurd rfl h0
    | cons _ _ => rfl
  have tr : D.tru (.tup (lot.map D.int)) = some true := by
    show some (!(lot.map D.int).isEmpty) = _
    rw [List.isEmpty_map, ne]
    rfl
  simp -implicitDefEqProofs only [m_lot_web, b_lot_web, e_fn, e_stE0, e_ofs, e_bok, e_sCons, List.map_cons, List.map_nil, List.length_cons, List.length_nil]
  simp -implicitDefEqProofs [cw, cl, tr]
  rw [fLc_T ts pD2 (fun p => lot.contains p.1 && lot.contains p.2) (fun p => pD2 (ix lot p.1, ix lot p.2)) (fun p => [.val (W n ts), .val (.tup (lot.map D.int)), .no, .val (.int p.1), .val (.int p.2)])
    (by simp -implicitDefEqProofs [W]) w.len
    (fun v hv s hs => by
      simp only [List.mem_cons, List.not_mem_nil, or_false] at hv
      rcases hv with rfl | rfl <;> (cases hs; rfl))
    (fun p _ => ⟨by simp -implicitDefEqProofs [pD2, wipeE], rfl⟩)
    (fun p _ => by
      cases c1 : lot.contains p.1 <;> cases c2 : lot.contains p.2 <;> simp -implicitDefEqProofs [dIn_ints, c1, c2, -List.contains_eq_mem])
    (fun p _ hp => by
      simp only [Bool.and_eq_true, List.contains_iff_mem] at hp
      have i1 := mIdx_of (first_idx 0 hp.1)
      have i2 := mIdx_of (first_idx 0 hp.2)
      rw [Nat.zero_add] at i1 i2
      exact ⟨.d (pD2 (ix lot p.1, ix lot p.2)), by simp -implicitDefEqProofs [i1, i2, pD2, ix], rfl⟩)]
  have e : (ts.filter fun p => lot.contains p.1 && lot.contains p.2).map (fun p => pD2 (ix lot p.1, ix lot p.2)) = (lotTies ts lot).map pD2 := by
    unfold lotTies
    rw [List.map_map]
    rfl
  rw [e]
  simp -implicitDefEqProofs [mw, W]
/-! ### a knot left out -/
def dn (k x : Int) : Int := if k < x then x - 1 else x
def butK (n k : Int) : List Int := (rngI n).filter fun x => decide (x ≠ k)
theorem but_lot (n k : Int) : LotN n (butK n k) := ⟨(rngI_lt n).filter _, fun x m => rngI_mem (List.mem_filter.mp m).1⟩
theorem mem_but {n k x : Int} : x ∈ butK n k ↔ (0 ≤ x ∧ x < n) ∧ x ≠ k := by
  unfold butK
  rw [List.mem_filter, mem_rngI, decide_eq_true_eq]
theorem rng_cut {n k : Int} (h : 0 ≤ k ∧ k < n) : rngI n = rngI k ++ k :: (List.range (n - (k + 1)).toNat).map fun i : Nat => k + 1 + (i : Int) := by
  have e : n.toNat = k.toNat + (1 + (n - (k + 1)).toNat) := by omega
  unfold rngI
  rw [e, List.range_add, List.map_append, List.range_add, List.map_append, List.map_append]
  congr 1
  show _ = [k] ++ _
  congr 1
  · simp
    omega
  · rw [List.map_map, List.map_map]
    refine List.map_congr_left fun i _ => ?_
    simp only [Function.comp]
    omega
theorem but_dn {n k : Int} (h : 0 ≤ k ∧ k < n) : (butK n k).map (dn k) = rngI (n - 1) := by
  unfold butK
  rw [rng_cut h, List.filter_append, List.filter_cons_of_neg (by simp), List.filter_eq_self.mpr (fun x m => by
    have := rngI_mem m
    simp
    omega), List.filter_eq_self.mpr (fun x m => by
    obtain ⟨i, _, rfl⟩ := List.mem_map.mp m
    simp
    omega), List.map_append]
  have e : (n - 1).toNat = k.toNat + (n - (k + 1)).toNat := by omega
  show _ = (List.range (n - 1).toNat).map _
  rw [e, List.range_add, List.map_append]
  congr 1
  · show (rngI k).map (dn k) = rngI k
    conv => rhs; rw [← List.map_id (rngI k)]
    refine List.map_congr_left fun x m => ?_
    have := rngI_mem m
    unfold dn
    rw [if_neg (by omega)]
    rfl
  · rw [List.map_map, List.map_map]
    refine List.map_congr_left fun i _ => ?_
    simp only [Function.comp, dn]
    rw [if_pos (by omega)]
    omega
theorem dn_inj {k x y : Int} (hx : x ≠ k) (hy : y ≠ k) (h : dn k x = dn k y) : x = y := by
  unfold dn at h
  split at h <;> split at h <;> omega
theorem dn_lt {k x y : Int} (hx : x ≠ k) (hy : y ≠ k) (h : x < y) : dn k x < dn k y := by
  unfold dn
  split <;> split <;> omega
theorem but_ix {n k : Int} (h : 0 ≤ k ∧ k < n) {x : Int} (hx : x ∈ butK n k) : ix (butK n k) x = dn k x := by
  have lx := List.idxOf_lt_length_of_mem hx
  have ex := List.getElem_idxOf lx
  have e : ((butK n k).map (dn k))[(butK n k).idxOf x]'(by rw [List.length_map]; exact lx) = dn k x := by
    rw [List.getElem_map, ex]
  have e2 : ((butK n k).map (dn k))[(butK n k).idxOf x]? = (rngI (n - 1))[(butK n k).idxOf x]? := by rw [but_dn h]
  rw [List.getElem?_eq_getElem (by rw [List.length_map]; exact lx), e] at e2
  unfold rngI at e2
  rw [List.getElem?_map] at e2
  have ll : (butK n k).idxOf x < (n - 1).toNat := by
    have := congrArg List.length (but_dn h)
    rw [List.length_map, rngI_length] at this
    omega
  rw [List.getElem?_range ll] at e2
  simp only [Option.map_some, Option.some.injEq] at e2
  exact e2.symm
theorem beyond_ok {n k : Int} (h0 : 0 ≤ n) (h1 : n ≤ 1000) : m_beyond_lot [.int n, .tup [.int k]] = .ok (.d (.tup ((butK n k).map D.int)), []) := by
  have a1 : (-4611686018427387904 : Int) ≤ n := by omega
  have a2 : n < 4611686018427387904 := by omega
  simp -implicitDefEqProofs [m_beyond_lot, b_beyond_lot]
  rw [fLc_I (rngI n) D.int (fun x => decide (x ≠ k)) D.int (by simp -implicitDefEqProofs [a1, a2, rng_eq]) (by rw [rngI_length]; omega) rfl rfl
    (fun x _ => by
      have := dIn_ints true x [k]
      simp only [List.map_cons, List.map_nil] at this
      by_cases e : x = k
      · subst e
        simp -implicitDefEqProofs [this]
      · simp -implicitDefEqProofs [this, e]) (fun x _ _ => ⟨.d (.int x), by simp -implicitDefEqProofs, rfl⟩)]
  simp -implicitDefEqProofs [butK]
def leftTies (k : Int) (ts : List (Int × Int)) : List (Int × Int) := (ts.filter fun p => decide (p.1 ≠ k) && decide (p.2 ≠ k)).map fun p => (dn k p.1, dn k p.2)
theorem lot_left {n k : Int} (h : 0 ≤ k ∧ k < n) {ts : List (Int × Int)} (w : WebN n ts) : lotTies ts (butK n k) = leftTies k ts := by
  unfold lotTies leftTies
  have e : (ts.filter fun p => (butK n k).contains p.1 && (butK n k).contains p.2) = ts.filter fun p => decide (p.1 ≠ k) && decide (p.2 ≠ k) := List.filter_congr fun p m => by
    have o := w.ok p m
    have c1 : (butK n k).contains p.1 = decide (p.1 ≠ k) := by
      rw [Bool.eq_iff_iff, List.contains_iff_mem, mem_but, decide_eq_true_eq]
      exact ⟨fun q => q.2, fun q => ⟨⟨by omega, by omega⟩, q⟩⟩
    have c2 : (butK n k).contains p.2 = decide (p.2 ≠ k) := by
      rw [Bool.eq_iff_iff, List.contains_iff_mem, mem_but, decide_eq_true_eq]
      exact ⟨fun q => q.2, fun q => ⟨⟨by omega, by omega⟩, q⟩⟩
    rw [c1, c2]
  rw [e]
  refine List.map_congr_left fun p m => ?_
  obtain ⟨m, hc⟩ := List.mem_filter.mp m
  simp only [Bool.and_eq_true, decide_eq_true_eq] at hc
  have o := w.ok p m
  rw [but_ix h (mem_but.mpr ⟨⟨by omega, by omega⟩, hc.1⟩), but_ix h (mem_but.mpr ⟨⟨by omega, by omega⟩, hc.2⟩)]
theorem left_out_ok {n k : Int} {ts : List (Int × Int)} (w : WebN n ts) (h : 0 ≤ k ∧ k < n) (h1 : n ≠ 1) : m_left_out [W n ts, .int k] = .ok (.d (W (n - 1) (leftTies k ts)), []) ∧ WebN (n - 1) (leftTies k ts) := by
  have lo := w.lo
  have hi := w.hi
  have ll : ((butK n k).length : Int) = n - 1 := by
    have := congrArg List.length (but_dn h)
    rw [List.length_map, rngI_length] at this
    omega
  have ne : butK n k ≠ [] := fun e => by rw [e] at ll; simp at ll; omega
  have lw := lot_web_ok w (but_lot n k) ne
  have ww := lot_web_web w (but_lot n k) ne
  rw [ll, lot_left h w] at lw ww
  have bo := beyond_ok (k := k) (show 0 ≤ n by omega) (show n ≤ 1000 by omega)
  have e1 : fAt 0 0 (fVar 0) [.val (W n ts), .val (.int k)] = .ok (.d (.int n), [.val (W n ts), .val (.int k)]) := by simp -implicitDefEqProofs [W]
  refine ⟨?_, ww⟩
  simp -implicitDefEqProofs only [m_left_out, b_left_out, e_fn, e_stE0, e_ofs, e_bok, e_sCons, List.map_cons, List.map_nil, List.length_cons, List.length_nil]
  simp -implicitDefEqProofs [-e_fAt, check_web_ok, check_knot_ok ts h, e1, dEq_intN, h1, bo, lw]
/-! ### other names -/
def renPair (o : List Int) (p : Int × Int) : Int × Int := (min (nth o p.1) (nth o p.2), max (nth o p.1) (nth o p.2))
theorem min_pair (a b : Int) : bMinX [.tup [.int a, .int b]] = .ok (.d (.int (min a b))) := by
  have := minS_ints a [b]
  show minS [.int a, .int b] = _
  simp only [List.map_cons, List.map_nil] at this
  rw [this]
  congr 3
  simp only [minI, List.foldl_cons, List.foldl_nil]
  omega
theorem max_pair (a b : Int) : bMaxX [.tup [.int a, .int b]] = .ok (.d (.int (max a b))) := by
  have := maxS_ints a [b]
  show maxS [.int a, .int b] = _
  simp only [List.map_cons, List.map_nil] at this
  rw [this]
  congr 3
  simp only [maxI, List.foldl_cons, List.foldl_nil]
  omega
theorem renamed_ok {n : Int} {ts us : List (Int × Int)} {o : List Int} (w : WebN n ts) (ho : OrdN n o) (wu : WebN n us) (p : (ts.map (renPair o)).Perm us) : m_renamed [W n ts, .tup (o.map D.int)] = .ok (.d (W n us), []) := by
  have lo := w.lo
  have hi := w.hi
  have on := once_ok ho (show 0 ≤ n by omega) (by omega)
  have mw := mWeb_ok wu
  have e1 : ∀ s1 s2, fAt 0 0 (fVar 0) [.val (W n ts), .val (.tup (o.map D.int)), s1, s2] = .ok (.d (.int n), [.val (W n ts), .val (.tup (o.map D.int)), s1, s2]) := fun _ _ => by simp -implicitDefEqProofs [W]
  have wb : m__web_by [.int n, .lst ((ts.map fun q => (nth o q.1, nth o q.2)).map pD2)] = .ok (.d (W n us), []) := by
    simp -implicitDefEqProofs only [m__web_by, b__web_by, e_fn, e_stE0, e_ofs, e_bok, e_sRet, List.map_cons, List.map_nil, List.length_cons, List.length_nil]
    simp -implicitDefEqProofs [-List.map_map]
    rw [fLc_I (ts.map fun q => (nth o q.1, nth o q.2)) pD2 (fun _ => true) (fun q => pD2 (min q.1 q.2, max q.1 q.2)) (by simp -implicitDefEqProofs) (by rw [List.length_map]; exact w.len) rfl rfl (fun _ _ => rfl)
      (fun q _ _ => ⟨.d (pD2 (min q.1 q.2, max q.1 q.2)), by simp -implicitDefEqProofs [pD2, min_pair, max_pair], rfl⟩)]
    rw [List.filter_eq_self.mpr (fun _ _ => rfl)]
    have e : (ts.map fun q => (nth o q.1, nth o q.2)).map (fun q => pD2 (min q.1 q.2, max q.1 q.2)) = (ts.map (renPair o)).map pD2 := by
      rw [List.map_map, List.map_map]
      rfl
    rw [e]
    simp -implicitDefEqProofs [-List.map_map, bSorted_ties p wu.asc, mw, W]
  simp -implicitDefEqProofs only [m_renamed, b_renamed, e_fn, e_stE0, e_ofs, e_bok, e_sCons, List.map_cons, List.map_nil, List.length_cons, List.length_nil]
  simp -implicitDefEqProofs [-e_fAt, check_web_ok, e1, on]
  rw [fLc_T ts pD2 (fun _ => true) (fun q => pD2 (nth o q.1, nth o q.2)) (fun q => [.val (W n ts), .val (.tup (o.map D.int)), .val (.int q.1), .val (.int q.2)])
    (by simp -implicitDefEqProofs [W]) w.len
    (fun v hv s hs => by
      simp only [List.mem_cons, List.not_mem_nil, or_false] at hv
      rcases hv with rfl | rfl <;> (cases hs; rfl))
    (fun p _ => ⟨by simp -implicitDefEqProofs [pD2, wipeE], rfl⟩) (fun _ _ => rfl)
    (fun q m _ => by
      have ok := w.ok q m
      exact ⟨.d (pD2 (nth o q.1, nth o q.2)), by simp -implicitDefEqProofs [ho.at_ ⟨ok.1, by omega⟩, ho.at_ ⟨by omega, ok.2.2⟩, pD2], rfl⟩)]
  rw [List.filter_eq_self.mpr (fun _ _ => rfl), show ts.map (fun q => pD2 (nth o q.1, nth o q.2)) = (ts.map fun q => (nth o q.1, nth o q.2)).map pD2 by rw [List.map_map]; rfl]
  simp -implicitDefEqProofs [-List.map_map, wb]
end PL
namespace PL
open PySem PySem.Spec PyProof.Rows L2 TN
/-! ### the head of a law: its cells, its turns -/
def Rightly (φ : Fn) : Prop := ∀ u : List D, Urn u → ∃ u', Urn u' ∧ φ [.lst u] = .ok (.d (.bl true), u')
abbrev tTurn (φ : Fn) : S := sIf (fNotB (fTru (fCall true φ (aCons (fVar 2) (aNil))))) (sRet (fC (.bl false))) (sNil)
abbrev tSpot (φ : Fn) (m : Int) : S := sCons (sSet 2 (fCall false m__law_urn (aCons (fVar 0) (aCons (fVar 1) (aNil))))) (sFor (fRng1 (aCons (fC (.int m)) (aNil))) (gN 3) (tTurn φ))
abbrev tHead (φ : Fn) (m c : Int) : S := sFor (fRng1 (aCons (fBi bMaxX (aCons (fC (.int 1)) (aCons (fBi bMinX (aCons (fC (.int c)) (aCons (fBi bLen (aCons (fVar 0) (aNil))) (aNil)))) (aNil)))) (aNil))) (gN 1) (tSpot φ m)
theorem head_turns {φ : Fn} (hφ : Rightly φ) (ns : List Int) (i : Int) (r : Ev) : ∀ (ds : List D) (u : List D) (a : Sl), Urn u → ∃ u' a', Urn u' ∧
    forF (gN 3) (tTurn φ) ds (.val (.scr ns) :: .val (.int i) :: .own u :: a :: r) = .ok (.nx, .val (.scr ns) :: .val (.int i) :: .own u' :: a' :: r)
  | [], u, a, hu => ⟨u, a, hu, rfl⟩
  | d :: ds, u, a, hu => by
    obtain ⟨u1, hu1, e1⟩ := hφ u hu
    obtain ⟨u2, a2, hu2, e2⟩ := head_turns hφ ns i r ds u1 (.val d) hu1
    refine ⟨u2, a2, hu2, ?_⟩
    show (ofO (gN 3 d (.val (.scr ns) :: .val (.int i) :: .own u :: a :: r))).bind _ = _
    simp -implicitDefEqProofs [e1]
    exact e2
theorem head_spots {φ : Fn} (hφ : Rightly φ) (ns : List Int) {m : Int} (hm : -4611686018427387904 ≤ m ∧ m < 4611686018427387904) (r : Ev) : ∀ (is : List Nat) (x y z : Sl), ∃ x' y' z',
    forF (gN 1) (tSpot φ m) (is.map fun i : Nat => D.int i) (.val (.scr ns) :: x :: y :: z :: r) = .ok (.nx, .val (.scr ns) :: x' :: y' :: z' :: r)
  | [], x, y, z => ⟨x, y, z, rfl⟩
  | i :: is, x, y, z => by
    obtain ⟨u, hu, e1⟩ := urn_ok ns i
    obtain ⟨u1, a1, hu1, e2⟩ := head_turns hφ ns i r (rng 0 m) u z hu
    obtain ⟨x', y', z', e3⟩ := head_spots hφ ns hm r is (.val (.int i)) (.own u1) a1
    refine ⟨x', y', z', ?_⟩
    show (ofO (gN 1 (D.int i) (.val (.scr ns) :: x :: y :: z :: r))).bind _ = _
    simp -implicitDefEqProofs [e1, hm.1, hm.2, e2]
    exact e3
theorem head_ok {φ : Fn} (hφ : Rightly φ) (ns : List Int) {m : Int} (hm : -4611686018427387904 ≤ m ∧ m < 4611686018427387904) {c : Int} (hc : 1 ≤ c ∧ c ≤ 1000) (r : Ev) (x y z : Sl) : ∃ x' y' z',
    tHead φ m c (.val (.scr ns) :: x :: y :: z :: r) = .ok (.nx, .val (.scr ns) :: x' :: y' :: z' :: r) := by
  obtain ⟨k, hk, k1⟩ : ∃ k : Int, (if (if (ns.length : Int) < c then (ns.length : Int) else c) > 1 then (if (ns.length : Int) < c then (ns.length : Int) else c) else 1) = k ∧ 1 ≤ k ∧ k ≤ 1000 := ⟨_, rfl, by split <;> split <;> omega⟩
  obtain ⟨x', y', z', e1⟩ := head_spots hφ ns hm r (List.range k.toNat) x y z
  have er : rng 0 k = (List.range k.toNat).map fun i : Nat => D.int i := by
    rw [rng_eq]
    unfold rngI
    rw [List.map_map]
    rfl
  refine ⟨x', y', z', ?_⟩
  have h1 : (-4611686018427387904 : Int) ≤ k := by omega
  have h2 : k < 4611686018427387904 := by omega
  have e0 : fRng1 (aCons (fBi bMaxX (aCons (fC (.int 1)) (aCons (fBi bMinX (aCons (fC (.int c)) (aCons (fBi bLen (aCons (fVar 0) (aNil))) (aNil)))) (aNil)))) (aNil)) (.val (.scr ns) :: x :: y :: z :: r) = .ok ((List.range k.toNat).map fun i : Nat => D.int i, .val (.scr ns) :: x :: y :: z :: r) := by
    simp only [e_rng1, e_aCons, e_bi, e_c, e_bok, e_aNil, e_var, List.getElem?_cons_zero, e_opd1, e_da1, e_da0, e_der1, e_ofs, e_bLen3, e_r1, e_bMinX, e_bMaxX, hk]
    rw [if_pos ⟨h1, h2⟩, er]
  unfold tHead
  rw [e_for, e0]
  exact e1
end PL
namespace PL
open PySem PySem.Spec PyProof.Rows L2 TN RM
theorem taken_ok {u : List D} (hu : Urn u) {ns : List Int} (h0 : ns ≠ []) (h1 : ns.length ≤ 1000) : ∃ x u', x ∈ ns ∧ Urn u' ∧ m__law_taken [.lst u, .lst (ns.map D.int)] = .ok (.d (.int x), u') := by
  have hp := List.length_pos_iff.mpr h0
  obtain ⟨r, u', r0, r1, hu', e⟩ := ball_ok hu (n := (ns.length : Int)) (by omega) (by omega)
  obtain ⟨j, rfl⟩ : ∃ j : Nat, r = j := ⟨r.toNat, by omega⟩
  have hj : j < ns.length := by omega
  refine ⟨ns[j], u', List.getElem_mem hj, hu', ?_⟩
  have a : atI (ns.map D.int) (j : Int) = some (.int ns[j]) := atI_nat (by rw [List.getElem?_map, List.getElem?_eq_getElem hj]; rfl)
  simp -implicitDefEqProofs [m__law_taken, b__law_taken, e, a]
theorem order_ok {u : List D} (hu : Urn u) {n : Int} (h0 : 0 ≤ n) (h1 : n ≤ 10) : ∃ (o : List Int) (u' : List D), OrdN n o ∧ Urn u' ∧ m__law_mixed [.lst u, .lst ((rngI n).map D.int)] = .ok (.ls (o.map D.int), u') := by
  obtain ⟨g, u', hp, hu', e⟩ := mixed_ok hu (it := rngI n) (by rw [rngI_length]; omega)
  exact ⟨g, u', ⟨hp⟩, hu', e⟩
theorem W_eq (neg : Bool) (n m : Int) (s t : List (Int × Int)) (e : Ev) : kEqO 0 m_Web_eq neg (W n s) (W m t) e = .ok (.d (.bl (if neg then !(decide (n = m) && decide (s = t)) else (decide (n = m) && decide (s = t)))), e) := by
  show kEqO 0 m_Web_eq neg (.obj 0 _) (.obj 0 _) e = _
  rw [e_kEqO]
  show (m_Web_eq [W n s, W m t]).bind _ = _
  rw [web_eq_ok]
  rfl
/-- the ties of a web -/
theorem W_ties (n : Int) (ts : List (Int × Int)) {g : F} {env env' : Ev} (h : g env = .ok (.d (W n ts), env')) : fAt 0 1 g env = .ok (.d (.tup (ts.map pD2)), env') := by
  rw [e_fAt, h]
  rfl
theorem W_knots (n : Int) (ts : List (Int × Int)) {g : F} {env env' : Ev} (h : g env = .ok (.d (W n ts), env')) : fAt 0 0 g env = .ok (.d (.int n), env') := by
  rw [e_fAt, h]
  rfl
end PL
namespace TN
open PySem PySem.Spec PyProof.Rows L2
/-! ### a, b, c = x, y, z -/
def sPar3 (i j l : Nat) (fa fb fc : F) : S := fun env => (fa env).bind fun p => (fb p.2).bind fun q => (fc q.2).bind fun r => (ofO (storeN p.1)).bind fun a => (ofO (storeN q.1)).bind fun b => (ofO (storeN r.1)).bind fun c =>
  if i < r.2.length ∧ j < r.2.length ∧ l < r.2.length ∧ i ≠ j ∧ i ≠ l ∧ j ≠ l then .ok (.nx, ((r.2.set i a).set j b).set l c) else .no
@[simp] theorem e_sPar3 {i j l : Nat} {fa fb fc : F} {env : Ev} : sPar3 i j l fa fb fc env = (fa env).bind fun p => (fb p.2).bind fun q => (fc q.2).bind fun r => (ofO (storeN p.1)).bind fun a => (ofO (storeN q.1)).bind fun b => (ofO (storeN r.1)).bind fun c =>
  if i < r.2.length ∧ j < r.2.length ∧ l < r.2.length ∧ i ≠ j ∧ i ≠ l ∧ j ≠ l then .ok (.nx, ((r.2.set i a).set j b).set l c) else .no := rfl
section
variable {z : Z} {E : XK} {σ : L2.St} {H : Hp} {X : Cx} {i j l : Nat} {fa fb fc : F} {D : Ends}
theorem ow_set {env : Ev} {σ : L2.St} {i j : Nat} {s : Sl} {v : V} {q : Addr} (le : env.length = σ.length) (hi : i < env.length) (h : Ow (env.set i s) (σ.set i (some v)) j q) : (i = j ∧ s.ow = true ∧ v = .ref q) ∨ Ow env σ j q := by
  obtain ⟨⟨s1, es, os⟩, ep⟩ := h
  by_cases w : i = j
  · subst w
    rw [List.getElem?_set_self hi] at es
    rw [List.getElem?_set_self (by rw [← le]; exact hi)] at ep
    cases es
    exact .inl ⟨rfl, os, Option.some.inj ep⟩
  · rw [List.getElem?_set_ne w] at es ep
    exact .inr ⟨⟨s1, es, os⟩, ep⟩
theorem ts_par3 (h : tS z E (sPar3 i j l fa fb fc) D σ H) : L2.tPar3 i j l (tCons (tE z E fa) (tCons (tE z E fb) (tCons (tE z E fc) tNil))) D σ H := by
  obtain ⟨T, G, env, r, h⟩ := h
  refine ⟨T, G, env, r, (Pg.bind h).imp fun p hp v H1 G1 r1 e1 w1 => ?_⟩
  obtain ⟨T1, rt, kk⟩ := w1.keep r1
  refine ⟨T1, G1, p.2, rt, (Pg.bind hp).imp fun q hq u H2 G2 r2 e2 w2 => ?_⟩
  obtain ⟨T2, rt2, kk2⟩ := w2.keep r2
  refine ⟨T2, G2, q.2, rt2, (Pg.bind hq).imp fun r hr t H3 G3 r3 e3 w3 => ?_⟩
  obtain ⟨r3', w2', k3⟩ := kk2 r3 e3
  obtain ⟨w3', dif3⟩ := k3 t r.1 w3
  obtain ⟨r3'', w1', k1⟩ := kk r3' (e2.trans e3)
  obtain ⟨w2'', dif2⟩ := k1 u q.1 w2'
  obtain ⟨w3'', dif1⟩ := k1 t r.1 w3'
  obtain ⟨sa, ea, hr⟩ := (Pg.bind hr).ofO
  obtain ⟨sb, eb, hr⟩ := (Pg.bind hr).ofO
  obtain ⟨sc, ec, hr⟩ := (Pg.bind hr).ofO
  split at hr
  · rename_i hij
    obtain ⟨hi, hj, hl, n1, n2, n3⟩ := hij
    obtain ⟨slA, hdA⟩ := w1'.storeN ea
    obtain ⟨slB, hdB⟩ := w2''.storeN eb
    obtain ⟨slC, hdC⟩ := w3''.storeN ec
    have r4 := r3''.set slA (fun q' o e => (hdA q' o e).1) hi
    have r5 := r4.set (i := j) slB (fun q' o e j' hw => by
      obtain ⟨no, ys, ey⟩ := hdB q' o e
      rcases ow_set r3''.len hi hw with ⟨_, os, ev⟩ | hw
      · obtain ⟨_, xs, ex⟩ := hdA q' os ev
        exact dif2 xs ys q' ex ey ev e
      · exact no j' hw) (by rw [List.length_set]; exact hj)
    have r6 := r5.set (i := l) slC (fun q' o e j' hw => by
      obtain ⟨no, ys, ey⟩ := hdC q' o e
      rcases ow_set r4.len (by rw [List.length_set]; exact hj) hw with ⟨_, os, ev⟩ | hw
      · obtain ⟨_, xs, ex⟩ := hdB q' os ev
        exact dif3 xs ys q' ex ey ev e
      rcases ow_set r3''.len hi hw with ⟨_, os, ev⟩ | hw
      · obtain ⟨_, xs, ex⟩ := hdA q' os ev
        exact dif1 xs ys q' ex ey ev e
      · exact no j' hw) (by rw [List.length_set, List.length_set]; exact hl)
    exact ⟨v, u, t, rfl, hr _ H3 G3 r6 ((e1.trans e2).trans e3)⟩
  · exact hr.elim
theorem ws_par3 {st : Stmt} (h : PS X st (L2.tPar3 i j l (tCons (tE z E fa) (tCons (tE z E fb) (tCons (tE z E fc) tNil))))) : PS X st (tS z E (sPar3 i j l fa fb fc)) := ps_mono h fun _ _ _ h => ts_par3 h
end
end TN
namespace TN
open PySem PySem.Spec PyProof.Rows L2
/-! ### a string many times, a tuple once -/
def repS (x : Str) (k : Int) : Str := if k < 1 then Str.empty else if (k == 1 || x.length == 0) = true then x else ⟨(List.replicate k.toNat x.cps).foldl (· ++ ·) #[]⟩
section
variable {X : Cx}
theorem rep_size {α : Type} (b : Array α) : ∀ (m : Nat) (a : Array α), (List.foldl (fun x1 x2 => x1 ++ x2) a (List.replicate m b)).size = a.size + m * b.size
  | 0, a => by simp
  | m + 1, a => by
    rw [List.replicate_succ, List.foldl_cons, rep_size b m, Array.size_append, Nat.succ_mul]
    omega
theorem op_mulStr : OpR X (binaryOp .Mult) (fun x y H Q => ∃ (s : Str) (k : Int), x = .str s ∧ y = .int k ∧ 0 ≤ k ∧ k ≤ 1000 ∧ s.length ≤ 1000 ∧ Q (.str (repS s k)) H) := by
  intro pins s σ H x y v u Q I rx ry h
  obtain ⟨z, k, rfl, rfl, k0, k1, hz, q⟩ := h
  obtain ⟨t, rfl⟩ := rx
  obtain ⟨t', rfl⟩ := ry
  refine PySem.P.mul_str ?_ (fun h1 h2 => ?_) (fun h1 h2 => ?_) ?_
  · rw [decide_eq_false (by omega), decide_eq_false (by omega)] <;> rfl
  · have : (1000 : Int) ≤ (2 ^ 63 - 1) / k := by
      have : (1000 : Int) * k ≤ 2 ^ 63 - 1 := by omega
      exact (Int.le_ediv_iff_mul_le (by omega)).mpr this
    omega
  · unfold Builtin.Str.tooLong
    have : z.length * k.toNat ≤ 1000 * 1000 := Nat.mul_le_mul hz (by omega)
    rw [sizeLine_eq]
    exact decide_eq_false (by omega)
  · unfold repS at q
    split
    · rename_i h1
      rw [if_pos h1] at q
      exact ⟨by decide, .str Str.empty, H, I.tok _, ⟨_, rfl⟩, q⟩
    · rename_i h1
      rw [if_neg h1] at q
      split
      · rename_i h2
        rw [if_pos h2] at q
        exact ⟨.str z, H, I, ⟨_, rfl⟩, q⟩
      · rename_i h2
        rw [if_neg h2] at q
        refine ⟨?_, .str _, H, I.tok _, ⟨_, rfl⟩, q⟩
        show (List.foldl (fun x1 x2 => x1 ++ x2) #[] (List.replicate k.toNat z.cps)).size ≤ sizeLine
        rw [rep_size]
        have : k.toNat * z.cps.size ≤ 1000 * 1000 := Nat.mul_le_mul (by omega) hz
        rw [sizeLine_eq]
        simp
        omega
theorem tuple_mulOne (l : Addr) (items : Array Value) (n : Nat) (dd : Option Addr) (sl : Array (Option Value)) (u : Tok) :
    Meets (Builtin.«tuple.__mul__» ⟨[.ref l, .int 1 u], []⟩) (fun _ R s => s.heap.get? l = some { cls := .type "tuple", dict := dd, data := .seq items n, slots := sl } ∧ R (.ok (.ret (Value.ref l))) s) :=
  .of_wp fun prog w A R s h => by
    obtain ⟨hp, g, d, tk, os⟩ := s
    obtain ⟨hl, h⟩ := h
    have f1 := AutoSeq1.idx_int
    wp_walk using wpAny_loadPart' hl
    exact ⟨_, rfl, h⟩
theorem op_mulOne : OpR X (binaryOp .Mult) (fun x y H Q => ∃ l xs, x = .ref l ∧ y = .int 1 ∧ SqT X.K H l xs ∧ Q (.ref l) H) := by
  intro pins s σ H x y v u Q I rx ry h
  obtain ⟨l, xs, rfl, rfl, hT, q⟩ := h
  cases rx
  obtain ⟨t, rfl⟩ := ry
  obtain ⟨as, r, ⟨⟨cls, dd, data, sl⟩, ho, hc, n, hd⟩, hs⟩ := I.tuple hT
  simp only at hc hd
  subst hc hd
  refine wpAny_binaryOp_repeat_ref (T := "tuple") (U := "int") (by decide) ⟨_, ho, rfl⟩ (fun s' => typeIs_int s' 1 t) noFill_tuple_mul F.fills_int_mul F.slot_int_rmul repeat_tuple F.slot_int_index.lookup
    (call_meets F.slot_int_rmul (typeIs_int s 1 t) F.entry_int_rmul (F.args_int_rmul_2 _ _) (int_rmul_tuple 1 t l as.toArray n dd sl)
      ⟨ho, rfl, ⟨_, ho, rfl⟩, call_meets F.slot_tuple_mul ⟨_, ho, rfl⟩ F.entry_tuple_mul (F.args_tuple_mul_2 _ _) (tuple_mulOne l as.toArray n dd sl t) ⟨ho, ?_⟩⟩)
  exact ⟨.ref l, H, I, rfl, q⟩
def dMulX : D → D → Out R0
  | .str x, .int k => if 0 ≤ k ∧ k ≤ 1000 ∧ x.length ≤ 1000 then .ok (.d (.str (repS x k))) else .no
  | .tup a, .int 1 => .ok (.d (.tup a))
  | x, y => dMul x y
variable {z : Z}
theorem od_mulX (hK : X.K = z.K) : OpD X z (binaryOp .Mult) dMulX := by
  obtain ⟨r, hr, hm⟩ := (od_mul (z := z) hK).run
  refine ⟨⟨_, op_mulStr.or (op_mulOne.or hr), fun G H x y dx dy Q e ix iy p => ?_⟩, fun x y c d => ?_⟩
  · unfold dMulX at p
    split at p
    · split at p
      · rename_i a k hl
        have := isStr ix
        exact .inl ⟨_, _, this, isInt iy, hl.1, hl.2.1, hl.2.2, p _ (.str _)⟩
      · exact p.elim
    · obtain ⟨p1, vs, rfl, hs, ia, hg⟩ := isTup e ix
      exact .inr (.inl ⟨p1, vs, rfl, isInt iy, by rw [hK]; exact hs, p _ (.tup hg ia)⟩)
    · exact .inr (.inr (hm G H x y _ _ Q e ix iy p))
  · unfold dMulX
    split
    · split <;> (intro h; cases h)
    · intro h; cases h
    · exact (od_mul (z := z) hK).nx _ _ _ _
end
end TN
namespace PL
open PySem PySem.Spec PyProof.Rows L2 TN
def b_beside : S := sCons (sExpr (fCall false m_check_web (aCons (fVar 0) (aNil)))) (sCons (sExpr (fCall false m_check_web (aCons (fVar 1) (aNil)))) (sCons (sIf (bOf (fBin (oI gGt) (fBin dAdd (fAt 0 0 (fVar 0)) (fAt 0 0 (fVar 1))) (fC (.int 10)))) (sNever) (sNil)) (sCons (sSet 2 (fLc (fSeq (fAt 0 1 (fVar 1))) (gT [3, 4]) (bYes) (fTup (aCons (fBin dAdd (fVar 3) (fAt 0 0 (fVar 0))) (aCons (fBin dAdd (fVar 4) (fAt 0 0 (fVar 0))) (aNil)))) [3, 4])) (sRet (fMk 0 m_Web (aCons (fBin dAdd (fAt 0 0 (fVar 0)) (fAt 0 0 (fVar 1))) (aCons (fBin dAdd (fAt 0 1 (fVar 0)) (fBi bTuple (aCons (fVar 2) (aNil)))) (aNil))))))))
def m_beside : Fn := fnOf false 5 b_beside
def b_rings_beside : S := sCons (sExpr (fCall false m_check_ring (aCons (fVar 0) (aNil)))) (sCons (sExpr (fCall false m_check_ring (aCons (fVar 1) (aNil)))) (sCons (sSet 2 (fBin (oI gDiv) (fBi bLen (aCons (fVar 0) (aNil))) (fC (.int 2)))) (sCons (sIf (bOf (fBin (oI gGt) (fBin dAdd (fVar 2) (fBin (oI gDiv) (fBi bLen (aCons (fVar 1) (aNil))) (fC (.int 2)))) (fC (.int 10)))) (sNever) (sNil)) (sRet (fBin dAdd (fVar 0) (fBi bTuple (aCons (fLc (fSeq (fVar 1)) (gN 3) (bYes) (fBin dAdd (fVar 3) (fVar 2)) [3]) (aNil))))))))
def m_rings_beside : Fn := fnOf false 4 b_rings_beside
def b__around_marker : S := sCons (sAsg (gT [1, 2]) (fCall false m__ends (aCons (fVar 0) (aCons (fBin (oI gMinus) (fBin (oI gDiv) (fBi bLen (aCons (fVar 0) (aNil))) (fC (.int 2))) (fC (.int 1))) (aNil))))) (sRet (fTup (aCons (fSl dSl (fVar 0) (oSome (fBin dAdd (fVar 1) (fC (.int 1)))) (oSome (fVar 2))) (aCons (fBin dAdd (fSl dSl (fVar 0) (oSome (fBin dAdd (fVar 2) (fC (.int 1)))) (oNone)) (fSl dSl (fVar 0) (oNone) (oSome (fVar 1)))) (aNil)))))
def m__around_marker : Fn := fnOf false 3 b__around_marker
def b_rings_joined : S := sCons (sExpr (fCall false m_check_ring (aCons (fVar 0) (aNil)))) (sCons (sExpr (fCall false m_check_ring (aCons (fVar 1) (aNil)))) (sCons (sIf (fNotB (fTru (fCall false m_is_ascending (aCons (fVar 2) (aCons (fBin (oI gPow) (fC (.int 10)) (fC (.int 60))) (aNil)))))) (sNever) (sNil)) (sCons (sIf (fOrB (bOf (fBin (dEq false) (fBi bLen (aCons (fVar 0) (aNil))) (fC (.int 2)))) (bOf (fBin (dEq false) (fBi bLen (aCons (fVar 1) (aNil))) (fC (.int 2))))) (sNever) (sNil)) (sCons (sSet 3 (fBin (oI gMinus) (fBin dAdd (fBin (oI gDiv) (fBi bLen (aCons (fVar 0) (aNil))) (fC (.int 2))) (fBin (oI gDiv) (fBi bLen (aCons (fVar 1) (aNil))) (fC (.int 2)))) (fC (.int 2)))) (sCons (sIf (fOrB (bOf (fBin (dEq true) (fBi bLen (aCons (fVar 2) (aNil))) (fBin (oI gMinus) (fBin (oI gDiv) (fBi bLen (aCons (fVar 0) (aNil))) (fC (.int 2))) (fC (.int 1))))) (fNotB (fTru (fCall false m_is_ascending (aCons (fVar 2) (aCons (fVar 3) (aNil))))))) (sNever) (sNil)) (sCons (sIf (bOf (fBin (oI gGt) (fVar 3) (fC (.int 10)))) (sNever) (sNil)) (sCons (sSet 4 (fCall false m_beyond_lot (aCons (fVar 3) (aCons (fVar 2) (aNil))))) (sCons (sAsg (gT [5, 6]) (fCall false m__around_marker (aCons (fVar 0) (aNil)))) (sCons (sAsg (gT [7, 8]) (fCall false m__around_marker (aCons (fVar 1) (aNil)))) (sRet (fBin dAdd (fBin dAdd (fBin dAdd (fCall false m__named (aCons (fVar 5) (aCons (fVar 2) (aNil)))) (fCall false m__named (aCons (fVar 7) (aCons (fVar 4) (aNil))))) (fCall false m__named (aCons (fVar 6) (aCons (fVar 2) (aNil))))) (fCall false m__named (aCons (fVar 8) (aCons (fVar 4) (aNil)))))))))))))))
def m_rings_joined : Fn := fnOf false 9 b_rings_joined
def b__law_near : S := sRet (fBi bSortedX (aCons (fLc (fSeq (fVar 0)) (gT [2, 3]) (bOf (fBin (dIn false) (fVar 1) (fTup (aCons (fVar 2) (aCons (fVar 3) (aNil)))))) (fBin (oI gMinus) (fBin dAdd (fVar 2) (fVar 3)) (fVar 1)) [2, 3]) (aNil)))
def m__law_near : Fn := fnOf false 4 b__law_near
def b__law_stretches : S := sCons (sAsg (gT [1, 2]) (fCall false m__law_ends (aCons (fVar 0) (aCons (fBi bMaxX (aCons (fVar 0) (aNil))) (aNil))))) (sRet (fTup (aCons (fSl dSl (fVar 0) (oSome (fBin dAdd (fVar 1) (fC (.int 1)))) (oSome (fVar 2))) (aCons (fBin dAdd (fSl dSl (fVar 0) (oSome (fBin dAdd (fVar 2) (fC (.int 1)))) (oNone)) (fSl dSl (fVar 0) (oNone) (oSome (fVar 1)))) (aNil)))))
def m__law_stretches : Fn := fnOf false 3 b__law_stretches
def b__law_joined_ties : S := sCons (sPar3 4 5 6 (fLst (aNil)) (fCall false m__law_ties (aCons (fVar 0) (aNil))) (fCall false m__law_ties (aCons (fVar 1) (aNil)))) (sCons (sFor (fSeq (fTup (aCons (fTup (aCons (fVar 5) (aCons (fVar 2) (aNil)))) (aCons (fTup (aCons (fVar 6) (aCons (fVar 3) (aNil)))) (aNil))))) (gT [7, 8]) (sExpr (fExt 4 (fLc (fSeq (fVar 7)) (gT [10, 11]) (bOf (fBin (oI gLt) (fVar 11) (fBi bLen (aCons (fVar 8) (aNil))))) (fBi bTuple (aCons (fBi bSortedX (aCons (fLst (aCons (fBin dIx (fVar 8) (fVar 10)) (aCons (fBin dIx (fVar 8) (fVar 11)) (aNil)))) (aNil))) (aNil))) [10, 11])))) (sCons (sFor (fSeq (fCall false m__law_near (aCons (fVar 5) (aCons (fBi bLen (aCons (fVar 2) (aNil))) (aNil))))) (gN 9) (sExpr (fExt 4 (fLc (fSeq (fCall false m__law_near (aCons (fVar 6) (aCons (fBi bLen (aCons (fVar 3) (aNil))) (aNil))))) (gN 12) (bYes) (fBi bTuple (aCons (fBi bSortedX (aCons (fLst (aCons (fBin dIx (fVar 2) (fVar 9)) (aCons (fBin dIx (fVar 3) (fVar 12)) (aNil)))) (aNil))) (aNil))) [12])))) (sRet (fBi bTuple (aCons (fBi bSortedX (aCons (fVar 4) (aNil))) (aNil))))))
def m__law_joined_ties : Fn := fnOf false 13 b__law_joined_ties
def b__law_right_k23 : S := sCons (sSet 1 (fBin dAdd (fC (.int 2)) (fCall true m__law_ball (aCons (fVar 0) (aCons (fC (.int 9)) (aNil)))))) (sCons (sPar 2 3 (fCall true m__law_ring (aCons (fVar 0) (aCons (fVar 1) (aNil)))) (fCall true m__law_ring (aCons (fVar 0) (aCons (fBin dAdd (fC (.int 2)) (fCall true m__law_ball (aCons (fVar 0) (aCons (fBin (oI gMinus) (fC (.int 11)) (fVar 1)) (aNil))))) (aNil))))) (sCons (sSet 4 (fBin (oI gMinus) (fBin dAdd (fBin (oI gDiv) (fBi bLen (aCons (fVar 2) (aNil))) (fC (.int 2))) (fBin (oI gDiv) (fBi bLen (aCons (fVar 3) (aNil))) (fC (.int 2)))) (fC (.int 2)))) (sCons (sSet 5 (fBi bTuple (aCons (fBi bSortedX (aCons (fSl dSl (fCall true m__law_mixed (aCons (fVar 0) (aCons (fLRg1 (fVar 4)) (aNil)))) (oNone) (oSome (fBin (oI gMinus) (fVar 1) (fC (.int 1))))) (aNil))) (aNil)))) (sCons (sSet 6 (fLc (fRng1 (aCons (fVar 4) (aNil))) (gN 16) (bOf (fBin (dIn true) (fVar 16) (fVar 5))) (fVar 16) [16])) (sCons (sSet 7 (fCall false m_rings_joined (aCons (fVar 2) (aCons (fVar 3) (aCons (fVar 5) (aNil)))))) (sCons (sAsg (gTn [(gT [8, 9]), (gT [10, 11])]) (fTup (aCons (fCall false m__law_stretches (aCons (fVar 2) (aNil))) (aCons (fCall false m__law_stretches (aCons (fVar 3) (aNil))) (aNil))))) (sCons (sSet 12 (fBin dAdd (fLc (fSeq (fVar 8)) (gN 16) (bYes) (fBin dIx (fVar 5) (fVar 16)) [16]) (fLc (fSeq (fVar 10)) (gN 16) (bYes) (fBin dIx (fVar 6) (fVar 16)) [16]))) (sCons (sSet 12 (fBin dAdd (fBin dAdd (fVar 12) (fLc (fSeq (fVar 9)) (gN 16) (bYes) (fBin dIx (fVar 5) (fVar 16)) [16])) (fLc (fSeq (fVar 11)) (gN 16) (bYes) (fBin dIx (fVar 6) (fVar 16)) [16]))) (sCons (sIf (fOrB (bOf (fBin (dEq true) (fVar 7) (fBi bTuple (aCons (fVar 12) (aNil))))) (bOf (fEqO 0 m_Web_eq true (fCall false m_web_of (aCons (fVar 7) (aNil))) (fMk 0 m_Web (aCons (fVar 4) (aCons (fCall false m__law_joined_ties (aCons (fVar 2) (aCons (fVar 3) (aCons (fVar 5) (aCons (fVar 6) (aNil)))))) (aNil))))))) (sRet (fC (.bl false))) (sNil)) (sCons (sSet 13 (fCall true m__law_ring (aCons (fVar 0) (aCons (fBin dAdd (fC (.int 1)) (fCall true m__law_ball (aCons (fVar 0) (aCons (fC (.int 9)) (aNil))))) (aNil))))) (sCons (sSet 14 (fCall true m__law_ring (aCons (fVar 0) (aCons (fBin dAdd (fC (.int 1)) (fCall true m__law_ball (aCons (fVar 0) (aCons (fBin (oI gMinus) (fC (.int 10)) (fBin (oI gDiv) (fBi bLen (aCons (fVar 13) (aNil))) (fC (.int 2)))) (aNil))))) (aNil))))) (sCons (sSet 15 (fCall false m_rings_beside (aCons (fVar 13) (aCons (fVar 14) (aNil))))) (sCons (sIf (bOf (fBin (dEq true) (fVar 15) (fBin dAdd (fVar 13) (fBi bTuple (aCons (fLc (fSeq (fVar 14)) (gN 16) (bYes) (fBin dAdd (fVar 16) (fBin (oI gDiv) (fBi bLen (aCons (fVar 13) (aNil))) (fC (.int 2)))) [16]) (aNil)))))) (sRet (fC (.bl false))) (sNil)) (sRet (fEqO 0 m_Web_eq false (fCall false m_web_of (aCons (fVar 15) (aNil))) (fCall false m_beside (aCons (fCall false m_web_of (aCons (fVar 13) (aNil))) (aCons (fCall false m_web_of (aCons (fVar 14) (aNil))) (aNil)))))))))))))))))))
def m__law_right_k23 : Fn := fnOf true 17 b__law_right_k23
def b_law_k23 : S := sCons (sFor (fRng1 (aCons (fBi bMaxX (aCons (fC (.int 1)) (aCons (fBi bMinX (aCons (fC (.int 3)) (aCons (fBi bLen (aCons (fVar 0) (aNil))) (aNil)))) (aNil)))) (aNil))) (gN 1) (sCons (sSet 2 (fCall false m__law_urn (aCons (fVar 0) (aCons (fVar 1) (aNil))))) (sFor (fRng1 (aCons (fC (.int 8)) (aNil))) (gN 3) (sIf (fNotB (fTru (fCall true m__law_right_k23 (aCons (fVar 2) (aNil))))) (sRet (fC (.bl false))) (sNil))))) (sCons (sIf (bOf (fBin (dEq true) (fCall false m_rings_joined (aCons (fTup (aCons (fC (.int 0)) (aCons (fC (.int 2)) (aCons (fC (.int 1)) (aCons (fC (.int 2)) (aCons (fC (.int 0)) (aCons (fC (.int 1)) (aNil)))))))) (aCons (fTup (aCons (fC (.int 0)) (aCons (fC (.int 1)) (aCons (fC (.int 0)) (aCons (fC (.int 1)) (aNil)))))) (aCons (fTup (aCons (fC (.int 0)) (aCons (fC (.int 2)) (aNil)))) (aNil))))) (fTup (aCons (fC (.int 2)) (aCons (fC (.int 1)) (aCons (fC (.int 0)) (aCons (fC (.int 2)) (aCons (fC (.int 0)) (aCons (fC (.int 1)) (aNil)))))))))) (sRet (fC (.bl false))) (sNil)) (sCons (sIf (bOf (fBin (dEq true) (fCall false m_rings_beside (aCons (fTup (aCons (fC (.int 0)) (aCons (fC (.int 0)) (aNil)))) (aCons (fTup (aCons (fC (.int 0)) (aCons (fC (.int 1)) (aCons (fC (.int 0)) (aCons (fC (.int 1)) (aNil)))))) (aNil)))) (fTup (aCons (fC (.int 0)) (aCons (fC (.int 0)) (aCons (fC (.int 1)) (aCons (fC (.int 2)) (aCons (fC (.int 1)) (aCons (fC (.int 2)) (aNil)))))))))) (sRet (fC (.bl false))) (sNil)) (sCons (sIf (fNotB (fTru (fCall false (m__law_is_plain 8) (aCons (fTup (aCons (fCall false m_rings_joined (aCons (fTup (aCons (fC (.int 0)) (aCons (fC (.int 1)) (aCons (fC (.int 0)) (aCons (fC (.int 1)) (aNil)))))) (aCons (fTup (aCons (fC (.int 1)) (aCons (fC (.int 0)) (aCons (fC (.int 1)) (aCons (fC (.int 0)) (aNil)))))) (aCons (fTup (aCons (fC (.int 1)) (aNil))) (aNil))))) (aCons (fCall false m_rings_beside (aCons (fTup (aCons (fC (.int 0)) (aCons (fC (.int 0)) (aNil)))) (aCons (fTup (aCons (fC (.int 0)) (aCons (fC (.int 1)) (aCons (fC (.int 0)) (aCons (fC (.int 1)) (aNil)))))) (aNil)))) (aNil)))) (aNil))))) (sRet (fC (.bl false))) (sNil)) (sRet (fBin (dEq false) (fCall false m_rings_joined (aCons (fTup (aCons (fC (.int 0)) (aCons (fC (.int 1)) (aCons (fC (.int 0)) (aCons (fC (.int 1)) (aNil)))))) (aCons (fTup (aCons (fC (.int 1)) (aCons (fC (.int 0)) (aCons (fC (.int 1)) (aCons (fC (.int 0)) (aNil)))))) (aCons (fTup (aCons (fC (.int 1)) (aNil))) (aNil))))) (fTup (aCons (fC (.int 1)) (aCons (fC (.int 0)) (aCons (fC (.int 1)) (aCons (fC (.int 0)) (aNil)))))))))))
def m_law_k23 : Fn := fnOf false 4 b_law_k23
end PL
namespace PL
open PySem PySem.Spec PyProof.Rows L2 TN RM
/-! ### names in an ascending tuple -/
section
variable {o : List Int} {k a b x : Int}
theorem nth_get (h0 : 0 ≤ k) (h1 : k < o.length) : ∃ h : k.toNat < o.length, nth o k = o[k.toNat] := ⟨by omega, by
  unfold nth
  rw [List.getD_eq_getElem?_getD, List.getElem?_eq_getElem (show k.toNat < o.length by omega)]
  rfl⟩
theorem nth_at (h0 : 0 ≤ k) (h1 : k < o.length) : atI (o.map D.int) k = some (.int (nth o k)) := by
  obtain ⟨h, e⟩ := nth_get h0 h1
  obtain ⟨j, rfl⟩ : ∃ j : Nat, k = j := ⟨k.toNat, by omega⟩
  refine atI_nat ?_
  rw [e, List.getElem?_map, List.getElem?_eq_getElem (show j < o.length by omega)]
  rfl
theorem nth_mem (h0 : 0 ≤ k) (h1 : k < o.length) : nth o k ∈ o := by
  obtain ⟨h, e⟩ := nth_get h0 h1
  rw [e]
  exact List.getElem_mem _
theorem nth_lt (h : o.Pairwise (· < ·)) (h0 : 0 ≤ a) (h1 : b < o.length) (l : a < b) : nth o a < nth o b := by
  obtain ⟨ha, ea⟩ := nth_get (o := o) h0 (show a < o.length by omega)
  obtain ⟨hb, eb⟩ := nth_get (o := o) (show 0 ≤ b by omega) h1
  rw [ea, eb]
  exact List.pairwise_iff_getElem.mp h _ _ ha hb (by omega)
theorem nth_inj (h : o.Pairwise (· < ·)) (a0 : 0 ≤ a) (a1 : a < o.length) (b0 : 0 ≤ b) (b1 : b < o.length) (e : nth o a = nth o b) : a = b := by
  rcases Int.lt_trichotomy a b with l | l | l
  · have := nth_lt h a0 b1 l; omega
  · exact l
  · have := nth_lt h b0 a1 l; omega
theorem nth_lt' (h : o.Pairwise (· < ·)) (a0 : 0 ≤ a) (a1 : a < o.length) (b0 : 0 ≤ b) (b1 : b < o.length) (e : nth o a < nth o b) : a < b := by
  rcases Int.lt_trichotomy a b with l | l | l
  · exact l
  · subst l; omega
  · have := nth_lt h b0 a1 l; omega
theorem nth_of (m : x ∈ o) : ∃ k : Int, 0 ≤ k ∧ k < o.length ∧ nth o k = x := by
  obtain ⟨i, hi, e⟩ := List.getElem_of_mem m
  refine ⟨i, by omega, by omega, ?_⟩
  obtain ⟨h, e'⟩ := nth_get (o := o) (k := i) (by omega) (by omega)
  rw [e', ← e]
  rfl
theorem map_nth' {n : Int} (hl : o.length = n.toNat) : (rngI n).map (nth o) = o := by
  apply List.ext_getElem?
  intro i
  rw [List.getElem?_map]
  unfold rngI
  rw [List.getElem?_map]
  by_cases hi : i < o.length
  · rw [List.getElem?_range (by omega), List.getElem?_eq_getElem hi]
    simp only [Option.map_some, nth]
    rw [List.getD_eq_getElem?_getD, Int.toNat_natCast, List.getElem?_eq_getElem hi]
    rfl
  · rw [List.getElem?_eq_none (show (List.range n.toNat).length ≤ i by rw [List.length_range]; omega), List.getElem?_eq_none (show o.length ≤ i by omega)]
    rfl
end
/-! ### a ring around its marker -/
structure Around (n : Int) (g M B : List Int) : Prop where
  ring : RingN n g
  ge : 2 ≤ n
  perm : (M ++ B).Perm (two (n - 1))
  same : ∀ i j, 0 ≤ i → i < n - 1 → 0 ≤ j → j < n - 1 → cr (M ++ B) i j = cr g i j
  cross : ∀ i, 0 ≤ i → i < n - 1 → cr g i (n - 1) = (M.count i == 1)
theorem two_last {n : Int} (h : 1 ≤ n) : (two n).filter (fun x => decide (x ≠ n - 1)) = two (n - 1) := by
  have e : rngI n = rngI (n - 1) ++ [n - 1] := by
    rw [rng_cut (n := n) (k := n - 1) ⟨by omega, by omega⟩, show (n - (n - 1 + 1)).toNat = 0 by omega]
    rfl
  have f : (rngI n).filter (fun x => decide (x ≠ n - 1)) = rngI (n - 1) := by
    rw [e, List.filter_append, List.filter_eq_self.mpr (fun x m => by have := rngI_mem m; simp; omega)]
    simp
  rw [two_eq, two_eq, List.filter_append, f]
theorem around_of {n : Int} {g P M S : List Int} (h : RingN n g) (h2 : 2 ≤ n) (e : g = P ++ (n - 1) :: (M ++ (n - 1) :: S)) (hP : n - 1 ∉ P) (hM : n - 1 ∉ M) (hS : n - 1 ∉ S) : Around n g M (S ++ P) := by
  have ff : g.filter (fun x => decide (x ≠ n - 1)) = P ++ (M ++ S) := by
    have self : ∀ l : List Int, n - 1 ∉ l → l.filter (fun x => decide (x ≠ n - 1)) = l := fun l hl => List.filter_eq_self.mpr fun x m => by
      have : x ≠ n - 1 := fun w => hl (w ▸ m)
      simpa using this
    rw [e, List.filter_append, List.filter_cons_of_neg (by simp), List.filter_append, List.filter_cons_of_neg (by simp), self P hP, self M hM, self S hS]
  have pp : (P ++ (M ++ S)).Perm (two (n - 1)) := by
    rw [← ff, ← two_last (by omega)]
    exact h.perm.filter _
  have p2 : (M ++ (S ++ P)).Perm (P ++ (M ++ S)) := by
    rw [← List.append_assoc]
    exact List.perm_append_comm
  refine ⟨h, h2, p2.trans pp, fun i j i0 i1 j0 j1 => ?_, fun i i0 i1 => ?_⟩
  · have ci : (P ++ (M ++ S)).count i = 2 := by rw [pp.count_eq, two_count ⟨i0, i1⟩]
    have cj : (P ++ (M ++ S)).count j = 2 := by rw [pp.count_eq, two_count ⟨j0, j1⟩]
    have a := cr_about ci cj
    rw [← List.append_assoc, a, ← ff]
    exact cr_filter (by simp; omega) (by simp; omega) (h.count ⟨i0, by omega⟩)
  · rw [cr_sym (h.count ⟨i0, by omega⟩) (h.count ⟨by omega, by omega⟩)]
    unfold cr
    rw [e, btwn_of hP hM]
theorem Around.mem {n : Int} {g M B : List Int} (h : Around n g M B) {x : Int} (m : x ∈ M ++ B) : 0 ≤ x ∧ x < n - 1 := by
  have := h.perm.mem_iff.mp m
  rw [two_eq] at this
  rcases List.mem_append.mp this with q | q <;> exact rngI_mem q
theorem Around.count {n : Int} {g M B : List Int} (h : Around n g M B) {x : Int} (h0 : 0 ≤ x) (h1 : x < n - 1) : M.count x + B.count x = 2 := by
  rw [← List.count_append, h.perm.count_eq, two_count ⟨h0, h1⟩]
/-! ### the joined ring -/
structure Lots (n n1 n2 : Int) (lot rest : List Int) : Prop where
  isLot : LotN n lot
  rest : rest = (rngI n).filter fun x => !lot.contains x
  len : (lot.length : Int) = n1 - 1
  sum : n = n1 + n2 - 2
def joinR (lot rest M B M' B' : List Int) : List Int := M.map (nth lot) ++ (M'.map (nth rest) ++ (B.map (nth lot) ++ B'.map (nth rest)))
section
variable {n n1 n2 : Int} {lot rest x y M B M' B' : List Int}
theorem Lots.mem_rest (l : Lots n n1 n2 lot rest) {a : Int} : a ∈ rest ↔ (0 ≤ a ∧ a < n) ∧ a ∉ lot := by
  rw [l.rest, List.mem_filter, mem_rngI]
  simp
theorem Lots.asc_rest (l : Lots n n1 n2 lot rest) : rest.Pairwise (· < ·) := by rw [l.rest]; exact (rngI_lt n).filter _
theorem Lots.perm (l : Lots n n1 n2 lot rest) : (lot ++ rest).Perm (rngI n) := by
  refine perm_of_mem (List.nodup_append.mpr ⟨l.isLot.asc.imp fun h e => by omega, l.asc_rest.imp fun h e => by omega, fun a ha b hb e => ?_⟩) (rngI_nodup n) fun p => ?_
  · subst e
    exact (l.mem_rest.mp hb).2 ha
  · rw [List.mem_append, l.mem_rest, mem_rngI]
    constructor
    · rintro (h | h)
      · exact l.isLot.mem p h
      · exact h.1
    · intro h
      by_cases q : p ∈ lot
      · exact .inl q
      · exact .inr ⟨h, q⟩
theorem Lots.len_rest (l : Lots n n1 n2 lot rest) (h0 : 0 ≤ n) : (rest.length : Int) = n2 - 1 := by
  have := l.perm.length_eq
  rw [List.length_append, rngI_length] at this
  have := l.len
  have := l.sum
  omega
theorem join_ring (l : Lots n n1 n2 lot rest) (hx : Around n1 x M B) (hy : Around n2 y M' B') (hi : n ≤ 10) : RingN n (joinR lot rest M B M' B') := by
  have x2 := hx.ge
  have y2 := hy.ge
  have su := l.sum
  have ll := l.len
  have lr := l.len_rest (by omega)
  refine ⟨?_, by omega, hi⟩
  have p1 : (M.map (nth lot) ++ B.map (nth lot)).Perm (lot ++ lot) := by
    rw [← List.map_append]
    refine (hx.perm.map _).trans ?_
    rw [two_eq, List.map_append, map_nth' (by omega)]
  have p2 : (M'.map (nth rest) ++ B'.map (nth rest)).Perm (rest ++ rest) := by
    rw [← List.map_append]
    refine (hy.perm.map _).trans ?_
    rw [two_eq, List.map_append, map_nth' (by omega)]
  have q := l.perm
  rw [List.perm_iff_count] at p1 p2 q ⊢
  intro a
  have a1 := p1 a
  have a2 := p2 a
  have a3 := q a
  rw [two_eq]
  unfold joinR
  simp only [List.count_append] at a1 a2 a3 ⊢
  omega
theorem Around.lotmem (hx : Around n1 x M B) (ll : (lot.length : Int) = n1 - 1) : ∀ z, z ∈ M.map (nth lot) ∨ z ∈ B.map (nth lot) → z ∈ lot := fun z h => by
  have : z ∈ (M ++ B).map (nth lot) := by rw [List.map_append, List.mem_append]; exact h
  obtain ⟨i, hi, rfl⟩ := List.mem_map.mp this
  have := hx.mem hi
  exact nth_mem this.1 (by omega)
theorem cr_part {g P Q R T f : List Int} {p : Int → Bool} {i j : Int} (hx : Around n1 x M B) (asc : f.Pairwise (· < ·)) (ll : (f.length : Int) = n1 - 1)
    (e : g.filter p = M.map (nth f) ++ B.map (nth f)) (pi : p (nth f i) = true) (pj : p (nth f j) = true) (c : g.count (nth f i) = 2) (i0 : 0 ≤ i) (i1 : i < n1 - 1) (j0 : 0 ≤ j) (j1 : j < n1 - 1) :
    cr g (nth f i) (nth f j) = cr x i j := by
  rw [← hx.same i j i0 i1 j0 j1, ← cr_filter pi pj c, e, ← List.map_append]
  refine cr_map (fun z m w => ?_) (fun z m w => ?_) (by rw [List.count_append]; exact hx.count i0 i1)
  · have := hx.mem m
    exact nth_inj asc this.1 (by omega) i0 (by omega) w
  · have := hx.mem m
    exact nth_inj asc this.1 (by omega) j0 (by omega) w
theorem filter_all {p : Int → Bool} {a : List Int} (h : ∀ z ∈ a, p z = true) : a.filter p = a := List.filter_eq_self.mpr h
theorem filter_none {p : Int → Bool} {a : List Int} (h : ∀ z ∈ a, p z = false) : a.filter p = [] := List.filter_eq_nil_iff.mpr fun z m => by rw [h z m]; simp
theorem cr_lot (l : Lots n n1 n2 lot rest) (hx : Around n1 x M B) (hy : Around n2 y M' B') (hi : n ≤ 10) {i j : Int} (i0 : 0 ≤ i) (i1 : i < n1 - 1) (j0 : 0 ≤ j) (j1 : j < n1 - 1) : cr (joinR lot rest M B M' B') (nth lot i) (nth lot j) = cr x i j := by
  have x2 := hx.ge
  have y2 := hy.ge
  have su := l.sum
  have ll := l.len
  have lr := l.len_rest (by omega)
  have h1 := hx.lotmem ll
  have h2 := hy.lotmem lr
  have hr := join_ring l hx hy hi
  have mi := nth_mem (o := lot) i0 (by omega)
  have mj := nth_mem (o := lot) j0 (by omega)
  refine cr_part (p := fun z => lot.contains z) (P := []) (Q := []) (R := []) (T := []) hx l.isLot.asc ll ?_ (by simpa using mi) (by simpa using mj) (hr.count (l.isLot.mem _ mi)) i0 i1 j0 j1
  unfold joinR
  rw [List.filter_append, List.filter_append, List.filter_append, filter_all (fun z m => by simpa using h1 z (.inl m)), filter_none (fun z m => by simpa using (l.mem_rest.mp (h2 z (.inl m))).2), filter_all (fun z m => by simpa using h1 z (.inr m)), filter_none (fun z m => by simpa using (l.mem_rest.mp (h2 z (.inr m))).2)]
  simp
theorem cr_rest (l : Lots n n1 n2 lot rest) (hx : Around n1 x M B) (hy : Around n2 y M' B') (hi : n ≤ 10) {i j : Int} (i0 : 0 ≤ i) (i1 : i < n2 - 1) (j0 : 0 ≤ j) (j1 : j < n2 - 1) : cr (joinR lot rest M B M' B') (nth rest i) (nth rest j) = cr y i j := by
  have x2 := hx.ge
  have y2 := hy.ge
  have su := l.sum
  have ll := l.len
  have lr := l.len_rest (by omega)
  have h1 := hx.lotmem ll
  have h2 := hy.lotmem lr
  have hr := join_ring l hx hy hi
  have mi := nth_mem (o := rest) i0 (by omega)
  have mj := nth_mem (o := rest) j0 (by omega)
  refine cr_part (p := fun z => !lot.contains z) (P := []) (Q := []) (R := []) (T := []) hy l.asc_rest lr ?_ (by simpa using (l.mem_rest.mp mi).2) (by simpa using (l.mem_rest.mp mj).2) (hr.count (l.mem_rest.mp mi).1) i0 i1 j0 j1
  unfold joinR
  rw [List.filter_append, List.filter_append, List.filter_append, filter_none (fun z m => by simpa using h1 z (.inl m)), filter_all (fun z m => by simpa using (l.mem_rest.mp (h2 z (.inl m))).2), filter_none (fun z m => by simpa using h1 z (.inr m)), filter_all (fun z m => by simpa using (l.mem_rest.mp (h2 z (.inr m))).2)]
  simp
theorem enc_only {a b : Int} (h : a ≠ b) : ∀ {l : List Int}, b ∉ l → enc [a, b] l = List.replicate (l.count a) 0
  | [], _ => rfl
  | z :: l, hb => by
    have hz : z ≠ b := fun w => hb (w ▸ List.mem_cons_self)
    have ih := enc_only h (l := l) fun m => hb (List.mem_cons_of_mem _ m)
    rw [enc_cons]
    by_cases e : z = a
    · subst e
      rw [List.count_cons_self, List.replicate_succ, ← ih]
      simp [List.findIdx?_cons]
    · rw [List.count_cons_of_ne e, ← ih]
      simp [List.findIdx?_cons, Ne.symm e, Ne.symm hz]
theorem enc_only' {a b : Int} (h : a ≠ b) : ∀ {l : List Int}, a ∉ l → enc [a, b] l = List.replicate (l.count b) 1
  | [], _ => rfl
  | z :: l, hb => by
    have hz : z ≠ a := fun w => hb (w ▸ List.mem_cons_self)
    have ih := enc_only' h (l := l) fun m => hb (List.mem_cons_of_mem _ m)
    rw [enc_cons]
    by_cases e : z = b
    · subst e
      rw [List.count_cons_self, List.replicate_succ, ← ih]
      simp [List.findIdx?_cons, Ne.symm hz]
    · rw [List.count_cons_of_ne e, ← ih]
      simp [List.findIdx?_cons, Ne.symm e, Ne.symm hz]
theorem word_cr : ∀ p, p < 3 → ∀ q, q < 3 → cr (List.replicate p 0 ++ (List.replicate q 1 ++ (List.replicate (2 - p) 0 ++ List.replicate (2 - q) 1))) 0 1 = (p == 1 && q == 1) := by decide +kernel
theorem cr_cross (l : Lots n n1 n2 lot rest) (hx : Around n1 x M B) (hy : Around n2 y M' B') (hi : n ≤ 10) {i j : Int} (i0 : 0 ≤ i) (i1 : i < n1 - 1) (j0 : 0 ≤ j) (j1 : j < n2 - 1) :
    cr (joinR lot rest M B M' B') (nth lot i) (nth rest j) = (cr x i (n1 - 1) && cr y j (n2 - 1)) := by
  have x2 := hx.ge
  have y2 := hy.ge
  have su := l.sum
  have ll := l.len
  have lr := l.len_rest (by omega)
  have h1 := hx.lotmem ll
  have h2 := hy.lotmem lr
  have hr := join_ring l hx hy hi
  have mi := nth_mem (o := lot) i0 (by omega)
  have mj := nth_mem (o := rest) j0 (by omega)
  have ne : nth lot i ≠ nth rest j := fun w => (l.mem_rest.mp mj).2 (w ▸ mi)
  have nr : ∀ z, z ∈ M.map (nth lot) ∨ z ∈ B.map (nth lot) → z ≠ nth rest j := fun z m w => (l.mem_rest.mp mj).2 (w ▸ h1 z m)
  have nl : ∀ z, z ∈ M'.map (nth rest) ∨ z ∈ B'.map (nth rest) → z ≠ nth lot i := fun z m w => (l.mem_rest.mp (h2 z m)).2 (w ▸ mi)
  have cx := hx.count i0 i1
  have cy := hy.count j0 j1
  have k1 : (M.map (nth lot)).count (nth lot i) = M.count i := count_map_inj fun z m w => by
    have := hx.mem (List.mem_append_left _ m)
    exact nth_inj l.isLot.asc this.1 (by omega) i0 (by omega) w
  have k2 : (B.map (nth lot)).count (nth lot i) = B.count i := count_map_inj fun z m w => by
    have := hx.mem (List.mem_append_right _ m)
    exact nth_inj l.isLot.asc this.1 (by omega) i0 (by omega) w
  have k3 : (M'.map (nth rest)).count (nth rest j) = M'.count j := count_map_inj fun z m w => by
    have := hy.mem (List.mem_append_left _ m)
    exact nth_inj l.asc_rest this.1 (by omega) j0 (by omega) w
  have k4 : (B'.map (nth rest)).count (nth rest j) = B'.count j := count_map_inj fun z m w => by
    have := hy.mem (List.mem_append_right _ m)
    exact nth_inj l.asc_rest this.1 (by omega) j0 (by omega) w
  rw [← enc_cr (ns := [nth lot i, nth rest j]) (i := 0) (j := 1) (nd2 ne) rfl rfl (hr.count (l.isLot.mem _ mi)), hx.cross i i0 i1, hy.cross j j0 j1]
  unfold joinR
  rw [enc_app, enc_app, enc_app, enc_only ne (fun m => nr _ (.inl m) rfl), enc_only' ne (fun m => nl _ (.inl m) rfl), enc_only ne (fun m => nr _ (.inr m) rfl), enc_only' ne (fun m => nl _ (.inr m) rfl), k1, k2, k3, k4,
    show B.count i = 2 - M.count i by omega, show B'.count j = 2 - M'.count j by omega]
  exact word_cr _ (by omega) _ (by omega)
end
end PL
namespace PL
open PySem PySem.Spec PyProof.Rows L2 TN RM
def pr (o : List Int) (p : Int × Int) : Int × Int := (nth o p.1, nth o p.2)
def mm (u v : Int) : Int × Int := (min u v, max u v)
structure NearN (n : Int) (x N : List Int) : Prop where
  nd : N.Nodup
  mem : ∀ a, a ∈ N ↔ (0 ≤ a ∧ a < n - 1) ∧ cr x a (n - 1) = true
def own (o : List Int) (n : Int) (x : List Int) : List (Int × Int) := ((tiesOf n (cr x)).filter fun p => decide (p.2 < (o.length : Int))).map (pr o)
def mix (lot rest N N' : List Int) : List (Int × Int) := N.flatMap fun a => N'.map fun b => mm (nth lot a) (nth rest b)
section
variable {n n1 n2 : Int} {lot rest x y M B M' B' N N' : List Int}
theorem own_mem {o : List Int} {p : Int × Int} : p ∈ own o n x ↔ ∃ i j, 0 ≤ i ∧ i < j ∧ j < n ∧ j < (o.length : Int) ∧ cr x i j = true ∧ p = (nth o i, nth o j) := by
  unfold own
  rw [List.mem_map]
  constructor
  · rintro ⟨q, hq, rfl⟩
    obtain ⟨hq, hl⟩ := List.mem_filter.mp hq
    obtain ⟨⟨a, b, c⟩, d⟩ := mem_ties.mp hq
    exact ⟨q.1, q.2, a, b, c, by simpa using hl, d, rfl⟩
  · rintro ⟨i, j, a, b, c, d, e, rfl⟩
    exact ⟨(i, j), List.mem_filter.mpr ⟨mem_ties.mpr ⟨⟨a, b, c⟩, e⟩, by simpa using d⟩, rfl⟩
theorem own_nodup {o : List Int} (h0 : 1 ≤ n) (h1 : n ≤ 10) (asc : o.Pairwise (· < ·)) : (own o n x).Nodup := by
  refine nodup_plt ?_
  unfold own
  rw [List.pairwise_map]
  have w := tiesOf_web h0 h1 (cr x)
  refine List.Pairwise.imp_of_mem (fun {p q} hp hq l => ?_) (w.asc.filter _)
  obtain ⟨hp, lp⟩ := List.mem_filter.mp hp
  obtain ⟨hq, lq⟩ := List.mem_filter.mp hq
  have op := w.ok p hp
  have oq := w.ok q hq
  simp only [decide_eq_true_eq] at lp lq
  rcases l with l | ⟨l1, l2⟩
  · exact .inl (nth_lt asc op.1 (by omega) l)
  · exact .inr ⟨by unfold pr; rw [l1], nth_lt asc (by omega) lq l2⟩
theorem mm_inj {u v u' v' : Int} (h : mm u v = mm u' v') : (u = u' ∧ v = v') ∨ (u = v' ∧ v = u') := by
  have e1 := congrArg Prod.fst h
  have e2 := congrArg Prod.snd h
  simp only [mm] at e1 e2
  omega
theorem mix_mem {p : Int × Int} : p ∈ mix lot rest N N' ↔ ∃ a ∈ N, ∃ b ∈ N', p = mm (nth lot a) (nth rest b) := by
  unfold mix
  rw [List.mem_flatMap]
  constructor
  · rintro ⟨a, ha, h⟩
    obtain ⟨b, hb, rfl⟩ := List.mem_map.mp h
    exact ⟨a, ha, b, hb, rfl⟩
  · rintro ⟨a, ha, b, hb, rfl⟩
    exact ⟨a, ha, List.mem_map.mpr ⟨b, hb, rfl⟩⟩
theorem mix_nodup (l : Lots n n1 n2 lot rest) (h0 : 0 ≤ n) (h : NearN n1 x N) (h' : NearN n2 y N') : (mix lot rest N N').Nodup := by
  have ll := l.len
  have lr := l.len_rest h0
  show List.Pairwise (· ≠ ·) _
  unfold mix
  rw [List.pairwise_flatMap]
  refine ⟨fun a ha => ?_, ?_⟩
  · rw [List.pairwise_map]
    refine List.Pairwise.imp_of_mem (fun {b c} hb hc ne w => ?_) h'.nd
    have b1 := ((h'.mem b).mp hb).1
    have c1 := ((h'.mem c).mp hc).1
    have a1 := ((h.mem a).mp ha).1
    rcases mm_inj w with ⟨_, q⟩ | ⟨q, _⟩
    · exact ne (nth_inj l.asc_rest b1.1 (by omega) c1.1 (by omega) q)
    · have m1 := nth_mem (o := lot) a1.1 (by omega)
      have m2 := nth_mem (o := rest) c1.1 (by omega)
      exact (l.mem_rest.mp m2).2 (q ▸ m1)
  · refine List.Pairwise.imp_of_mem (fun {a c} ha hc ne p hp q hq w => ?_) h.nd
    obtain ⟨b, hb, rfl⟩ := List.mem_map.mp hp
    obtain ⟨d, hd, rfl⟩ := List.mem_map.mp hq
    have b1 := ((h'.mem b).mp hb).1
    have d1 := ((h'.mem d).mp hd).1
    have a1 := ((h.mem a).mp ha).1
    have c1 := ((h.mem c).mp hc).1
    rcases mm_inj w with ⟨q, _⟩ | ⟨q, _⟩
    · exact ne (nth_inj l.isLot.asc a1.1 (by omega) c1.1 (by omega) q)
    · have m1 := nth_mem (o := lot) a1.1 (by omega)
      have m2 := nth_mem (o := rest) d1.1 (by omega)
      exact (l.mem_rest.mp m2).2 (q ▸ m1)
theorem found_perm (l : Lots n n1 n2 lot rest) (hx : Around n1 x M B) (hy : Around n2 y M' B') (hi : n ≤ 10) (h : NearN n1 x N) (h' : NearN n2 y N') :
    (own lot n1 x ++ own rest n2 y ++ mix lot rest N N').Perm (tiesOf n (cr (joinR lot rest M B M' B'))) := by
  have x2 := hx.ge
  have y2 := hy.ge
  have su := l.sum
  have ll := l.len
  have lr := l.len_rest (by omega)
  have hr := join_ring l hx hy hi
  have inL : ∀ i, 0 ≤ i → i < n1 - 1 → nth lot i ∈ lot := fun i a b => nth_mem a (by omega)
  have inR' : ∀ i, 0 ≤ i → i < n2 - 1 → nth rest i ∈ rest := fun i a b => nth_mem a (by omega)
  have o1 : ∀ p ∈ own lot n1 x, p.1 ∈ lot ∧ p.2 ∈ lot := fun p m => by
    obtain ⟨i, j, a, b, c, d, e, rfl⟩ := own_mem.mp m
    exact ⟨inL _ a (by omega), inL _ (by omega) (by omega)⟩
  have o2 : ∀ p ∈ own rest n2 y, p.1 ∈ rest ∧ p.2 ∈ rest := fun p m => by
    obtain ⟨i, j, a, b, c, d, e, rfl⟩ := own_mem.mp m
    exact ⟨inR' _ a (by omega), inR' _ (by omega) (by omega)⟩
  have o3 : ∀ p ∈ mix lot rest N N', (p.1 ∈ lot ∧ p.2 ∈ rest) ∨ (p.1 ∈ rest ∧ p.2 ∈ lot) := fun p m => by
    obtain ⟨a, ha, b, hb, rfl⟩ := mix_mem.mp m
    have a1 := ((h.mem a).mp ha).1
    have b1 := ((h'.mem b).mp hb).1
    have m1 := inL _ a1.1 (by omega)
    have m2 := inR' _ b1.1 (by omega)
    unfold mm
    rcases Int.le_total (nth lot a) (nth rest b) with q | q
    · rw [Int.min_eq_left q, Int.max_eq_right q]; exact .inl ⟨m1, m2⟩
    · rw [Int.min_eq_right q, Int.max_eq_left q]; exact .inr ⟨m2, m1⟩
  have no : ∀ z, z ∈ lot → z ∈ rest → False := fun z a b => (l.mem_rest.mp b).2 a
  refine perm_of_mem ?_ (nodup_plt (tiesOf_web hr.lo hi _).asc) fun p => ?_
  · refine List.nodup_append.mpr ⟨List.nodup_append.mpr ⟨own_nodup hx.ring.lo hx.ring.hi l.isLot.asc, own_nodup hy.ring.lo hy.ring.hi l.asc_rest, fun p hp q hq w => ?_⟩, mix_nodup l (by omega) h h', fun p hp q hq w => ?_⟩
    · subst w
      exact no _ (o1 p hp).1 (o2 p hq).1
    · subst w
      rcases List.mem_append.mp hp with hp | hp
      · have a := o1 p hp
        rcases o3 p hq with b | b
        · exact no _ a.2 b.2
        · exact no _ a.1 b.1
      · have a := o2 p hp
        rcases o3 p hq with b | b
        · exact no _ b.1 a.1
        · exact no _ b.2 a.2
  · rw [List.mem_append, List.mem_append, own_mem, own_mem, mix_mem, mem_ties]
    constructor
    · rintro ((⟨i, j, a, b, c, d, e, rfl⟩ | ⟨i, j, a, b, c, d, e, rfl⟩) | ⟨a, ha, b, hb, rfl⟩)
      · have m1 := l.isLot.mem _ (inL i a (by omega))
        have m2 := l.isLot.mem _ (inL j (by omega) (by omega))
        refine ⟨⟨m1.1, nth_lt l.isLot.asc a d b, m2.2⟩, ?_⟩
        show cr _ (nth lot i) (nth lot j) = true
        rw [cr_lot l hx hy hi a (by omega) (by omega) (by omega)]
        exact e
      · have m1 := (l.mem_rest.mp (inR' i a (by omega))).1
        have m2 := (l.mem_rest.mp (inR' j (by omega) (by omega))).1
        refine ⟨⟨m1.1, nth_lt l.asc_rest a d b, m2.2⟩, ?_⟩
        show cr _ (nth rest i) (nth rest j) = true
        rw [cr_rest l hx hy hi a (by omega) (by omega) (by omega)]
        exact e
      · obtain ⟨a1, ca⟩ := (h.mem a).mp ha
        obtain ⟨b1, cb⟩ := (h'.mem b).mp hb
        have i1 := inL _ a1.1 a1.2
        have i2 := inR' _ b1.1 b1.2
        have m1 := l.isLot.mem _ i1
        have m2 := (l.mem_rest.mp i2).1
        have ne : nth lot a ≠ nth rest b := fun w => no _ i1 (w ▸ i2)
        have cc : cr (joinR lot rest M B M' B') (nth lot a) (nth rest b) = true := by
          rw [cr_cross l hx hy hi a1.1 a1.2 b1.1 b1.2, ca, cb]
          rfl
        have cc' : cr (joinR lot rest M B M' B') (nth rest b) (nth lot a) = true := by
          rw [cr_sym (hr.count m2) (hr.count m1)]
          exact cc
        unfold mm
        rcases Int.le_total (nth lot a) (nth rest b) with q | q
        · rw [Int.min_eq_left q, Int.max_eq_right q]
          exact ⟨⟨m1.1, by simp only; omega, m2.2⟩, cc⟩
        · rw [Int.min_eq_right q, Int.max_eq_left q]
          exact ⟨⟨m2.1, by simp only; omega, m1.2⟩, cc'⟩
    · obtain ⟨u, v⟩ := p
      rintro ⟨⟨u0, uv, vn⟩, c⟩
      simp only at u0 uv vn c
      have dec : ∀ z, 0 ≤ z → z < n → (∃ i, 0 ≤ i ∧ i < n1 - 1 ∧ nth lot i = z) ∨ ∃ i, 0 ≤ i ∧ i < n2 - 1 ∧ nth rest i = z := fun z z0 z1 => by
        by_cases q : z ∈ lot
        · obtain ⟨i, a, b, e⟩ := nth_of q
          exact .inl ⟨i, a, by omega, e⟩
        · obtain ⟨i, a, b, e⟩ := nth_of (l.mem_rest.mpr ⟨⟨z0, z1⟩, q⟩)
          exact .inr ⟨i, a, by omega, e⟩
      rcases dec u u0 (by omega) with ⟨i, i0, i1, rfl⟩ | ⟨i, i0, i1, rfl⟩ <;> rcases dec v (by omega) vn with ⟨j, j0, j1, rfl⟩ | ⟨j, j0, j1, rfl⟩
      · refine .inl (.inl ⟨i, j, i0, nth_lt' l.isLot.asc i0 (by omega) j0 (by omega) uv, by omega, by omega, ?_, rfl⟩)
        rw [← cr_lot l hx hy hi i0 i1 j0 j1]
        exact c
      · rw [cr_cross l hx hy hi i0 i1 j0 j1, Bool.and_eq_true] at c
        refine .inr ⟨i, (h.mem i).mpr ⟨⟨i0, i1⟩, c.1⟩, j, (h'.mem j).mpr ⟨⟨j0, j1⟩, c.2⟩, ?_⟩
        unfold mm
        rw [Int.min_eq_left (by omega), Int.max_eq_right (by omega)]
      · rw [cr_sym (hr.count (l.mem_rest.mp (inR' i i0 i1)).1) (hr.count (l.isLot.mem _ (inL j j0 j1))), cr_cross l hx hy hi j0 j1 i0 i1, Bool.and_eq_true] at c
        refine .inr ⟨j, (h.mem j).mpr ⟨⟨j0, j1⟩, c.1⟩, i, (h'.mem i).mpr ⟨⟨i0, i1⟩, c.2⟩, ?_⟩
        unfold mm
        rw [Int.min_eq_right (by omega), Int.max_eq_left (by omega)]
      · refine .inl (.inr ⟨i, j, i0, nth_lt' l.asc_rest i0 (by omega) j0 (by omega) uv, by omega, by omega, ?_, rfl⟩)
        rw [← cr_rest l hx hy hi i0 i1 j0 j1]
        exact c
end
end PL
namespace PL
open PySem PySem.Spec PyProof.Rows L2 TN RM
theorem beyond_lot_ok {n : Int} {lot : List Int} (h0 : 0 ≤ n) (h1 : n ≤ 1000) : m_beyond_lot [.int n, .tup (lot.map D.int)] = .ok (.d (.tup (((rngI n).filter fun x => !lot.contains x).map D.int)), []) := by
  have a1 : (-4611686018427387904 : Int) ≤ n := by omega
  have a2 : n < 4611686018427387904 := by omega
  simp -implicitDefEqProofs [m_beyond_lot, b_beyond_lot]
  rw [fLc_I (rngI n) D.int (fun x => !lot.contains x) D.int (by simp -implicitDefEqProofs [a1, a2, rng_eq]) (by rw [rngI_length]; omega) rfl rfl
    (fun x _ => by
      have := dIn_ints true x lot
      by_cases e : x ∈ lot <;> simp -implicitDefEqProofs [this, e]) (fun x _ _ => ⟨.d (.int x), by simp -implicitDefEqProofs, rfl⟩)]
  simp -implicitDefEqProofs
theorem named_ok {g o : List Int} (hl : g.length ≤ 1000) (h : ∀ x ∈ g, 0 ≤ x ∧ x < o.length) : m__named [.tup (g.map D.int), .tup (o.map D.int)] = .ok (.d (.tup ((g.map (nth o)).map D.int)), []) := by
  simp -implicitDefEqProofs [m__named, b__named]
  rw [fLc_I g D.int (fun _ => true) (fun x => D.int (nth o x)) (by simp -implicitDefEqProofs) (by omega) rfl rfl (fun _ _ => rfl) (fun x m _ => ⟨.d (.int (nth o x)), by simp -implicitDefEqProofs [nth_at (h x m).1 (h x m).2], rfl⟩)]
  rw [List.filter_eq_self.mpr (fun _ _ => rfl)]
  simp -implicitDefEqProofs
def backR (v : Int) (g : List Int) : List Int := (((g.dropWhile (· != v)).drop 1).dropWhile (· != v)).drop 1 ++ g.takeWhile (· != v)
theorem back_of {v : Int} {P M S : List Int} (hP : v ∉ P) (hM : v ∉ M) : backR v (P ++ v :: (M ++ v :: S)) = S ++ P := by
  unfold backR
  rw [dropWhile_app (ne_of_not_mem hP), takeWhile_app (ne_of_not_mem hP)]
  simp only [List.dropWhile_cons, List.takeWhile_cons, bne_self_eq_false, Bool.false_eq_true, if_false, List.drop_one, List.tail_cons, List.append_nil]
  rw [dropWhile_app (ne_of_not_mem hM)]
  simp
theorem around_ok {n : Int} {g : List Int} (h : RingN n g) (h2 : 2 ≤ n) : ∃ M B, Around n g M B ∧ (M = btwn (n - 1) g ∧ B = backR (n - 1) g) ∧ m__around_marker [.tup (g.map D.int)] = .ok (.d (.tup [.tup (M.map D.int), .tup (B.map D.int)]), []) ∧
    m__law_stretches [.tup (g.map D.int)] = .ok (.d (.tup [.tup (M.map D.int), .tup (B.map D.int)]), []) := by
  have hl := h.le
  obtain ⟨P, M, S, e, hP, hM, hS, hb, f1, f2, hp, hw, hlt⟩ := ends_split (h.count (k := n - 1) ⟨by omega, by omega⟩)
  refine ⟨M, S ++ P, around_of h h2 e hP hM hS, ⟨hb.symm, by rw [e, back_of hP hM]⟩, ?_⟩
  have en := ends_eq f1 f2
  have le := law_ends_eq g (n - 1) (by omega)
  rw [hp] at le
  obtain ⟨j, hj⟩ : ∃ j : Nat, j = P.length + 1 + M.length := ⟨_, rfl⟩
  rw [← hj] at en le hlt
  obtain ⟨q1, s1, t1⟩ := dSl_to (g.map D.int) P.length
  have s2 := slice_eq (g := g) (i := P.length) (j := j) (by omega) hlt
  rw [hj, hw, ← hj] at s2
  obtain ⟨q3, s3, t3⟩ := dSl_from (g.map D.int) (j + 1)
  have e1 : g.take P.length = P := by rw [e, List.take_left]
  have e3 : g.drop (j + 1) = S := by
    rw [e, show P ++ (n - 1) :: (M ++ (n - 1) :: S) = (P ++ (n - 1) :: M ++ [n - 1]) ++ S by simp, show j + 1 = (P ++ (n - 1) :: M ++ [n - 1]).length by simp; omega, List.drop_left]
  rw [← List.map_take, e1] at t1
  rw [← List.map_drop, e3] at t3
  have gl : g.length = P.length + M.length + S.length + 2 := by rw [e]; simp; omega
  obtain ⟨q4, s4, t4⟩ := dAdd_tup (S.map D.int) (P.map D.int) (by simp; omega)
  have et : (S ++ P).map D.int = S.map D.int ++ P.map D.int := List.map_append
  have c1 : ((j + 1 : Nat) : Int) = (j : Int) + 1 := by omega
  rw [c1] at s3
  rw [et]
  have hf := h.half
  obtain ⟨x, xs, gx⟩ : ∃ x xs, g = x :: xs := by
    cases g with
    | nil => simp at hlt
    | cons x xs => exact ⟨x, xs, rfl⟩
  have mx : bMaxX [.tup (g.map D.int)] = .ok (.d (.int (n - 1))) := by
    rw [gx]
    show maxS ((x :: xs).map D.int) = _
    rw [maxS_ints]
    have : maxI x xs = n - 1 := by
      have mm_ : ∀ (l : List Int) (a : Int), (∀ z ∈ l, z ≤ maxI a l) ∧ a ≤ maxI a l ∧ (maxI a l = a ∨ maxI a l ∈ l) := by
        intro l
        induction l with
        | nil => intro a; exact ⟨fun z m => (by cases m), Int.le_refl _, .inl rfl⟩
        | cons y l ih =>
          intro a
          have hh : maxI a (y :: l) = maxI (if a < y then y else a) l := rfl
          rw [hh]
          obtain ⟨i1, i2, i3⟩ := ih (if a < y then y else a)
          refine ⟨fun z m => ?_, ?_, ?_⟩
          · rcases List.mem_cons.mp m with rfl | m
            · split at i2 <;> rename_i q <;> simp only [q, if_true, if_false] <;> omega
            · exact i1 z m
          · split at i2 <;> rename_i q <;> simp only [q, if_true, if_false] <;> omega
          · rcases i3 with i3 | i3
            · by_cases q : a < y
              · rw [if_pos q] at i3 ⊢
                exact .inr (by rw [i3]; exact List.mem_cons_self)
              · rw [if_neg q] at i3 ⊢
                exact .inl i3
            · exact .inr (List.mem_cons_of_mem _ i3)
      obtain ⟨a1, a2, a3⟩ := mm_ xs x
      have up : ∀ z ∈ g, z < n := fun z m => (h.mem m).2
      have m1 : n - 1 ∈ g := by rw [e]; simp
      rw [gx] at m1
      have lo : n - 1 ≤ maxI x xs := by
        rcases List.mem_cons.mp m1 with q | q
        · omega
        · exact a1 _ q
      have hi : maxI x xs < n := by
        rcases a3 with q | q
        · rw [q]; exact up x (by rw [gx]; exact List.mem_cons_self)
        · exact up _ (by rw [gx]; exact List.mem_cons_of_mem _ q)
      omega
    rw [this]
  have pc : (((P.length + 1 + M.length : Nat) : Int)) = (j : Int) := by omega
  simp only [List.map_cons, List.map_nil] at le
  generalize P.map D.int = p' at *
  generalize S.map D.int = s' at *
  constructor
  · simp -implicitDefEqProofs only [m__around_marker, b__around_marker, e_fn, e_stE0, e_ofs, e_bok, e_sCons, List.map_cons, List.map_nil, List.length_cons, List.length_nil]
    simp -implicitDefEqProofs [e_gdiv, hf, en, s1, t1, s2, s3, t3, s4, t4]
  · simp -implicitDefEqProofs only [m__law_stretches, b__law_stretches, e_fn, e_stE0, e_ofs, e_bok, e_sCons, List.map_cons, List.map_nil, List.length_cons, List.length_nil]
    simp -implicitDefEqProofs [mx, le, s1, t1, s2, s3, t3, s4, t4]
end PL
namespace PL
open PySem PySem.Spec PyProof.Rows L2 TN RM
theorem sort_two (u v : Int) : bSortedX [.lst [.int u, .int v]] = .ok (.ls [.int (min u v), .int (max u v)]) := by
  have := bSortedX_lst [u, v]
  have e : sortI [u, v] = [min u v, max u v] := by
    show insI u (insI v []) = _
    simp only [insI]
    split
    · rw [Int.min_eq_left (by omega), Int.max_eq_right (by omega)]
    · rw [Int.min_eq_right (by omega), Int.max_eq_left (by omega)]
  rw [e] at this
  exact this
theorem ties_len {n : Int} (hi : n ≤ 10) (r : Int → Int → Bool) : (tiesOf n r).length ≤ 100 := by
  unfold tiesOf
  refine Nat.le_trans (flatMap_le (k := 10) fun a m => ?_) ?_
  · rw [List.length_map]
    exact part_le hi _
  · rw [rngI_length]
    omega
theorem law_near_ok {n : Int} {x : List Int} (h : RingN n x) : ∃ N, m__law_near [.tup ((tiesOf n (cr x)).map pD2), .int (n - 1)] = .ok (.ls (N.map D.int), []) ∧ NearN n x N ∧ N.length ≤ 100 := by
  have w := tiesOf_web h.lo h.hi (cr x)
  have tl := ties_len h.hi (cr x)
  refine ⟨sortI (((tiesOf n (cr x)).filter fun p => decide (p.1 = n - 1) || decide (p.2 = n - 1)).map fun p => p.1 + p.2 - (n - 1)), ?_, ⟨?_, fun a => ?_⟩, ?_⟩
  · simp -implicitDefEqProofs only [m__law_near, b__law_near, e_fn, e_stE0, e_ofs, e_bok, List.map_cons, List.map_nil, List.length_cons, List.length_nil]
    simp -implicitDefEqProofs
    rw [fLc_T (tiesOf n (cr x)) pD2 (fun p => decide (p.1 = n - 1) || decide (p.2 = n - 1)) (fun p => D.int (p.1 + p.2 - (n - 1))) (fun p => [.val (.tup ((tiesOf n (cr x)).map pD2)), .val (.int (n - 1)), .val (.int p.1), .val (.int p.2)]) (by simp -implicitDefEqProofs) (by omega)
      (fun v hv s hs => by
        simp only [List.mem_cons, List.not_mem_nil, or_false] at hv
        rcases hv with rfl | rfl <;> (cases hs; rfl))
      (fun p _ => ⟨by simp -implicitDefEqProofs [pD2, wipeE], rfl⟩)
      (fun p _ => by
        have := dIn_ints false (n - 1) [p.1, p.2]
        simp only [List.map_cons, List.map_nil] at this
        simp -implicitDefEqProofs [this]
        by_cases e1 : p.1 = n - 1 <;> by_cases e2 : p.2 = n - 1 <;> simp [e1, e2, eq_comm (a := n - 1)])
      (fun p _ _ => ⟨.d (.int (p.1 + p.2 - (n - 1))), by simp -implicitDefEqProofs, rfl⟩)]
    have := bSortedX_lst (((tiesOf n (cr x)).filter fun p => decide (p.1 = n - 1) || decide (p.2 = n - 1)).map fun p => p.1 + p.2 - (n - 1))
    rw [List.map_map] at this
    have this' : bSortedX [.lst (((tiesOf n (cr x)).filter fun p => decide (p.1 = n - 1) || decide (p.2 = n - 1)).map fun p => D.int (p.1 + p.2 - (n - 1)))] = _ := this
    simp -implicitDefEqProofs [this']
  · refine ((sortI_perm _).nodup_iff).mpr ?_
    show List.Pairwise (· ≠ ·) _
    rw [List.pairwise_map]
    refine List.Pairwise.imp_of_mem (fun {p q} hp hq l e => ?_) (w.asc.filter _)
    obtain ⟨hp, lp⟩ := List.mem_filter.mp hp
    obtain ⟨hq, lq⟩ := List.mem_filter.mp hq
    have op := w.ok p hp
    have oq := w.ok q hq
    simp only [Bool.or_eq_true, decide_eq_true_eq] at lp lq
    rcases l with l | ⟨l1, l2⟩ <;> omega
  · rw [(sortI_perm _).mem_iff, List.mem_map]
    constructor
    · rintro ⟨p, hp, rfl⟩
      obtain ⟨hp, lp⟩ := List.mem_filter.mp hp
      obtain ⟨⟨o1, o2, o3⟩, c⟩ := mem_ties.mp hp
      simp only [Bool.or_eq_true, decide_eq_true_eq] at lp
      have e2 : p.2 = n - 1 := by omega
      rw [e2] at c
      rw [show p.1 + p.2 - (n - 1) = p.1 by omega]
      exact ⟨⟨o1, by omega⟩, c⟩
    · rintro ⟨⟨a0, a1⟩, c⟩
      exact ⟨(a, n - 1), List.mem_filter.mpr ⟨mem_ties.mpr ⟨⟨a0, a1, by simp only; omega⟩, c⟩, by simp⟩, by simp only; omega⟩
  · rw [sortI_length, List.length_map]
    exact Nat.le_trans (List.length_filter_le ..) tl
theorem own_lc {n : Int} {x o : List Int} (hr : RingN n x) (asc : o.Pairwise (· < ·)) (nm : D) (hl : bLen [nm] = .ok (.d (.int o.length))) (hx : ∀ k, 0 ≤ k → k < (o.length : Int) → dIx nm (.int k) = .ok (.d (.int (nth o k)))) (a0 a1 a2 a3 a4 a5 a6 a9 a12 : Sl) :
    fLc (fSeq (fVar 7)) (gT [10, 11]) (bOf (fBin (oI gLt) (fVar 11) (fBi bLen (aCons (fVar 8) (aNil))))) (fBi bTuple (aCons (fBi bSortedX (aCons (fLst (aCons (fBin dIx (fVar 8) (fVar 10)) (aCons (fBin dIx (fVar 8) (fVar 11)) (aNil)))) (aNil))) (aNil))) [10, 11]
      [a0, a1, a2, a3, a4, a5, a6, .val (.tup ((tiesOf n (cr x)).map pD2)), .val nm, a9, .no, .no, a12] = .ok (.new ((own o n x).map pD2), [a0, a1, a2, a3, a4, a5, a6, .val (.tup ((tiesOf n (cr x)).map pD2)), .val nm, a9, .no, .no, a12]) := by
  have w := tiesOf_web hr.lo hr.hi (cr x)
  rw [fLc_T (tiesOf n (cr x)) pD2 (fun p => decide (p.2 < (o.length : Int))) (fun p => pD2 (pr o p)) (fun p => [a0, a1, a2, a3, a4, a5, a6, .val (.tup ((tiesOf n (cr x)).map pD2)), .val nm, a9, .val (.int p.1), .val (.int p.2), a12]) (by simp -implicitDefEqProofs) w.len
    (fun v hv s hs => by
      simp only [List.mem_cons, List.not_mem_nil, or_false] at hv
      rcases hv with rfl | rfl <;> (cases hs; rfl))
    (fun p _ => ⟨by simp -implicitDefEqProofs [pD2, wipeE], rfl⟩)
    (fun p _ => by simp -implicitDefEqProofs [hl])
    (fun p m q => by
      have ok := w.ok p m
      have q : p.2 < (o.length : Int) := by simpa using q
      have l := nth_lt asc ok.1 q ok.2.1
      refine ⟨.d (pD2 (pr o p)), ?_, rfl⟩
      simp -implicitDefEqProofs [hx p.1 ok.1 (by omega), hx p.2 (by omega) q, sort_two, Int.min_eq_left (Int.le_of_lt l), Int.max_eq_right (Int.le_of_lt l), pr, pD2])]
  unfold own
  rw [List.map_map]
  rfl
theorem forF_nil (ga : GA) (s : S) (env : Ev) : forF ga s [] env = .ok (.nx, env) := rfl
theorem forF_cons (ga : GA) (s : S) (d : D) (ds : List D) (env : Ev) : forF ga s (d :: ds) env = (ofO (ga d env)).bind fun e => (s e).bind fun q => match q.1 with
    | .nx => forF ga s ds q.2
    | .ret r => .ok (.ret r, q.2) := rfl
theorem law_joined_ok {n n1 n2 : Int} {lot rest x y M B M' B' : List Int} (l : Lots n n1 n2 lot rest) (hx : Around n1 x M B) (hy : Around n2 y M' B') (hi : n ≤ 10) :
    m__law_joined_ties [.tup (x.map D.int), .tup (y.map D.int), .tup (lot.map D.int), .lst (rest.map D.int)] = .ok (.d (.tup ((tiesOf n (cr (joinR lot rest M B M' B'))).map pD2)), []) := by
  have x2 := hx.ge
  have y2 := hy.ge
  have su := l.sum
  have ll := l.len
  have lr := l.len_rest (by omega)
  obtain ⟨N, en, hn, ln⟩ := law_near_ok hx.ring
  obtain ⟨N', en', hn', ln'⟩ := law_near_ok hy.ring
  have t1 := law_ties_ok hx.ring
  have t2 := law_ties_ok hy.ring
  have fp := found_perm l hx hy hi hn hn'
  have hr := join_ring l hx hy hi
  have so := bSorted_ties fp (tiesOf_web hr.lo hr.hi _).asc
  have i1 : ∀ k, 0 ≤ k → k < (lot.length : Int) → dIx (.tup (lot.map D.int)) (.int k) = .ok (.d (.int (nth lot k))) := fun k h0 h1 => by simp -implicitDefEqProofs [nth_at h0 h1]
  have i2 : ∀ k, 0 ≤ k → k < (rest.length : Int) → dIx (.lst (rest.map D.int)) (.int k) = .ok (.d (.int (nth rest k))) := fun k h0 h1 => by simp -implicitDefEqProofs [nth_at h0 h1]
  have lc1 := own_lc hx.ring l.isLot.asc (.tup (lot.map D.int)) (by simp -implicitDefEqProofs) i1
  have lc2 := own_lc hy.ring l.asc_rest (.lst (rest.map D.int)) (by simp -implicitDefEqProofs) i2
  have o1 : (own lot n1 x).length ≤ 100 := by
    unfold own
    rw [List.length_map]
    exact Nat.le_trans (List.length_filter_le ..) (ties_len hx.ring.hi _)
  have o2 : (own rest n2 y).length ≤ 100 := by
    unfold own
    rw [List.length_map]
    exact Nat.le_trans (List.length_filter_le ..) (ties_len hy.ring.hi _)
  obtain ⟨T1, hT1⟩ : ∃ T, tiesOf n1 (cr x) = T := ⟨_, rfl⟩
  obtain ⟨T2, hT2⟩ : ∃ T, tiesOf n2 (cr y) = T := ⟨_, rfl⟩
  rw [hT1] at lc1 en t1
  rw [hT2] at lc2 en' t2
  obtain ⟨w, f1, f2, x9, f3⟩ := forF_N (ga := gN 9) (s := sExpr (fExt 4 (fLc (fSeq (fCall false m__law_near (aCons (fVar 6) (aCons (fBi bLen (aCons (fVar 3) (aNil))) (aNil))))) (gN 12) (bYes) (fBi bTuple (aCons (fBi bSortedX (aCons (fLst (aCons (fBin dIx (fVar 2) (fVar 9)) (aCons (fBin dIx (fVar 3) (fVar 12)) (aNil)))) (aNil))) (aNil))) [12]))) D.int
    (fun (s : List (Int × Int)) a => s ++ N'.map fun b => mm (nth lot a) (nth rest b))
    (fun k s w => s.length ≤ 200 + k * 100 ∧ ∃ x9, w = [.val (.tup (x.map D.int)), .val (.tup (y.map D.int)), .val (.tup (lot.map D.int)), .val (.lst (rest.map D.int)), .own (s.map pD2), .val (.tup (T1.map pD2)), .val (.tup (T2.map pD2)), .val (.tup (T2.map pD2)), .val (.lst (rest.map D.int)), x9, .no, .no, .no]) 100 N 0 (own lot n1 x ++ own rest n2 y)
    [.val (.tup (x.map D.int)), .val (.tup (y.map D.int)), .val (.tup (lot.map D.int)), .val (.lst (rest.map D.int)), .own ((own lot n1 x ++ own rest n2 y).map pD2), .val (.tup (T1.map pD2)), .val (.tup (T2.map pD2)), .val (.tup (T2.map pD2)), .val (.lst (rest.map D.int)), .no, .no, .no, .no]
    (by omega) ⟨by rw [List.length_append]; omega, _, rfl⟩ (fun a ha k s w hk ⟨hs, x9, hw⟩ => by
      subst hw
      have a1 := ((hn.mem a).mp ha).1
      refine ⟨[.val (.tup (x.map D.int)), .val (.tup (y.map D.int)), .val (.tup (lot.map D.int)), .val (.lst (rest.map D.int)), .own (s.map pD2), .val (.tup (T1.map pD2)), .val (.tup (T2.map pD2)), .val (.tup (T2.map pD2)), .val (.lst (rest.map D.int)), .val (.int a), .no, .no, .no], _, by simp -implicitDefEqProofs, ?_, ?_, .val (.int a), rfl⟩
      · simp -implicitDefEqProofs
        rw [fLc_I N' D.int (fun _ => true) (fun b => pD2 (mm (nth lot a) (nth rest b))) (by simp -implicitDefEqProofs [lr, en']) (by omega) rfl rfl
          (fun b _ => rfl) (fun b hb _ => by
            have b1 := ((hn'.mem b).mp hb).1
            exact ⟨.d (pD2 (mm (nth lot a) (nth rest b))), by simp -implicitDefEqProofs [nth_at a1.1 (show a < (lot.length : Int) by omega), nth_at b1.1 (show b < (rest.length : Int) by omega), sort_two, pD2, mm], rfl⟩)]
        have : s.length + N'.length ≤ 100000 := by omega
        rw [List.filter_eq_self.mpr (fun _ _ => rfl)]
        simp -implicitDefEqProofs [this]
      · rw [List.length_append, List.length_map]
        omega)
  rw [foldl_app] at f2 f3
  have emix : (N.flatMap fun a => N'.map fun b => mm (nth lot a) (nth rest b)) = mix lot rest N N' := rfl
  rw [emix] at f2 f3
  subst f3
  rw [List.append_assoc] at so
  have c1 : (own lot n1 x).length + (own rest n2 y).length ≤ 100000 := by omega
  have c0 : (own lot n1 x).length ≤ 100000 := by omega
  have lap : (own lot n1 x).map pD2 ++ (own rest n2 y).map pD2 = (own lot n1 x ++ own rest n2 y).map pD2 := List.map_append.symm
  simp -implicitDefEqProofs only [m__law_joined_ties, b__law_joined_ties, e_fn, e_stE0, e_ofs, e_bok, e_sCons, List.map_cons, List.map_nil, List.length_cons, List.length_nil]
  simp -implicitDefEqProofs [-List.map_append, t1, t2, forF_nil, forF_cons, lc1, lc2, c0, c1, lap, ll, en, f1, so]
end PL
namespace PL
open PySem PySem.Spec PyProof.Rows L2 TN RM
theorem bits60 : Builtin.Int.intBits (10 : Int) * (60 : Int) ≤ 2 ^ 27 := by decide +kernel
theorem pow60 : ∃ p : Int, gPow 10 60 = some (.int p) ∧ 10 ≤ p := ⟨(10 : Int) ^ (60 : Int).toNat, if_pos ⟨by omega, bits60⟩, by decide +kernel⟩
theorem rings_joined_ok {n n1 n2 : Int} {lot rest x y M B M' B' : List Int} (l : Lots n n1 n2 lot rest) (hx : Around n1 x M B) (hy : Around n2 y M' B') (hi : n ≤ 10)
    (ax : m__around_marker [.tup (x.map D.int)] = .ok (.d (.tup [.tup (M.map D.int), .tup (B.map D.int)]), [])) (ay : m__around_marker [.tup (y.map D.int)] = .ok (.d (.tup [.tup (M'.map D.int), .tup (B'.map D.int)]), [])) :
    m_rings_joined [.tup (x.map D.int), .tup (y.map D.int), .tup (lot.map D.int)] = .ok (.d (.tup ((joinR lot rest M B M' B').map D.int)), []) := by
  have x2 := hx.ge
  have y2 := hy.ge
  have su := l.sum
  have ll := l.len
  have lr := l.len_rest (by omega)
  have xl := hx.ring.le
  have yl := hy.ring.le
  have xn := hx.ring.len
  have yn := hy.ring.len
  have cx := check_eq hx.ring.isD (by omega)
  have cy := check_eq hy.ring.isD (by omega)
  have fx := hx.ring.half
  have fy := hy.ring.half
  have lc := l.isLot.len
  obtain ⟨p, pw, p10⟩ := pow60
  have as1 : m_is_ascending [.tup (lot.map D.int), .int p] = .ok (.d (.bl true), []) := by
    have l2 : LotN p lot := ⟨l.isLot.asc, fun z m => by have := l.isLot.mem z m; omega⟩
    rw [is_ascending_ok lot p (by omega)]
    have a : lot.all (inR p) = true := List.all_eq_true.mpr fun x m => by
      have := l2.mem x m
      simp [inR, this]
    have b : ascB lot = true := List.all_eq_true.mpr fun p m => by
      have := adj_of l2.asc p m
      simpa using this
    rw [a, b]
    rfl
  have as2 := asc_ok l.isLot (by omega)
  have nx : ¬ (x.length : Int) = 2 := by omega
  have ny : ¬ (y.length : Int) = 2 := by omega
  have bl := beyond_lot_ok (n := n) (lot := lot) (by omega) (by omega)
  rw [← l.rest] at bl
  have ml := fun z (m : z ∈ M ++ B) => hx.mem m
  have ml' := fun z (m : z ∈ M' ++ B') => hy.mem m
  have k1 : M.length ≤ 20 := by have := hx.perm.length_eq; rw [List.length_append, two_length] at this; have := hx.ring.hi; omega
  have k2 : B.length ≤ 20 := by have := hx.perm.length_eq; rw [List.length_append, two_length] at this; have := hx.ring.hi; omega
  have k3 : M'.length ≤ 20 := by have := hy.perm.length_eq; rw [List.length_append, two_length] at this; have := hy.ring.hi; omega
  have k4 : B'.length ≤ 20 := by have := hy.perm.length_eq; rw [List.length_append, two_length] at this; have := hy.ring.hi; omega
  have n1_ := named_ok (g := M) (o := lot) (by omega) fun z m => by have := ml z (List.mem_append_left _ m); omega
  have n2_ := named_ok (g := M') (o := rest) (by omega) fun z m => by have := ml' z (List.mem_append_left _ m); omega
  have n3_ := named_ok (g := B) (o := lot) (by omega) fun z m => by have := ml z (List.mem_append_right _ m); omega
  have n4_ := named_ok (g := B') (o := rest) (by omega) fun z m => by have := ml' z (List.mem_append_right _ m); omega
  obtain ⟨q1, s1, t1⟩ := dAdd_tup ((M.map (nth lot)).map D.int) ((M'.map (nth rest)).map D.int) (by simp; omega)
  obtain ⟨q2, s2, t2⟩ := dAdd_tup ((M.map (nth lot)).map D.int ++ (M'.map (nth rest)).map D.int) ((B.map (nth lot)).map D.int) (by simp; omega)
  obtain ⟨q3, s3, t3⟩ := dAdd_tup ((M.map (nth lot)).map D.int ++ (M'.map (nth rest)).map D.int ++ (B.map (nth lot)).map D.int) ((B'.map (nth rest)).map D.int) (by simp; omega)
  have et : (joinR lot rest M B M' B').map D.int = (M.map (nth lot)).map D.int ++ (M'.map (nth rest)).map D.int ++ (B.map (nth lot)).map D.int ++ (B'.map (nth rest)).map D.int := by
    unfold joinR
    simp
  rw [et]
  have e0 : n1 + n2 - 2 = n := by omega
  have h10 : ¬ 10 < n := by omega
  generalize (M.map (nth lot)).map D.int = a1 at *
  generalize (M'.map (nth rest)).map D.int = a2 at *
  generalize (B.map (nth lot)).map D.int = a3 at *
  generalize (B'.map (nth rest)).map D.int = a4 at *
  simp -implicitDefEqProofs only [m_rings_joined, b_rings_joined, e_fn, e_stE0, e_ofs, e_bok, e_sCons, List.map_cons, List.map_nil, List.length_cons, List.length_nil]
  simp -implicitDefEqProofs [-List.append_assoc, cx, cy, pw, as1, as2, e_gdiv, fx, fy, ll, e0, h10, dEq_intN, nx, ny, bl, ax, ay, n1_, n2_, n3_, n4_, s1, t1, s2, t2, s3, t3]
/-! ### beside one another -/
def sh (k : Int) (p : Int × Int) : Int × Int := (p.1 + k, p.2 + k)
section
variable {n1 n2 : Int} {x y : List Int}
theorem beside_ring (hx : RingN n1 x) (hy : RingN n2 y) (hi : n1 + n2 ≤ 10) : RingN (n1 + n2) (x ++ y.map fun z => z + n1) := by
  have x1 := hx.lo
  have y1 := hy.lo
  refine ⟨?_, by omega, hi⟩
  have er : rngI (n1 + n2) = rngI n1 ++ (rngI n2).map fun z => z + n1 := by
    refine sorted_unique (perm_of_mem (rngI_nodup _) (List.nodup_append.mpr ⟨rngI_nodup _, ?_, fun a ha b hb e => ?_⟩) fun p => ?_) ((rngI_lt _).imp fun h => by omega) ?_
    · show List.Pairwise (· ≠ ·) _
      rw [List.pairwise_map]
      exact (rngI_nodup n2).imp fun h e => h (by omega)
    · obtain ⟨c, hc, rfl⟩ := List.mem_map.mp hb
      have := rngI_mem ha
      have := rngI_mem hc
      omega
    · rw [mem_rngI, List.mem_append, mem_rngI, List.mem_map]
      constructor
      · intro h
        by_cases q : p < n1
        · exact .inl ⟨h.1, q⟩
        · exact .inr ⟨p - n1, mem_rngI.mpr ⟨by omega, by omega⟩, by omega⟩
      · rintro (h | ⟨c, hc, rfl⟩)
        · omega
        · have := rngI_mem hc
          omega
    · rw [List.pairwise_append, List.pairwise_map]
      refine ⟨(rngI_lt n1).imp fun h => by omega, (rngI_lt n2).imp fun h => by omega, fun a ha b hb => ?_⟩
      obtain ⟨c, hc, rfl⟩ := List.mem_map.mp hb
      have := rngI_mem ha
      have := rngI_mem hc
      omega
  have p1 := hx.perm
  have p2 := hy.perm.map fun z => z + n1
  rw [two_eq] at p1 p2 ⊢
  rw [List.map_append] at p2
  rw [er]
  rw [List.perm_iff_count] at p1 p2 ⊢
  intro a
  have a1 := p1 a
  have a2 := p2 a
  simp only [List.count_append] at a1 a2 ⊢
  omega
theorem beside_ties (hx : RingN n1 x) (hy : RingN n2 y) (hi : n1 + n2 ≤ 10) : tiesOf (n1 + n2) (cr (x ++ y.map fun z => z + n1)) = tiesOf n1 (cr x) ++ (tiesOf n2 (cr y)).map (sh n1) := by
  have x1 := hx.lo
  have y1 := hy.lo
  have hr := beside_ring hx hy hi
  have wx := tiesOf_web hx.lo hx.hi (cr x)
  have wy := tiesOf_web hy.lo hy.hi (cr y)
  have f1 : (x ++ y.map fun z => z + n1).filter (fun z => decide (z < n1)) = x := by
    rw [List.filter_append, filter_all (fun z m => by have := hx.mem m; simp; omega), filter_none (fun z m => by
      obtain ⟨c, hc, rfl⟩ := List.mem_map.mp m
      have := hy.mem hc
      simp; omega)]
    simp
  have f2 : (x ++ y.map fun z => z + n1).filter (fun z => decide (n1 ≤ z)) = y.map fun z => z + n1 := by
    rw [List.filter_append, filter_none (fun z m => by have := hx.mem m; simp; omega), filter_all (fun z m => by
      obtain ⟨c, hc, rfl⟩ := List.mem_map.mp m
      have := hy.mem hc
      simp; omega)]
    simp
  have c1 : ∀ a b, 0 ≤ a → a < n1 → 0 ≤ b → b < n1 → cr (x ++ y.map fun z => z + n1) a b = cr x a b := fun a b a0 a1 b0 b1 => by
    rw [← cr_filter (p := fun z => decide (z < n1)) (by simp; omega) (by simp; omega) (hr.count ⟨a0, by omega⟩), f1]
  have c2 : ∀ a b, 0 ≤ a → a < n2 → 0 ≤ b → b < n2 → cr (x ++ y.map fun z => z + n1) (a + n1) (b + n1) = cr y a b := fun a b a0 a1 b0 b1 => by
    rw [← cr_filter (p := fun z => decide (n1 ≤ z)) (by simp; omega) (by simp; omega) (hr.count ⟨by omega, by omega⟩), f2]
    exact cr_map (f := fun z => z + n1) (fun z m w => by omega) (fun z m w => by omega) (hy.count ⟨a0, a1⟩)
  have c3 : ∀ a b, 0 ≤ a → a < n1 → n1 ≤ b → b < n1 + n2 → cr (x ++ y.map fun z => z + n1) a b = false := fun a b a0 a1 b0 b1 => by
    have ne : a ≠ b := by omega
    have nb : b ∉ x := fun m => by have := hx.mem m; omega
    have na : a ∉ y.map fun z => z + n1 := fun m => by
      obtain ⟨c, hc, rfl⟩ := List.mem_map.mp m
      have := hy.mem hc
      omega
    have cb : (y.map fun z => z + n1).count b = 2 := by
      have e := hr.count (k := b) ⟨by omega, b1⟩
      rw [List.count_append, List.count_eq_zero.mpr nb] at e
      omega
    rw [← enc_cr (ns := [a, b]) (i := 0) (j := 1) (nd2 ne) rfl rfl (hr.count ⟨a0, by omega⟩), enc_app, enc_only ne nb, enc_only' ne na, hx.count ⟨a0, a1⟩, cb]
    decide +kernel
  refine sorted_ext (tiesOf_web hr.lo hr.hi _).asc ?_ fun p => ?_
  · rw [List.pairwise_append, List.pairwise_map]
    refine ⟨wx.asc, wy.asc.imp fun h => ?_, fun p hp q hq => ?_⟩
    · rcases h with h | ⟨h1, h2⟩
      · exact .inl (by unfold sh; simp only; omega)
      · exact .inr ⟨by unfold sh; simp only; omega, by unfold sh; simp only; omega⟩
    · obtain ⟨c, hc, rfl⟩ := List.mem_map.mp hq
      have := wx.ok p hp
      have := wy.ok c hc
      exact .inl (by unfold sh; simp only; omega)
  · rw [mem_ties, List.mem_append, mem_ties, List.mem_map]
    constructor
    · rintro ⟨⟨p0, p1, p2⟩, c⟩
      by_cases u : p.2 < n1
      · rw [c1 _ _ p0 (by omega) (by omega) u] at c
        exact .inl ⟨⟨p0, p1, u⟩, c⟩
      · by_cases v : p.1 < n1
        · rw [c3 _ _ p0 v (by omega) p2] at c
          cases c
        · refine .inr ⟨(p.1 - n1, p.2 - n1), mem_ties.mpr ⟨⟨by simp only; omega, by simp only; omega, by simp only; omega⟩, ?_⟩, by unfold sh; simp⟩
          have := c2 (p.1 - n1) (p.2 - n1) (by omega) (by omega) (by omega) (by omega)
          rw [show p.1 - n1 + n1 = p.1 by omega, show p.2 - n1 + n1 = p.2 by omega] at this
          show cr y (p.1 - n1) (p.2 - n1) = true
          rw [← this]
          exact c
    · rintro (⟨⟨p0, p1, p2⟩, c⟩ | ⟨q, hq, rfl⟩)
      · exact ⟨⟨p0, p1, by omega⟩, by rw [c1 _ _ p0 (by omega) (by omega) p2]; exact c⟩
      · obtain ⟨⟨q0, q1, q2⟩, c⟩ := mem_ties.mp hq
        refine ⟨⟨by unfold sh; simp only; omega, by unfold sh; simp only; omega, by unfold sh; simp only; omega⟩, ?_⟩
        show cr _ (q.1 + n1) (q.2 + n1) = true
        rw [c2 _ _ q0 (by omega) (by omega) q2]
        exact c
theorem rings_beside_ok (hx : RingN n1 x) (hy : RingN n2 y) (hi : n1 + n2 ≤ 10) : m_rings_beside [.tup (x.map D.int), .tup (y.map D.int)] = .ok (.d (.tup ((x ++ y.map fun z => z + n1).map D.int)), []) := by
  have xl := hx.le
  have yl := hy.le
  have cx := check_eq hx.isD (by omega)
  have cy := check_eq hy.isD (by omega)
  have fx := hx.half
  have fy := hy.half
  obtain ⟨q, s, t⟩ := dAdd_tup (x.map D.int) ((y.map fun z => z + n1).map D.int) (by simp; omega)
  have h10 : ¬ 10 < n1 + n2 := by omega
  rw [List.map_append]
  simp -implicitDefEqProofs only [m_rings_beside, b_rings_beside, e_fn, e_stE0, e_ofs, e_bok, e_sCons, List.map_cons, List.map_nil, List.length_cons, List.length_nil]
  simp -implicitDefEqProofs [-List.map_map, cx, cy, e_gdiv, fx, fy, h10]
  rw [fLc_I y D.int (fun _ => true) (fun z => D.int (z + n1)) (by simp -implicitDefEqProofs) (by omega) rfl rfl (fun _ _ => rfl) (fun z _ _ => ⟨.d (.int (z + n1)), by simp -implicitDefEqProofs, rfl⟩)]
  rw [List.filter_eq_self.mpr (fun _ _ => rfl), show y.map (fun z => D.int (z + n1)) = (y.map fun z => z + n1).map D.int by rw [List.map_map]; rfl]
  generalize (y.map fun z => z + n1).map D.int = y' at *
  simp -implicitDefEqProofs [s, t]
theorem beside_ok {t1 t2 : List (Int × Int)} (w1 : WebN n1 t1) (w2 : WebN n2 t2) (w : WebN (n1 + n2) (t1 ++ t2.map (sh n1))) : m_beside [W n1 t1, W n2 t2] = .ok (.d (W (n1 + n2) (t1 ++ t2.map (sh n1))), []) := by
  have hi := w.hi
  have h10 : ¬ 10 < n1 + n2 := by omega
  have mw := mWeb_ok w
  have wl := w.len
  rw [List.length_append, List.length_map] at wl
  obtain ⟨q, s, t⟩ := dAdd_tup (t1.map pD2) ((t2.map (sh n1)).map pD2) (by simp; omega)
  rw [List.map_append] at mw
  have e1 : ∀ s1 s2 s3, fAt 0 0 (fVar 0) [.val (W n1 t1), .val (W n2 t2), s1, s2, s3] = .ok (.d (.int n1), [.val (W n1 t1), .val (W n2 t2), s1, s2, s3]) := fun _ _ _ => by simp -implicitDefEqProofs [W]
  have e2 : ∀ s1 s2 s3, fAt 0 0 (fVar 1) [.val (W n1 t1), .val (W n2 t2), s1, s2, s3] = .ok (.d (.int n2), [.val (W n1 t1), .val (W n2 t2), s1, s2, s3]) := fun _ _ _ => by simp -implicitDefEqProofs [W]
  have e3 : ∀ s1 s2 s3, fAt 0 1 (fVar 0) [.val (W n1 t1), .val (W n2 t2), s1, s2, s3] = .ok (.d (.tup (t1.map pD2)), [.val (W n1 t1), .val (W n2 t2), s1, s2, s3]) := fun _ _ _ => by simp -implicitDefEqProofs [W]
  simp -implicitDefEqProofs only [m_beside, b_beside, e_fn, e_stE0, e_ofs, e_bok, e_sCons, List.map_cons, List.map_nil, List.length_cons, List.length_nil]
  simp -implicitDefEqProofs [-e_fAt, check_web_ok, e1, e2, h10]
  rw [fLc_T t2 pD2 (fun _ => true) (fun p => pD2 (sh n1 p)) (fun p => [.val (W n1 t1), .val (W n2 t2), .no, .val (.int p.1), .val (.int p.2)])
    (by simp -implicitDefEqProofs [W]) w2.len
    (fun v hv s hs => by
      simp only [List.mem_cons, List.not_mem_nil, or_false] at hv
      rcases hv with rfl | rfl <;> (cases hs; rfl))
    (fun p _ => ⟨by simp -implicitDefEqProofs [pD2, wipeE], rfl⟩) (fun _ _ => rfl)
    (fun p m _ => ⟨.d (pD2 (sh n1 p)), by simp -implicitDefEqProofs [pD2, sh], rfl⟩)]
  rw [List.filter_eq_self.mpr (fun _ _ => rfl), show t2.map (fun p => pD2 (sh n1 p)) = (t2.map (sh n1)).map pD2 by rw [List.map_map]; rfl]
  have ew : W (n1 + n2) (t1 ++ t2.map (sh n1)) = .obj 0 [.int (n1 + n2), .tup (t1.map pD2 ++ (t2.map (sh n1)).map pD2)] := by
    unfold W
    rw [List.map_append]
  rw [ew]
  generalize (t2.map (sh n1)).map pD2 = u' at *
  simp -implicitDefEqProofs [-e_fAt, e1, e2, e3, s, t, mw]
end
end PL
namespace PL
open PySem PySem.Spec PyProof.Rows L2 TN
def b_are_bits : S := sRet (fAndV (fCall false m_are_below (aCons (fVar 0) (aCons (fC (.int 2)) (aNil)))) (fBin (dEq false) (fBi bLen (aCons (fVar 0) (aNil))) (fVar 1)))
def m_are_bits : Fn := fnOf false 2 b_are_bits
def b_masks_of : S := sCons (sSet 1 (fBin dMul (fLst (aCons (fC (.int 0)) (aNil))) (fAt 0 0 (fVar 0)))) (sCons (sFor (fSeq (fAt 0 1 (fVar 0))) (gT [2, 3]) (sCons (sAugS 1 (fun i j => i + j) (fVar 2) (fBin (oI gShl) (fC (.int 1)) (fVar 3))) (sAugS 1 (fun i j => i + j) (fVar 3) (fBin (oI gShl) (fC (.int 1)) (fVar 2))))) (sRet (fVar 1)))
def m_masks_of : Fn := fnOf false 4 b_masks_of
def b_has_marks_form : S := sCons (sIf (fOrB (fNotB (fTru (fBi bIsi (aCons (fVar 0) (aCons (fC (.ty "tuple")) (aNil)))))) (bOf (fBin (dEq true) (fBi bLen (aCons (fVar 0) (aNil))) (fVar 1)))) (sRet (fC (.bl false))) (sNil)) (sRet (fBi bAll (aCons (fLc (fEnumA (aCons (fVar 0) (aNil))) (gT [2, 3]) (bYes) (fAndV (fCall false m_are_bits (aCons (fVar 3) (aCons (fVar 1) (aNil)))) (fBin (dEq false) (fBin dIx (fVar 3) (fVar 2)) (fC (.int 0)))) [2, 3]) (aNil))))
def m_has_marks_form : Fn := fnOf false 4 b_has_marks_form
def b_marks_of : S := sCons (sExpr (fCall false m_check_ring (aCons (fVar 0) (aNil)))) (sCons (sSet 1 (fLc (fRng1 (aCons (fBin (oI gDiv) (fBi bLen (aCons (fVar 0) (aNil))) (fC (.int 2))) (aNil))) (gN 2) (bYes) (fCall false m_ends_of (aCons (fVar 0) (aCons (fVar 2) (aNil)))) [2])) (sRet (fBi bTuple (aCons (fLc (fSeq (fVar 1)) (gT [3, 4]) (bYes) (fBi bTuple (aCons (fLc (fSeq (fVar 1)) (gT [5, 6]) (bYes) (fIf (bOf (fChain (oI gLt) (oI gLt) (fVar 3) (fVar 5) (fVar 4))) (fC (.int 1)) (fC (.int 0))) [5, 6]) (aNil))) [3, 4]) (aNil)))))
def m_marks_of : Fn := fnOf false 7 b_marks_of
def b__sums_with : S := sCons (sSet 2 (fLst (aNil))) (sCons (sFor (fRng1 (aCons (fBi bLen (aCons (fVar 0) (aNil))) (aNil))) (gN 3) (sFor (fRng2 (aCons (fBin dAdd (fVar 3) (fC (.int 1))) (aCons (fBi bLen (aCons (fVar 0) (aNil))) (aNil)))) (gN 4) (sCons (sPar 5 6 (fBin (oI gAnd) (fBin (oI gShr) (fBin dIx (fVar 0) (fVar 3)) (fVar 4)) (fC (.int 1))) (fBin dAdd (fBin (oI gAnd) (fBin (oI gShr) (fBin dIx (fVar 0) (fVar 1)) (fVar 3)) (fC (.int 1))) (fBin (oI gAnd) (fBin (oI gShr) (fBin dIx (fVar 0) (fVar 1)) (fVar 4)) (fC (.int 1))))) (sCons (sIf (fAndB (fTru (fVar 5)) (bOf (fBin (dEq false) (fVar 6) (fC (.int 0))))) (sExpr (fApp 2 (fTup (aCons (fTup (aCons (fTup (aCons (fVar 1) (aCons (fVar 3) (aNil)))) (aCons (fTup (aCons (fVar 1) (aCons (fVar 4) (aNil)))) (aNil)))) (aCons (fC (.int 0)) (aNil)))))) (sNil)) (sIf (fAndB (fNotB (fTru (fVar 5))) (bOf (fBin (dEq false) (fVar 6) (fC (.int 2))))) (sExpr (fApp 2 (fTup (aCons (fTup (aCons (fTup (aCons (fVar 1) (aCons (fVar 3) (aNil)))) (aCons (fTup (aCons (fVar 1) (aCons (fVar 4) (aNil)))) (aCons (fTup (aCons (fVar 3) (aCons (fVar 4) (aNil)))) (aCons (fTup (aCons (fVar 4) (aCons (fVar 3) (aNil)))) (aNil)))))) (aCons (fC (.int 1)) (aNil)))))) (sNil)))))) (sRet (fVar 2)))
def m__sums_with : Fn := fnOf false 7 b__sums_with
def b_sums_of : S := sCons (sExpr (fCall false m_check_web (aCons (fVar 0) (aNil)))) (sCons (sSet 1 (fCall false m_masks_of (aCons (fVar 0) (aNil)))) (sCons (sSet 2 (fLc (fSeq (fAt 0 1 (fVar 0))) (gT [4, 5]) (bYes) (fTup (aCons (fTup (aCons (fTup (aCons (fVar 4) (aCons (fVar 5) (aNil)))) (aCons (fTup (aCons (fVar 5) (aCons (fVar 4) (aNil)))) (aNil)))) (aCons (fC (.int 1)) (aNil)))) [4, 5])) (sCons (sFor (fRng1 (aCons (fAt 0 0 (fVar 0)) (aNil))) (gN 3) (sSet 2 (fBin dAdd (fVar 2) (fCall false m__sums_with (aCons (fVar 1) (aCons (fVar 3) (aNil))))))) (sRet (fBi bTuple (aCons (fVar 2) (aNil)))))))
def m_sums_of : Fn := fnOf false 6 b_sums_of
def b__is_right : S := sRet (fBin (dEq false) (fBin (oI gMod) (fBi bSum (aCons (fLc (fSeq (fVar 1)) (gT [3, 4]) (bYes) (fBin dIx (fBin dIx (fVar 0) (fVar 3)) (fVar 4)) [3, 4]) (aNil))) (fC (.int 2))) (fVar 2))
def m__is_right : Fn := fnOf false 5 b__is_right
def b_are_marks : S := sCons (sExpr (fCall false m_check_web (aCons (fVar 0) (aNil)))) (sCons (sIf (fNotB (fTru (fCall false m_has_marks_form (aCons (fVar 1) (aCons (fAt 0 0 (fVar 0)) (aNil)))))) (sRet (fC (.bl false))) (sNil)) (sRet (fBi bAll (aCons (fLc (fSeq (fCall false m_sums_of (aCons (fVar 0) (aNil)))) (gT [2, 3]) (bYes) (fCall false m__is_right (aCons (fVar 1) (aCons (fVar 2) (aCons (fVar 3) (aNil))))) [2, 3]) (aNil)))))
def m_are_marks : Fn := fnOf false 4 b_are_marks
def b__law_drawn_ties : S := sCons (sPar 2 3 (fBin dAdd (fC (.int 1)) (fCall true m__law_ball (aCons (fVar 0) (aCons (fC (.int 4)) (aNil))))) (fLst (aNil))) (sCons (sFor (fRng1 (aCons (fVar 1) (aNil))) (gN 4) (sFor (fRng2 (aCons (fBin dAdd (fVar 4) (fC (.int 1))) (aCons (fVar 1) (aNil)))) (gN 5) (sIf (bOf (fBin (oI gLt) (fCall true m__law_ball (aCons (fVar 0) (aCons (fC (.int 5)) (aNil)))) (fVar 2))) (sExpr (fApp 3 (fTup (aCons (fVar 4) (aCons (fVar 5) (aNil)))))) (sNil)))) (sRet (fBi bTuple (aCons (fVar 3) (aNil)))))
def m__law_drawn_ties : Fn := fnOf true 6 b__law_drawn_ties
def b__law_marks : S := sCons (sPar 1 2 (fBin (oI gDiv) (fBi bLen (aCons (fVar 0) (aNil))) (fC (.int 2))) (fLst (aNil))) (sCons (sFor (fRng1 (aCons (fVar 1) (aNil))) (gN 3) (sCons (sAsg (gT [4, 5]) (fCall false m__law_ends (aCons (fVar 0) (aCons (fVar 3) (aNil))))) (sExpr (fApp 2 (fBi bTuple (aCons (fLc (fRng1 (aCons (fVar 1) (aNil))) (gN 6) (bYes) (fBi bInt (aCons (fChain (oI gLt) (oI gLt) (fVar 4) (fBin dIx (fCall false m__law_ends (aCons (fVar 0) (aCons (fVar 6) (aNil)))) (fC (.int 0))) (fVar 5)) (aNil))) [6]) (aNil))))))) (sRet (fBi bTuple (aCons (fVar 2) (aNil)))))
def m__law_marks : Fn := fnOf false 7 b__law_marks
def b__law_sums : S := sCons (sSet 2 (fLc (fSeq (fVar 1)) (gT [4, 5]) (bYes) (fTup (aCons (fTup (aCons (fTup (aCons (fVar 4) (aCons (fVar 5) (aNil)))) (aCons (fTup (aCons (fVar 5) (aCons (fVar 4) (aNil)))) (aNil)))) (aCons (fC (.int 1)) (aNil)))) [4, 5])) (sCons (sFor (fRng1 (aCons (fVar 0) (aNil))) (gN 3) (sFor (fRng1 (aCons (fVar 0) (aNil))) (gN 4) (sFor (fRng2 (aCons (fBin dAdd (fVar 4) (fC (.int 1))) (aCons (fVar 0) (aNil)))) (gN 5) (sCons (sPar 6 7 (fBin (dIn false) (fBi bTuple (aCons (fBi bSortedX (aCons (fLst (aCons (fVar 3) (aCons (fVar 4) (aNil)))) (aNil))) (aNil))) (fVar 1)) (fBin (dIn false) (fBi bTuple (aCons (fBi bSortedX (aCons (fLst (aCons (fVar 3) (aCons (fVar 5) (aNil)))) (aNil))) (aNil))) (fVar 1))) (sCons (sIf (fAndB (bOf (fBin (dIn true) (fVar 3) (fTup (aCons (fVar 4) (aCons (fVar 5) (aNil)))))) (fAndB (fTru (fVar 6)) (fAndB (fTru (fVar 7)) (bOf (fBin (dIn true) (fTup (aCons (fVar 4) (aCons (fVar 5) (aNil)))) (fVar 1)))))) (sExpr (fApp 2 (fTup (aCons (fTup (aCons (fTup (aCons (fVar 3) (aCons (fVar 4) (aNil)))) (aCons (fTup (aCons (fVar 3) (aCons (fVar 5) (aNil)))) (aCons (fTup (aCons (fVar 4) (aCons (fVar 5) (aNil)))) (aCons (fTup (aCons (fVar 5) (aCons (fVar 4) (aNil)))) (aNil)))))) (aCons (fC (.int 1)) (aNil)))))) (sNil)) (sIf (fAndB (bOf (fBin (dIn true) (fVar 3) (fTup (aCons (fVar 4) (aCons (fVar 5) (aNil)))))) (fAndB (fNotB (fTru (fVar 6))) (fAndB (fNotB (fTru (fVar 7))) (bOf (fBin (dIn false) (fTup (aCons (fVar 4) (aCons (fVar 5) (aNil)))) (fVar 1)))))) (sExpr (fApp 2 (fTup (aCons (fTup (aCons (fTup (aCons (fVar 3) (aCons (fVar 4) (aNil)))) (aCons (fTup (aCons (fVar 3) (aCons (fVar 5) (aNil)))) (aNil)))) (aCons (fC (.int 0)) (aNil)))))) (sNil))))))) (sRet (fVar 2)))
def m__law_sums : Fn := fnOf false 8 b__law_sums
def b__law_are_marks : S := sCons (sIf (fOrB (fNotB (fTru (fBi bIsi (aCons (fVar 1) (aCons (fC (.ty "tuple")) (aNil)))))) (bOf (fBin (dEq true) (fBi bLen (aCons (fVar 1) (aNil))) (fVar 0)))) (sRet (fC (.bl false))) (sNil)) (sCons (sFor (fEnumA (aCons (fVar 1) (aNil))) (gT [2, 3]) (sCons (sIf (fOrB (fNotB (fTru (fBi bIsi (aCons (fVar 3) (aCons (fC (.ty "tuple")) (aNil)))))) (fOrB (bOf (fBin (dEq true) (fBi bLen (aCons (fVar 3) (aNil))) (fVar 0))) (bOf (fBin (dEq true) (fLc (fSeq (fVar 3)) (gN 4) (fTru (fBi bIsi (aCons (fVar 4) (aCons (fC (.ty "bool")) (aNil))))) (fC (.int 1)) [4]) (fLst (aNil)))))) (sRet (fC (.bl false))) (sNil)) (sIf (fOrB (bOf (fBin (dEq true) (fLc (fSeq (fVar 3)) (gN 4) (fOrB (fNotB (fTru (fBi bIsi (aCons (fVar 4) (aCons (fC (.ty "int")) (aNil)))))) (bOf (fBin (dIn true) (fVar 4) (fTup (aCons (fC (.int 0)) (aCons (fC (.int 1)) (aNil))))))) (fC (.int 1)) [4]) (fLst (aNil)))) (bOf (fBin (dEq true) (fBin dIx (fVar 3) (fVar 2)) (fC (.int 0))))) (sRet (fC (.bl false))) (sNil)))) (sRet (fC (.bl true))))
def m__law_are_marks : Fn := fnOf false 5 b__law_are_marks
def b__law_do_hold : S := sRet (fBin (dEq false) (fLc (fSeq (fVar 0)) (gT [2, 3]) (bOf (fBin (dEq true) (fBin (oI gMod) (fBi bSum (aCons (fLc (fSeq (fVar 2)) (gT [4, 5]) (bYes) (fBin dIx (fBin dIx (fVar 1) (fVar 4)) (fVar 5)) [4, 5]) (aNil))) (fC (.int 2))) (fVar 3))) (fC (.int 1)) [2, 3]) (fLst (aNil)))
def m__law_do_hold : Fn := fnOf false 6 b__law_do_hold
def b__law_bent : S := sCons (sSet 2 (fBi bLen (aCons (fVar 1) (aNil)))) (sCons (sAsg (gT [3, 4]) (fTup (aCons (fCall true m__law_ball (aCons (fVar 0) (aCons (fVar 2) (aNil)))) (aCons (fCall true m__law_ball (aCons (fVar 0) (aCons (fVar 2) (aNil)))) (aNil))))) (sCons (sSet 5 (fBin dIx (fVar 1) (fVar 3))) (sCons (sSet 6 (fLst (aCons (fVar 1) (aCons (fBi bList (aCons (fVar 1) (aNil))) (aCons (fSl dSl (fVar 1) (oSome (fC (.int 1))) (oNone)) (aCons (fBin dAdd (fVar 1) (fTup (aCons (fBin dMulX (fTup (aCons (fC (.int 0)) (aNil))) (fVar 2)) (aNil)))) (aCons (fC .non) (aCons (fTup (aNil)) (aCons (fC (.int 0)) (aCons (fC (.str "01")) (aCons (fDct) (aNil)))))))))))) (sCons (sExpr (fApp 6 (fBi bTuple (aCons (fLc (fSeq (fVar 1)) (gN 5) (bYes) (fBi bList (aCons (fVar 5) (aNil))) [5]) (aNil))))) (sCons (sFor (fSeq (fTup (aCons (fBin (oI gMinus) (fC (.int 1)) (fBin dIx (fVar 5) (fVar 4))) (aCons (fC (.bl true)) (aCons (fC (.bl false)) (aCons (fC (.int 2)) (aCons (fUn (fun i => -i) (fC (.int 1))) (aCons (fC .non) (aCons (fC (.str "0")) (aCons (fBin (oI gPow) (fC (.int 10)) (fC (.int 60))) (aNil))))))))))) (gN 7) (sExpr (fApp 6 (fBin dAdd (fBin dAdd (fSl dSl (fVar 1) (oNone) (oSome (fVar 3))) (fTup (aCons (fBin dAdd (fBin dAdd (fSl dSl (fVar 5) (oNone) (oSome (fVar 4))) (fTup (aCons (fVar 7) (aNil)))) (fSl dSl (fVar 5) (oSome (fBin dAdd (fVar 4) (fC (.int 1)))) (oNone))) (aNil)))) (fSl dSl (fVar 1) (oSome (fBin dAdd (fVar 3) (fC (.int 1)))) (oNone)))))) (sCons (sSet 6 (fBin dAdd (fVar 6) (fLc (fSeq (fTup (aCons (fC (.int 0)) (aCons (fC .non) (aCons (fBin dMulX (fC (.str "0")) (fVar 2)) (aNil)))))) (gN 8) (bYes) (fBin dAdd (fBin dAdd (fSl dSl (fVar 1) (oNone) (oSome (fVar 3))) (fTup (aCons (fVar 8) (aNil)))) (fSl dSl (fVar 1) (oSome (fBin dAdd (fVar 3) (fC (.int 1)))) (oNone))) [8]))) (sRet (fBin dAdd (fVar 6) (fLst (aCons (fBin dAdd (fBin dAdd (fSl dSl (fVar 1) (oNone) (oSome (fVar 3))) (fTup (aCons (fSl dSl (fVar 5) (oNone) (oSome (fVar 4))) (aNil)))) (fSl dSl (fVar 1) (oSome (fBin dAdd (fVar 3) (fC (.int 1)))) (oNone))) (aCons (fBack (fVar 1)) (aCons (fBi bTuple (aCons (fLc (fSeq (fVar 1)) (gN 5) (bYes) (fBack (fVar 5)) [5]) (aNil))) (aNil)))))))))))))
def m__law_bent : Fn := fnOf true 9 b__law_bent
def b__law_right_k27 : S := sCons (sSet 1 (fBin dAdd (fC (.int 1)) (fCall true m__law_ball (aCons (fVar 0) (aCons (fC (.int 10)) (aNil)))))) (sCons (sPar 2 3 (fCall true m__law_ring (aCons (fVar 0) (aCons (fVar 1) (aNil)))) (fCall true m__law_drawn_ties (aCons (fVar 0) (aCons (fVar 1) (aNil))))) (sCons (sPar3 4 5 6 (fCall false m_web_of (aCons (fVar 2) (aNil))) (fCall false m__law_marks (aCons (fVar 2) (aNil))) (fCall false m__law_ties (aCons (fVar 2) (aNil)))) (sCons (sIf (fOrB (bOf (fBin (dEq true) (fCall false m_marks_of (aCons (fVar 2) (aNil))) (fVar 5))) (fNotB (fTru (fCall false m_are_marks (aCons (fVar 4) (aCons (fVar 5) (aNil))))))) (sRet (fC (.bl false))) (sNil)) (sCons (sPar 7 8 (fCall false m__law_sums (aCons (fVar 1) (aCons (fVar 6) (aNil)))) (fCall false m__law_sums (aCons (fVar 1) (aCons (fVar 3) (aNil))))) (sCons (sIf (fOrB (bOf (fBin (dEq true) (fCall false m_sums_of (aCons (fVar 4) (aNil))) (fBi bTuple (aCons (fVar 7) (aNil))))) (fOrB (bOf (fBin (dEq true) (fCall false m_sums_of (aCons (fMk 0 m_Web (aCons (fVar 1) (aCons (fVar 3) (aNil)))) (aNil))) (fBi bTuple (aCons (fVar 8) (aNil))))) (fNotB (fTru (fCall false m__law_do_hold (aCons (fVar 7) (aCons (fVar 5) (aNil)))))))) (sRet (fC (.bl false))) (sNil)) (sCons (sFor (fSeq (fCall true m__law_bent (aCons (fVar 0) (aCons (fVar 5) (aNil))))) (gN 9) (sCons (sSet 10 (fCall false m__law_are_marks (aCons (fVar 1) (aCons (fVar 9) (aNil))))) (sCons (sIf (bOf (fBin (dEq true) (fCall false m_are_marks (aCons (fVar 4) (aCons (fVar 9) (aNil)))) (fAndV (fVar 10) (fCall false m__law_do_hold (aCons (fVar 7) (aCons (fVar 9) (aNil))))))) (sRet (fC (.bl false))) (sNil)) (sIf (bOf (fBin (dEq true) (fCall false m_are_marks (aCons (fMk 0 m_Web (aCons (fVar 1) (aCons (fVar 3) (aNil)))) (aCons (fVar 9) (aNil)))) (fAndV (fVar 10) (fCall false m__law_do_hold (aCons (fVar 8) (aCons (fVar 9) (aNil))))))) (sRet (fC (.bl false))) (sNil))))) (sRet (fC (.bl true)))))))))
def m__law_right_k27 : Fn := fnOf true 11 b__law_right_k27
def b_law_k27 : S := sCons (sFor (fRng1 (aCons (fBi bMaxX (aCons (fC (.int 1)) (aCons (fBi bMinX (aCons (fC (.int 3)) (aCons (fBi bLen (aCons (fVar 0) (aNil))) (aNil)))) (aNil)))) (aNil))) (gN 1) (sCons (sSet 2 (fCall false m__law_urn (aCons (fVar 0) (aCons (fVar 1) (aNil))))) (sFor (fRng1 (aCons (fC (.int 4)) (aNil))) (gN 3) (sIf (fNotB (fTru (fCall true m__law_right_k27 (aCons (fVar 2) (aNil))))) (sRet (fC (.bl false))) (sNil))))) (sCons (sIf (fOrB (bOf (fBin (dEq true) (fCall false m_marks_of (aCons (fTup (aCons (fC (.int 0)) (aCons (fC (.int 1)) (aCons (fC (.int 0)) (aCons (fC (.int 1)) (aNil)))))) (aNil))) (fTup (aCons (fTup (aCons (fC (.int 0)) (aCons (fC (.int 1)) (aNil)))) (aCons (fTup (aCons (fC (.int 0)) (aCons (fC (.int 0)) (aNil)))) (aNil)))))) (bOf (fBin (dEq true) (fCall false m_sums_of (aCons (fMk 0 m_Web (aCons (fC (.int 2)) (aCons (fTup (aCons (fTup (aCons (fC (.int 0)) (aCons (fC (.int 1)) (aNil)))) (aNil))) (aNil)))) (aNil))) (fTup (aCons (fTup (aCons (fTup (aCons (fTup (aCons (fC (.int 0)) (aCons (fC (.int 1)) (aNil)))) (aCons (fTup (aCons (fC (.int 1)) (aCons (fC (.int 0)) (aNil)))) (aNil)))) (aCons (fC (.int 1)) (aNil)))) (aNil)))))) (sRet (fC (.bl false))) (sNil)) (sCons (sIf (bOf (fBin (dEq true) (fCall false m_sums_of (aCons (fMk 0 m_Web (aCons (fC (.int 3)) (aCons (fTup (aCons (fTup (aCons (fC (.int 0)) (aCons (fC (.int 1)) (aNil)))) (aNil))) (aNil)))) (aNil))) (fTup (aCons (fTup (aCons (fTup (aCons (fTup (aCons (fC (.int 0)) (aCons (fC (.int 1)) (aNil)))) (aCons (fTup (aCons (fC (.int 1)) (aCons (fC (.int 0)) (aNil)))) (aNil)))) (aCons (fC (.int 1)) (aNil)))) (aCons (fTup (aCons (fTup (aCons (fTup (aCons (fC (.int 2)) (aCons (fC (.int 0)) (aNil)))) (aCons (fTup (aCons (fC (.int 2)) (aCons (fC (.int 1)) (aNil)))) (aNil)))) (aCons (fC (.int 0)) (aNil)))) (aNil)))))) (sRet (fC (.bl false))) (sNil)) (sRet (fAndV (fBin (dEq false) (fBin dIx (fCall false m_sums_of (aCons (fMk 0 m_Web (aCons (fC (.int 3)) (aCons (fTup (aCons (fTup (aCons (fC (.int 0)) (aCons (fC (.int 1)) (aNil)))) (aCons (fTup (aCons (fC (.int 0)) (aCons (fC (.int 2)) (aNil)))) (aNil)))) (aNil)))) (aNil))) (fC (.int 2))) (fTup (aCons (fTup (aCons (fTup (aCons (fC (.int 0)) (aCons (fC (.int 1)) (aNil)))) (aCons (fTup (aCons (fC (.int 0)) (aCons (fC (.int 2)) (aNil)))) (aCons (fTup (aCons (fC (.int 1)) (aCons (fC (.int 2)) (aNil)))) (aCons (fTup (aCons (fC (.int 2)) (aCons (fC (.int 1)) (aNil)))) (aNil)))))) (aCons (fC (.int 1)) (aNil))))) (fBin (dEq false) (fCall false m_sums_of (aCons (fMk 0 m_Web (aCons (fC (.int 3)) (aCons (fTup (aNil)) (aNil)))) (aNil))) (fTup (aNil)))))))
def m_law_k27 : Fn := fnOf false 4 b_law_k27
end PL
namespace PL
open PySem PySem.Spec PyProof.Rows L2 TN RM
/-! ### the form of marks -/
def bitB : D → Bool
  | .int i => decide (0 ≤ i) && decide (i < 2)
  | _ => false
def zeroB : Option D → Bool
  | some (.int i) => decide (i = 0)
  | _ => false
def rowB (n : Int) (at_ : Nat) : D → Bool
  | .tup xs => xs.all bitB && (decide ((xs.length : Int) = n) && zeroB xs[at_]?)
  | _ => false
def enumP : Nat → List D → List (Nat × D)
  | _, [] => []
  | i, d :: ds => (i, d) :: enumP (i + 1) ds
theorem enumP_eq : ∀ (ds : List D) (i : Nat), enumD i ds = (enumP i ds).map fun p => D.wtup [.int p.1, p.2]
  | [], _ => rfl
  | d :: ds, i => by
    show D.wtup [.int i, d] :: enumD (i + 1) ds = _
    rw [enumP_eq ds (i + 1)]
    rfl
theorem enumP_len : ∀ (ds : List D) (i : Nat), (enumP i ds).length = ds.length
  | [], _ => rfl
  | d :: ds, i => by simp [enumP, enumP_len ds]
theorem enumP_mem : ∀ {ds : List D} {i : Nat} {p : Nat × D}, p ∈ enumP i ds → p.2 ∈ ds ∧ i ≤ p.1 ∧ p.1 < i + ds.length
  | d :: ds, i, p, h => by
    rcases List.mem_cons.mp h with e | m
    · subst e; exact ⟨List.mem_cons_self, Nat.le_refl _, by simp⟩
    · obtain ⟨a, b, c⟩ := enumP_mem m
      exact ⟨List.mem_cons_of_mem _ a, by omega, by rw [List.length_cons]; omega⟩
def marksB (n : Int) : D → Bool
  | .tup rows => decide ((rows.length : Int) = n) && (enumP 0 rows).all fun p => rowB n p.1 p.2
  | _ => false
def Good1 (d : D) : Prop := (tyOf d).isSome ∧ ∀ xs, d = .tup xs → xs.length ≤ 1000 ∧ ∀ x ∈ xs, (tyOf x).isSome
def Good2 (d : D) : Prop := (tyOf d).isSome ∧ ∀ xs, d = .tup xs → xs.length ≤ 1000 ∧ ∀ x ∈ xs, Good1 x
theorem below2 {d : D} (h : (tyOf d).isSome) : m_is_below [d, .int 2] = .ok (.d (.bl (bitB d)), []) := by
  cases d with
  | int k => exact below_eq k 2
  | _ => simp -implicitDefEqProofs [m_is_below, b_is_below, whole_eq, wholeD, bitB, tyOf] <;> simp [tyOf] at h
theorem are_bits_ok {d : D} (h : Good1 d) (n : Int) : m_are_bits [d, .int n] = .ok (.d (.bl (match d with | .tup xs => xs.all bitB && decide ((xs.length : Int) = n) | _ => false)), []) := by
  obtain ⟨h1, h2⟩ := h
  cases d with
  | tup xs =>
    obtain ⟨h3, h4⟩ := h2 xs rfl
    have ab : m_are_below [.tup xs, .int 2] = .ok (.d (.bl (xs.all bitB)), []) := by
      simp -implicitDefEqProofs [m_are_below, b_are_below, bIsi, tyOf, isiT]
      rw [fLc_I xs id (fun _ => true) (fun k => D.bl (bitB k)) (by simp -implicitDefEqProofs) (by omega) rfl rfl (fun a _ => rfl) (fun a m _ => ⟨.d (.bl (bitB a)), by simp -implicitDefEqProofs [below2 (h4 a m)], rfl⟩)]
      rw [List.filter_eq_self.mpr (fun _ _ => rfl)]
      simp -implicitDefEqProofs [bAll_map]
    cases c : xs.all bitB <;> simp -implicitDefEqProofs [m_are_bits, b_are_bits, ab, c, dEq_intN]
  | _ => simp -implicitDefEqProofs [m_are_bits, b_are_bits, m_are_below, b_are_below, bIsi, tyOf, isiT] <;> simp [tyOf] at h1
theorem zero_ix {xs : List D} {i : Nat} (hi : i < xs.length) (h : xs.all bitB = true) : ∃ k, xs[i]? = some (.int k) := by
  have e := List.getElem?_eq_getElem hi
  have b := List.all_eq_true.mp h _ (List.getElem_mem hi)
  cases q : xs[i] with
  | int k => exact ⟨k, by rw [e, q]⟩
  | _ => rw [q] at b; simp [bitB] at b
theorem row_ok {d : D} (h : Good1 d) {n : Int} {i : Nat} (hi : (i : Int) < n) (env : Ev) (h1 : env[1]? = some (.val (.int n))) (h2 : env[2]? = some (.val (.int i))) (h3 : env[3]? = some (.val d)) :
    fAndV (fCall false m_are_bits (aCons (fVar 3) (aCons (fVar 1) (aNil)))) (fBin (dEq false) (fBin dIx (fVar 3) (fVar 2)) (fC (.int 0))) env = .ok (.d (.bl (rowB n i d)), env) := by
  have ab := are_bits_ok h n
  have e1 : fVar 1 env = .ok (.d (.int n), env) := by simp -implicitDefEqProofs [h1]
  have e2 : fVar 2 env = .ok (.d (.int i), env) := by simp -implicitDefEqProofs [h2]
  have e3 : fVar 3 env = .ok (.d d, env) := by simp -implicitDefEqProofs [h3]
  cases d with
  | tup xs =>
    simp only at ab
    cases c : xs.all bitB with
    | false =>
      rw [c] at ab
      simp -implicitDefEqProofs [h1, h2, h3, ab, rowB, c]
    | true =>
      rw [c] at ab
      by_cases l : (xs.length : Int) = n
      · obtain ⟨k, hk⟩ := zero_ix (i := i) (by omega) c
        have ix : atI xs (i : Int) = some (.int k) := by rw [e_atN, hk]
        simp -implicitDefEqProofs [h1, h2, h3, ab, rowB, c, l, ix, dEq_intN, hk, zeroB]
      · simp -implicitDefEqProofs [h1, h2, h3, ab, rowB, c, l]
  | _ => simp -implicitDefEqProofs [h1, h2, h3, ab, rowB]
theorem form_ok {d : D} (h : Good2 d) (n : Int) : m_has_marks_form [d, .int n] = .ok (.d (.bl (marksB n d)), []) := by
  obtain ⟨h1, h2⟩ := h
  cases d with
  | tup rows =>
    obtain ⟨h3, h4⟩ := h2 rows rfl
    by_cases l : (rows.length : Int) = n
    · simp -implicitDefEqProofs only [m_has_marks_form, b_has_marks_form, e_fn, e_stE0, e_ofs, e_bok, e_sCons, List.map_cons, List.map_nil, List.length_cons, List.length_nil]
      simp -implicitDefEqProofs [bIsi, tyOf, isiT, dEq_intN, l]
      rw [fLc_T (enumP 0 rows) (fun p => D.wtup [.int p.1, p.2]) (fun _ => true) (fun p => D.bl (rowB n p.1 p.2)) (fun p => [.val (.tup rows), .val (.int n), .val (.int p.1), .val p.2])
        (by simp -implicitDefEqProofs [← enumP_eq]) (by rw [enumP_len]; omega)
        (fun v hv s hs => by
          simp only [List.mem_cons, List.not_mem_nil, or_false] at hv
          rcases hv with rfl | rfl <;> (cases hs; rfl))
        (fun p _ => ⟨by simp -implicitDefEqProofs [wipeE], rfl⟩) (fun _ _ => rfl)
        (fun p m _ => by
          obtain ⟨a, b, c⟩ := enumP_mem m
          exact ⟨.d (.bl (rowB n p.1 p.2)), row_ok (h4 _ a) (by omega) _ rfl rfl rfl, rfl⟩)]
      rw [List.filter_eq_self.mpr (fun _ _ => rfl)]
      simp -implicitDefEqProofs [bAll_map, marksB, l]
    · simp -implicitDefEqProofs [m_has_marks_form, b_has_marks_form, bIsi, tyOf, isiT, dEq_intN, l, marksB]
  | _ => simp -implicitDefEqProofs [m_has_marks_form, b_has_marks_form, bIsi, tyOf, isiT, marksB] <;> simp [tyOf] at h1
end PL
namespace PL
open PySem PySem.Spec PyProof.Rows L2 TN RM
theorem forF_test {α : Type} {ga : GA} {s : S} (e : α → D) (p : α → Bool) (I : Ev → Prop) (r : R) : ∀ (as : List α) (w : Ev), I w →
    (∀ a ∈ as, ∀ w, I w → ∃ w1 w2, ga (e a) w = some w1 ∧ s w1 = .ok (if p a then .nx else .ret r, w2) ∧ I w2) → ∃ w', forF ga s (as.map e) w = .ok (if as.all p then .nx else .ret r, w') ∧ I w'
  | [], w, h, _ => ⟨w, rfl, h⟩
  | a :: as, w, h, hs => by
    obtain ⟨w1, w2, h1, h2, h3⟩ := hs a List.mem_cons_self w h
    obtain ⟨w3, h4, h5⟩ := forF_test e p I r as w2 h3 fun b m => hs b (List.mem_cons_of_mem _ m)
    cases c : p a with
    | true =>
      rw [c] at h2
      refine ⟨w3, ?_, h5⟩
      show (ofO (ga (e a) w)).bind _ = _
      rw [h1]
      show (s w1).bind _ = _
      rw [h2, List.all_cons, c, Bool.true_and]
      exact h4
    | false =>
      rw [c] at h2
      refine ⟨w2, ?_, h3⟩
      show (ofO (ga (e a) w)).bind _ = _
      rw [h1]
      show (s w1).bind _ = _
      rw [h2, List.all_cons, c, Bool.false_and]
      rfl
theorem ones_ne {α : Type} (l : List α) : dEq true (.lst (l.map fun _ => D.int 1)) (.lst []) = .ok (.d (.bl (!l.isEmpty))) := by
  have := dEq_enL (α := Int) true (l.map fun _ => 1) [] (by decide)
  rw [List.map_map] at this
  have e : (l.map fun _ => D.int 1) = l.map (D.int ∘ fun _ => (1 : Int)) := rfl
  rw [e]
  refine Eq.trans this ?_
  cases l <;> simp
def boolB : D → Bool
  | .bl _ => true
  | _ => false
theorem filter_empty {α : Type} (p : α → Bool) (l : List α) : (!(l.filter p).isEmpty) = l.any p := by
  induction l with
  | nil => rfl
  | cons a l ih =>
    cases c : p a
    · rw [List.filter_cons_of_neg (by simp [c]), List.any_cons, c, ih]; rfl
    · rw [List.filter_cons_of_pos c, List.any_cons, c]; rfl
theorem law_row_ok {d : D} (h : Good1 d) {n : Int} {i : Nat} (hi : (i : Int) < n) (v : D) : ∃ b, 
    (sCons (sIf (fOrB (fNotB (fTru (fBi bIsi (aCons (fVar 3) (aCons (fC (.ty "tuple")) (aNil)))))) (fOrB (bOf (fBin (dEq true) (fBi bLen (aCons (fVar 3) (aNil))) (fVar 0))) (bOf (fBin (dEq true) (fLc (fSeq (fVar 3)) (gN 4) (fTru (fBi bIsi (aCons (fVar 4) (aCons (fC (.ty "bool")) (aNil))))) (fC (.int 1)) [4]) (fLst (aNil)))))) (sRet (fC (.bl false))) (sNil)) (sIf (fOrB (bOf (fBin (dEq true) (fLc (fSeq (fVar 3)) (gN 4) (fOrB (fNotB (fTru (fBi bIsi (aCons (fVar 4) (aCons (fC (.ty "int")) (aNil)))))) (bOf (fBin (dIn true) (fVar 4) (fTup (aCons (fC (.int 0)) (aCons (fC (.int 1)) (aNil))))))) (fC (.int 1)) [4]) (fLst (aNil)))) (bOf (fBin (dEq true) (fBin dIx (fVar 3) (fVar 2)) (fC (.int 0))))) (sRet (fC (.bl false))) (sNil)))
      [.val (.int n), .val v, .val (.int i), .val d, .no] = .ok (b, [.val (.int n), .val v, .val (.int i), .val d, .no]) ∧ b = (if rowB n i d then Fl.nx else Fl.ret (.d (.bl false))) := by
  obtain ⟨h1, h2⟩ := h
  cases d with
  | tup xs =>
    obtain ⟨h3, h4⟩ := h2 xs rfl
    by_cases l : (xs.length : Int) = n
    · have lc1 : fLc (fSeq (fVar 3)) (gN 4) (fTru (fBi bIsi (aCons (fVar 4) (aCons (fC (.ty "bool")) (aNil))))) (fC (.int 1)) [4] [.val (.int n), .val v, .val (.int i), .val (.tup xs), .no] = .ok (.new ((xs.filter boolB).map fun _ => D.int 1), [.val (.int n), .val v, .val (.int i), .val (.tup xs), .no]) := by
        rw [fLc_I xs id boolB (fun _ => D.int 1) (by simp -implicitDefEqProofs) (by omega) rfl rfl
          (fun x m => by
            have := h4 x m
            cases x <;> simp -implicitDefEqProofs [bIsi, tyOf, isiT, boolB] <;> simp [tyOf] at this)
          (fun x m _ => ⟨.d (.int 1), by simp -implicitDefEqProofs, rfl⟩)]
      cases c : xs.any boolB with
      | true =>
        have o := ones_ne (xs.filter boolB)
        rw [filter_empty, c] at o
        have rb : rowB n i (.tup xs) = false := by
          obtain ⟨x, m, hx⟩ := List.any_eq_true.mp c
          have : xs.all bitB = false := by
            refine Bool.eq_false_iff.mpr fun w => ?_
            have := List.all_eq_true.mp w x m
            cases x <;> simp [boolB] at hx
            simp [bitB] at this
          simp [rowB, this]
        refine ⟨_, ?_, rfl⟩
        rw [rb]
        simp -implicitDefEqProofs [bIsi, tyOf, isiT, dEq_intN, l, lc1, o]
      | false =>
        have o := ones_ne (xs.filter boolB)
        rw [filter_empty, c] at o
        have nb : ∀ x ∈ xs, boolB x = false := fun x m => by
          have := List.any_eq_false.mp c x m
          simpa using this
        have lc2 : fLc (fSeq (fVar 3)) (gN 4) (fOrB (fNotB (fTru (fBi bIsi (aCons (fVar 4) (aCons (fC (.ty "int")) (aNil)))))) (bOf (fBin (dIn true) (fVar 4) (fTup (aCons (fC (.int 0)) (aCons (fC (.int 1)) (aNil))))))) (fC (.int 1)) [4] [.val (.int n), .val v, .val (.int i), .val (.tup xs), .no] = .ok (.new ((xs.filter fun x => !bitB x).map fun _ => D.int 1), [.val (.int n), .val v, .val (.int i), .val (.tup xs), .no]) := by
          rw [fLc_I xs id (fun x => !bitB x) (fun _ => D.int 1) (by simp -implicitDefEqProofs) (by omega) rfl rfl
            (fun x m => by
              have q := h4 x m
              have nbx := nb x m
              cases x with
              | int k =>
                have := dIn_ints true k [0, 1]
                simp only [List.map_cons, List.map_nil] at this
                simp -implicitDefEqProofs [bIsi, tyOf, isiT, this, bitB]
                by_cases k0 : k = 0
                · subst k0; simp
                · by_cases k1 : k = 1
                  · subst k1; simp
                  · simp [k0, k1]; omega
              | bl b => simp [boolB] at nbx
              | _ => simp -implicitDefEqProofs [bIsi, tyOf, isiT, bitB] <;> simp [tyOf] at q)
            (fun x m _ => ⟨.d (.int 1), by simp -implicitDefEqProofs, rfl⟩)]
        have o2 := ones_ne (xs.filter fun x => !bitB x)
        rw [filter_empty] at o2
        cases c2 : xs.all bitB with
        | false =>
          have c3 : (xs.any fun x => !bitB x) = true := by
            rw [← List.not_all_eq_any_not, c2]; rfl
          rw [c3] at o2
          refine ⟨_, ?_, rfl⟩
          rw [show rowB n i (.tup xs) = false by simp [rowB, c2]]
          simp -implicitDefEqProofs [bIsi, tyOf, isiT, dEq_intN, l, lc1, o, lc2, o2]
        | true =>
          have c3 : (xs.any fun x => !bitB x) = false := by
            rw [← List.not_all_eq_any_not, c2]; rfl
          rw [c3] at o2
          obtain ⟨k, hk⟩ := zero_ix (i := i) (by omega) c2
          have ix : atI xs (i : Int) = some (.int k) := by rw [e_atN, hk]
          refine ⟨_, ?_, rfl⟩
          by_cases kz : k = 0
          · rw [show rowB n i (.tup xs) = true by simp [rowB, c2, l, hk, zeroB, kz]]
            simp -implicitDefEqProofs [bIsi, tyOf, isiT, dEq_intN, l, lc1, o, lc2, o2, ix, kz]
          · rw [show rowB n i (.tup xs) = false by simp [rowB, c2, l, hk, zeroB, kz]]
            simp -implicitDefEqProofs [bIsi, tyOf, isiT, dEq_intN, l, lc1, o, lc2, o2, ix, kz]
    · refine ⟨_, ?_, rfl⟩
      rw [show rowB n i (.tup xs) = false by simp [rowB, l]]
      simp -implicitDefEqProofs [bIsi, tyOf, isiT, dEq_intN, l]
  | _ =>
    refine ⟨_, ?_, rfl⟩
    simp -implicitDefEqProofs [bIsi, tyOf, isiT, rowB] <;> simp [tyOf] at h1
theorem law_form_ok' {d : D} (h : Good2 d) (n : Int) : m__law_are_marks [.int n, d] = .ok (.d (.bl (marksB n d)), []) := by
  obtain ⟨h1, h2⟩ := h
  cases d with
  | tup rows =>
    obtain ⟨h3, h4⟩ := h2 rows rfl
    by_cases l : (rows.length : Int) = n
    · obtain ⟨w, f1, x, y, z, f2⟩ := forF_test (ga := gT [2, 3]) (s := sCons (sIf (fOrB (fNotB (fTru (fBi bIsi (aCons (fVar 3) (aCons (fC (.ty "tuple")) (aNil)))))) (fOrB (bOf (fBin (dEq true) (fBi bLen (aCons (fVar 3) (aNil))) (fVar 0))) (bOf (fBin (dEq true) (fLc (fSeq (fVar 3)) (gN 4) (fTru (fBi bIsi (aCons (fVar 4) (aCons (fC (.ty "bool")) (aNil))))) (fC (.int 1)) [4]) (fLst (aNil)))))) (sRet (fC (.bl false))) (sNil)) (sIf (fOrB (bOf (fBin (dEq true) (fLc (fSeq (fVar 3)) (gN 4) (fOrB (fNotB (fTru (fBi bIsi (aCons (fVar 4) (aCons (fC (.ty "int")) (aNil)))))) (bOf (fBin (dIn true) (fVar 4) (fTup (aCons (fC (.int 0)) (aCons (fC (.int 1)) (aNil))))))) (fC (.int 1)) [4]) (fLst (aNil)))) (bOf (fBin (dEq true) (fBin dIx (fVar 3) (fVar 2)) (fC (.int 0))))) (sRet (fC (.bl false))) (sNil)))
        (fun p : Nat × D => D.wtup [.int p.1, p.2]) (fun p => rowB n p.1 p.2) (fun w => ∃ x y, w = [.val (.int n), .val (.tup rows), x, y, .no]) (.d (.bl false)) (enumP 0 rows) [.val (.int n), .val (.tup rows), .no, .no, .no] ⟨_, _, rfl⟩ (fun p m w ⟨x, y, hw⟩ => by
          subst hw
          obtain ⟨a, b, c⟩ := enumP_mem m
          obtain ⟨q, e1, e2⟩ := law_row_ok (h4 _ a) (n := n) (i := p.1) (by omega) (.tup rows)
          rw [e2] at e1
          exact ⟨_, _, by simp -implicitDefEqProofs, e1, _, _, rfl⟩)
      have mb : marksB n (.tup rows) = (enumP 0 rows).all fun p => rowB n p.1 p.2 := by simp [marksB, l]
      rw [mb]
      simp -implicitDefEqProofs only [m__law_are_marks, b__law_are_marks, e_fn, e_stE0, e_ofs, e_bok, e_sCons, List.map_cons, List.map_nil, List.length_cons, List.length_nil]
      cases c : (enumP 0 rows).all fun p => rowB n p.1 p.2 <;> rw [c] at f1 <;> simp -implicitDefEqProofs [bIsi, tyOf, isiT, dEq_intN, l, enumP_eq, f1]
    · simp -implicitDefEqProofs [m__law_are_marks, b__law_are_marks, bIsi, tyOf, isiT, dEq_intN, l, marksB]
  | _ => simp -implicitDefEqProofs [m__law_are_marks, b__law_are_marks, bIsi, tyOf, isiT, marksB] <;> simp [tyOf] at h1
end PL
namespace PL
open PySem PySem.Spec PyProof.Rows L2 TN RM
abbrev Sm := List (Int × Int) × Int
def smD (s : Sm) : D := .tup [.tup (s.1.map pD2), .int s.2]
theorem dIn_pairs (neg : Bool) (x : Int × Int) (ps : List (Int × Int)) : dIn neg (pD2 x) (.tup (ps.map pD2)) = .ok (.d (.bl (if neg then !ps.contains x else ps.contains x))) := by
  have e1 : toPy (pD2 x) = some (En.p x) := En.to x
  have e2 : toPy (.tup (ps.map pD2)) = some (.tuple (ps.map En.p)) := by
    have : toPyL (ps.map pD2) = some (ps.map En.p) := toPyL_en ps
    simp only [toPy, this]
  have any_ : (ps.map En.p).any (fun y => PyData.eqv y (En.p x)) = ps.contains x := by
    rw [List.any_map]
    induction ps with
    | nil => rfl
    | cons n ns ih =>
      have e3 : toPy (.tup (ns.map pD2)) = some (.tuple (ns.map En.p)) := by
        have : toPyL (ns.map pD2) = some (ns.map En.p) := toPyL_en ns
        simp only [toPy, this]
      rw [List.any_cons, ih e3, List.contains_cons]
      congr 1
      show PyData.eqv (En.p n) (En.p x) = _
      rw [En.eq]
      by_cases h : n = x
      · subst h; simp
      · rw [decide_eq_false h, beq_eq_false_iff_ne.mpr (Ne.symm h)]
  unfold dIn
  rw [e1, e2]
  simp only
  rw [if_pos (Nat.le_trans (En.dp x) (by decide)), any_]
/-! ### what holds of marks -/
def rowD (n : Int) (f : Int → Int) : D := .tup ((rngI n).map fun b => .int (f b))
def msD (n : Int) (mk : Int → Int → Int) : D := .tup ((rngI n).map fun a => rowD n (mk a))
theorem at_rng {α : Type} {n k : Int} (f : Int → α) (h0 : 0 ≤ k) (h1 : k < n) : atI ((rngI n).map f) k = some (f k) := by
  obtain ⟨j, rfl⟩ : ∃ j : Nat, k = j := ⟨k.toNat, by omega⟩
  refine atI_nat ?_
  unfold rngI
  rw [List.getElem?_map, List.getElem?_map, List.getElem?_range (by omega)]
  rfl
theorem ms_of {n : Int} {d : D} (h0 : 0 ≤ n) (h : marksB n d = true) : ∃ mk : Int → Int → Int, d = msD n mk := by
  cases d with
  | tup rows =>
    simp only [marksB, Bool.and_eq_true, decide_eq_true_eq] at h
    obtain ⟨hl, ha⟩ := h
    have rb : ∀ r ∈ rows, ∃ i, rowB n i r = true := by
      have key : ∀ (ds : List D) (i : Nat), ((enumP i ds).all fun p => rowB n p.1 p.2) = true → ∀ r ∈ ds, ∃ j, rowB n j r = true := by
        intro ds
        induction ds with
        | nil => intro _ _ r m; cases m
        | cons d ds ih =>
          intro i q r m
          simp only [enumP, List.all_cons, Bool.and_eq_true] at q
          rcases List.mem_cons.mp m with e | m
          · subst e; exact ⟨_, q.1⟩
          · exact ih _ q.2 r m
      exact key rows 0 ha
    have rr : ∀ r ∈ rows, ∃ f : Int → Int, r = rowD n f := fun r m => by
      obtain ⟨i, hi⟩ := rb r m
      cases r with
      | tup xs =>
        simp only [rowB, Bool.and_eq_true, decide_eq_true_eq] at hi
        obtain ⟨c, lx, _⟩ := hi
        have : ∃ is : List Int, xs = is.map D.int := by
          refine ints_of (List.all_eq_true.mpr fun x m => ?_)
          have := List.all_eq_true.mp c x m
          cases x <;> simp [bitB] at this
          rfl
        obtain ⟨is, rfl⟩ := this
        refine ⟨nth is, ?_⟩
        rw [List.length_map] at lx
        have e := map_nth' (o := is) (n := n) (by omega)
        unfold rowD
        have : (rngI n).map (fun b => D.int (nth is b)) = ((rngI n).map (nth is)).map D.int := by rw [List.map_map]; rfl
        rw [this, e]
      | _ => simp [rowB] at hi
    have all : ∀ (ds : List D), (∀ r ∈ ds, ∃ f : Int → Int, r = rowD n f) → ∃ fs : List (Int → Int), ds = fs.map (rowD n) := by
      intro ds
      induction ds with
      | nil => intro _; exact ⟨[], rfl⟩
      | cons d ds ih =>
        intro q
        obtain ⟨fs, e⟩ := ih fun r m => q r (List.mem_cons_of_mem _ m)
        obtain ⟨f, e'⟩ := q d List.mem_cons_self
        exact ⟨f :: fs, by rw [List.map_cons, ← e, ← e']⟩
    obtain ⟨fs, rfl⟩ := all rows rr
    rw [List.length_map] at hl
    refine ⟨fun a => fs.getD a.toNat (fun _ => 0), ?_⟩
    unfold msD
    congr 1
    apply List.ext_getElem?
    intro i
    unfold rngI
    rw [List.getElem?_map, List.getElem?_map, List.getElem?_map]
    by_cases hi : i < fs.length
    · rw [List.getElem?_range (by omega), List.getElem?_eq_getElem hi]
      simp [List.getElem?_eq_getElem hi]
    · rw [List.getElem?_eq_none (by omega), List.getElem?_eq_none (show (List.range n.toNat).length ≤ i by rw [List.length_range]; omega)]
      rfl
  | _ => simp [marksB] at h
def holdS (mk : Int → Int → Int) (s : Sm) : Bool := decide ((s.1.map fun p => mk p.1 p.2).sum % 2 = s.2)
def InS (n : Int) (s : Sm) : Prop := s.1.length ≤ 1000 ∧ ∀ p ∈ s.1, (0 ≤ p.1 ∧ p.1 < n) ∧ 0 ≤ p.2 ∧ p.2 < n
theorem sum_lc {n : Int} (mk : Int → Int → Int) {s : Sm} (h : InS n s) : bSum [.lst (s.1.map fun p => D.int (mk p.1 p.2))] = .ok (.d (.int (s.1.map fun p => mk p.1 p.2).sum)) := by
  have e : (s.1.map fun p => D.int (mk p.1 p.2)) = (s.1.map fun p => mk p.1 p.2).map D.int := by rw [List.map_map]; rfl
  unfold bSum
  rw [e]
  simp only [toInts_of]
theorem is_right_ok {n : Int} (mk : Int → Int → Int) {s : Sm} (h : InS n s) : m__is_right [msD n mk, .tup (s.1.map pD2), .int s.2] = .ok (.d (.bl (holdS mk s)), []) := by
  have sm := sum_lc mk h
  simp -implicitDefEqProofs only [m__is_right, b__is_right, e_fn, e_stE0, e_ofs, e_bok, List.map_cons, List.map_nil, List.length_cons, List.length_nil]
  simp -implicitDefEqProofs
  rw [fLc_T s.1 pD2 (fun _ => true) (fun p => D.int (mk p.1 p.2)) (fun p => [.val (msD n mk), .val (.tup (s.1.map pD2)), .val (.int s.2), .val (.int p.1), .val (.int p.2)]) (by simp -implicitDefEqProofs) (by have := h.1; omega)
    (fun v hv s hs => by
      simp only [List.mem_cons, List.not_mem_nil, or_false] at hv
      rcases hv with rfl | rfl <;> (cases hs; rfl))
    (fun p _ => ⟨by simp -implicitDefEqProofs [pD2, wipeE], rfl⟩) (fun _ _ => rfl)
    (fun p m _ => by
      obtain ⟨⟨a0, a1⟩, b0, b1⟩ := h.2 p m
      exact ⟨.d (.int (mk p.1 p.2)), by simp -implicitDefEqProofs [msD, rowD, at_rng _ a0 a1, at_rng _ b0 b1], rfl⟩)]
  rw [List.filter_eq_self.mpr (fun _ _ => rfl)]
  simp -implicitDefEqProofs [sm, e_gmod, dEq_intN, holdS]
theorem do_hold_ok {n : Int} (mk : Int → Int → Int) {ss : List Sm} (hl : ss.length ≤ 100000) (h : ∀ s ∈ ss, InS n s) : m__law_do_hold [.lst (ss.map smD), msD n mk] = .ok (.d (.bl (ss.all (holdS mk))), []) := by
  simp -implicitDefEqProofs only [m__law_do_hold, b__law_do_hold, e_fn, e_stE0, e_ofs, e_bok, List.map_cons, List.map_nil, List.length_cons, List.length_nil]
  simp -implicitDefEqProofs
  rw [fLc_T ss smD (fun s => !holdS mk s) (fun s => D.int 1) (fun s => [.val (.lst (ss.map smD)), .val (msD n mk), .val (.tup (s.1.map pD2)), .val (.int s.2), .no, .no]) (by simp -implicitDefEqProofs) hl
    (fun v hv s hs => by
      simp only [List.mem_cons, List.not_mem_nil, or_false] at hv
      rcases hv with rfl | rfl <;> (cases hs; rfl))
    (fun s _ => ⟨by simp -implicitDefEqProofs [smD, wipeE], rfl⟩)
    (fun s m => by
      have hs := h s m
      have sm := sum_lc mk hs
      simp -implicitDefEqProofs
      rw [fLc_T s.1 pD2 (fun _ => true) (fun p => D.int (mk p.1 p.2)) (fun p => [.val (.lst (ss.map smD)), .val (msD n mk), .val (.tup (s.1.map pD2)), .val (.int s.2), .val (.int p.1), .val (.int p.2)]) (by simp -implicitDefEqProofs) (by have := hs.1; omega)
        (fun v hv s hs => by
          simp only [List.mem_cons, List.not_mem_nil, or_false] at hv
          rcases hv with rfl | rfl <;> (cases hs; rfl))
        (fun p _ => ⟨by simp -implicitDefEqProofs [pD2, wipeE], rfl⟩) (fun _ _ => rfl)
        (fun p m _ => by
          obtain ⟨⟨a0, a1⟩, b0, b1⟩ := hs.2 p m
          exact ⟨.d (.int (mk p.1 p.2)), by simp -implicitDefEqProofs [msD, rowD, at_rng _ a0 a1, at_rng _ b0 b1], rfl⟩)]
      rw [List.filter_eq_self.mpr (fun _ _ => rfl)]
      simp -implicitDefEqProofs [sm, e_gmod, dEq_intN, holdS])
    (fun s _ _ => ⟨.d (.int 1), by simp -implicitDefEqProofs, rfl⟩)]
  have o := ones_ne (ss.filter fun s => !holdS mk s)
  have e : dEq false (.lst ((ss.filter fun s => !holdS mk s).map fun _ => D.int 1)) (.lst []) = .ok (.d (.bl (ss.all (holdS mk)))) := by
    have := dEq_enL (α := Int) false ((ss.filter fun s => !holdS mk s).map fun _ => 1) [] (by decide)
    rw [List.map_map] at this
    have e : ((ss.filter fun s => !holdS mk s).map fun _ => D.int 1) = (ss.filter fun s => !holdS mk s).map (D.int ∘ fun _ => (1 : Int)) := rfl
    rw [e]
    refine Eq.trans this ?_
    have fe := filter_empty (fun s => !holdS mk s) ss
    rw [← List.not_all_eq_any_not] at fe
    have fe' : (ss.filter fun s => !holdS mk s).isEmpty = ss.all (holdS mk) := by
      have := congrArg (!·) fe
      simpa using this
    rw [← fe']
    cases ss.filter fun s => !holdS mk s <;> simp
  simp -implicitDefEqProofs [e]
end PL
namespace PL
open PySem PySem.Spec PyProof.Rows L2 TN RM
/-! ### the sums of a web -/
structure RelN (n : Int) (r : Int → Int → Bool) : Prop where
  irr : ∀ a, 0 ≤ a → a < n → r a a = false
  sym : ∀ a b, 0 ≤ a → a < n → 0 ≤ b → b < n → r a b = r b a
def item (r : Int → Int → Bool) (k a b : Int) : List Sm :=
  if r a b then (if r k a = false ∧ r k b = false then [([(k, a), (k, b)], 0)] else []) else (if r k a = true ∧ r k b = true then [([(k, a), (k, b), (a, b), (b, a)], 1)] else [])
def upTo (n a : Int) : List Int := (rngI n).filter fun b => decide (a < b)
def withL (n : Int) (r : Int → Int → Bool) (k : Int) : List Sm := (rngI n).flatMap fun a => (upTo n a).flatMap fun b => item r k a b
def tieS (p : Int × Int) : Sm := ([(p.1, p.2), (p.2, p.1)], 1)
def sumsL (n : Int) (r : Int → Int → Bool) : List Sm := (tiesOf n r).map tieS ++ (rngI n).flatMap (withL n r)
theorem item_len (r : Int → Int → Bool) (k a b : Int) : (item r k a b).length ≤ 1 := by
  unfold item
  split <;> split <;> simp
/-! ### masks -/
def bitN (x j : Nat) : Nat := x / 2 ^ j % 2
theorem bit_add : ∀ x, x < 1024 → ∀ v, v < 10 → bitN x v = 0 → x + 2 ^ v < 1024 ∧ ∀ j, j < 10 → bitN (x + 2 ^ v) j = if j = v then 1 else bitN x j := by decide +kernel
def has (ts : List (Int × Int)) (k j : Int) : Bool := ts.any fun p => (decide (p.1 = k) && decide (p.2 = j)) || (decide (p.1 = j) && decide (p.2 = k))
def mask (ts : List (Int × Int)) (k : Int) : Nat := (ts.map fun p => (if p.1 = k then 2 ^ p.2.toNat else 0) + (if p.2 = k then 2 ^ p.1.toNat else 0)).sum
theorem mask_bit {n : Int} (hi : n ≤ 10) : ∀ {ts : List (Int × Int)}, (∀ p ∈ ts, 0 ≤ p.1 ∧ p.1 < p.2 ∧ p.2 < n) → ts.Nodup → ∀ k, 0 ≤ k → k < n → mask ts k < 1024 ∧ ∀ j : Int, 0 ≤ j → j < n → bitN (mask ts k) j.toNat = if has ts k j then 1 else 0
  | [], _, _, k, k0, k1 => ⟨by simp [mask], fun j _ _ => by simp [mask, bitN, has]⟩
  | p :: ts, hp, nd, k, k0, k1 => by
    rw [List.nodup_cons] at nd
    obtain ⟨i1, i2⟩ := mask_bit hi (fun q m => hp q (List.mem_cons_of_mem _ m)) nd.2 k k0 k1
    obtain ⟨p0, p1, p2⟩ := hp p List.mem_cons_self
    have hno : has ts p.1 p.2 = false := by
      refine Bool.eq_false_iff.mpr fun w => ?_
      obtain ⟨q, mq, hq⟩ := List.any_eq_true.mp w
      have oq := hp q (List.mem_cons_of_mem _ mq)
      simp only [Bool.or_eq_true, Bool.and_eq_true, decide_eq_true_eq] at hq
      rcases hq with ⟨e1, e2⟩ | ⟨e1, e2⟩
      · exact nd.1 (by rw [show p = q from Prod.ext e1.symm e2.symm]; exact mq)
      · omega
    have hno' : has ts p.2 p.1 = false := by
      rw [← hno]
      unfold has
      congr 1
      funext q
      rw [Bool.or_comm]
    have cons : mask (p :: ts) k = ((if p.1 = k then 2 ^ p.2.toNat else 0) + (if p.2 = k then 2 ^ p.1.toNat else 0)) + mask ts k := by
      unfold mask
      rw [List.map_cons, List.sum_cons]
    have hc : ∀ j, has (p :: ts) k j = ((decide (p.1 = k) && decide (p.2 = j)) || (decide (p.1 = j) && decide (p.2 = k)) || has ts k j) := fun j => by
      unfold has
      rw [List.any_cons]
    rw [cons]
    by_cases c1 : p.1 = k
    · have c2 : p.2 ≠ k := by omega
      rw [if_pos c1, if_neg c2, Nat.add_zero, Nat.add_comm]
      have z : bitN (mask ts k) p.2.toNat = 0 := by rw [i2 p.2 (by omega) p2, ← c1, hno]; rfl
      obtain ⟨b1, b2⟩ := bit_add _ i1 p.2.toNat (by omega) z
      refine ⟨b1, fun j j0 j1 => ?_⟩
      rw [b2 j.toNat (by omega), hc]
      by_cases e : j = p.2
      · subst e
        simp [c1]
      · rw [if_neg (by omega), i2 j j0 j1]
        have e1 : ¬ p.2 = j := fun w => e w.symm
        have e2 : ¬ p.2 = k := c2
        simp [e1, e2]
    · by_cases c2 : p.2 = k
      · rw [if_neg c1, if_pos c2, Nat.zero_add, Nat.add_comm]
        have z : bitN (mask ts k) p.1.toNat = 0 := by rw [i2 p.1 p0 (by omega), ← c2, hno']; rfl
        obtain ⟨b1, b2⟩ := bit_add _ i1 p.1.toNat (by omega) z
        refine ⟨b1, fun j j0 j1 => ?_⟩
        rw [b2 j.toNat (by omega), hc]
        by_cases e : j = p.1
        · subst e
          simp [c2]
        · rw [if_neg (by omega), i2 j j0 j1]
          have e1 : ¬ p.1 = j := fun w => e w.symm
          simp [e1, c1]
      · rw [if_neg c1, if_neg c2, Nat.add_zero, Nat.zero_add]
        refine ⟨i1, fun j j0 j1 => ?_⟩
        rw [i2 j j0 j1, hc]
        simp [c1, c2]
theorem has_ties {n : Int} {r : Int → Int → Bool} (hr : RelN n r) {k j : Int} (k0 : 0 ≤ k) (k1 : k < n) (j0 : 0 ≤ j) (j1 : j < n) : has (tiesOf n r) k j = r k j := by
  have e : has (tiesOf n r) k j = true ↔ r k j = true := by
    unfold has
    rw [List.any_eq_true]
    constructor
    · rintro ⟨p, m, h⟩
      obtain ⟨_, c⟩ := mem_ties.mp m
      simp only [Bool.or_eq_true, Bool.and_eq_true, decide_eq_true_eq] at h
      rcases h with ⟨e1, e2⟩ | ⟨e1, e2⟩
      · rw [← e1, ← e2]; exact c
      · rw [← e1, ← e2, hr.sym _ _ (by omega) (by omega) (by omega) (by omega)]; exact c
    · intro h
      rcases Int.lt_trichotomy k j with l | l | l
      · exact ⟨(k, j), mem_ties.mpr ⟨⟨k0, l, j1⟩, h⟩, by simp⟩
      · subst l; rw [hr.irr k k0 k1] at h; cases h
      · exact ⟨(j, k), mem_ties.mpr ⟨⟨j0, l, k1⟩, by rw [hr.sym j k j0 j1 k0 k1]; exact h⟩, by simp⟩
  exact Bool.eq_iff_iff.mpr e
theorem and_one (x : Nat) : Builtin.bitAnd (x : Int) 1 = ((x % 2 : Nat) : Int) := by
  unfold Builtin.bitAnd
  rw [decide_eq_true (show (0 : Int) ≤ (x : Int) by omega), decide_eq_true (show (0 : Int) ≤ 1 by omega)]
  simp only
  rw [Int.toNat_natCast, show (1 : Int).toNat = 1 from rfl, Nat.and_one_is_mod]
/-- a bit of a mask, asked -/
theorem ask {n : Int} {r : Int → Int → Bool} (hr : RelN n r) (hi : n ≤ 10) (w : WebN n (tiesOf n r)) {k j : Int} (k0 : 0 ≤ k) (k1 : k < n) (j0 : 0 ≤ j) (j1 : j < n) :
    gShr (mask (tiesOf n r) k : Nat) j = some (.int ((mask (tiesOf n r) k / 2 ^ j.toNat : Nat) : Int)) ∧ gAnd ((mask (tiesOf n r) k / 2 ^ j.toNat : Nat) : Int) 1 = some (.int (if r k j then 1 else 0)) := by
  obtain ⟨_, b⟩ := mask_bit hi w.ok (nodup_plt w.asc) k k0 k1
  constructor
  · unfold gShr
    rw [if_pos j0]
    congr 2
  · unfold gAnd
    rw [and_one]
    have := b j j0 j1
    unfold bitN at this
    rw [this, has_ties hr k0 k1 j0 j1]
    cases r k j <;> rfl
def maskL (n : Int) (ts : List (Int × Int)) : List D := (rngI n).map fun k => D.int (mask ts k : Nat)
end PL
namespace PL
open PySem PySem.Spec PyProof.Rows L2 TN RM
theorem ixN_of {L : Nat} {j : Int} (h0 : 0 ≤ j) (h1 : j < L) : ixN L j = some j.toNat := by
  unfold ixN
  simp [h0, h1]
theorem e_augS (i : Nat) (g : Int → Int → Int) (fi fv : F) (env : Ev) : sAugS i g fi fv env = (ofO (lstAt env i)).bind fun _ => (fi env).bind fun q => match q.1 with
  | .d (.int j) => (ofO (lstAt q.2 i)).bind fun l => match atI l.1 j with
    | some (.int a) => (fv q.2).bind fun p => match p.1 with
      | .d (.int b) => (ofO (lstAt p.2 i)).bind fun l2 => (ofO (ixN l2.1.length j)).bind fun m => .ok (.nx, p.2.set i (l2.2 (l2.1.set m (.int (g a b)))))
      | _ => .no
    | _ => .no
  | _ => .no := rfl
theorem maskL_len {n : Int} (h : 0 ≤ n) (ts : List (Int × Int)) : ((maskL n ts).length : Int) = n := by
  unfold maskL
  rw [List.length_map, rngI_length]
  omega
theorem maskL_at {n k : Int} (ts : List (Int × Int)) (h0 : 0 ≤ k) (h1 : k < n) : atI (maskL n ts) k = some (.int (mask ts k : Nat)) := at_rng _ h0 h1
theorem rng_set {n a : Int} (f : Int → D) (x : D) (h0 : 0 ≤ a) (h1 : a < n) : ((rngI n).map f).set a.toNat x = (rngI n).map fun k => if k = a then x else f k := by
  apply List.ext_getElem?
  intro i
  rw [List.getElem?_set, List.getElem?_map, List.getElem?_map, List.length_map, rngI_length]
  by_cases e : a.toNat = i
  · subst e
    rw [if_pos rfl, if_pos (by omega)]
    unfold rngI
    rw [List.getElem?_map, List.getElem?_range (by omega)]
    simp only [Option.map_some]
    rw [if_pos (by omega)]
  · rw [if_neg e]
    unfold rngI
    rw [List.getElem?_map]
    by_cases hi : i < n.toNat
    · rw [List.getElem?_range hi]
      simp only [Option.map_some]
      rw [if_neg (by omega)]
    · rw [List.getElem?_eq_none (by rw [List.length_range]; omega)]
      rfl
theorem mask_app (t : List (Int × Int)) (p : Int × Int) (k : Int) : mask (t ++ [p]) k = mask t k + ((if p.1 = k then 2 ^ p.2.toNat else 0) + (if p.2 = k then 2 ^ p.1.toNat else 0)) := by
  unfold mask
  rw [List.map_append, List.sum_append]
  simp
theorem masks_of_ok {n : Int} {ts : List (Int × Int)} (wb : WebN n ts) : m_masks_of [W n ts] = .ok (.ls (maskL n ts), []) := by
  have lo := wb.lo
  have hi := wb.hi
  obtain ⟨w', f1, x, y, f2⟩ := forF_I (ga := gT [2, 3]) (s := sCons (sAugS 1 (fun i j => i + j) (fVar 2) (fBin (oI gShl) (fC (.int 1)) (fVar 3))) (sAugS 1 (fun i j => i + j) (fVar 3) (fBin (oI gShl) (fC (.int 1)) (fVar 2)))) pD2
    (fun (t : List (Int × Int)) p => t ++ [p]) (fun t w => ∃ x y, w = [.val (W n ts), .own (maskL n t), x, y]) ts [] [.val (W n ts), .own (maskL n []), .no, .no] ⟨_, _, rfl⟩ (fun p m t w ⟨x, y, hw⟩ => by
      subst hw
      obtain ⟨p0, p1, p2⟩ := wb.ok p m
      have s1 : gShl 1 p.1 = some (.int ((2 ^ p.1.toNat : Nat) : Int)) := by
        unfold gShl
        rw [if_pos ⟨p0, by omega, by decide⟩]
        simp
      have s2 : gShl 1 p.2 = some (.int ((2 ^ p.2.toNat : Nat) : Int)) := by
        unfold gShl
        rw [if_pos ⟨by omega, by omega, by decide⟩]
        simp
      have a1 := maskL_at (n := n) t (k := p.1) p0 (by omega)
      have l1 := maskL_len (n := n) (by omega) t
      have i1 : ixN (maskL n t).length p.1 = some p.1.toNat := ixN_of p0 (by omega)
      have st1 : (maskL n t).set p.1.toNat (.int ((mask t p.1 : Nat) + ((2 ^ p.2.toNat : Nat) : Int))) = (rngI n).map fun k => if k = p.1 then D.int ((mask t p.1 : Nat) + ((2 ^ p.2.toNat : Nat) : Int)) else D.int (mask t k : Nat) := rng_set _ _ p0 (by omega)
      have a2 : atI ((rngI n).map fun k => if k = p.1 then D.int ((mask t p.1 : Nat) + ((2 ^ p.2.toNat : Nat) : Int)) else D.int (mask t k : Nat)) p.2 = some (.int (mask t p.2 : Nat)) := by
        rw [at_rng _ (by omega) p2, if_neg (by omega)]
      have i3 : ixN (maskL n t).length p.2 = some p.2.toNat := ixN_of (by omega) (by omega)
      have i2 : ixN ((rngI n).map fun k => if k = p.1 then D.int ((mask t p.1 : Nat) + ((2 ^ p.2.toNat : Nat) : Int)) else D.int (mask t k : Nat)).length p.2 = some p.2.toNat := ixN_of (by omega) (by rw [List.length_map, rngI_length]; omega)
      have st2 : ((rngI n).map fun k => if k = p.1 then D.int ((mask t p.1 : Nat) + ((2 ^ p.2.toNat : Nat) : Int)) else D.int (mask t k : Nat)).set p.2.toNat (.int ((mask t p.2 : Nat) + ((2 ^ p.1.toNat : Nat) : Int))) = maskL n (t ++ [p]) := by
        rw [rng_set _ _ (by omega) p2]
        unfold maskL
        refine List.map_congr_left fun k _ => ?_
        rw [mask_app]
        by_cases e1 : k = p.2
        · subst e1
          rw [if_pos rfl, if_neg (by omega), if_pos rfl]
          congr 1
          omega
        · rw [if_neg e1]
          by_cases e2 : k = p.1
          · subst e2
            rw [if_pos rfl, if_pos rfl, if_neg (by omega)]
            congr 1
          · rw [if_neg e2, if_neg (fun q => e2 q.symm), if_neg (fun q => e1 q.symm)]
            rfl
      generalize ((rngI n).map fun k => if k = p.1 then D.int ((mask t p.1 : Nat) + ((2 ^ p.2.toNat : Nat) : Int)) else D.int (mask t k : Nat)) = M1 at *
      generalize (2 : Nat) ^ p.1.toNat = u1 at *
      generalize (2 : Nat) ^ p.2.toNat = u2 at *
      refine ⟨[.val (PL.W n ts), .own (maskL n t), .val (.int p.1), .val (.int p.2)], _, by simp -implicitDefEqProofs [pD2], ?_, .val (.int p.1), .val (.int p.2), rfl⟩
      simp -implicitDefEqProofs [e_augS, s1, s2, a1, i1, st1, a2, i2, i3, st2])
  rw [foldl_app] at f2
  subst f2
  have e0 : dMul (.lst [.int 0]) (.int n) = .ok (.ls (maskL n [])) := by
    show (if _ then _ else _) = _
    rw [if_pos ⟨by omega, by omega, by simp; omega⟩]
    congr 2
    unfold maskL rngI mask
    rw [List.map_map]
    have : ∀ m : Nat, (List.replicate m [D.int 0]).flatten = (List.range m).map ((fun k : Int => D.int ((List.map (fun p : Int × Int => (if p.1 = k then 2 ^ p.2.toNat else 0) + if p.2 = k then 2 ^ p.1.toNat else 0) []).sum : Nat)) ∘ fun i : Nat => (i : Int)) := by
      intro m
      induction m with
      | zero => rfl
      | succ m ih =>
        rw [List.range_succ, List.map_append, ← ih, List.replicate_succ']
        simp
    exact this _
  simp -implicitDefEqProofs [m_masks_of, b_masks_of, e0, f1]
end PL
namespace PL
open PySem PySem.Spec PyProof.Rows L2 TN RM
theorem mem_upTo {n a b : Int} : b ∈ upTo n a ↔ (0 ≤ b ∧ b < n) ∧ a < b := by
  unfold upTo
  rw [List.mem_filter, mem_rngI]
  simp
theorem upTo_len {n a : Int} (hi : n ≤ 10) : (upTo n a).length ≤ 10 := part_le hi _
abbrev tSumB : S := sCons (sPar 5 6 (fBin (oI gAnd) (fBin (oI gShr) (fBin dIx (fVar 0) (fVar 3)) (fVar 4)) (fC (.int 1))) (fBin dAdd (fBin (oI gAnd) (fBin (oI gShr) (fBin dIx (fVar 0) (fVar 1)) (fVar 3)) (fC (.int 1))) (fBin (oI gAnd) (fBin (oI gShr) (fBin dIx (fVar 0) (fVar 1)) (fVar 4)) (fC (.int 1))))) (sCons (sIf (fAndB (fTru (fVar 5)) (bOf (fBin (dEq false) (fVar 6) (fC (.int 0))))) (sExpr (fApp 2 (fTup (aCons (fTup (aCons (fTup (aCons (fVar 1) (aCons (fVar 3) (aNil)))) (aCons (fTup (aCons (fVar 1) (aCons (fVar 4) (aNil)))) (aNil)))) (aCons (fC (.int 0)) (aNil)))))) (sNil)) (sIf (fAndB (fNotB (fTru (fVar 5))) (bOf (fBin (dEq false) (fVar 6) (fC (.int 2))))) (sExpr (fApp 2 (fTup (aCons (fTup (aCons (fTup (aCons (fVar 1) (aCons (fVar 3) (aNil)))) (aCons (fTup (aCons (fVar 1) (aCons (fVar 4) (aNil)))) (aCons (fTup (aCons (fVar 3) (aCons (fVar 4) (aNil)))) (aCons (fTup (aCons (fVar 4) (aCons (fVar 3) (aNil)))) (aNil)))))) (aCons (fC (.int 1)) (aNil)))))) (sNil)))
theorem tru0 : (D.int 0).tru = some false := rfl
theorem tru1 : (D.int 1).tru = some true := rfl
theorem sum_body {n : Int} {r : Int → Int → Bool} (hr : RelN n r) (w : WebN n (tiesOf n r)) {k a b : Int} (k0 : 0 ≤ k) (k1 : k < n) (a0 : 0 ≤ a) (b1 : b < n) (ab : a < b) (s : List Sm) (hs : s.length < 100000) (x y : Sl) :
    ∃ x' y', tSumB [.val (.lst (maskL n (tiesOf n r))), .val (.int k), .own (s.map smD), .val (.int a), .val (.int b), x, y] = .ok (.nx, [.val (.lst (maskL n (tiesOf n r))), .val (.int k), .own ((s ++ item r k a b).map smD), .val (.int a), .val (.int b), x', y']) := by
  have hi := w.hi
  obtain ⟨p1, p2⟩ := ask hr hi w a0 (show a < n by omega) (show 0 ≤ b by omega) b1
  obtain ⟨q1, q2⟩ := ask hr hi w k0 k1 a0 (show a < n by omega)
  obtain ⟨r1, r2⟩ := ask hr hi w k0 k1 (show 0 ≤ b by omega) b1
  have at1 := maskL_at (n := n) (tiesOf n r) a0 (show a < n by omega)
  have at2 := maskL_at (n := n) (tiesOf n r) k0 k1
  generalize maskL n (tiesOf n r) = ML at *
  generalize ((mask (tiesOf n r) a / 2 ^ b.toNat : Nat) : Int) = v1 at *
  generalize ((mask (tiesOf n r) k / 2 ^ a.toNat : Nat) : Int) = v2 at *
  generalize ((mask (tiesOf n r) k / 2 ^ b.toNat : Nat) : Int) = v3 at *
  refine ⟨.val (.int (if r a b then 1 else 0)), .val (.int ((if r k a then 1 else 0) + (if r k b then 1 else 0))), ?_⟩
  cases c1 : r a b <;> cases c2 : r k a <;> cases c3 : r k b <;> simp only [c1, c2, c3] at p2 q2 r2 <;> simp -implicitDefEqProofs [at1, at2, p1, p2, q1, q2, r1, r2, dEq_intN, hs, item, c1, c2, c3, smD, pD2, tru0, tru1]
theorem sums_with_ok {n : Int} {r : Int → Int → Bool} (hr : RelN n r) (w_ : WebN n (tiesOf n r)) {k : Int} (k0 : 0 ≤ k) (k1 : k < n) : m__sums_with [.lst (maskL n (tiesOf n r)), .int k] = .ok (.ls ((withL n r k).map smD), []) := by
  have lo := w_.lo
  have hi := w_.hi
  have a1 : (-4611686018427387904 : Int) ≤ n := by omega
  have a2 : n < 4611686018427387904 := by omega
  have ln := maskL_len (n := n) (by omega) (tiesOf n r)
  obtain ⟨M, hM⟩ : ∃ M, maskL n (tiesOf n r) = M := ⟨_, rfl⟩
  rw [hM] at ln
  obtain ⟨w', f1, f2, x3, x4, x5, x6, f3⟩ := forF_N (ga := gN 3) (s := sFor (fRng2 (aCons (fBin dAdd (fVar 3) (fC (.int 1))) (aCons (fBi bLen (aCons (fVar 0) (aNil))) (aNil)))) (gN 4) tSumB) D.int
    (fun (s : List Sm) a => s ++ (upTo n a).flatMap fun b => item r k a b)
    (fun j s w => s.length ≤ j * 10 ∧ ∃ x3 x4 x5 x6, w = [.val (.lst M), .val (.int k), .own (s.map smD), x3, x4, x5, x6]) 10 (rngI n) 0 [] [.val (.lst M), .val (.int k), .own [], .no, .no, .no, .no] (by rw [rngI_length]; omega) ⟨by simp, _, _, _, _, rfl⟩ (fun a ha j s w hj ⟨hs, x3, x4, x5, x6, hw⟩ => by
      subst hw
      have ha := rngI_mem ha
      have b1 : (-4611686018427387904 : Int) ≤ a + 1 := by omega
      have b2 : a + 1 < 4611686018427387904 := by omega
      obtain ⟨w2, g1, g2, y4, y5, y6, g3⟩ := forF_N (ga := gN 4) (s := tSumB) D.int (fun (s : List Sm) b => s ++ item r k a b)
        (fun i t w => t.length ≤ s.length + i ∧ ∃ y4 y5 y6, w = [.val (.lst M), .val (.int k), .own (t.map smD), .val (.int a), y4, y5, y6]) 10 (upTo n a) 0 s [.val (.lst M), .val (.int k), .own (s.map smD), .val (.int a), x4, x5, x6] (by have := upTo_len (a := a) hi; omega) ⟨by omega, _, _, _, rfl⟩ (fun b hb i t w hi' ⟨ht, y4, y5, y6, hw⟩ => by
          subst hw
          have hb := mem_upTo.mp hb
          obtain ⟨x', y', e⟩ := sum_body hr w_ k0 k1 ha.1 hb.1.2 hb.2 t (by omega) y5 y6
          rw [hM] at e
          refine ⟨[.val (.lst M), .val (.int k), .own (t.map smD), .val (.int a), .val (.int b), y5, y6], _, by simp -implicitDefEqProofs, e, ?_, _, _, _, rfl⟩
          have := item_len r k a b
          rw [List.length_append]
          omega)
      rw [foldl_app] at g2 g3
      refine ⟨[.val (.lst M), .val (.int k), .own (s.map smD), .val (.int a), x4, x5, x6], w2, by simp -implicitDefEqProofs, ?_, ?_, .val (.int a), y4, y5, y6, g3⟩
      · rw [e_for]
        have e2 : fRng2 (aCons (fBin dAdd (fVar 3) (fC (.int 1))) (aCons (fBi bLen (aCons (fVar 0) (aNil))) (aNil))) [.val (.lst M), .val (.int k), .own (s.map smD), .val (.int a), x4, x5, x6] = .ok ((upTo n a).map D.int, [.val (.lst M), .val (.int k), .own (s.map smD), .val (.int a), x4, x5, x6]) := by
          simp -implicitDefEqProofs [ln, a1, a2, b1, b2, rng_part ha.1 ha.2, upTo]
        rw [e2]
        exact g1
      · have g2' : (s ++ (upTo n a).flatMap fun b => item r k a b).length ≤ s.length + (0 + (upTo n a).length) := g2
        have := upTo_len (a := a) hi
        omega)
  rw [foldl_app] at f2 f3
  have ef : ((rngI n).flatMap fun a => (upTo n a).flatMap fun b => item r k a b) = withL n r k := rfl
  rw [ef] at f2 f3
  subst f3
  rw [hM]
  simp -implicitDefEqProofs only [m__sums_with, b__sums_with, e_fn, e_stE0, e_ofs, e_bok, e_sCons, List.map_cons, List.map_nil, List.length_cons, List.length_nil]
  simp -implicitDefEqProofs [ln, a1, a2, rng_eq, f1]
end PL
namespace PL
open PySem PySem.Spec PyProof.Rows L2 TN RM
theorem withL_len {n : Int} (hi : n ≤ 10) (r : Int → Int → Bool) (k : Int) : (withL n r k).length ≤ 100 := by
  unfold withL
  refine Nat.le_trans (flatMap_le (k := 10) fun a m => ?_) ?_
  · refine Nat.le_trans (flatMap_le (k := 1) fun b _ => item_len r k a b) ?_
    have := upTo_len (a := a) hi
    omega
  · rw [rngI_length]
    omega
theorem tie_lc (T : List (Int × Int)) : T.map (fun p => smD (tieS p)) = (T.map tieS).map smD := by rw [List.map_map]; rfl
theorem sums_of_ok {n : Int} {r : Int → Int → Bool} (hr : RelN n r) (w_ : WebN n (tiesOf n r)) : m_sums_of [W n (tiesOf n r)] = .ok (.d (.tup ((sumsL n r).map smD)), []) := by
  have lo := w_.lo
  have hi := w_.hi
  have a1 : (-4611686018427387904 : Int) ≤ n := by omega
  have a2 : n < 4611686018427387904 := by omega
  have mo := masks_of_ok w_
  have sw := fun k (k0 : 0 ≤ k) (k1 : k < n) => sums_with_ok hr w_ k0 k1
  have tl := ties_len hi r
  have wl := w_.len
  obtain ⟨T, hT⟩ : ∃ T, tiesOf n r = T := ⟨_, rfl⟩
  rw [hT] at mo tl wl
  simp only [hT] at sw
  obtain ⟨M, hM⟩ : ∃ M, maskL n T = M := ⟨_, rfl⟩
  rw [hM] at mo
  simp only [hM] at sw
  obtain ⟨w', f1, f2, m, x3, _, f3⟩ := forF_N (ga := gN 3) (s := sSet 2 (fBin dAdd (fVar 2) (fCall false m__sums_with (aCons (fVar 1) (aCons (fVar 3) (aNil)))))) D.int
    (fun (s : List Sm) k => s ++ withL n r k)
    (fun j s w => s.length ≤ 100 + j * 100 ∧ ∃ m x3, (m = .own M ∨ m = .val (.lst M)) ∧ w = [.val (W n T), m, .own (s.map smD), x3, .no, .no]) 10 (rngI n) 0 (T.map tieS) [.val (W n T), .own M, .own ((T.map tieS).map smD), .no, .no, .no] (by rw [rngI_length]; omega) ⟨by rw [List.length_map]; omega, _, _, .inl rfl, rfl⟩ (fun k hk j s w hj ⟨hs, m, x3, hm, hw⟩ => by
      subst hw
      have hk := rngI_mem hk
      have e := sw k hk.1 hk.2
      have wl := withL_len hi r k
      have da := dAdd_lst (s.map smD) ((withL n r k).map smD) (by rw [List.length_map, List.length_map]; omega)
      rw [← List.map_append] at da
      refine ⟨[.val (W n T), m, .own (s.map smD), .val (.int k), .no, .no], [.val (W n T), .val (.lst M), .own ((s ++ withL n r k).map smD), .val (.int k), .no, .no], by simp -implicitDefEqProofs, ?_, by rw [List.length_append]; omega, _, _, .inr rfl, rfl⟩
      rcases hm with rfl | rfl <;> simp -implicitDefEqProofs [-List.map_append, fixAll, R.fix, e, da])
  rw [foldl_app] at f2 f3
  have lc : fLc (fSeq (fAt 0 1 (fVar 0))) (gT [4, 5]) (bYes) (fTup (aCons (fTup (aCons (fTup (aCons (fVar 4) (aCons (fVar 5) (aNil)))) (aCons (fTup (aCons (fVar 5) (aCons (fVar 4) (aNil)))) (aNil)))) (aCons (fC (.int 1)) (aNil)))) [4, 5] [.val (W n T), .own M, .no, .no, .no, .no] = .ok (.new ((T.map tieS).map smD), [.val (W n T), .own M, .no, .no, .no, .no]) := by
    rw [fLc_T T pD2 (fun _ => true) (fun p => smD (tieS p)) (fun p => [.val (W n T), .own M, .no, .no, .val (.int p.1), .val (.int p.2)]) (by simp -implicitDefEqProofs [W]) wl
      (fun v hv s hs => by
        simp only [List.mem_cons, List.not_mem_nil, or_false] at hv
        rcases hv with rfl | rfl <;> (cases hs; rfl))
      (fun p _ => ⟨by simp -implicitDefEqProofs [pD2, wipeE], rfl⟩) (fun _ _ => rfl)
      (fun p _ _ => ⟨.d (smD (tieS p)), by simp -implicitDefEqProofs [smD, tieS, pD2], rfl⟩)]
    rw [List.filter_eq_self.mpr (fun _ _ => rfl), tie_lc]
  have es : T.map tieS ++ (rngI n).flatMap (withL n r) = sumsL n r := by unfold sumsL; rw [hT]
  have es' : T.map tieS ++ (rngI n).flatMap (fun k => withL n r k) = sumsL n r := es
  rw [es'] at f2 f3
  subst f3
  rw [hT]
  have e1 : ∀ s1 s2 s3 s4 s5, fAt 0 0 (fVar 0) [.val (W n T), s1, s2, s3, s4, s5] = .ok (.d (.int n), [.val (W n T), s1, s2, s3, s4, s5]) := fun _ _ _ _ _ => by simp -implicitDefEqProofs [W]
  simp -implicitDefEqProofs only [m_sums_of, b_sums_of, e_fn, e_stE0, e_ofs, e_bok, e_sCons, List.map_cons, List.map_nil, List.length_cons, List.length_nil]
  simp -implicitDefEqProofs [-e_fAt, -List.map_map, check_web_ok, mo, lc, e1, a1, a2, rng_eq, f1]
/-! ### the law's own sums -/
theorem ties_in {n : Int} {r : Int → Int → Bool} (hr : RelN n r) {a b : Int} (a0 : 0 ≤ a) (a1 : a < n) (b0 : 0 ≤ b) (b1 : b < n) : (tiesOf n r).contains (min a b, max a b) = r a b := by
  refine Bool.eq_iff_iff.mpr ?_
  rw [List.contains_iff_mem, mem_ties]
  simp only
  rcases Int.lt_trichotomy a b with l | l | l
  · rw [Int.min_eq_left (by omega), Int.max_eq_right (by omega)]
    constructor
    · exact fun h => h.2
    · exact fun h => ⟨⟨a0, l, b1⟩, h⟩
  · subst l
    rw [hr.irr a a0 a1, Int.min_self, Int.max_self]
    constructor
    · intro h; omega
    · intro h; cases h
  · rw [Int.min_eq_right (by omega), Int.max_eq_left (by omega), hr.sym b a b0 b1 a0 a1]
    constructor
    · exact fun h => h.2
    · exact fun h => ⟨⟨b0, l, a1⟩, h⟩
abbrev tLawB : S := sCons (sPar 6 7 (fBin (dIn false) (fBi bTuple (aCons (fBi bSortedX (aCons (fLst (aCons (fVar 3) (aCons (fVar 4) (aNil)))) (aNil))) (aNil))) (fVar 1)) (fBin (dIn false) (fBi bTuple (aCons (fBi bSortedX (aCons (fLst (aCons (fVar 3) (aCons (fVar 5) (aNil)))) (aNil))) (aNil))) (fVar 1))) (sCons (sIf (fAndB (bOf (fBin (dIn true) (fVar 3) (fTup (aCons (fVar 4) (aCons (fVar 5) (aNil)))))) (fAndB (fTru (fVar 6)) (fAndB (fTru (fVar 7)) (bOf (fBin (dIn true) (fTup (aCons (fVar 4) (aCons (fVar 5) (aNil)))) (fVar 1)))))) (sExpr (fApp 2 (fTup (aCons (fTup (aCons (fTup (aCons (fVar 3) (aCons (fVar 4) (aNil)))) (aCons (fTup (aCons (fVar 3) (aCons (fVar 5) (aNil)))) (aCons (fTup (aCons (fVar 4) (aCons (fVar 5) (aNil)))) (aCons (fTup (aCons (fVar 5) (aCons (fVar 4) (aNil)))) (aNil)))))) (aCons (fC (.int 1)) (aNil)))))) (sNil)) (sIf (fAndB (bOf (fBin (dIn true) (fVar 3) (fTup (aCons (fVar 4) (aCons (fVar 5) (aNil)))))) (fAndB (fNotB (fTru (fVar 6))) (fAndB (fNotB (fTru (fVar 7))) (bOf (fBin (dIn false) (fTup (aCons (fVar 4) (aCons (fVar 5) (aNil)))) (fVar 1)))))) (sExpr (fApp 2 (fTup (aCons (fTup (aCons (fTup (aCons (fVar 3) (aCons (fVar 4) (aNil)))) (aCons (fTup (aCons (fVar 3) (aCons (fVar 5) (aNil)))) (aNil)))) (aCons (fC (.int 0)) (aNil)))))) (sNil)))
theorem truB (b : Bool) : (D.bl b).tru = some b := rfl
theorem law_body {n : Int} {r : Int → Int → Bool} (hr : RelN n r) {k a b : Int} (k0 : 0 ≤ k) (k1 : k < n) (a0 : 0 ≤ a) (b1 : b < n) (ab : a < b) (s : List Sm) (hs : s.length < 100000) (x y : Sl) :
    ∃ x' y', tLawB [.val (.int n), .val (.tup ((tiesOf n r).map pD2)), .own (s.map smD), .val (.int k), .val (.int a), .val (.int b), x, y] = .ok (.nx, [.val (.int n), .val (.tup ((tiesOf n r).map pD2)), .own ((s ++ item r k a b).map smD), .val (.int k), .val (.int a), .val (.int b), x', y']) := by
  have d1 : dIn false (.tup [.int (min k a), .int (max k a)]) (.tup ((tiesOf n r).map pD2)) = .ok (.d (.bl (r k a))) := by
    have := dIn_pairs false (min k a, max k a) (tiesOf n r)
    rw [ties_in hr k0 k1 a0 (by omega)] at this
    exact this
  have d2 : dIn false (.tup [.int (min k b), .int (max k b)]) (.tup ((tiesOf n r).map pD2)) = .ok (.d (.bl (r k b))) := by
    have := dIn_pairs false (min k b, max k b) (tiesOf n r)
    rw [ties_in hr k0 k1 (by omega) b1] at this
    exact this
  have eab : (a, b) = (min a b, max a b) := by rw [Int.min_eq_left (by omega), Int.max_eq_right (by omega)]
  have d3 : dIn false (.tup [.int a, .int b]) (.tup ((tiesOf n r).map pD2)) = .ok (.d (.bl (r a b))) := by
    have := dIn_pairs false (a, b) (tiesOf n r)
    rw [eab, ties_in hr a0 (by omega) (by omega) b1, ← eab] at this
    exact this
  have d4 : dIn true (.tup [.int a, .int b]) (.tup ((tiesOf n r).map pD2)) = .ok (.d (.bl (!r a b))) := by
    have := dIn_pairs true (a, b) (tiesOf n r)
    rw [eab, ties_in hr a0 (by omega) (by omega) b1, ← eab] at this
    exact this
  have d5 := dIn_ints true k [a, b]
  simp only [List.map_cons, List.map_nil] at d5
  have so1 := sort_two k a
  have so2 := sort_two k b
  generalize min k a = m1 at so1 d1
  generalize max k a = m2 at so1 d1
  generalize min k b = m3 at so2 d2
  generalize max k b = m4 at so2 d2
  clear eab
  generalize (tiesOf n r).map pD2 = T at *
  refine ⟨.val (.bl (r k a)), .val (.bl (r k b)), ?_⟩
  by_cases e1 : k = a
  · subst e1
    have q1 := hr.irr k k0 k1
    have z1 : ([k, b] : List Int).contains k = true := by simp
    rw [z1] at d5
    cases c : r k b <;> simp only [c, q1] at d1 d2 d3 d4 <;> simp -implicitDefEqProofs [so1, so2, d1, d2, d3, d4, d5, hs, item, c, q1, truB]
  · by_cases e2 : k = b
    · subst e2
      have q1 := hr.irr k k0 k1
      have q2 := hr.sym k a k0 k1 a0 (by omega)
      have z1 : ([a, k] : List Int).contains k = true := by simp
      rw [z1] at d5
      cases c : r a k <;> rw [c] at q2 <;> simp only [c, q1, q2] at d1 d2 d3 d4 <;> simp -implicitDefEqProofs [so1, so2, d1, d2, d3, d4, d5, hs, item, c, q1, q2, truB]
    · have z1 : ([a, b] : List Int).contains k = false := by simp [e1, e2]
      rw [z1] at d5
      cases c1 : r a b <;> cases c2 : r k a <;> cases c3 : r k b <;> simp only [c1, c2, c3] at d1 d2 d3 d4 <;> simp -implicitDefEqProofs [so1, so2, d1, d2, d3, d4, d5, hs, item, c1, c2, c3, truB, smD, pD2]
end PL
namespace PL
open PySem PySem.Spec PyProof.Rows L2 TN RM
theorem law_sums_ok {n : Int} {r : Int → Int → Bool} (hr : RelN n r) (w_ : WebN n (tiesOf n r)) : m__law_sums [.int n, .tup ((tiesOf n r).map pD2)] = .ok (.ls ((sumsL n r).map smD), []) := by
  have lo := w_.lo
  have hi := w_.hi
  have a1 : (-4611686018427387904 : Int) ≤ n := by omega
  have a2 : n < 4611686018427387904 := by omega
  have tl := ties_len hi r
  have wl := w_.len
  have body := fun (k a b : Int) (k0 : 0 ≤ k) (k1 : k < n) (a0 : 0 ≤ a) (b1 : b < n) (ab : a < b) => law_body hr k0 k1 a0 b1 ab
  have es : (tiesOf n r).map tieS ++ (rngI n).flatMap (fun k => withL n r k) = sumsL n r := rfl
  obtain ⟨T, hT⟩ : ∃ T, tiesOf n r = T := ⟨_, rfl⟩
  rw [hT] at tl wl es
  simp only [hT] at body
  rw [hT]
  obtain ⟨w', f1, f2, x3, x4, x5, x6, x7, f3⟩ := forF_N (ga := gN 3) (s := sFor (fRng1 (aCons (fVar 0) (aNil))) (gN 4) (sFor (fRng2 (aCons (fBin dAdd (fVar 4) (fC (.int 1))) (aCons (fVar 0) (aNil)))) (gN 5) tLawB)) D.int
    (fun (s : List Sm) k => s ++ withL n r k)
    (fun j s w => s.length ≤ 100 + j * 100 ∧ ∃ x3 x4 x5 x6 x7, w = [.val (.int n), .val (.tup (T.map pD2)), .own (s.map smD), x3, x4, x5, x6, x7]) 10 (rngI n) 0 (T.map tieS) [.val (.int n), .val (.tup (T.map pD2)), .own ((T.map tieS).map smD), .no, .no, .no, .no, .no] (by rw [rngI_length]; omega) ⟨by rw [List.length_map]; omega, _, _, _, _, _, rfl⟩ (fun k hk j s w hj ⟨hs, x3, x4, x5, x6, x7, hw⟩ => by
      subst hw
      have hk := rngI_mem hk
      obtain ⟨w2, g1, g2, y4, y5, y6, y7, g3⟩ := forF_N (ga := gN 4) (s := sFor (fRng2 (aCons (fBin dAdd (fVar 4) (fC (.int 1))) (aCons (fVar 0) (aNil)))) (gN 5) tLawB) D.int
        (fun (s : List Sm) a => s ++ (upTo n a).flatMap fun b => item r k a b)
        (fun i t w => t.length ≤ s.length + i * 10 ∧ ∃ y4 y5 y6 y7, w = [.val (.int n), .val (.tup (T.map pD2)), .own (t.map smD), .val (.int k), y4, y5, y6, y7]) 10 (rngI n) 0 s [.val (.int n), .val (.tup (T.map pD2)), .own (s.map smD), .val (.int k), x4, x5, x6, x7] (by rw [rngI_length]; omega) ⟨by omega, _, _, _, _, rfl⟩ (fun a ha i t w hi' ⟨ht, y4, y5, y6, y7, hw⟩ => by
          subst hw
          have ha := rngI_mem ha
          have b1 : (-4611686018427387904 : Int) ≤ a + 1 := by omega
          have b2 : a + 1 < 4611686018427387904 := by omega
          obtain ⟨w3, h1, h2, z5, z6, z7, h3⟩ := forF_N (ga := gN 5) (s := tLawB) D.int (fun (s : List Sm) b => s ++ item r k a b)
            (fun l u w => u.length ≤ t.length + l ∧ ∃ z5 z6 z7, w = [.val (.int n), .val (.tup (T.map pD2)), .own (u.map smD), .val (.int k), .val (.int a), z5, z6, z7]) 10 (upTo n a) 0 t [.val (.int n), .val (.tup (T.map pD2)), .own (t.map smD), .val (.int k), .val (.int a), y5, y6, y7] (by have := upTo_len (a := a) hi; omega) ⟨by omega, _, _, _, rfl⟩ (fun b hb l u w hl ⟨hu, z5, z6, z7, hw⟩ => by
              subst hw
              have hb := mem_upTo.mp hb
              obtain ⟨x', y', e⟩ := body k a b hk.1 hk.2 ha.1 hb.1.2 hb.2 u (by omega) z6 z7
              refine ⟨[.val (.int n), .val (.tup (T.map pD2)), .own (u.map smD), .val (.int k), .val (.int a), .val (.int b), z6, z7], _, by simp -implicitDefEqProofs, e, ?_, _, _, _, rfl⟩
              have := item_len r k a b
              rw [List.length_append]
              omega)
          rw [foldl_app] at h2 h3
          refine ⟨[.val (.int n), .val (.tup (T.map pD2)), .own (t.map smD), .val (.int k), .val (.int a), y5, y6, y7], w3, by simp -implicitDefEqProofs, ?_, ?_, .val (.int a), z5, z6, z7, h3⟩
          · rw [e_for]
            have e2 : fRng2 (aCons (fBin dAdd (fVar 4) (fC (.int 1))) (aCons (fVar 0) (aNil))) [.val (.int n), .val (.tup (T.map pD2)), .own (t.map smD), .val (.int k), .val (.int a), y5, y6, y7] = .ok ((upTo n a).map D.int, [.val (.int n), .val (.tup (T.map pD2)), .own (t.map smD), .val (.int k), .val (.int a), y5, y6, y7]) := by
              simp -implicitDefEqProofs [a1, a2, b1, b2, rng_part ha.1 ha.2, upTo]
            rw [e2]
            exact h1
          · have h2' : (t ++ (upTo n a).flatMap fun b => item r k a b).length ≤ t.length + (0 + (upTo n a).length) := h2
            have := upTo_len (a := a) hi
            omega)
      rw [foldl_app] at g2 g3
      have ew : ((rngI n).flatMap fun a => (upTo n a).flatMap fun b => item r k a b) = withL n r k := rfl
      rw [ew] at g2 g3
      refine ⟨[.val (.int n), .val (.tup (T.map pD2)), .own (s.map smD), .val (.int k), x4, x5, x6, x7], w2, by simp -implicitDefEqProofs, ?_, ?_, .val (.int k), y4, y5, y6, y7, g3⟩
      · rw [e_for]
        have e2 : fRng1 (aCons (fVar 0) (aNil)) [.val (.int n), .val (.tup (T.map pD2)), .own (s.map smD), .val (.int k), x4, x5, x6, x7] = .ok ((rngI n).map D.int, [.val (.int n), .val (.tup (T.map pD2)), .own (s.map smD), .val (.int k), x4, x5, x6, x7]) := by
          simp -implicitDefEqProofs [a1, a2, rng_eq]
        rw [e2]
        exact g1
      · have := withL_len hi r k
        rw [List.length_append]
        omega)
  rw [foldl_app, es] at f2 f3
  have lc : fLc (fSeq (fVar 1)) (gT [4, 5]) (bYes) (fTup (aCons (fTup (aCons (fTup (aCons (fVar 4) (aCons (fVar 5) (aNil)))) (aCons (fTup (aCons (fVar 5) (aCons (fVar 4) (aNil)))) (aNil)))) (aCons (fC (.int 1)) (aNil)))) [4, 5] [.val (.int n), .val (.tup (T.map pD2)), .no, .no, .no, .no, .no, .no] = .ok (.new ((T.map tieS).map smD), [.val (.int n), .val (.tup (T.map pD2)), .no, .no, .no, .no, .no, .no]) := by
    rw [fLc_T T pD2 (fun _ => true) (fun p => smD (tieS p)) (fun p => [.val (.int n), .val (.tup (T.map pD2)), .no, .no, .val (.int p.1), .val (.int p.2), .no, .no]) (by simp -implicitDefEqProofs) wl
      (fun v hv s hs => by
        simp only [List.mem_cons, List.not_mem_nil, or_false] at hv
        rcases hv with rfl | rfl <;> (cases hs; rfl))
      (fun p _ => ⟨by simp -implicitDefEqProofs [pD2, wipeE], rfl⟩) (fun _ _ => rfl)
      (fun p _ _ => ⟨.d (smD (tieS p)), by simp -implicitDefEqProofs [smD, tieS, pD2], rfl⟩)]
    rw [List.filter_eq_self.mpr (fun _ _ => rfl), tie_lc]
  subst f3
  simp -implicitDefEqProofs only [m__law_sums, b__law_sums, e_fn, e_stE0, e_ofs, e_bok, e_sCons, List.map_cons, List.map_nil, List.length_cons, List.length_nil]
  simp -implicitDefEqProofs [-List.map_map, lc, a1, a2, rng_eq, f1]
/-! ### every member of a sum is within -/
theorem item_in {n k a b : Int} {r : Int → Int → Bool} (k0 : 0 ≤ k) (k1 : k < n) (a0 : 0 ≤ a) (a1 : a < n) (b0 : 0 ≤ b) (b1 : b < n) : ∀ s ∈ item r k a b, InS n s := fun s m => by
  unfold item at m
  split at m <;> split at m
  · rw [List.mem_singleton.mp m]
    refine ⟨by simp, fun p hp => ?_⟩
    simp only [List.mem_cons, List.not_mem_nil, or_false] at hp
    rcases hp with rfl | rfl <;> simp <;> omega
  · cases m
  · rw [List.mem_singleton.mp m]
    refine ⟨by simp, fun p hp => ?_⟩
    simp only [List.mem_cons, List.not_mem_nil, or_false] at hp
    rcases hp with rfl | rfl | rfl | rfl <;> simp <;> omega
  · cases m
theorem sums_in {n : Int} {r : Int → Int → Bool} : ∀ s ∈ sumsL n r, InS n s := fun s m => by
  unfold sumsL at m
  rcases List.mem_append.mp m with m | m
  · obtain ⟨p, hp, rfl⟩ := List.mem_map.mp m
    obtain ⟨⟨p0, p1, p2⟩, _⟩ := mem_ties.mp hp
    refine ⟨by simp [tieS], fun q hq => ?_⟩
    simp only [tieS, List.mem_cons, List.not_mem_nil, or_false] at hq
    rcases hq with rfl | rfl <;> simp <;> omega
  · obtain ⟨k, hk, m⟩ := List.mem_flatMap.mp m
    unfold withL at m
    obtain ⟨a, ha, m⟩ := List.mem_flatMap.mp m
    obtain ⟨b, hb, m⟩ := List.mem_flatMap.mp m
    have hk := rngI_mem hk
    have ha := rngI_mem ha
    have hb := mem_upTo.mp hb
    exact item_in hk.1 hk.2 ha.1 ha.2 hb.1.1 hb.1.2 s m
theorem sums_len {n : Int} (hi : n ≤ 10) (r : Int → Int → Bool) : (sumsL n r).length ≤ 2000 := by
  unfold sumsL
  rw [List.length_append, List.length_map]
  have := ties_len hi r
  have : ((rngI n).flatMap (withL n r)).length ≤ (rngI n).length * 100 := flatMap_le fun k _ => withL_len hi r k
  rw [rngI_length] at this
  omega
theorem marks_len {n : Int} {d : D} (h : marksB n d = true) : True := trivial
/-- is a value right for a web -/
def rightB (n : Int) (r : Int → Int → Bool) (d : D) : Prop := True
theorem are_marks_bad {n : Int} {r : Int → Int → Bool} (w_ : WebN n (tiesOf n r)) {d : D} (h : Good2 d) (hm : marksB n d = false) : m_are_marks [W n (tiesOf n r), d] = .ok (.d (.bl false), []) := by
  have fo := form_ok h n
  rw [hm] at fo
  have e1 : ∀ s1 s2 s3, fAt 0 0 (fVar 0) [.val (W n (tiesOf n r)), s1, s2, s3] = .ok (.d (.int n), [.val (W n (tiesOf n r)), s1, s2, s3]) := fun _ _ _ => by simp -implicitDefEqProofs [W]
  simp -implicitDefEqProofs only [m_are_marks, b_are_marks, e_fn, e_stE0, e_ofs, e_bok, e_sCons, List.map_cons, List.map_nil, List.length_cons, List.length_nil]
  simp -implicitDefEqProofs [-e_fAt, check_web_ok, e1, fo]
theorem are_marks_ok {n : Int} {r : Int → Int → Bool} (hr : RelN n r) (w_ : WebN n (tiesOf n r)) {mk : Int → Int → Int} (h : Good2 (msD n mk)) (hm : marksB n (msD n mk) = true) : m_are_marks [W n (tiesOf n r), msD n mk] = .ok (.d (.bl ((sumsL n r).all (holdS mk))), []) := by
  have fo := form_ok h n
  rw [hm] at fo
  have so := sums_of_ok hr w_
  have si := @sums_in n r
  have sl := sums_len w_.hi r
  have e1 : ∀ s1 s2 s3, fAt 0 0 (fVar 0) [.val (W n (tiesOf n r)), s1, s2, s3] = .ok (.d (.int n), [.val (W n (tiesOf n r)), s1, s2, s3]) := fun _ _ _ => by simp -implicitDefEqProofs [W]
  generalize sumsL n r = SS at *
  simp -implicitDefEqProofs only [m_are_marks, b_are_marks, e_fn, e_stE0, e_ofs, e_bok, e_sCons, List.map_cons, List.map_nil, List.length_cons, List.length_nil]
  simp -implicitDefEqProofs [-e_fAt, check_web_ok, e1, fo]
  rw [fLc_T SS smD (fun _ => true) (fun s => D.bl (holdS mk s)) (fun s => [.val (W n (tiesOf n r)), .val (msD n mk), .val (.tup (s.1.map pD2)), .val (.int s.2)]) (by simp -implicitDefEqProofs [so]) (by omega)
    (fun v hv s hs => by
      simp only [List.mem_cons, List.not_mem_nil, or_false] at hv
      rcases hv with rfl | rfl <;> (cases hs; rfl))
    (fun p _ => ⟨by simp -implicitDefEqProofs [smD, wipeE], rfl⟩) (fun _ _ => rfl)
    (fun s m _ => ⟨.d (.bl (holdS mk s)), by simp -implicitDefEqProofs [is_right_ok mk (si s m)], rfl⟩)]
  rw [List.filter_eq_self.mpr (fun _ _ => rfl)]
  simp -implicitDefEqProofs [bAll_map]
end PL
namespace PL
open PySem PySem.Spec PyProof.Rows L2 TN RM
/-! ### both places of a name -/
structure Pos (g : List Int) (k i j : Int) : Prop where
  places : placesI k g 0 = [i, j]
  i0 : 0 ≤ i
  ij : i < j
  gi : g[i.toNat]? = some k
  gj : g[j.toNat]? = some k
theorem pos_of {n k : Int} {g : List Int} (h : RingN n g) (hk : 0 ≤ k ∧ k < n) : ∃ i j, Pos g k i j ∧ ∀ o, cr g k o = decide (((placesI o g 0).filter fun p => decide (i < p) && decide (p < j)).length = 1) := by
  obtain ⟨P, M, S, e, hP, hM, hS, hb, f1, f2, hp, hw, hl⟩ := ends_split (h.count hk)
  refine ⟨P.length, ((P.length + 1 + M.length : Nat) : Int), ⟨hp, by omega, by omega, ?_, ?_⟩, fun o => ?_⟩
  · rw [Int.toNat_natCast, e]
    simp
  · rw [Int.toNat_natCast, e, show P ++ k :: (M ++ k :: S) = (P ++ k :: M) ++ k :: S by simp, List.getElem?_append_right (by simp; omega)]
    simp
    rw [show P.length + 1 + M.length - (P.length + (M.length + 1)) = 0 by omega]
    rfl
  · have := between_len (k := k) (P := P) (M := M) (S := S) (o := o) (i := P.length) (j := ((P.length + 1 + M.length : Nat) : Int)) rfl (by omega)
    rw [← e] at this
    rw [this]
    unfold cr
    rw [hb]
    exact Bool.eq_iff_iff.mpr (by simp)
def e1 (g : List Int) (k : Int) : Int := (placesI k g 0).getD 0 0
def e2 (g : List Int) (k : Int) : Int := (placesI k g 0).getD 1 0
def mkR (g : List Int) (a b : Int) : Int := if e1 g a < e1 g b ∧ e1 g b < e2 g a then 1 else 0
theorem pos_e {n k : Int} {g : List Int} (h : RingN n g) (hk : 0 ≤ k ∧ k < n) : Pos g k (e1 g k) (e2 g k) ∧ ∀ o, cr g k o = decide (((placesI o g 0).filter fun p => decide (e1 g k < p) && decide (p < e2 g k)).length = 1) := by
  obtain ⟨i, j, p, c⟩ := pos_of h hk
  have a : e1 g k = i := by unfold e1; rw [p.places]; rfl
  have b : e2 g k = j := by unfold e2; rw [p.places]; rfl
  rw [a, b]
  exact ⟨p, c⟩
theorem pos_ne {g : List Int} {a b i j i' j' : Int} (h : Pos g a i j) (h' : Pos g b i' j') (ne : a ≠ b) : i ≠ i' ∧ i ≠ j' ∧ j ≠ i' ∧ j ≠ j' := by
  refine ⟨fun e => ?_, fun e => ?_, fun e => ?_, fun e => ?_⟩
  · have := h.gi; rw [e, h'.gi] at this; exact ne (Option.some.inj this).symm
  · have := h.gi; rw [e, h'.gj] at this; exact ne (Option.some.inj this).symm
  · have := h.gj; rw [e, h'.gi] at this; exact ne (Option.some.inj this).symm
  · have := h.gj; rw [e, h'.gj] at this; exact ne (Option.some.inj this).symm
/-- crossing, by places -/
theorem cr_pos {n a b : Int} {g : List Int} (h : RingN n g) (ha : 0 ≤ a ∧ a < n) (hb : 0 ≤ b ∧ b < n) (ne : a ≠ b) :
    (cr g a b = true ↔ (e1 g a < e1 g b ∧ e1 g b < e2 g a ∧ e2 g a < e2 g b) ∨ (e1 g b < e1 g a ∧ e1 g a < e2 g b ∧ e2 g b < e2 g a)) := by
  obtain ⟨pa, ca⟩ := pos_e h ha
  obtain ⟨pb, _⟩ := pos_e h hb
  have q := pos_ne pa pb ne
  have i1 := pa.ij
  have i2 := pb.ij
  rw [ca b, pb.places, decide_eq_true_eq]
  by_cases c1 : e1 g a < e1 g b <;> by_cases c2 : e1 g b < e2 g a <;> by_cases c3 : e1 g a < e2 g b <;> by_cases c4 : e2 g b < e2 g a <;> simp [c1, c2, c3, c4] <;> omega
theorem rel_ring {n : Int} {g : List Int} (h : RingN n g) : RelN n (cr g) := ⟨fun a a0 a1 => cr_self (h.count ⟨a0, a1⟩), fun a b a0 a1 b0 b1 => cr_sym (h.count ⟨a0, a1⟩) (h.count ⟨b0, b1⟩)⟩
theorem mk_two {n a b : Int} {g : List Int} (h : RingN n g) (ha : 0 ≤ a ∧ a < n) (hb : 0 ≤ b ∧ b < n) (ne : a ≠ b) (c : cr g a b = true) : mkR g a b + mkR g b a = 1 := by
  have := (cr_pos h ha hb ne).mp c
  unfold mkR
  rcases this with ⟨x1, x2, x3⟩ | ⟨x1, x2, x3⟩
  · rw [if_pos ⟨x1, x2⟩, if_neg (by omega)]; rfl
  · rw [if_neg (by omega), if_pos ⟨x1, x2⟩]; rfl
theorem cr_not {n a b : Int} {g : List Int} (h : RingN n g) (ha : 0 ≤ a ∧ a < n) (hb : 0 ≤ b ∧ b < n) (ne : a ≠ b) (c : cr g a b = false) : ¬ ((e1 g a < e1 g b ∧ e1 g b < e2 g a ∧ e2 g a < e2 g b) ∨ (e1 g b < e1 g a ∧ e1 g a < e2 g b ∧ e2 g b < e2 g a)) := fun w => by
  rw [(cr_pos h ha hb ne).mpr w] at c
  cases c
theorem mk_01 (g : List Int) (a b : Int) : mkR g a b = 0 ∨ mkR g a b = 1 := by
  unfold mkR
  split
  · exact .inr rfl
  · exact .inl rfl
theorem hold_item {n k a b : Int} {g : List Int} (h : RingN n g) (hk : 0 ≤ k ∧ k < n) (ha : 0 ≤ a ∧ a < n) (hb : 0 ≤ b ∧ b < n) (ab : a < b) : ∀ s ∈ item (cr g) k a b, holdS (mkR g) s = true := fun s m => by
  have nab : a ≠ b := by omega
  have ia := (pos_e h ha).1.ij
  have ib := (pos_e h hb).1.ij
  have ik := (pos_e h hk).1.ij
  have qab := pos_ne (pos_e h ha).1 (pos_e h hb).1 nab
  have irr := (rel_ring h).irr
  have sym := (rel_ring h).sym
  unfold item at m
  split at m
  · rename_i c
    split at m
    · rename_i c2
      rw [List.mem_singleton.mp m]
      have nka : k ≠ a := fun e => by subst e; rw [c2.2] at c; cases c
      have nkb : k ≠ b := fun e => by subst e; rw [sym k a hk.1 hk.2 ha.1 ha.2, c] at c2; exact absurd c2.1 (by simp)
      have x := (cr_pos h ha hb nab).mp c
      have y := cr_not h hk ha nka c2.1
      have z := cr_not h hk hb nkb c2.2
      have qka := pos_ne (pos_e h hk).1 (pos_e h ha).1 nka
      have qkb := pos_ne (pos_e h hk).1 (pos_e h hb).1 nkb
      have key : mkR g k a = mkR g k b := by
        unfold mkR
        rcases x with x | x <;> split <;> split <;> first | rfl | omega
      simp only [holdS, List.map_cons, List.map_nil, List.sum_cons, List.sum_nil, decide_eq_true_eq]
      rcases mk_01 g k b with w | w <;> omega
    · cases m
  · rename_i c
    have c : cr g a b = false := by simpa using c
    split at m
    · rename_i c2
      rw [List.mem_singleton.mp m]
      have nka : k ≠ a := fun e => by subst e; rw [irr k hk.1 hk.2] at c2; exact absurd c2.1 (by simp)
      have nkb : k ≠ b := fun e => by subst e; rw [irr k hk.1 hk.2] at c2; exact absurd c2.2 (by simp)
      have x := cr_not h ha hb nab c
      have y := (cr_pos h hk ha nka).mp c2.1
      have z := (cr_pos h hk hb nkb).mp c2.2
      have key : mkR g k a + mkR g k b + mkR g a b + mkR g b a = 1 ∨ mkR g k a + mkR g k b + mkR g a b + mkR g b a = 3 := by
        unfold mkR
        rcases y with y | y <;> rcases z with z | z <;> split <;> split <;> split <;> split <;> first | omega
      simp only [holdS, List.map_cons, List.map_nil, List.sum_cons, List.sum_nil, decide_eq_true_eq]
      omega
    · cases m
theorem hold_ring {n : Int} {g : List Int} (h : RingN n g) : (sumsL n (cr g)).all (holdS (mkR g)) = true := List.all_eq_true.mpr fun s m => by
  unfold sumsL at m
  rcases List.mem_append.mp m with m | m
  · obtain ⟨p, hp, rfl⟩ := List.mem_map.mp m
    obtain ⟨⟨p0, p1, p2⟩, c⟩ := mem_ties.mp hp
    have := mk_two h (a := p.1) (b := p.2) ⟨p0, by omega⟩ ⟨by omega, p2⟩ (by omega) c
    simp only [holdS, tieS, List.map_cons, List.map_nil, List.sum_cons, List.sum_nil, decide_eq_true_eq]
    omega
  · obtain ⟨k, hk, m⟩ := List.mem_flatMap.mp m
    unfold withL at m
    obtain ⟨a, ha, m⟩ := List.mem_flatMap.mp m
    obtain ⟨b, hb, m⟩ := List.mem_flatMap.mp m
    have hb := mem_upTo.mp hb
    exact hold_item h (rngI_mem hk) (rngI_mem ha) hb.1 hb.2 s m
end PL
namespace PL
open PySem PySem.Spec PyProof.Rows L2 TN RM
def enD (g : List Int) (k : Int) : D := .tup [.int (e1 g k), .int (e2 g k)]
theorem ends_e {n k : Int} {g : List Int} (h : RingN n g) (hk : 0 ≤ k ∧ k < n) : m_ends_of [.tup (g.map D.int), .int k] = .ok (.d (enD g k), []) := by
  rw [ends_of_ok h hk, (pos_e h hk).1.places]
  rfl
theorem law_ends_e {n k : Int} {g : List Int} (h : RingN n g) (hk : 0 ≤ k ∧ k < n) : m__law_ends [.tup (g.map D.int), .int k] = .ok (.ls [.int (e1 g k), .int (e2 g k)], []) := by
  rw [law_ends_eq g k (by have := h.le; omega), (pos_e h hk).1.places]
  rfl
theorem marks_of_ok {n : Int} {g : List Int} (h : RingN n g) : m_marks_of [.tup (g.map D.int)] = .ok (.d (msD n (mkR g)), []) := by
  have lo := h.lo
  have hi := h.hi
  have hl := h.le
  have ck := check_eq h.isD (by omega)
  have hf := h.half
  have a1 : (-4611686018427387904 : Int) ≤ n := by omega
  have a2 : n < 4611686018427387904 := by omega
  have rl : (rngI n).length ≤ 100000 := by rw [rngI_length]; omega
  simp -implicitDefEqProofs only [m_marks_of, b_marks_of, e_fn, e_stE0, e_ofs, e_bok, e_sCons, List.map_cons, List.map_nil, List.length_cons, List.length_nil]
  simp -implicitDefEqProofs [ck]
  rw [fLc_I (rngI n) D.int (fun _ => true) (fun k => enD g k) (by simp -implicitDefEqProofs [e_gdiv, hf, a1, a2, rng_eq]) rl rfl rfl (fun _ _ => rfl)
    (fun k m _ => ⟨.d (enD g k), by simp -implicitDefEqProofs [ends_e h (rngI_mem m)], rfl⟩),
    List.filter_eq_self.mpr (fun _ _ => rfl)]
  have lc : fLc (fSeq (fVar 1)) (gT [3, 4]) (bYes) (fBi bTuple (aCons (fLc (fSeq (fVar 1)) (gT [5, 6]) (bYes) (fIf (bOf (fChain (oI gLt) (oI gLt) (fVar 3) (fVar 5) (fVar 4))) (fC (.int 1)) (fC (.int 0))) [5, 6]) (aNil))) [3, 4] [.val (.tup (g.map D.int)), .own ((rngI n).map (enD g)), .no, .no, .no, .no, .no]
      = .ok (.new ((rngI n).map fun a => rowD n (mkR g a)), [.val (.tup (g.map D.int)), .val (.lst ((rngI n).map (enD g))), .no, .no, .no, .no, .no]) := by
    rw [fLc_T0 (env := [.val (.tup (g.map D.int)), .val (.lst ((rngI n).map (enD g))), .no, .no, .no, .no, .no]) (rngI n) (enD g) (fun _ => true) (fun a => rowD n (mkR g a)) (fun a => [.val (.tup (g.map D.int)), .val (.lst ((rngI n).map (enD g))), .no, .val (.int (e1 g a)), .val (.int (e2 g a)), .no, .no]) (by simp -implicitDefEqProofs [R.fix]) rl
      (fun v hv s hs => by
        simp only [List.mem_cons, List.not_mem_nil, or_false] at hv
        rcases hv with rfl | rfl <;> (cases hs; rfl))
      (fun p _ => ⟨by simp -implicitDefEqProofs [enD, wipeE], rfl⟩) (fun _ _ => rfl)
      (fun a m _ => by
        refine ⟨.d (rowD n (mkR g a)), ?_, rfl⟩
        simp -implicitDefEqProofs
        rw [fLc_T (rngI n) (enD g) (fun _ => true) (fun b => D.int (mkR g a b)) (fun b => [.val (.tup (g.map D.int)), .val (.lst ((rngI n).map (enD g))), .no, .val (.int (e1 g a)), .val (.int (e2 g a)), .val (.int (e1 g b)), .val (.int (e2 g b))]) (by simp -implicitDefEqProofs) rl
          (fun v hv s hs => by
            simp only [List.mem_cons, List.not_mem_nil, or_false] at hv
            rcases hv with rfl | rfl <;> (cases hs; rfl))
          (fun p _ => ⟨by simp -implicitDefEqProofs [enD, wipeE], rfl⟩) (fun _ _ => rfl)
          (fun b _ _ => ⟨.d (.int (mkR g a b)), by
            unfold mkR
            by_cases c1 : e1 g a < e1 g b <;> by_cases c2 : e1 g b < e2 g a <;> simp -implicitDefEqProofs [c1, c2], rfl⟩)]
        rw [List.filter_eq_self.mpr (fun _ _ => rfl)]
        simp -implicitDefEqProofs [rowD])]
    rw [List.filter_eq_self.mpr (fun _ _ => rfl)]
  simp -implicitDefEqProofs [lc, msD]
theorem law_marks_ok {n : Int} {g : List Int} (h : RingN n g) : m__law_marks [.tup (g.map D.int)] = .ok (.d (msD n (mkR g)), []) := by
  have lo := h.lo
  have hi := h.hi
  have hl := h.le
  have hf := h.half
  have a1 : (-4611686018427387904 : Int) ≤ n := by omega
  have a2 : n < 4611686018427387904 := by omega
  have rl : (rngI n).length ≤ 100000 := by rw [rngI_length]; omega
  obtain ⟨w', f1, f2, x3, x4, x5, f3⟩ := forF_N (ga := gN 3) (s := sCons (sAsg (gT [4, 5]) (fCall false m__law_ends (aCons (fVar 0) (aCons (fVar 3) (aNil))))) (sExpr (fApp 2 (fBi bTuple (aCons (fLc (fRng1 (aCons (fVar 1) (aNil))) (gN 6) (bYes) (fBi bInt (aCons (fChain (oI gLt) (oI gLt) (fVar 4) (fBin dIx (fCall false m__law_ends (aCons (fVar 0) (aCons (fVar 6) (aNil)))) (fC (.int 0))) (fVar 5)) (aNil))) [6]) (aNil)))))) D.int
    (fun (s : List Int) a => s ++ [a])
    (fun j s w => s.length ≤ j ∧ ∃ x3 x4 x5, w = [.val (.tup (g.map D.int)), .val (.int n), .own (s.map fun a => rowD n (mkR g a)), x3, x4, x5, .no]) 10 (rngI n) 0 [] [.val (.tup (g.map D.int)), .val (.int n), .own [], .no, .no, .no, .no] (by rw [rngI_length]; omega) ⟨by simp, _, _, _, rfl⟩ (fun a ha j s w hj ⟨hs, x3, x4, x5, hw⟩ => by
      subst hw
      have ha := rngI_mem ha
      have le := law_ends_e h ha
      have lc : fLc (fRng1 (aCons (fVar 1) (aNil))) (gN 6) (bYes) (fBi bInt (aCons (fChain (oI gLt) (oI gLt) (fVar 4) (fBin dIx (fCall false m__law_ends (aCons (fVar 0) (aCons (fVar 6) (aNil)))) (fC (.int 0))) (fVar 5)) (aNil))) [6]
          [.val (.tup (g.map D.int)), .val (.int n), .own (s.map fun a => rowD n (mkR g a)), .val (.int a), .val (.int (e1 g a)), .val (.int (e2 g a)), .no] = .ok (.new ((rngI n).map fun b => D.int (mkR g a b)), [.val (.tup (g.map D.int)), .val (.int n), .own (s.map fun a => rowD n (mkR g a)), .val (.int a), .val (.int (e1 g a)), .val (.int (e2 g a)), .no]) := by
        rw [fLc_I (rngI n) D.int (fun _ => true) (fun b => D.int (mkR g a b)) (by simp -implicitDefEqProofs [a1, a2, rng_eq]) rl rfl rfl (fun _ _ => rfl)
          (fun b m _ => ⟨.d (.int (mkR g a b)), by
            have le2 := law_ends_e h (rngI_mem m)
            unfold mkR
            by_cases c1 : e1 g a < e1 g b <;> by_cases c2 : e1 g b < e2 g a <;> simp -implicitDefEqProofs [le2, c1, c2], rfl⟩)]
        rw [List.filter_eq_self.mpr (fun _ _ => rfl)]
      refine ⟨[.val (.tup (g.map D.int)), .val (.int n), .own (s.map fun a => rowD n (mkR g a)), .val (.int a), x4, x5, .no], [.val (.tup (g.map D.int)), .val (.int n), .own ((s ++ [a]).map fun a => rowD n (mkR g a)), .val (.int a), .val (.int (e1 g a)), .val (.int (e2 g a)), .no], by simp -implicitDefEqProofs, ?_, by rw [List.length_append]; simp; omega, _, _, _, rfl⟩
      have : s.length < 100000 := by omega
      have er : D.tup ((rngI n).map fun b => D.int (mkR g a b)) = rowD n (mkR g a) := rfl
      simp -implicitDefEqProofs [le, lc, this, er])
  rw [foldl_app] at f2 f3
  have ef : [] ++ (rngI n).flatMap (fun a => [a]) = rngI n := by simp
  rw [ef] at f2 f3
  subst f3
  simp -implicitDefEqProofs only [m__law_marks, b__law_marks, e_fn, e_stE0, e_ofs, e_bok, e_sCons, List.map_cons, List.map_nil, List.length_cons, List.length_nil]
  simp -implicitDefEqProofs [e_gdiv, hf, a1, a2, rng_eq, f1, msD]
/-! ### a table of marks -/
theorem good_ms {n : Int} (hi : n ≤ 1000) (mk : Int → Int → Int) : Good2 (msD n mk) := by
  refine ⟨rfl, fun xs e => ?_⟩
  cases e
  refine ⟨by rw [List.length_map, rngI_length]; omega, fun x m => ?_⟩
  obtain ⟨a, _, rfl⟩ := List.mem_map.mp m
  refine ⟨rfl, fun ys e => ?_⟩
  cases e
  refine ⟨by rw [List.length_map, rngI_length]; omega, fun y m => ?_⟩
  obtain ⟨b, _, rfl⟩ := List.mem_map.mp m
  rfl
theorem enum_rng {n : Int} (f : Int → D) : ∀ p ∈ enumP 0 ((rngI n).map f), p.2 = f p.1 := by
  have key : ∀ (l : List Int) (i : Nat), (∀ j (h : j < l.length), l[j] = (i + j : Nat)) → ∀ p ∈ enumP i (l.map f), p.2 = f p.1 := by
    intro l
    induction l with
    | nil => intro _ _ p m; cases m
    | cons a l ih =>
      intro i hl p m
      rcases List.mem_cons.mp m with e | m
      · subst e
        have := hl 0 (by simp)
        simp only [List.getElem_cons_zero, Nat.add_zero] at this
        show f a = f i
        rw [this]
      · refine ih (i + 1) (fun j hj => ?_) p m
        have := hl (j + 1) (by simp; omega)
        simp only [List.getElem_cons_succ] at this
        rw [this]
        omega
  refine key (rngI n) 0 fun j hj => ?_
  have e : (rngI n)[j]? = some (j : Int) := by
    have hj' := hj
    rw [rngI_length] at hj'
    unfold rngI
    rw [List.getElem?_map, List.getElem?_range hj']
    rfl
  rw [List.getElem?_eq_getElem hj] at e
  rw [Option.some.inj e]
  omega
theorem marksB_ring {n : Int} {g : List Int} (h : RingN n g) : marksB n (msD n (mkR g)) = true := by
  have lo := h.lo
  show (decide ((((rngI n).map fun a => rowD n (mkR g a)).length : Int) = n) && (enumP 0 ((rngI n).map fun a => rowD n (mkR g a))).all fun p => rowB n p.1 p.2) = true
  rw [Bool.and_eq_true]
  refine ⟨decide_eq_true (by rw [List.length_map, rngI_length]; omega), List.all_eq_true.mpr fun p m => ?_⟩
  have e := enum_rng (fun a => rowD n (mkR g a)) p m
  obtain ⟨_, _, b⟩ := enumP_mem m
  rw [List.length_map, rngI_length] at b
  rw [e]
  show ((((rngI n).map fun b => D.int (mkR g p.1 b)).all bitB) && (decide ((((rngI n).map fun b => D.int (mkR g p.1 b)).length : Int) = n) && zeroB (((rngI n).map fun b => D.int (mkR g p.1 b))[p.1]?))) = true
  rw [Bool.and_eq_true, Bool.and_eq_true]
  refine ⟨List.all_eq_true.mpr fun x m => ?_, decide_eq_true (by rw [List.length_map, rngI_length]; omega), ?_⟩
  · obtain ⟨b, _, rfl⟩ := List.mem_map.mp m
    rcases mk_01 g p.1 b with w | w <;> simp [bitB, w]
  · have : ((rngI n).map fun b => D.int (mkR g p.1 b))[p.1]? = some (.int (mkR g p.1 p.1)) := by
      unfold rngI
      rw [List.getElem?_map, List.getElem?_map, List.getElem?_range (by omega)]
      rfl
    rw [this]
    show decide (mkR g p.1 p.1 = 0) = true
    unfold mkR
    simp
end PL
namespace PL
open PySem PySem.Spec PyProof.Rows L2 TN RM
def allP (n : Int) : List (Int × Int) := (rngI n).flatMap fun a => (upTo n a).map fun b => (a, b)
theorem allP_ties (n : Int) : allP n = tiesOf n fun _ _ => true := by
  unfold allP tiesOf upTo
  congr 1
  funext a
  congr 2
  funext b
  simp
structure TiesN (n : Int) (T : List (Int × Int)) : Prop where
  asc : T.Pairwise plt
  ok : ∀ p ∈ T, 0 ≤ p.1 ∧ p.1 < p.2 ∧ p.2 < n
theorem drawn_ok {u : List D} (hu : Urn u) {n : Int} (h0 : 1 ≤ n) (h1 : n ≤ 10) : ∃ (T : List (Int × Int)) (u' : List D), TiesN n T ∧ Urn u' ∧ m__law_drawn_ties [.lst u, .int n] = .ok (.d (.tup (T.map pD2)), u') := by
  obtain ⟨c, u1, c0, c1, hu1, ec⟩ := ball_ok hu (n := 4) (by omega) (by omega)
  obtain ⟨part, hpart⟩ : ∃ n : Int, 1 + c = n := ⟨_, rfl⟩
  have a1 : (-4611686018427387904 : Int) ≤ n := by omega
  have a2 : n < 4611686018427387904 := by omega
  obtain ⟨w', f1, f2, u', T, x4, x5, hu', sub, f3⟩ := forF_N (ga := gN 4) (s := sFor (fRng2 (aCons (fBin dAdd (fVar 4) (fC (.int 1))) (aCons (fVar 1) (aNil)))) (gN 5) (sIf (bOf (fBin (oI gLt) (fCall true m__law_ball (aCons (fVar 0) (aCons (fC (.int 5)) (aNil)))) (fVar 2))) (sExpr (fApp 3 (fTup (aCons (fVar 4) (aCons (fVar 5) (aNil)))))) (sNil))) D.int
    (fun (t : List (Int × Int)) a => t ++ (upTo n a).map fun b => (a, b))
    (fun j t w => t.length ≤ j * 10 ∧ ∃ u T x4 x5, Urn u ∧ T.Sublist t ∧ w = [.par u, .val (.int n), .val (.int part), .own (T.map pD2), x4, x5]) 10 (rngI n) 0 [] [.par u1, .val (.int n), .val (.int part), .own [], .no, .no] (by rw [rngI_length]; omega) ⟨by simp, u1, [], _, _, hu1, List.Sublist.slnil, rfl⟩ (fun a ha j t w hj ⟨ht, u, T, x4, x5, hu, sub, hw⟩ => by
      subst hw
      have ha := rngI_mem ha
      have b1 : (-4611686018427387904 : Int) ≤ a + 1 := by omega
      have b2 : a + 1 < 4611686018427387904 := by omega
      obtain ⟨w2, g1, g2, u2, T2, y5, hu2, sub2, g3⟩ := forF_N (ga := gN 5) (s := sIf (bOf (fBin (oI gLt) (fCall true m__law_ball (aCons (fVar 0) (aCons (fC (.int 5)) (aNil)))) (fVar 2))) (sExpr (fApp 3 (fTup (aCons (fVar 4) (aCons (fVar 5) (aNil)))))) (sNil)) D.int
        (fun (t : List (Int × Int)) b => t ++ [(a, b)])
        (fun i v w => v.length ≤ t.length + i ∧ ∃ u T y5, Urn u ∧ T.Sublist v ∧ w = [.par u, .val (.int n), .val (.int part), .own (T.map pD2), .val (.int a), y5]) 10 (upTo n a) 0 t [.par u, .val (.int n), .val (.int part), .own (T.map pD2), .val (.int a), x5] (by have := upTo_len (a := a) h1; omega) ⟨by omega, u, T, _, hu, sub, rfl⟩ (fun b hb i v w hi ⟨hv, u, T, y5, hu, sub, hw⟩ => by
          subst hw
          obtain ⟨q, u3, q0, q1, hu3, eq⟩ := ball_ok hu (n := 5) (by omega) (by omega)
          have tl := sub.length_le
          have tl2 : T.length < 100000 := by omega
          by_cases c : q < part
          · refine ⟨[.par u, .val (.int n), .val (.int part), .own (T.map pD2), .val (.int a), .val (.int b)], [.par u3, .val (.int n), .val (.int part), .own ((T ++ [(a, b)]).map pD2), .val (.int a), .val (.int b)], by simp -implicitDefEqProofs, ?_, by rw [List.length_append]; simp; omega, u3, T ++ [(a, b)], _, hu3, sub.append (List.Sublist.refl _), rfl⟩
            simp -implicitDefEqProofs [eq, c, tl2, pD2]
          · refine ⟨[.par u, .val (.int n), .val (.int part), .own (T.map pD2), .val (.int a), .val (.int b)], [.par u3, .val (.int n), .val (.int part), .own (T.map pD2), .val (.int a), .val (.int b)], by simp -implicitDefEqProofs, ?_, by rw [List.length_append]; simp; omega, u3, T, _, hu3, sub.trans (List.sublist_append_left _ _), rfl⟩
            simp -implicitDefEqProofs [eq, c])
      rw [foldl_app] at g2 sub2
      have em : ((upTo n a).flatMap fun b => [(a, b)]) = (upTo n a).map fun b => (a, b) := by
        induction upTo n a with
        | nil => rfl
        | cons x l ih => rw [List.flatMap_cons, ih]; rfl
      rw [em] at g2 sub2
      refine ⟨[.par u, .val (.int n), .val (.int part), .own (T.map pD2), .val (.int a), x5], w2, by simp -implicitDefEqProofs, ?_, ?_, u2, T2, .val (.int a), y5, hu2, sub2, g3⟩
      · rw [e_for]
        have e2 : fRng2 (aCons (fBin dAdd (fVar 4) (fC (.int 1))) (aCons (fVar 1) (aNil))) [.par u, .val (.int n), .val (.int part), .own (T.map pD2), .val (.int a), x5] = .ok ((upTo n a).map D.int, [.par u, .val (.int n), .val (.int part), .own (T.map pD2), .val (.int a), x5]) := by
          simp -implicitDefEqProofs [a1, a2, b1, b2, rng_part ha.1 ha.2, upTo]
        rw [e2]
        exact g1
      · have := upTo_len (a := a) h1
        omega)
  rw [foldl_app] at f2 sub
  have ef : [] ++ (rngI n).flatMap (fun a => (upTo n a).map fun b => (a, b)) = tiesOf n fun _ _ => true := by
    rw [List.nil_append]
    exact allP_ties n
  rw [ef] at f2 sub
  have w := tiesOf_web h0 h1 fun _ _ => true
  refine ⟨T, u', ⟨w.asc.sublist sub, fun p m => w.ok p (sub.subset m)⟩, hu', ?_⟩
  subst f3
  simp -implicitDefEqProofs only [m__law_drawn_ties, b__law_drawn_ties, e_fn, e_stE1, e_ofs, e_bok, e_sCons, List.map_cons, List.map_nil, List.length_cons, List.length_nil]
  simp -implicitDefEqProofs [ec, hpart, a1, a2, rng_eq, f1]
theorem ties_rel {n : Int} {T : List (Int × Int)} (h : TiesN n T) : RelN n (has T) ∧ (1 ≤ n → n ≤ 10 → tiesOf n (has T) = T) := by
  have hasT : ∀ a b, has T a b = true ↔ ∃ p ∈ T, (p.1 = a ∧ p.2 = b) ∨ (p.1 = b ∧ p.2 = a) := fun a b => by
    unfold has
    rw [List.any_eq_true]
    simp only [Bool.or_eq_true, Bool.and_eq_true, decide_eq_true_eq]
  refine ⟨⟨fun a _ _ => Bool.eq_false_iff.mpr fun w => ?_, fun a b _ _ _ _ => Bool.eq_iff_iff.mpr ?_⟩, fun h0 h1 => sorted_ext (tiesOf_web h0 h1 _).asc h.asc fun p => ?_⟩
  · obtain ⟨p, m, q⟩ := (hasT a a).mp w
    have := h.ok p m
    omega
  · rw [hasT, hasT]
    constructor <;> rintro ⟨p, m, q | q⟩
    · exact ⟨p, m, .inr q⟩
    · exact ⟨p, m, .inl q⟩
    · exact ⟨p, m, .inr q⟩
    · exact ⟨p, m, .inl q⟩
  · rw [mem_ties, hasT]
    constructor
    · rintro ⟨⟨p0, p1, p2⟩, q, m, c⟩
      have oq := h.ok q m
      rcases c with ⟨x, y⟩ | ⟨x, y⟩
      · rw [← show q = p from Prod.ext x y]; exact m
      · omega
    · intro m
      exact ⟨h.ok p m, p, m, .inl ⟨rfl, rfl⟩⟩
end PL
namespace PL
open PySem PySem.Spec PyProof.Rows L2 TN RM
theorem good1_of {d : D} (h : (tyOf d).isSome) (hn : ∀ xs, d ≠ .tup xs) : Good1 d := ⟨h, fun xs e => absurd e (hn xs)⟩
theorem good2_of {d : D} (h : (tyOf d).isSome) (hn : ∀ xs, d ≠ .tup xs) : Good2 d := ⟨h, fun xs e => absurd e (hn xs)⟩
theorem good1_tup {xs : List D} (hl : xs.length ≤ 1000) (h : ∀ x ∈ xs, (tyOf x).isSome) : Good1 (.tup xs) := ⟨rfl, fun ys e => by cases e; exact ⟨hl, h⟩⟩
theorem good2_tup {xs : List D} (hl : xs.length ≤ 1000) (h : ∀ x ∈ xs, Good1 x) : Good2 (.tup xs) := ⟨rfl, fun ys e => by cases e; exact ⟨hl, h⟩⟩
theorem zeros_ok {n : Int} (h0 : 1 ≤ n) (h1 : n ≤ 10) : ∃ q zs, dMulX (.tup [.int 0]) (.int n) = .ok q ∧ q.r = .d (.tup zs) ∧ zs.length ≤ 1000 ∧ ∀ z ∈ zs, (tyOf z).isSome := by
  by_cases e : n = 1
  · subst e
    exact ⟨_, [.int 0], rfl, rfl, by simp, fun z m => by rw [List.mem_singleton.mp m]; rfl⟩
  · have : dMulX (.tup [.int 0]) (.int n) = dMul (.tup [.int 0]) (.int n) := by
      unfold dMulX
      split
      · rename_i q1 q2; cases q1
      · rename_i q1 q2; cases q2; exact absurd rfl e
      · rfl
    rw [this]
    have e2 : dMul (.tup [.int 0]) (.int n) = .ok (.tp (List.replicate n.toNat [D.int 0]).flatten) := by
      show (if _ then _ else _) = _
      rw [if_pos ⟨by simp, by omega, by omega, by simp⟩]
    refine ⟨_, (List.replicate n.toNat [D.int 0]).flatten, e2, rfl, ?_, fun z m => ?_⟩
    · have : ∀ m : Nat, (List.replicate m [D.int 0]).flatten.length = m := by
        intro m
        induction m with
        | zero => rfl
        | succ m ih => rw [List.replicate_succ, List.flatten_cons, List.length_append, ih]; simp; omega
      rw [this]
      omega
    · obtain ⟨l, hl, hz⟩ := List.mem_flatten.mp m
      rw [(List.mem_replicate.mp hl).2] at hz
      rw [List.mem_singleton.mp hz]
      rfl
abbrev tNew : S := sExpr (fApp 6 (fBin dAdd (fBin dAdd (fSl dSl (fVar 1) (oNone) (oSome (fVar 3))) (fTup (aCons (fBin dAdd (fBin dAdd (fSl dSl (fVar 5) (oNone) (oSome (fVar 4))) (fTup (aCons (fVar 7) (aNil)))) (fSl dSl (fVar 5) (oSome (fBin dAdd (fVar 4) (fC (.int 1)))) (oNone))) (aNil)))) (fSl dSl (fVar 1) (oSome (fBin dAdd (fVar 3) (fC (.int 1)))) (oNone))))
theorem bent_ok {u : List D} (hu : Urn u) {n : Int} (h0 : 1 ≤ n) (h1 : n ≤ 10) (mk : Int → Int → Int) : ∃ (ds : List D) (u' : List D), (ds.length ≤ 1000 ∧ ∀ d ∈ ds, Good2 d) ∧ Urn u' ∧ m__law_bent [.lst u, msD n mk] = .ok (.ls ds, u') := by
  obtain ⟨at_, u1, t0, t1, hu1, et⟩ := ball_ok hu (n := n) (by omega) (by omega)
  obtain ⟨to_, u2, o0, o1, hu2, eo⟩ := ball_ok hu1 (n := n) (by omega) (by omega)
  obtain ⟨rows, hrows⟩ : ∃ r, ((rngI n).map fun a => rowD n (mk a)) = r := ⟨_, rfl⟩
  have hms : msD n mk = .tup rows := by unfold msD; rw [hrows]
  have rl : (rows.length : Int) = n := by rw [← hrows, List.length_map, rngI_length]; omega
  have rlen : rows.length ≤ 10 := by omega
  obtain ⟨row, hrow⟩ : ∃ r, ((rngI n).map fun b => D.int (mk at_ b)) = r := ⟨_, rfl⟩
  have wlen : row.length ≤ 10 := by rw [← hrow, List.length_map, rngI_length]; omega
  have rat : atI rows at_ = some (.tup row) := by rw [← hrows, at_rng _ t0 t1]; unfold rowD; rw [hrow]
  have wat : atI row to_ = some (.int (mk at_ to_)) := by rw [← hrow, at_rng _ o0 o1]
  have rg1 : ∀ x ∈ rows, Good1 x := fun x m => by
    rw [← hrows] at m
    obtain ⟨a, _, rfl⟩ := List.mem_map.mp m
    refine good1_tup (by rw [List.length_map, rngI_length]; omega) fun y m => ?_
    obtain ⟨b, _, rfl⟩ := List.mem_map.mp m
    rfl
  have rsh : ∀ x ∈ rows, ∃ xs, x = .tup xs ∧ xs.length ≤ 10 ∧ ∀ y ∈ xs, (tyOf y).isSome := fun x m => by
    rw [← hrows] at m
    obtain ⟨a, _, rfl⟩ := List.mem_map.mp m
    refine ⟨_, rfl, by rw [List.length_map, rngI_length]; omega, fun y m => ?_⟩
    obtain ⟨b, _, rfl⟩ := List.mem_map.mp m
    rfl
  have wty : ∀ x ∈ row, (tyOf x).isSome := fun x m => by
    rw [← hrow] at m
    obtain ⟨b, _, rfl⟩ := List.mem_map.mp m
    rfl
  clear hrows hrow
  obtain ⟨qA, A, sA, tA, lA, mA⟩ := dSl_tup rows none (some at_)
  obtain ⟨qB, B, sB, tB, lB, mB⟩ := dSl_tup rows (some (at_ + 1)) none
  obtain ⟨qC, C, sC, tC, lC, mC⟩ := dSl_tup row none (some to_)
  obtain ⟨qE, E, sE, tE_, lE, mE⟩ := dSl_tup row (some (to_ + 1)) none
  obtain ⟨q1, R1, s1, t1_, l1, m1⟩ := dSl_tup rows (some 1) none
  obtain ⟨qz, zs, sz, tz, lz, mz⟩ := zeros_ok h0 h1
  obtain ⟨q2, s2, t2⟩ := dAdd_tup rows [.tup zs] (by simp; omega)
  have gA : ∀ x ∈ A, Good1 x := fun x m => rg1 x (mA x m)
  have gB : ∀ x ∈ B, Good1 x := fun x m => rg1 x (mB x m)
  have glue : ∀ x : D, Good1 x → ∃ qa qb, dAdd (.tup A) (.tup [x]) = .ok qa ∧ qa.r = .d (.tup (A ++ [x])) ∧ dAdd (.tup (A ++ [x])) (.tup B) = .ok qb ∧ qb.r = .d (.tup (A ++ [x] ++ B)) ∧ Good2 (.tup (A ++ [x] ++ B)) := fun x gx => by
    obtain ⟨qa, sa, ta⟩ := dAdd_tup A [x] (by simp; omega)
    obtain ⟨qb, sb, tb⟩ := dAdd_tup (A ++ [x]) B (by simp; omega)
    refine ⟨qa, qb, sa, ta, sb, tb, good2_tup (by simp; omega) fun y m => ?_⟩
    rcases List.mem_append.mp m with m | m
    · rcases List.mem_append.mp m with m | m
      · exact gA y m
      · rw [List.mem_singleton.mp m]; exact gx
    · exact gB y m
  have glueR : ∀ x : D, (tyOf x).isSome → ∃ qa qb, dAdd (.tup C) (.tup [x]) = .ok qa ∧ qa.r = .d (.tup (C ++ [x])) ∧ dAdd (.tup (C ++ [x])) (.tup E) = .ok qb ∧ qb.r = .d (.tup (C ++ [x] ++ E)) ∧ Good1 (.tup (C ++ [x] ++ E)) := fun x gx => by
    obtain ⟨qa, sa, ta⟩ := dAdd_tup C [x] (by simp; omega)
    obtain ⟨qb, sb, tb⟩ := dAdd_tup (C ++ [x]) E (by simp; omega)
    refine ⟨qa, qb, sa, ta, sb, tb, good1_tup (by simp; omega) fun y m => ?_⟩
    rcases List.mem_append.mp m with m | m
    · rcases List.mem_append.mp m with m | m
      · exact wty y (mC y m)
      · rw [List.mem_singleton.mp m]; exact gx
    · exact wty y (mE y m)
  have g0 : Good2 (.tup rows) := good2_tup (by omega) rg1
  -- lists of rows
  have lcL : ∀ s2 s3 s4 s5 s6 s7 s8, s5 = Sl.val (.tup row) → fLc (fSeq (fVar 1)) (gN 5) (bYes) (fBi bList (aCons (fVar 5) (aNil))) [5] [.par u2, .val (.tup rows), s2, s3, s4, s5, s6, s7, s8] = .ok (.new (rows.map fun x => match x with | .tup xs => D.lst xs | y => y), [.par u2, .val (.tup rows), s2, s3, s4, s5, s6, s7, s8]) := fun s2 s3 s4 s5 s6 s7 s8 hs => by
    subst hs
    rw [fLc_I rows id (fun _ => true) (fun x => match x with | .tup xs => D.lst xs | y => y) (by simp -implicitDefEqProofs) (by omega) rfl rfl (fun _ _ => rfl)
      (fun x m _ => by
        obtain ⟨xs, rfl, lx, _⟩ := rsh x m
        exact ⟨.new xs, by simp -implicitDefEqProofs, rfl⟩)]
    rw [List.filter_eq_self.mpr (fun _ _ => rfl)]
  obtain ⟨LL, hLL⟩ : ∃ l, (rows.map fun x => match x with | .tup xs => D.lst xs | y => y) = l := ⟨_, rfl⟩
  have gLL : Good2 (.tup LL) := by
    refine good2_tup (by rw [← hLL, List.length_map]; omega) fun y m => ?_
    rw [← hLL] at m
    obtain ⟨x, hx, rfl⟩ := List.mem_map.mp m
    obtain ⟨xs, rfl, _, _⟩ := rsh x hx
    exact good1_of rfl fun _ e => by cases e
  rw [hLL] at lcL
  have lcR : ∀ s2 s3 s4 s5 s6 s7 s8, s5 = Sl.val (.tup row) → fLc (fSeq (fVar 1)) (gN 5) (bYes) (fBack (fVar 5)) [5] [.par u2, .val (.tup rows), s2, s3, s4, s5, s6, s7, s8] = .ok (.new (rows.map fun x => match x with | .tup xs => D.tup xs.reverse | y => y), [.par u2, .val (.tup rows), s2, s3, s4, s5, s6, s7, s8]) := fun s2 s3 s4 s5 s6 s7 s8 hs => by
    subst hs
    rw [fLc_I rows id (fun _ => true) (fun x => match x with | .tup xs => D.tup xs.reverse | y => y) (by simp -implicitDefEqProofs) (by omega) rfl rfl (fun _ _ => rfl)
      (fun x m _ => by
        obtain ⟨xs, rfl, lx, _⟩ := rsh x m
        exact ⟨.d (.tup xs.reverse), by simp -implicitDefEqProofs, rfl⟩)]
    rw [List.filter_eq_self.mpr (fun _ _ => rfl)]
  obtain ⟨RR, hRR⟩ : ∃ l, (rows.map fun x => match x with | .tup xs => D.tup xs.reverse | y => y) = l := ⟨_, rfl⟩
  have gRR : Good2 (.tup RR) := by
    refine good2_tup (by rw [← hRR, List.length_map]; omega) fun y m => ?_
    rw [← hRR] at m
    obtain ⟨x, hx, rfl⟩ := List.mem_map.mp m
    obtain ⟨xs, rfl, lx, tx⟩ := rsh x hx
    exact good1_tup (by rw [List.length_reverse]; omega) fun z m => tx z (List.mem_reverse.mp m)
  rw [hRR] at lcR
  clear hLL hRR
  -- the loop over what is put in
  have loop : ∀ (as : List D), (∀ d ∈ as, (tyOf d).isSome) → as.length ≤ 10 → ∀ (fs : List D), (fs.length ≤ 100 ∧ ∀ d ∈ fs, Good2 d) → ∀ x : Sl, ∃ gs x', (gs.length ≤ 110 ∧ ∀ d ∈ gs, Good2 d) ∧
      forF (gN 7) tNew as [.par u2, .val (.tup rows), .val (.int n), .val (.int at_), .val (.int to_), .val (.tup row), .own fs, x, .no] = .ok (.nx, [.par u2, .val (.tup rows), .val (.int n), .val (.int at_), .val (.int to_), .val (.tup row), .own gs, x', .no]) := fun as hty hl fs hfs x => by
    obtain ⟨w', f1, f2, gs, x', hg, f3⟩ := forF_N (ga := gN 7) (s := tNew) id (fun (k : Nat) _ => k + 1)
      (fun j k w => k ≤ j ∧ ∃ gs x, (gs.length ≤ fs.length + j ∧ ∀ d ∈ gs, Good2 d) ∧ w = [.par u2, .val (.tup rows), .val (.int n), .val (.int at_), .val (.int to_), .val (.tup row), .own gs, x, .no]) 10 as 0 0 [.par u2, .val (.tup rows), .val (.int n), .val (.int at_), .val (.int to_), .val (.tup row), .own fs, x, .no] (by omega) ⟨by omega, fs, x, ⟨by omega, hfs.2⟩, rfl⟩ (fun d hd j k w hj ⟨hk, gs, x, hg, hw⟩ => by
        subst hw
        obtain ⟨qa, qb, sa, ta, sb, tb, gd⟩ := glueR d (hty d hd)
        obtain ⟨qc, qd, sc, tc, sd, td, ge⟩ := glue _ gd
        refine ⟨[.par u2, .val (.tup rows), .val (.int n), .val (.int at_), .val (.int to_), .val (.tup row), .own gs, .val d, .no], [.par u2, .val (.tup rows), .val (.int n), .val (.int at_), .val (.int to_), .val (.tup row), .own (gs ++ [.tup (A ++ [D.tup (C ++ [d] ++ E)] ++ B)]), .val d, .no], by simp -implicitDefEqProofs, ?_, by omega, _, _, ⟨by rw [List.length_append]; simp; omega, fun e m => ?_⟩, rfl⟩
        · have gl : gs.length < 100000 := by have := hfs.1; omega
          generalize C ++ [d] ++ E = X at *
          generalize A ++ [D.tup X] ++ B = Y at *
          generalize C ++ [d] = Z at *
          generalize A ++ [D.tup X] = V at *
          simp -implicitDefEqProofs [sA, tA, sB, tB, sC, tC, sE, tE_, sa, ta, sb, tb, sc, tc, sd, td, gl]
        · rcases List.mem_append.mp m with m | m
          · exact hg.2 e m
          · rw [List.mem_singleton.mp m]; exact ge)
    rw [List.map_id] at f1
    subst f3
    exact ⟨gs, x', ⟨by have := hfs.1; omega, hg.2⟩, f1⟩
  obtain ⟨pw, hpw, _⟩ := pow60
  obtain ⟨gs, x', hg, fl⟩ := loop [.int (1 - mk at_ to_), .bl true, .bl false, .int 2, .int (-1), .non, .str "0", .int pw] (fun d m => by
    simp only [List.mem_cons, List.not_mem_nil, or_false] at m
    rcases m with rfl | rfl | rfl | rfl | rfl | rfl | rfl | rfl <;> rfl) (by simp)
    [.tup rows, .lst rows, .tup R1, .tup (rows ++ [.tup zs]), .non, .tup [], .int 0, .str "01", .dct, .tup LL] ⟨by simp, fun d m => by
      simp only [List.mem_cons, List.not_mem_nil, or_false] at m
      rcases m with rfl | rfl | rfl | rfl | rfl | rfl | rfl | rfl | rfl | rfl
      · exact g0
      · exact good2_of rfl fun _ e => by cases e
      · exact good2_tup (by omega) fun y m => rg1 y (m1 y m)
      · refine good2_tup (by simp; omega) fun y m => ?_
        rcases List.mem_append.mp m with m | m
        · exact rg1 y m
        · rw [List.mem_singleton.mp m]; exact good1_tup lz mz
      · exact good2_of rfl fun _ e => by cases e
      · exact good2_tup (by simp) fun y m => by cases m
      · exact good2_of rfl fun _ e => by cases e
      · exact good2_of rfl fun _ e => by cases e
      · exact good2_of rfl fun _ e => by cases e
      · exact gLL⟩ .no
  have sm : dMulX (.str "0") (.int n) = .ok (.d (.str (repS "0" n))) := by
    show (if _ then _ else _) = _
    rw [if_pos ⟨by omega, by omega, by decide⟩]
  have badT : ∀ d ∈ ([.int 0, .non, .str (repS "0" n)] : List D), Good1 d := fun d m => by
    simp only [List.mem_cons, List.not_mem_nil, or_false] at m
    rcases m with rfl | rfl | rfl <;> exact good1_of rfl fun _ e => by cases e
  have lcB : ∀ x7 : Sl, fLc (fSeq (fTup (aCons (fC (.int 0)) (aCons (fC .non) (aCons (fBin dMulX (fC (.str "0")) (fVar 2)) (aNil)))))) (gN 8) (bYes) (fBin dAdd (fBin dAdd (fSl dSl (fVar 1) (oNone) (oSome (fVar 3))) (fTup (aCons (fVar 8) (aNil)))) (fSl dSl (fVar 1) (oSome (fBin dAdd (fVar 3) (fC (.int 1)))) (oNone))) [8]
      [.par u2, .val (.tup rows), .val (.int n), .val (.int at_), .val (.int to_), .val (.tup row), .own gs, x7, .no] = .ok (.new (([.int 0, .non, .str (repS "0" n)] : List D).map fun d => D.tup (A ++ [d] ++ B)), [.par u2, .val (.tup rows), .val (.int n), .val (.int at_), .val (.int to_), .val (.tup row), .own gs, x7, .no]) := fun x7 => by
    rw [fLc_I ([.int 0, .non, .str (repS "0" n)] : List D) id (fun _ => true) (fun d => D.tup (A ++ [d] ++ B)) (by simp -implicitDefEqProofs [sm]) (by simp) rfl rfl (fun _ _ => rfl)
      (fun d m _ => by
        obtain ⟨qc, qd, sc, tc, sd, td, ge⟩ := glue _ (badT d m)
        refine ⟨.d (.tup (A ++ [d] ++ B)), ?_, rfl⟩
        generalize A ++ [d] ++ B = Y at *
        generalize A ++ [d] = V at *
        simp -implicitDefEqProofs [sA, tA, sB, tB, sc, tc, sd, td])]
    rw [List.filter_eq_self.mpr (fun _ _ => rfl)]
  have gY : ∀ d ∈ (([.int 0, .non, .str (repS "0" n)] : List D).map fun d => D.tup (A ++ [d] ++ B)), Good2 d := fun d m => by
    obtain ⟨e, me, rfl⟩ := List.mem_map.mp m
    obtain ⟨_, _, _, _, _, _, ge⟩ := glue _ (badT e me)
    exact ge
  have lY : (([.int 0, .non, .str (repS "0" n)] : List D).map fun d => D.tup (A ++ [d] ++ B)).length = 3 := by simp
  generalize (([.int 0, .non, .str (repS "0" n)] : List D).map fun d => D.tup (A ++ [d] ++ B)) = YY at *
  obtain ⟨qc, qd, sc, tc, sd, td, ge⟩ := glue (.tup C) (good1_tup (by omega) fun x m => wty x (mC x m))
  have gl := hg.1
  have da1 := dAdd_lst gs YY (by omega)
  have da2 := dAdd_lst (gs ++ YY) [.tup (A ++ [D.tup C] ++ B), .tup rows.reverse, .tup RR] (by simp; omega)
  refine ⟨gs ++ YY ++ [.tup (A ++ [D.tup C] ++ B), .tup rows.reverse, .tup RR], u2, ⟨by simp; omega, fun d m => ?_⟩, hu2, ?_⟩
  · rcases List.mem_append.mp m with m | m
    · rcases List.mem_append.mp m with m | m
      · exact hg.2 d m
      · exact gY d m
    · simp only [List.mem_cons, List.not_mem_nil, or_false] at m
      rcases m with rfl | rfl | rfl
      · exact ge
      · exact good2_tup (by rw [List.length_reverse]; omega) fun y m => rg1 y (List.mem_reverse.mp m)
      · exact gRR
  · rw [hms]
    generalize A ++ [D.tup C] ++ B = Y at *
    generalize A ++ [D.tup C] = V at *
    generalize rows ++ [.tup zs] = V2 at *
    generalize gs ++ YY = GY at *
    simp -implicitDefEqProofs only [m__law_bent, b__law_bent, e_fn, e_stE1, e_ofs, e_bok, e_sCons, List.map_cons, List.map_nil, List.length_cons, List.length_nil]
    simp -implicitDefEqProofs [rl, et, eo, rat, wat, s1, t1_, sz, tz, s2, t2, lcL, hpw, forF_nil, fl]
    rw [lcB]
    simp -implicitDefEqProofs [da1, sA, tA, sB, tB, sC, tC, sc, tc, sd, td, lcR, da2]
end PL
namespace M_k27
open PySem PySem.Spec PyProof.Rows L2 TN PL RM
theorem dEq_bl (neg a b : Bool) : dEq neg (.bl a) (.bl b) = .ok (.d (.bl (if neg then !(a == b) else (a == b)))) := by
  cases neg <;> cases a <;> cases b <;> rfl
theorem dEq_ms (n : Int) (mk : Int → Int → Int) : dEq true (msD n mk) (msD n mk) = .ok (.d (.bl false)) := by
  have := dEq_en (α := List (List Int)) true ((rngI n).map fun a => (rngI n).map fun b => mk a b) ((rngI n).map fun a => (rngI n).map fun b => mk a b) (by decide)
  have e : (En.d ((rngI n).map fun a => (rngI n).map fun b => mk a b) : D) = msD n mk := by
    show D.tup (((rngI n).map fun a => (rngI n).map fun b => mk a b).map fun l => D.tup (l.map D.int)) = _
    unfold msD rowD
    rw [List.map_map]
    congr 2
    funext a
    show D.tup (((rngI n).map fun b => mk a b).map D.int) = _
    rw [List.map_map]
    rfl
  rw [e] at this
  simpa using this
theorem dEq_sums (neg : Bool) (a b : List Sm) : dEq neg (.tup (a.map smD)) (.tup (b.map smD)) = .ok (.d (.bl (if neg then !decide (a = b) else decide (a = b)))) := dEq_en (α := List Sm) neg a b (by decide)
theorem dEq_sum1 (neg : Bool) (a b : Sm) : dEq neg (smD a) (smD b) = .ok (.d (.bl (if neg then !decide (a = b) else decide (a = b)))) := dEq_en (α := Sm) neg a b (by decide)
theorem right_ok {u : List D} (hu : Urn u) : ∃ u', Urn u' ∧ m__law_right_k27 [.lst u] = .ok (.d (.bl true), u') := by
  obtain ⟨b, u1, b0, b1, hu1, e1⟩ := ball_ok hu (n := 10) (by omega) (by omega)
  obtain ⟨n, hn⟩ : ∃ n : Int, 1 + b = n := ⟨_, rfl⟩
  have lo : 1 ≤ n := by omega
  have hi : n ≤ 10 := by omega
  obtain ⟨g, u2, pg, hu2, e2⟩ := ring_ok hu1 (n := n) (by omega) (by omega)
  have h : RingN n g := ⟨pg, lo, hi⟩
  obtain ⟨T, u3, hT, hu3, e3⟩ := drawn_ok hu2 lo hi
  obtain ⟨rT, tT⟩ := ties_rel hT
  have tT := tT lo hi
  have rR := rel_ring h
  have wR := tiesOf_web lo hi (cr g)
  have wT := tiesOf_web lo hi (has T)
  have wo := web_of_ok h
  have lm := law_marks_ok h
  have lt := law_ties_ok h
  have mo := marks_of_ok h
  have mb := marksB_ring h
  have gm := good_ms (n := n) (by omega) (mkR g)
  have hr := hold_ring h
  have sR := sums_of_ok rR wR
  have sT := sums_of_ok rT wT
  have lR := law_sums_ok rR wR
  have lT := law_sums_ok rT wT
  have dR := do_hold_ok (mkR g) (show (sumsL n (cr g)).length ≤ 100000 by have := sums_len hi (cr g); omega) sums_in
  rw [hr] at dR
  have mw := mWeb_ok wT
  have abR := fun {d : D} (x : Good2 d) (y : marksB n d = false) => are_marks_bad wR x y
  have abT := fun {d : D} (x : Good2 d) (y : marksB n d = false) => are_marks_bad wT x y
  have aoR := fun (mk : Int → Int → Int) (y : marksB n (msD n mk) = true) => are_marks_ok rR wR (good_ms (by omega) mk) y
  have aoT := fun (mk : Int → Int → Int) (y : marksB n (msD n mk) = true) => are_marks_ok rT wT (good_ms (by omega) mk) y
  have doR := fun (mk : Int → Int → Int) => do_hold_ok mk (show (sumsL n (cr g)).length ≤ 100000 by have := sums_len hi (cr g); omega) sums_in
  have doT := fun (mk : Int → Int → Int) => do_hold_ok mk (show (sumsL n (has T)).length ≤ 100000 by have := sums_len hi (has T); omega) sums_in
  obtain ⟨ds, u4, ⟨dl, dg⟩, hu4, eb⟩ := bent_ok hu3 lo hi (mkR g)
  rw [tT] at sT lT mw abT aoT
  have dm := dEq_ms n (mkR g)
  have q1 := dEq_sums true (sumsL n (cr g)) (sumsL n (cr g))
  have q2 := dEq_sums true (sumsL n (has T)) (sumsL n (has T))
  obtain ⟨RT, hR⟩ : ∃ RT, tiesOf n (cr g) = RT := ⟨_, rfl⟩
  rw [hR] at wo lt sR lR
  simp only [hR] at abR aoR
  obtain ⟨S1, hS1⟩ : ∃ S, sumsL n (cr g) = S := ⟨_, rfl⟩
  obtain ⟨S2, hS2⟩ : ∃ S, sumsL n (has T) = S := ⟨_, rfl⟩
  rw [hS1] at sR lR dR q1 hr
  rw [hS2] at sT lT q2
  simp only [hS1] at aoR doR
  simp only [hS2] at aoT doT
  have am := aoR (mkR g) mb
  rw [hr] at am
  obtain ⟨K, hK⟩ : ∃ K, msD n (mkR g) = K := ⟨_, rfl⟩
  rw [hK] at lm mo dR dm am eb
  clear hR hS1 hS2 hr
  obtain ⟨w', f1, m8, x9, x10, hm8, f3⟩ := forF_I (ga := gN 9) (s := sCons (sSet 10 (fCall false m__law_are_marks (aCons (fVar 1) (aCons (fVar 9) (aNil))))) (sCons (sIf (bOf (fBin (dEq true) (fCall false m_are_marks (aCons (fVar 4) (aCons (fVar 9) (aNil)))) (fAndV (fVar 10) (fCall false m__law_do_hold (aCons (fVar 7) (aCons (fVar 9) (aNil))))))) (sRet (fC (.bl false))) (sNil)) (sIf (bOf (fBin (dEq true) (fCall false m_are_marks (aCons (fMk 0 m_Web (aCons (fVar 1) (aCons (fVar 3) (aNil)))) (aCons (fVar 9) (aNil)))) (fAndV (fVar 10) (fCall false m__law_do_hold (aCons (fVar 8) (aCons (fVar 9) (aNil))))))) (sRet (fC (.bl false))) (sNil)))) id (fun (k : Nat) _ => k + 1)
    (fun _ w => ∃ m8 x9 x10, (m8 = .own (S2.map smD) ∨ m8 = .val (.lst (S2.map smD))) ∧ w = [.par u4, .val (.int n), .val (.tup (g.map D.int)), .val (.tup (T.map pD2)), .val (W n RT), .val K, .val (.tup (RT.map pD2)), .val (.lst (S1.map smD)), m8, x9, x10]) ds 0
    [.par u4, .val (.int n), .val (.tup (g.map D.int)), .val (.tup (T.map pD2)), .val (W n RT), .val K, .val (.tup (RT.map pD2)), .val (.lst (S1.map smD)), .own (S2.map smD), .no, .no] ⟨_, _, _, .inl rfl, rfl⟩ (fun d hd k w ⟨m8, x9, x10, hm, hw⟩ => by
      subst hw
      have gd := dg d hd
      have lf := law_form_ok' gd n
      cases c : marksB n d with
      | false =>
        rw [c] at lf
        have i1 := abR gd c
        have i2 := abT gd c
        refine ⟨[.par u4, .val (.int n), .val (.tup (g.map D.int)), .val (.tup (T.map pD2)), .val (W n RT), .val K, .val (.tup (RT.map pD2)), .val (.lst (S1.map smD)), m8, .val d, x10], [.par u4, .val (.int n), .val (.tup (g.map D.int)), .val (.tup (T.map pD2)), .val (W n RT), .val K, .val (.tup (RT.map pD2)), .val (.lst (S1.map smD)), m8, .val d, .val (.bl false)], by simp -implicitDefEqProofs, ?_, _, _, _, hm, rfl⟩
        rcases hm with rfl | rfl <;> simp -implicitDefEqProofs [lf, i1, i2, mw, dEq_bl, truB]
      | true =>
        rw [c] at lf
        obtain ⟨mk, rfl⟩ := ms_of (by omega) c
        have i1 := aoR mk c
        have i2 := aoT mk c
        have i3 := doR mk
        have i4 := doT mk
        generalize msD n mk = d at *
        generalize S1.all (holdS mk) = z1 at *
        generalize S2.all (holdS mk) = z2 at *
        refine ⟨[.par u4, .val (.int n), .val (.tup (g.map D.int)), .val (.tup (T.map pD2)), .val (W n RT), .val K, .val (.tup (RT.map pD2)), .val (.lst (S1.map smD)), m8, .val d, x10], [.par u4, .val (.int n), .val (.tup (g.map D.int)), .val (.tup (T.map pD2)), .val (W n RT), .val K, .val (.tup (RT.map pD2)), .val (.lst (S1.map smD)), .val (.lst (S2.map smD)), .val d, .val (.bl true)], by simp -implicitDefEqProofs, ?_, _, _, _, .inr rfl, rfl⟩
        rcases hm with rfl | rfl <;> simp -implicitDefEqProofs [lf, i1, i2, i3, i4, mw, dEq_bl, truB, fixAll, R.fix])
  rw [List.map_id] at f1
  subst f3
  refine ⟨u4, hu4, ?_⟩
  simp -implicitDefEqProofs only [m__law_right_k27, b__law_right_k27, e_fn, e_stE1, List.map_cons, List.map_nil, List.length_cons, List.length_nil, e_ofs, e_bok, e_sCons]
  simp -implicitDefEqProofs [e1, hn, e2, e3, wo, lm, lt, mo, dm, am, lR, lT, sR, sT, q1, q2, mw, dR, eb, fixAll, R.fix, f1]
theorem rg {n : Int} {g : List Int} (h0 : 1 ≤ n) (h1 : n ≤ 10) (p : sortI g = sortI (two n)) : RingN n g := ⟨(sortI_perm g).symm.trans ((List.Perm.of_eq p).trans (sortI_perm _)), h0, h1⟩
theorem told {n : Int} {T : List (Int × Int)} {S : List Sm} (h0 : 1 ≤ n) (h1 : n ≤ 10) (hT : TiesN n T) (e : sumsL n (has T) = S) : m_sums_of [W n T] = .ok (.d (.tup (S.map smD)), []) ∧ m_Web [.int n, .tup (T.map pD2)] = .ok [.int n, .tup (T.map pD2)] := by
  obtain ⟨rT, tT⟩ := ties_rel hT
  have tT := tT h0 h1
  have wT := tiesOf_web h0 h1 (has T)
  have sT := sums_of_ok rT wT
  have mw := mWeb_ok wT
  rw [tT] at sT mw
  rw [e] at sT
  exact ⟨sT, mw⟩
theorem m_true (ns : List Int) (h : ns.length ≤ 63) : m_law_k27 [.scr ns] = .ok (.d (.bl true), []) := by
  obtain ⟨x, y, z, e1⟩ := head_ok (φ := m__law_right_k27) (fun _ h => right_ok h) ns (m := 4) (by omega) (c := 3) (by omega) [] .no .no .no
  simp only [tHead, tSpot, tTurn] at e1
  have t1 : m_marks_of [.tup [.int 0, .int 1, .int 0, .int 1]] = .ok (.d (.tup [.tup [.int 0, .int 1], .tup [.int 0, .int 0]]), []) := marks_of_ok (n := 2) (g := [0, 1, 0, 1]) (rg (by omega) (by omega) (by decide +kernel))
  have q1 : dEq true (.tup [.tup [.int 0, .int 1], .tup [.int 0, .int 0]]) (.tup [.tup [.int 0, .int 1], .tup [.int 0, .int 0]]) = .ok (.d (.bl false)) := dEq_en (α := List (List Int)) true [[0, 1], [0, 0]] [[0, 1], [0, 0]] (by decide)
  obtain ⟨s2, w2⟩ := told (n := 2) (T := [(0, 1)]) (S := [([(0, 1), (1, 0)], 1)]) (by omega) (by omega) ⟨by simp, by simp⟩ (by decide +kernel)
  obtain ⟨s3, w3⟩ := told (n := 3) (T := [(0, 1)]) (S := [([(0, 1), (1, 0)], 1), ([(2, 0), (2, 1)], 0)]) (by omega) (by omega) ⟨by simp, by simp⟩ (by decide +kernel)
  obtain ⟨s4, w4⟩ := told (n := 3) (T := [(0, 1), (0, 2)]) (S := [([(0, 1), (1, 0)], 1), ([(0, 2), (2, 0)], 1), ([(0, 1), (0, 2), (1, 2), (2, 1)], 1)]) (by omega) (by omega) ⟨by simp [plt], by simp⟩ (by decide +kernel)
  obtain ⟨s5, w5⟩ := told (n := 3) (T := []) (S := []) (by omega) (by omega) ⟨by simp, by simp⟩ (by decide +kernel)
  have p2 := dEq_sums true [([(0, 1), (1, 0)], 1)] [([(0, 1), (1, 0)], 1)]
  have p3 := dEq_sums true [([(0, 1), (1, 0)], 1), ([(2, 0), (2, 1)], 0)] [([(0, 1), (1, 0)], 1), ([(2, 0), (2, 1)], 0)]
  have p4 := dEq_sum1 false ([(0, 1), (0, 2), (1, 2), (2, 1)], 1) ([(0, 1), (0, 2), (1, 2), (2, 1)], 1)
  have p5 := dEq_sums false [] []
  simp only [W, List.map_cons, List.map_nil, pD2, smD] at s2 w2 s3 w3 s4 w4 s5 w5 p2 p3 p4 p5
  simp -implicitDefEqProofs only [m_law_k27, b_law_k27, e_fn, e_stE0, List.map_cons, List.map_nil, List.length_cons, List.length_nil, e_ofs, e_bok]
  rw [show List.replicate (4 - (0 + 1)) Sl.no = [.no, .no, .no] from rfl]
  rw [e_sCons]
  rw [show [Sl.val (D.scr ns)] ++ [Sl.no, .no, .no] = .val (.scr ns) :: .no :: .no :: .no :: [] from rfl, e1]
  simp -implicitDefEqProofs [t1, q1, s2, w2, s3, w3, s4, w4, s5, w5, p2, p3, p4, p5, truB]
end M_k27
namespace G_k27
open PySem PySem.Spec PyProof.Rows L2 TN PL
def topS (i : Nat) : Stmt := PySem.Challenge.pw_tiedanew_k27_whole_marks_and_sums.main.body.getD i (.Pass ⟨0, 0, 0, 0⟩)
abbrev FLD : List Str := ["_knots", "_ties"]
structure Bt (mg : Str → Option Value) : Prop where
  b_all : mg "all" = none
  b_tuple : mg "tuple" = none
  b_range : mg "range" = none
  b_enumerate : mg "enumerate" = none
  b_len : mg "len" = none
  b_isinstance : mg "isinstance" = none
  b_int : mg "int" = none
  b_max : mg "max" = none
  b_list : mg "list" = none
  b_bool : mg "bool" = none
  b_sorted : mg "sorted" = none
  b_sum : mg "sum" = none
  b_abs : mg "abs" = none
  b_min : mg "min" = none
  b_zip : mg "zip" = none
  c_MOST_KNOTS : ∃ t, mg "MOST_KNOTS" = some (.int 10 t)

/-! ### the property knots -/
abbrev s_Web_p_knots : Stmt := inCls (topS 14) 1
theorem sc_Web_p_knots : FnScope ["self"] ["self"] (defScope s_Web_p_knots) := ⟨rfl, rfl, rfl, by decide +kernel, rfl, by decide +kernel, by decide +kernel⟩
theorem k_Web_p_knots {P : Program} {w : World} {K : PySem.W.Frag} {mg : Str → Option Value} {base : Heap} {z : Z} {C p g : Addr} (W : ClB K mg z "Web" C FLD) {oc kV doc pm cdv ct : Value} {an od : Option Addr} {osl : Array (Option Value)} (hp : PropOf K C "knots" p g) (lk : K.lookup g = some ⟨oc, od, .func (PySem.W.fnOf "knots" "Web.knots" (defArgs s_Web_p_knots) (defBody s_Web_p_knots) (defScope s_Web_p_knots) .none kV doc pm an cdv ct), osl⟩) (hcd : PySem.W.codeIn K cdv "Web.knots" = true) : PrB P w K mg base C "knots" "_knots" :=
  ⟨p, g, _, hp, fn_getter lk hcd sc_Web_p_knots rfl rfl W.kit.cl (W.no _ (by decide)), .all fun us hl => match us, hl with | [_], _ => rfl⟩

/-! ### the property ties -/
abbrev s_Web_p_ties : Stmt := inCls (topS 14) 2
theorem sc_Web_p_ties : FnScope ["self"] ["self"] (defScope s_Web_p_ties) := ⟨rfl, rfl, rfl, by decide +kernel, rfl, by decide +kernel, by decide +kernel⟩
theorem k_Web_p_ties {P : Program} {w : World} {K : PySem.W.Frag} {mg : Str → Option Value} {base : Heap} {z : Z} {C p g : Addr} (W : ClB K mg z "Web" C FLD) {oc kV doc pm cdv ct : Value} {an od : Option Addr} {osl : Array (Option Value)} (hp : PropOf K C "ties" p g) (lk : K.lookup g = some ⟨oc, od, .func (PySem.W.fnOf "ties" "Web.ties" (defArgs s_Web_p_ties) (defBody s_Web_p_ties) (defScope s_Web_p_ties) .none kV doc pm an cdv ct), osl⟩) (hcd : PySem.W.codeIn K cdv "Web.ties" = true) : PrB P w K mg base C "ties" "_ties" :=
  ⟨p, g, _, hp, fn_getter lk hcd sc_Web_p_ties rfl rfl W.kit.cl (W.no _ (by decide)), .all fun us hl => match us, hl with | [_], _ => rfl⟩

/-! ### is_whole -/
abbrev s_is_whole : Stmt := topS 1
theorem sc_is_whole : FnScope ["value"] ["value"] (defScope s_is_whole) := ⟨rfl, rfl, rfl, by decide +kernel, rfl, by decide +kernel, by decide +kernel⟩
theorem k_is_whole {P : Program} {w : World} {K : PySem.W.Frag} {mg : Str → Option Value} {base : Heap} {z : Z} (hK : K = z.K) (B : Bt mg) {f : Addr} {fd : FuncData} (F : Fun K "is_whole" "is_whole" s_is_whole f fd) (hm : mg "is_whole" = some (.ref f)) : FnB P w K mg base z 1 "is_whole" ["value"] false m_is_whole := by
  refine ⟨f, fd, fn_ok (k := 0) F sc_is_whole hK (fun cdv A outer s H E G H' M o => ?_), hm, F.kp, F.binds (fun _ _ _ _ _ _ us hl => match us, hl with | [_], _ => rfl)⟩
  exact wss_one (ws_ret (we_and (we_bi (cd_isi o.K) B.b_isinstance (by first | exact PySem.boot_isinstance | decide +kernel) (wa_cons (we_var 0) (wa_cons (we_tyName B.b_int (by first | exact PySem.boot_int | decide +kernel)) (wa_nil)))) (we_one (we_not (we_bi (cd_isi o.K) B.b_isinstance (by first | exact PySem.boot_isinstance | decide +kernel) (wa_cons (we_var 0) (wa_cons (we_tyName B.b_bool (by first | exact PySem.boot_bool | decide +kernel)) (wa_nil))))))))

/-! ### is_below -/
abbrev s_is_below : Stmt := topS 2
theorem sc_is_below : FnScope ["value", "limit"] ["value", "limit"] (defScope s_is_below) := ⟨rfl, rfl, rfl, by decide +kernel, rfl, by decide +kernel, by decide +kernel⟩
theorem k_is_below {P : Program} {w : World} {K : PySem.W.Frag} {mg : Str → Option Value} {base : Heap} {z : Z} (hK : K = z.K) (B : Bt mg) {f : Addr} {fd : FuncData} (F : Fun K "is_below" "is_below" s_is_below f fd) (hm : mg "is_below" = some (.ref f)) (h_is_whole : FnB P w K mg base z 1 "is_whole" ["value"] false m_is_whole) : FnB P w K mg base z 2 "is_below" ["value", "limit"] false m_is_below := by
  refine ⟨f, fd, fn_ok (k := 1) F sc_is_below hK (fun cdv A outer s H E G H' M o => ?_), hm, F.kp, F.binds (fun _ _ _ _ _ _ us hl => match us, hl with | [_, _], _ => rfl)⟩
  exact wss_one (ws_ret (we_and (we_fn (FnB_at h_is_whole G H' M) o (wa_cons (we_var 0) (wa_nil))) (we_one (we_chain od_le od_lt (we_int) (we_var 0) (we_var 1)))))

/-! ### are_below -/
abbrev s_are_below : Stmt := topS 3
theorem sc_are_below : FnScope ["value", "limit", "each"] ["value", "limit"] (defScope s_are_below) := ⟨rfl, rfl, rfl, by decide +kernel, rfl, by decide +kernel, by decide +kernel⟩
theorem k_are_below {P : Program} {w : World} {K : PySem.W.Frag} {mg : Str → Option Value} {base : Heap} {z : Z} (hK : K = z.K) (B : Bt mg) {f : Addr} {fd : FuncData} (F : Fun K "are_below" "are_below" s_are_below f fd) (hm : mg "are_below" = some (.ref f)) (h_is_below : FnB P w K mg base z 2 "is_below" ["value", "limit"] false m_is_below) : FnB P w K mg base z 3 "are_below" ["value", "limit"] false m_are_below := by
  refine ⟨f, fd, fn_ok (k := 2) F sc_are_below hK (fun cdv A outer s H E G H' M o => ?_), hm, F.kp, F.binds (fun _ _ _ _ _ _ us hl => match us, hl with | [_, _], _ => rfl)⟩
  exact wss_one (ws_ret (we_and (we_bi (cd_isi o.K) B.b_isinstance (by first | exact PySem.boot_isinstance | decide +kernel) (wa_cons (we_var 0) (wa_cons (we_tyName B.b_tuple (by first | exact PySem.boot_tuple | decide +kernel)) (wa_nil)))) (we_one (we_bi (cd_all o.K o.calm) B.b_all (by first | exact PySem.boot_all | decide +kernel) (wa_cons (we_lc (own := [("each", 2)]) (is := [2]) o (blkOk_by (by first | (show blkC ["value", "limit", "each"] (defScope s_are_below) _ _ = true; decide +kernel) | kernel_rfl | with_unfolding_all rfl)) (wi_seq o.K (we_var 0)) (fun _ _ _ _ _ => wg_name (o.blk _ _ _ _ _).nd 2) (fun _ _ _ _ _ => wts_nil) (fun _ _ _ _ _ => we_fn (FnB_at h_is_below G H' M) (o.blk _ _ _ _ _) (wa_cons (we_var 2) (wa_cons (we_var 1) (wa_nil))))) (wa_nil))))))

/-! ### is_ascending -/
abbrev s_is_ascending : Stmt := topS 4
theorem sc_is_ascending : FnScope ["value", "limit", "low", "high"] ["value", "limit"] (defScope s_is_ascending) := ⟨rfl, rfl, rfl, by decide +kernel, rfl, by decide +kernel, by decide +kernel⟩
theorem k_is_ascending {P : Program} {w : World} {K : PySem.W.Frag} {mg : Str → Option Value} {base : Heap} {z : Z} (hK : K = z.K) (B : Bt mg) {f : Addr} {fd : FuncData} (F : Fun K "is_ascending" "is_ascending" s_is_ascending f fd) (hm : mg "is_ascending" = some (.ref f)) (h_are_below : FnB P w K mg base z 3 "are_below" ["value", "limit"] false m_are_below) : FnB P w K mg base z 4 "is_ascending" ["value", "limit"] false m_is_ascending := by
  refine ⟨f, fd, fn_ok (k := 3) F sc_is_ascending hK (fun cdv A outer s H E G H' M o => ?_), hm, F.kp, F.binds (fun _ _ _ _ _ _ us hl => match us, hl with | [_, _], _ => rfl)⟩
  exact wss_cons (ws_if (wt_not (wt_tru o.K (we_fn (FnB_at h_are_below G H' M) o (wa_cons (we_var 0) (wa_cons (we_var 1) (wa_nil)))))) (wss_one (ws_ret (we_bl))) (wss_nil)) (wss_one (ws_ret (we_bi (cd_all o.K o.calm) B.b_all (by first | exact PySem.boot_all | decide +kernel) (wa_cons (we_lc (own := [("low", 2), ("high", 3)]) (is := [2, 3]) o (blkOk_by (by first | (show blkC ["value", "limit", "low", "high"] (defScope s_is_ascending) _ _ = true; decide +kernel) | kernel_rfl | with_unfolding_all rfl)) (wi_zip o.K B.b_zip (wa_cons (we_var 0) (wa_cons (we_slice (sld o.K) (we_var 0) (wo_some (we_int)) (wo_none)) (wa_nil)))) (fun _ _ _ _ _ => wg_tup (o.blk _ _ _ _ _).K (o.blk _ _ _ _ _).calm (wgs_cons (wg_name (o.blk _ _ _ _ _).nd 2) (wgs_cons (wg_name (o.blk _ _ _ _ _).nd 3) (wgs_nil)))) (fun _ _ _ _ _ => wts_nil) (fun _ _ _ _ _ => we_cmp (od_ltX (o.blk _ _ _ _ _)) (we_var 2) (we_var 3))) (wa_nil)))))

/-! ### are_bits -/
abbrev s_are_bits : Stmt := topS 5
theorem sc_are_bits : FnScope ["value", "many"] ["value", "many"] (defScope s_are_bits) := ⟨rfl, rfl, rfl, by decide +kernel, rfl, by decide +kernel, by decide +kernel⟩
theorem k_are_bits {P : Program} {w : World} {K : PySem.W.Frag} {mg : Str → Option Value} {base : Heap} {z : Z} (hK : K = z.K) (B : Bt mg) {f : Addr} {fd : FuncData} (F : Fun K "are_bits" "are_bits" s_are_bits f fd) (hm : mg "are_bits" = some (.ref f)) (h_are_below : FnB P w K mg base z 3 "are_below" ["value", "limit"] false m_are_below) : FnB P w K mg base z 4 "are_bits" ["value", "many"] false m_are_bits := by
  refine ⟨f, fd, fn_ok (k := 3) F sc_are_bits hK (fun cdv A outer s H E G H' M o => ?_), hm, F.kp, F.binds (fun _ _ _ _ _ _ us hl => match us, hl with | [_, _], _ => rfl)⟩
  exact wss_one (ws_ret (we_and (we_fn (FnB_at h_are_below G H' M) o (wa_cons (we_var 0) (wa_cons (we_int) (wa_nil)))) (we_one (we_cmp (od_eq o) (we_bi (cd_len o.K) B.b_len (by first | exact PySem.boot_len | decide +kernel) (wa_cons (we_var 0) (wa_nil))) (we_var 1)))))

/-! ### are_pairs -/
abbrev s_are_pairs : Stmt := topS 6
theorem sc_are_pairs : FnScope ["value", "limit", "low", "high", "pair"] ["value", "limit"] (defScope s_are_pairs) := ⟨rfl, rfl, rfl, by decide +kernel, rfl, by decide +kernel, by decide +kernel⟩
theorem k_are_pairs {P : Program} {w : World} {K : PySem.W.Frag} {mg : Str → Option Value} {base : Heap} {z : Z} (hK : K = z.K) (B : Bt mg) {f : Addr} {fd : FuncData} (F : Fun K "are_pairs" "are_pairs" s_are_pairs f fd) (hm : mg "are_pairs" = some (.ref f)) (h_is_ascending : FnB P w K mg base z 4 "is_ascending" ["value", "limit"] false m_is_ascending) : FnB P w K mg base z 5 "are_pairs" ["value", "limit"] false m_are_pairs := by
  refine ⟨f, fd, fn_ok (k := 4) F sc_are_pairs hK (fun cdv A outer s H E G H' M o => ?_), hm, F.kp, F.binds (fun _ _ _ _ _ _ us hl => match us, hl with | [_, _], _ => rfl)⟩
  exact wss_cons (ws_if (wt_not (wt_tru o.K (we_bi (cd_isi o.K) B.b_isinstance (by first | exact PySem.boot_isinstance | decide +kernel) (wa_cons (we_var 0) (wa_cons (we_tyName B.b_tuple (by first | exact PySem.boot_tuple | decide +kernel)) (wa_nil)))))) (wss_one (ws_ret (we_bl))) (wss_nil)) (wss_cons (ws_if (wt_not (wt_tru o.K (we_bi (cd_all o.K o.calm) B.b_all (by first | exact PySem.boot_all | decide +kernel) (wa_cons (we_lc (own := [("pair", 4)]) (is := [4]) o (blkOk_by (by first | (show blkC ["value", "limit", "low", "high", "pair"] (defScope s_are_pairs) _ _ = true; decide +kernel) | kernel_rfl | with_unfolding_all rfl)) (wi_seq o.K (we_var 0)) (fun _ _ _ _ _ => wg_name (o.blk _ _ _ _ _).nd 4) (fun _ _ _ _ _ => wts_nil) (fun _ _ _ _ _ => we_and (we_fn (FnB_at h_is_ascending G H' M) (o.blk _ _ _ _ _) (wa_cons (we_var 4) (wa_cons (we_var 1) (wa_nil)))) (we_one (we_cmp (od_eq (o.blk _ _ _ _ _)) (we_bi (cd_len (o.blk _ _ _ _ _).K) B.b_len (by first | exact PySem.boot_len | decide +kernel) (wa_cons (we_var 4) (wa_nil))) (we_int))))) (wa_nil))))) (wss_one (ws_ret (we_bl))) (wss_nil)) (wss_one (ws_ret (we_bi (cd_all o.K o.calm) B.b_all (by first | exact PySem.boot_all | decide +kernel) (wa_cons (we_lc (own := [("low", 2), ("high", 3)]) (is := [2, 3]) o (blkOk_by (by first | (show blkC ["value", "limit", "low", "high", "pair"] (defScope s_are_pairs) _ _ = true; decide +kernel) | kernel_rfl | with_unfolding_all rfl)) (wi_zip o.K B.b_zip (wa_cons (we_var 0) (wa_cons (we_slice (sld o.K) (we_var 0) (wo_some (we_int)) (wo_none)) (wa_nil)))) (fun _ _ _ _ _ => wg_tup (o.blk _ _ _ _ _).K (o.blk _ _ _ _ _).calm (wgs_cons (wg_name (o.blk _ _ _ _ _).nd 2) (wgs_cons (wg_name (o.blk _ _ _ _ _).nd 3) (wgs_nil)))) (fun _ _ _ _ _ => wts_nil) (fun _ _ _ _ _ => we_cmp (od_ltX (o.blk _ _ _ _ _)) (we_var 2) (we_var 3))) (wa_nil))))))

/-! ### check_web -/
abbrev s_check_web : Stmt := topS 15
theorem sc_check_web : FnScope ["value"] ["value"] (defScope s_check_web) := ⟨rfl, rfl, rfl, by decide +kernel, rfl, by decide +kernel, by decide +kernel⟩
theorem k_check_web {P : Program} {w : World} {K : PySem.W.Frag} {mg : Str → Option Value} {base : Heap} {z : Z} (hK : K = z.K) (B : Bt mg) {C : Addr} (W : ClB K mg z "Web" C FLD) {f : Addr} {fd : FuncData} (F : Fun K "check_web" "check_web" s_check_web f fd) (hm : mg "check_web" = some (.ref f)) : FnB P w K mg base z 1 "check_web" ["value"] false m_check_web := by
  refine ⟨f, fd, fn_ok (k := 0) F sc_check_web hK (fun cdv A outer s H E G H' M o => ?_), hm, F.kp, F.binds (fun _ _ _ _ _ _ us hl => match us, hl with | [_], _ => rfl)⟩
  exact wss_one (ws_if (wt_not (wt_tru o.K (we_bi (cd_isiC o.K (W.at_ G H' M).hc (W.at_ G H' M).kit) B.b_isinstance (by first | exact PySem.boot_isinstance | decide +kernel) (wa_cons (we_var 0) (wa_cons (we_clsB (W.at_ G H' M)) (wa_nil)))))) (wss_one (ws_never)) (wss_nil))

/-! ### masks_of -/
abbrev s_masks_of : Stmt := topS 16
theorem sc_masks_of : FnScope ["web", "masks", "low", "high"] ["web"] (defScope s_masks_of) := ⟨rfl, rfl, rfl, by decide +kernel, rfl, by decide +kernel, by decide +kernel⟩
theorem k_masks_of {P : Program} {w : World} {K : PySem.W.Frag} {mg : Str → Option Value} {base : Heap} {z : Z} (hK : K = z.K) (B : Bt mg) {C : Addr} (W : ClB K mg z "Web" C FLD) (Pr_knots : PrB P w K mg base C "knots" "_knots") (Pr_ties : PrB P w K mg base C "ties" "_ties") {f : Addr} {fd : FuncData} (F : Fun K "masks_of" "masks_of" s_masks_of f fd) (hm : mg "masks_of" = some (.ref f)) : FnB P w K mg base z 3 "masks_of" ["web"] false m_masks_of := by
  refine ⟨f, fd, fn_ok (k := 2) F sc_masks_of hK (fun cdv A outer s H E G H' M o => ?_), hm, F.kp, F.binds (fun _ _ _ _ _ _ us hl => match us, hl with | [_], _ => rfl)⟩
  exact wss_cons (ws_set (i := 1) o (we_bin (od_mul o.K) (we_lst (wa_cons (we_int) (wa_nil))) (we_propB (we_var 0) o (W.at_ G H' M) Pr_knots atF0))) (wss_cons (ws_for (is := [2, 3]) o (wi_seq o.K (we_propB (we_var 0) o (W.at_ G H' M) Pr_ties (atF1 (by decide)))) (wg_tup o.K o.calm (wgs_cons (wg_name o.nd 2) (wgs_cons (wg_name o.nd 3) (wgs_nil)))) (wss_cons (ws_augS (i := 1) (pv 1) (we_var 2) (we_bin od_shl (we_int) (we_var 3)) ip_add) (wss_one (ws_augS (i := 1) (pv 1) (we_var 3) (we_bin od_shl (we_int) (we_var 2)) ip_add)))) (wss_one (ws_ret (we_var 1))))

/-! ### is_ring -/
abbrev s_is_ring : Stmt := topS 18
theorem sc_is_ring : FnScope ["value", "many", "name"] ["value"] (defScope s_is_ring) := ⟨rfl, rfl, rfl, by decide +kernel, rfl, by decide +kernel, by decide +kernel⟩
theorem k_is_ring {P : Program} {w : World} {K : PySem.W.Frag} {mg : Str → Option Value} {base : Heap} {z : Z} (hK : K = z.K) (B : Bt mg) {f : Addr} {fd : FuncData} (F : Fun K "is_ring" "is_ring" s_is_ring f fd) (hm : mg "is_ring" = some (.ref f)) (h_is_whole : FnB P w K mg base z 1 "is_whole" ["value"] false m_is_whole) : FnB P w K mg base z 2 "is_ring" ["value"] false m_is_ring := by
  obtain ⟨t_MOST_KNOTS, e_MOST_KNOTS⟩ := B.c_MOST_KNOTS
  refine ⟨f, fd, fn_ok (k := 1) F sc_is_ring hK (fun cdv A outer s H E G H' M o => ?_), hm, F.kp, F.binds (fun _ _ _ _ _ _ us hl => match us, hl with | [_], _ => rfl)⟩
  exact wss_cons (ws_if ((ww_or (wt_not (wt_tru o.K (we_bi (cd_isi o.K) B.b_isinstance (by first | exact PySem.boot_isinstance | decide +kernel) (wa_cons (we_var 0) (wa_cons (we_tyName B.b_tuple (by first | exact PySem.boot_tuple | decide +kernel)) (wa_nil)))))) (ww_or1 (wt_not (wt_tru o.K (we_bi (cd_all o.K o.calm) B.b_all (by first | exact PySem.boot_all | decide +kernel) (wa_cons (we_lc (own := [("name", 2)]) (is := [2]) o (blkOk_by (by first | (show blkC ["value", "many", "name"] (defScope s_is_ring) _ _ = true; decide +kernel) | kernel_rfl | with_unfolding_all rfl)) (wi_seq o.K (we_var 0)) (fun _ _ _ _ _ => wg_name (o.blk _ _ _ _ _).nd 2) (fun _ _ _ _ _ => wts_nil) (fun _ _ _ _ _ => we_fn (FnB_at h_is_whole G H' M) (o.blk _ _ _ _ _) (wa_cons (we_var 2) (wa_nil)))) (wa_nil))))))).pt) (wss_one (ws_ret (we_bl))) (wss_nil)) (wss_cons (ws_set (i := 1) o (we_bin od_div (we_bi (cd_len o.K) B.b_len (by first | exact PySem.boot_len | decide +kernel) (wa_cons (we_var 0) (wa_nil))) (we_int))) (wss_one (ws_ret (we_and (we_chain od_le od_le (we_int) (we_var 1) (we_glob (v := .int 10) e_MOST_KNOTS ⟨_, rfl⟩ (fun _ _ _ => .int _))) (we_one (we_cmp (od_eq o) (we_bi (cd_sortedX o) B.b_sorted (by first | exact PySem.boot_sorted | decide +kernel) (wa_cons (we_var 0) (wa_nil))) (we_bi (cd_sortedX o) B.b_sorted (by first | exact PySem.boot_sorted | decide +kernel) (wa_cons (we_bin (od_mul o.K) (we_listRg o.calm B.b_list B.b_range (we_var 1)) (we_int)) (wa_nil)))))))))

/-! ### check_ring -/
abbrev s_check_ring : Stmt := topS 19
theorem sc_check_ring : FnScope ["value"] ["value"] (defScope s_check_ring) := ⟨rfl, rfl, rfl, by decide +kernel, rfl, by decide +kernel, by decide +kernel⟩
theorem k_check_ring {P : Program} {w : World} {K : PySem.W.Frag} {mg : Str → Option Value} {base : Heap} {z : Z} (hK : K = z.K) (B : Bt mg) {f : Addr} {fd : FuncData} (F : Fun K "check_ring" "check_ring" s_check_ring f fd) (hm : mg "check_ring" = some (.ref f)) (h_is_ring : FnB P w K mg base z 2 "is_ring" ["value"] false m_is_ring) : FnB P w K mg base z 3 "check_ring" ["value"] false m_check_ring := by
  refine ⟨f, fd, fn_ok (k := 2) F sc_check_ring hK (fun cdv A outer s H E G H' M o => ?_), hm, F.kp, F.binds (fun _ _ _ _ _ _ us hl => match us, hl with | [_], _ => rfl)⟩
  exact wss_one (ws_if (wt_not (wt_tru o.K (we_fn (FnB_at h_is_ring G H' M) o (wa_cons (we_var 0) (wa_nil))))) (wss_one (ws_never)) (wss_nil))

/-! ### _check_name -/
abbrev s__check_name : Stmt := topS 20
theorem sc__check_name : FnScope ["ring", "name"] ["ring", "name"] (defScope s__check_name) := ⟨rfl, rfl, rfl, by decide +kernel, rfl, by decide +kernel, by decide +kernel⟩
theorem k__check_name {P : Program} {w : World} {K : PySem.W.Frag} {mg : Str → Option Value} {base : Heap} {z : Z} (hK : K = z.K) (B : Bt mg) {f : Addr} {fd : FuncData} (F : Fun K "_check_name" "_check_name" s__check_name f fd) (hm : mg "_check_name" = some (.ref f)) (h_is_below : FnB P w K mg base z 2 "is_below" ["value", "limit"] false m_is_below) : FnB P w K mg base z 3 "_check_name" ["ring", "name"] false m__check_name := by
  refine ⟨f, fd, fn_ok (k := 2) F sc__check_name hK (fun cdv A outer s H E G H' M o => ?_), hm, F.kp, F.binds (fun _ _ _ _ _ _ us hl => match us, hl with | [_, _], _ => rfl)⟩
  exact wss_one (ws_if (wt_not (wt_tru o.K (we_fn (FnB_at h_is_below G H' M) o (wa_cons (we_var 1) (wa_cons (we_bin od_div (we_bi (cd_len o.K) B.b_len (by first | exact PySem.boot_len | decide +kernel) (wa_cons (we_var 0) (wa_nil))) (we_int)) (wa_nil)))))) (wss_one (ws_never)) (wss_nil))

/-! ### _ends -/
abbrev s__ends : Stmt := topS 21
theorem sc__ends : FnScope ["ring", "name", "first"] ["ring", "name"] (defScope s__ends) := ⟨rfl, rfl, rfl, by decide +kernel, rfl, by decide +kernel, by decide +kernel⟩
theorem k__ends {P : Program} {w : World} {K : PySem.W.Frag} {mg : Str → Option Value} {base : Heap} {z : Z} (hK : K = z.K) (B : Bt mg) {f : Addr} {fd : FuncData} (F : Fun K "_ends" "_ends" s__ends f fd) (hm : mg "_ends" = some (.ref f)) : FnB P w K mg base z 1 "_ends" ["ring", "name"] false m__ends := by
  refine ⟨f, fd, fn_ok (k := 0) F sc__ends hK (fun cdv A outer s H E G H' M o => ?_), hm, F.kp, F.binds (fun _ _ _ _ _ _ us hl => match us, hl with | [_, _], _ => rfl)⟩
  exact wss_cons (ws_set (i := 2) o (we_mtT o.K (md_idx o.K) PySem.F.slot_tuple_index PySem.F.type_tuple_index (we_var 0) (wa_cons (we_var 1) (wa_nil)))) (wss_one (ws_ret (we_tup (wa_cons (we_var 2) (wa_cons (we_mtT o.K (md_idx o.K) PySem.F.slot_tuple_index PySem.F.type_tuple_index (we_var 0) (wa_cons (we_var 1) (wa_cons (we_bin (od_add o.K) (we_var 2) (we_int)) (wa_nil)))) (wa_nil))))))

/-! ### ends_of -/
abbrev s_ends_of : Stmt := topS 22
theorem sc_ends_of : FnScope ["ring", "name"] ["ring", "name"] (defScope s_ends_of) := ⟨rfl, rfl, rfl, by decide +kernel, rfl, by decide +kernel, by decide +kernel⟩
theorem k_ends_of {P : Program} {w : World} {K : PySem.W.Frag} {mg : Str → Option Value} {base : Heap} {z : Z} (hK : K = z.K) (B : Bt mg) {f : Addr} {fd : FuncData} (F : Fun K "ends_of" "ends_of" s_ends_of f fd) (hm : mg "ends_of" = some (.ref f)) (h_check_ring : FnB P w K mg base z 3 "check_ring" ["value"] false m_check_ring) (h__check_name : FnB P w K mg base z 3 "_check_name" ["ring", "name"] false m__check_name) (h__ends : FnB P w K mg base z 1 "_ends" ["ring", "name"] false m__ends) : FnB P w K mg base z 4 "ends_of" ["ring", "name"] false m_ends_of := by
  refine ⟨f, fd, fn_ok (k := 3) F sc_ends_of hK (fun cdv A outer s H E G H' M o => ?_), hm, F.kp, F.binds (fun _ _ _ _ _ _ us hl => match us, hl with | [_, _], _ => rfl)⟩
  exact wss_cons (ws_expr (we_fn (FnB_at h_check_ring G H' M) o (wa_cons (we_var 0) (wa_nil)))) (wss_cons (ws_expr (we_fn (FnB_at h__check_name G H' M) o (wa_cons (we_var 0) (wa_cons (we_var 1) (wa_nil))))) (wss_one (ws_ret (we_fn (FnB_at h__ends G H' M) o (wa_cons (we_var 0) (wa_cons (we_var 1) (wa_nil)))))))

/-! ### crossing -/
abbrev s_crossing : Stmt := topS 23
theorem sc_crossing : FnScope ["ring", "name", "first", "last", "between", "other"] ["ring", "name"] (defScope s_crossing) := ⟨rfl, rfl, rfl, by decide +kernel, rfl, by decide +kernel, by decide +kernel⟩
theorem k_crossing {P : Program} {w : World} {K : PySem.W.Frag} {mg : Str → Option Value} {base : Heap} {z : Z} (hK : K = z.K) (B : Bt mg) {f : Addr} {fd : FuncData} (F : Fun K "crossing" "crossing" s_crossing f fd) (hm : mg "crossing" = some (.ref f)) (h_check_ring : FnB P w K mg base z 3 "check_ring" ["value"] false m_check_ring) (h__check_name : FnB P w K mg base z 3 "_check_name" ["ring", "name"] false m__check_name) (h__ends : FnB P w K mg base z 1 "_ends" ["ring", "name"] false m__ends) : FnB P w K mg base z 4 "crossing" ["ring", "name"] false m_crossing := by
  refine ⟨f, fd, fn_ok (k := 3) F sc_crossing hK (fun cdv A outer s H E G H' M o => ?_), hm, F.kp, F.binds (fun _ _ _ _ _ _ us hl => match us, hl with | [_, _], _ => rfl)⟩
  exact wss_cons (ws_expr (we_fn (FnB_at h_check_ring G H' M) o (wa_cons (we_var 0) (wa_nil)))) (wss_cons (ws_expr (we_fn (FnB_at h__check_name G H' M) o (wa_cons (we_var 0) (wa_cons (we_var 1) (wa_nil))))) (wss_cons (ws_asg (is := [2, 3]) (ps_asg (we_fn (FnB_at h__ends G H' M) o (wa_cons (we_var 0) (wa_cons (we_var 1) (wa_nil)))) (wg_tup o.K o.calm (wgs_cons (wg_name o.nd 2) (wgs_cons (wg_name o.nd 3) (wgs_nil)))))) (wss_cons (ws_set (i := 4) o (we_slice (sld o.K) (we_var 0) (wo_some (we_bin (od_add o.K) (we_var 2) (we_int))) (wo_some (we_var 3)))) (wss_one (ws_ret (we_ty (cd_tuple o.K) B.b_tuple (by first | exact PySem.boot_tuple | decide +kernel) (wa_cons (we_lc (own := [("other", 5)]) (is := [5]) o (blkOk_by (by first | (show blkC ["ring", "name", "first", "last", "between", "other"] (defScope s_crossing) _ _ = true; decide +kernel) | kernel_rfl | with_unfolding_all rfl)) (wi_rng1 B.b_range (wa_cons (we_bin od_div (we_bi (cd_len o.K) B.b_len (by first | exact PySem.boot_len | decide +kernel) (wa_cons (we_var 0) (wa_nil))) (we_int)) (wa_nil))) (fun _ _ _ _ _ => wg_name (o.blk _ _ _ _ _).nd 5) (fun _ _ _ _ _ => wts_one (wt_cmp (od_eq (o.blk _ _ _ _ _)) (we_mtT (o.blk _ _ _ _ _).K (md_cnt (o.blk _ _ _ _ _).K) PySem.F.slot_tuple_count PySem.F.type_tuple_count (we_var 4) (wa_cons (we_var 5) (wa_nil))) (we_int))) (fun _ _ _ _ _ => we_var 5)) (wa_nil))))))))

/-! ### making a web -/
abbrev s_Web : Stmt := inCls (topS 14) 0
theorem sc_Web : FnScope ["self", "knots", "ties"] ["self", "knots", "ties"] (defScope s_Web) := ⟨rfl, rfl, rfl, by decide +kernel, rfl, by decide +kernel, by decide +kernel⟩
theorem k_Web {P : Program} {w : World} {K : PySem.W.Frag} {mg : Str → Option Value} {base : Heap} {z : Z} (hK : K = z.K) (B : Bt mg) {C : Addr} (W : ClB K mg z "Web" C FLD) (mk : PySem.W.makesIn K C = true) (kc : PySem.W.keepIn K (.ref C) = true) {f : Addr} {fd : FuncData} (F : Fun K "__init__" "Web.__init__" s_Web f fd) (fi : PySem.W.findIn K (.ref C) "__init__" = some (some (.ref f))) (isf : PySem.W.isFn K (.ref f) = true) (h_are_pairs : FnB P w K mg base z 5 "are_pairs" ["value", "limit"] false m_are_pairs) (h_is_whole : FnB P w K mg base z 1 "is_whole" ["value"] false m_is_whole) : MkB P w K mg base z 6 C FLD ["self", "knots", "ties"] 2 m_Web := by
  obtain ⟨t_MOST_KNOTS, e_MOST_KNOTS⟩ := B.c_MOST_KNOTS
  refine ⟨f, fd, ⟨mk, fi, isf, kc⟩, init_ok (k := 5) (n := 0) (t := tSeq (sFld K (tVar 0) (tVar 1) "_knots") (sFld K (tVar 0) (tVar 2) "_ties")) F sc_Web hK W.kit.cl (W.no _ (by decide)) (W.no _ (by decide)) (by decide) (fun _ _ _ => rfl) (fun cdv A outer s H E G H' o => ?_), F.binds (fun _ _ _ _ _ _ us hl => match us, hl with | [_, _, _], _ => rfl)⟩
  exact wsg_cons ((ww_or (wt_not (wt_tru o.K (we_fn (FnB_at h_is_whole G H' none) o (wa_cons (we_var 1) (wa_nil))))) (ww_or1 (wt_not (wt_chain od_le od_le (we_int) (we_var 1) (we_glob (v := .int 10) e_MOST_KNOTS ⟨_, rfl⟩ (fun _ _ _ => .int _)))))).pt) (wsg_cons (wt_not (wt_tru o.K (we_fn (FnB_at h_are_pairs G H' none) o (wa_cons (we_var 2) (wa_cons (we_var 1) (wa_nil)))))) (wsg_nil (pss_cons (ps_fld (pv 0) (pv 1) rfl) (pss_one (ps_fld (pv 0) (pv 2) rfl)))))

/-! ### web_of -/
abbrev s_web_of : Stmt := topS 24
theorem sc_web_of : FnScope ["ring", "many", "ties", "name", "other"] ["ring"] (defScope s_web_of) := ⟨rfl, rfl, rfl, by decide +kernel, rfl, by decide +kernel, by decide +kernel⟩
theorem k_web_of {P : Program} {w : World} {K : PySem.W.Frag} {mg : Str → Option Value} {base : Heap} {z : Z} (hK : K = z.K) (B : Bt mg) {C : Addr} (W : ClB K mg z "Web" C FLD) {f : Addr} {fd : FuncData} (F : Fun K "web_of" "web_of" s_web_of f fd) (hm : mg "web_of" = some (.ref f)) (h_check_ring : FnB P w K mg base z 3 "check_ring" ["value"] false m_check_ring) (h_Web : MkB P w K mg base z 6 C FLD ["self", "knots", "ties"] 2 m_Web) (h_crossing : FnB P w K mg base z 4 "crossing" ["ring", "name"] false m_crossing) : FnB P w K mg base z 8 "web_of" ["ring"] false m_web_of := by
  refine ⟨f, fd, fn_ok (k := 7) F sc_web_of hK (fun cdv A outer s H E G H' M o => ?_), hm, F.kp, F.binds (fun _ _ _ _ _ _ us hl => match us, hl with | [_], _ => rfl)⟩
  exact wss_cons (ws_expr (we_fn (FnB_at h_check_ring G H' M) o (wa_cons (we_var 0) (wa_nil)))) (wss_cons (ws_set (i := 1) o (we_bin od_div (we_bi (cd_len o.K) B.b_len (by first | exact PySem.boot_len | decide +kernel) (wa_cons (we_var 0) (wa_nil))) (we_int))) (wss_cons (ws_setLc2 (own := [("name", 3), ("other", 4)]) (is := [3]) (is1 := [4]) (vs1 := [4]) o (blkOk_by (by first | (show blkC ["ring", "many", "ties", "name", "other"] (defScope s_web_of) _ _ = true; decide +kernel) | kernel_rfl | with_unfolding_all rfl)) (wi_rng1 B.b_range (wa_cons (we_var 1) (wa_nil))) (fun _ _ _ _ _ => wg_name (o.blk _ _ _ _ _).nd 3) (fun _ _ _ _ _ => wts_nil) (fun _ _ _ _ _ => wi_seq (o.blk _ _ _ _ _).K (we_fn (FnB_at h_crossing G H' M) (o.blk _ _ _ _ _) (wa_cons (we_var 0) (wa_cons (we_var 3) (wa_nil))))) (fun _ _ _ _ _ => wg_name (o.blk _ _ _ _ _).nd 4) (fun _ _ _ _ _ => wts_one (wt_cmp (od_ltX (o.blk _ _ _ _ _)) (we_var 3) (we_var 4))) (fun _ _ _ _ _ => we_tup (wa_cons (we_var 3) (wa_cons (we_var 4) (wa_nil))))) (wss_one (ws_ret (we_mkB o (W.at_ G H' M) (MkB_at h_Web G H' M) (wa_cons (we_var 1) (wa_cons (we_ty (cd_tuple o.K) B.b_tuple (by first | exact PySem.boot_tuple | decide +kernel) (wa_cons (we_var 2) (wa_nil))) (wa_nil))))))))

/-! ### has_marks_form -/
abbrev s_has_marks_form : Stmt := topS 26
theorem sc_has_marks_form : FnScope ["value", "many", "knot", "row"] ["value", "many"] (defScope s_has_marks_form) := ⟨rfl, rfl, rfl, by decide +kernel, rfl, by decide +kernel, by decide +kernel⟩
theorem k_has_marks_form {P : Program} {w : World} {K : PySem.W.Frag} {mg : Str → Option Value} {base : Heap} {z : Z} (hK : K = z.K) (B : Bt mg) {f : Addr} {fd : FuncData} (F : Fun K "has_marks_form" "has_marks_form" s_has_marks_form f fd) (hm : mg "has_marks_form" = some (.ref f)) (h_are_bits : FnB P w K mg base z 4 "are_bits" ["value", "many"] false m_are_bits) : FnB P w K mg base z 5 "has_marks_form" ["value", "many"] false m_has_marks_form := by
  refine ⟨f, fd, fn_ok (k := 4) F sc_has_marks_form hK (fun cdv A outer s H E G H' M o => ?_), hm, F.kp, F.binds (fun _ _ _ _ _ _ us hl => match us, hl with | [_, _], _ => rfl)⟩
  exact wss_cons (ws_if ((ww_or (wt_not (wt_tru o.K (we_bi (cd_isi o.K) B.b_isinstance (by first | exact PySem.boot_isinstance | decide +kernel) (wa_cons (we_var 0) (wa_cons (we_tyName B.b_tuple (by first | exact PySem.boot_tuple | decide +kernel)) (wa_nil)))))) (ww_or1 (wt_cmp (od_ne o) (we_bi (cd_len o.K) B.b_len (by first | exact PySem.boot_len | decide +kernel) (wa_cons (we_var 0) (wa_nil))) (we_var 1)))).pt) (wss_one (ws_ret (we_bl))) (wss_nil)) (wss_one (ws_ret (we_bi (cd_all o.K o.calm) B.b_all (by first | exact PySem.boot_all | decide +kernel) (wa_cons (we_lc (own := [("knot", 2), ("row", 3)]) (is := [2, 3]) o (blkOk_by (by first | (show blkC ["value", "many", "knot", "row"] (defScope s_has_marks_form) _ _ = true; decide +kernel) | kernel_rfl | with_unfolding_all rfl)) (wi_enumA o.K B.b_enumerate (wa_cons (we_var 0) (wa_nil))) (fun _ _ _ _ _ => wg_tup (o.blk _ _ _ _ _).K (o.blk _ _ _ _ _).calm (wgs_cons (wg_name (o.blk _ _ _ _ _).nd 2) (wgs_cons (wg_name (o.blk _ _ _ _ _).nd 3) (wgs_nil)))) (fun _ _ _ _ _ => wts_nil) (fun _ _ _ _ _ => we_and (we_fn (FnB_at h_are_bits G H' M) (o.blk _ _ _ _ _) (wa_cons (we_var 3) (wa_cons (we_var 1) (wa_nil)))) (we_one (we_cmp (od_eq (o.blk _ _ _ _ _)) (we_ix (ixd (o.blk _ _ _ _ _).K) (we_var 3) (we_var 2)) (we_int))))) (wa_nil)))))

/-! ### marks_of -/
abbrev s_marks_of : Stmt := topS 27
theorem sc_marks_of : FnScope ["ring", "ends", "name", "low", "high", "first", "_"] ["ring"] (defScope s_marks_of) := ⟨rfl, rfl, rfl, by decide +kernel, rfl, by decide +kernel, by decide +kernel⟩
theorem k_marks_of {P : Program} {w : World} {K : PySem.W.Frag} {mg : Str → Option Value} {base : Heap} {z : Z} (hK : K = z.K) (B : Bt mg) {f : Addr} {fd : FuncData} (F : Fun K "marks_of" "marks_of" s_marks_of f fd) (hm : mg "marks_of" = some (.ref f)) (h_check_ring : FnB P w K mg base z 3 "check_ring" ["value"] false m_check_ring) (h_ends_of : FnB P w K mg base z 4 "ends_of" ["ring", "name"] false m_ends_of) : FnB P w K mg base z 5 "marks_of" ["ring"] false m_marks_of := by
  refine ⟨f, fd, fn_ok (k := 4) F sc_marks_of hK (fun cdv A outer s H E G H' M o => ?_), hm, F.kp, F.binds (fun _ _ _ _ _ _ us hl => match us, hl with | [_], _ => rfl)⟩
  exact wss_cons (ws_expr (we_fn (FnB_at h_check_ring G H' M) o (wa_cons (we_var 0) (wa_nil)))) (wss_cons (ws_set (i := 1) o (we_lc (own := [("name", 2)]) (is := [2]) o (blkOk_by (by first | (show blkC ["ring", "ends", "name", "low", "high", "first", "_"] (defScope s_marks_of) _ _ = true; decide +kernel) | kernel_rfl | with_unfolding_all rfl)) (wi_rng1 B.b_range (wa_cons (we_bin od_div (we_bi (cd_len o.K) B.b_len (by first | exact PySem.boot_len | decide +kernel) (wa_cons (we_var 0) (wa_nil))) (we_int)) (wa_nil))) (fun _ _ _ _ _ => wg_name (o.blk _ _ _ _ _).nd 2) (fun _ _ _ _ _ => wts_nil) (fun _ _ _ _ _ => we_fn (FnB_at h_ends_of G H' M) (o.blk _ _ _ _ _) (wa_cons (we_var 0) (wa_cons (we_var 2) (wa_nil)))))) (wss_one (ws_ret (we_ty (cd_tuple o.K) B.b_tuple (by first | exact PySem.boot_tuple | decide +kernel) (wa_cons (we_lc (own := [("low", 3), ("high", 4)]) (is := [3, 4]) o (blkOk_by (by first | (show blkC ["ring", "ends", "name", "low", "high", "first", "_"] (defScope s_marks_of) _ _ = true; decide +kernel) | kernel_rfl | with_unfolding_all rfl)) (wi_seq o.K (we_var 1)) (fun _ _ _ _ _ => wg_tup (o.blk _ _ _ _ _).K (o.blk _ _ _ _ _).calm (wgs_cons (wg_name (o.blk _ _ _ _ _).nd 3) (wgs_cons (wg_name (o.blk _ _ _ _ _).nd 4) (wgs_nil)))) (fun _ _ _ _ _ => wts_nil) (fun _ _ _ _ _ => we_ty (cd_tuple (o.blk _ _ _ _ _).K) B.b_tuple (by first | exact PySem.boot_tuple | decide +kernel) (wa_cons (we_lc (own := [("first", 5), ("_", 6)]) (is := [5, 6]) (o.blk _ _ _ _ _) (blkOk_by (by first | (show blkC ["ring", "ends", "name", "low", "high", "first", "_"] (defScope s_marks_of) _ _ = true; decide +kernel) | kernel_rfl | with_unfolding_all rfl)) (wi_seq (o.blk _ _ _ _ _).K (we_var 1)) (fun _ _ _ _ _ => wg_tup ((o.blk _ _ _ _ _).blk _ _ _ _ _).K ((o.blk _ _ _ _ _).blk _ _ _ _ _).calm (wgs_cons (wg_name ((o.blk _ _ _ _ _).blk _ _ _ _ _).nd 5) (wgs_cons (wg_name ((o.blk _ _ _ _ _).blk _ _ _ _ _).nd 6) (wgs_nil)))) (fun _ _ _ _ _ => wts_nil) (fun _ _ _ _ _ => we_if (wt_chain od_lt od_lt (we_var 3) (we_var 5) (we_var 4)) (we_int) (we_int))) (wa_nil)))) (wa_nil))))))

/-! ### _sums_with -/
abbrev s__sums_with : Stmt := topS 28
theorem sc__sums_with : FnScope ["masks", "knot", "found", "low", "high", "tied", "close"] ["masks", "knot"] (defScope s__sums_with) := ⟨rfl, rfl, rfl, by decide +kernel, rfl, by decide +kernel, by decide +kernel⟩
theorem k__sums_with {P : Program} {w : World} {K : PySem.W.Frag} {mg : Str → Option Value} {base : Heap} {z : Z} (hK : K = z.K) (B : Bt mg) {f : Addr} {fd : FuncData} (F : Fun K "_sums_with" "_sums_with" s__sums_with f fd) (hm : mg "_sums_with" = some (.ref f)) : FnB P w K mg base z 1 "_sums_with" ["masks", "knot"] false m__sums_with := by
  refine ⟨f, fd, fn_ok (k := 0) F sc__sums_with hK (fun cdv A outer s H E G H' M o => ?_), hm, F.kp, F.binds (fun _ _ _ _ _ _ us hl => match us, hl with | [_, _], _ => rfl)⟩
  exact wss_cons (ws_set (i := 2) o (we_lst (wa_nil))) (wss_cons (ws_for (is := [3]) o (wi_rng1 B.b_range (wa_cons (we_bi (cd_len o.K) B.b_len (by first | exact PySem.boot_len | decide +kernel) (wa_cons (we_var 0) (wa_nil))) (wa_nil))) (wg_name o.nd 3) (wss_one (ws_for (is := [4]) o (wi_rng2 B.b_range (wa_cons (we_bin (od_add o.K) (we_var 3) (we_int)) (wa_cons (we_bi (cd_len o.K) B.b_len (by first | exact PySem.boot_len | decide +kernel) (wa_cons (we_var 0) (wa_nil))) (wa_nil)))) (wg_name o.nd 4) (wss_cons (ws_par (ps_par (i := 5) (j := 6) o.calm o.nd rfl rfl (by decide) rfl rfl (pa_cons (we_bin od_and (we_bin od_shr (we_ix (ixd o.K) (we_var 0) (we_var 3)) (we_var 4)) (we_int)) (pa_cons (we_bin (od_add o.K) (we_bin od_and (we_bin od_shr (we_ix (ixd o.K) (we_var 0) (we_var 1)) (we_var 3)) (we_int)) (we_bin od_and (we_bin od_shr (we_ix (ixd o.K) (we_var 0) (we_var 1)) (we_var 4)) (we_int))) pa_nil)) (by first | rfl | with_unfolding_all rfl | kernel_rfl))) (wss_cons (ws_if ((ww_and (wt_tru o.K (we_var 5)) (ww_and1 (wt_cmp (od_eq o) (we_var 6) (we_int)))).pt) (wss_one (ws_expr (we_app o (pe_bm PySem.F.plainAttrs_list PySem.F.slot_list_append PySem.F.type_list_append mt_append (pv 2) (pa_cons (we_tup (wa_cons (we_tup (wa_cons (we_tup (wa_cons (we_var 1) (wa_cons (we_var 3) (wa_nil)))) (wa_cons (we_tup (wa_cons (we_var 1) (wa_cons (we_var 4) (wa_nil)))) (wa_nil)))) (wa_cons (we_int) (wa_nil)))) pa_nil))))) (wss_nil)) (wss_one (ws_if ((ww_and (wt_not (wt_tru o.K (we_var 5))) (ww_and1 (wt_cmp (od_eq o) (we_var 6) (we_int)))).pt) (wss_one (ws_expr (we_app o (pe_bm PySem.F.plainAttrs_list PySem.F.slot_list_append PySem.F.type_list_append mt_append (pv 2) (pa_cons (we_tup (wa_cons (we_tup (wa_cons (we_tup (wa_cons (we_var 1) (wa_cons (we_var 3) (wa_nil)))) (wa_cons (we_tup (wa_cons (we_var 1) (wa_cons (we_var 4) (wa_nil)))) (wa_cons (we_tup (wa_cons (we_var 3) (wa_cons (we_var 4) (wa_nil)))) (wa_cons (we_tup (wa_cons (we_var 4) (wa_cons (we_var 3) (wa_nil)))) (wa_nil)))))) (wa_cons (we_int) (wa_nil)))) pa_nil))))) (wss_nil)))))))) (wss_one (ws_ret (we_var 2))))

/-! ### sums_of -/
abbrev s_sums_of : Stmt := topS 29
theorem sc_sums_of : FnScope ["web", "masks", "found", "knot", "low", "high"] ["web"] (defScope s_sums_of) := ⟨rfl, rfl, rfl, by decide +kernel, rfl, by decide +kernel, by decide +kernel⟩
theorem k_sums_of {P : Program} {w : World} {K : PySem.W.Frag} {mg : Str → Option Value} {base : Heap} {z : Z} (hK : K = z.K) (B : Bt mg) {C : Addr} (W : ClB K mg z "Web" C FLD) (Pr_knots : PrB P w K mg base C "knots" "_knots") (Pr_ties : PrB P w K mg base C "ties" "_ties") {f : Addr} {fd : FuncData} (F : Fun K "sums_of" "sums_of" s_sums_of f fd) (hm : mg "sums_of" = some (.ref f)) (h_check_web : FnB P w K mg base z 1 "check_web" ["value"] false m_check_web) (h_masks_of : FnB P w K mg base z 3 "masks_of" ["web"] false m_masks_of) (h__sums_with : FnB P w K mg base z 1 "_sums_with" ["masks", "knot"] false m__sums_with) : FnB P w K mg base z 4 "sums_of" ["web"] false m_sums_of := by
  refine ⟨f, fd, fn_ok (k := 3) F sc_sums_of hK (fun cdv A outer s H E G H' M o => ?_), hm, F.kp, F.binds (fun _ _ _ _ _ _ us hl => match us, hl with | [_], _ => rfl)⟩
  exact wss_cons (ws_expr (we_fn (FnB_at h_check_web G H' M) o (wa_cons (we_var 0) (wa_nil)))) (wss_cons (ws_set (i := 1) o (we_fn (FnB_at h_masks_of G H' M) o (wa_cons (we_var 0) (wa_nil)))) (wss_cons (ws_setLc (own := [("low", 4), ("high", 5)]) (is := [4, 5]) o (blkOk_by (by first | (show blkC ["web", "masks", "found", "knot", "low", "high"] (defScope s_sums_of) _ _ = true; decide +kernel) | kernel_rfl | with_unfolding_all rfl)) (wi_seq o.K (we_propB (we_var 0) o (W.at_ G H' M) Pr_ties (atF1 (by decide)))) (fun _ _ _ _ _ => wg_tup (o.blk _ _ _ _ _).K (o.blk _ _ _ _ _).calm (wgs_cons (wg_name (o.blk _ _ _ _ _).nd 4) (wgs_cons (wg_name (o.blk _ _ _ _ _).nd 5) (wgs_nil)))) (fun _ _ _ _ _ => wts_nil) (fun _ _ _ _ _ => we_tup (wa_cons (we_tup (wa_cons (we_tup (wa_cons (we_var 4) (wa_cons (we_var 5) (wa_nil)))) (wa_cons (we_tup (wa_cons (we_var 5) (wa_cons (we_var 4) (wa_nil)))) (wa_nil)))) (wa_cons (we_int) (wa_nil))))) (wss_cons (ws_for (is := [3]) o (wi_rng1 B.b_range (wa_cons (we_propB (we_var 0) o (W.at_ G H' M) Pr_knots atF0) (wa_nil))) (wg_name o.nd 3) (wss_one (ws_set (i := 2) o (we_bin (od_add o.K) (we_var 2) (we_fn (FnB_at h__sums_with G H' M) o (wa_cons (we_var 1) (wa_cons (we_var 3) (wa_nil)))))))) (wss_one (ws_ret (we_ty (cd_tuple o.K) B.b_tuple (by first | exact PySem.boot_tuple | decide +kernel) (wa_cons (we_var 2) (wa_nil))))))))

/-! ### _is_right -/
abbrev s__is_right : Stmt := topS 30
theorem sc__is_right : FnScope ["marks", "members", "bit", "knot", "other"] ["marks", "members", "bit"] (defScope s__is_right) := ⟨rfl, rfl, rfl, by decide +kernel, rfl, by decide +kernel, by decide +kernel⟩
theorem k__is_right {P : Program} {w : World} {K : PySem.W.Frag} {mg : Str → Option Value} {base : Heap} {z : Z} (hK : K = z.K) (B : Bt mg) {f : Addr} {fd : FuncData} (F : Fun K "_is_right" "_is_right" s__is_right f fd) (hm : mg "_is_right" = some (.ref f)) : FnB P w K mg base z 1 "_is_right" ["marks", "members", "bit"] false m__is_right := by
  refine ⟨f, fd, fn_ok (k := 0) F sc__is_right hK (fun cdv A outer s H E G H' M o => ?_), hm, F.kp, F.binds (fun _ _ _ _ _ _ us hl => match us, hl with | [_, _, _], _ => rfl)⟩
  exact wss_one (ws_ret (we_cmp (od_eq o) (we_bin od_mod (we_bi (cd_sum o.K o.calm) B.b_sum (by first | exact PySem.boot_sum | decide +kernel) (wa_cons (we_lc (own := [("knot", 3), ("other", 4)]) (is := [3, 4]) o (blkOk_by (by first | (show blkC ["marks", "members", "bit", "knot", "other"] (defScope s__is_right) _ _ = true; decide +kernel) | kernel_rfl | with_unfolding_all rfl)) (wi_seq o.K (we_var 1)) (fun _ _ _ _ _ => wg_tup (o.blk _ _ _ _ _).K (o.blk _ _ _ _ _).calm (wgs_cons (wg_name (o.blk _ _ _ _ _).nd 3) (wgs_cons (wg_name (o.blk _ _ _ _ _).nd 4) (wgs_nil)))) (fun _ _ _ _ _ => wts_nil) (fun _ _ _ _ _ => we_ix (ixd (o.blk _ _ _ _ _).K) (we_ix (ixd (o.blk _ _ _ _ _).K) (we_var 0) (we_var 3)) (we_var 4))) (wa_nil))) (we_int)) (we_var 2)))

/-! ### are_marks -/
abbrev s_are_marks : Stmt := topS 31
theorem sc_are_marks : FnScope ["web", "value", "members", "bit"] ["web", "value"] (defScope s_are_marks) := ⟨rfl, rfl, rfl, by decide +kernel, rfl, by decide +kernel, by decide +kernel⟩
theorem k_are_marks {P : Program} {w : World} {K : PySem.W.Frag} {mg : Str → Option Value} {base : Heap} {z : Z} (hK : K = z.K) (B : Bt mg) {C : Addr} (W : ClB K mg z "Web" C FLD) (Pr_knots : PrB P w K mg base C "knots" "_knots") {f : Addr} {fd : FuncData} (F : Fun K "are_marks" "are_marks" s_are_marks f fd) (hm : mg "are_marks" = some (.ref f)) (h_check_web : FnB P w K mg base z 1 "check_web" ["value"] false m_check_web) (h_has_marks_form : FnB P w K mg base z 5 "has_marks_form" ["value", "many"] false m_has_marks_form) (h__is_right : FnB P w K mg base z 1 "_is_right" ["marks", "members", "bit"] false m__is_right) (h_sums_of : FnB P w K mg base z 4 "sums_of" ["web"] false m_sums_of) : FnB P w K mg base z 6 "are_marks" ["web", "value"] false m_are_marks := by
  refine ⟨f, fd, fn_ok (k := 5) F sc_are_marks hK (fun cdv A outer s H E G H' M o => ?_), hm, F.kp, F.binds (fun _ _ _ _ _ _ us hl => match us, hl with | [_, _], _ => rfl)⟩
  exact wss_cons (ws_expr (we_fn (FnB_at h_check_web G H' M) o (wa_cons (we_var 0) (wa_nil)))) (wss_cons (ws_if (wt_not (wt_tru o.K (we_fn (FnB_at h_has_marks_form G H' M) o (wa_cons (we_var 1) (wa_cons (we_propB (we_var 0) o (W.at_ G H' M) Pr_knots atF0) (wa_nil)))))) (wss_one (ws_ret (we_bl))) (wss_nil)) (wss_one (ws_ret (we_bi (cd_all o.K o.calm) B.b_all (by first | exact PySem.boot_all | decide +kernel) (wa_cons (we_lc (own := [("members", 2), ("bit", 3)]) (is := [2, 3]) o (blkOk_by (by first | (show blkC ["web", "value", "members", "bit"] (defScope s_are_marks) _ _ = true; decide +kernel) | kernel_rfl | with_unfolding_all rfl)) (wi_seq o.K (we_fn (FnB_at h_sums_of G H' M) o (wa_cons (we_var 0) (wa_nil)))) (fun _ _ _ _ _ => wg_tup (o.blk _ _ _ _ _).K (o.blk _ _ _ _ _).calm (wgs_cons (wg_name (o.blk _ _ _ _ _).nd 2) (wgs_cons (wg_name (o.blk _ _ _ _ _).nd 3) (wgs_nil)))) (fun _ _ _ _ _ => wts_nil) (fun _ _ _ _ _ => we_fn (FnB_at h__is_right G H' M) (o.blk _ _ _ _ _) (wa_cons (we_var 1) (wa_cons (we_var 2) (wa_cons (we_var 3) (wa_nil)))))) (wa_nil))))))

/-! ### _law_urn -/
abbrev s__law_urn : Stmt := topS 33
theorem sc__law_urn : FnScope ["script", "spot", "cell", "great"] ["script", "spot"] (defScope s__law_urn) := ⟨rfl, rfl, rfl, by decide +kernel, rfl, by decide +kernel, by decide +kernel⟩
theorem k__law_urn {P : Program} {w : World} {K : PySem.W.Frag} {mg : Str → Option Value} {base : Heap} {z : Z} (hK : K = z.K) (B : Bt mg) {f : Addr} {fd : FuncData} (F : Fun K "_law_urn" "_law_urn" s__law_urn f fd) (hm : mg "_law_urn" = some (.ref f)) : FnB P w K mg base z 1 "_law_urn" ["script", "spot"] false m__law_urn := by
  refine ⟨f, fd, fn_ok (k := 0) F sc__law_urn hK (fun cdv A outer s H E G H' M o => ?_), hm, F.kp, F.binds (fun _ _ _ _ _ _ us hl => match us, hl with | [_, _], _ => rfl)⟩
  exact wss_cons (ws_set (i := 2) o (we_if (wt_cmp od_lt (we_var 1) (we_bi (cd_len o.K) B.b_len (by first | exact PySem.boot_len | decide +kernel) (wa_cons (we_var 0) (wa_nil)))) (we_ty cd_int B.b_int (by first | exact PySem.boot_int | decide +kernel) (wa_cons (we_ix (ixd o.K) (we_var 0) (we_var 1)) (wa_nil))) (we_bin (od_add o.K) (we_bin (od_mul o.K) (we_int) (we_var 1)) (we_int)))) (wss_cons (ws_set (i := 3) o (we_bin od_mod (we_ty cd_int B.b_int (by first | exact PySem.boot_int | decide +kernel) (wa_cons (we_bi cd_abs B.b_abs (by first | exact PySem.boot_abs | decide +kernel) (wa_cons (we_var 2) (wa_nil))) (wa_nil))) (we_bin od_pow (we_bin od_pow (we_int) (we_int)) (we_int)))) (wss_one (ws_ret (we_lst (wa_cons (we_bi (cd_maxX o) B.b_max (by first | exact PySem.boot_max | decide +kernel) (wa_cons (we_int) (wa_cons (we_bin od_sub (we_var 3) (we_bin od_pow (we_int) (we_int))) (wa_nil)))) (wa_cons (we_bin (od_add o.K) (we_bin (od_add o.K) (we_bin (od_add o.K) (we_bin (od_mul o.K) (we_bin od_mod (we_ty cd_int B.b_int (by first | exact PySem.boot_int | decide +kernel) (wa_cons (we_var 3) (wa_nil))) (we_int)) (we_int)) (we_bin (od_mul o.K) (we_int) (we_var 1))) (we_bin (od_mul o.K) (we_int) (we_ty cd_int B.b_int (by first | exact PySem.boot_int | decide +kernel) (wa_cons (we_cmp od_lt (we_var 2) (we_int)) (wa_nil))))) (we_int)) (wa_cons (we_int) (wa_nil))))))))

/-! ### _law_ball -/
abbrev s__law_ball : Stmt := topS 34
theorem sc__law_ball : FnScope ["urn", "many", "found", "one", "two"] ["urn", "many"] (defScope s__law_ball) := ⟨rfl, rfl, rfl, by decide +kernel, rfl, by decide +kernel, by decide +kernel⟩
theorem k__law_ball {P : Program} {w : World} {K : PySem.W.Frag} {mg : Str → Option Value} {base : Heap} {z : Z} (hK : K = z.K) (B : Bt mg) {f : Addr} {fd : FuncData} (F : Fun K "_law_ball" "_law_ball" s__law_ball f fd) (hm : mg "_law_ball" = some (.ref f)) : FnB P w K mg base z 1 "_law_ball" ["urn", "many"] true m__law_ball := by
  refine ⟨f, fd, fn_ok (k := 0) F sc__law_ball hK (fun cdv A outer s H E G H' M o => ?_), hm, F.kp, F.binds (fun _ _ _ _ _ _ us hl => match us, hl with | [_, _], _ => rfl)⟩
  exact wss_cons (ws_if (wt_cmp od_gt (we_ix (ixd o.K) (we_var 0) (we_int)) (we_int)) (wss_cons (ws_set (i := 2) o (we_bin od_mod (we_ty cd_int B.b_int (by first | exact PySem.boot_int | decide +kernel) (wa_cons (we_ix (ixd o.K) (we_var 0) (we_int)) (wa_nil))) (we_var 1))) (wss_cons (ws_setIx (ps_asg (we_bin od_div (we_ix (ixd o.K) (we_var 0) (we_int)) (we_var 1)) (pg_sub (pv 0) (we_int) set_list))) (wss_one (ws_ret (we_var 2))))) (wss_nil)) (wss_cons (ws_setIx (ps_asg (we_bin (od_add o.K) (we_ix (ixd o.K) (we_var 0) (we_int)) (we_int)) (pg_sub (pv 0) (we_int) set_list))) (wss_cons (ws_set (i := 3) o (we_bin od_mod (we_ty cd_int B.b_int (by first | exact PySem.boot_int | decide +kernel) (wa_cons (we_bin (od_add o.K) (we_ix (ixd o.K) (we_var 0) (we_int)) (we_bin (od_mul o.K) (we_int) (we_ix (ixd o.K) (we_var 0) (we_int)))) (wa_nil))) (we_int))) (wss_cons (ws_set (i := 4) o (we_bin (od_add o.K) (we_bin (od_mul o.K) (we_bin od_mod (we_ty cd_int B.b_int (by first | exact PySem.boot_int | decide +kernel) (wa_cons (we_bin (od_add o.K) (we_bin (od_mul o.K) (we_var 3) (we_var 3)) (we_bin (od_mul o.K) (we_int) (we_ix (ixd o.K) (we_var 0) (we_int)))) (wa_nil))) (we_int)) (we_int)) (we_var 3))) (wss_one (ws_ret (we_bin od_mod (we_ty cd_int B.b_int (by first | exact PySem.boot_int | decide +kernel) (wa_cons (we_bin od_div (we_var 4) (we_int)) (wa_nil))) (we_var 1)))))))

/-! ### _law_mixed -/
abbrev s__law_mixed : Stmt := topS 35
theorem sc__law_mixed : FnScope ["urn", "items", "left", "found"] ["urn", "items"] (defScope s__law_mixed) := ⟨rfl, rfl, rfl, by decide +kernel, rfl, by decide +kernel, by decide +kernel⟩
theorem k__law_mixed {P : Program} {w : World} {K : PySem.W.Frag} {mg : Str → Option Value} {base : Heap} {z : Z} (hK : K = z.K) (B : Bt mg) {f : Addr} {fd : FuncData} (F : Fun K "_law_mixed" "_law_mixed" s__law_mixed f fd) (hm : mg "_law_mixed" = some (.ref f)) (h__law_ball : FnB P w K mg base z 1 "_law_ball" ["urn", "many"] true m__law_ball) : FnB P w K mg base z 2 "_law_mixed" ["urn", "items"] true m__law_mixed := by
  refine ⟨f, fd, fn_ok (k := 1) F sc__law_mixed hK (fun cdv A outer s H E G H' M o => ?_), hm, F.kp, F.binds (fun _ _ _ _ _ _ us hl => match us, hl with | [_, _], _ => rfl)⟩
  exact wss_cons (ws_par (ps_par (i := 2) (j := 3) o.calm o.nd rfl rfl (by decide) rfl rfl (pa_cons (we_ty (cd_list o.K) B.b_list (by first | exact PySem.boot_list | decide +kernel) (wa_cons (we_var 1) (wa_nil))) (pa_cons (we_lst (wa_nil)) pa_nil)) (by first | rfl | with_unfolding_all rfl | kernel_rfl))) (wss_cons (ws_while o (wt_cmp (od_ne o) (we_var 2) (we_lst (wa_nil))) (wss_one (ws_expr (we_app o (pe_bm PySem.F.plainAttrs_list PySem.F.slot_list_append PySem.F.type_list_append mt_append (pv 3) (pa_cons (we_popI o (pe_bm PySem.F.plainAttrs_list PySem.F.slot_list_pop PySem.F.type_list_pop mt_popAt (pv 2) (pa_cons (we_fn (FnB_at h__law_ball G H' M) o (wa_cons (we_var 0) (wa_cons (we_bi (cd_len o.K) B.b_len (by first | exact PySem.boot_len | decide +kernel) (wa_cons (we_var 2) (wa_nil))) (wa_nil)))) pa_nil))) pa_nil)))))) (wss_one (ws_ret (we_var 3))))

/-! ### _law_ring -/
abbrev s__law_ring : Stmt := topS 36
theorem sc__law_ring : FnScope ["urn", "many"] ["urn", "many"] (defScope s__law_ring) := ⟨rfl, rfl, rfl, by decide +kernel, rfl, by decide +kernel, by decide +kernel⟩
theorem k__law_ring {P : Program} {w : World} {K : PySem.W.Frag} {mg : Str → Option Value} {base : Heap} {z : Z} (hK : K = z.K) (B : Bt mg) {f : Addr} {fd : FuncData} (F : Fun K "_law_ring" "_law_ring" s__law_ring f fd) (hm : mg "_law_ring" = some (.ref f)) (h__law_mixed : FnB P w K mg base z 2 "_law_mixed" ["urn", "items"] true m__law_mixed) : FnB P w K mg base z 3 "_law_ring" ["urn", "many"] true m__law_ring := by
  refine ⟨f, fd, fn_ok (k := 2) F sc__law_ring hK (fun cdv A outer s H E G H' M o => ?_), hm, F.kp, F.binds (fun _ _ _ _ _ _ us hl => match us, hl with | [_, _], _ => rfl)⟩
  exact wss_one (ws_ret (we_ty (cd_tuple o.K) B.b_tuple (by first | exact PySem.boot_tuple | decide +kernel) (wa_cons (we_fn (FnB_at h__law_mixed G H' M) o (wa_cons (we_var 0) (wa_cons (we_bi (cd_sortedX o) B.b_sorted (by first | exact PySem.boot_sorted | decide +kernel) (wa_cons (we_bin (od_mul o.K) (we_listRg o.calm B.b_list B.b_range (we_var 1)) (we_int)) (wa_nil))) (wa_nil)))) (wa_nil))))

/-! ### _law_ends -/
abbrev s__law_ends : Stmt := topS 37
theorem sc__law_ends : FnScope ["ring", "name", "place", "one"] ["ring", "name"] (defScope s__law_ends) := ⟨rfl, rfl, rfl, by decide +kernel, rfl, by decide +kernel, by decide +kernel⟩
theorem k__law_ends {P : Program} {w : World} {K : PySem.W.Frag} {mg : Str → Option Value} {base : Heap} {z : Z} (hK : K = z.K) (B : Bt mg) {f : Addr} {fd : FuncData} (F : Fun K "_law_ends" "_law_ends" s__law_ends f fd) (hm : mg "_law_ends" = some (.ref f)) : FnB P w K mg base z 1 "_law_ends" ["ring", "name"] false m__law_ends := by
  refine ⟨f, fd, fn_ok (k := 0) F sc__law_ends hK (fun cdv A outer s H E G H' M o => ?_), hm, F.kp, F.binds (fun _ _ _ _ _ _ us hl => match us, hl with | [_, _], _ => rfl)⟩
  exact wss_one (ws_ret (we_lc (own := [("place", 2), ("one", 3)]) (is := [2, 3]) o (blkOk_by (by first | (show blkC ["ring", "name", "place", "one"] (defScope s__law_ends) _ _ = true; decide +kernel) | kernel_rfl | with_unfolding_all rfl)) (wi_enumA o.K B.b_enumerate (wa_cons (we_var 0) (wa_nil))) (fun _ _ _ _ _ => wg_tup (o.blk _ _ _ _ _).K (o.blk _ _ _ _ _).calm (wgs_cons (wg_name (o.blk _ _ _ _ _).nd 2) (wgs_cons (wg_name (o.blk _ _ _ _ _).nd 3) (wgs_nil)))) (fun _ _ _ _ _ => wts_one (wt_cmp (od_eq (o.blk _ _ _ _ _)) (we_var 3) (we_var 1))) (fun _ _ _ _ _ => we_var 2)))

/-! ### _law_do_cross -/
abbrev s__law_do_cross : Stmt := topS 38
theorem sc__law_do_cross : FnScope ["ring", "one", "other", "first", "last", "place"] ["ring", "one", "other"] (defScope s__law_do_cross) := ⟨rfl, rfl, rfl, by decide +kernel, rfl, by decide +kernel, by decide +kernel⟩
theorem k__law_do_cross {P : Program} {w : World} {K : PySem.W.Frag} {mg : Str → Option Value} {base : Heap} {z : Z} (hK : K = z.K) (B : Bt mg) {f : Addr} {fd : FuncData} (F : Fun K "_law_do_cross" "_law_do_cross" s__law_do_cross f fd) (hm : mg "_law_do_cross" = some (.ref f)) (h__law_ends : FnB P w K mg base z 1 "_law_ends" ["ring", "name"] false m__law_ends) : FnB P w K mg base z 2 "_law_do_cross" ["ring", "one", "other"] false m__law_do_cross := by
  refine ⟨f, fd, fn_ok (k := 1) F sc__law_do_cross hK (fun cdv A outer s H E G H' M o => ?_), hm, F.kp, F.binds (fun _ _ _ _ _ _ us hl => match us, hl with | [_, _, _], _ => rfl)⟩
  exact wss_cons (ws_asg (is := [3, 4]) (ps_asg (we_fn (FnB_at h__law_ends G H' M) o (wa_cons (we_var 0) (wa_cons (we_var 1) (wa_nil)))) (wg_tup o.K o.calm (wgs_cons (wg_name o.nd 3) (wgs_cons (wg_name o.nd 4) (wgs_nil)))))) (wss_one (ws_ret (we_cmp (od_eq o) (we_bi (cd_len o.K) B.b_len (by first | exact PySem.boot_len | decide +kernel) (wa_cons (we_lc (own := [("place", 5)]) (is := [5]) o (blkOk_by (by first | (show blkC ["ring", "one", "other", "first", "last", "place"] (defScope s__law_do_cross) _ _ = true; decide +kernel) | kernel_rfl | with_unfolding_all rfl)) (wi_seq o.K (we_fn (FnB_at h__law_ends G H' M) o (wa_cons (we_var 0) (wa_cons (we_var 2) (wa_nil))))) (fun _ _ _ _ _ => wg_name (o.blk _ _ _ _ _).nd 5) (fun _ _ _ _ _ => wts_one (wt_chain od_lt od_lt (we_var 3) (we_var 5) (we_var 4))) (fun _ _ _ _ _ => we_int)) (wa_nil))) (we_int))))

/-! ### _law_ties -/
abbrev s__law_ties : Stmt := topS 39
theorem sc__law_ties : FnScope ["ring", "many", "found", "one", "other"] ["ring"] (defScope s__law_ties) := ⟨rfl, rfl, rfl, by decide +kernel, rfl, by decide +kernel, by decide +kernel⟩
theorem k__law_ties {P : Program} {w : World} {K : PySem.W.Frag} {mg : Str → Option Value} {base : Heap} {z : Z} (hK : K = z.K) (B : Bt mg) {f : Addr} {fd : FuncData} (F : Fun K "_law_ties" "_law_ties" s__law_ties f fd) (hm : mg "_law_ties" = some (.ref f)) (h__law_do_cross : FnB P w K mg base z 2 "_law_do_cross" ["ring", "one", "other"] false m__law_do_cross) : FnB P w K mg base z 3 "_law_ties" ["ring"] false m__law_ties := by
  refine ⟨f, fd, fn_ok (k := 2) F sc__law_ties hK (fun cdv A outer s H E G H' M o => ?_), hm, F.kp, F.binds (fun _ _ _ _ _ _ us hl => match us, hl with | [_], _ => rfl)⟩
  exact wss_cons (ws_par (ps_par (i := 1) (j := 2) o.calm o.nd rfl rfl (by decide) rfl rfl (pa_cons (we_bin od_div (we_bi (cd_len o.K) B.b_len (by first | exact PySem.boot_len | decide +kernel) (wa_cons (we_var 0) (wa_nil))) (we_int)) (pa_cons (we_lst (wa_nil)) pa_nil)) (by first | rfl | with_unfolding_all rfl | kernel_rfl))) (wss_cons (ws_for (is := [3]) o (wi_rng1 B.b_range (wa_cons (we_var 1) (wa_nil))) (wg_name o.nd 3) (wss_one (ws_expr (we_ext o (pe_bm PySem.F.plainAttrs_list PySem.F.slot_list_extend PySem.F.type_list_extend mt_extend (pv 2) (pa_cons (we_lc (own := [("other", 4)]) (is := [4]) o (blkOk_by (by first | (show blkC ["ring", "many", "found", "one", "other"] (defScope s__law_ties) _ _ = true; decide +kernel) | kernel_rfl | with_unfolding_all rfl)) (wi_rng2 B.b_range (wa_cons (we_bin (od_add o.K) (we_var 3) (we_int)) (wa_cons (we_var 1) (wa_nil)))) (fun _ _ _ _ _ => wg_name (o.blk _ _ _ _ _).nd 4) (fun _ _ _ _ _ => wts_one (wt_tru (o.blk _ _ _ _ _).K (we_fn (FnB_at h__law_do_cross G H' M) (o.blk _ _ _ _ _) (wa_cons (we_var 0) (wa_cons (we_var 3) (wa_cons (we_var 4) (wa_nil))))))) (fun _ _ _ _ _ => we_tup (wa_cons (we_var 3) (wa_cons (we_var 4) (wa_nil))))) pa_nil)))))) (wss_one (ws_ret (we_ty (cd_tuple o.K) B.b_tuple (by first | exact PySem.boot_tuple | decide +kernel) (wa_cons (we_var 2) (wa_nil))))))

/-! ### _law_drawn_ties -/
abbrev s__law_drawn_ties : Stmt := topS 40
theorem sc__law_drawn_ties : FnScope ["urn", "many", "part", "found", "one", "other"] ["urn", "many"] (defScope s__law_drawn_ties) := ⟨rfl, rfl, rfl, by decide +kernel, rfl, by decide +kernel, by decide +kernel⟩
theorem k__law_drawn_ties {P : Program} {w : World} {K : PySem.W.Frag} {mg : Str → Option Value} {base : Heap} {z : Z} (hK : K = z.K) (B : Bt mg) {f : Addr} {fd : FuncData} (F : Fun K "_law_drawn_ties" "_law_drawn_ties" s__law_drawn_ties f fd) (hm : mg "_law_drawn_ties" = some (.ref f)) (h__law_ball : FnB P w K mg base z 1 "_law_ball" ["urn", "many"] true m__law_ball) : FnB P w K mg base z 2 "_law_drawn_ties" ["urn", "many"] true m__law_drawn_ties := by
  refine ⟨f, fd, fn_ok (k := 1) F sc__law_drawn_ties hK (fun cdv A outer s H E G H' M o => ?_), hm, F.kp, F.binds (fun _ _ _ _ _ _ us hl => match us, hl with | [_, _], _ => rfl)⟩
  exact wss_cons (ws_par (ps_par (i := 2) (j := 3) o.calm o.nd rfl rfl (by decide) rfl rfl (pa_cons (we_bin (od_add o.K) (we_int) (we_fn (FnB_at h__law_ball G H' M) o (wa_cons (we_var 0) (wa_cons (we_int) (wa_nil))))) (pa_cons (we_lst (wa_nil)) pa_nil)) (by first | rfl | with_unfolding_all rfl | kernel_rfl))) (wss_cons (ws_for (is := [4]) o (wi_rng1 B.b_range (wa_cons (we_var 1) (wa_nil))) (wg_name o.nd 4) (wss_one (ws_for (is := [5]) o (wi_rng2 B.b_range (wa_cons (we_bin (od_add o.K) (we_var 4) (we_int)) (wa_cons (we_var 1) (wa_nil)))) (wg_name o.nd 5) (wss_one (ws_if (wt_cmp od_lt (we_fn (FnB_at h__law_ball G H' M) o (wa_cons (we_var 0) (wa_cons (we_int) (wa_nil)))) (we_var 2)) (wss_one (ws_expr (we_app o (pe_bm PySem.F.plainAttrs_list PySem.F.slot_list_append PySem.F.type_list_append mt_append (pv 3) (pa_cons (we_tup (wa_cons (we_var 4) (wa_cons (we_var 5) (wa_nil)))) pa_nil))))) (wss_nil)))))) (wss_one (ws_ret (we_ty (cd_tuple o.K) B.b_tuple (by first | exact PySem.boot_tuple | decide +kernel) (wa_cons (we_var 3) (wa_nil))))))

/-! ### _law_marks -/
abbrev s__law_marks : Stmt := topS 41
theorem sc__law_marks : FnScope ["ring", "many", "found", "name", "first", "last", "other"] ["ring"] (defScope s__law_marks) := ⟨rfl, rfl, rfl, by decide +kernel, rfl, by decide +kernel, by decide +kernel⟩
theorem k__law_marks {P : Program} {w : World} {K : PySem.W.Frag} {mg : Str → Option Value} {base : Heap} {z : Z} (hK : K = z.K) (B : Bt mg) {f : Addr} {fd : FuncData} (F : Fun K "_law_marks" "_law_marks" s__law_marks f fd) (hm : mg "_law_marks" = some (.ref f)) (h__law_ends : FnB P w K mg base z 1 "_law_ends" ["ring", "name"] false m__law_ends) : FnB P w K mg base z 2 "_law_marks" ["ring"] false m__law_marks := by
  refine ⟨f, fd, fn_ok (k := 1) F sc__law_marks hK (fun cdv A outer s H E G H' M o => ?_), hm, F.kp, F.binds (fun _ _ _ _ _ _ us hl => match us, hl with | [_], _ => rfl)⟩
  exact wss_cons (ws_par (ps_par (i := 1) (j := 2) o.calm o.nd rfl rfl (by decide) rfl rfl (pa_cons (we_bin od_div (we_bi (cd_len o.K) B.b_len (by first | exact PySem.boot_len | decide +kernel) (wa_cons (we_var 0) (wa_nil))) (we_int)) (pa_cons (we_lst (wa_nil)) pa_nil)) (by first | rfl | with_unfolding_all rfl | kernel_rfl))) (wss_cons (ws_for (is := [3]) o (wi_rng1 B.b_range (wa_cons (we_var 1) (wa_nil))) (wg_name o.nd 3) (wss_cons (ws_asg (is := [4, 5]) (ps_asg (we_fn (FnB_at h__law_ends G H' M) o (wa_cons (we_var 0) (wa_cons (we_var 3) (wa_nil)))) (wg_tup o.K o.calm (wgs_cons (wg_name o.nd 4) (wgs_cons (wg_name o.nd 5) (wgs_nil)))))) (wss_one (ws_expr (we_app o (pe_bm PySem.F.plainAttrs_list PySem.F.slot_list_append PySem.F.type_list_append mt_append (pv 2) (pa_cons (we_ty (cd_tuple o.K) B.b_tuple (by first | exact PySem.boot_tuple | decide +kernel) (wa_cons (we_lc (own := [("other", 6)]) (is := [6]) o (blkOk_by (by first | (show blkC ["ring", "many", "found", "name", "first", "last", "other"] (defScope s__law_marks) _ _ = true; decide +kernel) | kernel_rfl | with_unfolding_all rfl)) (wi_rng1 B.b_range (wa_cons (we_var 1) (wa_nil))) (fun _ _ _ _ _ => wg_name (o.blk _ _ _ _ _).nd 6) (fun _ _ _ _ _ => wts_nil) (fun _ _ _ _ _ => we_ty cd_int B.b_int (by first | exact PySem.boot_int | decide +kernel) (wa_cons (we_chain od_lt od_lt (we_var 4) (we_ix (ixd (o.blk _ _ _ _ _).K) (we_fn (FnB_at h__law_ends G H' M) (o.blk _ _ _ _ _) (wa_cons (we_var 0) (wa_cons (we_var 6) (wa_nil)))) (we_int)) (we_var 5)) (wa_nil)))) (wa_nil))) pa_nil))))))) (wss_one (ws_ret (we_ty (cd_tuple o.K) B.b_tuple (by first | exact PySem.boot_tuple | decide +kernel) (wa_cons (we_var 2) (wa_nil))))))

/-! ### _law_sums -/
abbrev s__law_sums : Stmt := topS 42
theorem sc__law_sums : FnScope ["many", "ties", "found", "knot", "one", "other", "here", "there"] ["many", "ties"] (defScope s__law_sums) := ⟨rfl, rfl, rfl, by decide +kernel, rfl, by decide +kernel, by decide +kernel⟩
theorem k__law_sums {P : Program} {w : World} {K : PySem.W.Frag} {mg : Str → Option Value} {base : Heap} {z : Z} (hK : K = z.K) (B : Bt mg) {f : Addr} {fd : FuncData} (F : Fun K "_law_sums" "_law_sums" s__law_sums f fd) (hm : mg "_law_sums" = some (.ref f)) : FnB P w K mg base z 1 "_law_sums" ["many", "ties"] false m__law_sums := by
  refine ⟨f, fd, fn_ok (k := 0) F sc__law_sums hK (fun cdv A outer s H E G H' M o => ?_), hm, F.kp, F.binds (fun _ _ _ _ _ _ us hl => match us, hl with | [_, _], _ => rfl)⟩
  exact wss_cons (ws_setLc (own := [("one", 4), ("other", 5)]) (is := [4, 5]) o (blkOk_by (by first | (show blkC ["many", "ties", "found", "knot", "one", "other", "here", "there"] (defScope s__law_sums) _ _ = true; decide +kernel) | kernel_rfl | with_unfolding_all rfl)) (wi_seq o.K (we_var 1)) (fun _ _ _ _ _ => wg_tup (o.blk _ _ _ _ _).K (o.blk _ _ _ _ _).calm (wgs_cons (wg_name (o.blk _ _ _ _ _).nd 4) (wgs_cons (wg_name (o.blk _ _ _ _ _).nd 5) (wgs_nil)))) (fun _ _ _ _ _ => wts_nil) (fun _ _ _ _ _ => we_tup (wa_cons (we_tup (wa_cons (we_tup (wa_cons (we_var 4) (wa_cons (we_var 5) (wa_nil)))) (wa_cons (we_tup (wa_cons (we_var 5) (wa_cons (we_var 4) (wa_nil)))) (wa_nil)))) (wa_cons (we_int) (wa_nil))))) (wss_cons (ws_for (is := [3]) o (wi_rng1 B.b_range (wa_cons (we_var 0) (wa_nil))) (wg_name o.nd 3) (wss_one (ws_for (is := [4]) o (wi_rng1 B.b_range (wa_cons (we_var 0) (wa_nil))) (wg_name o.nd 4) (wss_one (ws_for (is := [5]) o (wi_rng2 B.b_range (wa_cons (we_bin (od_add o.K) (we_var 4) (we_int)) (wa_cons (we_var 0) (wa_nil)))) (wg_name o.nd 5) (wss_cons (ws_par (ps_par (i := 6) (j := 7) o.calm o.nd rfl rfl (by decide) rfl rfl (pa_cons (we_cmp (od_in o) (we_ty (cd_tuple o.K) B.b_tuple (by first | exact PySem.boot_tuple | decide +kernel) (wa_cons (we_bi (cd_sortedX o) B.b_sorted (by first | exact PySem.boot_sorted | decide +kernel) (wa_cons (we_lst (wa_cons (we_var 3) (wa_cons (we_var 4) (wa_nil)))) (wa_nil))) (wa_nil))) (we_var 1)) (pa_cons (we_cmp (od_in o) (we_ty (cd_tuple o.K) B.b_tuple (by first | exact PySem.boot_tuple | decide +kernel) (wa_cons (we_bi (cd_sortedX o) B.b_sorted (by first | exact PySem.boot_sorted | decide +kernel) (wa_cons (we_lst (wa_cons (we_var 3) (wa_cons (we_var 5) (wa_nil)))) (wa_nil))) (wa_nil))) (we_var 1)) pa_nil)) (by first | rfl | with_unfolding_all rfl | kernel_rfl))) (wss_cons (ws_if ((ww_and (wt_cmp (od_notIn o) (we_var 3) (we_tup (wa_cons (we_var 4) (wa_cons (we_var 5) (wa_nil))))) (ww_and (wt_tru o.K (we_var 6)) (ww_and (wt_tru o.K (we_var 7)) (ww_and1 (wt_cmp (od_notIn o) (we_tup (wa_cons (we_var 4) (wa_cons (we_var 5) (wa_nil)))) (we_var 1)))))).pt) (wss_one (ws_expr (we_app o (pe_bm PySem.F.plainAttrs_list PySem.F.slot_list_append PySem.F.type_list_append mt_append (pv 2) (pa_cons (we_tup (wa_cons (we_tup (wa_cons (we_tup (wa_cons (we_var 3) (wa_cons (we_var 4) (wa_nil)))) (wa_cons (we_tup (wa_cons (we_var 3) (wa_cons (we_var 5) (wa_nil)))) (wa_cons (we_tup (wa_cons (we_var 4) (wa_cons (we_var 5) (wa_nil)))) (wa_cons (we_tup (wa_cons (we_var 5) (wa_cons (we_var 4) (wa_nil)))) (wa_nil)))))) (wa_cons (we_int) (wa_nil)))) pa_nil))))) (wss_nil)) (wss_one (ws_if ((ww_and (wt_cmp (od_notIn o) (we_var 3) (we_tup (wa_cons (we_var 4) (wa_cons (we_var 5) (wa_nil))))) (ww_and (wt_not (wt_tru o.K (we_var 6))) (ww_and (wt_not (wt_tru o.K (we_var 7))) (ww_and1 (wt_cmp (od_in o) (we_tup (wa_cons (we_var 4) (wa_cons (we_var 5) (wa_nil)))) (we_var 1)))))).pt) (wss_one (ws_expr (we_app o (pe_bm PySem.F.plainAttrs_list PySem.F.slot_list_append PySem.F.type_list_append mt_append (pv 2) (pa_cons (we_tup (wa_cons (we_tup (wa_cons (we_tup (wa_cons (we_var 3) (wa_cons (we_var 4) (wa_nil)))) (wa_cons (we_tup (wa_cons (we_var 3) (wa_cons (we_var 5) (wa_nil)))) (wa_nil)))) (wa_cons (we_int) (wa_nil)))) pa_nil))))) (wss_nil)))))))))) (wss_one (ws_ret (we_var 2))))

/-! ### _law_are_marks -/
abbrev s__law_are_marks : Stmt := topS 43
theorem sc__law_are_marks : FnScope ["many", "value", "at", "row", "bit"] ["many", "value"] (defScope s__law_are_marks) := ⟨rfl, rfl, rfl, by decide +kernel, rfl, by decide +kernel, by decide +kernel⟩
theorem k__law_are_marks {P : Program} {w : World} {K : PySem.W.Frag} {mg : Str → Option Value} {base : Heap} {z : Z} (hK : K = z.K) (B : Bt mg) {f : Addr} {fd : FuncData} (F : Fun K "_law_are_marks" "_law_are_marks" s__law_are_marks f fd) (hm : mg "_law_are_marks" = some (.ref f)) : FnB P w K mg base z 1 "_law_are_marks" ["many", "value"] false m__law_are_marks := by
  refine ⟨f, fd, fn_ok (k := 0) F sc__law_are_marks hK (fun cdv A outer s H E G H' M o => ?_), hm, F.kp, F.binds (fun _ _ _ _ _ _ us hl => match us, hl with | [_, _], _ => rfl)⟩
  exact wss_cons (ws_if ((ww_or (wt_not (wt_tru o.K (we_bi (cd_isi o.K) B.b_isinstance (by first | exact PySem.boot_isinstance | decide +kernel) (wa_cons (we_var 1) (wa_cons (we_tyName B.b_tuple (by first | exact PySem.boot_tuple | decide +kernel)) (wa_nil)))))) (ww_or1 (wt_cmp (od_ne o) (we_bi (cd_len o.K) B.b_len (by first | exact PySem.boot_len | decide +kernel) (wa_cons (we_var 1) (wa_nil))) (we_var 0)))).pt) (wss_one (ws_ret (we_bl))) (wss_nil)) (wss_cons (ws_for (is := [2, 3]) o (wi_enumA o.K B.b_enumerate (wa_cons (we_var 1) (wa_nil))) (wg_tup o.K o.calm (wgs_cons (wg_name o.nd 2) (wgs_cons (wg_name o.nd 3) (wgs_nil)))) (wss_cons (ws_if ((ww_or (wt_not (wt_tru o.K (we_bi (cd_isi o.K) B.b_isinstance (by first | exact PySem.boot_isinstance | decide +kernel) (wa_cons (we_var 3) (wa_cons (we_tyName B.b_tuple (by first | exact PySem.boot_tuple | decide +kernel)) (wa_nil)))))) (ww_or (wt_cmp (od_ne o) (we_bi (cd_len o.K) B.b_len (by first | exact PySem.boot_len | decide +kernel) (wa_cons (we_var 3) (wa_nil))) (we_var 0)) (ww_or1 (wt_cmp (od_ne o) (we_lc (own := [("bit", 4)]) (is := [4]) o (blkOk_by (by first | (show blkC ["many", "value", "at", "row", "bit"] (defScope s__law_are_marks) _ _ = true; decide +kernel) | kernel_rfl | with_unfolding_all rfl)) (wi_seq o.K (we_var 3)) (fun _ _ _ _ _ => wg_name (o.blk _ _ _ _ _).nd 4) (fun _ _ _ _ _ => wts_one (wt_tru (o.blk _ _ _ _ _).K (we_bi (cd_isi (o.blk _ _ _ _ _).K) B.b_isinstance (by first | exact PySem.boot_isinstance | decide +kernel) (wa_cons (we_var 4) (wa_cons (we_tyName B.b_bool (by first | exact PySem.boot_bool | decide +kernel)) (wa_nil)))))) (fun _ _ _ _ _ => we_int)) (we_lst (wa_nil)))))).pt) (wss_one (ws_ret (we_bl))) (wss_nil)) (wss_one (ws_if ((ww_or (wt_cmp (od_ne o) (we_lc (own := [("bit", 4)]) (is := [4]) o (blkOk_by (by first | (show blkC ["many", "value", "at", "row", "bit"] (defScope s__law_are_marks) _ _ = true; decide +kernel) | kernel_rfl | with_unfolding_all rfl)) (wi_seq o.K (we_var 3)) (fun _ _ _ _ _ => wg_name (o.blk _ _ _ _ _).nd 4) (fun _ _ _ _ _ => wts_one ((ww_or (wt_not (wt_tru (o.blk _ _ _ _ _).K (we_bi (cd_isi (o.blk _ _ _ _ _).K) B.b_isinstance (by first | exact PySem.boot_isinstance | decide +kernel) (wa_cons (we_var 4) (wa_cons (we_tyName B.b_int (by first | exact PySem.boot_int | decide +kernel)) (wa_nil)))))) (ww_or1 (wt_cmp (od_notIn (o.blk _ _ _ _ _)) (we_var 4) (we_tup (wa_cons (we_int) (wa_cons (we_int) (wa_nil))))))).pt)) (fun _ _ _ _ _ => we_int)) (we_lst (wa_nil))) (ww_or1 (wt_cmp (od_ne o) (we_ix (ixd o.K) (we_var 3) (we_var 2)) (we_int)))).pt) (wss_one (ws_ret (we_bl))) (wss_nil))))) (wss_one (ws_ret (we_bl))))

/-! ### _law_do_hold -/
abbrev s__law_do_hold : Stmt := topS 44
theorem sc__law_do_hold : FnScope ["sums", "marks", "members", "bit", "one", "other"] ["sums", "marks"] (defScope s__law_do_hold) := ⟨rfl, rfl, rfl, by decide +kernel, rfl, by decide +kernel, by decide +kernel⟩
theorem k__law_do_hold {P : Program} {w : World} {K : PySem.W.Frag} {mg : Str → Option Value} {base : Heap} {z : Z} (hK : K = z.K) (B : Bt mg) {f : Addr} {fd : FuncData} (F : Fun K "_law_do_hold" "_law_do_hold" s__law_do_hold f fd) (hm : mg "_law_do_hold" = some (.ref f)) : FnB P w K mg base z 1 "_law_do_hold" ["sums", "marks"] false m__law_do_hold := by
  refine ⟨f, fd, fn_ok (k := 0) F sc__law_do_hold hK (fun cdv A outer s H E G H' M o => ?_), hm, F.kp, F.binds (fun _ _ _ _ _ _ us hl => match us, hl with | [_, _], _ => rfl)⟩
  exact wss_one (ws_ret (we_cmp (od_eq o) (we_lc (own := [("members", 2), ("bit", 3)]) (is := [2, 3]) o (blkOk_by (by first | (show blkC ["sums", "marks", "members", "bit", "one", "other"] (defScope s__law_do_hold) _ _ = true; decide +kernel) | kernel_rfl | with_unfolding_all rfl)) (wi_seq o.K (we_var 0)) (fun _ _ _ _ _ => wg_tup (o.blk _ _ _ _ _).K (o.blk _ _ _ _ _).calm (wgs_cons (wg_name (o.blk _ _ _ _ _).nd 2) (wgs_cons (wg_name (o.blk _ _ _ _ _).nd 3) (wgs_nil)))) (fun _ _ _ _ _ => wts_one (wt_cmp (od_ne (o.blk _ _ _ _ _)) (we_bin od_mod (we_bi (cd_sum (o.blk _ _ _ _ _).K (o.blk _ _ _ _ _).calm) B.b_sum (by first | exact PySem.boot_sum | decide +kernel) (wa_cons (we_lc (own := [("one", 4), ("other", 5)]) (is := [4, 5]) (o.blk _ _ _ _ _) (blkOk_by (by first | (show blkC ["sums", "marks", "members", "bit", "one", "other"] (defScope s__law_do_hold) _ _ = true; decide +kernel) | kernel_rfl | with_unfolding_all rfl)) (wi_seq (o.blk _ _ _ _ _).K (we_var 2)) (fun _ _ _ _ _ => wg_tup ((o.blk _ _ _ _ _).blk _ _ _ _ _).K ((o.blk _ _ _ _ _).blk _ _ _ _ _).calm (wgs_cons (wg_name ((o.blk _ _ _ _ _).blk _ _ _ _ _).nd 4) (wgs_cons (wg_name ((o.blk _ _ _ _ _).blk _ _ _ _ _).nd 5) (wgs_nil)))) (fun _ _ _ _ _ => wts_nil) (fun _ _ _ _ _ => we_ix (ixd ((o.blk _ _ _ _ _).blk _ _ _ _ _).K) (we_ix (ixd ((o.blk _ _ _ _ _).blk _ _ _ _ _).K) (we_var 1) (we_var 4)) (we_var 5))) (wa_nil))) (we_int)) (we_var 3))) (fun _ _ _ _ _ => we_int)) (we_lst (wa_nil))))

/-! ### _law_bent -/
abbrev s__law_bent : Stmt := topS 45
theorem sc__law_bent : FnScope ["urn", "marks", "many", "at", "to", "row", "found", "new", "bad"] ["urn", "marks"] (defScope s__law_bent) := ⟨rfl, rfl, rfl, by decide +kernel, rfl, by decide +kernel, by decide +kernel⟩
theorem k__law_bent {P : Program} {w : World} {K : PySem.W.Frag} {mg : Str → Option Value} {base : Heap} {z : Z} (hK : K = z.K) (B : Bt mg) {f : Addr} {fd : FuncData} (F : Fun K "_law_bent" "_law_bent" s__law_bent f fd) (hm : mg "_law_bent" = some (.ref f)) (h__law_ball : FnB P w K mg base z 1 "_law_ball" ["urn", "many"] true m__law_ball) : FnB P w K mg base z 2 "_law_bent" ["urn", "marks"] true m__law_bent := by
  refine ⟨f, fd, fn_ok (k := 1) F sc__law_bent hK (fun cdv A outer s H E G H' M o => ?_), hm, F.kp, F.binds (fun _ _ _ _ _ _ us hl => match us, hl with | [_, _], _ => rfl)⟩
  exact wss_cons (ws_set (i := 2) o (we_bi (cd_len o.K) B.b_len (by first | exact PySem.boot_len | decide +kernel) (wa_cons (we_var 1) (wa_nil)))) (wss_cons (ws_asg (is := [3, 4]) (ps_asg (we_tup (wa_cons (we_fn (FnB_at h__law_ball G H' M) o (wa_cons (we_var 0) (wa_cons (we_var 2) (wa_nil)))) (wa_cons (we_fn (FnB_at h__law_ball G H' M) o (wa_cons (we_var 0) (wa_cons (we_var 2) (wa_nil)))) (wa_nil)))) (wg_tup o.K o.calm (wgs_cons (wg_name o.nd 3) (wgs_cons (wg_name o.nd 4) (wgs_nil)))))) (wss_cons (ws_set (i := 5) o (we_ix (ixd o.K) (we_var 1) (we_var 3))) (wss_cons (ws_set (i := 6) o (we_lst (wa_cons (we_var 1) (wa_cons (we_ty (cd_list o.K) B.b_list (by first | exact PySem.boot_list | decide +kernel) (wa_cons (we_var 1) (wa_nil))) (wa_cons (we_slice (sld o.K) (we_var 1) (wo_some (we_int)) (wo_none)) (wa_cons (we_bin (od_add o.K) (we_var 1) (we_tup (wa_cons (we_bin (od_mulX o.K) (we_tup (wa_cons (we_int) (wa_nil))) (we_var 2)) (wa_nil)))) (wa_cons (we_non) (wa_cons (we_tup (wa_nil)) (wa_cons (we_int) (wa_cons (we_str) (wa_cons (we_dct) (wa_nil)))))))))))) (wss_cons (ws_expr (we_app o (pe_bm PySem.F.plainAttrs_list PySem.F.slot_list_append PySem.F.type_list_append mt_append (pv 6) (pa_cons (we_ty (cd_tuple o.K) B.b_tuple (by first | exact PySem.boot_tuple | decide +kernel) (wa_cons (we_lc (own := [("row", 5)]) (is := [5]) o (blkOk_by (by first | (show blkC ["urn", "marks", "many", "at", "to", "row", "found", "new", "bad"] (defScope s__law_bent) _ _ = true; decide +kernel) | kernel_rfl | with_unfolding_all rfl)) (wi_seq o.K (we_var 1)) (fun _ _ _ _ _ => wg_name (o.blk _ _ _ _ _).nd 5) (fun _ _ _ _ _ => wts_nil) (fun _ _ _ _ _ => we_ty (cd_list (o.blk _ _ _ _ _).K) B.b_list (by first | exact PySem.boot_list | decide +kernel) (wa_cons (we_var 5) (wa_nil)))) (wa_nil))) pa_nil)))) (wss_cons (ws_for (is := [7]) o (wi_seq o.K (we_tup (wa_cons (we_bin od_sub (we_int) (we_ix (ixd o.K) (we_var 5) (we_var 4))) (wa_cons (we_bl) (wa_cons (we_bl) (wa_cons (we_int) (wa_cons (we_un un_neg (we_int)) (wa_cons (we_non) (wa_cons (we_str) (wa_cons (we_bin od_pow (we_int) (we_int)) (wa_nil))))))))))) (wg_name o.nd 7) (wss_one (ws_expr (we_app o (pe_bm PySem.F.plainAttrs_list PySem.F.slot_list_append PySem.F.type_list_append mt_append (pv 6) (pa_cons (we_bin (od_add o.K) (we_bin (od_add o.K) (we_slice (sld o.K) (we_var 1) (wo_none) (wo_some (we_var 3))) (we_tup (wa_cons (we_bin (od_add o.K) (we_bin (od_add o.K) (we_slice (sld o.K) (we_var 5) (wo_none) (wo_some (we_var 4))) (we_tup (wa_cons (we_var 7) (wa_nil)))) (we_slice (sld o.K) (we_var 5) (wo_some (we_bin (od_add o.K) (we_var 4) (we_int))) (wo_none))) (wa_nil)))) (we_slice (sld o.K) (we_var 1) (wo_some (we_bin (od_add o.K) (we_var 3) (we_int))) (wo_none))) pa_nil)))))) (wss_cons (ws_set (i := 6) o (we_bin (od_add o.K) (we_var 6) (we_lc (own := [("bad", 8)]) (is := [8]) o (blkOk_by (by first | (show blkC ["urn", "marks", "many", "at", "to", "row", "found", "new", "bad"] (defScope s__law_bent) _ _ = true; decide +kernel) | kernel_rfl | with_unfolding_all rfl)) (wi_seq o.K (we_tup (wa_cons (we_int) (wa_cons (we_non) (wa_cons (we_bin (od_mulX o.K) (we_str) (we_var 2)) (wa_nil)))))) (fun _ _ _ _ _ => wg_name (o.blk _ _ _ _ _).nd 8) (fun _ _ _ _ _ => wts_nil) (fun _ _ _ _ _ => we_bin (od_add (o.blk _ _ _ _ _).K) (we_bin (od_add (o.blk _ _ _ _ _).K) (we_slice (sld (o.blk _ _ _ _ _).K) (we_var 1) (wo_none) (wo_some (we_var 3))) (we_tup (wa_cons (we_var 8) (wa_nil)))) (we_slice (sld (o.blk _ _ _ _ _).K) (we_var 1) (wo_some (we_bin (od_add (o.blk _ _ _ _ _).K) (we_var 3) (we_int))) (wo_none)))))) (wss_one (ws_ret (we_bin (od_add o.K) (we_var 6) (we_lst (wa_cons (we_bin (od_add o.K) (we_bin (od_add o.K) (we_slice (sld o.K) (we_var 1) (wo_none) (wo_some (we_var 3))) (we_tup (wa_cons (we_slice (sld o.K) (we_var 5) (wo_none) (wo_some (we_var 4))) (wa_nil)))) (we_slice (sld o.K) (we_var 1) (wo_some (we_bin (od_add o.K) (we_var 3) (we_int))) (wo_none))) (wa_cons (we_back o.K (we_var 1)) (wa_cons (we_ty (cd_tuple o.K) B.b_tuple (by first | exact PySem.boot_tuple | decide +kernel) (wa_cons (we_lc (own := [("row", 5)]) (is := [5]) o (blkOk_by (by first | (show blkC ["urn", "marks", "many", "at", "to", "row", "found", "new", "bad"] (defScope s__law_bent) _ _ = true; decide +kernel) | kernel_rfl | with_unfolding_all rfl)) (wi_seq o.K (we_var 1)) (fun _ _ _ _ _ => wg_name (o.blk _ _ _ _ _).nd 5) (fun _ _ _ _ _ => wts_nil) (fun _ _ _ _ _ => we_back (o.blk _ _ _ _ _).K (we_var 5))) (wa_nil))) (wa_nil))))))))))))))

/-! ### _law_right -/
abbrev s__law_right : Stmt := topS 46
theorem sc__law_right : FnScope ["urn", "many", "ring", "ties", "web", "marks", "own", "sums", "others", "value", "is_right"] ["urn"] (defScope s__law_right) := ⟨rfl, rfl, rfl, by decide +kernel, rfl, by decide +kernel, by decide +kernel⟩
theorem k__law_right {P : Program} {w : World} {K : PySem.W.Frag} {mg : Str → Option Value} {base : Heap} {z : Z} (hK : K = z.K) (B : Bt mg) {C : Addr} (W : ClB K mg z "Web" C FLD) {f : Addr} {fd : FuncData} (F : Fun K "_law_right" "_law_right" s__law_right f fd) (hm : mg "_law_right" = some (.ref f)) (h__law_bent : FnB P w K mg base z 2 "_law_bent" ["urn", "marks"] true m__law_bent) (h__law_ball : FnB P w K mg base z 1 "_law_ball" ["urn", "many"] true m__law_ball) (h__law_ring : FnB P w K mg base z 3 "_law_ring" ["urn", "many"] true m__law_ring) (h__law_drawn_ties : FnB P w K mg base z 2 "_law_drawn_ties" ["urn", "many"] true m__law_drawn_ties) (h_web_of : FnB P w K mg base z 8 "web_of" ["ring"] false m_web_of) (h__law_marks : FnB P w K mg base z 2 "_law_marks" ["ring"] false m__law_marks) (h__law_ties : FnB P w K mg base z 3 "_law_ties" ["ring"] false m__law_ties) (h__law_sums : FnB P w K mg base z 1 "_law_sums" ["many", "ties"] false m__law_sums) (h__law_are_marks : FnB P w K mg base z 1 "_law_are_marks" ["many", "value"] false m__law_are_marks) (h_marks_of : FnB P w K mg base z 5 "marks_of" ["ring"] false m_marks_of) (h_are_marks : FnB P w K mg base z 6 "are_marks" ["web", "value"] false m_are_marks) (h_sums_of : FnB P w K mg base z 4 "sums_of" ["web"] false m_sums_of) (h__law_do_hold : FnB P w K mg base z 1 "_law_do_hold" ["sums", "marks"] false m__law_do_hold) (h_Web : MkB P w K mg base z 6 C FLD ["self", "knots", "ties"] 2 m_Web) : FnB P w K mg base z 9 "_law_right" ["urn"] true m__law_right_k27 := by
  refine ⟨f, fd, fn_ok (k := 8) F sc__law_right hK (fun cdv A outer s H E G H' M o => ?_), hm, F.kp, F.binds (fun _ _ _ _ _ _ us hl => match us, hl with | [_], _ => rfl)⟩
  exact wss_cons (ws_set (i := 1) o (we_bin (od_add o.K) (we_int) (we_fn (FnB_at h__law_ball G H' M) o (wa_cons (we_var 0) (wa_cons (we_int) (wa_nil)))))) (wss_cons (ws_par (ps_par (i := 2) (j := 3) o.calm o.nd rfl rfl (by decide) rfl rfl (pa_cons (we_fn (FnB_at h__law_ring G H' M) o (wa_cons (we_var 0) (wa_cons (we_var 1) (wa_nil)))) (pa_cons (we_fn (FnB_at h__law_drawn_ties G H' M) o (wa_cons (we_var 0) (wa_cons (we_var 1) (wa_nil)))) pa_nil)) (by first | rfl | with_unfolding_all rfl | kernel_rfl))) (wss_cons (ws_par3 (ps_par3 (i := 4) (j := 5) (l := 6) o.calm o.nd rfl rfl rfl (by decide) (by decide) (by decide) rfl rfl rfl (pa_cons (we_fn (FnB_at h_web_of G H' M) o (wa_cons (we_var 2) (wa_nil))) (pa_cons (we_fn (FnB_at h__law_marks G H' M) o (wa_cons (we_var 2) (wa_nil))) (pa_cons (we_fn (FnB_at h__law_ties G H' M) o (wa_cons (we_var 2) (wa_nil))) pa_nil))) (by first | rfl | with_unfolding_all rfl | kernel_rfl))) (wss_cons (ws_if ((ww_or (wt_cmp (od_ne o) (we_fn (FnB_at h_marks_of G H' M) o (wa_cons (we_var 2) (wa_nil))) (we_var 5)) (ww_or1 (wt_not (wt_tru o.K (we_fn (FnB_at h_are_marks G H' M) o (wa_cons (we_var 4) (wa_cons (we_var 5) (wa_nil)))))))).pt) (wss_one (ws_ret (we_bl))) (wss_nil)) (wss_cons (ws_par (ps_par (i := 7) (j := 8) o.calm o.nd rfl rfl (by decide) rfl rfl (pa_cons (we_fn (FnB_at h__law_sums G H' M) o (wa_cons (we_var 1) (wa_cons (we_var 6) (wa_nil)))) (pa_cons (we_fn (FnB_at h__law_sums G H' M) o (wa_cons (we_var 1) (wa_cons (we_var 3) (wa_nil)))) pa_nil)) (by first | rfl | with_unfolding_all rfl | kernel_rfl))) (wss_cons (ws_if ((ww_or (wt_cmp (od_ne o) (we_fn (FnB_at h_sums_of G H' M) o (wa_cons (we_var 4) (wa_nil))) (we_ty (cd_tuple o.K) B.b_tuple (by first | exact PySem.boot_tuple | decide +kernel) (wa_cons (we_var 7) (wa_nil)))) (ww_or (wt_cmp (od_ne o) (we_fn (FnB_at h_sums_of G H' M) o (wa_cons (we_mkB o (W.at_ G H' M) (MkB_at h_Web G H' M) (wa_cons (we_var 1) (wa_cons (we_var 3) (wa_nil)))) (wa_nil))) (we_ty (cd_tuple o.K) B.b_tuple (by first | exact PySem.boot_tuple | decide +kernel) (wa_cons (we_var 8) (wa_nil)))) (ww_or1 (wt_not (wt_tru o.K (we_fn (FnB_at h__law_do_hold G H' M) o (wa_cons (we_var 7) (wa_cons (we_var 5) (wa_nil))))))))).pt) (wss_one (ws_ret (we_bl))) (wss_nil)) (wss_cons (ws_for (is := [9]) o (wi_seq o.K (we_fn (FnB_at h__law_bent G H' M) o (wa_cons (we_var 0) (wa_cons (we_var 5) (wa_nil))))) (wg_name o.nd 9) (wss_cons (ws_set (i := 10) o (we_fn (FnB_at h__law_are_marks G H' M) o (wa_cons (we_var 1) (wa_cons (we_var 9) (wa_nil))))) (wss_cons (ws_if (wt_cmp (od_ne o) (we_fn (FnB_at h_are_marks G H' M) o (wa_cons (we_var 4) (wa_cons (we_var 9) (wa_nil)))) (we_and (we_var 10) (we_one (we_fn (FnB_at h__law_do_hold G H' M) o (wa_cons (we_var 7) (wa_cons (we_var 9) (wa_nil))))))) (wss_one (ws_ret (we_bl))) (wss_nil)) (wss_one (ws_if (wt_cmp (od_ne o) (we_fn (FnB_at h_are_marks G H' M) o (wa_cons (we_mkB o (W.at_ G H' M) (MkB_at h_Web G H' M) (wa_cons (we_var 1) (wa_cons (we_var 3) (wa_nil)))) (wa_cons (we_var 9) (wa_nil)))) (we_and (we_var 10) (we_one (we_fn (FnB_at h__law_do_hold G H' M) o (wa_cons (we_var 8) (wa_cons (we_var 9) (wa_nil))))))) (wss_one (ws_ret (we_bl))) (wss_nil)))))) (wss_one (ws_ret (we_bl)))))))))

/-! ### law -/
abbrev s_law : Stmt := topS 47
theorem sc_law : FnScope ["script", "spot", "urn", "turn"] ["script"] (defScope s_law) := ⟨rfl, rfl, rfl, by decide +kernel, rfl, by decide +kernel, by decide +kernel⟩
theorem k_law {P : Program} {w : World} {K : PySem.W.Frag} {mg : Str → Option Value} {base : Heap} {z : Z} (hK : K = z.K) (B : Bt mg) {C : Addr} (W : ClB K mg z "Web" C FLD) {f : Addr} {fd : FuncData} (F : Fun K "law" "law" s_law f fd) (hm : mg "law" = some (.ref f)) (h__law_urn : FnB P w K mg base z 1 "_law_urn" ["script", "spot"] false m__law_urn) (h_sums_of : FnB P w K mg base z 4 "sums_of" ["web"] false m_sums_of) (h_marks_of : FnB P w K mg base z 5 "marks_of" ["ring"] false m_marks_of) (h_Web : MkB P w K mg base z 6 C FLD ["self", "knots", "ties"] 2 m_Web) (h__law_right : FnB P w K mg base z 9 "_law_right" ["urn"] true m__law_right_k27) : FnOk P w K mg base (L2.CX P w) 10 f fd ["script"] (spF z false 1 m_law_k27) := by
  refine fn_ok (k := 9) F sc_law hK (fun cdv A outer s H E G H' M o => ?_)
  exact wss_cons (ws_for (is := [1]) o (wi_rng1 B.b_range (wa_cons (we_bi (cd_maxX o) B.b_max (by first | exact PySem.boot_max | decide +kernel) (wa_cons (we_int) (wa_cons (we_bi (cd_minX o) B.b_min (by first | exact PySem.boot_min | decide +kernel) (wa_cons (we_int) (wa_cons (we_bi (cd_len o.K) B.b_len (by first | exact PySem.boot_len | decide +kernel) (wa_cons (we_var 0) (wa_nil))) (wa_nil)))) (wa_nil)))) (wa_nil))) (wg_name o.nd 1) (wss_cons (ws_set (i := 2) o (we_fn (FnB_at h__law_urn G H' M) o (wa_cons (we_var 0) (wa_cons (we_var 1) (wa_nil))))) (wss_one (ws_for (is := [3]) o (wi_rng1 B.b_range (wa_cons (we_int) (wa_nil))) (wg_name o.nd 3) (wss_one (ws_if (wt_not (wt_tru o.K (we_fn (FnB_at h__law_right G H' M) o (wa_cons (we_var 2) (wa_nil))))) (wss_one (ws_ret (we_bl))) (wss_nil))))))) (wss_cons (ws_if ((ww_or (wt_cmp (od_ne o) (we_fn (FnB_at h_marks_of G H' M) o (wa_cons (we_tup (wa_cons (we_int) (wa_cons (we_int) (wa_cons (we_int) (wa_cons (we_int) (wa_nil)))))) (wa_nil))) (we_tup (wa_cons (we_tup (wa_cons (we_int) (wa_cons (we_int) (wa_nil)))) (wa_cons (we_tup (wa_cons (we_int) (wa_cons (we_int) (wa_nil)))) (wa_nil))))) (ww_or1 (wt_cmp (od_ne o) (we_fn (FnB_at h_sums_of G H' M) o (wa_cons (we_mkB o (W.at_ G H' M) (MkB_at h_Web G H' M) (wa_cons (we_int) (wa_cons (we_tup (wa_cons (we_tup (wa_cons (we_int) (wa_cons (we_int) (wa_nil)))) (wa_nil))) (wa_nil)))) (wa_nil))) (we_tup (wa_cons (we_tup (wa_cons (we_tup (wa_cons (we_tup (wa_cons (we_int) (wa_cons (we_int) (wa_nil)))) (wa_cons (we_tup (wa_cons (we_int) (wa_cons (we_int) (wa_nil)))) (wa_nil)))) (wa_cons (we_int) (wa_nil)))) (wa_nil)))))).pt) (wss_one (ws_ret (we_bl))) (wss_nil)) (wss_cons (ws_if (wt_cmp (od_ne o) (we_fn (FnB_at h_sums_of G H' M) o (wa_cons (we_mkB o (W.at_ G H' M) (MkB_at h_Web G H' M) (wa_cons (we_int) (wa_cons (we_tup (wa_cons (we_tup (wa_cons (we_int) (wa_cons (we_int) (wa_nil)))) (wa_nil))) (wa_nil)))) (wa_nil))) (we_tup (wa_cons (we_tup (wa_cons (we_tup (wa_cons (we_tup (wa_cons (we_int) (wa_cons (we_int) (wa_nil)))) (wa_cons (we_tup (wa_cons (we_int) (wa_cons (we_int) (wa_nil)))) (wa_nil)))) (wa_cons (we_int) (wa_nil)))) (wa_cons (we_tup (wa_cons (we_tup (wa_cons (we_tup (wa_cons (we_int) (wa_cons (we_int) (wa_nil)))) (wa_cons (we_tup (wa_cons (we_int) (wa_cons (we_int) (wa_nil)))) (wa_nil)))) (wa_cons (we_int) (wa_nil)))) (wa_nil))))) (wss_one (ws_ret (we_bl))) (wss_nil)) (wss_one (ws_ret (we_and (we_cmp (od_eq o) (we_ix (ixd o.K) (we_fn (FnB_at h_sums_of G H' M) o (wa_cons (we_mkB o (W.at_ G H' M) (MkB_at h_Web G H' M) (wa_cons (we_int) (wa_cons (we_tup (wa_cons (we_tup (wa_cons (we_int) (wa_cons (we_int) (wa_nil)))) (wa_cons (we_tup (wa_cons (we_int) (wa_cons (we_int) (wa_nil)))) (wa_nil)))) (wa_nil)))) (wa_nil))) (we_int)) (we_tup (wa_cons (we_tup (wa_cons (we_tup (wa_cons (we_int) (wa_cons (we_int) (wa_nil)))) (wa_cons (we_tup (wa_cons (we_int) (wa_cons (we_int) (wa_nil)))) (wa_cons (we_tup (wa_cons (we_int) (wa_cons (we_int) (wa_nil)))) (wa_cons (we_tup (wa_cons (we_int) (wa_cons (we_int) (wa_nil)))) (wa_nil)))))) (wa_cons (we_int) (wa_nil))))) (we_one (we_cmp (od_eq o) (we_fn (FnB_at h_sums_of G H' M) o (wa_cons (we_mkB o (W.at_ G H' M) (MkB_at h_Web G H' M) (wa_cons (we_int) (wa_cons (we_tup (wa_nil)) (wa_nil)))) (wa_nil))) (we_tup (wa_nil)))))))))

/-! ### the whole -/
def zz (K : PySem.W.Frag) (C : Addr) : Z := ⟨K, fun _ => (C, FLD), fun _ => .none, fun _ => none, fun _ => none, fun _ => none, none⟩
theorem all_mk {P : Program} {w : World} {K : PySem.W.Frag} {h : Heap} {mg : Str → Option Value} {fa : Addr} (mt : ∀ ns : List Int, ns.length ≤ 63 → m_law_k27 [.scr ns] = .ok (.d (.bl true), [])) (X : K.In h) (G : h.Ns mainGlobals mg) (hfa : mg "law" = some (.ref fa))
    {C : Addr}
    {pp_knots pg_knots : Addr} {pd_knots pn_knots : Option Addr} {ps_knots : Array (Option Value)} {po_knots pk_knots pq_knots pm_knots pc_knots pt_knots : Value}
    {pp_ties pg_ties : Addr} {pd_ties pn_ties : Option Addr} {ps_ties : Array (Option Value)} {po_ties pk_ties pq_ties pm_ties pc_ties pt_ties : Value}
    {e0 : Addr} {od0 an0 : Option Addr} {sl0 : Array (Option Value)} {oc0 kV0 dc0 pm0 cd0 ct0 : Value}
    {e1 : Addr} {od1 an1 : Option Addr} {sl1 : Array (Option Value)} {oc1 kV1 dc1 pm1 cd1 ct1 : Value}
    {e2 : Addr} {od2 an2 : Option Addr} {sl2 : Array (Option Value)} {oc2 kV2 dc2 pm2 cd2 ct2 : Value}
    {e3 : Addr} {od3 an3 : Option Addr} {sl3 : Array (Option Value)} {oc3 kV3 dc3 pm3 cd3 ct3 : Value}
    {e4 : Addr} {od4 an4 : Option Addr} {sl4 : Array (Option Value)} {oc4 kV4 dc4 pm4 cd4 ct4 : Value}
    {e5 : Addr} {od5 an5 : Option Addr} {sl5 : Array (Option Value)} {oc5 kV5 dc5 pm5 cd5 ct5 : Value}
    {e6 : Addr} {od6 an6 : Option Addr} {sl6 : Array (Option Value)} {oc6 kV6 dc6 pm6 cd6 ct6 : Value}
    {e7 : Addr} {od7 an7 : Option Addr} {sl7 : Array (Option Value)} {oc7 kV7 dc7 pm7 cd7 ct7 : Value}
    {e8 : Addr} {od8 an8 : Option Addr} {sl8 : Array (Option Value)} {oc8 kV8 dc8 pm8 cd8 ct8 : Value}
    {e9 : Addr} {od9 an9 : Option Addr} {sl9 : Array (Option Value)} {oc9 kV9 dc9 pm9 cd9 ct9 : Value}
    {e10 : Addr} {od10 an10 : Option Addr} {sl10 : Array (Option Value)} {oc10 kV10 dc10 pm10 cd10 ct10 : Value}
    {e11 : Addr} {od11 an11 : Option Addr} {sl11 : Array (Option Value)} {oc11 kV11 dc11 pm11 cd11 ct11 : Value}
    {e12 : Addr} {od12 an12 : Option Addr} {sl12 : Array (Option Value)} {oc12 kV12 dc12 pm12 cd12 ct12 : Value}
    {e13 : Addr} {od13 an13 : Option Addr} {sl13 : Array (Option Value)} {oc13 kV13 dc13 pm13 cd13 ct13 : Value}
    {e14 : Addr} {od14 an14 : Option Addr} {sl14 : Array (Option Value)} {oc14 kV14 dc14 pm14 cd14 ct14 : Value}
    {e15 : Addr} {od15 an15 : Option Addr} {sl15 : Array (Option Value)} {oc15 kV15 dc15 pm15 cd15 ct15 : Value}
    {e16 : Addr} {od16 an16 : Option Addr} {sl16 : Array (Option Value)} {oc16 kV16 dc16 pm16 cd16 ct16 : Value}
    {e17 : Addr} {od17 an17 : Option Addr} {sl17 : Array (Option Value)} {oc17 kV17 dc17 pm17 cd17 ct17 : Value}
    {e18 : Addr} {od18 an18 : Option Addr} {sl18 : Array (Option Value)} {oc18 kV18 dc18 pm18 cd18 ct18 : Value}
    {e19 : Addr} {od19 an19 : Option Addr} {sl19 : Array (Option Value)} {oc19 kV19 dc19 pm19 cd19 ct19 : Value}
    {e20 : Addr} {od20 an20 : Option Addr} {sl20 : Array (Option Value)} {oc20 kV20 dc20 pm20 cd20 ct20 : Value}
    {e21 : Addr} {od21 an21 : Option Addr} {sl21 : Array (Option Value)} {oc21 kV21 dc21 pm21 cd21 ct21 : Value}
    {e22 : Addr} {od22 an22 : Option Addr} {sl22 : Array (Option Value)} {oc22 kV22 dc22 pm22 cd22 ct22 : Value}
    {e23 : Addr} {od23 an23 : Option Addr} {sl23 : Array (Option Value)} {oc23 kV23 dc23 pm23 cd23 ct23 : Value}
    {e24 : Addr} {od24 an24 : Option Addr} {sl24 : Array (Option Value)} {oc24 kV24 dc24 pm24 cd24 ct24 : Value}
    {e25 : Addr} {od25 an25 : Option Addr} {sl25 : Array (Option Value)} {oc25 kV25 dc25 pm25 cd25 ct25 : Value}
    {e26 : Addr} {od26 an26 : Option Addr} {sl26 : Array (Option Value)} {oc26 kV26 dc26 pm26 cd26 ct26 : Value}
    {e27 : Addr} {od27 an27 : Option Addr} {sl27 : Array (Option Value)} {oc27 kV27 dc27 pm27 cd27 ct27 : Value}
    {e28 : Addr} {od28 an28 : Option Addr} {sl28 : Array (Option Value)} {oc28 kV28 dc28 pm28 cd28 ct28 : Value}
    {e29 : Addr} {od29 an29 : Option Addr} {sl29 : Array (Option Value)} {oc29 kV29 dc29 pm29 cd29 ct29 : Value}
    {e30 : Addr} {od30 an30 : Option Addr} {sl30 : Array (Option Value)} {oc30 kV30 dc30 pm30 cd30 ct30 : Value}
    {e31 : Addr} {od31 an31 : Option Addr} {sl31 : Array (Option Value)} {oc31 kV31 dc31 pm31 cd31 ct31 : Value}
    {e32 : Addr} {od32 an32 : Option Addr} {sl32 : Array (Option Value)} {oc32 kV32 dc32 pm32 cd32 ct32 : Value}
    {e33 : Addr} {od33 an33 : Option Addr} {sl33 : Array (Option Value)} {oc33 kV33 dc33 pm33 cd33 ct33 : Value}
    {e34 : Addr} {od34 an34 : Option Addr} {sl34 : Array (Option Value)} {oc34 kV34 dc34 pm34 cd34 ct34 : Value}
    {e35 : Addr} {od35 an35 : Option Addr} {sl35 : Array (Option Value)} {oc35 kV35 dc35 pm35 cd35 ct35 : Value}
    {e36 : Addr} {od36 an36 : Option Addr} {sl36 : Array (Option Value)} {oc36 kV36 dc36 pm36 cd36 ct36 : Value}
    {tk_MOST_KNOTS : Tok}
    (cC : PySem.W.nsIn K mainGlobals "Web" = some (some (.ref C))) (pg : PySem.W.plainGet K C Str.empty = true) (hd : PySem.W.hasDictIn K C = true) (po : PySem.W.plainOver K C = true) (sa : PySem.W.findIn K (.ref C) "__setattr__" = some (some (.builtin "object.__setattr__"))) (mk : PySem.W.makesIn K C = true) (kc : PySem.W.keepIn K (.ref C) = true)
    (ha : PySem.W.findIn K (.ref C) "__class__" = some (some (.builtin "object.__class__"))) (hn : PySem.W.specialIn K (.builtin "object.__class__") "__get__" = some (some (.builtin "getset_descriptor.__get__"))) (htk : PySem.W.takesIn K (.builtin "object.__class__") = some true) (hmr : PySem.W.mroIn K C (.type "object") = some true) (ne : PySem.W.findIn K (.ref C) "__ne__" = some (some (.builtin "object.__ne__")))
    (sx_int : PySem.W.subIn K (.ref C) (.type "int") = some false)
    (sx_bool : PySem.W.subIn K (.ref C) (.type "bool") = some false)
    (sx_str : PySem.W.subIn K (.ref C) (.type "str") = some false)
    (sx_tuple : PySem.W.subIn K (.ref C) (.type "tuple") = some false)
    (sx_list : PySem.W.subIn K (.ref C) (.type "list") = some false)
    (sx_dict : PySem.W.subIn K (.ref C) (.type "dict") = some false)
    (icl : PySem.W.isClsIn K C = true) (tyc : PySem.W.typeIn K (.ref C) = some (.type "type"))
    (nf__knots : PySem.W.findIn K (.ref C) "_knots" = some none)
    (nf__ties : PySem.W.findIn K (.ref C) "_ties" = some none)
    (at_knots : PySem.W.findIn K (.ref C) "knots" = some (some (.ref pp_knots))) (ge_knots : PySem.W.specialIn K (.ref pp_knots) "__get__" = some (some (.builtin "property.__get__"))) (ta_knots : PySem.W.takesIn K (.ref pp_knots) = some true) (re_knots : ∃ rest, PySem.W.recIn K pp_knots "property" = some (.ref pg_knots :: rest)) (lp_knots : K.lookup pg_knots = some ⟨po_knots, pd_knots, .func (PySem.W.fnOf "knots" "Web.knots" (defArgs s_Web_p_knots) (defBody s_Web_p_knots) (defScope s_Web_p_knots) .none pk_knots pq_knots pm_knots pn_knots pc_knots pt_knots), ps_knots⟩) (yp_knots : PySem.W.codeIn K pc_knots "Web.knots" = true)
    (at_ties : PySem.W.findIn K (.ref C) "ties" = some (some (.ref pp_ties))) (ge_ties : PySem.W.specialIn K (.ref pp_ties) "__get__" = some (some (.builtin "property.__get__"))) (ta_ties : PySem.W.takesIn K (.ref pp_ties) = some true) (re_ties : ∃ rest, PySem.W.recIn K pp_ties "property" = some (.ref pg_ties :: rest)) (lp_ties : K.lookup pg_ties = some ⟨po_ties, pd_ties, .func (PySem.W.fnOf "ties" "Web.ties" (defArgs s_Web_p_ties) (defBody s_Web_p_ties) (defScope s_Web_p_ties) .none pk_ties pq_ties pm_ties pn_ties pc_ties pt_ties), ps_ties⟩) (yp_ties : PySem.W.codeIn K pc_ties "Web.ties" = true)
    (a_is_whole : PySem.W.nsIn K mainGlobals "is_whole" = some (some (.ref e0))) (l_is_whole : K.lookup e0 = some ⟨oc0, od0, .func (PySem.W.fnOf "is_whole" "is_whole" (defArgs s_is_whole) (defBody s_is_whole) (defScope s_is_whole) .none kV0 dc0 pm0 an0 cd0 ct0), sl0⟩) (y_is_whole : PySem.W.codeIn K cd0 "is_whole" = true) (w_is_whole : PySem.W.keepIn K (.ref e0) = true)
    (a_is_below : PySem.W.nsIn K mainGlobals "is_below" = some (some (.ref e1))) (l_is_below : K.lookup e1 = some ⟨oc1, od1, .func (PySem.W.fnOf "is_below" "is_below" (defArgs s_is_below) (defBody s_is_below) (defScope s_is_below) .none kV1 dc1 pm1 an1 cd1 ct1), sl1⟩) (y_is_below : PySem.W.codeIn K cd1 "is_below" = true) (w_is_below : PySem.W.keepIn K (.ref e1) = true)
    (a_are_below : PySem.W.nsIn K mainGlobals "are_below" = some (some (.ref e2))) (l_are_below : K.lookup e2 = some ⟨oc2, od2, .func (PySem.W.fnOf "are_below" "are_below" (defArgs s_are_below) (defBody s_are_below) (defScope s_are_below) .none kV2 dc2 pm2 an2 cd2 ct2), sl2⟩) (y_are_below : PySem.W.codeIn K cd2 "are_below" = true) (w_are_below : PySem.W.keepIn K (.ref e2) = true)
    (a_is_ascending : PySem.W.nsIn K mainGlobals "is_ascending" = some (some (.ref e3))) (l_is_ascending : K.lookup e3 = some ⟨oc3, od3, .func (PySem.W.fnOf "is_ascending" "is_ascending" (defArgs s_is_ascending) (defBody s_is_ascending) (defScope s_is_ascending) .none kV3 dc3 pm3 an3 cd3 ct3), sl3⟩) (y_is_ascending : PySem.W.codeIn K cd3 "is_ascending" = true) (w_is_ascending : PySem.W.keepIn K (.ref e3) = true)
    (a_are_bits : PySem.W.nsIn K mainGlobals "are_bits" = some (some (.ref e4))) (l_are_bits : K.lookup e4 = some ⟨oc4, od4, .func (PySem.W.fnOf "are_bits" "are_bits" (defArgs s_are_bits) (defBody s_are_bits) (defScope s_are_bits) .none kV4 dc4 pm4 an4 cd4 ct4), sl4⟩) (y_are_bits : PySem.W.codeIn K cd4 "are_bits" = true) (w_are_bits : PySem.W.keepIn K (.ref e4) = true)
    (a_are_pairs : PySem.W.nsIn K mainGlobals "are_pairs" = some (some (.ref e5))) (l_are_pairs : K.lookup e5 = some ⟨oc5, od5, .func (PySem.W.fnOf "are_pairs" "are_pairs" (defArgs s_are_pairs) (defBody s_are_pairs) (defScope s_are_pairs) .none kV5 dc5 pm5 an5 cd5 ct5), sl5⟩) (y_are_pairs : PySem.W.codeIn K cd5 "are_pairs" = true) (w_are_pairs : PySem.W.keepIn K (.ref e5) = true)
    (a_check_web : PySem.W.nsIn K mainGlobals "check_web" = some (some (.ref e6))) (l_check_web : K.lookup e6 = some ⟨oc6, od6, .func (PySem.W.fnOf "check_web" "check_web" (defArgs s_check_web) (defBody s_check_web) (defScope s_check_web) .none kV6 dc6 pm6 an6 cd6 ct6), sl6⟩) (y_check_web : PySem.W.codeIn K cd6 "check_web" = true) (w_check_web : PySem.W.keepIn K (.ref e6) = true)
    (a_masks_of : PySem.W.nsIn K mainGlobals "masks_of" = some (some (.ref e7))) (l_masks_of : K.lookup e7 = some ⟨oc7, od7, .func (PySem.W.fnOf "masks_of" "masks_of" (defArgs s_masks_of) (defBody s_masks_of) (defScope s_masks_of) .none kV7 dc7 pm7 an7 cd7 ct7), sl7⟩) (y_masks_of : PySem.W.codeIn K cd7 "masks_of" = true) (w_masks_of : PySem.W.keepIn K (.ref e7) = true)
    (a_is_ring : PySem.W.nsIn K mainGlobals "is_ring" = some (some (.ref e8))) (l_is_ring : K.lookup e8 = some ⟨oc8, od8, .func (PySem.W.fnOf "is_ring" "is_ring" (defArgs s_is_ring) (defBody s_is_ring) (defScope s_is_ring) .none kV8 dc8 pm8 an8 cd8 ct8), sl8⟩) (y_is_ring : PySem.W.codeIn K cd8 "is_ring" = true) (w_is_ring : PySem.W.keepIn K (.ref e8) = true)
    (a_check_ring : PySem.W.nsIn K mainGlobals "check_ring" = some (some (.ref e9))) (l_check_ring : K.lookup e9 = some ⟨oc9, od9, .func (PySem.W.fnOf "check_ring" "check_ring" (defArgs s_check_ring) (defBody s_check_ring) (defScope s_check_ring) .none kV9 dc9 pm9 an9 cd9 ct9), sl9⟩) (y_check_ring : PySem.W.codeIn K cd9 "check_ring" = true) (w_check_ring : PySem.W.keepIn K (.ref e9) = true)
    (a__check_name : PySem.W.nsIn K mainGlobals "_check_name" = some (some (.ref e10))) (l__check_name : K.lookup e10 = some ⟨oc10, od10, .func (PySem.W.fnOf "_check_name" "_check_name" (defArgs s__check_name) (defBody s__check_name) (defScope s__check_name) .none kV10 dc10 pm10 an10 cd10 ct10), sl10⟩) (y__check_name : PySem.W.codeIn K cd10 "_check_name" = true) (w__check_name : PySem.W.keepIn K (.ref e10) = true)
    (a__ends : PySem.W.nsIn K mainGlobals "_ends" = some (some (.ref e11))) (l__ends : K.lookup e11 = some ⟨oc11, od11, .func (PySem.W.fnOf "_ends" "_ends" (defArgs s__ends) (defBody s__ends) (defScope s__ends) .none kV11 dc11 pm11 an11 cd11 ct11), sl11⟩) (y__ends : PySem.W.codeIn K cd11 "_ends" = true) (w__ends : PySem.W.keepIn K (.ref e11) = true)
    (a_ends_of : PySem.W.nsIn K mainGlobals "ends_of" = some (some (.ref e12))) (l_ends_of : K.lookup e12 = some ⟨oc12, od12, .func (PySem.W.fnOf "ends_of" "ends_of" (defArgs s_ends_of) (defBody s_ends_of) (defScope s_ends_of) .none kV12 dc12 pm12 an12 cd12 ct12), sl12⟩) (y_ends_of : PySem.W.codeIn K cd12 "ends_of" = true) (w_ends_of : PySem.W.keepIn K (.ref e12) = true)
    (a_crossing : PySem.W.nsIn K mainGlobals "crossing" = some (some (.ref e13))) (l_crossing : K.lookup e13 = some ⟨oc13, od13, .func (PySem.W.fnOf "crossing" "crossing" (defArgs s_crossing) (defBody s_crossing) (defScope s_crossing) .none kV13 dc13 pm13 an13 cd13 ct13), sl13⟩) (y_crossing : PySem.W.codeIn K cd13 "crossing" = true) (w_crossing : PySem.W.keepIn K (.ref e13) = true)
    (a_Web : PySem.W.findIn K (.ref C) "__init__" = some (some (.ref e14))) (i_Web : PySem.W.isFn K (.ref e14) = true) (l_Web : K.lookup e14 = some ⟨oc14, od14, .func (PySem.W.fnOf "__init__" "Web.__init__" (defArgs s_Web) (defBody s_Web) (defScope s_Web) .none kV14 dc14 pm14 an14 cd14 ct14), sl14⟩) (y_Web : PySem.W.codeIn K cd14 "Web.__init__" = true) (w_Web : PySem.W.keepIn K (.ref e14) = true)
    (a_web_of : PySem.W.nsIn K mainGlobals "web_of" = some (some (.ref e15))) (l_web_of : K.lookup e15 = some ⟨oc15, od15, .func (PySem.W.fnOf "web_of" "web_of" (defArgs s_web_of) (defBody s_web_of) (defScope s_web_of) .none kV15 dc15 pm15 an15 cd15 ct15), sl15⟩) (y_web_of : PySem.W.codeIn K cd15 "web_of" = true) (w_web_of : PySem.W.keepIn K (.ref e15) = true)
    (a_has_marks_form : PySem.W.nsIn K mainGlobals "has_marks_form" = some (some (.ref e16))) (l_has_marks_form : K.lookup e16 = some ⟨oc16, od16, .func (PySem.W.fnOf "has_marks_form" "has_marks_form" (defArgs s_has_marks_form) (defBody s_has_marks_form) (defScope s_has_marks_form) .none kV16 dc16 pm16 an16 cd16 ct16), sl16⟩) (y_has_marks_form : PySem.W.codeIn K cd16 "has_marks_form" = true) (w_has_marks_form : PySem.W.keepIn K (.ref e16) = true)
    (a_marks_of : PySem.W.nsIn K mainGlobals "marks_of" = some (some (.ref e17))) (l_marks_of : K.lookup e17 = some ⟨oc17, od17, .func (PySem.W.fnOf "marks_of" "marks_of" (defArgs s_marks_of) (defBody s_marks_of) (defScope s_marks_of) .none kV17 dc17 pm17 an17 cd17 ct17), sl17⟩) (y_marks_of : PySem.W.codeIn K cd17 "marks_of" = true) (w_marks_of : PySem.W.keepIn K (.ref e17) = true)
    (a__sums_with : PySem.W.nsIn K mainGlobals "_sums_with" = some (some (.ref e18))) (l__sums_with : K.lookup e18 = some ⟨oc18, od18, .func (PySem.W.fnOf "_sums_with" "_sums_with" (defArgs s__sums_with) (defBody s__sums_with) (defScope s__sums_with) .none kV18 dc18 pm18 an18 cd18 ct18), sl18⟩) (y__sums_with : PySem.W.codeIn K cd18 "_sums_with" = true) (w__sums_with : PySem.W.keepIn K (.ref e18) = true)
    (a_sums_of : PySem.W.nsIn K mainGlobals "sums_of" = some (some (.ref e19))) (l_sums_of : K.lookup e19 = some ⟨oc19, od19, .func (PySem.W.fnOf "sums_of" "sums_of" (defArgs s_sums_of) (defBody s_sums_of) (defScope s_sums_of) .none kV19 dc19 pm19 an19 cd19 ct19), sl19⟩) (y_sums_of : PySem.W.codeIn K cd19 "sums_of" = true) (w_sums_of : PySem.W.keepIn K (.ref e19) = true)
    (a__is_right : PySem.W.nsIn K mainGlobals "_is_right" = some (some (.ref e20))) (l__is_right : K.lookup e20 = some ⟨oc20, od20, .func (PySem.W.fnOf "_is_right" "_is_right" (defArgs s__is_right) (defBody s__is_right) (defScope s__is_right) .none kV20 dc20 pm20 an20 cd20 ct20), sl20⟩) (y__is_right : PySem.W.codeIn K cd20 "_is_right" = true) (w__is_right : PySem.W.keepIn K (.ref e20) = true)
    (a_are_marks : PySem.W.nsIn K mainGlobals "are_marks" = some (some (.ref e21))) (l_are_marks : K.lookup e21 = some ⟨oc21, od21, .func (PySem.W.fnOf "are_marks" "are_marks" (defArgs s_are_marks) (defBody s_are_marks) (defScope s_are_marks) .none kV21 dc21 pm21 an21 cd21 ct21), sl21⟩) (y_are_marks : PySem.W.codeIn K cd21 "are_marks" = true) (w_are_marks : PySem.W.keepIn K (.ref e21) = true)
    (a__law_urn : PySem.W.nsIn K mainGlobals "_law_urn" = some (some (.ref e22))) (l__law_urn : K.lookup e22 = some ⟨oc22, od22, .func (PySem.W.fnOf "_law_urn" "_law_urn" (defArgs s__law_urn) (defBody s__law_urn) (defScope s__law_urn) .none kV22 dc22 pm22 an22 cd22 ct22), sl22⟩) (y__law_urn : PySem.W.codeIn K cd22 "_law_urn" = true) (w__law_urn : PySem.W.keepIn K (.ref e22) = true)
    (a__law_ball : PySem.W.nsIn K mainGlobals "_law_ball" = some (some (.ref e23))) (l__law_ball : K.lookup e23 = some ⟨oc23, od23, .func (PySem.W.fnOf "_law_ball" "_law_ball" (defArgs s__law_ball) (defBody s__law_ball) (defScope s__law_ball) .none kV23 dc23 pm23 an23 cd23 ct23), sl23⟩) (y__law_ball : PySem.W.codeIn K cd23 "_law_ball" = true) (w__law_ball : PySem.W.keepIn K (.ref e23) = true)
    (a__law_mixed : PySem.W.nsIn K mainGlobals "_law_mixed" = some (some (.ref e24))) (l__law_mixed : K.lookup e24 = some ⟨oc24, od24, .func (PySem.W.fnOf "_law_mixed" "_law_mixed" (defArgs s__law_mixed) (defBody s__law_mixed) (defScope s__law_mixed) .none kV24 dc24 pm24 an24 cd24 ct24), sl24⟩) (y__law_mixed : PySem.W.codeIn K cd24 "_law_mixed" = true) (w__law_mixed : PySem.W.keepIn K (.ref e24) = true)
    (a__law_ring : PySem.W.nsIn K mainGlobals "_law_ring" = some (some (.ref e25))) (l__law_ring : K.lookup e25 = some ⟨oc25, od25, .func (PySem.W.fnOf "_law_ring" "_law_ring" (defArgs s__law_ring) (defBody s__law_ring) (defScope s__law_ring) .none kV25 dc25 pm25 an25 cd25 ct25), sl25⟩) (y__law_ring : PySem.W.codeIn K cd25 "_law_ring" = true) (w__law_ring : PySem.W.keepIn K (.ref e25) = true)
    (a__law_ends : PySem.W.nsIn K mainGlobals "_law_ends" = some (some (.ref e26))) (l__law_ends : K.lookup e26 = some ⟨oc26, od26, .func (PySem.W.fnOf "_law_ends" "_law_ends" (defArgs s__law_ends) (defBody s__law_ends) (defScope s__law_ends) .none kV26 dc26 pm26 an26 cd26 ct26), sl26⟩) (y__law_ends : PySem.W.codeIn K cd26 "_law_ends" = true) (w__law_ends : PySem.W.keepIn K (.ref e26) = true)
    (a__law_do_cross : PySem.W.nsIn K mainGlobals "_law_do_cross" = some (some (.ref e27))) (l__law_do_cross : K.lookup e27 = some ⟨oc27, od27, .func (PySem.W.fnOf "_law_do_cross" "_law_do_cross" (defArgs s__law_do_cross) (defBody s__law_do_cross) (defScope s__law_do_cross) .none kV27 dc27 pm27 an27 cd27 ct27), sl27⟩) (y__law_do_cross : PySem.W.codeIn K cd27 "_law_do_cross" = true) (w__law_do_cross : PySem.W.keepIn K (.ref e27) = true)
    (a__law_ties : PySem.W.nsIn K mainGlobals "_law_ties" = some (some (.ref e28))) (l__law_ties : K.lookup e28 = some ⟨oc28, od28, .func (PySem.W.fnOf "_law_ties" "_law_ties" (defArgs s__law_ties) (defBody s__law_ties) (defScope s__law_ties) .none kV28 dc28 pm28 an28 cd28 ct28), sl28⟩) (y__law_ties : PySem.W.codeIn K cd28 "_law_ties" = true) (w__law_ties : PySem.W.keepIn K (.ref e28) = true)
    (a__law_drawn_ties : PySem.W.nsIn K mainGlobals "_law_drawn_ties" = some (some (.ref e29))) (l__law_drawn_ties : K.lookup e29 = some ⟨oc29, od29, .func (PySem.W.fnOf "_law_drawn_ties" "_law_drawn_ties" (defArgs s__law_drawn_ties) (defBody s__law_drawn_ties) (defScope s__law_drawn_ties) .none kV29 dc29 pm29 an29 cd29 ct29), sl29⟩) (y__law_drawn_ties : PySem.W.codeIn K cd29 "_law_drawn_ties" = true) (w__law_drawn_ties : PySem.W.keepIn K (.ref e29) = true)
    (a__law_marks : PySem.W.nsIn K mainGlobals "_law_marks" = some (some (.ref e30))) (l__law_marks : K.lookup e30 = some ⟨oc30, od30, .func (PySem.W.fnOf "_law_marks" "_law_marks" (defArgs s__law_marks) (defBody s__law_marks) (defScope s__law_marks) .none kV30 dc30 pm30 an30 cd30 ct30), sl30⟩) (y__law_marks : PySem.W.codeIn K cd30 "_law_marks" = true) (w__law_marks : PySem.W.keepIn K (.ref e30) = true)
    (a__law_sums : PySem.W.nsIn K mainGlobals "_law_sums" = some (some (.ref e31))) (l__law_sums : K.lookup e31 = some ⟨oc31, od31, .func (PySem.W.fnOf "_law_sums" "_law_sums" (defArgs s__law_sums) (defBody s__law_sums) (defScope s__law_sums) .none kV31 dc31 pm31 an31 cd31 ct31), sl31⟩) (y__law_sums : PySem.W.codeIn K cd31 "_law_sums" = true) (w__law_sums : PySem.W.keepIn K (.ref e31) = true)
    (a__law_are_marks : PySem.W.nsIn K mainGlobals "_law_are_marks" = some (some (.ref e32))) (l__law_are_marks : K.lookup e32 = some ⟨oc32, od32, .func (PySem.W.fnOf "_law_are_marks" "_law_are_marks" (defArgs s__law_are_marks) (defBody s__law_are_marks) (defScope s__law_are_marks) .none kV32 dc32 pm32 an32 cd32 ct32), sl32⟩) (y__law_are_marks : PySem.W.codeIn K cd32 "_law_are_marks" = true) (w__law_are_marks : PySem.W.keepIn K (.ref e32) = true)
    (a__law_do_hold : PySem.W.nsIn K mainGlobals "_law_do_hold" = some (some (.ref e33))) (l__law_do_hold : K.lookup e33 = some ⟨oc33, od33, .func (PySem.W.fnOf "_law_do_hold" "_law_do_hold" (defArgs s__law_do_hold) (defBody s__law_do_hold) (defScope s__law_do_hold) .none kV33 dc33 pm33 an33 cd33 ct33), sl33⟩) (y__law_do_hold : PySem.W.codeIn K cd33 "_law_do_hold" = true) (w__law_do_hold : PySem.W.keepIn K (.ref e33) = true)
    (a__law_bent : PySem.W.nsIn K mainGlobals "_law_bent" = some (some (.ref e34))) (l__law_bent : K.lookup e34 = some ⟨oc34, od34, .func (PySem.W.fnOf "_law_bent" "_law_bent" (defArgs s__law_bent) (defBody s__law_bent) (defScope s__law_bent) .none kV34 dc34 pm34 an34 cd34 ct34), sl34⟩) (y__law_bent : PySem.W.codeIn K cd34 "_law_bent" = true) (w__law_bent : PySem.W.keepIn K (.ref e34) = true)
    (a__law_right : PySem.W.nsIn K mainGlobals "_law_right" = some (some (.ref e35))) (l__law_right : K.lookup e35 = some ⟨oc35, od35, .func (PySem.W.fnOf "_law_right" "_law_right" (defArgs s__law_right) (defBody s__law_right) (defScope s__law_right) .none kV35 dc35 pm35 an35 cd35 ct35), sl35⟩) (y__law_right : PySem.W.codeIn K cd35 "_law_right" = true) (w__law_right : PySem.W.keepIn K (.ref e35) = true)
    (a_law : PySem.W.nsIn K mainGlobals "law" = some (some (.ref e36))) (l_law : K.lookup e36 = some ⟨oc36, od36, .func (PySem.W.fnOf "law" "law" (defArgs s_law) (defBody s_law) (defScope s_law) .none kV36 dc36 pm36 an36 cd36 ct36), sl36⟩) (y_law : PySem.W.codeIn K cd36 "law" = true) (w_law : PySem.W.keepIn K (.ref e36) = true)
    (z_all : PySem.W.nsIn K mainGlobals "all" = some none)
    (z_tuple : PySem.W.nsIn K mainGlobals "tuple" = some none)
    (z_range : PySem.W.nsIn K mainGlobals "range" = some none)
    (z_enumerate : PySem.W.nsIn K mainGlobals "enumerate" = some none)
    (z_len : PySem.W.nsIn K mainGlobals "len" = some none)
    (z_isinstance : PySem.W.nsIn K mainGlobals "isinstance" = some none)
    (z_int : PySem.W.nsIn K mainGlobals "int" = some none)
    (z_max : PySem.W.nsIn K mainGlobals "max" = some none)
    (z_list : PySem.W.nsIn K mainGlobals "list" = some none)
    (z_bool : PySem.W.nsIn K mainGlobals "bool" = some none)
    (z_sorted : PySem.W.nsIn K mainGlobals "sorted" = some none)
    (z_sum : PySem.W.nsIn K mainGlobals "sum" = some none)
    (z_abs : PySem.W.nsIn K mainGlobals "abs" = some none)
    (z_min : PySem.W.nsIn K mainGlobals "min" = some none)
    (z_zip : PySem.W.nsIn K mainGlobals "zip" = some none)
    (q_MOST_KNOTS : PySem.W.nsIn K mainGlobals "MOST_KNOTS" = some (some (.int 10 tk_MOST_KNOTS))) :
    ∃ fd : FuncData, (∀ (s : Shared) (v : Value), BindsTo s fd ⟨[v], []⟩ [("script", v)]) ∧ ∀ base : Heap, K.In base → base.Ns mainGlobals mg → FnOk P w K mg base (L2.CX P w) 10 fa fd ["script"] (spTop K) := by
  have e := hfa.symm.trans (PySem.W.mg_of X G a_law)
  cases e
  have B : Bt mg := ⟨PySem.W.mg_none_of X G z_all, PySem.W.mg_none_of X G z_tuple, PySem.W.mg_none_of X G z_range, PySem.W.mg_none_of X G z_enumerate, PySem.W.mg_none_of X G z_len, PySem.W.mg_none_of X G z_isinstance, PySem.W.mg_none_of X G z_int, PySem.W.mg_none_of X G z_max, PySem.W.mg_none_of X G z_list, PySem.W.mg_none_of X G z_bool, PySem.W.mg_none_of X G z_sorted, PySem.W.mg_none_of X G z_sum, PySem.W.mg_none_of X G z_abs, PySem.W.mg_none_of X G z_min, PySem.W.mg_none_of X G z_zip, ⟨_, PySem.W.mg_of X G q_MOST_KNOTS⟩⟩
  have b1 := (fun_mk (st := s_law) l_law y_law w_law).binds (ps := ["script"]) fun _ _ _ _ _ _ us hl => match us, hl with | [_], _ => rfl
  refine ⟨PySem.W.fnOf "law" "law" (defArgs s_law) (defBody s_law) (defScope s_law) .none kV36 dc36 pm36 an36 cd36 ct36, fun s v => .of_eq rfl, fun base _ _ => ?_⟩
  have W : ClB K mg (zz K C) "Web" C FLD := ⟨rfl, PySem.W.mg_of X G cC, ⟨⟨pg, hd, po, sa⟩, ha, hn, htk, hmr, fun T h => kit_x h (by simp only [List.mem_cons, List.not_mem_nil, or_false] at h; rcases h with rfl | rfl | rfl | rfl | rfl | rfl <;> assumption), fun t h => kit_y h icl tyc⟩, by intro f h; simp only [FLD, List.mem_cons, List.not_mem_nil, or_false] at h; rcases h with rfl | rfl <;> assumption, ne⟩
  have Pr_knots := k_Web_p_knots (P := P) (w := w) (base := base) W ⟨at_knots, ge_knots, ta_knots, re_knots⟩ lp_knots yp_knots
  have Pr_ties := k_Web_p_ties (P := P) (w := w) (base := base) W ⟨at_ties, ge_ties, ta_ties, re_ties⟩ lp_ties yp_ties
  have h_is_whole := k_is_whole (P := P) (w := w) (base := base) (z := (zz K C)) rfl B (fun_mk (st := s_is_whole) l_is_whole y_is_whole w_is_whole) (PySem.W.mg_of X G a_is_whole) 
  have h_is_below := k_is_below (P := P) (w := w) (base := base) (z := (zz K C)) rfl B (fun_mk (st := s_is_below) l_is_below y_is_below w_is_below) (PySem.W.mg_of X G a_is_below) h_is_whole
  have h_are_below := k_are_below (P := P) (w := w) (base := base) (z := (zz K C)) rfl B (fun_mk (st := s_are_below) l_are_below y_are_below w_are_below) (PySem.W.mg_of X G a_are_below) h_is_below
  have h_is_ascending := k_is_ascending (P := P) (w := w) (base := base) (z := (zz K C)) rfl B (fun_mk (st := s_is_ascending) l_is_ascending y_is_ascending w_is_ascending) (PySem.W.mg_of X G a_is_ascending) h_are_below
  have h_are_bits := k_are_bits (P := P) (w := w) (base := base) (z := (zz K C)) rfl B (fun_mk (st := s_are_bits) l_are_bits y_are_bits w_are_bits) (PySem.W.mg_of X G a_are_bits) h_are_below
  have h_are_pairs := k_are_pairs (P := P) (w := w) (base := base) (z := (zz K C)) rfl B (fun_mk (st := s_are_pairs) l_are_pairs y_are_pairs w_are_pairs) (PySem.W.mg_of X G a_are_pairs) h_is_ascending
  have h_check_web := k_check_web (P := P) (w := w) (base := base) (z := (zz K C)) rfl B W (fun_mk (st := s_check_web) l_check_web y_check_web w_check_web) (PySem.W.mg_of X G a_check_web) 
  have h_masks_of := k_masks_of (P := P) (w := w) (base := base) (z := (zz K C)) rfl B W Pr_knots Pr_ties (fun_mk (st := s_masks_of) l_masks_of y_masks_of w_masks_of) (PySem.W.mg_of X G a_masks_of) 
  have h_is_ring := k_is_ring (P := P) (w := w) (base := base) (z := (zz K C)) rfl B (fun_mk (st := s_is_ring) l_is_ring y_is_ring w_is_ring) (PySem.W.mg_of X G a_is_ring) h_is_whole
  have h_check_ring := k_check_ring (P := P) (w := w) (base := base) (z := (zz K C)) rfl B (fun_mk (st := s_check_ring) l_check_ring y_check_ring w_check_ring) (PySem.W.mg_of X G a_check_ring) h_is_ring
  have h__check_name := k__check_name (P := P) (w := w) (base := base) (z := (zz K C)) rfl B (fun_mk (st := s__check_name) l__check_name y__check_name w__check_name) (PySem.W.mg_of X G a__check_name) h_is_below
  have h__ends := k__ends (P := P) (w := w) (base := base) (z := (zz K C)) rfl B (fun_mk (st := s__ends) l__ends y__ends w__ends) (PySem.W.mg_of X G a__ends) 
  have h_ends_of := k_ends_of (P := P) (w := w) (base := base) (z := (zz K C)) rfl B (fun_mk (st := s_ends_of) l_ends_of y_ends_of w_ends_of) (PySem.W.mg_of X G a_ends_of) h_check_ring h__check_name h__ends
  have h_crossing := k_crossing (P := P) (w := w) (base := base) (z := (zz K C)) rfl B (fun_mk (st := s_crossing) l_crossing y_crossing w_crossing) (PySem.W.mg_of X G a_crossing) h_check_ring h__check_name h__ends
  have h_Web := k_Web (P := P) (w := w) (base := base) (z := zz K C) rfl B W mk kc (fun_mk (st := s_Web) l_Web y_Web w_Web) a_Web i_Web h_are_pairs h_is_whole
  have h_web_of := k_web_of (P := P) (w := w) (base := base) (z := (zz K C)) rfl B W (fun_mk (st := s_web_of) l_web_of y_web_of w_web_of) (PySem.W.mg_of X G a_web_of) h_check_ring h_Web h_crossing
  have h_has_marks_form := k_has_marks_form (P := P) (w := w) (base := base) (z := (zz K C)) rfl B (fun_mk (st := s_has_marks_form) l_has_marks_form y_has_marks_form w_has_marks_form) (PySem.W.mg_of X G a_has_marks_form) h_are_bits
  have h_marks_of := k_marks_of (P := P) (w := w) (base := base) (z := (zz K C)) rfl B (fun_mk (st := s_marks_of) l_marks_of y_marks_of w_marks_of) (PySem.W.mg_of X G a_marks_of) h_check_ring h_ends_of
  have h__sums_with := k__sums_with (P := P) (w := w) (base := base) (z := (zz K C)) rfl B (fun_mk (st := s__sums_with) l__sums_with y__sums_with w__sums_with) (PySem.W.mg_of X G a__sums_with) 
  have h_sums_of := k_sums_of (P := P) (w := w) (base := base) (z := (zz K C)) rfl B W Pr_knots Pr_ties (fun_mk (st := s_sums_of) l_sums_of y_sums_of w_sums_of) (PySem.W.mg_of X G a_sums_of) h_check_web h_masks_of h__sums_with
  have h__is_right := k__is_right (P := P) (w := w) (base := base) (z := (zz K C)) rfl B (fun_mk (st := s__is_right) l__is_right y__is_right w__is_right) (PySem.W.mg_of X G a__is_right) 
  have h_are_marks := k_are_marks (P := P) (w := w) (base := base) (z := (zz K C)) rfl B W Pr_knots (fun_mk (st := s_are_marks) l_are_marks y_are_marks w_are_marks) (PySem.W.mg_of X G a_are_marks) h_check_web h_has_marks_form h__is_right h_sums_of
  have h__law_urn := k__law_urn (P := P) (w := w) (base := base) (z := (zz K C)) rfl B (fun_mk (st := s__law_urn) l__law_urn y__law_urn w__law_urn) (PySem.W.mg_of X G a__law_urn) 
  have h__law_ball := k__law_ball (P := P) (w := w) (base := base) (z := (zz K C)) rfl B (fun_mk (st := s__law_ball) l__law_ball y__law_ball w__law_ball) (PySem.W.mg_of X G a__law_ball) 
  have h__law_mixed := k__law_mixed (P := P) (w := w) (base := base) (z := (zz K C)) rfl B (fun_mk (st := s__law_mixed) l__law_mixed y__law_mixed w__law_mixed) (PySem.W.mg_of X G a__law_mixed) h__law_ball
  have h__law_ring := k__law_ring (P := P) (w := w) (base := base) (z := (zz K C)) rfl B (fun_mk (st := s__law_ring) l__law_ring y__law_ring w__law_ring) (PySem.W.mg_of X G a__law_ring) h__law_mixed
  have h__law_ends := k__law_ends (P := P) (w := w) (base := base) (z := (zz K C)) rfl B (fun_mk (st := s__law_ends) l__law_ends y__law_ends w__law_ends) (PySem.W.mg_of X G a__law_ends) 
  have h__law_do_cross := k__law_do_cross (P := P) (w := w) (base := base) (z := (zz K C)) rfl B (fun_mk (st := s__law_do_cross) l__law_do_cross y__law_do_cross w__law_do_cross) (PySem.W.mg_of X G a__law_do_cross) h__law_ends
  have h__law_ties := k__law_ties (P := P) (w := w) (base := base) (z := (zz K C)) rfl B (fun_mk (st := s__law_ties) l__law_ties y__law_ties w__law_ties) (PySem.W.mg_of X G a__law_ties) h__law_do_cross
  have h__law_drawn_ties := k__law_drawn_ties (P := P) (w := w) (base := base) (z := (zz K C)) rfl B (fun_mk (st := s__law_drawn_ties) l__law_drawn_ties y__law_drawn_ties w__law_drawn_ties) (PySem.W.mg_of X G a__law_drawn_ties) h__law_ball
  have h__law_marks := k__law_marks (P := P) (w := w) (base := base) (z := (zz K C)) rfl B (fun_mk (st := s__law_marks) l__law_marks y__law_marks w__law_marks) (PySem.W.mg_of X G a__law_marks) h__law_ends
  have h__law_sums := k__law_sums (P := P) (w := w) (base := base) (z := (zz K C)) rfl B (fun_mk (st := s__law_sums) l__law_sums y__law_sums w__law_sums) (PySem.W.mg_of X G a__law_sums) 
  have h__law_are_marks := k__law_are_marks (P := P) (w := w) (base := base) (z := (zz K C)) rfl B (fun_mk (st := s__law_are_marks) l__law_are_marks y__law_are_marks w__law_are_marks) (PySem.W.mg_of X G a__law_are_marks) 
  have h__law_do_hold := k__law_do_hold (P := P) (w := w) (base := base) (z := (zz K C)) rfl B (fun_mk (st := s__law_do_hold) l__law_do_hold y__law_do_hold w__law_do_hold) (PySem.W.mg_of X G a__law_do_hold) 
  have h__law_bent := k__law_bent (P := P) (w := w) (base := base) (z := (zz K C)) rfl B (fun_mk (st := s__law_bent) l__law_bent y__law_bent w__law_bent) (PySem.W.mg_of X G a__law_bent) h__law_ball
  have h__law_right := k__law_right (P := P) (w := w) (base := base) (z := (zz K C)) rfl B W (fun_mk (st := s__law_right) l__law_right y__law_right w__law_right) (PySem.W.mg_of X G a__law_right) h__law_bent h__law_ball h__law_ring h__law_drawn_ties h_web_of h__law_marks h__law_ties h__law_sums h__law_are_marks h_marks_of h_are_marks h_sums_of h__law_do_hold h_Web
  have h_law := k_law (P := P) (w := w) (base := base) (z := (zz K C)) rfl B W (fun_mk (st := s_law) l_law y_law w_law) (PySem.W.mg_of X G a_law) h__law_urn h_sums_of h_marks_of h_Web h__law_right
  exact h_law.imp fun vs H Q E q => top_of rfl mt q
end G_k27
open PySem PySem.W PyProof.Rows
set_option maxHeartbeats 0 in
theorem PySem.Challenge.cw_tiedanew_k27_whole_marks_and_sums_holds : PySem.Challenge.rw_tiedanew_k27_whole_marks_and_sums.Holds := by
  w_on; o_law; k_head; (case hw => w_witness2)
  k_fill
  refine L2.walk_of (l := PySem.Challenge.rw_tiedanew_k27_whole_marks_and_sums) (n := 63) (k := 10) (x := "script") (CX := fun w => L2.CX (PySem.W.OpenLaw.prog PySem.Challenge.rw_tiedanew_k27_whole_marks_and_sums) w) (sp := fun w => TN.spTop _) rfl (by decide) rfl ⟨rfl, by decide, by decide⟩ (fun w h Y => PySem.W.kIn_of Y) ?F (fun _ _ a ns hl _ hS => ⟨a, ns, rfl, hS, hl, fun _ => rfl⟩) (fun _ _ _ _ _ h => TN.cx_no h)
  case F =>
    intro w mg fa h KX G hmg
    refine' G_k27.all_mk M_k27.m_true KX G hmg ?cC ?pg ?hd ?po ?sa ?mk ?kc ?ha ?hn ?htk ?hmr ?ne ?sx_int ?sx_bool ?sx_str ?sx_tuple ?sx_list ?sx_dict ?icl ?tyc ?nf__knots ?nf__ties ?at_knots ?ge_knots ?ta_knots ?re_knots ?lp_knots ?yp_knots ?at_ties ?ge_ties ?ta_ties ?re_ties ?lp_ties ?yp_ties ?a_is_whole ?l_is_whole ?y_is_whole ?w_is_whole ?a_is_below ?l_is_below ?y_is_below ?w_is_below ?a_are_below ?l_are_below ?y_are_below ?w_are_below ?a_is_ascending ?l_is_ascending ?y_is_ascending ?w_is_ascending ?a_are_bits ?l_are_bits ?y_are_bits ?w_are_bits ?a_are_pairs ?l_are_pairs ?y_are_pairs ?w_are_pairs ?a_check_web ?l_check_web ?y_check_web ?w_check_web ?a_masks_of ?l_masks_of ?y_masks_of ?w_masks_of ?a_is_ring ?l_is_ring ?y_is_ring ?w_is_ring ?a_check_ring ?l_check_ring ?y_check_ring ?w_check_ring ?a__check_name ?l__check_name ?y__check_name ?w__check_name ?a__ends ?l__ends ?y__ends ?w__ends ?a_ends_of ?l_ends_of ?y_ends_of ?w_ends_of ?a_crossing ?l_crossing ?y_crossing ?w_crossing ?a_Web ?i_Web ?l_Web ?y_Web ?w_Web ?a_web_of ?l_web_of ?y_web_of ?w_web_of ?a_has_marks_form ?l_has_marks_form ?y_has_marks_form ?w_has_marks_form ?a_marks_of ?l_marks_of ?y_marks_of ?w_marks_of ?a__sums_with ?l__sums_with ?y__sums_with ?w__sums_with ?a_sums_of ?l_sums_of ?y_sums_of ?w_sums_of ?a__is_right ?l__is_right ?y__is_right ?w__is_right ?a_are_marks ?l_are_marks ?y_are_marks ?w_are_marks ?a__law_urn ?l__law_urn ?y__law_urn ?w__law_urn ?a__law_ball ?l__law_ball ?y__law_ball ?w__law_ball ?a__law_mixed ?l__law_mixed ?y__law_mixed ?w__law_mixed ?a__law_ring ?l__law_ring ?y__law_ring ?w__law_ring ?a__law_ends ?l__law_ends ?y__law_ends ?w__law_ends ?a__law_do_cross ?l__law_do_cross ?y__law_do_cross ?w__law_do_cross ?a__law_ties ?l__law_ties ?y__law_ties ?w__law_ties ?a__law_drawn_ties ?l__law_drawn_ties ?y__law_drawn_ties ?w__law_drawn_ties ?a__law_marks ?l__law_marks ?y__law_marks ?w__law_marks ?a__law_sums ?l__law_sums ?y__law_sums ?w__law_sums ?a__law_are_marks ?l__law_are_marks ?y__law_are_marks ?w__law_are_marks ?a__law_do_hold ?l__law_do_hold ?y__law_do_hold ?w__law_do_hold ?a__law_bent ?l__law_bent ?y__law_bent ?w__law_bent ?a__law_right ?l__law_right ?y__law_right ?w__law_right ?a_law ?l_law ?y_law ?w_law ?z_all ?z_tuple ?z_range ?z_enumerate ?z_len ?z_isinstance ?z_int ?z_max ?z_list ?z_bool ?z_sorted ?z_sum ?z_abs ?z_min ?z_zip ?q_MOST_KNOTS
    (case cC => k_is); (case pg => k_is); (case hd => k_is); (case po => k_is); (case sa => k_is); (case mk => k_is); (case kc => k_is); (case ha => k_is); (case hn => k_is); (case htk => k_is); (case hmr => k_is); (case ne => k_is); (case sx_int => k_is); (case sx_bool => k_is); (case sx_str => k_is); (case sx_tuple => k_is); (case sx_list => k_is); (case sx_dict => k_is); (case icl => k_is); (case tyc => k_is); (case nf__knots => k_is); (case nf__ties => k_is); (case at_knots => k_is); (case ge_knots => k_is); (case ta_knots => k_is); (case re_knots => exact ⟨_, by k_is⟩); (case lp_knots => k_is); (case yp_knots => k_is); (case at_ties => k_is); (case ge_ties => k_is); (case ta_ties => k_is); (case re_ties => exact ⟨_, by k_is⟩); (case lp_ties => k_is); (case yp_ties => k_is); (case a_is_whole => k_is); (case l_is_whole => k_is); (case y_is_whole => k_is); (case w_is_whole => k_is); (case a_is_below => k_is); (case l_is_below => k_is); (case y_is_below => k_is); (case w_is_below => k_is); (case a_are_below => k_is); (case l_are_below => k_is); (case y_are_below => k_is); (case w_are_below => k_is); (case a_is_ascending => k_is); (case l_is_ascending => k_is); (case y_is_ascending => k_is); (case w_is_ascending => k_is); (case a_are_bits => k_is); (case l_are_bits => k_is); (case y_are_bits => k_is); (case w_are_bits => k_is); (case a_are_pairs => k_is); (case l_are_pairs => k_is); (case y_are_pairs => k_is); (case w_are_pairs => k_is); (case a_check_web => k_is); (case l_check_web => k_is); (case y_check_web => k_is); (case w_check_web => k_is); (case a_masks_of => k_is); (case l_masks_of => k_is); (case y_masks_of => k_is); (case w_masks_of => k_is); (case a_is_ring => k_is); (case l_is_ring => k_is); (case y_is_ring => k_is); (case w_is_ring => k_is); (case a_check_ring => k_is); (case l_check_ring => k_is); (case y_check_ring => k_is); (case w_check_ring => k_is); (case a__check_name => k_is); (case l__check_name => k_is); (case y__check_name => k_is); (case w__check_name => k_is); (case a__ends => k_is); (case l__ends => k_is); (case y__ends => k_is); (case w__ends => k_is); (case a_ends_of => k_is); (case l_ends_of => k_is); (case y_ends_of => k_is); (case w_ends_of => k_is); (case a_crossing => k_is); (case l_crossing => k_is); (case y_crossing => k_is); (case w_crossing => k_is); (case a_Web => k_is); (case i_Web => k_is); (case l_Web => k_is); (case y_Web => k_is); (case w_Web => k_is); (case a_web_of => k_is); (case l_web_of => k_is); (case y_web_of => k_is); (case w_web_of => k_is); (case a_has_marks_form => k_is); (case l_has_marks_form => k_is); (case y_has_marks_form => k_is); (case w_has_marks_form => k_is); (case a_marks_of => k_is); (case l_marks_of => k_is); (case y_marks_of => k_is); (case w_marks_of => k_is); (case a__sums_with => k_is); (case l__sums_with => k_is); (case y__sums_with => k_is); (case w__sums_with => k_is); (case a_sums_of => k_is); (case l_sums_of => k_is); (case y_sums_of => k_is); (case w_sums_of => k_is); (case a__is_right => k_is); (case l__is_right => k_is); (case y__is_right => k_is); (case w__is_right => k_is); (case a_are_marks => k_is); (case l_are_marks => k_is); (case y_are_marks => k_is); (case w_are_marks => k_is); (case a__law_urn => k_is); (case l__law_urn => k_is); (case y__law_urn => k_is); (case w__law_urn => k_is); (case a__law_ball => k_is); (case l__law_ball => k_is); (case y__law_ball => k_is); (case w__law_ball => k_is); (case a__law_mixed => k_is); (case l__law_mixed => k_is); (case y__law_mixed => k_is); (case w__law_mixed => k_is); (case a__law_ring => k_is); (case l__law_ring => k_is); (case y__law_ring => k_is); (case w__law_ring => k_is); (case a__law_ends => k_is); (case l__law_ends => k_is); (case y__law_ends => k_is); (case w__law_ends => k_is); (case a__law_do_cross => k_is); (case l__law_do_cross => k_is); (case y__law_do_cross => k_is); (case w__law_do_cross => k_is); (case a__law_ties => k_is); (case l__law_ties => k_is); (case y__law_ties => k_is); (case w__law_ties => k_is); (case a__law_drawn_ties => k_is); (case l__law_drawn_ties => k_is); (case y__law_drawn_ties => k_is); (case w__law_drawn_ties => k_is); (case a__law_marks => k_is); (case l__law_marks => k_is); (case y__law_marks => k_is); (case w__law_marks => k_is); (case a__law_sums => k_is); (case l__law_sums => k_is); (case y__law_sums => k_is); (case w__law_sums => k_is); (case a__law_are_marks => k_is); (case l__law_are_marks => k_is); (case y__law_are_marks => k_is); (case w__law_are_marks => k_is); (case a__law_do_hold => k_is); (case l__law_do_hold => k_is); (case y__law_do_hold => k_is); (case w__law_do_hold => k_is); (case a__law_bent => k_is); (case l__law_bent => k_is); (case y__law_bent => k_is); (case w__law_bent => k_is); (case a__law_right => k_is); (case l__law_right => k_is); (case y__law_right => k_is); (case w__law_right => k_is); (case a_law => k_is); (case l_law => k_is); (case y_law => k_is); (case w_law => k_is); (case z_all => k_is); (case z_tuple => k_is); (case z_range => k_is); (case z_enumerate => k_is); (case z_len => k_is); (case z_isinstance => k_is); (case z_int => k_is); (case z_max => k_is); (case z_list => k_is); (case z_bool => k_is); (case z_sorted => k_is); (case z_sum => k_is); (case z_abs => k_is); (case z_min => k_is); (case z_zip => k_is); (case q_MOST_KNOTS => k_is)
