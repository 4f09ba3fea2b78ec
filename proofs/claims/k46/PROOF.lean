import PyProof.Rows.All
import Wide.All
import OpenK.AllK
import Wide.FinOn
import HandS.Base
import HandS.Call
import HandS.List
import HandS.Lambda
import HandS.ForMost
import HandS.TupAny
import HandS.TupMul
import HandS.Exc
import HandS.ExcOwn
import HandS.TryOnly
import HandS.WordsExc
import HandS.IsInst
import HandS.Conv
import HandS.Zip
import HandS.NoneIn
import KE.DataEq
import HandS.SortInts
import HandS.WideBits
import HandS.Style
import HandS.Strs
import PyProof.TupleOfSeq
import KE.KSortedM
import HandS.Property
import HandS.Codes
import HandS.SlotsOwn
import HandS.OwnEq
import PyProof.InstNe
import PyProof.SeqIndex
import HandS.SetFor
import HandS.Comp
import HandS.Iter
import KE.GoesMore
import PyProof.EnumMake
import HandS.More
import KE.SortData
import KE.DataMinMax
import PyProof.MaxThree
import PyProof.StrOps2
import HandS.Dict
import HandS.Small
import HandS.WordsDict
import HandS.TupSets
import HandS.ExcInit
import HandS.ExcField
import HandS.ExcBuiltin
import HandS.TryMany
import KE.KExcInit
import HandS.EndTab
import HandS.HeadWalk
import PyProof.Rows.NestShow
import PyProof.CallFns
import HandS.CallLocal
import HandS.ExcIs
import HandS.SortKw
import HandS.Rev
import HandS.RevRange
import HandS.Flow
import HandS.RevTup
import HandS.Zip0
import HandS.TupLe
import HandS.Nested
import PyProof.ListMulRoad
import PyProof.FactsAll.tuple_2
import HandS.Text
import PyProof.StrLoop
import PyProof.ListNew
import PyProof.CollectStr
import PyProof.EqKinds
import KE.KDictKeyed
import KE.KDictDisplayH
import HandS.Wide
import PySem.Challenge.RW_tiedanew_k46_errors_of_flips
set_option Elab.async false
set_option linter.all false
set_option maxRecDepth 100000
set_option maxHeartbeats 4000000
namespace TN
open PySem PySem.Spec PyProof.Rows L2
def TupX (K : PySem.W.Frag) (H : Hp) (a : Addr) (vs : List V) : Prop := (∃ o, H a = some (.frz o (.tup vs)) ∧ o.dict = none) ∨
  (∃ (o : Obj) (its : Array Value) (n : Nat), (K.lookup a = some o ∧ o.dict = none) ∧ o.cls = .type "tuple" ∧ o.data = .seq its n ∧ its.size ≤ sizeLine ∧ Vals vs its.toList)
theorem TupX.sq {K : PySem.W.Frag} {H : Hp} {a : Addr} {vs : List V} (h : TupX K H a vs) : SqT K H a vs := by
  rcases h with ⟨o, h, _⟩ | ⟨o, its, n, ⟨h1, _⟩, h2⟩
  · exact .inl (.inr ⟨o, h⟩)
  · exact .inr ⟨o, its, n, h1, h2⟩
theorem TupX.new {K : PySem.W.Frag} {H : Hp} {a : Addr} {vs : List V} {o : Obj} (d : o.dict = none) : TupX K (upd H a (.frz o (.tup vs))) a vs := .inl ⟨o, upd_same, d⟩
section
variable {X : Cx}
theorem laidT {pins : List (Addr × Obj)} {σ : L2.St} {H : Hp} {s : Shared} {its : List Value} {xs : List V} (I : Inv X pins σ H s) (r : Vals xs its) (hz : xs.length ≤ sizeLine) {t' : Nat} :
    Inv X pins σ (upd H s.heap.objs.size (.frz { cls := .type "tuple", data := .seq its.toArray } (.tup xs))) { s with heap := s.heap.push { cls := .type "tuple", data := .seq its.toArray }, toks := t' } :=
  I.laid (t' := t') (o := .frz { cls := .type "tuple", data := .seq its.toArray } (.tup xs)) (fun b ob q => Heap.get?_push_of_some _ q) (Nat.le_refl _) ⟨Heap.get?_push_size _ rfl, hz, its, r, IsTup.new _ _⟩
def tTupX (t : TA) : TE := fun σ H Q => t σ H fun xs H1 => xs.length ≤ sizeLine ∧ ∀ p o, H1 p = none → o.dict = none → Q (.ref p) (upd H1 p (.frz o (.tup xs)))
theorem pe_tupX {es : List Expr} {t : TA} {pos : Pos} {x1} (h : PA X es t) : PE X (.Tuple es x1 pos) (tTupX t) := by
  refine ⟨fun pins s σ H Q I hq => ?_⟩
  refine wpAny_Tuple_spliced (thn (h.run pos pins s σ H _ I hq) fun us s1 ⟨vs, H1, I1, r, z, q⟩ => ⟨by rw [← r.length]; exact z, ?_⟩)
  exact ⟨.ref s1.heap.objs.size, _, laidT (t' := s1.toks) I1 r z, rfl, q _ _ (I1.hok.fresh (Nat.le_refl _)) rfl⟩
def rTupleX (K : PySem.W.Frag) : List V → Hp → VK → Prop := fun xs H Q => ∃ p ys, xs = [.ref p] ∧ ((SqL K H p ys ∧ ∀ l o, H l = none → o.dict = none → Q (.ref l) (upd H l (.frz o (.tup ys)))) ∨ (SqT K H p ys ∧ Q (.ref p) H))
theorem call_tupleX : CallR X (.type "tuple") (rTupleX X.K) := by
  intro pins s σ H vs us Q I r h
  obtain ⟨p, ys, rfl, h⟩ := h
  obtain ⟨u, rfl, rx⟩ := vals1 r
  cases rx
  rcases h with ⟨hq, q⟩ | ⟨hq, q⟩
  · obtain ⟨its, rv, pl, hz⟩ := I.list hq
    have hlen := rv.length
    refine call_tuple_list pl.isList (fun h' kp => ?_) (by simp only [List.size_toArray] <;> omega)
    have I1 : Inv X pins σ H { s with heap := h' } := I.kept (t' := s.toks) kp
    exact ⟨.ref h'.objs.size, _, laidT (t' := s.toks) I1 rv hz, rfl, q _ _ (I1.hok.fresh (Nat.le_refl _)) rfl⟩
  · obtain ⟨its, rv, pl, hz⟩ := I.tuple hq
    exact call_tuple_same pl ⟨.ref p, H, I, rfl, q⟩
def rSlX (K : PySem.W.Frag) : V → Option Int → Option Int → Hp → VK → Prop := fun x lo hi H Q => ∃ a xs, x = .ref a ∧ SqT K H a xs ∧
  (HT.sIx xs.length 0 lo = 0 ∧ HT.sIx xs.length xs.length hi = xs.length → Q (.ref a) H) ∧ (¬ (HT.sIx xs.length 0 lo = 0 ∧ HT.sIx xs.length xs.length hi = xs.length) → ∀ p o, H p = none → o.dict = none → Q (.ref p) (upd H p (.frz o (.tup (cutV xs lo hi)))))
theorem sl_tupX : SlR X (rSlX X.K) := by
  intro pins s σ H x v vl vu lo hi sl Q I rx hs pl pu h
  obtain ⟨a, xs, rfl, hx, q1, q2⟩ := h
  cases rx
  obtain ⟨its, r, ht, hz⟩ := I.tuple hx
  have hlen : its.toArray.size = xs.length := by rw [List.size_toArray]; exact r.length.symm
  refine ⟨"tuple", _, PyProof.Rows.slot_tuple_getitem.lookup, ht.typeIs, ?_⟩
  by_cases hw : HT.sIx xs.length 0 lo = 0 ∧ HT.sIx xs.length xs.length hi = xs.length
  · exact getItem_tuple_whole ht hs pl pu (by rw [hlen]; exact hw) ⟨.ref a, H, I, rfl, q1 hw⟩
  · refine HT.getItem_tuple_cut ht hs pl pu (by rw [hlen]; exact hw) ?_ (by rw [hlen]; exact hz)
    rw [hlen]
    exact ⟨.ref s.heap.objs.size, _, laidT (t' := s.toks) (xs := cutV xs lo hi) I ((r.drop (HT.sIx xs.length 0 lo)).take (HT.sIx xs.length xs.length hi - HT.sIx xs.length 0 lo)) (Nat.le_trans (cutV_length xs lo hi) hz), rfl, q2 hw _ _ (I.hok.fresh (Nat.le_refl _)) rfl⟩
def rCatX (K : PySem.W.Frag) : R2 := fun x y H Q => ∃ a b xs ys, x = .ref a ∧ y = .ref b ∧ SqT K H a xs ∧ SqT K H b ys ∧ xs.length + ys.length ≤ sizeLine ∧
  (xs = [] → Q (.ref b) H) ∧ (xs ≠ [] → ys = [] → Q (.ref a) H) ∧ (xs ≠ [] → ys ≠ [] → ∀ p o, H p = none → o.dict = none → Q (.ref p) (upd H p (.frz o (.tup (xs ++ ys)))))
theorem op_catX : OpR X (binaryOp .Add) (rCatX X.K) := by
  intro pins s σ H x y v u Q I rx ry h
  obtain ⟨a, b, xs, ys, rfl, rfl, ha, hb, hz, q0, q1, q2⟩ := h
  cases rx
  cases ry
  obtain ⟨as, r1, p1, _⟩ := I.tuple ha
  obtain ⟨bs, r2, p2, _⟩ := I.tuple hb
  by_cases hx : xs = []
  · subst hx
    cases r1
    exact cat_tup0 p1 p2 ⟨.ref b, H, I, rfl, q0 rfl⟩
  · refine HT.cat_tup p1 p2 (fun z => hx (r1.nil_iff.mp z)) (fun z => ⟨.ref a, H, I, rfl, q1 hx (r2.nil_iff.mp z)⟩) (fun z => ?_) (by rw [← r1.length, ← r2.length]; exact hz)
    exact ⟨.ref s.heap.objs.size, _, laidT (t' := s.toks) I (r1.append r2) (by rw [List.length_append]; exact hz), rfl, q2 hx (fun w => z (r2.nil_iff.mpr w)) _ _ (I.hok.fresh (Nat.le_refl _)) rfl⟩
def rRepX (K : PySem.W.Frag) : R2 := fun x y H Q => ∃ l k xs, x = .ref l ∧ y = .int k ∧ SqT K H l xs ∧ xs ≠ [] ∧ 2 ≤ k ∧ k ≤ 1000 ∧ xs.length ≤ 1000 ∧ ∀ p o, H p = none → o.dict = none → Q (.ref p) (upd H p (.frz o (.tup (List.replicate k.toNat xs).flatten)))
theorem op_repX : OpR X (binaryOp .Mult) (rRepX X.K) := by
  intro pins s σ H x y v u Q I rx ry h
  obtain ⟨l, k, xs, rfl, rfl, hT, hne, h1, h2, hz, q⟩ := h
  cases rx
  obtain ⟨t, rfl⟩ := ry
  obtain ⟨as, r, ⟨⟨cls, dd, data, sl⟩, ho, hc, n, hd⟩, hs⟩ := I.tuple hT
  simp only at hc hd
  subst hc hd
  have hle : as.length = xs.length := r.length.symm
  have hn : as ≠ [] := fun e => hne (List.eq_nil_of_length_eq_zero (by rw [← hle, e]; rfl))
  have hi : as.toArray.isEmpty = false := by
    cases as with
    | nil => exact absurd rfl hn
    | cons a b => rfl
  have hsz0 : as.toArray.size = xs.length := by rw [List.size_toArray, hle]
  have hm : ((as.toArray.size : Nat) : Int) * k ≤ 1000000 := by
    rw [hsz0]
    have e1 : ((xs.length : Nat) : Int) * k ≤ 1000 * k := Int.mul_le_mul_of_nonneg_right (by omega) (by omega)
    omega
  have small : k.toNat * xs.length ≤ 1000 * 1000 := Nat.mul_le_mul (by omega) hz
  have flen : (List.replicate k.toNat as).flatten.length ≤ sizeLine := by
    rw [PyProof.Rows.lm_len_rep_flat, hle, sizeLine_eq]
    omega
  refine wpAny_binaryOp_repeat_ref (T := "tuple") (U := "int") (by decide) ⟨_, ho, rfl⟩ (fun s' => typeIs_int s' k t) noFill_tuple_mul F.fills_int_mul F.slot_int_rmul repeat_tuple F.slot_int_index.lookup
    (call_meets F.slot_int_rmul (typeIs_int s k t) F.entry_int_rmul (F.args_int_rmul_2 _ _) (int_rmul_tuple k t l as.toArray n dd sl)
      ⟨ho, rfl, ⟨_, ho, rfl⟩, call_meets F.slot_tuple_mul ⟨_, ho, rfl⟩ F.entry_tuple_mul (F.args_tuple_mul_2 _ _) (tuple_mulW l as.toArray n dd sl k t
        (by rw [decide_eq_false (by omega), decide_eq_false (by omega)] <;> rfl)
        (by rw [hi, Bool.false_or]; exact beq_eq_false_iff_ne.mpr (by omega))
        (by rw [hi, Bool.or_false]; exact decide_eq_false (by omega)) (by omega)
        (by unfold Builtin.Tuple.tupleTooMany; rw [sizeLine_eq]; exact decide_eq_false (by omega))
        (by rw [size_rep, List.size_toArray]; exact flen)) ⟨ho, ?_⟩⟩)
  rw [size_rep]
  exact ⟨.ref s.heap.objs.size, _, laidT (t' := s.toks) I (r.rep k.toNat) (by rw [PyProof.Rows.lm_len_rep_flat, sizeLine_eq]; omega), rfl, q _ _ (I.hok.fresh (Nat.le_refl _)) rfl⟩
end
end TN
namespace TN
open PySem PySem.Spec PyProof.Rows L2
inductive D where
  | non | bl (b : Bool) | int (i : Int) | str (x : Str)
  | tup (xs : List D) | wtup (xs : List D) | lst (xs : List D) | scr (xs : List Int) | dct | dic (ks : List Int) (vs : List D) | dil (ks : List Int) (vs : List D)
  | obj (c : Nat) (fs : List D) | ty (n : String) | cls (c : Nat)
  deriving Inhabited
abbrev Cl := Nat → Addr × List Str
def Ex (H H' : Hp) : Prop := ∀ a o, H a = some o → H' a = some o
theorem Ex.refl (H : Hp) : Ex H H := fun _ _ h => h
theorem Ex.trans {H H1 H2 : Hp} (a : Ex H H1) (b : Ex H1 H2) : Ex H H2 := fun x o h => b x o (a x o h)
theorem Ex.new {H : Hp} {p : Addr} {o : HO} (h : H p = none) : Ex H (upd H p o) := fun a u e => by
  rw [upd_ne (ne_of_none e h)]
  exact e
theorem Ex.newR {H H' : Hp} {p : Addr} {o : HO} (e : Ex H H') (h : H p = none) : Ex H (upd H' p o) := fun a u ha => by
  rw [upd_ne (ne_of_none ha h)]
  exact e a u ha
theorem Ex.both {G H : Hp} {p : Addr} {o : HO} (e : Ex G H) : Ex (upd G p o) (upd H p o) := fun a u ha => by
  by_cases q : a = p
  · subst q; rw [upd_same] at ha ⊢; exact ha
  · rw [upd_ne q] at ha ⊢; exact e a u ha
theorem Ex.put {G H : Hp} {p : Addr} {o : HO} (e : Ex G H) (h : H p = some o) : Ex (upd G p o) H := fun a u ha => by
  by_cases q : a = p
  · subst q; rw [upd_same] at ha; rw [h]; exact ha
  · rw [upd_ne q] at ha; exact e a u ha
theorem Ex.nn {G H : Hp} {p : Addr} (e : Ex G H) (h : H p = none) : G p = none := by
  cases q : G p with
  | none => rfl
  | some o => rw [e p o q] at h; cases h
theorem ex_t {K : PySem.W.Frag} {H H' : Hp} {a : Addr} {xs : List V} (e : Ex H H') (h : SqT K H a xs) : SqT K H' a xs := by
  rcases h with (h | ⟨o, h⟩) | h
  · exact .inl (.inl (e a _ h))
  · exact .inl (.inr ⟨o, e a _ h⟩)
  · exact .inr h
theorem ex_x {K : PySem.W.Frag} {H H' : Hp} {a : Addr} {xs : List V} (e : Ex H H') (h : TupX K H a xs) : TupX K H' a xs := by
  rcases h with ⟨o, h, d⟩ | h
  · exact .inl ⟨o, e a _ h, d⟩
  · exact .inr h
theorem ex_l {K : PySem.W.Frag} {H H' : Hp} {a : Addr} {xs : List V} (e : Ex H H') (h : SqL K H a xs) : SqL K H' a xs := by
  rcases h with (h | ⟨o, h⟩) | h
  · exact .inl (.inl (e a _ h))
  · exact .inl (.inr ⟨o, e a _ h⟩)
  · exact .inr h
def dkv (ks : List Int) (vs : List V) : List (Key × V) := (ks.map Sum.inl).zip vs
mutual
inductive Is (K : PySem.W.Frag) (cl : Cl) (G : Hp) : V → D → Prop
  | non : Is K cl G .non .non
  | bl (b : Bool) : Is K cl G (.bl b) (.bl b)
  | int (i : Int) : Is K cl G (.int i) (.int i)
  | str (x : Str) : Is K cl G (.str x) (.str x)
  | tup {a : Addr} {vs : List V} {ds : List D} : TupX K G a vs → IsA K cl G vs ds → Is K cl G (.ref a) (.tup ds)
  | wtup {a : Addr} {vs : List V} {ds : List D} : SqT K G a vs → IsA K cl G vs ds → Is K cl G (.ref a) (.wtup ds)
  | lst {a : Addr} {vs : List V} {ds : List D} : G a = some (.lst vs) → IsA K cl G vs ds → Is K cl G (.ref a) (.lst ds)
  | scr {a : Addr} {ns : List Int} : SqL K G a (ns.map V.int) → Is K cl G (.ref a) (.scr ns)
  | dct {a : Addr} : G a = some (.dK []) → Is K cl G (.ref a) .dct
  | dic {a : Addr} {ks : List Int} {vs : List V} {ds : List D} : G a = some (.dK (dkv ks vs)) → ks.length = vs.length → ks.Nodup → IsA K cl G vs ds → Is K cl G (.ref a) (.dic ks ds)
  | dil {a : Addr} {ks : List Int} {vs : List V} {ds : List D} {o : Obj} : G a = some (.frz o (.dK (dkv ks vs))) → ks.length = vs.length → ks.Nodup → IsA K cl G vs ds → Is K cl G (.ref a) (.dil ks ds)
  | ty (n : String) : Is K cl G (.ty n) (.ty n)
  | cls (c : Nat) : Is K cl G (.ref (cl c).1) (.cls c)
  | obj {a dx : Addr} {c : Nat} {fs : List (Str × V)} {vs : List V} {ds : List D} : G a = some (.ins (cl c).1 dx fs) → fs.map (·.1) = (cl c).2 → fs.map (·.2) = vs → IsA K cl G vs ds → Is K cl G (.ref a) (.obj c ds)
inductive IsA (K : PySem.W.Frag) (cl : Cl) (G : Hp) : List V → List D → Prop
  | nil : IsA K cl G [] []
  | cons {v : V} {vs : List V} {d : D} {ds : List D} : Is K cl G v d → IsA K cl G vs ds → IsA K cl G (v :: vs) (d :: ds)
end
section
variable {K : PySem.W.Frag} {cl : Cl} {G G' : Hp}
mutual
theorem Is.mono (e : Ex G G') : ∀ {v : V} {d : D}, Is K cl G v d → Is K cl G' v d
  | _, _, .non => .non
  | _, _, .bl b => .bl b
  | _, _, .int i => .int i
  | _, _, .str x => .str x
  | _, _, .tup h a => .tup (ex_x e h) (IsA.mono e a)
  | _, _, .wtup h a => .wtup (ex_t e h) (IsA.mono e a)
  | _, _, .lst h a => .lst (e _ _ h) (IsA.mono e a)
  | _, _, .scr h => .scr (ex_l e h)
  | _, _, .dct h => .dct (e _ _ h)
  | _, _, .dic h l n a => .dic (e _ _ h) l n (IsA.mono e a)
  | _, _, .dil h l n a => .dil (e _ _ h) l n (IsA.mono e a)
  | _, _, .ty n => .ty n
  | _, _, .cls c => .cls c
  | _, _, .obj h n m a => .obj (e _ _ h) n m (IsA.mono e a)
theorem IsA.mono (e : Ex G G') : ∀ {vs : List V} {ds : List D}, IsA K cl G vs ds → IsA K cl G' vs ds
  | _, _, .nil => .nil
  | _, _, .cons h t => .cons (Is.mono e h) (IsA.mono e t)
end
theorem IsA.length : ∀ {vs : List V} {ds : List D}, IsA K cl G vs ds → vs.length = ds.length
  | _, _, .nil => rfl
  | _, _, .cons _ t => congrArg (· + 1) t.length
theorem IsA.get : ∀ {vs : List V} {ds : List D} {i : Nat} {d : D}, IsA K cl G vs ds → ds[i]? = some d → ∃ v, vs[i]? = some v ∧ Is K cl G v d
  | _, _, _, _, .nil, e => by simp at e
  | _, _, 0, _, .cons h _, e => by simp at e; subst e; exact ⟨_, rfl, h⟩
  | _, _, i + 1, _, .cons _ t, e => by
    obtain ⟨v, h1, h2⟩ := IsA.get (i := i) t (by simpa using e)
    exact ⟨v, by simpa using h1, h2⟩
theorem IsA.get' : ∀ {vs : List V} {ds : List D} {i : Nat} {v : V}, IsA K cl G vs ds → vs[i]? = some v → ∃ d, ds[i]? = some d ∧ Is K cl G v d
  | _, _, _, _, .nil, e => by simp at e
  | _, _, 0, _, .cons h _, e => by simp at e; subst e; exact ⟨_, rfl, h⟩
  | _, _, i + 1, _, .cons _ t, e => by
    obtain ⟨v, h1, h2⟩ := IsA.get' (i := i) t (by simpa using e)
    exact ⟨v, by simpa using h1, h2⟩
theorem IsA.append : ∀ {vs ws : List V} {ds es : List D}, IsA K cl G vs ds → IsA K cl G ws es → IsA K cl G (vs ++ ws) (ds ++ es)
  | _, _, _, _, .nil, h => h
  | _, _, _, _, .cons h t, k => .cons h (IsA.append t k)
theorem IsA.take : ∀ {vs : List V} {ds : List D} (n : Nat), IsA K cl G vs ds → IsA K cl G (vs.take n) (ds.take n)
  | _, _, 0, _ => .nil
  | _, _, _ + 1, .nil => .nil
  | _, _, n + 1, .cons h t => .cons h (IsA.take n t)
theorem IsA.drop : ∀ {vs : List V} {ds : List D} (n : Nat), IsA K cl G vs ds → IsA K cl G (vs.drop n) (ds.drop n)
  | _, _, 0, h => h
  | _, _, _ + 1, .nil => .nil
  | _, _, n + 1, .cons _ t => IsA.drop n t
theorem IsA.reverse {vs : List V} {ds : List D} (h : IsA K cl G vs ds) : IsA K cl G vs.reverse ds.reverse := by
  induction vs generalizing ds with
  | nil => cases h; exact .nil
  | cons v vs ih =>
    cases h with
    | cons a b => rw [List.reverse_cons, List.reverse_cons]; exact (ih b).append (.cons a .nil)
theorem IsA.set {v : V} {d : D} (h : Is K cl G v d) : ∀ {vs : List V} {ds : List D} (i : Nat), IsA K cl G vs ds → IsA K cl G (vs.set i v) (ds.set i d)
  | _, _, _, .nil => .nil
  | _, _, 0, .cons _ t => .cons h t
  | _, _, i + 1, .cons a t => .cons a (IsA.set h i t)
theorem IsA.eraseIdx : ∀ {vs : List V} {ds : List D} (i : Nat), IsA K cl G vs ds → IsA K cl G (vs.eraseIdx i) (ds.eraseIdx i)
  | _, _, _, .nil => .nil
  | _, _, 0, .cons _ t => t
  | _, _, i + 1, .cons h t => .cons h (IsA.eraseIdx i t)
theorem IsA.rep {vs : List V} {ds : List D} (h : IsA K cl G vs ds) : ∀ k : Nat, IsA K cl G (List.replicate k vs).flatten (List.replicate k ds).flatten
  | 0 => .nil
  | k + 1 => by rw [List.replicate_succ, List.replicate_succ, List.flatten_cons, List.flatten_cons]; exact h.append (h.rep k)
theorem IsA.ints : ∀ {vs : List V} {ns : List Int}, IsA K cl G vs (ns.map D.int) → vs = ns.map V.int
  | _, [], .nil => rfl
  | _, n :: ns, .cons h t => by
    cases h
    rw [IsA.ints t]; rfl
theorem IsA.ofInts : ∀ (ns : List Int), IsA K cl G (ns.map V.int) (ns.map D.int)
  | [] => .nil
  | n :: ns => .cons (.int n) (IsA.ofInts ns)
theorem IsA.bls : ∀ {vs : List V} {bs : List Bool}, IsA K cl G vs (bs.map D.bl) → vs = bs.map V.bl
  | _, [], .nil => rfl
  | _, n :: ns, .cons h t => by
    cases h
    rw [IsA.bls t]; rfl
end
structure Z where
  K : PySem.W.Frag
  cl : Cl
  
  xc : Nat → Value
  
  xn : Nat → Option Str
  G0 : Hp
  H0 : Hp
  M : Option Addr
  
  Ts : List (Addr × Str)
  
  cv : Nat → Addr → Addr → HO
  
  cq : Str
inductive Sl where
  | no | val (d : D) | own (xs : List D) | par (xs : List D) | odc (ks : List Int) (vs : List D) | clo (k : Nat)
def Sl.ow : Sl → Bool
  | .own _ => true
  | .par _ => true
  | .odc _ _ => true
  | _ => false
abbrev Ev := List Sl
structure Fr (z : Z) (G H : Hp) : Prop where
  exG : Ex G H
  g0 : Ex z.G0 G
  gn : ∀ a, G a ≠ none → z.G0 a ≠ none ∨ z.H0 a = none
  fr : ∀ a o, z.H0 a = some o → (∀ p ∈ z.Ts, p.1 ≠ a) → z.M ≠ some a → H a = some o
  mm : ∀ a, z.M = some a → (∃ vs, H a = some (.lst vs)) ∧ G a = none
  m0 : ∀ a, z.M = some a → z.H0 a ≠ none
  tb : LamX.Tabs z.Ts H
  t1 : ∀ p ∈ z.Ts, z.H0 p.1 ≠ none ∧ z.G0 p.1 = none
def SlOk (z : Z) (T G H : Hp) (o : Option V) : Sl → Prop
  | .no => True
  | .val d => ∃ v, o = some v ∧ Is z.K z.cl G v d
  | .own xs => ∃ p vs, o = some (.ref p) ∧ G p = none ∧ T p = none ∧ z.H0 p = none ∧ H p = some (.lst vs) ∧ IsA z.K z.cl G vs xs
  | .par xs => ∃ p vs, o = some (.ref p) ∧ T p = none ∧ z.M = some p ∧ H p = some (.lst vs) ∧ IsA z.K z.cl G vs xs
  | .odc ks xs => ∃ p vs, o = some (.ref p) ∧ G p = none ∧ T p = none ∧ z.H0 p = none ∧ H p = some (.dK (dkv ks vs)) ∧ ks.length = vs.length ∧ ks.Nodup ∧ IsA z.K z.cl G vs xs
  | .clo k => ∃ p c', o = some (.ref p) ∧ G p = some (z.cv k p c') ∧ (G c' = some (LamX.CodeO c' z.cq) ∨ z.H0 c' = some (LamX.CodeO c' z.cq) ∧ (∀ q ∈ z.Ts, q.1 ≠ c') ∧ z.M ≠ some c')
def Ow (env : Ev) (σ : L2.St) (i : Nat) (p : Addr) : Prop := (∃ s, env[i]? = some s ∧ s.ow = true) ∧ σ[i]?.join = some (.ref p)
structure Rep (z : Z) (T G H : Hp) (env : Ev) (σ : L2.St) : Prop where
  f : Fr z G H
  len : env.length = σ.length
  sl : ∀ (i : Nat) (s : Sl), env[i]? = some s → SlOk z T G H (σ[i]?.join) s
  dis : ∀ i j p, Ow env σ i p → Ow env σ j p → i = j
  exT : Ex T H
  gt : ∀ a, T a ≠ none → G a = none
  t0 : ∀ a, T a ≠ none → z.H0 a = none
section
variable {z : Z} {T G G' H H' : Hp} {env env' : Ev} {σ : L2.St} {p : Addr} {o : HO}
theorem Fr.gT (f : Fr z G H) : ∀ p ∈ z.Ts, G p.1 = none := fun p hp => by
  cases q : G p.1 with
  | none => rfl
  | some o =>
    rcases f.gn p.1 (by rw [q]; intro w; cases w) with h | h
    · exact absurd (f.t1 p hp).2 h
    · exact absurd h (f.t1 p hp).1
theorem Fr.nt0 (f : Fr z G H) {a : Addr} (h : z.H0 a = none) : ∀ q ∈ z.Ts, q.1 ≠ a := fun q hq e => (f.t1 q hq).1 (e ▸ h)
theorem Fr.ntH (f : Fr z G H) {a : Addr} (h : ∀ ps, H a ≠ some (.tbl ps)) : ∀ q ∈ z.Ts, q.1 ≠ a := fun q hq e => by
  obtain ⟨ps, e1, _⟩ := f.tb q hq
  exact h ps (e ▸ e1)
theorem tabs_upd {Ts : List (Addr × Str)} {H : Hp} {p : Addr} {o : HO} (t : LamX.Tabs Ts H) (h1 : ∀ ps, H p ≠ some (.tbl ps)) (h2 : ∀ c q, H p ≠ some (LamX.CodeO c q)) : LamX.Tabs Ts (upd H p o) := fun x hx => by
  obtain ⟨ps, e1, e2, e3⟩ := t x hx
  refine ⟨ps, by rw [upd_ne (fun e : x.1 = p => h1 ps (by rw [← e]; exact e1))]; exact e1, e2, fun pos cv hc => ?_⟩
  obtain ⟨c, a, b⟩ := e3 pos cv hc
  exact ⟨c, a, by rw [upd_ne (fun e : c = p => h2 c x.2 (by rw [← e]; exact b))]; exact b⟩
theorem tabs_N {Ts : List (Addr × Str)} {H : Hp} {p : Addr} {o : HO} (t : LamX.Tabs Ts H) (h : H p = none) : LamX.Tabs Ts (upd H p o) := tabs_upd t (by rw [h]; intro _ e; cases e) (by rw [h]; intro _ _ e; cases e)
theorem tabs_L {Ts : List (Addr × Str)} {H : Hp} {p : Addr} {o : HO} {vs : List V} (t : LamX.Tabs Ts H) (h : H p = some (.lst vs)) : LamX.Tabs Ts (upd H p o) := tabs_upd t (by rw [h]; intro _ e; cases e) (by rw [h]; intro _ _ e; unfold LamX.CodeO at e; cases e)
theorem tabs_K {Ts : List (Addr × Str)} {H : Hp} {p : Addr} {o : HO} {kv : List (Key × V)} (t : LamX.Tabs Ts H) (h : H p = some (.dK kv)) : LamX.Tabs Ts (upd H p o) := tabs_upd t (by rw [h]; intro _ e; cases e) (by rw [h]; intro _ _ e; unfold LamX.CodeO at e; cases e)
theorem Fr.nn (f : Fr z G H) (h : H p = none) : G p = none ∧ z.H0 p = none ∧ z.M ≠ some p := by
  have hm : z.M ≠ some p := fun e => by obtain ⟨⟨vs, q⟩, _⟩ := f.mm p e; rw [h] at q; cases q
  refine ⟨f.exG.nn h, ?_, hm⟩
  cases q : z.H0 p with
  | none => rfl
  | some o => rw [f.fr p o q (f.ntH (by rw [h]; intro _ e; cases e)) hm] at h; cases h
theorem Rep.nn (r : Rep z T G H env σ) (h : H p = none) : G p = none ∧ T p = none ∧ z.H0 p = none ∧ z.M ≠ some p ∧ ∀ i, ¬ Ow env σ i p := by
  obtain ⟨h1, h2, h3⟩ := r.f.nn h
  refine ⟨h1, r.exT.nn h, h2, h3, fun i ⟨⟨s, es, os⟩, ep⟩ => ?_⟩
  have q := r.sl i s es
  rw [ep] at q
  cases s with
  | no => cases os
  | val d => cases os
  | own xs => obtain ⟨p', vs, e, _, _, _, q', _⟩ := q; cases e; rw [h] at q'; cases q'
  | par xs => obtain ⟨p', vs, e, _, _, q', _⟩ := q; cases e; rw [h] at q'; cases q'
  | odc ks xs => obtain ⟨p', vs, e, _, _, _, q', _⟩ := q; cases e; rw [h] at q'; cases q'
  | clo k => cases os
theorem Rep.own (r : Rep z T G H env σ) {i : Nat} (hi : Ow env σ i p) : ∃ o, G p = none ∧ T p = none ∧ H p = some o := by
  obtain ⟨⟨s, es, os⟩, ep⟩ := hi
  have q := r.sl i s es
  rw [ep] at q
  cases s with
  | no => cases os
  | val d => cases os
  | own xs => obtain ⟨p', vs, e, g, t, _, q', _⟩ := q; cases e; exact ⟨_, g, t, q'⟩
  | par xs => obtain ⟨p', vs, e, t, m, q', _⟩ := q; cases e; exact ⟨_, (r.f.mm p m).2, t, q'⟩
  | odc ks xs => obtain ⟨p', vs, e, g, t, _, q', _⟩ := q; cases e; exact ⟨_, g, t, q'⟩
  | clo k => cases os
theorem Rep.ownT (r : Rep z T G H env σ) {i : Nat} (hi : Ow env σ i p) : ∀ q ∈ z.Ts, q.1 ≠ p := by
  obtain ⟨⟨s, es, os⟩, ep⟩ := hi
  have q := r.sl i s es
  rw [ep] at q
  refine r.f.ntH fun ps w => ?_
  cases s with
  | no => cases os
  | val d => cases os
  | own xs => obtain ⟨p', vs, e, g, t, _, q', _⟩ := q; cases e; rw [q'] at w; cases w
  | par xs => obtain ⟨p', vs, e, t, m, q', _⟩ := q; cases e; rw [q'] at w; cases w
  | odc ks xs => obtain ⟨p', vs, e, g, t, _, q', _⟩ := q; cases e; rw [q'] at w; cases w
  | clo k => cases os
theorem SlOk.to {o : Option V} {s : Sl} (k : SlOk z T G H o s) (e : Ex G G') (ow : ∀ q, s.ow = true → o = some (.ref q) → H' q = H q ∧ (z.M ≠ some q → G' q = Option.none)) (hm : ∀ a, z.M = some a → z.H0 a ≠ Option.none) : SlOk z T G' H' o s := by
  cases s with
  | no => trivial
  | val d => obtain ⟨v, e1, h⟩ := k; exact ⟨v, e1, h.mono e⟩
  | own xs =>
    obtain ⟨q, vs, e1, g, t, h0, h, a⟩ := k
    obtain ⟨w1, w2⟩ := ow q rfl e1
    exact ⟨q, vs, e1, w2 (fun m => hm q m h0), t, h0, w1.trans h, a.mono e⟩
  | par xs =>
    obtain ⟨q, vs, e1, t, m, h, a⟩ := k
    obtain ⟨w1, w2⟩ := ow q rfl e1
    exact ⟨q, vs, e1, t, m, w1.trans h, a.mono e⟩
  | odc ks xs =>
    obtain ⟨q, vs, e1, g, t, h0, h, l, n, a⟩ := k
    obtain ⟨w1, w2⟩ := ow q rfl e1
    exact ⟨q, vs, e1, w2 (fun m => hm q m h0), t, h0, w1.trans h, l, n, a.mono e⟩
  | clo j => obtain ⟨q, c', e1, h1, h2⟩ := k; exact ⟨q, c', e1, e _ _ h1, h2.imp (e _ _) id⟩
end
inductive R where
  | d (d : D) | at_ (i : Nat) | new (xs : List D)
inductive Out (α : Type) where
  | ok (a : α) | exc (c : Nat) (d : D) | no
def Out.bind {α β : Type} (x : Out α) (k : α → Out β) : Out β := match x with
  | .ok a => k a
  | .exc c d => .exc c d
  | .no => .no
instance : Monad Out where
  pure := .ok
  bind := Out.bind
abbrev F := Ev → Out (R × Ev)
def VR (z : Z) (T G H : Hp) (env : Ev) (σ : L2.St) (v : V) : R → Prop
  | .d d => Is z.K z.cl G v d
  | .at_ i => σ[i]?.join = some v
  | .new xs => ∃ p vs, v = .ref p ∧ H p = some (.lst vs) ∧ IsA z.K z.cl G vs xs ∧ G p = none ∧ T p = none ∧ z.H0 p = none ∧ z.M ≠ some p ∧ ∀ i, ¬ Ow env σ i p
def XP (z : Z) (c : Nat) (d : D) (H' : Hp) (x : Option Addr) : Prop := ∃ G', Fr z G' H' ∧ match z.xn c with
  | none => x = none
  | some n => ∃ dd v, x = some dd ∧ H' dd = some (.xd [(n, v)]) ∧ Is z.K z.cl G' v d
def PX (z : Z) (E : XK) (c : Nat) (d : D) : Prop := ∀ H' x, XP z c d H' x → E (z.xc c) x H'
def Pg {α : Type} (z : Z) (E : XK) (C : α → Prop) : Out α → Prop
  | .ok a => C a
  | .exc c d => PX z E c d
  | .no => False
theorem Pg.bind {α β : Type} {z : Z} {E : XK} {C : β → Prop} {k : α → Out β} : ∀ {x : Out α}, Pg z E C (x.bind k) → Pg z E (fun a => Pg z E C (k a)) x
  | .ok _, h => h
  | .exc _ _, h => h
  | .no, h => h
theorem Pg.imp {α : Type} {z : Z} {E : XK} {C C' : α → Prop} : ∀ {x : Out α}, Pg z E C x → (∀ a, C a → C' a) → Pg z E C' x
  | .ok _, h, f => f _ h
  | .exc _ _, h, _ => h
  | .no, h, _ => h
abbrev CR (z : Z) (T : Hp) (σ : L2.St) (G : Hp) (Q : VK) : R × Ev → Prop := fun p => ∀ v H' G', Rep z T G' H' p.2 σ → Ex G G' → VR z T G' H' p.2 σ v p.1 → Q v H'
def tE (z : Z) (E : XK) (f : F) : TE := fun σ H Q => ∃ T G env, Rep z T G H env σ ∧ Pg z E (CR z T σ G Q) (f env)
abbrev CB (z : Z) (T : Hp) (σ : L2.St) (G : Hp) (Q : Bool → Hp → Prop) : Bool × Ev → Prop := fun p => ∀ H' G', Rep z T G' H' p.2 σ → Ex G G' → Q p.1 H'
abbrev FB := Ev → Out (Bool × Ev)
def tT (z : Z) (E : XK) (f : FB) : TT := fun σ H Q => ∃ T G env, Rep z T G H env σ ∧ Pg z E (CB z T σ G Q) (f env)
def VRs (z : Z) (T G H : Hp) (env : Ev) (σ : L2.St) : List V → List R → Prop
  | [], [] => True
  | v :: vs, r :: rs => (VR z T G H env σ v r ∧ ∀ xs, r ≠ .new xs) ∧ VRs z T G H env σ vs rs
  | _, _ => False
abbrev CA (z : Z) (T : Hp) (σ : L2.St) (G : Hp) (Q : List V → Hp → Prop) : List R × Ev → Prop := fun p => ∀ vs H' G', Rep z T G' H' p.2 σ → Ex G G' → VRs z T G' H' p.2 σ vs p.1 → Q vs H'
abbrev FA := Ev → Out (List R × Ev)
def tAr (z : Z) (E : XK) (f : FA) : TA := fun σ H Q => ∃ T G env, Rep z T G H env σ ∧ Pg z E (CA z T σ G Q) (f env)
inductive Fl where
  | nx | ret (r : R)
def CS (z : Z) (T : Hp) (G : Hp) (D : Ends) : Fl × Ev → Prop := fun p => match p.1 with
  | .nx => ∀ σ' H' G', Rep z T G' H' p.2 σ' → Ex G G' → D.nx σ' H'
  | .ret r => ∀ v σ' H' G', Rep z T G' H' p.2 σ' → Ex G G' → VR z T G' H' p.2 σ' v r → D.rt v H'
abbrev S := Ev → Out (Fl × Ev)
def tS (z : Z) (E : XK) (g : S) : TS := fun D σ H => ∃ T G env, Rep z T G H env σ ∧ Pg z E (CS z T G D) (g env)
section
variable {z : Z} {T G G' H H' : Hp} {env env' : Ev} {σ : L2.St} {p : Addr} {o : HO} {v : V} {r : R}
theorem getElem?_lt {α : Type} {l : List α} {i : Nat} {x : α} (h : l[i]? = some x) : i < l.length := (List.getElem?_eq_some_iff.mp h).1
theorem Rep.to (r : Rep z T G H env σ) (f : Fr z G' H') (e : Ex G G') (hT : Ex T H') (hg : ∀ a, T a ≠ none → G' a = none)
    (ow : ∀ i q, Ow env σ i q → H' q = H q ∧ (z.M ≠ some q → G' q = none)) : Rep z T G' H' env σ :=
  ⟨f, r.len, fun i s es => (r.sl i s es).to e (fun q os eq => ow i q ⟨⟨s, es, os⟩, eq⟩) f.m0, r.dis, hT, hg, r.t0⟩
theorem Fr.grow (f : Fr z G H) (h : H p = none) : Fr z (upd G p o) (upd H p o) := by
  obtain ⟨n1, n2, n3⟩ := f.nn h
  refine ⟨f.exG.both, f.g0.newR (by cases q : z.G0 p with | none => rfl | some u => rw [f.g0 p u q] at n1; cases n1), fun a ha => ?_, fun a u ha ht hm => ?_, fun a ha => ?_, f.m0, tabs_N f.tb h, f.t1⟩
  · by_cases q : a = p
    · subst q; exact .inr n2
    · rw [upd_ne q] at ha; exact f.gn a ha
  · rw [upd_ne (fun q => by subst q; rw [n2] at ha; cases ha)]; exact f.fr a u ha ht hm
  · have q : a ≠ p := fun q => n3 (q ▸ ha)
    rw [upd_ne q, upd_ne q]; exact f.mm a ha
theorem Fr.alloc (f : Fr z G H) (h : H p = none) : Fr z G (upd H p o) := by
  obtain ⟨n1, n2, n3⟩ := f.nn h
  refine ⟨f.exG.newR n1, f.g0, f.gn, fun a u ha ht hm => ?_, fun a ha => ?_, f.m0, tabs_N f.tb h, f.t1⟩
  · rw [upd_ne (fun q => by subst q; rw [n2] at ha; cases ha)]; exact f.fr a u ha ht hm
  · have q : a ≠ p := fun q => n3 (q ▸ ha)
    rw [upd_ne q]; exact f.mm a ha
theorem Fr.freeze (f : Fr z G H) (h : H p = some o) (g : G p = none) (h0 : z.H0 p = none) (hm : z.M ≠ some p) : Fr z (upd G p o) H := by
  refine ⟨f.exG.put h, f.g0.newR (by cases q : z.G0 p with | none => rfl | some u => rw [f.g0 p u q] at g; cases g), fun a ha => ?_, f.fr, fun a ha => ?_, f.m0, f.tb, f.t1⟩
  · by_cases q : a = p
    · subst q; exact .inr h0
    · rw [upd_ne q] at ha; exact f.gn a ha
  · have q : a ≠ p := fun q => hm (q ▸ ha)
    rw [upd_ne q]; exact f.mm a ha
theorem Rep.grow (r : Rep z T G H env σ) (h : H p = none) : Rep z T (upd G p o) (upd H p o) env σ := by
  obtain ⟨n1, n2, n3, n4, n5⟩ := r.nn h
  refine r.to (r.f.grow h) (Ex.new n1) (r.exT.newR n2) (fun a ha => ?_) fun i q hq => ?_
  · rw [upd_ne (fun e => ha (by rw [e]; exact n2))]; exact r.gt a ha
  · have qp : q ≠ p := fun e => n5 i (e ▸ hq)
    rw [upd_ne qp, upd_ne qp]
    obtain ⟨vs, g, _⟩ := r.own hq
    exact ⟨rfl, fun _ => g⟩
theorem Rep.alloc (r : Rep z T G H env σ) (h : H p = none) : Rep z T G (upd H p o) env σ := by
  obtain ⟨n1, n2, n3, n4, n5⟩ := r.nn h
  refine r.to (r.f.alloc h) (Ex.refl G) (r.exT.newR n2) r.gt fun i q hq => ?_
  have qp : q ≠ p := fun e => n5 i (e ▸ hq)
  rw [upd_ne qp]
  obtain ⟨vs, g, _⟩ := r.own hq
  exact ⟨rfl, fun _ => g⟩
theorem Rep.freeze (r : Rep z T G H env σ) (h : H p = some o) (g : G p = none) (t : T p = none) (h0 : z.H0 p = none) (hm : z.M ≠ some p) (no : ∀ i, ¬ Ow env σ i p) : Rep z T (upd G p o) H env σ := by
  refine r.to (r.f.freeze h g h0 hm) (Ex.new g) r.exT (fun a ha => ?_) fun i q hq => ?_
  · rw [upd_ne (fun e => ha (by rw [e]; exact t))]; exact r.gt a ha
  · have qp : q ≠ p := fun e => no i (e ▸ hq)
    rw [upd_ne qp]
    obtain ⟨vs, g, _⟩ := r.own hq
    exact ⟨rfl, fun _ => g⟩
theorem Ow.of_set {i j : Nat} {s : Sl} (h : Ow (env.set i s) σ j p) (hs : s.ow = true → ∃ s', env[i]? = some s' ∧ s'.ow = true) : Ow env σ j p := by
  obtain ⟨⟨s1, e1, o1⟩, e2⟩ := h
  by_cases q : i = j
  · subst q
    by_cases hi : i < env.length
    · rw [List.getElem?_set_self hi] at e1
      cases e1
      exact ⟨hs o1, e2⟩
    · rw [List.getElem?_eq_none (by rw [List.length_set]; omega)] at e1; cases e1
  · rw [List.getElem?_set_ne q] at e1
    exact ⟨⟨s1, e1, o1⟩, e2⟩
theorem Rep.mut (r : Rep z T G H env σ) {i : Nat} {s : Sl} {vs : List V} {xs : List D} (hi : Ow env σ i p) (hs : s = .own xs ∧ (∃ ys, env[i]? = some (.own ys)) ∨ s = .par xs ∧ ∃ ys, env[i]? = some (.par ys)) (a : IsA z.K z.cl G vs xs) :
    Rep z T G (upd H p (.lst vs)) (env.set i s) σ := by
  obtain ⟨ws, g, t, hp⟩ := r.own hi
  have nm : z.H0 p = none ∨ z.M = some p := by
    obtain ⟨⟨s1, e1, o1⟩, e2⟩ := hi
    have q := r.sl i s1 e1
    rw [e2] at q
    cases s1 with
    | no => cases o1
    | val d => cases o1
    | own xs => obtain ⟨p', vs, e, _, _, h0, _⟩ := q; cases e; exact .inl h0
    | par xs => obtain ⟨p', vs, e, _, m, _⟩ := q; cases e; exact .inr m
    | odc ks xs => obtain ⟨p', vs, e, _, _, h0, _⟩ := q; cases e; exact .inl h0
    | clo k => cases o1
  have sow : s.ow = true := by rcases hs with ⟨e, _⟩ | ⟨e, _⟩ <;> (subst e; rfl)
  have hL : ∃ us, H p = some (.lst us) := by
    rcases hs with ⟨_, ys, ey⟩ | ⟨_, ys, ey⟩
    · have q := r.sl i _ ey
      rw [hi.2] at q
      obtain ⟨p', us, e, _, _, _, h1, _⟩ := q
      cases e
      exact ⟨us, h1⟩
    · have q := r.sl i _ ey
      rw [hi.2] at q
      obtain ⟨p', us, e, _, _, h1, _⟩ := q
      cases e
      exact ⟨us, h1⟩
  have hso : s.ow = true → ∃ s', env[i]? = some s' ∧ s'.ow = true := fun _ => hi.1
  refine ⟨⟨r.f.exG.newR g, r.f.g0, r.f.gn, fun a u ha ht hm => ?_, fun a ha => ?_, r.f.m0, tabs_L r.f.tb hL.choose_spec, r.f.t1⟩, by rw [List.length_set]; exact r.len, fun j s1 e1 => ?_, fun j k q h1 h2 => r.dis j k q (h1.of_set hso) (h2.of_set hso), r.exT.newR t, r.gt, r.t0⟩
  · rw [upd_ne (fun q => by
      subst q
      rcases nm with h0 | m
      · rw [h0] at ha; cases ha
      · exact hm m)]
    exact r.f.fr a u ha ht hm
  · by_cases q : a = p
    · subst q; rw [upd_same]; exact ⟨⟨vs, rfl⟩, g⟩
    · rw [upd_ne q]; exact r.f.mm a ha
  · by_cases q : i = j
    · subst q
      rw [List.getElem?_set_self (by obtain ⟨⟨s1, e1, _⟩, _⟩ := hi; exact getElem?_lt e1)] at e1
      cases e1
      have e2 := hi.2
      rcases hs with ⟨rfl, ys, ey⟩ | ⟨rfl, ys, ey⟩
      · have q := r.sl i _ ey
        rw [e2] at q ⊢
        obtain ⟨p', vs', e, g', t', h0, h1, _⟩ := q
        cases e
        exact ⟨p, vs, rfl, g, t, h0, upd_same, a⟩
      · have q := r.sl i _ ey
        rw [e2] at q ⊢
        obtain ⟨p', vs', e, t', m, h1, _⟩ := q
        cases e
        exact ⟨p, vs, rfl, t, m, upd_same, a⟩
    · rw [List.getElem?_set_ne q] at e1
      refine (r.sl j s1 e1).to (Ex.refl G) (fun q' os eq => ?_) r.f.m0
      have ne : q' ≠ p := fun e => q (r.dis i j p hi ⟨⟨s1, e1, os⟩, e ▸ eq⟩)
      obtain ⟨_, g', _⟩ := r.own (i := j) (p := q') ⟨⟨s1, e1, os⟩, eq⟩
      rw [upd_ne ne]
      exact ⟨rfl, fun _ => g'⟩
theorem Rep.still (r : Rep z T G H env σ) {i : Nat} {xs : List D} (hi : env[i]? = some (.own xs)) : ∃ p vs, σ[i]?.join = some (.ref p) ∧ H p = some (.lst vs) ∧ IsA z.K z.cl G vs xs ∧ G p = none ∧ Rep z T (upd G p (.lst vs)) H (env.set i (.val (.lst xs))) σ := by
  have q := r.sl i _ hi
  obtain ⟨p, vs, e, g, t, h0, h, a⟩ := q
  have how : Ow env σ i p := ⟨⟨_, hi, rfl⟩, e⟩
  have hm : z.M ≠ some p := fun m => r.f.m0 p m h0
  have hso : Sl.ow (.val (.lst xs)) = true → ∃ s', env[i]? = some s' ∧ s'.ow = true := fun z => by cases z
  refine ⟨p, vs, e, h, a, g, r.f.freeze h g h0 hm, by rw [List.length_set]; exact r.len, fun j s1 e1 => ?_, fun j k q h1 h2 => r.dis j k q (h1.of_set hso) (h2.of_set hso), r.exT, fun b hb => ?_, r.t0⟩
  · by_cases q : i = j
    · subst q
      rw [List.getElem?_set_self (getElem?_lt hi)] at e1
      cases e1
      exact ⟨.ref p, e, .lst upd_same (a.mono (Ex.new g))⟩
    · rw [List.getElem?_set_ne q] at e1
      refine (r.sl j s1 e1).to (Ex.new g) (fun q' os eq => ?_) r.f.m0
      have ne : q' ≠ p := fun e' => q (r.dis i j p how ⟨⟨s1, e1, os⟩, e' ▸ eq⟩)
      obtain ⟨_, g', _⟩ := r.own (i := j) (p := q') ⟨⟨s1, e1, os⟩, eq⟩
      rw [upd_ne ne]
      exact ⟨rfl, fun _ => g'⟩
  · rw [upd_ne (fun e' => hb (by rw [e']; exact t))]; exact r.gt b hb
theorem Rep.stillD (r : Rep z T G H env σ) {i : Nat} {ks : List Int} {xs : List D} (hi : env[i]? = some (.odc ks xs)) : ∃ p vs, σ[i]?.join = some (.ref p) ∧ H p = some (.dK (dkv ks vs)) ∧ ks.length = vs.length ∧ ks.Nodup ∧ IsA z.K z.cl G vs xs ∧ G p = none ∧ Rep z T (upd G p (.dK (dkv ks vs))) H (env.set i (.val (.dic ks xs))) σ := by
  have q := r.sl i _ hi
  obtain ⟨p, vs, e, g, t, h0, h, l, n, a⟩ := q
  have how : Ow env σ i p := ⟨⟨_, hi, rfl⟩, e⟩
  have hm : z.M ≠ some p := fun m => r.f.m0 p m h0
  have hso : Sl.ow (.val (.dic ks xs)) = true → ∃ s', env[i]? = some s' ∧ s'.ow = true := fun z => by cases z
  refine ⟨p, vs, e, h, l, n, a, g, r.f.freeze h g h0 hm, by rw [List.length_set]; exact r.len, fun j s1 e1 => ?_, fun j k q h1 h2 => r.dis j k q (h1.of_set hso) (h2.of_set hso), r.exT, fun b hb => ?_, r.t0⟩
  · by_cases q : i = j
    · subst q
      rw [List.getElem?_set_self (getElem?_lt hi)] at e1
      cases e1
      exact ⟨.ref p, e, .dic upd_same l n (a.mono (Ex.new g))⟩
    · rw [List.getElem?_set_ne q] at e1
      refine (r.sl j s1 e1).to (Ex.new g) (fun q' os eq => ?_) r.f.m0
      have ne : q' ≠ p := fun e' => q (r.dis i j p how ⟨⟨s1, e1, os⟩, e' ▸ eq⟩)
      obtain ⟨_, g', _⟩ := r.own (i := j) (p := q') ⟨⟨s1, e1, os⟩, eq⟩
      rw [upd_ne ne]
      exact ⟨rfl, fun _ => g'⟩
  · rw [upd_ne (fun e' => hb (by rw [e']; exact t))]; exact r.gt b hb
theorem Rep.set (r : Rep z T G H env σ) {i : Nat} {s : Sl} (hs : SlOk z T G H (some v) s) (hd : ∀ q, s.ow = true → v = .ref q → ∀ j, ¬ Ow env σ j q) (hi : i < env.length) : Rep z T G H (env.set i s) (σ.set i (some v)) := by
  have hσ : i < σ.length := by rw [← r.len]; exact hi
  have ow : ∀ j q, Ow (env.set i s) (σ.set i (some v)) j q → (j = i ∧ s.ow = true ∧ v = .ref q) ∨ (j ≠ i ∧ Ow env σ j q) := fun j q ⟨⟨s1, e1, o1⟩, e2⟩ => by
    by_cases w : i = j
    · subst w
      rw [List.getElem?_set_self hi] at e1
      rw [List.getElem?_set_self hσ] at e2
      cases e1
      exact .inl ⟨rfl, o1, by simpa using e2⟩
    · rw [List.getElem?_set_ne w] at e1 e2
      exact .inr ⟨Ne.symm w, ⟨s1, e1, o1⟩, e2⟩
  refine ⟨r.f, by rw [List.length_set, List.length_set]; exact r.len, fun j s1 e1 => ?_, fun j k q h1 h2 => ?_, r.exT, r.gt, r.t0⟩
  · by_cases w : i = j
    · subst w
      rw [List.getElem?_set_self hi] at e1
      rw [List.getElem?_set_self hσ]
      cases e1
      exact hs
    · rw [List.getElem?_set_ne w] at e1 ⊢
      exact r.sl j s1 e1
  · rcases ow j q h1 with ⟨e1, o1, v1⟩ | ⟨e1, o1⟩
    · rcases ow k q h2 with ⟨e2, o2, v2⟩ | ⟨e2, o2⟩
      · rw [e1, e2]
      · exact absurd o2 (hd q o1 v1 k)
    · rcases ow k q h2 with ⟨e2, o2, v2⟩ | ⟨e2, o2⟩
      · exact absurd o1 (hd q o2 v2 j)
      · exact r.dis j k q o1 o2
theorem Rep.forget (r : Rep z T G H env σ) {i : Nat} (w : Option V) : Rep z T G H (env.set i .no) (σ.set i w) := by
  have ow : ∀ j q, Ow (env.set i .no) (σ.set i w) j q → j ≠ i ∧ Ow env σ j q := fun j q ⟨⟨s1, e1, o1⟩, e2⟩ => by
    by_cases w : i = j
    · subst w
      by_cases hi : i < env.length
      · rw [List.getElem?_set_self hi] at e1
        cases e1
        cases o1
      · rw [List.getElem?_eq_none (by rw [List.length_set]; omega)] at e1; cases e1
    · rw [List.getElem?_set_ne w] at e1 e2
      exact ⟨Ne.symm w, ⟨s1, e1, o1⟩, e2⟩
  refine ⟨r.f, by rw [List.length_set, List.length_set]; exact r.len, fun j s1 e1 => ?_, fun j k q h1 h2 => r.dis j k q (ow j q h1).2 (ow k q h2).2, r.exT, r.gt, r.t0⟩
  by_cases w' : i = j
  · subst w'
    by_cases hi : i < env.length
    · rw [List.getElem?_set_self hi] at e1
      cases e1
      trivial
    · rw [List.getElem?_eq_none (by rw [List.length_set]; omega)] at e1; cases e1
  · rw [List.getElem?_set_ne w'] at e1 ⊢
    exact r.sl j s1 e1
theorem VR.mono (h : VR z T G H env σ v r) (hn : ∀ xs, r ≠ .new xs) (e : Ex G G') : VR z T G' H' env' σ v r := by
  cases r with
  | d y => exact Is.mono e h
  | at_ i => exact h
  | new xs => exact absurd rfl (hn xs)
def R.opd : R → R
  | .new xs => R.d (.lst xs)
  | .d x => .d x
  | .at_ i => .at_ i
theorem R.opd_nn (r : R) (xs : List D) : r.opd ≠ .new xs := by cases r <;> (intro h; cases h)
theorem VR.opd (h : VR z T G H env σ v r) (p : Rep z T G H env σ) : ∃ G', Rep z T G' H env σ ∧ Ex G G' ∧ VR z T G' H env σ v r.opd := by
  cases r with
  | d y => exact ⟨G, p, Ex.refl G, h⟩
  | at_ i => exact ⟨G, p, Ex.refl G, h⟩
  | new xs =>
    obtain ⟨q, vs, rfl, hq, a, g, t, h0, hm, no⟩ := h
    exact ⟨_, p.freeze hq g t h0 hm no, Ex.new g, .lst upd_same (a.mono (Ex.new g))⟩
def R.der (env : Ev) : R → Option D
  | .d x => some x
  | .at_ i => match env[i]? with
    | some (.val y) => some y
    | some (.own xs) => some (.lst xs)
    | some (.par xs) => some (.lst xs)
    | _ => none
  | .new _ => none
def IsT (K : PySem.W.Frag) (cl : Cl) (G H : Hp) (v : V) (d : D) : Prop := Is K cl G v d ∨ ∃ p vs xs, v = .ref p ∧ d = .lst xs ∧ H p = some (.lst vs) ∧ IsA K cl G vs xs
theorem VR.der {d : D} (h : VR z T G H env σ v r) (p : Rep z T G H env σ) (e : r.der env = some d) : IsT z.K z.cl G H v d := by
  cases r with
  | d y => cases e; exact .inl h
  | at_ i =>
    have h : σ[i]?.join = some v := h
    simp only [R.der] at e
    split at e
    · rename_i d' q
      cases e
      have w := p.sl i _ q
      rw [h] at w
      obtain ⟨v', e1, w⟩ := w
      cases e1
      exact .inl w
    · rename_i xs q
      cases e
      have w := p.sl i _ q
      rw [h] at w
      obtain ⟨q', vs, e1, _, _, _, hq, a⟩ := w
      cases e1
      exact .inr ⟨q', vs, xs, rfl, rfl, hq, a⟩
    · rename_i xs q
      cases e
      have w := p.sl i _ q
      rw [h] at w
      obtain ⟨q', vs, e1, _, _, hq, a⟩ := w
      cases e1
      exact .inr ⟨q', vs, xs, rfl, rfl, hq, a⟩
    · cases e
  | new xs => cases e
def R.fix (env : Ev) : R → Option (D × Ev)
  | .d x => some (x, env)
  | .at_ i => match env[i]? with
    | some (.val y) => some (y, env)
    | some (.own xs) => some (.lst xs, env.set i (.val (.lst xs)))
    | some (.odc ks xs) => some (.dic ks xs, env.set i (.val (.dic ks xs)))
    | _ => none
  | .new _ => none
theorem VR.fix {d : D} (h : VR z T G H env σ v r) (p : Rep z T G H env σ) (e : r.fix env = some (d, env')) : ∃ G', Rep z T G' H env' σ ∧ Ex G G' ∧ Is z.K z.cl G' v d := by
  cases r with
  | d y => cases e; exact ⟨G, p, Ex.refl G, h⟩
  | at_ i =>
    have h : σ[i]?.join = some v := h
    simp only [R.fix] at e
    split at e
    · rename_i d' q
      cases e
      have w := p.sl i _ q
      rw [h] at w
      obtain ⟨v', e1, w⟩ := w
      cases e1
      exact ⟨G, p, Ex.refl G, w⟩
    · rename_i xs q
      cases e
      obtain ⟨q', vs, e1, h1, a, g, p'⟩ := p.still q
      rw [h] at e1
      cases e1
      exact ⟨_, p', Ex.new g, .lst upd_same (a.mono (Ex.new g))⟩
    · rename_i ks xs q
      cases e
      obtain ⟨q', vs, e1, h1, l, n, a, g, p'⟩ := p.stillD q
      rw [h] at e1
      cases e1
      exact ⟨_, p', Ex.new g, .dic upd_same l n (a.mono (Ex.new g))⟩
    · cases e
  | new xs => cases e
def fixAll (env : Ev) : List R → Option (List D × Ev)
  | [] => some ([], env)
  | r :: rs => match r.fix env with
    | some (d, e1) => match fixAll e1 rs with
      | some (ds, e2) => some (d :: ds, e2)
      | none => none
    | none => none
theorem VRs.mono : ∀ {vs : List V} {rs : List R}, VRs z T G H env σ vs rs → Ex G G' → VRs z T G' H' env' σ vs rs
  | [], [], _, _ => trivial
  | _ :: _, _ :: _, ⟨⟨h, n⟩, t⟩, e => ⟨⟨h.mono n e, n⟩, VRs.mono t e⟩
theorem VRs.length : ∀ {vs : List V} {rs : List R}, VRs z T G H env σ vs rs → vs.length = rs.length
  | [], [], _ => rfl
  | _ :: _, _ :: _, ⟨_, t⟩ => congrArg (· + 1) (VRs.length t)
theorem VRs.fix : ∀ {vs : List V} {rs : List R} {ds : List D} {G : Hp} {env env' : Ev}, VRs z T G H env σ vs rs → Rep z T G H env σ → fixAll env rs = some (ds, env') → ∃ G', Rep z T G' H env' σ ∧ Ex G G' ∧ IsA z.K z.cl G' vs ds
  | [], [], _, G, _, _, _, p, e => by cases e; exact ⟨G, p, Ex.refl G, .nil⟩
  | v :: vs, r :: rs, ds, G, env, env', ⟨⟨h, n⟩, t⟩, p, e => by
    unfold fixAll at e
    split at e
    · rename_i d e1 q
      split at e
      · rename_i ds' e2 q2
        cases e
        obtain ⟨G1, p1, x1, h1⟩ := h.fix p q
        obtain ⟨G2, p2, x2, h2⟩ := VRs.fix (t.mono x1) p1 q2
        exact ⟨G2, p2, x1.trans x2, .cons (h1.mono x2) h2⟩
      · cases e
    · cases e
  | [], _ :: _, _, _, _, _, h, _, _ => h.elim
  | _ :: _, [], _, _, _, _, h, _, _ => h.elim
theorem CR.mono {Q : VK} {p : R × Ev} (h : CR z T σ G Q p) (e : Ex G G') : CR z T σ G' Q p := fun v H' G'' a x w => h v H' G'' a (e.trans x) w
end
end TN
namespace TN
open PySem PySem.Spec PyProof.Rows L2
structure OkX (X : Cx) (z : Z) (E : XK) (k : Nat) : Prop where
  K : X.K = z.K
  tk : Takes X (fun c d _ H => E c d H)
  calm : X.calm = true
  nd : X.N.Nodup
  room : Room k X.A
  po : PassesOwn (model X.prog X.w) X.A X.env X.xe
theorem pe_mono {X : Cx} {e : Expr} {t t' : TE} (h : PE X e t) (f : ∀ σ H Q, t' σ H Q → t σ H Q) : PE X e t' := ⟨fun pins s σ H Q I q => h.run pins s σ H Q I (f σ H Q q)⟩
theorem pt_mono {X : Cx} {e : Expr} {t t' : TT} (h : PT X e t) (f : ∀ σ H Q, t' σ H Q → t σ H Q) : PT X e t' := ⟨fun pins s σ H Q I q => h.run pins s σ H Q I (f σ H Q q)⟩
theorem pw_mono {X : Cx} {e : Expr} {t t' : TT} (h : PW X e t) (f : ∀ σ H Q, t' σ H Q → t σ H Q) : PW X e t' := ⟨fun wh pins s σ H Q I q => h.run wh pins s σ H Q I (f σ H Q q)⟩
theorem pa_mono {X : Cx} {e : List Expr} {t t' : TA} (h : PA X e t) (f : ∀ σ H Q, t' σ H Q → t σ H Q) : PA X e t' := ⟨fun pos pins s σ H Q I q => h.run pos pins s σ H Q I (f σ H Q q)⟩
theorem ps_mono {X : Cx} {e : Stmt} {t t' : TS} (h : PS X e t) (f : ∀ D σ H, t' D σ H → t D σ H) : PS X e t' := ⟨fun pins s σ H D I q => h.run pins s σ H D I (f D σ H q)⟩
theorem pss_mono {X : Cx} {e : List Stmt} {t t' : TS} (h : PSs X e t) (f : ∀ D σ H, t' D σ H → t D σ H) : PSs X e t' := ⟨fun pins s σ H D I q => h.run pins s σ H D I (f D σ H q)⟩
def ofO {α : Type} : Option α → Out α
  | some a => .ok a
  | none => .no
theorem Pg.ofO {α : Type} {z : Z} {E : XK} {C : α → Prop} : ∀ {x : Option α}, Pg z E C (ofO x) → ∃ a, x = some a ∧ C a
  | some a, h => ⟨a, rfl, h⟩
  | none, h => h.elim
def fVar (i : Nat) : F := fun env => match env[i]? with
  | some (.val d) => .ok (.d d, env)
  | some (.own _) => .ok (.at_ i, env)
  | some (.par _) => .ok (.at_ i, env)
  | _ => .no
def fC (d : D) : F := fun env => .ok (.d d, env)
section
variable {X : Cx} {z : Z} {E : XK} {k : Nat} {pos : Pos}
theorem te_var {i : Nat} {σ : L2.St} {H : Hp} {Q : VK} (h : tE z E (fVar i) σ H Q) : tVar i σ H Q := by
  obtain ⟨T, G, env, r, h⟩ := h
  have sj : ∀ {v : V}, (σ[i]?.join) = some v → σ[i]? = some (some v) := fun {v} e => by
    cases q : σ[i]? with
    | none => rw [q] at e; cases e
    | some o => rw [q] at e; exact congrArg some e
  unfold fVar at h
  split at h
  · rename_i d q
    have w := r.sl i _ q
    obtain ⟨v, e, w⟩ := w
    exact ⟨v, sj e, h v H G r (Ex.refl G) w⟩
  · rename_i xs q
    have w := r.sl i _ q
    obtain ⟨p, vs, e, _⟩ := w
    exact ⟨_, sj e, h _ H G r (Ex.refl G) e⟩
  · rename_i xs q
    have w := r.sl i _ q
    obtain ⟨p, vs, e, _⟩ := w
    exact ⟨_, sj e, h _ H G r (Ex.refl G) e⟩
  · exact h.elim
theorem we_var (i : Nat) {x : Str} (hN : X.N[i]? = some x := by rfl) (hv : Vis X.env.scope x := by first | exact Or.inl rfl | exact Or.inr (Or.inl rfl) | exact Or.inr (Or.inr rfl))
    (hd : (x == ("__debug__" : Str)) = false := by decide) (hcd : (x == ("__classdict__" : Str)) = false := by decide) : PE X (.Name x pos) (tE z E (fVar i)) :=
  pe_mono (pe_var hN hv hd hcd) fun _ _ _ h => te_var h
theorem te_c {d : D} {v : V} (hv : ∀ K cl G, Is K cl G v d) {σ : L2.St} {H : Hp} {Q : VK} (h : tE z E (fC d) σ H Q) : tC v σ H Q := by
  obtain ⟨T, G, env, r, h⟩ := h
  exact h v H G r (Ex.refl G) (hv _ _ _)
theorem we_int {i j} : PE X (.Constant (.int i) j pos) (tE z E (fC (.int i))) := pe_mono pe_int fun _ _ _ h => te_c (fun _ _ _ => .int i) h
theorem we_bl {i j} : PE X (.Constant (.bool i) j pos) (tE z E (fC (.bl i))) := pe_mono pe_bl fun _ _ _ h => te_c (fun _ _ _ => .bl i) h
theorem we_str {i j} : PE X (.Constant (.str i) j pos) (tE z E (fC (.str i))) := pe_mono pe_str fun _ _ _ h => te_c (fun _ _ _ => .str i) h
theorem we_non {j} : PE X (.Constant .none j pos) (tE z E (fC .non)) := pe_mono pe_non fun _ _ _ h => te_c (fun _ _ _ => .non) h
theorem we_glob {x : Str} {v : V} {u : Value} {d : D} (hm : X.mg x = some u) (r : RelV v u) (hd' : ∀ K cl G, Is K cl G v d) (hg : Gl X x := by rfl) (hd : (x == ("__debug__" : Str)) = false := by decide) : PE X (.Name x pos) (tE z E (fC d)) :=
  pe_mono (pe_glob hg hm r hd) fun _ _ _ h => te_c hd' h
end
inductive R0 where
  | d (x : D) | tp (xs : List D) | ls (xs : List D)
def R0.r : R0 → R
  | .d x => .d x
  | .tp xs => .d (.tup xs)
  | .ls xs => .new xs
def P0 (z : Z) (G H : Hp) (Q : VK) : Out R0 → Prop
  | .ok (.d d) => ∀ v, Is z.K z.cl G v d → Q v H
  | .ok (.tp ds) => ∀ p vs o, H p = none → o.dict = none → IsA z.K z.cl G vs ds → Q (.ref p) (upd H p (.frz o (.tup vs)))
  | .ok (.ls ds) => ∀ p vs, H p = none → IsA z.K z.cl G vs ds → Q (.ref p) (upd H p (.lst vs))
  | _ => False
section
variable {X : Cx} {z : Z} {E : XK} {k : Nat} {pos : Pos} {T G H : Hp} {σ : L2.St} {env : Ev} {Q : VK}
theorem p0_end {x : Out R0} (r : Rep z T G H env σ) (h : Pg z E (fun q => CR z T σ G Q (q.r, env)) x) (nx : ∀ c d, x ≠ .exc c d) : P0 z G H Q x := by
  cases x with
  | ok q =>
    cases q with
    | d d => exact fun v w => h v H G r (Ex.refl G) w
    | tp ds =>
      intro p vs o hp hd a
      have g := (r.nn hp).1
      exact h _ _ _ (r.grow hp) (Ex.new g) (.tup (.new hd) (a.mono (Ex.new g)))
    | ls ds =>
      intro p vs hp a
      obtain ⟨n1, n2, n3, n4, n5⟩ := r.nn hp
      exact h _ _ _ (r.alloc hp) (Ex.refl G) ⟨p, vs, rfl, upd_same, a, n1, n2, n3, n4, n5⟩
  | exc c d => exact absurd rfl (nx c d)
  | no => exact h
end
structure OpD (X : Cx) (z : Z) (f : Value → Value → Sem Value) (op : D → D → Out R0) : Prop where
  run : ∃ r : R2, OpR X f r ∧ ∀ G H x y dx dy Q, Ex G H → IsT z.K z.cl G H x dx → IsT z.K z.cl G H y dy → P0 z G H Q (op dx dy) → r x y H Q
  nx : ∀ x y c d, op x y ≠ .exc c d
def fTwo {β : Type} (fa fb : F) (k : D → D → Ev → Out β) : Ev → Out β := fun env => (fa env).bind fun p => (fb p.2).bind fun q =>
  (ofO (p.1.opd.der q.2)).bind fun x => (ofO (q.1.opd.der q.2)).bind fun y => k x y q.2
def fBin (op : D → D → Out R0) (fa fb : F) : F := fTwo fa fb fun x y e => (op x y).bind fun q => .ok (q.r, e)
section
variable {X : Cx} {z : Z} {E : XK} {n : Nat} {pos : Pos} {a b : Expr} {fa fb : F} {σ : L2.St} {H : Hp}
theorem te_two {β : Type} {C : Ev → β → Prop} {kk : D → D → Ev → Out β} {T G : Hp} {env : Ev} (r : Rep z T G H env σ)
    {Cb : Hp → β → Prop} (mono : ∀ G G' b, Ex G G' → Cb G b → Cb G' b) (h : Pg z E (Cb G) (fTwo fa fb kk env)) :
    tE z E fa σ H fun x H1 => tE z E fb σ H1 fun y H2 => ∃ dx dy e2 G2, Rep z T G2 H2 e2 σ ∧ Ex G G2 ∧ IsT z.K z.cl G2 H2 x dx ∧ IsT z.K z.cl G2 H2 y dy ∧ Pg z E (Cb G2) (kk dx dy e2) := by
  refine ⟨T, G, env, r, (Pg.bind h).imp fun p hp v H1 G1 r1 e1 w1 => ?_⟩
  obtain ⟨G1', r1', e1', w1'⟩ := w1.opd r1
  refine ⟨T, G1', p.2, r1', (Pg.bind hp).imp fun q hq u H2 G2 r2 e2 w2 => ?_⟩
  obtain ⟨G2', r2', e2', w2'⟩ := w2.opd r2
  obtain ⟨dx, ex, hq⟩ := (Pg.bind hq).ofO
  obtain ⟨dy, ey, hq⟩ := (Pg.bind hq).ofO
  have x2 : Ex G1' G2' := e2.trans e2'
  refine ⟨dx, dy, q.2, G2', r2', (e1.trans e1').trans x2, (w1'.mono (fun xs => R.opd_nn _ _) x2).der r2' ex, w2'.der r2' ey, hq.imp fun b hb => mono _ _ _ ((e1.trans e1').trans x2) hb⟩
theorem te_bin {op : D → D → Out R0} {r : R2} (hx : ∀ x y c d, op x y ≠ .exc c d) (hr : ∀ G H x y dx dy Q, Ex G H → IsT z.K z.cl G H x dx → IsT z.K z.cl G H y dy → P0 z G H Q (op dx dy) → r x y H Q) {Q : VK} (h : tE z E (fBin op fa fb) σ H Q) : tOp r (tE z E fa) (tE z E fb) σ H Q := by
  obtain ⟨T, G, env, rp, h⟩ := h
  have q := te_two (Cb := fun G p => CR z T σ G Q p) (C := fun _ _ => True) rp (fun G G' b e h => h.mono e) h
  refine (show ∀ (t : TE) (Q Q' : VK), (∀ v H, Q v H → Q' v H) → tE z E fa σ H Q → tE z E fa σ H Q' from fun _ Q Q' i ⟨T, G, env, r, h⟩ => ⟨T, G, env, r, h.imp fun a w v H' G' x y c => i _ _ (w v H' G' x y c)⟩) (tE z E fa) _ _ (fun x H1 q1 => ?_) q
  obtain ⟨T1, G1, env1, r1, h1⟩ := q1
  refine ⟨T1, G1, env1, r1, h1.imp fun a w v H' G' x y c => ?_⟩
  obtain ⟨dx, dy, e2, G2, r2, _, ix, iy, hk⟩ := w v H' G' x y c
  exact hr G2 H' _ _ dx dy Q r2.f.exG ix iy (p0_end (E := E) r2 (Pg.bind hk) (hx dx dy))
theorem we_bin {o : Operator} {op : D → D → Out R0} (ho : OpD X z (binaryOp o) op) (ha : PE X a (tE z E fa)) (hb : PE X b (tE z E fb)) : PE X (.BinOp a o b pos) (tE z E (fBin op fa fb)) := by
  obtain ⟨r, h1, h2⟩ := ho.run
  exact pe_mono (pe_op h1 ha hb) fun _ _ _ h => te_bin ho.nx h2 h
theorem we_cmp {o : CmpOp} {op : D → D → Out R0} (ho : OpD X z (compareOp o) op) (ha : PE X a (tE z E fa)) (hb : PE X b (tE z E fb)) (hm : behindInMarks o b = false := by first | exact nomark _ | with_unfolding_all rfl) : PE X (.Compare a [o] [b] pos) (tE z E (fBin op fa fb)) := by
  obtain ⟨r, h1, h2⟩ := ho.run
  exact pe_mono (pe_cmpR h1 ha hb hm) fun _ _ _ h => te_bin ho.nx h2 h
def bOf (f : F) : FB := fun env => (f env).bind fun p => match p.1 with
  | .d (.bl b) => .ok (b, p.2)
  | _ => .no
theorem te_imp {f : F} {Q Q' : VK} (i : ∀ v H, Q v H → Q' v H) : tE z E f σ H Q → tE z E f σ H Q' := fun ⟨T, G, env, r, h⟩ => ⟨T, G, env, r, h.imp fun a w v H' G' x y c => i _ _ (w v H' G' x y c)⟩
theorem te_bOf {f : F} {Q : Bool → Hp → Prop} (h : tT z E (bOf f) σ H Q) : tE z E f σ H fun x H' => ∃ k, x = .bl k ∧ Q k H' := by
  obtain ⟨T, G, env, r, h⟩ := h
  refine ⟨T, G, env, r, (Pg.bind h).imp fun p hp v H' G' r' e w => ?_⟩
  obtain ⟨p1, p2⟩ := p
  split at hp
  · rename_i b q
    have q : p1 = R.d (.bl b) := q
    subst q
    have w : Is z.K z.cl G' v (.bl b) := w
    cases w
    exact ⟨b, rfl, hp H' G' r' e⟩
  · exact hp.elim
theorem wt_cmp {o : CmpOp} {op : D → D → Out R0} (ho : OpD X z (compareOp o) op) (ha : PE X a (tE z E fa)) (hb : PE X b (tE z E fb)) (hm : behindInMarks o b = false := by first | exact nomark _ | with_unfolding_all rfl) : PT X (.Compare a [o] [b] pos) (tT z E (bOf (fBin op fa fb))) := by
  obtain ⟨r, h1, h2⟩ := ho.run
  exact pt_mono (pt_cmpR h1 ha hb hm) fun _ _ _ h => te_bin ho.nx h2 (te_bOf h)
end
end TN
namespace TN
open PySem PySem.Spec PyProof.Rows L2
def fNotB (f : FB) : FB := fun env => (f env).bind fun p => .ok (!p.1, p.2)
def fAndB (f g : FB) : FB := fun env => (f env).bind fun p => if p.1 = true then g p.2 else .ok (false, p.2)
def fOrB (f g : FB) : FB := fun env => (f env).bind fun p => if p.1 = true then .ok (true, p.2) else g p.2
def fAndV (f g : F) : F := fun env => (bOf f env).bind fun p => if p.1 = true then g p.2 else .ok (.d (.bl false), p.2)
def fOrV (f g : F) : F := fun env => (bOf f env).bind fun p => if p.1 = true then .ok (.d (.bl true), p.2) else g p.2
def fNotV (f : F) : F := fun env => (bOf f env).bind fun p => .ok (.d (.bl (!p.1)), p.2)
def fIf (c : FB) (f g : F) : F := fun env => (c env).bind fun p => if p.1 = true then f p.2 else g p.2
section
variable {X : Cx} {z : Z} {E : XK} {n : Nat} {pos : Pos} {a b c : Expr} {rest : List Expr} {fa fb fc : F} {ga gb : FB} {σ : L2.St} {H : Hp}
theorem CB.mono {T G G' : Hp} {Q : Bool → Hp → Prop} {p : Bool × Ev} (h : CB z T σ G Q p) (e : Ex G G') : CB z T σ G' Q p := fun H' G'' a x => h H' G'' a (e.trans x)
theorem wt_not (h : PT X a (tT z E ga)) : PT X (.UnaryOp .Not a pos) (tT z E (fNotB ga)) := pt_mono (pt_not h) fun σ H Q ⟨T, G, env, r, h⟩ => by
  exact ⟨T, G, env, r, (Pg.bind h).imp fun p hp H' G' r' e => hp H' G' r' e⟩
theorem te_or {Q : Bool → Hp → Prop} (h : tT z E (fOrB ga gb) σ H Q) : tOr (tT z E ga) (tT z E gb) σ H Q := by
  obtain ⟨T, G, env, r, h⟩ := h
  refine ⟨T, G, env, r, (Pg.bind h).imp fun p hp H' G' r' e => ?_⟩
  obtain ⟨p1, p2⟩ := p
  cases p1 with
  | false => exact ⟨T, G', p2, r', (show Pg z E _ (gb p2) from hp).imp fun q hq => hq.mono e⟩
  | true => exact hp H' G' r' e
theorem ww_or1 (ha : PT X a (tT z E ga)) : PW X (.BoolOp .Or [a] pos) (tT z E ga) := pw_or1 ha
theorem ww_or (ha : PT X a (tT z E ga)) (hb : PW X (.BoolOp .Or (b :: rest) pos) (tT z E gb)) : PW X (.BoolOp .Or (a :: b :: rest) pos) (tT z E (fOrB ga gb)) := pw_mono (pw_or ha hb) fun _ _ _ h => te_or h
theorem te_bthen {f : F} {kk : Bool × Ev → Out (R × Ev)} {Q : VK} (h : tE z E (fun env => (bOf f env).bind kk) σ H Q) : tE z E f σ H fun x H' => ∃ k, x = .bl k ∧ ∃ T G env, Rep z T G H' env σ ∧ Pg z E (CR z T σ G Q) (kk (k, env)) := by
  obtain ⟨T, G, env, r, h⟩ := h
  refine ⟨T, G, env, r, (Pg.bind (Pg.bind h)).imp fun p hp v H' G' r' e w => ?_⟩
  obtain ⟨p1, p2⟩ := p
  dsimp only at hp
  split at hp
  · rename_i b
    have w : Is z.K z.cl G' v (.bl b) := w
    cases w
    exact ⟨b, rfl, T, G', p2, r', (show Pg z E _ (kk (b, p2)) from hp).imp fun q hq => hq.mono e⟩
  · exact hp.elim
theorem we_one {op} {f : F} (h : PE X a (tE z E f)) : PE X (.BoolOp op [a] pos) (tE z E f) := pe_one h
theorem we_and (ha : PE X a (tE z E fa)) (hb : PE X (.BoolOp .And (b :: rest) pos) (tE z E fb)) : PE X (.BoolOp .And (a :: b :: rest) pos) (tE z E (fAndV fa fb)) := pe_mono (pe_and ha hb) fun σ H Q h => by
  refine te_imp (fun v H' q => ?_) (te_bthen h)
  obtain ⟨k, rfl, T, G, env, r, q⟩ := q
  refine ⟨k, rfl, ?_⟩
  cases k with
  | true => exact ⟨T, G, env, r, q⟩
  | false => exact q _ H' G r (Ex.refl G) (.bl false)
theorem we_not (ha : PE X a (tE z E fa)) : PE X (.UnaryOp .Not a pos) (tE z E (fNotV fa)) := pe_mono (pe_not ha) fun σ H Q h => by
  refine te_imp (fun v H' q => ?_) (te_bthen h)
  obtain ⟨k, rfl, T, G, env, r, q⟩ := q
  exact ⟨k, rfl, q _ H' G r (Ex.refl G) (.bl _)⟩
theorem we_if (hc : PT X c (tT z E ga)) (ha : PE X a (tE z E fa)) (hb : PE X b (tE z E fb)) : PE X (.IfExp c a b pos) (tE z E (fIf ga fa fb)) := pe_mono (pe_ifExp hc ha hb) fun σ H Q ⟨T, G, env, r, h⟩ => by
  refine ⟨T, G, env, r, (Pg.bind h).imp fun p hp H' G' r' e => ?_⟩
  obtain ⟨p1, p2⟩ := p
  cases p1 with
  | true => exact ⟨T, G', p2, r', (show Pg z E _ (fa p2) from hp).imp fun q hq => hq.mono e⟩
  | false => exact ⟨T, G', p2, r', (show Pg z E _ (fb p2) from hp).imp fun q hq => hq.mono e⟩
end
def fChain (op op' : D → D → Out R0) (fa fb fc : F) : F := fun env => (fa env).bind fun p => (fb p.2).bind fun q => (ofO (p.1.opd.der q.2)).bind fun x => (ofO (q.1.opd.der q.2)).bind fun y =>
  match op x y with
  | .ok (.d (.bl false)) => .ok (.d (.bl false), q.2)
  | .ok (.d (.bl true)) => (fc q.2).bind fun s => (ofO (q.1.opd.der s.2)).bind fun y => (ofO (s.1.opd.der s.2)).bind fun w => (op' y w).bind fun o => .ok (o.r, s.2)
  | _ => .no
section
variable {X : Cx} {z : Z} {E : XK} {n : Nat} {pos : Pos} {a b c : Expr} {fa fb fc : F} {σ : L2.St} {H : Hp}
theorem te_chain {op op' : D → D → Out R0} {r r' : R2} (hx : ∀ x y c d, op x y ≠ .exc c d) (hr : ∀ G H x y dx dy Q, Ex G H → IsT z.K z.cl G H x dx → IsT z.K z.cl G H y dy → P0 z G H Q (op dx dy) → r x y H Q)
    (hx' : ∀ x y c d, op' x y ≠ .exc c d) (hr' : ∀ G H x y dx dy Q, Ex G H → IsT z.K z.cl G H x dx → IsT z.K z.cl G H y dy → P0 z G H Q (op' dx dy) → r' x y H Q) {Q : VK} (h : tE z E (fChain op op' fa fb fc) σ H Q) : tChain r r' (tE z E fa) (tE z E fb) (tE z E fc) σ H Q := by
  obtain ⟨T, G, env, rp, h⟩ := h
  refine ⟨T, G, env, rp, (Pg.bind h).imp fun p hp v H1 G1 r1 e1 w1 => ?_⟩
  obtain ⟨G1', r1', e1', w1'⟩ := w1.opd r1
  refine ⟨T, G1', p.2, r1', (Pg.bind hp).imp fun q hq u H2 G2 r2 e2 w2 => ?_⟩
  obtain ⟨G2', r2', e2', w2'⟩ := w2.opd r2
  obtain ⟨dx, ex, hq⟩ := (Pg.bind hq).ofO
  obtain ⟨dy, ey, hq⟩ := (Pg.bind hq).ofO
  have x2 : Ex G1' G2' := e2.trans e2'
  have ix := (w1'.mono (fun xs => R.opd_nn _ _) x2).der r2' ex
  have iy := w2'.der r2' ey
  have eg : Ex G G2' := (e1.trans e1').trans x2
  refine hr G2' H2 v u dx dy _ r2'.f.exG ix iy ?_
  split at hq
  · rename_i e
    rw [e]
    intro v' w'
    cases w'
    exact ⟨false, rfl, hq _ H2 G2' r2' eg (.bl false)⟩
  · rename_i e
    rw [e]
    intro v' w'
    cases w'
    refine ⟨true, rfl, ?_⟩
    refine ⟨T, G2', q.2, r2', (Pg.bind hq).imp fun s hs t H3 G3 r3 e3 w3 => ?_⟩
    obtain ⟨G3', r3', e3', w3'⟩ := w3.opd r3
    obtain ⟨dy', ey', hs⟩ := (Pg.bind hs).ofO
    obtain ⟨dw, ew, hs⟩ := (Pg.bind hs).ofO
    have x3 : Ex G2' G3' := e3.trans e3'
    refine hr' G3' H3 u t dy' dw Q r3'.f.exG ((w2'.mono (fun xs => R.opd_nn _ _) x3).der r3' ey') (w3'.der r3' ew) (p0_end (E := E) r3' ?_ (hx' _ _))
    exact (Pg.bind hs).imp fun o ho => CR.mono ho (eg.trans x3)
  · exact hq.elim
theorem we_chain {o o' : CmpOp} {op op' : D → D → Out R0} (ho : OpD X z (compareOp o) op) (ho' : OpD X z (compareOp o') op') (ha : PE X a (tE z E fa)) (hb : PE X b (tE z E fb)) (hc : PE X c (tE z E fc)) (hm : lastMarks [o, o'] [b, c] = false := by with_unfolding_all rfl) :
    PE X (.Compare a [o, o'] [b, c] pos) (tE z E (fChain op op' fa fb fc)) := by
  obtain ⟨r, h1, h2⟩ := ho.run
  obtain ⟨r', h1', h2'⟩ := ho'.run
  exact pe_mono (pe_chain h1 h1' ha hb hc hm) fun _ _ _ h => te_chain ho.nx h2 ho'.nx h2' h
theorem wt_chain {o o' : CmpOp} {op op' : D → D → Out R0} (ho : OpD X z (compareOp o) op) (ho' : OpD X z (compareOp o') op') (ha : PE X a (tE z E fa)) (hb : PE X b (tE z E fb)) (hc : PE X c (tE z E fc)) (hm : lastMarks [o, o'] [b, c] = false := by with_unfolding_all rfl) :
    PT X (.Compare a [o, o'] [b, c] pos) (tT z E (bOf (fChain op op' fa fb fc))) := by
  obtain ⟨r, h1, h2⟩ := ho.run
  obtain ⟨r', h1', h2'⟩ := ho'.run
  exact pt_mono (pt_chain h1 h1' ha hb hc hm) fun _ _ _ h => te_chain ho.nx h2 ho'.nx h2' (te_bOf h)
end
def aNil : FA := fun env => .ok ([], env)
def aCons (f : F) (g : FA) : FA := fun env => (f env).bind fun p => (g p.2).bind fun q => .ok (p.1.opd :: q.1, q.2)
def fTup (g : FA) : F := fun env => (g env).bind fun p => match fixAll p.2 p.1 with
  | some (ds, e) => if ds.length ≤ 100000 then .ok (.d (.tup ds), e) else .no
  | none => .no
def fLst (g : FA) : F := fun env => (g env).bind fun p => match fixAll p.2 p.1 with
  | some (ds, e) => if ds.length ≤ 100000 then .ok (.new ds, e) else .no
  | none => .no
theorem line100 {n : Nat} (h : n ≤ 100000) : n ≤ sizeLine := Nat.le_trans h (by decide)
theorem line100' {n : Nat} (h : n < 100000) : n < sizeLine := Nat.lt_of_lt_of_le h (by decide)
section
variable {X : Cx} {z : Z} {E : XK} {n : Nat} {pos : Pos} {e : Expr} {es : List Expr} {f : F} {g : FA} {σ : L2.St} {H : Hp}
theorem wa_nil' : PA X [] (tAr z E aNil) := pa_mono pa_nil fun σ H Q ⟨T, G, env, r, h⟩ => h [] H G r (Ex.refl G) trivial
theorem wa_cons' (he : PE X e (tE z E f)) (ha : PA X es (tAr z E g)) (hs : starEach (e :: es) X.env = (false, eval e X.env) :: starEach es X.env := by rfl) : PA X (e :: es) (tAr z E (aCons f g)) := pa_mono (pa_cons he ha hs) fun σ H Q ⟨T, G, env, r, h⟩ => by
  refine ⟨T, G, env, r, (Pg.bind h).imp fun p hp v H1 G1 r1 e1 w1 => ?_⟩
  obtain ⟨G1', r1', e1', w1'⟩ := w1.opd r1
  refine ⟨T, G1', p.2, r1', (Pg.bind hp).imp fun q hq vs H2 G2 r2 e2 w2 => ?_⟩
  exact hq (v :: vs) H2 G2 r2 ((e1.trans e1').trans e2) ⟨⟨w1'.mono (fun xs => R.opd_nn _ _) e2, fun xs => R.opd_nn _ _⟩, w2⟩
structure WA (X : Cx) (z : Z) (E : XK) (es : List Expr) (g : FA) (n : Nat) : Prop where
  pa : PA X es (tAr z E g)
  len : ∀ env rs e2, g env = .ok (rs, e2) → rs.length = n
theorem wa_nil : WA X z E [] aNil 0 := ⟨wa_nil', fun env rs e2 h => by cases h; rfl⟩
theorem wa_cons (he : PE X e (tE z E f)) (ha : WA X z E es g n) (hs : starEach (e :: es) X.env = (false, eval e X.env) :: starEach es X.env := by rfl) : WA X z E (e :: es) (aCons f g) (n + 1) := ⟨wa_cons' he ha.pa hs, fun env rs e2 h => by
  unfold aCons at h
  cases h1 : f env with
  | no => rw [h1] at h; cases h
  | exc c d => rw [h1] at h; cases h
  | ok p =>
    rw [h1] at h
    have h : (g p.2).bind (fun q => Out.ok (p.1.opd :: q.1, q.2)) = Out.ok (rs, e2) := h
    cases h2 : g p.2 with
    | no => rw [h2] at h; cases h
    | exc c d => rw [h2] at h; cases h
    | ok q =>
      rw [h2] at h
      cases h
      exact congrArg (· + 1) (ha.len p.2 q.1 q.2 h2)⟩
theorem we_tup {x1} (ha : WA X z E es g n) : PE X (.Tuple es x1 pos) (tE z E (fTup g)) := pe_mono (pe_tupX ha.pa) fun σ H Q ⟨T, G, env, r, h⟩ => by
  refine ⟨T, G, env, r, (Pg.bind h).imp fun p hp vs H1 G1 r1 e1 w1 => ?_⟩
  split at hp
  · rename_i ds en q
    obtain ⟨G2, r2, e2, a⟩ := w1.fix r1 q
    split at hp
    · rename_i hl
      refine ⟨by rw [a.length]; exact line100 hl, fun p' o' hp' hd' => ?_⟩
      have gn := (r2.nn hp').1
      exact hp _ _ _ (r2.grow hp') ((e1.trans e2).trans (Ex.new gn)) (.tup (.new hd') (a.mono (Ex.new gn)))
    · exact hp.elim
  · exact hp.elim
theorem we_lst (ha : WA X z E es g n) : PE X (.List es pos) (tE z E (fLst g)) := pe_mono (pe_lst ha.pa) fun σ H Q ⟨T, G, env, r, h⟩ => by
  refine ⟨T, G, env, r, (Pg.bind h).imp fun p hp vs H1 G1 r1 e1 w1 => ?_⟩
  split at hp
  · rename_i ds en q
    obtain ⟨G2, r2, e2, a⟩ := w1.fix r1 q
    split at hp
    · rename_i hl
      refine ⟨by rw [a.length]; exact line100 hl, fun p' hp' => ?_⟩
      obtain ⟨n1, n2, n3, n4, n5⟩ := r2.nn hp'
      exact hp _ _ _ (r2.alloc hp') (e1.trans e2) ⟨p', vs, rfl, upd_same, a, n1, n2, n3, n4, n5⟩
    · exact hp.elim
  · exact hp.elim
def fDct : F := fun env => .ok (.d .dct, env)
theorem we_dct : PE X (.Dict [] [] pos) (tE z E fDct) := pe_mono pe_dnewK fun σ H Q ⟨T, G, env, r, h⟩ => fun p hp => by
  have gn := (r.nn hp).1
  exact h _ _ _ (r.grow hp) (Ex.new gn) (.dct upd_same)
end
structure IxD (X : Cx) (z : Z) (op : D → D → Out R0) : Prop where
  run : ∃ r : R2, IxR X r ∧ ∀ G H x y dx dy Q, Ex G H → IsT z.K z.cl G H x dx → IsT z.K z.cl G H y dy → P0 z G H Q (op dx dy) → r x y H Q
  nx : ∀ x y c d, op x y ≠ .exc c d
section
variable {X : Cx} {z : Z} {E : XK} {n : Nat} {pos : Pos} {a b : Expr} {fa fb : F}
theorem we_ix {op : D → D → Out R0} (ho : IxD X z op) (ha : PE X a (tE z E fa)) (hb : PE X b (tE z E fb)) (hs : PlainIx b := by intro _ _; rfl) : PE X (.Subscript a b pos) (tE z E (fBin op fa fb)) := by
  obtain ⟨r, h1, h2⟩ := ho.run
  exact pe_mono (pe_ix h1 ha hb hs) fun _ _ _ h => te_bin ho.nx h2 h
end
abbrev FO := Ev → Out (Option Int × Ev)
def oNone : FO := fun env => .ok (none, env)
def oSome (f : F) : FO := fun env => (f env).bind fun p => match p.1 with
  | .d (.int i) => .ok (some i, p.2)
  | _ => .no
abbrev CO (z : Z) (T : Hp) (σ : L2.St) (G : Hp) (Q : Option Int → Hp → Prop) : Option Int × Ev → Prop := fun p => ∀ H' G', Rep z T G' H' p.2 σ → Ex G G' → Q p.1 H'
def tOr' (z : Z) (E : XK) (f : FO) : TO := fun σ H Q => ∃ T G env, Rep z T G H env σ ∧ Pg z E (CO z T σ G Q) (f env)
structure SlD (X : Cx) (z : Z) (op : D → Option Int → Option Int → Out R0) : Prop where
  run : ∃ r, SlR X r ∧ ∀ G H x lo hi dx Q, Ex G H → IsT z.K z.cl G H x dx → P0 z G H Q (op dx lo hi) → r x lo hi H Q
  nx : ∀ x y w c d, op x y w ≠ .exc c d
def fSl (op : D → Option Int → Option Int → Out R0) (f : F) (lo hi : FO) : F := fun env => (f env).bind fun p => (lo p.2).bind fun q => (hi q.2).bind fun s => (ofO (p.1.opd.der s.2)).bind fun x => (op x q.1 s.1).bind fun o => .ok (o.r, s.2)
section
variable {X : Cx} {z : Z} {E : XK} {n : Nat} {pos p2 : Pos} {e : Expr} {f : F} {lo hi : Option Expr} {fl fh : FO}
theorem wo_none : PO X none (tOr' z E oNone) := ⟨fun pins s σ H Q I ⟨T, G, env, r, h⟩ => po_none.run pins s σ H Q I (h H G r (Ex.refl G))⟩
theorem wo_some (he : PE X e (tE z E f)) : PO X (some e) (tOr' z E (oSome f)) := ⟨fun pins s σ H Q I h => (po_some he).run pins s σ H Q I (by
  obtain ⟨T, G, env, r, h⟩ := h
  refine ⟨T, G, env, r, (Pg.bind h).imp fun p hp v H' G' r' x w => ?_⟩
  obtain ⟨p1, p2⟩ := p
  dsimp only at hp
  split at hp
  · rename_i i
    have w : Is z.K z.cl G' v (.int i) := w
    cases w
    exact ⟨i, rfl, hp H' G' r' x⟩
  · exact hp.elim)⟩
theorem we_slice {op : D → Option Int → Option Int → Out R0} (ho : SlD X z op) (he : PE X e (tE z E f)) (hl : PO X lo (tOr' z E fl)) (hh : PO X hi (tOr' z E fh)) : PE X (.Subscript e (.Slice lo hi none p2) pos) (tE z E (fSl op f fl fh)) := by
  obtain ⟨r, h1, h2⟩ := ho.run
  refine pe_mono (pe_slice h1 he hl hh) fun σ H Q ⟨T, G, env, r, h⟩ => ?_
  refine ⟨T, G, env, r, (Pg.bind h).imp fun p hp v H1 G1 r1 e1 w1 => ?_⟩
  obtain ⟨G1', r1', e1', w1'⟩ := w1.opd r1
  refine ⟨T, G1', p.2, r1', (Pg.bind hp).imp fun q hq H2 G2 r2 e2 => ?_⟩
  refine ⟨T, G2, q.2, r2, (Pg.bind hq).imp fun s hs H3 G3 r3 e3 => ?_⟩
  obtain ⟨dx, ex, hs⟩ := (Pg.bind hs).ofO
  exact h2 G3 H3 v _ _ dx Q r3.f.exG ((w1'.mono (fun xs => R.opd_nn _ _) (e2.trans e3)).der r3 ex) (p0_end (E := E) r3 ((Pg.bind hs).imp fun o ho => CR.mono ho ((e1.trans e1').trans (e2.trans e3))) (ho.nx _ _ _))
end
def IsTs (K : PySem.W.Frag) (cl : Cl) (G H : Hp) : List V → List D → Prop
  | [], [] => True
  | v :: vs, d :: ds => IsT K cl G H v d ∧ IsTs K cl G H vs ds
  | _, _ => False
structure CallD (X : Cx) (z : Z) (f : Value) (op : List D → Out R0) : Prop where
  run : ∃ r, CallR X f r ∧ ∀ G H vs ds Q, Ex G H → IsTs z.K z.cl G H vs ds → P0 z G H Q (op ds) → r vs H Q
  nx : ∀ x c d, op x ≠ .exc c d
def derAll (env : Ev) : List R → Option (List D)
  | [] => some []
  | r :: rs => match r.der env with
    | some d => match derAll env rs with
      | some ds => some (d :: ds)
      | none => none
    | none => none
def fBi (op : List D → Out R0) (g : FA) : F := fun env => (g env).bind fun p => (ofO (derAll p.2 p.1)).bind fun ds => (op ds).bind fun o => .ok (o.r, p.2)
section
variable {X : Cx} {z : Z} {E : XK} {n : Nat} {pos p : Pos} {e : Expr} {es : List Expr} {g : FA} {x : Str} {id : String}
theorem VRs.der {T G H : Hp} {env : Ev} {σ : L2.St} (r : Rep z T G H env σ) : ∀ {vs : List V} {rs : List R} {ds : List D}, VRs z T G H env σ vs rs → derAll env rs = some ds → IsTs z.K z.cl G H vs ds
  | [], [], _, _, e => by cases e; trivial
  | v :: vs, s :: rs, ds, ⟨⟨h, _⟩, t⟩, e => by
    unfold derAll at e
    split at e
    · rename_i d q
      split at e
      · rename_i ds' q2
        cases e
        exact ⟨h.der r q, VRs.der r t q2⟩
      · cases e
    · cases e
theorem te_bi {op : List D → Out R0} {r : List V → Hp → VK → Prop} (nx : ∀ x c d, op x ≠ .exc c d) (hr : ∀ G H vs ds Q, Ex G H → IsTs z.K z.cl G H vs ds → P0 z G H Q (op ds) → r vs H Q) {σ : L2.St} {H : Hp} {Q : VK} (h : tE z E (fBi op g) σ H Q) : tCB r (tAr z E g) σ H Q := by
  obtain ⟨T, G, env, rp, h⟩ := h
  refine ⟨T, G, env, rp, (Pg.bind h).imp fun p hp vs H1 G1 r1 e1 w1 => ?_⟩
  obtain ⟨ds, ed, hp⟩ := (Pg.bind hp).ofO
  exact hr G1 H1 vs ds Q r1.f.exG (w1.der r1 ed) (p0_end (E := E) r1 ((Pg.bind hp).imp fun o ho => CR.mono ho e1) (nx _))
theorem we_bi {op : List D → Out R0} (hc : CallD X z (.builtin id) op) (hm : X.mg x = none) (hv : bootBuiltins x = some (.builtin id)) (ha : WA X z E (e :: es) g n) (hg : Gl X x := by rfl) (hn : x ≠ "__name__" := by decide) (hdb : (x == ("__debug__" : Str)) = false := by decide)
    (hs : starEach (e :: es) X.env = (false, eval e X.env) :: starEach es X.env := by rfl) (hpl : (backTo pos (starEach es X.env)).any (·.1) = false := by rfl) : PE X (.Call (.Name x p) (e :: es) [] pos) (tE z E (fBi op g)) := by
  obtain ⟨r, h1, h2⟩ := hc.run
  exact pe_mono (pe_callB h1 hg hm hv ha.pa hn hdb hs hpl) fun _ _ _ h => te_bi hc.nx h2 h
theorem we_ty {op : List D → Out R0} (hc : CallD X z (.type id) op) (hm : X.mg x = none) (hv : bootBuiltins x = some (.type id)) (ha : WA X z E (e :: es) g n) (hg : Gl X x := by rfl) (hn : x ≠ "__name__" := by decide) (hdb : (x == ("__debug__" : Str)) = false := by decide)
    (hs : starEach (e :: es) X.env = (false, eval e X.env) :: starEach es X.env := by rfl) (hpl : (backTo pos (starEach es X.env)).any (·.1) = false := by rfl) : PE X (.Call (.Name x p) (e :: es) [] pos) (tE z E (fBi op g)) := by
  obtain ⟨r, h1, h2⟩ := hc.run
  exact pe_mono (pe_callTy h1 hg hm hv ha.pa hn hdb hs hpl) fun _ _ _ h => te_bi hc.nx h2 h
end
end TN
namespace TN
open PySem PySem.Spec PyProof.Rows L2
abbrev Fn := List D → Out (R0 × List D)
def Z.at_ (z : Z) (G H : Hp) (M : Option Addr) : Z := { z with G0 := G, H0 := H, M := M }
def ResOk (z : Z) (G H : Hp) (v : V) : R0 → Prop
  | .d d => Is z.K z.cl G v d
  | .ls xs => ∃ p vs, v = .ref p ∧ H p = some (.lst vs) ∧ IsA z.K z.cl G vs xs ∧ G p = none ∧ z.H0 p = none ∧ z.M ≠ some p
  | .tp _ => False
inductive Args' (z : Z) (G H : Hp) : Bool → List V → List D → Option Addr → Prop
  | pure {vs : List V} {ds : List D} : IsA z.K z.cl G vs ds → Args' z G H false vs ds none
  | wr {p : Addr} {ws vs : List V} {xs ds : List D} : G p = none → H p = some (.lst ws) → IsA z.K z.cl G ws xs → IsA z.K z.cl G vs ds → Args' z G H true (.ref p :: vs) (.lst xs :: ds) (some p)
def FEnd (z : Z) (Q : VK) : R0 × List D → Prop := fun q => ∀ v H' G', Fr z G' H' → ResOk z G' H' v q.1 → (∀ a, z.M = some a → ∃ ws, H' a = some (.lst ws) ∧ IsA z.K z.cl G' ws q.2) → Q v H'
def spF (z : Z) (m : Bool) (n : Nat) (φ : Fn) : Sp := fun vs H Q E => ∃ G ds M, Args' z G H m vs ds M ∧ (Ex G H ∧ LamX.Tabs z.Ts H ∧ ∀ p ∈ z.Ts, G p.1 = none) ∧ vs.length = n ∧ Pg (z.at_ G H M) E (FEnd (z.at_ G H M) Q) (φ ds)
def putL (φ : Fn) (ds : List D) (e : Ev) (i : Nat) : Out (R × Ev) := match e[i]? with
  | some (.own xs) => (φ (.lst xs :: ds)).bind fun s => .ok (s.1.r, e.set i (.own s.2))
  | some (.par xs) => (φ (.lst xs :: ds)).bind fun s => .ok (s.1.r, e.set i (.par s.2))
  | _ => .no
def callK (φ : Fn) : Bool → List R → Ev → Out (R × Ev)
  | false, rs, e => (ofO (fixAll e rs)).bind fun q => (φ q.1).bind fun s => .ok (s.1.r, q.2)
  | true, .at_ i :: rs, e => (ofO (fixAll e rs)).bind fun q => putL φ q.1 q.2 i
  | true, _, _ => .no
def fCall (m : Bool) (φ : Fn) (g : FA) : F := fun env => (g env).bind fun p => callK φ m p.1 p.2
section
variable {z : Z} {E : XK} {T G G' H H' : Hp} {env env' : Ev} {σ : L2.St} {M : Option Addr}
theorem Fr.in (f : Fr z G H) (hM : ∀ a, M = some a → z.H0 a = none ∨ z.M = some a) (f' : Fr (z.at_ G H M) G' H') : Fr z G' H' := by
  refine ⟨f'.exG, f.g0.trans f'.g0, fun a ha => ?_, fun a o ha ht hm => ?_, fun a ha => ?_, f.m0, f'.tb, f.t1⟩
  · rcases f'.gn a ha with h | h
    · exact f.gn a h
    · exact .inr (f.nn h).2.1
  · have h := f.fr a o ha ht hm
    refine f'.fr a o h ht fun e => ?_
    rcases hM a e with q | q
    · rw [q] at ha; cases ha
    · exact hm q
  · by_cases e : M = some a
    · exact f'.mm a e
    · obtain ⟨⟨vs, h⟩, g⟩ := f.mm a ha
      refine ⟨⟨vs, f'.fr a _ h (f.ntH (by rw [h]; intro _ w; cases w)) e⟩, ?_⟩
      cases q : G' a with
      | none => rfl
      | some o =>
        rcases f'.gn a (by rw [q]; intro w; cases w) with w | w
        · exact absurd g w
        · exact absurd w (by show H a ≠ none; rw [h]; intro w; cases w)
theorem PX.in (f : Fr z G H) (hM : ∀ a, M = some a → z.H0 a = none ∨ z.M = some a) {c : Nat} {d : D} (h : PX z E c d) : PX (z.at_ G H M) E c d := fun H' x ⟨G', f', q⟩ => h H' x ⟨G', f.in hM f', q⟩
theorem Pg.in {α : Type} {C C' : α → Prop} (f : Fr z G H) (hM : ∀ a, M = some a → z.H0 a = none ∨ z.M = some a) (i : ∀ a, C a → C' a) : ∀ {x : Out α}, Pg z E C x → Pg (z.at_ G H M) E C' x
  | .ok _, h => i _ h
  | .exc _ _, h => PX.in f hM h
  | .no, h => h
theorem Rep.back (r : Rep z T G H env σ) (hM : ∀ a, M = some a → z.H0 a = none ∨ z.M = some a) (f' : Fr (z.at_ G H M) G' H') (hl : env'.length = env.length) (hs : ∀ (i : Nat) (s : Sl), env'[i]? = some s → (env[i]? = some s ∧ (s.ow = true → ∀ q, σ[i]?.join = some (.ref q) → M ≠ some q)) ∨ SlOk z T G' H' (σ[i]?.join) s)
    (ho : ∀ i q, Ow env' σ i q → Ow env σ i q) (hT : ∀ a, T a ≠ none → M ≠ some a) : Rep z T G' H' env' σ := by
  have gNone : ∀ a, G a = none → H a ≠ none → G' a = none := fun a g h => by
    cases q : G' a with
    | none => rfl
    | some o =>
      rcases f'.gn a (by rw [q]; intro w; cases w) with w | w
      · exact absurd g w
      · exact absurd w h
  refine ⟨r.f.in hM f', hl.trans r.len, fun i s es => ?_, fun i j p h1 h2 => r.dis i j p (ho i p h1) (ho j p h2), fun a o ha => ?_, fun a ha => ?_, r.t0⟩
  · rcases hs i s es with ⟨e0, w⟩ | h
    · refine (r.sl i s e0).to f'.g0 (fun q os eq => ?_) r.f.m0
      obtain ⟨vs, g, t, hq⟩ := r.own (i := i) (p := q) ⟨⟨s, e0, os⟩, eq⟩
      refine ⟨?_, fun _ => gNone q g (by rw [hq]; intro w; cases w)⟩
      rw [hq]
      exact f'.fr q _ hq (r.ownT (i := i) (p := q) ⟨⟨s, e0, os⟩, eq⟩) (w os q eq)
    · exact h
  · exact f'.fr a o (r.exT a o ha) (r.f.nt0 (r.t0 a (by rw [ha]; intro w; cases w))) (hT a (by rw [ha]; intro w; cases w))
  · refine gNone a (r.gt a ha) ?_
    cases q : T a with
    | none => exact absurd q ha
    | some o => rw [r.exT a o q]; intro w; cases w
theorem ResOk.vr {v : V} {q : R0} (r : Rep z T G H env σ) (r' : Rep z T G' H' env' σ) (f' : Fr (z.at_ G H M) G' H') (ho : ∀ i q, Ow env' σ i q → Ow env σ i q) (h : ResOk (z.at_ G H M) G' H' v q) : VR z T G' H' env' σ v q.r := by
  cases q with
  | d d => exact h
  | ls xs =>
    obtain ⟨p, vs, e, hp, a, g, h0, hm⟩ := h
    obtain ⟨n1, n2, n3, n4, n5⟩ := r.nn (show H p = none from h0)
    exact ⟨p, vs, e, hp, a, g, n2, n3, n4, fun i w => n5 i (ho i p w)⟩
  | tp xs => exact h.elim
end
section
variable {X : Cx} {z : Z} {E : XK} {k n : Nat} {f : Addr} {fd : FuncData} {ps : List Str} {x : Str} {p pos : Pos} {e : Expr} {es : List Expr} {m : Bool} {φ : Fn} {g : FA} {σ : L2.St} {H : Hp} {Q : VK}
theorem te_call (h : tE z E (fCall m φ g) σ H Q) (hln : ∀ env rs e2, g env = .ok (rs, e2) → rs.length = n) : tCall (spF z m n φ) [] E (tAr z E g) σ H Q := by
  obtain ⟨T, G, env, r, h⟩ := h
  have h' := Pg.bind h
  refine ⟨T, G, env, r, ?_⟩
  cases hq : g env with
  | no => rw [hq] at h'; exact h'
  | exc c d => rw [hq] at h'; exact h'
  | ok p =>
    rw [hq] at h'
    obtain ⟨rs, e2⟩ := p
    have hl := hln env rs e2 hq
    intro vs H1 G1 r1 e1 w1
    rw [List.append_nil]
    have lv : vs.length = n := w1.length.trans hl
    have h' : Pg z E (CR z T σ G Q) (callK φ m rs e2) := h'
    cases m with
    | false =>
      obtain ⟨⟨ds, e3⟩, ef, h'⟩ := (Pg.bind h').ofO
      obtain ⟨G2, r2, x2, a⟩ := w1.fix r1 ef
      have hM : ∀ a, (none : Option Addr) = some a → z.H0 a = none ∨ z.M = some a := fun a e => by cases e
      refine ⟨G2, ds, none, .pure a, ⟨r2.f.exG, r2.f.tb, r2.f.gT⟩, lv, Pg.in r2.f hM (fun s hs => ?_) (Pg.bind h')⟩
      intro v H' G' f' ro _
      have r3 : Rep z T G' H' e3 σ := r2.back hM f' rfl (fun i s es => .inl ⟨es, fun _ _ _ w => by cases w⟩) (fun _ _ w => w) (fun _ _ w => by cases w)
      exact hs v H' G' r3 ((e1.trans x2).trans f'.g0) (ro.vr r2 r3 f' fun _ _ w => w)
    | true =>
      cases rs with
      | nil => exact h'.elim
      | cons r0 rs =>
        cases r0 with
        | d d => exact h'.elim
        | new xs => exact h'.elim
        | at_ i =>
          cases vs with
          | nil => exact w1.elim
          | cons v0 vs =>
            obtain ⟨⟨w0, _⟩, w1⟩ := w1
            obtain ⟨⟨ds, e3⟩, ef, h'⟩ := (Pg.bind h').ofO
            obtain ⟨G2, r2, x2, a⟩ := w1.fix r1 ef
            have w0 : σ[i]?.join = some v0 := w0
            have main : ∀ (sl : List D → Sl) (xs : List D), e3[i]? = some (sl xs) → ((sl = .own) ∨ (sl = .par)) → Pg z E (CR z T σ G Q) ((φ (.lst xs :: ds)).bind fun s => .ok (s.1.r, e3.set i (sl s.2))) → spF z true n φ (v0 :: vs) H1 Q E := by
              intro sl xs ei hsl h'
              have os : ∀ ys, (sl ys).ow = true := fun ys => by rcases hsl with e | e <;> (rw [e]; rfl)
              have inf : ∃ p ws, v0 = .ref p ∧ G2 p = none ∧ T p = none ∧ H1 p = some (.lst ws) ∧ IsA z.K z.cl G2 ws xs ∧ (sl = .own ∧ z.H0 p = none ∨ sl = .par ∧ z.M = some p) := by
                have q := r2.sl i _ ei
                rw [w0] at q
                rcases hsl with e | e
                · rw [e] at q
                  obtain ⟨p, ws, ev, g1, t, h0, hp, a⟩ := q
                  exact ⟨p, ws, Option.some.inj ev, g1, t, hp, a, .inl ⟨e, h0⟩⟩
                · rw [e] at q
                  obtain ⟨p, ws, ev, t, hm, hp, a⟩ := q
                  exact ⟨p, ws, Option.some.inj ev, (r2.f.mm p hm).2, t, hp, a, .inr ⟨e, hm⟩⟩
              obtain ⟨p, ws, ev, g1, t, hp, a1, hk⟩ := inf
              subst ev
              have how : Ow e3 σ i p := ⟨⟨_, ei, os xs⟩, w0⟩
              have hM : ∀ a, some p = some a → z.H0 a = none ∨ z.M = some a := fun a e => by
                cases e
                rcases hk with ⟨_, h⟩ | ⟨_, h⟩
                · exact .inl h
                · exact .inr h
              refine ⟨G2, .lst xs :: ds, some p, .wr g1 hp a1 a, ⟨r2.f.exG, r2.f.tb, r2.f.gT⟩, lv, Pg.in r2.f hM (fun s hs => ?_) (Pg.bind h')⟩
              intro v H' G' f' ro mm
              obtain ⟨ws', hp', a'⟩ := mm p rfl
              have ho : ∀ j q, Ow (e3.set i (sl s.2)) σ j q → Ow e3 σ j q := fun j q w => w.of_set fun _ => ⟨_, ei, os xs⟩
              have g' : G' p = none := (f'.mm p rfl).2
              have r3 : Rep z T G' H' (e3.set i (sl s.2)) σ := by
                refine r2.back hM f' (List.length_set ..) (fun j s' es => ?_) ho (fun b hb e => ?_)
                · by_cases q : i = j
                  · subst q
                    rw [List.getElem?_set_self (getElem?_lt ei)] at es
                    cases es
                    right
                    rw [w0]
                    rcases hk with ⟨e, h⟩ | ⟨e, h⟩
                    · rw [e]; exact ⟨p, ws', rfl, g', t, h, hp', a'⟩
                    · rw [e]; exact ⟨p, ws', rfl, t, h, hp', a'⟩
                  · rw [List.getElem?_set_ne q] at es
                    refine .inl ⟨es, fun o q' eq w => q (r2.dis i j p how ⟨⟨_, es, o⟩, ?_⟩)⟩
                    cases w
                    exact eq
                · cases e; exact hb t
              exact hs v H' G' r3 ((e1.trans x2).trans f'.g0) (ro.vr r2 r3 f' ho)
            have h' : Pg z E (CR z T σ G Q) (putL φ ds e3 i) := h'
            unfold putL at h'
            split at h'
            · rename_i xs ei; exact main .own xs ei (.inl rfl) h'
            · rename_i xs ei; exact main .par xs ei (.inr rfl) h'
            · exact h'.elim
theorem we_call (F : FnOk X.prog X.w X.K X.mg X.base (L2.CX X.prog X.w) k f fd ps (spF z m n φ)) (o : OkX X z E k) (hm : X.mg x = some (.ref f)) (hk : PySem.W.keepIn X.K (.ref f) = true) (hb : Binds X.K fd ps [])
    (ha : WA X z E (e :: es) g n) (hg : Gl X x := by rfl) (hdb : (x == ("__debug__" : Str)) = false := by decide) (he : starEach (e :: es) X.env = (false, eval e X.env) :: starEach es X.env := by rfl) (hpl : (backTo pos (starEach es X.env)).any (·.1) = false := by rfl) :
    PE X (.Call (.Name x p) (e :: es) [] pos) (tE z E (fCall m φ g)) :=
  pe_mono (pe_call F o.room hg hm hk hb .nil (passes_call (W := fun c d _ H => E c d H) o.tk fun _ _ _ _ h => h) ha.pa hdb he hpl) fun _ _ _ h => te_call h ha.len
end
def sNil : S := fun env => .ok (.nx, env)
def sCons (s t : S) : S := fun env => (s env).bind fun p => match p.1 with
  | .nx => t p.2
  | .ret r => .ok (.ret r, p.2)
def stored (env : Ev) : R → Option (Sl × Ev)
  | .d x => some (.val x, env)
  | .new xs => some (.own xs, env)
  | .at_ i => match (R.at_ i).fix env with
    | some (x, e) => some (.val x, e)
    | none => none
def sSet (i : Nat) (f : F) : S := fun env => (f env).bind fun p => (ofO (stored p.2 p.1)).bind fun q => if i < q.2.length then .ok (.nx, q.2.set i q.1) else .no
def sRet (f : F) : S := fun env => (f env).bind fun p => .ok (.ret p.1, p.2)
def sRetN : S := fun env => .ok (.ret (.d .non), env)
def sExpr (f : F) : S := fun env => (f env).bind fun p => .ok (.nx, p.2)
def sIf (c : FB) (s t : S) : S := fun env => (c env).bind fun p => if p.1 = true then s p.2 else t p.2
section
variable {X : Cx} {z : Z} {E : XK} {k n : Nat} {pos : Pos} {e c : Expr} {st : Stmt} {rest a b : List Stmt} {f : F} {g : FB} {s t : S} {σ : L2.St} {H : Hp}
theorem CS.mono {T G G' : Hp} {D : Ends} {p : Fl × Ev} (h : CS z T G D p) (e : Ex G G') : CS z T G' D p := by
  obtain ⟨p1, p2⟩ := p
  cases p1 with
  | nx => exact fun σ' H' G'' r x => h σ' H' G'' r (e.trans x)
  | ret r => exact fun v σ' H' G'' r x w => h v σ' H' G'' r (e.trans x) w
theorem wss_nil : PSs X [] (tS z E sNil) := pss_mono pss_nil fun D σ H ⟨T, G, env, r, h⟩ => h σ H G r (Ex.refl G)
theorem ts_seq {D : Ends} (h : tS z E (sCons s t) D σ H) : tSeq (tS z E s) (tS z E t) D σ H := by
  obtain ⟨T, G, env, r, h⟩ := h
  refine ⟨T, G, env, r, (Pg.bind h).imp fun p hp => ?_⟩
  obtain ⟨p1, p2⟩ := p
  cases p1 with
  | nx => exact fun σ' H' G' r' x => ⟨T, G', p2, r', (show Pg z E _ (t p2) from hp).imp fun q hq => hq.mono x⟩
  | ret r => exact hp
theorem wss_cons (h1 : PS X st (tS z E s)) (h2 : PSs X rest (tS z E t)) : PSs X (st :: rest) (tS z E (sCons s t)) := pss_mono (pss_cons h1 h2) fun _ _ _ h => ts_seq h
theorem wss_one (h1 : PS X st (tS z E s)) : PSs X [st] (tS z E s) := pss_one h1
theorem VR.stored {T G : Hp} {env e' : Ev} {v : V} {r : R} {s : Sl} (h : VR z T G H env σ v r) (p : Rep z T G H env σ) (q : stored env r = some (s, e')) : ∃ G', Rep z T G' H e' σ ∧ Ex G G' ∧ SlOk z T G' H (some v) s ∧ (∀ q, s.ow = true → v = .ref q → ∀ j, ¬ Ow e' σ j q) := by
  cases r with
  | d y => cases q; exact ⟨G, p, Ex.refl G, ⟨v, rfl, h⟩, fun q w => by cases w⟩
  | new xs =>
    cases q
    obtain ⟨p', vs, rfl, hp, a, g, t, h0, hm, no⟩ := h
    exact ⟨G, p, Ex.refl G, ⟨p', vs, rfl, g, t, h0, hp, a⟩, fun q _ w => by cases w; exact no⟩
  | at_ i =>
    simp only [TN.stored] at q
    split at q
    · rename_i x e ef
      cases q
      obtain ⟨G', p', x', w⟩ := h.fix p ef
      exact ⟨G', p', x', ⟨v, rfl, w⟩, fun q w => by cases w⟩
    · cases q
theorem ts_set {i : Nat} {D : Ends} (h : tS z E (sSet i f) D σ H) : tE z E f σ H fun v H1 => gName i v σ H1 D.nx := by
  obtain ⟨T, G, env, r, h⟩ := h
  refine ⟨T, G, env, r, (Pg.bind h).imp fun p hp v H' G' r' e w => ?_⟩
  obtain ⟨⟨s, e'⟩, es, hp⟩ := (Pg.bind hp).ofO
  obtain ⟨G2, r2, x2, w2, hd⟩ := w.stored r' es
  split at hp
  · rename_i hi
    exact hp (σ.set i (some v)) H' G2 (r2.set w2 hd hi) (e.trans x2)
  · exact hp.elim
theorem ws_set {i : Nat} {x : Str} {pos' : Pos} (o : OkX X z E k) (he : PE X e (tE z E f)) (hi : X.N[i]? = some x := by rfl) (hx : Loc X.env.scope x := by first | exact .inl rfl | exact .inr rfl) (hs : swapsWith e (some (.Name x pos')) pos.line X.env = pure false := by rfl)
    (hf : X.fn x = true ∨ X.env.scope.names.lookup x = some .local := by first | exact .inl rfl | exact .inr rfl) : PS X (.Assign [.Name x pos'] e pos) (tS z E (sSet i f)) := ps_mono (ps_set o.nd hi hx he hs hf) fun D σ H h => ts_set h
theorem ws_ret (he : PE X e (tE z E f)) : PS X (.Return (some e) pos) (tS z E (sRet f)) := ps_mono (ps_ret he) fun D σ H ⟨T, G, env, r, h⟩ =>
  ⟨T, G, env, r, (Pg.bind h).imp fun p hp v H' G' r' e w => hp v σ H' G' r' e w⟩
theorem ws_expr (he : PE X e (tE z E f)) (hs : swapsWith e none pos.line X.env = pure false := by rfl) : PS X (.Expr e pos) (tS z E (sExpr f)) := ps_mono (ps_expr he hs) fun D σ H ⟨T, G, env, r, h⟩ =>
  ⟨T, G, env, r, (Pg.bind h).imp fun p hp v H' G' r' e w => hp σ H' G' r' e⟩
theorem ws_if (hc : PT X c (tT z E g)) (ha : PSs X a (tS z E s)) (hb : PSs X b (tS z E t)) : PS X (.If c a b pos) (tS z E (sIf g s t)) := ps_mono (ps_if hc ha hb) fun D σ H ⟨T, G, env, r, h⟩ => by
  refine ⟨T, G, env, r, (Pg.bind h).imp fun p hp H' G' r' e => ?_⟩
  obtain ⟨p1, p2⟩ := p
  cases p1 with
  | true => exact ⟨T, G', p2, r', (show Pg z E _ (s p2) from hp).imp fun q hq => hq.mono e⟩
  | false => exact ⟨T, G', p2, r', (show Pg z E _ (t p2) from hp).imp fun q hq => hq.mono e⟩
end
def whileF (c : FB) (s : S) : Nat → S
  | 0, _ => .no
  | n + 1, env => (c env).bind fun p => if p.1 = true then (s p.2).bind fun q => match q.1 with
      | .nx => whileF c s n q.2
      | .ret r => .ok (.ret r, q.2)
    else .ok (.nx, p.2)
def turns : Nat := 100000
def sWhile (c : FB) (s : S) : S := whileF c s turns
section
variable {X : Cx} {z : Z} {E : XK} {k n : Nat} {pos : Pos} {c : Expr} {body : List Stmt} {g : FB} {s : S}
end
end TN
namespace TN
open PySem PySem.Spec PyProof.Rows L2 RZ
def WalkOk (z : Z) (J : It) (G : Hp) (ds : List D) : Prop := ∀ i H, Ex G H →
  (∀ d, ds[i]? = some d → J.go i H ∧ ∀ x H', J.yld i H x H' → (H' = H ∧ Is z.K z.cl G x d) ∨ ∃ p o, H p = none ∧ H' = upd H p o ∧ Is z.K z.cl (upd G p o) x d) ∧ (ds.length ≤ i → J.stop i H)
abbrev FI := Ev → Out (List D × Ev)
abbrev CI (z : Z) (T : Hp) (σ : L2.St) (G : Hp) (R : It → Hp → Prop) : List D × Ev → Prop := fun p => ∀ J H' G', Rep z T G' H' p.2 σ → Ex G G' → WalkOk z J G' p.1 → R J H'
def tI (z : Z) (E : XK) (f : FI) : TI := fun σ H R => ∃ T G env, Rep z T G H env σ ∧ Pg z E (CI z T σ G R) (f env)
theorem pi_mono {X : Cx} {tg e : Expr} {t t' : TI} (h : PI X tg e t) (f : ∀ σ H R, t' σ H R → t σ H R) : PI X tg e t' := ⟨fun pins s σ H R I q => h.run pins s σ H R I (f σ H R q)⟩
def D.items : D → Option (List D)
  | .tup ds => some ds
  | .lst ds => some ds
  | .scr ns => some (ns.map D.int)
  | _ => none
def fSeq (f : F) : FI := fun env => (f env).bind fun p => (ofO (p.1.opd.fix p.2)).bind fun q => (ofO q.1.items).bind fun ds => .ok (ds, q.2)
def iSeq (K : PySem.W.Frag) (tl : TE) : TI := fun σ H R => tl σ H fun x H1 => ∃ a, x = .ref a ∧ ((∃ xs, SqL K H1 a xs) ∧ R (Itl K a) H1 ∨ (∃ xs, SqT K H1 a xs) ∧ R (Itt K a) H1)
theorem pi_seq {X : Cx} {tg l : Expr} {tl : TE} (hl : PE X l tl) : PI X tg l (iSeq X.K tl) := by
  refine ⟨fun pins s σ H R I h => ?_⟩
  refine thn (hl.run pins s σ H _ I h) fun v s1 ⟨x, H1, I1, r1, q1⟩ => ?_
  obtain ⟨a, e, ⟨⟨xs, hq⟩, q⟩ | ⟨⟨xs, hq⟩, q⟩⟩ := q1
  · subst e
    cases r1
    obtain ⟨its, rv, p, hz⟩ := I1.list hq
    refine wpAny_pyIter_list p.isList ?_
    refine ⟨s1.heap.objs.size, [s1.heap.objs.size], _, _, H1, rfl, I1.kept (t' := s1.toks) fun b o e => Heap.get?_push_of_some _ e, turn_list a _, ⟨_, Heap.get?_push_size _ rfl, rfl, rfl⟩, fun b hb => ?_, q⟩
    have e : b = s1.heap.objs.size := by simpa using hb
    subst e
    exact I1.fpOk (Nat.le_refl _) (I1.hok.fresh (Nat.le_refl _))
  · subst e
    cases r1
    obtain ⟨its, rv, p, hz⟩ := I1.tuple hq
    refine wpAny_pyIter_tuple (show s1.heap.IsTuple a its.toArray from p) ?_
    refine ⟨s1.heap.objs.size, [s1.heap.objs.size], _, _, H1, rfl, I1.kept (t' := s1.toks) fun b o e => Heap.get?_push_of_some _ e, turn_tuple a _, ⟨_, Heap.get?_push_size _ rfl, rfl, rfl⟩, fun b hb => ?_, q⟩
    have e : b = s1.heap.objs.size := by simpa using hb
    subst e
    exact I1.fpOk (Nat.le_refl _) (I1.hok.fresh (Nat.le_refl _))
section
variable {z : Z} {G : Hp} {a b : Addr} {vs ws : List V} {ds es : List D}
theorem walkOk_l (hl : SqL z.K G a vs) (h : IsA z.K z.cl G vs ds) : WalkOk z (Itl z.K a) G ds := fun i H e => ⟨fun d hd => by
  obtain ⟨v, hv, w⟩ := h.get hd
  exact ⟨⟨vs, v, ex_l e hl, hv⟩, fun x H' y => .inl ⟨y.1, by
    have q := y.2 vs (ex_l e hl)
    rw [hv] at q
    cases q
    exact w⟩⟩, fun hi => ⟨vs, ex_l e hl, by rw [h.length]; exact hi⟩⟩
theorem walkOk_t (hl : SqT z.K G a vs) (h : IsA z.K z.cl G vs ds) : WalkOk z (Itt z.K a) G ds := fun i H e => ⟨fun d hd => by
  obtain ⟨v, hv, w⟩ := h.get hd
  exact ⟨⟨vs, v, ex_t e hl, hv⟩, fun x H' y => .inl ⟨y.1, by
    have q := y.2 vs (ex_t e hl)
    rw [hv] at q
    cases q
    exact w⟩⟩, fun hi => ⟨vs, ex_t e hl, by rw [h.length]; exact hi⟩⟩
def rng (lo hi : Int) : List D := (List.range (hi - lo).toNat).map fun (k : Nat) => D.int (lo + k)
theorem walkOk_r {lo hi : Int} {n : Nat} (hn : n = (hi - lo).toNat) : WalkOk z (Itr lo n) G (rng lo hi) := fun i H e => by
  subst hn
  refine ⟨fun d hd => ?_, fun hi => ?_⟩
  · unfold rng at hd
    rw [List.getElem?_map, Option.map_eq_some_iff] at hd
    obtain ⟨k, hk, rfl⟩ := hd
    obtain ⟨h1, h2⟩ := List.getElem?_eq_some_iff.mp hk
    rw [List.length_range] at h1
    rw [List.getElem_range] at h2
    subst h2
    exact ⟨h1, fun x H' y => .inl ⟨y.1, by rw [y.2]; exact .int _⟩⟩
  · unfold rng at hi
    rw [List.length_map, List.length_range] at hi
    exact hi
theorem isPair {x y : V} {d e : D} {p : Addr} (hx : Is z.K z.cl G x d) (hy : Is z.K z.cl G y e) (hp : G p = none) : Is z.K z.cl (upd G p (.tup [x, y])) (.ref p) (.wtup [d, e]) :=
  .wtup (.inl (.inl upd_same)) (.cons (hx.mono (Ex.new hp)) (.cons (hy.mono (Ex.new hp)) .nil))
theorem zip_get {α β γ : Type} {f : α → β → γ} {xs : List α} {ys : List β} {i : Nat} {d : γ} (h : (List.zipWith f xs ys)[i]? = some d) : ∃ x y, xs[i]? = some x ∧ ys[i]? = some y ∧ d = f x y := by
  rw [List.getElem?_zipWith] at h
  split at h
  · rename_i x y h1 h2; cases h; exact ⟨x, y, h1, h2, rfl⟩
  · cases h
theorem walkOk_z (hl : SqL z.K G a vs) (hm : SqL z.K G b ws) (h : IsA z.K z.cl G vs ds) (h' : IsA z.K z.cl G ws es) : WalkOk z (Itz z.K a b) G (List.zipWith (fun x y => D.wtup [x, y]) ds es) := fun i H e => by
  refine ⟨fun d hd => ?_, fun hi => ?_⟩
  · obtain ⟨d1, d2, h1, h2, rfl⟩ := zip_get hd
    obtain ⟨v, hv, wv⟩ := h.get h1
    obtain ⟨w, hw, ww⟩ := h'.get h2
    refine ⟨⟨vs, ws, v, w, ex_l e hl, ex_l e hm, hv, hw⟩, fun x H' y => ?_⟩
    obtain ⟨T, x1, y1, rfl, hT, rfl, q1, q2⟩ := y
    have q1 := q1 vs (ex_l e hl)
    have q2 := q2 ws (ex_l e hm)
    rw [hv] at q1; rw [hw] at q2
    cases q1; cases q2
    exact .inr ⟨T, _, hT, rfl, isPair wv ww (e.nn hT)⟩
  · rw [List.length_zipWith, ← h.length, ← h'.length] at hi
    exact ⟨vs, ws, ex_l e hl, ex_l e hm, by omega⟩
theorem walkOk_zT (hl : SqT z.K G a vs) (hm : SqT z.K G b ws) (h : IsA z.K z.cl G vs ds) (h' : IsA z.K z.cl G ws es) : WalkOk z (ItzT z.K a b) G (List.zipWith (fun x y => D.wtup [x, y]) ds es) := fun i H e => by
  refine ⟨fun d hd => ?_, fun hi => ?_⟩
  · obtain ⟨d1, d2, h1, h2, rfl⟩ := zip_get hd
    obtain ⟨v, hv, wv⟩ := h.get h1
    obtain ⟨w, hw, ww⟩ := h'.get h2
    refine ⟨⟨vs, ws, v, w, ex_t e hl, ex_t e hm, hv, hw⟩, fun x H' y => ?_⟩
    obtain ⟨T, x1, y1, rfl, hT, rfl, q1, q2⟩ := y
    have q1 := q1 vs (ex_t e hl)
    have q2 := q2 ws (ex_t e hm)
    rw [hv] at q1; rw [hw] at q2
    cases q1; cases q2
    exact .inr ⟨T, _, hT, rfl, isPair wv ww (e.nn hT)⟩
  · rw [List.length_zipWith, ← h.length, ← h'.length] at hi
    exact ⟨vs, ws, ex_t e hl, ex_t e hm, by omega⟩
def enumD : Nat → List D → List D
  | _, [] => []
  | i, d :: ds => D.wtup [.int (i : Nat), d] :: enumD (i + 1) ds
end
section
variable {X : Cx} {z : Z} {E : XK} {k n : Nat} {tg e e2 : Expr} {es : List Expr} {f : F} {g : FA} {p pos tpos : Pos}
theorem wi_seq (hK : X.K = z.K) (he : PE X e (tE z E f)) : PI X tg e (tI z E (fSeq f)) := pi_mono (pi_seq he) fun σ H R ⟨T, G, env, r, h⟩ => by
  rw [hK]
  refine ⟨T, G, env, r, (Pg.bind h).imp fun p hp v H1 G1 r1 e1 w1 => ?_⟩
  obtain ⟨G2, r2, e2, w2⟩ := w1.opd r1
  obtain ⟨⟨d, e3⟩, ef, hp⟩ := (Pg.bind hp).ofO
  obtain ⟨ds, ed, hp⟩ := (Pg.bind hp).ofO
  obtain ⟨G3, r3, x3, w3⟩ := w2.fix r2 ef
  have hf : ∀ J, WalkOk z J G3 ds → R J H1 := fun J wk => hp J H1 G3 r3 ((e1.trans e2).trans x3) wk
  clear hp
  cases w3 with
  | tup hs a => cases ed; exact ⟨_, rfl, .inr ⟨⟨_, ex_t r3.f.exG hs.sq⟩, hf _ (walkOk_t hs.sq a)⟩⟩
  | lst hs a => cases ed; exact ⟨_, rfl, .inl ⟨⟨_, ex_l r3.f.exG (SqL.of hs)⟩, hf _ (walkOk_l (SqL.of hs) a)⟩⟩
  | @scr a ns hs => cases ed; exact ⟨_, rfl, .inl ⟨⟨_, ex_l r3.f.exG hs⟩, hf _ (walkOk_l hs (IsA.ofInts ns))⟩⟩
  | _ => cases ed
def fRng1 (g : FA) : FI := fun env => (g env).bind fun p => match derAll p.2 p.1 with
  | some [.int j] => if -(2 ^ 62) ≤ j ∧ j < 2 ^ 62 then .ok (rng 0 j, p.2) else .no
  | _ => .no
def fRng2 (g : FA) : FI := fun env => (g env).bind fun p => match derAll p.2 p.1 with
  | some [.int i, .int j] => if (-(2 ^ 62) ≤ i ∧ i < 2 ^ 62) ∧ -(2 ^ 62) ≤ j ∧ j < 2 ^ 62 then .ok (rng i j, p.2) else .no
  | _ => .no
theorem isInt {K : PySem.W.Frag} {cl : Cl} {G H : Hp} {v : V} {i : Int} (h : IsT K cl G H v (.int i)) : v = .int i := by
  rcases h with h | ⟨_, _, _, _, e, _⟩
  · cases h; rfl
  · cases e
theorem isTs1 {K : PySem.W.Frag} {cl : Cl} {G H : Hp} {vs : List V} {d : D} (h : IsTs K cl G H vs [d]) : ∃ v, vs = [v] ∧ IsT K cl G H v d := by
  cases vs with
  | nil => exact h.elim
  | cons v vs =>
    cases vs with
    | nil => exact ⟨v, rfl, h.1⟩
    | cons _ _ => exact h.2.elim
theorem isTs2 {K : PySem.W.Frag} {cl : Cl} {G H : Hp} {vs : List V} {d e : D} (h : IsTs K cl G H vs [d, e]) : ∃ v w, vs = [v, w] ∧ IsT K cl G H v d ∧ IsT K cl G H w e := by
  cases vs with
  | nil => exact h.elim
  | cons v vs =>
    obtain ⟨w, rfl, q⟩ := isTs1 h.2
    exact ⟨v, w, rfl, h.1, q⟩
theorem wi_rng1 (hm : X.mg "range" = none) (ha : WA X z E [e] g n) (hg : Gl X "range" := by rfl) (hs : starEach [e] X.env = [(false, eval e X.env)] := by rfl) : PI X tg (.Call (.Name "range" p) [e] [] pos) (tI z E (fRng1 g)) :=
  pi_mono (pi_range1 hg hm ha.pa hs) fun σ H R ⟨T, G, env, r, h⟩ => by
  refine ⟨T, G, env, r, (Pg.bind h).imp fun p hp vs H1 G1 r1 e1 w1 => ?_⟩
  split at hp
  · rename_i j ed
    obtain ⟨v, rfl, w⟩ := isTs1 (w1.der r1 ed)
    split at hp
    · rename_i hj
      exact ⟨j, by rw [isInt w], hj.1, hj.2, hp _ H1 G1 r1 e1 (walkOk_r (by simp))⟩
    · exact hp.elim
  · exact hp.elim
theorem wi_rng2 (hm : X.mg "range" = none) (ha : WA X z E [e, e2] g n) (hg : Gl X "range" := by rfl) (hs : starEach [e, e2] X.env = [(false, eval e X.env), (false, eval e2 X.env)] := by rfl) (hs2 : starEach [e2] X.env = [(false, eval e2 X.env)] := by rfl) : PI X tg (.Call (.Name "range" p) [e, e2] [] pos) (tI z E (fRng2 g)) :=
  pi_mono (pi_range2 hg hm ha.pa hs hs2) fun σ H R ⟨T, G, env, r, h⟩ => by
  refine ⟨T, G, env, r, (Pg.bind h).imp fun p hp vs H1 G1 r1 e1 w1 => ?_⟩
  split at hp
  · rename_i i j ed
    obtain ⟨v, w, rfl, wv, ww⟩ := isTs2 (w1.der r1 ed)
    split at hp
    · rename_i hj
      exact ⟨i, j, by rw [isInt wv, isInt ww], ⟨hj.1.1, hj.1.2, hj.2.1, hj.2.2⟩, hp _ H1 G1 r1 e1 (walkOk_r rfl)⟩
    · exact hp.elim
  · exact hp.elim
def fZip (g : FA) : FI := fun env => (g env).bind fun p => match fixAll p.2 p.1 with
  | some ([.tup a, .tup b], e) => .ok (List.zipWith (fun x y => D.wtup [x, y]) a b, e)
  | some ([.lst a, .lst b], e) => .ok (List.zipWith (fun x y => D.wtup [x, y]) a b, e)
  | _ => .no
theorem wi_zip {elts : List Expr} {kk : Nat} (hK : X.K = z.K) (hm : X.mg "zip" = none) (ha : WA X z E [e, e2] g n) (hg : Gl X "zip" := by rfl) (hs : starEach [e, e2] X.env = (false, eval e X.env) :: starEach [e2] X.env := by rfl) (hs2 : (backTo pos (starEach [e2] X.env)).any (·.1) = false := by rfl) :
    PI X (.Tuple elts kk tpos) (.Call (.Name "zip" p) [e, e2] [] pos) (tI z E (fZip g)) :=
  pi_mono (pi_zipA hg hm ha.pa hs hs2) fun σ H R ⟨T, G, env, r, h⟩ => by
  rw [hK]
  refine ⟨T, G, env, r, (Pg.bind h).imp fun p hp vs H1 G1 r1 e1 w1 => ?_⟩
  split at hp
  · rename_i a b en ed
    obtain ⟨G2, r2, x2, w⟩ := w1.fix r1 ed
    cases w with
    | cons wa w =>
      cases w with
      | cons wb w =>
        cases w
        cases wa with
        | tup ha a =>
          cases wb with
          | tup hb b => exact ⟨_, _, _, _, rfl, .inr ⟨ex_t r2.f.exG ha.sq, ex_t r2.f.exG hb.sq, hp _ H1 G2 r2 (e1.trans x2) (walkOk_zT ha.sq hb.sq a b)⟩⟩
  · rename_i a b en ed
    obtain ⟨G2, r2, x2, w⟩ := w1.fix r1 ed
    cases w with
    | cons wa w =>
      cases w with
      | cons wb w =>
        cases w
        cases wa with
        | lst ha a =>
          cases wb with
          | lst hb b => exact ⟨_, _, _, _, rfl, .inl ⟨ex_l r2.f.exG (SqL.of ha), ex_l r2.f.exG (SqL.of hb), hp _ H1 G2 r2 (e1.trans x2) (walkOk_z (SqL.of ha) (SqL.of hb) a b)⟩⟩
  · exact hp.elim
end
abbrev GA := D → Ev → Option Ev
def gN (i : Nat) : GA := fun d env => if i < env.length then some (env.set i (.val d)) else none
def gTs : List Nat → List D → Ev → Option Ev
  | [], [], env => some env
  | i :: is, d :: ds, env => match gN i d env with
    | some e => gTs is ds e
    | none => none
  | _, _, _ => none
def gT (is : List Nat) : GA := fun d env => match d with
  | .tup ds => gTs is ds env
  | .wtup ds => gTs is ds env
  | .lst ds => gTs is ds env
  | _ => none
def tG (z : Z) (is : List Nat) (ga : GA) : TG := fun v σ H Q => ∃ T G env d env', Rep z T G H env σ ∧ Is z.K z.cl G v d ∧ ga d env = some env' ∧ ∀ σ', Rep z T G H env' σ' → (∀ vs, (∀ i ∈ is, i ∈ vs) → wipe σ' vs = wipe σ vs) → Q σ' H
def tGs (z : Z) (is : List Nat) : TGs := fun vs σ H Q => ∃ T G env ds env', Rep z T G H env σ ∧ IsA z.K z.cl G vs ds ∧ gTs is ds env = some env' ∧ ∀ σ', Rep z T G H env' σ' → (∀ vs, (∀ i ∈ is, i ∈ vs) → wipe σ' vs = wipe σ vs) → Q σ' H
theorem wipe_set {σ : L2.St} {i : Nat} {x : Option V} : ∀ {vs : List Nat}, i ∈ vs → wipe (σ.set i x) vs = wipe σ vs := by
  intro vs hi
  apply List.ext_getElem?
  intro j
  by_cases hj : j ∈ vs
  · have len : ∀ τ : L2.St, τ.length = σ.length → (wipe τ vs)[j]? = if j < σ.length then some none else none := fun τ hτ => by
      by_cases hl : j < σ.length
      · rw [if_pos hl]
        cases q : (wipe τ vs)[j]? with
        | none =>
          rw [List.getElem?_eq_none_iff, wipe_length, hτ] at q
          omega
        | some o =>
          cases o with
          | none => rfl
          | some v => exact absurd hj (wipe_some q).2
      · rw [if_neg hl, List.getElem?_eq_none (by rw [wipe_length, hτ]; omega)]
    rw [len _ (List.length_set ..), len _ rfl]
  · have ne : i ≠ j := fun e => hj (e ▸ hi)
    have out : ∀ τ : L2.St, (wipe τ vs)[j]? = τ[j]? := fun τ => by
      clear hi
      induction vs with
      | nil => rfl
      | cons v vs ih =>
        have h1 : v ≠ j := fun e => hj (by rw [e]; exact List.mem_cons_self)
        show ((wipe τ vs).set v none)[j]? = _
        rw [List.getElem?_set_ne h1]
        exact ih (fun m => hj (List.mem_cons_of_mem _ m))
    rw [out, out, List.getElem?_set_ne ne]
section
variable {X : Cx} {z : Z} {E : XK} {k n : Nat} {pos : Pos} {es : List Expr}
theorem tg_name {i : Nat} {v : V} {σ : L2.St} {H : Hp} {Q : L2.St → Hp → Prop} (h : tG z [i] (gN i) v σ H Q) : gName i v σ H Q := by
  obtain ⟨T, G, env, d, env', r, w, e, h⟩ := h
  unfold gN at e
  split at e
  · rename_i hi
    cases e
    exact h _ (r.set ⟨v, rfl, w⟩ (fun q e => by cases e) hi) fun vs hv => wipe_set (hv i (by simp))
  · cases e
theorem wg_name (nd : X.N.Nodup) (i : Nat) {x : Str} (hi : X.N[i]? = some x := by rfl) (hx : Loc X.env.scope x := by first | exact .inl rfl | exact .inr rfl) (hf : X.fn x = true ∨ X.env.scope.names.lookup x = some .local := by first | exact .inl rfl | exact .inr rfl) : PG X (.Name x pos) (tG z [i] (gN i)) := by
  have h := pg_name (X := X) (pos := pos) nd hi hx hf
  exact ⟨fun pins s σ H v u Q I r w => h.run pins s σ H v u Q I r (tg_name w)⟩
theorem wgs_nil : PGs X [] (tGs z []) := ⟨fun pins s σ H vs us Q I r ⟨T, G, env, ds, env', rp, w, e, h⟩ => pgs_nil.run pins s σ H vs us Q I r (by
  cases w with
  | nil => cases e; exact ⟨rfl, h σ rp fun _ _ => rfl⟩
  | cons _ _ => cases e)⟩
theorem wgs_cons {e : Expr} {i : Nat} {is : List Nat} (h1 : PG X e (tG z [i] (gN i))) (h2 : PGs X es (tGs z is)) (hs : (assignEach (e :: es) X.env).map (·.2) = assign e X.env :: (assignEach es X.env).map (·.2) := by rfl) : PGs X (e :: es) (tGs z (i :: is)) := by
  refine ⟨fun pins s σ H vs us Q I r ⟨T, G, env, ds, env', rp, w, ee, h⟩ => (pgs_cons h1 h2 hs).run pins s σ H vs us Q I r ?_⟩
  cases w with
  | nil => cases ee
  | @cons v vs d ds w ws =>
    simp only [gTs] at ee
    split at ee
    · rename_i e1 q
      refine ⟨v, vs, rfl, T, G, env, d, e1, rp, w, q, fun σ' r' hw => ⟨T, G, e1, ds, env', r', ws, ee, fun σ2 r2 hw2 => h σ2 r2 fun vs hv => ?_⟩⟩
      rw [hw2 vs fun j hj => hv j (List.mem_cons_of_mem _ hj)]
      exact hw vs fun j hj => hv j (by cases List.mem_singleton.mp hj; exact List.mem_cons_self)
    · cases ee
theorem wg_tup {is : List Nat} {kk : Nat} (hK : X.K = z.K) (hc : X.calm = true) (h : PGs X es (tGs z is)) (hl : is.length = es.length := by rfl) (hn : (assignEach es X.env).length = es.length := by rfl) (hst : (assignEach es X.env).findIdx? (·.1) = none := by rfl) : PG X (.Tuple es kk pos) (tG z is (gT is)) := by
  refine ⟨fun pins s σ H v u Q I r ⟨T, G, env, d, env', rp, w, ee, h'⟩ => ?_⟩
  have gl : ∀ {is : List Nat} {ds : List D} {env env' : Ev}, gTs is ds env = some env' → ds.length = is.length := by
    intro is
    induction is with
    | nil => intro ds env env' e; cases ds <;> first | rfl | cases e
    | cons i is ih =>
      intro ds env env' e
      cases ds with
      | nil => cases e
      | cons d ds =>
        simp only [gTs] at e
        split at e
        · rw [List.length_cons, List.length_cons, ih e]
        · cases e
  unfold gT at ee
  split at ee
  · rename_i ds
    cases w with
    | @tup a vs _ hs ha =>
      refine (pg_tup hc h hn hst).run pins s σ H _ u Q I r ?_
      rw [hK]
      exact ⟨a, vs, rfl, ex_t rp.f.exG hs.sq, by rw [ha.length, gl ee, hl], T, G, env, ds, env', rp, ha, ee, h'⟩
  · rename_i ds
    cases w with
    | @wtup a vs _ hs ha =>
      refine (pg_tup hc h hn hst).run pins s σ H _ u Q I r ?_
      rw [hK]
      exact ⟨a, vs, rfl, ex_t rp.f.exG hs, by rw [ha.length, gl ee, hl], T, G, env, ds, env', rp, ha, ee, h'⟩
  · rename_i ds
    cases w with
    | @lst a vs _ hs ha =>
      refine (pg_unl hc h hn hst).run pins s σ H _ u Q I r ?_
      rw [hK]
      exact ⟨a, vs, rfl, SqL.of (rp.f.exG _ _ hs), by rw [ha.length, gl ee, hl], T, G, env, ds, env', rp, ha, ee, h'⟩
  · cases ee
end
def forF (ga : GA) (s : S) : List D → S
  | [], env => .ok (.nx, env)
  | d :: ds, env => (ofO (ga d env)).bind fun e => (s e).bind fun q => match q.1 with
    | .nx => forF ga s ds q.2
    | .ret r => .ok (.ret r, q.2)
def sFor (fi : FI) (ga : GA) (s : S) : S := fun env => (fi env).bind fun p => forF ga s p.1 p.2
section
variable {X : Cx} {z : Z} {E : XK} {k n : Nat} {pos : Pos} {tg iter : Expr} {body : List Stmt} {fi : FI} {ga : GA} {is : List Nat} {s : S}
theorem Rep.yield {T G H H' : Hp} {env : Ev} {σ : L2.St} {x : V} {d : D} (r : Rep z T G H env σ) (y : (H' = H ∧ Is z.K z.cl G x d) ∨ ∃ p o, H p = none ∧ H' = upd H p o ∧ Is z.K z.cl (upd G p o) x d) : ∃ G', Rep z T G' H' env σ ∧ Ex G G' ∧ Is z.K z.cl G' x d := by
  rcases y with ⟨rfl, w⟩ | ⟨p, o, hp, rfl, w⟩
  · exact ⟨G, r, Ex.refl G, w⟩
  · exact ⟨_, r.grow hp, Ex.new (r.nn hp).1, w⟩
theorem WalkOk.at_ {J : It} {G G' H : Hp} {ds : List D} {i : Nat} {d : D} (w : WalkOk z J G ds) (e : Ex G G') (eh : Ex G' H) (hd : ds[i]? = some d) : J.go i H ∧ ∀ x H', J.yld i H x H' → (H' = H ∧ Is z.K z.cl G' x d) ∨ ∃ p o, H p = none ∧ H' = upd H p o ∧ Is z.K z.cl (upd G' p o) x d := by
  obtain ⟨h1, h2⟩ := (w i H (e.trans eh)).1 d hd
  refine ⟨h1, fun x H' y => ?_⟩
  rcases h2 x H' y with ⟨rfl, q⟩ | ⟨p, o, hp, rfl, q⟩
  · exact .inl ⟨rfl, q.mono e⟩
  · exact .inr ⟨p, o, hp, rfl, q.mono e.both⟩
theorem drop_cons {α : Type} {l : List α} {i : Nat} {x : α} {r : List α} (h : l.drop i = x :: r) : l[i]? = some x ∧ l.drop (i + 1) = r := by
  constructor
  · have := List.getElem?_drop (xs := l) (i := i) (j := 0)
    rw [h] at this
    simpa using this.symm
  · rw [← List.drop_drop, h]; rfl
theorem ws_for (o : OkX X z E k) (hi : PI X tg iter (tI z E fi)) (hg : PG X tg (tG z is ga)) (hb : PSs X body (tS z E s)) (hs : ∀ x, foldedSetIterable iter X.env x = pure x := by intro _; rfl) : PS X (.For tg iter body [] pos) (tS z E (sFor fi ga s)) := ps_mono (ps_for o.po o.calm hi hg hb hs) fun D σ H ⟨T, G, env, r, h⟩ => by
  refine ⟨T, G, env, r, (Pg.bind h).imp fun p hp J H1 G1 r1 e1 wk => ?_⟩
  obtain ⟨ds, env1⟩ := p
  refine ⟨fun i m σ' H' => ∃ G' env', Rep z T G' H' env' σ' ∧ Ex G1 G' ∧ m + i = ds.length ∧ Pg z E (CS z T G D) (forF ga s (ds.drop i) env'), ⟨ds.length, G1, env1, r1, Ex.refl G1, rfl, hp⟩, ?_⟩
  rintro i m σ2 H2 ⟨G2, env2, r2, x2, em, h2⟩
  cases q : ds.drop i with
  | nil =>
    rw [q] at h2
    have hl : ds.length ≤ i := by
      have := congrArg List.length q
      rw [List.length_drop] at this
      simp at this
      omega
    exact .inl ⟨(wk i H2 (x2.trans r2.f.exG)).2 hl, h2 σ2 H2 G2 r2 (e1.trans x2)⟩
  | cons d rest =>
    rw [q] at h2
    obtain ⟨hd, hr⟩ := drop_cons q
    obtain ⟨hgo, hy⟩ := wk.at_ x2 r2.f.exG hd
    have hl : i < ds.length := getElem?_lt hd
    obtain ⟨e, eg, h2⟩ := (Pg.bind h2).ofO
    refine .inr ⟨hgo, fun σ' H' => ∃ G' env', Rep z T G' H' env' σ' ∧ Ex G1 G' ∧ Pg z E (CS z T G D) (forF ga s rest env'), fun σ' H' ⟨G', env', r', x', h'⟩ => ⟨m - 1, by omega, G', env', r', x', by omega, by rw [hr]; exact h'⟩, fun x H' y => ?_⟩
    obtain ⟨G3, r3, x3, w3⟩ := r2.yield (hy x H' y)
    refine ⟨T, G3, env2, d, e, r3, w3, eg, fun σ' r' _ => ⟨T, G3, e, r', (Pg.bind h2).imp fun q hq => ?_⟩⟩
    obtain ⟨q1, q2⟩ := q
    cases q1 with
    | nx => exact fun σ4 H4 G4 r4 x4 => ⟨G4, q2, r4, (x2.trans x3).trans x4, hq⟩
    | ret rr => exact fun v σ4 H4 G4 r4 x4 w4 => hq v σ4 H4 G4 r4 (e1.trans ((x2.trans x3).trans x4)) w4
end
end TN
namespace TN
open PySem PySem.Spec PyProof.Rows L2
abbrev E0 : XK := fun _ _ _ => False
def noX {α : Type} : Out α → Out α
  | .ok a => .ok a
  | _ => .no
theorem Pg.noX {α : Type} {z : Z} {E : XK} {C : α → Prop} : ∀ {x : Out α}, Pg z E C (noX x) → Pg z E0 C x
  | .ok _, h => h
  | .exc _ _, h => h.elim
  | .no, h => h
def wipeE (env : Ev) : List Nat → Ev
  | [] => env
  | v :: vs => (wipeE env vs).set v .no
section
variable {z : Z} {T T' G G' H H' : Hp} {env env' : Ev} {σ : L2.St} {Da : Addr} {o : HO}
theorem Rep.wipe (r : Rep z T G H env σ) : ∀ vs : List Nat, Rep z T G H (wipeE env vs) (wipe σ vs)
  | [] => r
  | v :: vs => (r.wipe vs).forget none
theorem Rep.temp (r : Rep z T G H env σ) (tb : LamX.Tabs z.Ts H') (hH : ∀ a, a ≠ Da → H' a = H a) (g : G Da = none) (h0 : z.H0 Da = none) (no : ∀ i, ¬ Ow env σ i Da) (hT : Ex T' H') (ht : ∀ a, T' a ≠ none → a = Da ∨ T a ≠ none) : Rep z T' G H' env σ := by
  have hm : z.M ≠ some Da := fun e => r.f.m0 Da e h0
  refine ⟨⟨fun a u ha => ?_, r.f.g0, r.f.gn, fun a u ha ht' hm' => ?_, fun a ha => ?_, r.f.m0, tb, r.f.t1⟩, r.len, fun i s es => ?_, r.dis, hT, fun a ha => ?_, fun a ha => ?_⟩
  · rw [hH a (fun e => by rw [e, g] at ha; cases ha)]; exact r.f.exG a u ha
  · rw [hH a (fun e => by rw [e, h0] at ha; cases ha)]; exact r.f.fr a u ha ht' hm'
  · rw [hH a (fun e => hm (e ▸ ha))]; exact r.f.mm a ha
  · have w := r.sl i s es
    have tn : ∀ p, p ≠ Da → T p = none → T' p = none := fun p hp ht0 => by
      cases q : T' p with
      | none => rfl
      | some u => rcases ht p (by rw [q]; intro w; cases w) with e | e
                  · exact absurd e hp
                  · exact absurd ht0 e
    cases s with
    | no => trivial
    | val d => exact w
    | own xs =>
      obtain ⟨p, vs, e1, g1, t1, h1, hp, a⟩ := w
      have ne : p ≠ Da := fun e => no i ⟨⟨_, es, rfl⟩, by rw [e1, e]⟩
      exact ⟨p, vs, e1, g1, tn p ne t1, h1, (hH p ne).trans hp, a⟩
    | par xs =>
      obtain ⟨p, vs, e1, t1, h1, hp, a⟩ := w
      have ne : p ≠ Da := fun e => no i ⟨⟨_, es, rfl⟩, by rw [e1, e]⟩
      exact ⟨p, vs, e1, tn p ne t1, h1, (hH p ne).trans hp, a⟩
    | odc ks xs =>
      obtain ⟨p, vs, e1, g1, t1, h1, hp, l, n, a⟩ := w
      have ne : p ≠ Da := fun e => no i ⟨⟨_, es, rfl⟩, by rw [e1, e]⟩
      exact ⟨p, vs, e1, g1, tn p ne t1, h1, (hH p ne).trans hp, l, n, a⟩
    | clo k => exact w
  · rcases ht a ha with e | e
    · rw [e]; exact g
    · exact r.gt a e
  · rcases ht a ha with e | e
    · rw [e]; exact h0
    · exact r.t0 a e
theorem Rep.noOw (r : Rep z T G H env σ) (h : T Da ≠ none) : ∀ i, ¬ Ow env σ i Da := fun i hi => by
  obtain ⟨vs, _, t, _⟩ := r.own hi
  exact h t
end
def oldS (env : Ev) (i : Nat) : Sl := match env[i]? with
  | some (.val d) => .val d
  | some (.clo k) => .clo k
  | _ => .no
def rstF (old : Nat → Sl) (vs : List Nat) : Nat → List Sl → List Sl
  | _, [] => []
  | i, s :: r => (if vs.contains i then old i else s) :: rstF old vs (i + 1) r
theorem rstF_get (old : Nat → Sl) (vs : List Nat) : ∀ (l : List Sl) (k i : Nat), (rstF old vs k l)[i]? = (l[i]?).map fun s => if vs.contains (k + i) then old (k + i) else s
  | [], _, _ => by simp [rstF]
  | s :: r, k, 0 => by simp [rstF]
  | s :: r, k, i + 1 => by
    have := rstF_get old vs r (k + 1) i
    simp only [rstF, List.getElem?_cons_succ, this]
    rw [show k + 1 + i = k + (i + 1) by omega]
theorem rstF_length (old : Nat → Sl) (vs : List Nat) : ∀ (l : List Sl) (k : Nat), (rstF old vs k l).length = l.length
  | [], _ => rfl
  | s :: r, k => by simp [rstF, rstF_length old vs r]
theorem wipe_get {σ : L2.St} {i : Nat} {vs : List Nat} (h : i ∉ vs) : (wipe σ vs)[i]? = σ[i]? := by
  induction vs with
  | nil => rfl
  | cons v vs ih =>
    have h1 : v ≠ i := fun e => h (by rw [e]; exact List.mem_cons_self)
    show ((wipe σ vs).set v none)[i]? = _
    rw [List.getElem?_set_ne h1]
    exact ih (fun m => h (List.mem_cons_of_mem _ m))
theorem Rep.back' {z : Z} {T T1 G G1 H H1 : Hp} {env env1 : Ev} {σ : L2.St} {vs : List Nat} (r1 : Rep z T1 G1 H1 env1 σ) (r : Rep z T G H env (L2.wipe σ vs)) (e : Ex G1 G) : Rep z T G H (rstF (oldS env1) vs 0 env) σ := by
  have hlen : env.length = σ.length := by rw [r.len, wipe_length]
  have ow : ∀ i p, Ow (rstF (oldS env1) vs 0 env) σ i p → Ow env (L2.wipe σ vs) i p := fun i p ⟨⟨s, es, os⟩, ep⟩ => by
    rw [rstF_get, Nat.zero_add, Option.map_eq_some_iff] at es
    obtain ⟨s', es', e2⟩ := es
    by_cases hi : vs.contains i = true
    · rw [if_pos hi] at e2
      subst e2
      unfold oldS at os
      split at os <;> cases os
    · rw [if_neg hi] at e2
      subst e2
      exact ⟨⟨s', es', os⟩, by rw [wipe_get (fun m => hi (by simpa using m))]; exact ep⟩
  refine ⟨r.f, by rw [rstF_length]; exact hlen, fun i s es => ?_, fun i j p h1 h2 => r.dis i j p (ow i p h1) (ow j p h2), r.exT, r.gt, r.t0⟩
  rw [rstF_get, Nat.zero_add, Option.map_eq_some_iff] at es
  obtain ⟨s', es', e2⟩ := es
  by_cases hi : vs.contains i = true
  · rw [if_pos hi] at e2
    subst e2
    unfold oldS
    split
    · rename_i d q
      obtain ⟨v, e3, w⟩ := r1.sl i _ q
      exact ⟨v, e3, w.mono e⟩
    · rename_i k q
      obtain ⟨p, c', e3, h1, h2⟩ := r1.sl i _ q
      exact ⟨p, c', e3, e _ _ h1, h2.imp (e _ _) id⟩
    · trivial
  · rw [if_neg hi] at e2
    subst e2
    have w := r.sl i s' es'
    rw [wipe_get (fun m => hi (by simpa using m))] at w
    exact w
def lcF (ga : GA) (c : FB) (f : F) (vs : List Nat) : List D → Ev → Out (List D × Ev)
  | [], env => .ok ([], env)
  | d :: ds, env => (ofO (ga d (wipeE env vs))).bind fun e => (noX (c e)).bind fun p => if p.1 = true then
      (noX (f p.2)).bind fun q => (ofO (q.1.opd.fix q.2)).bind fun y => (lcF ga c f vs ds y.2).bind fun r => .ok (y.1 :: r.1, r.2)
    else lcF ga c f vs ds p.2
def fLc (fi : FI) (ga : GA) (c : FB) (f : F) (vs : List Nat) : F := fun env => (fi env).bind fun p => if p.1.length ≤ 100000 then
    (lcF ga c f vs p.1 p.2).bind fun q => .ok (.new q.1, rstF (oldS p.2) vs 0 (wipeE q.2 vs))
  else .no
def bYes : FB := fun env => .ok (true, env)
section
variable {X : Cx} {z : Z} {E : XK} {k n : Nat} {pos : Pos} {tg iter elt : Expr} {ifs : List Expr} {fi : FI} {ga : GA} {is : List Nat} {c : FB} {f : F} {scope : Scope} {own : List (Str × Nat)}
theorem wts_nil : PTs X [] (tT z E bYes) := ⟨fun pins s σ H Q I ⟨T, G, env, r, h⟩ => pts_nil.run pins s σ H Q I (h H G r (Ex.refl G))⟩
theorem wts_one {e : Expr} (h : PT X e (tT z E c)) : PTs X [e] (tT z E c) := pts_one h
theorem OkX.blk (o : OkX X z E k) (s : Shared) (H : Hp) (scope : Scope) (cenv : Env) (fp : List Addr) : OkX (X.blk s H scope cenv fp) z E0 k :=
  ⟨o.K, takes0, o.calm, o.nd, o.room, PassesOwn.never⟩
theorem te_lc {vs : List Nat} {σ : L2.St} {H : Hp} {Q : VK} (his : ∀ i ∈ is, i ∈ vs) (h : tE z E (fLc fi ga c f vs) σ H Q) : tLc (tI z E fi) (tG z is ga) (tT z E0 c) (tE z E0 f) vs σ H Q := by
  obtain ⟨T, G, env, r, h⟩ := h
  refine ⟨T, G, env, r, (Pg.bind h).imp fun p hp J H1 G1 r1 e1 wk => ?_⟩
  obtain ⟨ds, env1⟩ := p
  dsimp only at hp
  split at hp
  · rename_i hsz
    intro Da hD
    obtain ⟨n1, n2, n3, n4, n5⟩ := r1.nn hD
    have hp := Pg.bind hp
    refine ⟨fun i m H' => ∃ G' env' σ' acc accV, Rep z (upd T Da (.lst accV)) G' H' env' σ' ∧ wipe σ' vs = wipe σ vs ∧ Ex G1 G' ∧ m + i = ds.length ∧ IsA z.K z.cl G' accV acc ∧ acc.length ≤ i ∧
      Pg z E (fun q : List D × Ev => Pg z E (CR z T σ G Q) (.ok (.new (acc ++ q.1), rstF (oldS env1) vs 0 (wipeE q.2 vs)))) (lcF ga c f vs (ds.drop i) env'), ⟨ds.length, G1, env1, σ, [], [], ?_, rfl, Ex.refl G1, rfl, .nil, Nat.le_refl _, hp⟩, ?_⟩
    · refine r1.temp (Da := Da) (tabs_N r1.f.tb hD) (fun a ha => upd_ne ha) n1 n3 n5 (fun a u ha => ?_) fun a ha => ?_
      · by_cases q : a = Da
        · subst q; rw [upd_same] at ha ⊢; exact ha
        · rw [upd_ne q] at ha ⊢; exact r1.exT a u ha
      · by_cases q : a = Da
        · exact .inl q
        · rw [upd_ne q] at ha; exact .inr ha
    · rintro i m H2 ⟨G2, env2, σ2, acc, accV, r2, hw, x2, em, ia, la, h2⟩
      have tD : (upd T Da (.lst accV)) Da ≠ none := by rw [upd_same]; intro w; cases w
      have hDa : H2 Da = some (.lst accV) := r2.exT Da _ upd_same
      cases q : ds.drop i with
      | nil =>
        rw [q] at h2
        have hl : ds.length ≤ i := by
          have := congrArg List.length q
          rw [List.length_drop] at this
          simp at this
          omega
        refine .inl ⟨(wk i H2 (x2.trans r2.f.exG)).2 hl, ?_⟩
        have r3 := r2.wipe vs
        rw [hw] at r3
        have r4 : Rep z T G2 H2 (wipeE env2 vs) (wipe σ vs) := r3.temp (Da := Da) r3.f.tb (fun _ _ => rfl) (r2.gt Da tD) n3 (r3.noOw tD) (fun a u ha => by
          by_cases q : a = Da
          · subst q; rw [n2] at ha; cases ha
          · exact r2.exT a u (by rw [upd_ne q]; exact ha)) fun a ha => by
          by_cases q : a = Da
          · exact .inl q
          · exact .inr (by rw [upd_ne q]; exact ha)
        have r5 := r1.back' r4 x2
        have h2 : CR z T σ G Q (.new (acc ++ []), rstF (oldS env1) vs 0 (wipeE env2 vs)) := h2
        rw [List.append_nil] at h2
        refine h2 (.ref Da) H2 G2 r5 (e1.trans x2) ⟨Da, accV, rfl, hDa, ia, r2.gt Da tD, n2, n3, n4, fun j hj => ?_⟩
        obtain ⟨⟨s, es, os⟩, ep⟩ := hj
        rw [rstF_get, Nat.zero_add, Option.map_eq_some_iff] at es
        obtain ⟨s', es', ee⟩ := es
        by_cases hj : vs.contains j = true
        · rw [if_pos hj] at ee
          subst ee
          unfold oldS at os
          split at os <;> cases os
        · rw [if_neg hj] at ee
          subst ee
          exact r3.noOw tD j ⟨⟨s', es', os⟩, by rw [wipe_get (fun m => hj (by simpa using m))]; exact ep⟩
      | cons d rest =>
        rw [q] at h2
        obtain ⟨hd, hr⟩ := drop_cons q
        obtain ⟨hgo, hy⟩ := wk.at_ x2 r2.f.exG hd
        have hl : i < ds.length := getElem?_lt hd
        obtain ⟨e, eg, h2⟩ := (Pg.bind h2).ofO
        refine .inr ⟨hgo, fun H' => ∃ G' env' σ' acc accV, Rep z (upd T Da (.lst accV)) G' H' env' σ' ∧ wipe σ' vs = wipe σ vs ∧ Ex G1 G' ∧ IsA z.K z.cl G' accV acc ∧ acc.length ≤ i + 1 ∧
          Pg z E (fun q : List D × Ev => Pg z E (CR z T σ G Q) (.ok (.new (acc ++ q.1), rstF (oldS env1) vs 0 (wipeE q.2 vs)))) (lcF ga c f vs rest env'), fun H' ⟨G', env', σ', acc', accV', a1, a2, a3, a4, a5, a6⟩ => ⟨m - 1, by omega, G', env', σ', acc', accV', a1, a2, a3, by omega, a4, a5, by rw [hr]; exact a6⟩, fun x H' y => ?_⟩
        have r3 := r2.wipe vs
        rw [hw] at r3
        obtain ⟨G4, r4, x4, w4⟩ := r3.yield (hy x H' y)
        refine ⟨_, G4, _, d, e, r4, w4, eg, fun σ5 r5 hw5 => ?_⟩
        have hws : wipe σ5 vs = wipe (wipe σ vs) vs := hw5 vs his
        have ww : wipe (wipe σ vs) vs = wipe σ vs := by
          rw [← hw]
          apply List.ext_getElem?
          intro j
          by_cases hj : j ∈ vs
          · have one : ∀ τ : L2.St, (wipe τ vs)[j]? = if j < τ.length then some none else none := fun τ => by
              by_cases hl : j < τ.length
              · rw [if_pos hl]
                cases q : (wipe τ vs)[j]? with
                | none => rw [List.getElem?_eq_none_iff, wipe_length] at q; omega
                | some o =>
                  cases o with
                  | none => rfl
                  | some v => exact absurd hj (wipe_some q).2
              · rw [if_neg hl, List.getElem?_eq_none (by rw [wipe_length]; omega)]
            rw [one, one, wipe_length]
          · rw [wipe_get hj]
        rw [ww] at hws
        refine ⟨hws, _, G4, e, r5, ((Pg.bind h2).noX).imp fun b hb H6 G6 r6 x6 => ?_⟩
        obtain ⟨b1, env6⟩ := b
        cases b1 with
        | false => exact ⟨G6, env6, σ5, acc, accV, r6, hws, (x2.trans x4).trans x6, ia.mono (x4.trans x6), by omega, hb⟩
        | true =>
          refine ⟨_, G6, env6, r6, ((Pg.bind (show Pg z E _ ((noX (f env6)).bind _) from hb)).noX).imp fun u hu v H7 G7 r7 x7 w7 => ?_⟩
          obtain ⟨u1, env7⟩ := u
          obtain ⟨G8, r8, x8, w8⟩ := w7.opd r7
          obtain ⟨⟨yd, env9⟩, ef, hu⟩ := (Pg.bind hu).ofO
          obtain ⟨G9, r9, x9, w9⟩ := w8.fix r8 ef
          have xx : Ex G2 G9 := ((x4.trans x6).trans (x7.trans x8)).trans x9
          have hD9 : H7 Da = some (.lst accV) := r9.exT Da _ upd_same
          refine ⟨accV, hD9, ?_, G9, env9, σ5, acc ++ [yd], accV ++ [v], ?_, hws, x2.trans xx, (ia.mono xx).append (.cons w9 .nil), by rw [List.length_append]; simp; omega, ?_⟩
          · rw [ia.length]
            exact line100' (by omega)
          · refine r9.temp (Da := Da) (tabs_L r9.f.tb hD9) (fun a ha => upd_ne ha) (r9.gt Da tD) n3 (r9.noOw tD) (fun a u ha => ?_) fun a ha => ?_
            · by_cases q : a = Da
              · subst q; rw [upd_same] at ha ⊢; exact ha
              · rw [upd_ne q] at ha ⊢
                exact r9.exT a u (by rw [upd_ne q]; exact ha)
            · by_cases q : a = Da
              · exact .inl q
              · rw [upd_ne q] at ha
                exact .inr (by rw [upd_ne q]; exact ha)
          · refine (Pg.bind hu).imp fun rr hrr => ?_
            have e3 : acc ++ [yd] ++ rr.1 = acc ++ (yd :: rr.1) := by simp
            rw [e3]
            exact hrr
  · exact hp.elim
theorem we_lc (o : OkX X z E k) (ok : BlkOk X.N X.env.scope scope own) (hi : PI X tg iter (tI z E fi))
    (hg : ∀ (s : Shared) (H : Hp) (C : Addr) (cl : List (Str × Addr)) (fp : List Addr), PG (X.blk s H scope (compEnvC scope cl C X.env) fp) tg (tG z is ga)) (ht : ∀ (s : Shared) (H : Hp) (C : Addr) (cl : List (Str × Addr)) (fp : List Addr), PTs (X.blk s H scope (compEnvC scope cl C X.env) fp) ifs (tT z E0 c))
    (he : ∀ (s : Shared) (H : Hp) (C : Addr) (cl : List (Str × Addr)) (fp : List Addr), PE (X.blk s H scope (compEnvC scope cl C X.env) fp) elt (tE z E0 f)) (his : ∀ i ∈ is, i ∈ own.map (·.2) := by decide) (hs : ∀ x, foldedSetIterable iter X.env x = pure x := by intro _; rfl) :
    PE X (.ListComp elt [⟨tg, iter, ifs, 0⟩] scope pos) (tE z E (fLc fi ga c f (own.map (·.2)))) := pe_mono (pe_lc o.calm o.nd hi ok hg ht he hs) fun σ H Q h => te_lc his h
end
end TN
namespace TN
open PySem PySem.Spec PyProof.Rows L2
def retOf (env : Ev) : R → Option R0
  | .d x => some (.d x)
  | .new xs => some (.ls xs)
  | .at_ i => match env[i]? with
    | some (.val y) => some (.d y)
    | some (.own xs) => some (.ls xs)
    | _ => none
def parOf (m : Bool) (env : Ev) : Option (List D) := if m = true then match env[(0 : Nat)]? with
  | some (.par xs) => some xs
  | _ => none else some []
def startE (m : Bool) (n : Nat) (ds : List D) : Option Ev := if m = true then match ds with
  | .lst xs :: r => some (.par xs :: r.map Sl.val ++ List.replicate (n - ds.length) .no)
  | _ => none else some (ds.map Sl.val ++ List.replicate (n - ds.length) .no)
def fnOf (m : Bool) (n : Nat) (body : S) : Fn := fun ds => (ofO (startE m n ds)).bind fun e => (body e).bind fun p => match p.1 with
  | .nx => (ofO (parOf m p.2)).bind fun xs => .ok (.d .non, xs)
  | .ret r => (ofO (retOf p.2 r)).bind fun q => (ofO (parOf m p.2)).bind fun xs => .ok (q, xs)
section
variable {z : Z} {E : XK} {G H : Hp} {M : Option Addr} {m : Bool}
theorem slots_vals {K : PySem.W.Frag} {cl : Cl} : ∀ {vs : List V} {ds : List D} {i : Nat} {s : Sl}, IsA K cl G vs ds → (ds.map Sl.val)[i]? = some s → ∃ d v, s = .val d ∧ vs[i]? = some v ∧ Is K cl G v d
  | vs, ds, i, s, h, e => by
    rw [List.getElem?_map, Option.map_eq_some_iff] at e
    obtain ⟨d, e1, e2⟩ := e
    obtain ⟨v, h1, h2⟩ := h.get e1
    exact ⟨d, v, e2.symm, h1, h2⟩
theorem start_get {N : List Str} {vs : List V} {i : Nat} {v : V} (h : vs[i]? = some v) : (L2.start N vs)[i]?.join = some v := by
  unfold L2.start
  rw [List.getElem?_append_left (by rw [List.length_map]; exact getElem?_lt h), List.getElem?_map, h]
  rfl
theorem start_len {N : List Str} {vs : List V} (h : vs.length ≤ N.length) : (L2.start N vs).length = N.length := by
  unfold L2.start
  rw [List.length_append, List.length_map, List.length_replicate]
  omega
theorem args_len {vs : List V} {ds : List D} (a : Args' z G H m vs ds M) : vs.length = ds.length := by
  cases a with
  | pure a => exact a.length
  | wr _ _ _ a => exact congrArg (· + 1) a.length
theorem rep_start {N : List Str} {vs : List V} {ds : List D} {env : Ev} (a : Args' z G H m vs ds M) (e : Ex G H ∧ LamX.Tabs z.Ts H ∧ ∀ p ∈ z.Ts, G p.1 = none) (hn : vs.length ≤ N.length) (hs : startE m N.length ds = some env) : Rep (z.at_ G H M) (fun _ => none) G H env (L2.start N vs) := by
  have hl := args_len a
  have fr : (∀ b, M = some b → (∃ ws, H b = some (.lst ws)) ∧ G b = none) → Fr (z.at_ G H M) G H := fun hm =>
    ⟨e.1, Ex.refl G, fun b hb => .inl hb, fun b o hb _ _ => hb, hm, (fun b hb => by
      obtain ⟨⟨ws, h⟩, _⟩ := hm b hb
      show H b ≠ none
      rw [h]; intro w; cases w), e.2.1, (fun p hp => ⟨(by
      obtain ⟨ps, h, _⟩ := e.2.1 p hp
      show H p.1 ≠ none
      rw [h]; intro w; cases w), e.2.2 p hp⟩)⟩
  have rep : ∀ {i k : Nat} {s : Sl}, (List.replicate k Sl.no)[i]? = some s → s = .no := fun {i k s} h => (List.mem_replicate.mp (List.mem_of_getElem? h)).2
  cases a with
  | pure a =>
    cases hs
    have len : (ds.map Sl.val ++ List.replicate (N.length - ds.length) Sl.no).length = (L2.start N vs).length := by
      rw [start_len hn, List.length_append, List.length_map, List.length_replicate]
      omega
    refine ⟨fr (fun b hb => by cases hb), len, fun i s es => ?_, fun i j p hi => ?_, (fun _ _ h => by cases h), fun _ h => absurd rfl h, fun _ h => absurd rfl h⟩
    · by_cases q : i < ds.length
      · rw [List.getElem?_append_left (by simpa using q)] at es
        obtain ⟨d, v, rfl, hv, w⟩ := slots_vals a es
        exact ⟨v, start_get hv, w⟩
      · rw [List.getElem?_append_right (by simpa using q)] at es
        rw [rep es]
        trivial
    · obtain ⟨⟨s, es, os⟩, _⟩ := hi
      by_cases q : i < ds.length
      · rw [List.getElem?_append_left (by simpa using q)] at es
        obtain ⟨d, v, rfl, hv, w⟩ := slots_vals a es
        cases os
      · rw [List.getElem?_append_right (by simpa using q)] at es
        rw [rep es] at os
        cases os
  | @wr p ws vs xs ds g hp a a' =>
    cases hs
    have len : (Sl.par xs :: ds.map Sl.val ++ List.replicate (N.length - (D.lst xs :: ds).length) Sl.no).length = (L2.start N (V.ref p :: vs)).length := by
      rw [start_len hn, List.length_append, List.length_cons, List.length_map, List.length_replicate, List.length_cons]
      simp only [List.length_cons] at hn hl
      omega
    have zero : ∀ {i : Nat} {s : Sl}, (Sl.par xs :: ds.map Sl.val ++ List.replicate (N.length - (D.lst xs :: ds).length) Sl.no)[i]? = some s → s.ow = true → i = 0 := fun {i s} es os => by
      cases i with
      | zero => rfl
      | succ i =>
        rw [List.cons_append, List.getElem?_cons_succ] at es
        by_cases q : i < ds.length
        · rw [List.getElem?_append_left (by simpa using q)] at es
          obtain ⟨d, v, rfl, hv, w⟩ := slots_vals a' es
          cases os
        · rw [List.getElem?_append_right (by simpa using q)] at es
          rw [rep es] at os
          cases os
    refine ⟨fr (fun b hb => by cases hb; exact ⟨⟨ws, hp⟩, g⟩), len, fun i s es => ?_, fun i j p' hi hj => ?_, (fun _ _ h => by cases h), fun _ h => absurd rfl h, fun _ h => absurd rfl h⟩
    · cases i with
      | zero =>
        rw [List.cons_append, List.getElem?_cons_zero] at es
        cases es
        exact ⟨p, ws, start_get (vs := V.ref p :: vs) rfl, rfl, rfl, hp, a⟩
      | succ i =>
        rw [List.cons_append, List.getElem?_cons_succ] at es
        by_cases q : i < ds.length
        · rw [List.getElem?_append_left (by simpa using q)] at es
          obtain ⟨d, v, rfl, hv, w⟩ := slots_vals a' es
          exact ⟨v, start_get (vs := V.ref p :: vs) (by simpa using hv), w⟩
        · rw [List.getElem?_append_right (by simpa using q)] at es
          rw [rep es]
          trivial
    · obtain ⟨⟨s, es, os⟩, _⟩ := hi
      obtain ⟨⟨s', es', os'⟩, _⟩ := hj
      rw [zero es os, zero es' os']
end
section
variable {P : Program} {w : World} {K : PySem.W.Frag} {mg : Str → Option Value} {base : Heap}
theorem fn_ok {x qual : Str} {st : Stmt} {f : Addr} {fd : FuncData} {N ps : List Str} {k : Nat} {z : Z} {m : Bool} {body : S} (Fn' : Fun K x qual st f fd) (Sc : FnScope N ps (defScope st)) (hK : K = z.K)
    (hb : ∀ (cdv : Value) (A : Around) (outer : List Env) (s : Shared) (H : Hp) (E : XK) (G H' : Hp) (M : Option Addr), OkX (cxOf (L2.CX P w) P w K mg base N qual (defScope st) f cdv A outer s H E) (z.at_ G H' M) E k →
      PSs (cxOf (L2.CX P w) P w K mg base N qual (defScope st) f cdv A outer s H E) (defBody st) (tS (z.at_ G H' M) E body)) :
    FnOk P w K mg base (L2.CX P w) (k + 1) f fd ps (spF z m ps.length (fnOf m N.length body)) := by
  refine Fn'.okX Sc (fun vs H Q E h => ?_) fun cdv A outer s H vs Q E hr h => ?_
  · obtain ⟨G, ds, M, _, _, hl, _⟩ := h
    exact hl
  · obtain ⟨G, ds, M, a, e, hl, h⟩ := h
    have o : OkX (cxOf (L2.CX P w) P w K mg base N qual (defScope st) f cdv A outer s H E) (z.at_ G H M) E k :=
      ⟨hK, takes_of rfl rfl rfl rfl, rfl, Sc.nd, hr, passes_of rfl⟩
    refine ⟨_, hb cdv A outer s H E G H M o, ?_⟩
    obtain ⟨env, es, h⟩ := (Pg.bind h).ofO
    have hn : vs.length ≤ N.length := by
      have := Sc.pre
      rw [hl, ← this, List.length_take]
      exact Nat.min_le_right _ _
    have r := rep_start a e hn es
    have pa : ∀ {G' H' : Hp} {env' : Ev} {σ' : L2.St} {xs : List D}, Rep (z.at_ G H M) (fun _ => none) G' H' env' σ' → parOf m env' = some xs → ∀ b, (z.at_ G H M).M = some b → ∃ ws, H' b = some (.lst ws) ∧ IsA z.K z.cl G' ws xs := by
      intro G' H' env' σ' xs r' ep b hb'
      cases a with
      | pure a => cases hb'
      | @wr p ws vs xs0 ds g hp a a' =>
        cases hb'
        unfold parOf at ep
        rw [if_pos rfl] at ep
        split at ep
        · rename_i ys q
          cases ep
          obtain ⟨p', vs', _, _, hm, hp', ia⟩ := r'.sl 0 _ q
          cases hm
          exact ⟨vs', hp', ia⟩
        · cases ep
    refine ⟨_, G, env, r, (Pg.bind h).imp fun p hp => ?_⟩
    obtain ⟨p1, p2⟩ := p
    cases p1 with
    | nx =>
      intro σ' H' G' r' x'
      obtain ⟨xs, ex, hp⟩ := (Pg.bind hp).ofO
      exact hp .non H' G' r'.f .non (pa r' ex)
    | ret rr =>
      intro v σ' H' G' r' x' w'
      obtain ⟨q, eq, hp⟩ := (Pg.bind hp).ofO
      obtain ⟨xs, ex, hp⟩ := (Pg.bind hp).ofO
      refine hp v H' G' r'.f ?_ (pa r' ex)
      cases rr with
      | d y => cases eq; exact w'
      | new ys =>
        cases eq
        obtain ⟨p, vs', e1, hp', ia, g, _, h0, hm, _⟩ := w'
        exact ⟨p, vs', e1, hp', ia, g, h0, hm⟩
      | at_ i =>
        have w' : σ'[i]?.join = some v := w'
        simp only [retOf] at eq
        split at eq
        · rename_i y q
          cases eq
          have sl := r'.sl i _ q
          rw [w'] at sl
          obtain ⟨v', e1, sl⟩ := sl
          cases e1
          exact sl
        · rename_i ys q
          cases eq
          have sl := r'.sl i _ q
          rw [w'] at sl
          obtain ⟨p, vs', e1, g, _, h0, hp', ia⟩ := sl
          cases e1
          exact ⟨p, vs', rfl, hp', ia, g, h0, fun e2 => r'.f.m0 p e2 h0⟩
        · cases eq
end
def lstAt (env : Ev) (i : Nat) : Option (List D × (List D → Sl)) := match env[i]? with
  | some (.own xs) => some (xs, .own)
  | some (.par xs) => some (xs, .par)
  | _ => none
section
variable {X : Cx} {z : Z} {E : XK} {k n : Nat} {T G H : Hp} {env : Ev} {σ : L2.St} {i : Nat} {pos p2 : Pos} {e ei : Expr} {f fi : F}
theorem lstAt_ow {xs : List D} {mk : List D → Sl} (r : Rep z T G H env σ) (h : lstAt env i = some (xs, mk)) : ∃ p vs, σ[i]? = some (some (.ref p)) ∧ Ow env σ i p ∧ H p = some (.lst vs) ∧ IsA z.K z.cl G vs xs ∧
    ∀ (ws : List V) (ys : List D), IsA z.K z.cl G ws ys → Rep z T G (upd H p (.lst ws)) (env.set i (mk ys)) σ := by
  have sj : ∀ {v : V}, (σ[i]?.join) = some v → σ[i]? = some (some v) := fun {v} e => by
    cases q : σ[i]? with
    | none => rw [q] at e; cases e
    | some o => rw [q] at e; exact congrArg some e
  unfold lstAt at h
  split at h
  · rename_i ys q
    cases h
    obtain ⟨p, vs, e, _, _, _, hp, a⟩ := r.sl i _ q
    have how : Ow env σ i p := ⟨⟨_, q, rfl⟩, e⟩
    exact ⟨p, vs, sj e, how, hp, a, fun ws ys b => r.mut how (.inl ⟨rfl, _, q⟩) b⟩
  · rename_i ys q
    cases h
    obtain ⟨p, vs, e, _, _, hp, a⟩ := r.sl i _ q
    have how : Ow env σ i p := ⟨⟨_, q, rfl⟩, e⟩
    exact ⟨p, vs, sj e, how, hp, a, fun ws ys b => r.mut how (.inr ⟨rfl, _, q⟩) b⟩
  · cases h
theorem te_fix {β : Type} {C : Hp → β → Prop} {kk : D × Ev → Out β} (r : Rep z T G H env σ) (mono : ∀ G G' b, Ex G G' → C G b → C G' b) (h : Pg z E (C G) ((f env).bind fun p => (ofO (p.1.opd.fix p.2)).bind kk)) :
    tE z E f σ H fun v H' => ∃ y G', Rep z T G' H' y.2 σ ∧ Ex G G' ∧ Is z.K z.cl G' v y.1 ∧ Pg z E (C G') (kk y) := by
  refine ⟨T, G, env, r, (Pg.bind h).imp fun p hp v H1 G1 r1 e1 w1 => ?_⟩
  obtain ⟨G2, r2, e2, w2⟩ := w1.opd r1
  obtain ⟨⟨d, e3⟩, ef, hp⟩ := (Pg.bind hp).ofO
  obtain ⟨G3, r3, x3, w3⟩ := w2.fix r2 ef
  exact ⟨(d, e3), G3, r3, (e1.trans e2).trans x3, w3, hp.imp fun b hb => mono _ _ _ ((e1.trans e2).trans x3) hb⟩
def fApp (i : Nat) (f : F) : F := fun env => (ofO (lstAt env i)).bind fun _ => (f env).bind fun p => (ofO (p.1.opd.fix p.2)).bind fun y => (ofO (lstAt y.2 i)).bind fun l =>
  if l.1.length < 100000 then .ok (.d .non, y.2.set i (l.2 (l.1 ++ [y.1]))) else .no
theorem te_app {Q : VK} (hK : X.K = z.K) (h : tE z E (fApp i f) σ H Q) : tBM X.K "list" rAppend (tVar i) (tCons (tE z E f) tNil) σ H Q := by
  rw [hK]
  obtain ⟨T, G, env, r, h⟩ := h
  obtain ⟨⟨xs0, mk0⟩, el0, h⟩ := (Pg.bind h).ofO
  obtain ⟨p0, vs0, es0, _, hp0, _, _⟩ := lstAt_ow r el0
  refine ⟨_, es0, .inl ⟨rfl, vs0, SqL.of hp0⟩, te_imp (fun v H' q => ?_) (te_fix (C := fun G b => CR z T σ G Q b) r (fun _ _ _ e h => CR.mono h e) h)⟩
  obtain ⟨⟨y, e2⟩, G2, r2, x2, w2, hq⟩ := q
  obtain ⟨⟨xs, mk⟩, el, hq⟩ := (Pg.bind hq).ofO
  obtain ⟨p, vs, es, _, hp, a, st⟩ := lstAt_ow r2 el
  rw [es0] at es
  cases es
  dsimp only at hq
  split at hq
  · rename_i hl
    exact ⟨p0, vs, v, rfl, rfl, hp, by rw [a.length]; exact line100' hl, hq .non _ G2 (st _ _ (a.append (.cons w2 .nil))) (Ex.refl G2) .non⟩
  · exact hq.elim
theorem we_app {c : Expr} (o : OkX X z E k) (h : PE X c (tBM X.K "list" rAppend (tVar i) (tCons (tE z E f) tNil))) : PE X c (tE z E (fApp i f)) := pe_mono h fun _ _ _ h => te_app o.K h
end
end TN
namespace TN
open PySem PySem.Spec PyProof.Rows L2
section
variable {K : PySem.W.Frag} {cl : Cl} {G H : Hp} {v : V}
theorem isTup {ds : List D} (e : Ex G H) (h : IsT K cl G H v (.tup ds)) : ∃ a vs, v = .ref a ∧ SqT K H a vs ∧ IsA K cl G vs ds ∧ TupX K G a vs := by
  rcases h with h | ⟨_, _, _, _, q, _⟩
  · cases h with
    | tup hs ha => exact ⟨_, _, rfl, ex_t e hs.sq, ha, hs⟩
  · cases q
theorem isLst {ds : List D} (e : Ex G H) (h : IsT K cl G H v (.lst ds)) : ∃ a vs, v = .ref a ∧ H a = some (.lst vs) ∧ IsA K cl G vs ds := by
  rcases h with h | ⟨p, vs, xs, ev, q, hp, a⟩
  · cases h with
    | lst hs ha => exact ⟨_, _, rfl, e _ _ hs, ha⟩
  · cases q; exact ⟨p, vs, ev, hp, a⟩
theorem isScr {ns : List Int} (e : Ex G H) (h : IsT K cl G H v (.scr ns)) : ∃ a, v = .ref a ∧ SqL K H a (ns.map V.int) := by
  rcases h with h | ⟨p, vs, xs, ev, q, hp, a⟩
  · cases h with
    | scr hs => exact ⟨_, rfl, ex_l e hs⟩
  · cases q
theorem isBl {b : Bool} (h : IsT K cl G H v (.bl b)) : v = .bl b := by
  rcases h with h | ⟨_, _, _, _, q, _⟩
  · cases h; rfl
  · cases q
theorem isStr {b : Str} (h : IsT K cl G H v (.str b)) : v = .str b := by
  rcases h with h | ⟨_, _, _, _, q, _⟩
  · cases h; rfl
  · cases q
theorem isTy {n : String} (h : IsT K cl G H v (.ty n)) : v = .ty n := by
  rcases h with h | ⟨_, _, _, _, q, _⟩
  · cases h; rfl
  · cases q
end
def oI (g : Int → Int → Option D) : D → D → Out R0 := fun x y => match x, y with
  | .int i, .int j => match g i j with
    | some k => .ok (.d k)
    | none => .no
  | _, _ => .no
section
variable {X : Cx} {z : Z} {f : Value → Value → Sem Value}
theorem opD_I {C : Int → Int → Prop} {h : Int → Int → V} {g : Int → Int → Option D} (hr : OpR X f (rI C h)) (hg : ∀ i j d, g i j = some d → C i j ∧ ∀ K cl G, Is K cl G (h i j) d) : OpD X z f (oI g) := by
  refine ⟨⟨_, hr, fun G H x y dx dy Q e ix iy p => ?_⟩, fun x y c d => ?_⟩
  · unfold oI at p
    split at p
    · split at p
      · rename_i q
        obtain ⟨c1, c2⟩ := hg _ _ _ q
        exact ⟨_, _, isInt ix, isInt iy, c1, p _ (c2 _ _ _)⟩
      · exact p.elim
    · exact p.elim
  · unfold oI
    split
    · split <;> (intro h; cases h)
    · intro h; cases h
theorem opD_I0 {h : Int → Int → V} {g : Int → Int → Option D} (hr : OpR X f (rI0 h)) (hg : ∀ i j d, g i j = some d → ∀ K cl G, Is K cl G (h i j) d) : OpD X z f (oI g) :=
  opD_I (C := fun _ _ => True) (h := h) (fun pins s σ H x y v u Q I rx ry ⟨i, j, e1, e2, _, q⟩ => hr pins s σ H x y v u Q I rx ry ⟨i, j, e1, e2, q⟩) fun i j d e => ⟨trivial, hg i j d e⟩
def gMinus : Int → Int → Option D := fun i j => some (.int (i - j))
def gMul : Int → Int → Option D := fun i j => if (-(2 ^ 64) < i ∧ i < 2 ^ 64) ∨ (-(2 ^ 64) < j ∧ j < 2 ^ 64) then some (.int (i * j)) else none
def gDiv : Int → Int → Option D := fun i j => if 0 < j ∧ j < 1073741824 then some (.int (i / j)) else none
def gMod : Int → Int → Option D := fun i j => if 0 < j then some (.int (i % j)) else none
def gPow : Int → Int → Option D := fun i j => if 0 ≤ j ∧ (Builtin.Int.intBits i : Int) * j ≤ 2 ^ 27 then some (.int (i ^ j.toNat)) else none
def gShl : Int → Int → Option D := fun i j => if 0 ≤ j ∧ j ≤ 1000000 ∧ i.natAbs < 2 ^ 64 then some (.int (i * 2 ^ j.toNat)) else none
def gShr : Int → Int → Option D := fun i j => if 0 ≤ j then some (.int (i / 2 ^ j.toNat)) else none
def gAnd : Int → Int → Option D := fun i j => some (.int (Builtin.bitAnd i j))
def gXor : Int → Int → Option D := fun i j => some (.int (Builtin.bitXor i j))
def gLt : Int → Int → Option D := fun i j => some (.bl (decide (i < j)))
def gLe : Int → Int → Option D := fun i j => some (.bl (decide (i ≤ j)))
def gGt : Int → Int → Option D := fun i j => some (.bl (decide (j < i)))
def gGe : Int → Int → Option D := fun i j => some (.bl (decide (j ≤ i)))
theorem od_sub : OpD X z (binaryOp .Sub) (oI gMinus) := opD_I0 op_sub fun i j d e => by cases e; exact fun _ _ _ => .int _
theorem od_div : OpD X z (binaryOp .FloorDiv) (oI gDiv) := opD_I op_fdiv fun i j d e => by
  unfold gDiv at e
  split at e
  · rename_i q; cases e; exact ⟨q, fun _ _ _ => .int _⟩
  · cases e
theorem od_mod : OpD X z (binaryOp .Mod) (oI gMod) := opD_I op_mod fun i j d e => by
  unfold gMod at e
  split at e
  · rename_i q; cases e; exact ⟨q, fun _ _ _ => .int _⟩
  · cases e
theorem op_powW : OpR X (binaryOp .Pow) (rI (fun i j => 0 ≤ j ∧ (Builtin.Int.intBits i : Int) * j ≤ 2 ^ 27) fun i j => .int (i ^ j.toNat)) := opI fun _ _ _ _ _ _ _ hc q => pow_int hc.1 hc.2 q
theorem od_pow : OpD X z (binaryOp .Pow) (oI gPow) := opD_I op_powW fun i j d e => by
  unfold gPow at e
  split at e
  · rename_i q; cases e; exact ⟨q, fun _ _ _ => .int _⟩
  · cases e
theorem od_shl : OpD X z (binaryOp .LShift) (oI gShl) := opD_I op_shl fun i j d e => by
  unfold gShl at e
  split at e
  · rename_i q; cases e; exact ⟨q, fun _ _ _ => .int _⟩
  · cases e
theorem od_shr : OpD X z (binaryOp .RShift) (oI gShr) := opD_I op_shr fun i j d e => by
  unfold gShr at e
  split at e
  · rename_i q; cases e; exact ⟨q, fun _ _ _ => .int _⟩
  · cases e
theorem od_and : OpD X z (binaryOp .BitAnd) (oI gAnd) := opD_I0 op_and fun i j d e => by cases e; exact fun _ _ _ => .int _
theorem od_xor : OpD X z (binaryOp .BitXor) (oI gXor) := opD_I0 op_xor fun i j d e => by cases e; exact fun _ _ _ => .int _
theorem od_lt : OpD X z (compareOp .Lt) (oI gLt) := opD_I0 op_lt fun i j d e => by cases e; exact fun _ _ _ => .bl _
theorem od_le : OpD X z (compareOp .LtE) (oI gLe) := opD_I0 op_le fun i j d e => by cases e; exact fun _ _ _ => .bl _
theorem od_gt : OpD X z (compareOp .Gt) (oI gGt) := opD_I0 op_gt fun i j d e => by cases e; exact fun _ _ _ => .bl _
end
def dAdd : D → D → Out R0
  | .int i, .int j => .ok (.d (.int (i + j)))
  | .tup a, .tup b => if a.length + b.length ≤ 100000 then (match a, b with
      | [], b => .ok (.d (.tup b))
      | a, [] => .ok (.d (.tup a))
      | a, b => .ok (.tp (a ++ b))) else .no
  | .lst a, .lst b => if a.length + b.length ≤ 100000 then .ok (.ls (a ++ b)) else .no
  | .str a, .str b => if a.length + b.length ≤ 100000 then .ok (.d (.str (a ++ b))) else .no
  | _, _ => .no
def dMul : D → D → Out R0
  | .int i, .int j => match gMul i j with
    | some k => .ok (.d k)
    | none => .no
  | .lst a, .int k => if -(2 ^ 63) ≤ k ∧ k < 2 ^ 63 ∧ a.length * k.toNat ≤ 100000 then .ok (.ls (List.replicate k.toNat a).flatten) else .no
  | .tup a, .int k => if a ≠ [] ∧ 2 ≤ k ∧ k ≤ 1000 ∧ a.length ≤ 1000 then .ok (.tp (List.replicate k.toNat a).flatten) else .no
  | _, _ => .no
instance (a : List D) : Decidable (a ≠ []) := match a with
  | [] => isFalse fun h => h rfl
  | _ :: _ => isTrue fun h => by cases h
section
variable {X : Cx} {z : Z}
theorem od_add (hK : X.K = z.K) : OpD X z (binaryOp .Add) dAdd := by
  refine ⟨⟨_, op_add.or (op_catX.or (op_cat.or op_add_str)), fun G H x y dx dy Q e ix iy p => ?_⟩, fun x y c d => ?_⟩
  · rw [hK]
    unfold dAdd at p
    split at p
    · exact .inl ⟨_, _, isInt ix, isInt iy, p _ (.int _)⟩
    · split at p
      · rename_i a b hl
        obtain ⟨p1, vs, rfl, hs, ia, hg⟩ := isTup e ix
        obtain ⟨p2, ws, rfl, hs2, ib, hg2⟩ := isTup e iy
        refine .inr (.inl ⟨p1, p2, vs, ws, rfl, rfl, hs, hs2, by rw [ia.length, ib.length]; exact line100 hl, fun q => ?_, fun q q2 => ?_, fun q q2 => ?_⟩)
        · subst q
          cases ia
          exact p _ (.tup hg2 ib)
        · subst q2
          cases ib
          cases ia with
          | nil => exact absurd rfl q
          | cons h t => exact p _ (.tup hg (.cons h t))
        · cases ia with
          | nil => exact absurd rfl q
          | cons h t =>
            cases ib with
            | nil => exact absurd rfl q2
            | cons h2 t2 => exact fun pp oo hp hd => p pp _ oo hp hd (IsA.append (.cons h t) (.cons h2 t2))
      · exact p.elim
    · split at p
      · rename_i a b hl
        obtain ⟨p1, vs, rfl, hs, ia⟩ := isLst e ix
        obtain ⟨p2, ws, rfl, hs2, ib⟩ := isLst e iy
        exact .inr (.inr (.inl ⟨p1, p2, vs, ws, rfl, rfl, hs, hs2, by rw [ia.length, ib.length]; exact line100 hl, fun pp hp => p pp _ hp (ia.append ib)⟩))
      · exact p.elim
    · split at p
      · rename_i a b hl
        exact .inr (.inr (.inr ⟨_, _, isStr ix, isStr iy, line100 hl, p _ (.str _)⟩))
      · exact p.elim
    · exact p.elim
  · unfold dAdd
    split <;> (try split) <;> (try split) <;> (intro h; cases h)
theorem od_mul (hK : X.K = z.K) : OpD X z (binaryOp .Mult) dMul := by
  refine ⟨⟨_, op_mul.or (op_rep.or op_repX), fun G H x y dx dy Q e ix iy p => ?_⟩, fun x y c d => ?_⟩
  · rw [hK]
    unfold dMul at p
    split at p
    · split at p
      · rename_i i j k q
        unfold gMul at q
        split at q
        · rename_i hc; cases q; exact .inl ⟨_, _, isInt ix, isInt iy, hc, p _ (.int _)⟩
        · cases q
      · exact p.elim
    · split at p
      · rename_i a k hl
        obtain ⟨p1, vs, rfl, hs, ia⟩ := isLst e ix
        refine .inr (.inl ⟨p1, k, vs, rfl, isInt iy, hs, hl.1, hl.2.1, by rw [ia.length]; exact line100 hl.2.2, fun pp hp => p pp _ hp (ia.rep _)⟩)
      · exact p.elim
    · split at p
      · rename_i a k hl
        obtain ⟨p1, vs, rfl, hs, ia, _⟩ := isTup e ix
        refine .inr (.inr ⟨p1, k, vs, rfl, isInt iy, hs, fun q => ?_, hl.2.1, hl.2.2.1, by rw [ia.length]; exact hl.2.2.2, fun pp oo hp hd => p pp _ oo hp hd (ia.rep _)⟩)
        subst q
        cases ia
        exact hl.1 rfl
      · exact p.elim
    · exact p.elim
  · unfold dMul
    split <;> (try split) <;> (intro h; cases h)
end
mutual
def toPy : D → Option PyData
  | .non => some .none
  | .bl b => some (.bool b)
  | .int i => some (.int i)
  | .str x => some (.str x)
  | .tup ds => match toPyL ds with
    | some ps => some (.tuple ps)
    | none => none
  | .lst ds => match toPyL ds with
    | some ps => some (.list ps)
    | none => none
  | _ => none
def toPyL : List D → Option (List PyData)
  | [] => some []
  | d :: ds => match toPy d with
    | some p => match toPyL ds with
      | some ps => some (p :: ps)
      | none => none
    | none => none
end
mutual
theorem toPy_plain : ∀ {d : D} {p : PyData}, toPy d = some p → p.plain = true
  | .non, _, e => by cases e; rfl
  | .bl b, _, e => by cases e; rfl
  | .int i, _, e => by cases e; rfl
  | .str x, _, e => by cases e; rfl
  | .tup ds, p, e => by
    simp only [toPy] at e
    split at e
    · rename_i ps q; cases e; exact toPyL_plain q
    · cases e
  | .lst ds, p, e => by
    simp only [toPy] at e
    split at e
    · rename_i ps q; cases e; exact toPyL_plain q
    · cases e
  | .scr _, _, e => by cases e
  | .dct, _, e => by cases e
  | .obj _ _, _, e => by cases e
  | .ty _, _, e => by cases e
  | .cls _, _, e => by cases e
theorem toPyL_plain : ∀ {ds : List D} {ps : List PyData}, toPyL ds = some ps → PyData.plainAll ps = true
  | [], _, e => by cases e; rfl
  | d :: ds, ps, e => by
    simp only [toPyL] at e
    split at e
    · rename_i p q
      split at e
      · rename_i ps' q2
        cases e
        simp only [PyData.plainAll, toPy_plain q, toPyL_plain q2, Bool.and_self]
      · cases e
    · cases e
end
section
variable {K : PySem.W.Frag} {cl : Cl} {G H : Hp}
mutual
theorem is_dp : ∀ {d : D} {v : V} {p : PyData}, Is K cl H v d → toPy d = some p → Dp K H v p
  | .non, _, _, h, e => by cases e; cases h; exact .non
  | .bl b, _, _, h, e => by cases e; cases h; exact .bl b
  | .int i, _, _, h, e => by cases e; cases h; exact .int i
  | .str x, _, _, h, e => by cases e; cases h; exact .str x
  | .tup ds, v, p, h, e => by
    simp only [toPy] at e
    split at e
    · rename_i ps q
      cases e
      cases h with
      | tup hs ha => exact .tup hs.sq (isA_dp ha q)
    · cases e
  | .lst ds, v, p, h, e => by
    simp only [toPy] at e
    split at e
    · rename_i ps q
      cases e
      cases h with
      | lst hs ha => exact .lst (SqL.of hs) (isA_dp ha q)
    · cases e
  | .wtup _, _, _, _, e => by cases e
  | .scr _, _, _, _, e => by cases e
  | .dct, _, _, _, e => by cases e
  | .obj _ _, _, _, _, e => by cases e
  | .ty _, _, _, _, e => by cases e
  | .cls _, _, _, _, e => by cases e
theorem isA_dp : ∀ {ds : List D} {vs : List V} {ps : List PyData}, IsA K cl H vs ds → toPyL ds = some ps → DpAll K H vs ps
  | [], _, _, h, e => by cases e; cases h; exact .nil
  | d :: ds, vs, ps, h, e => by
    simp only [toPyL] at e
    split at e
    · rename_i p q
      split at e
      · rename_i ps' q2
        cases e
        cases h with
        | cons h1 h2 => exact .cons (is_dp h1 q) (isA_dp h2 q2)
      · cases e
    · cases e
end
theorem isT_dp {d : D} {v : V} {p : PyData} (e : Ex G H) (h : IsT K cl G H v d) (q : toPy d = some p) : Dp K H v p := by
  rcases h with h | ⟨a, vs, xs, rfl, rfl, hp, ia⟩
  · exact is_dp (cl := cl) (h.mono e) q
  · exact is_dp (cl := cl) (.lst hp (ia.mono e)) q
end
def dEq (neg : Bool) (x y : D) : Out R0 := match toPy x, toPy y with
  | some a, some b => if a.depth ≤ 60 then .ok (.d (.bl (if neg then !PyData.eqv a b else PyData.eqv a b))) else .no
  | _, _ => .no
def dIn (neg : Bool) (x c : D) : Out R0 := match toPy x, toPy c with
  | some a, some (.list ps) => if a.depth ≤ 60 then .ok (.d (.bl (if neg then !ps.any (fun y => PyData.eqv y a) else ps.any fun y => PyData.eqv y a))) else .no
  | some a, some (.tuple ps) => if a.depth ≤ 60 then .ok (.d (.bl (if neg then !ps.any (fun y => PyData.eqv y a) else ps.any fun y => PyData.eqv y a))) else .no
  | _, _ => .no
section
variable {X : Cx} {z : Z} {E : XK} {k : Nat}
theorem od_eq (o : OkX X z E k) : OpD X z (compareOp .Eq) (dEq false) := by
  refine ⟨⟨fun x y H Q => ∃ d e, Dp X.K H x d ∧ Dp X.K H y e ∧ d.plain = true ∧ e.plain = true ∧ d.depth ≤ 60 ∧ Q (.bl (PyData.eqv d e)) H, fun pins s σ H x y v u Q I rx ry h => ?_, fun G H x y dx dy Q e ix iy p => ?_⟩, fun x y c d => ?_⟩
  · obtain ⟨d, e, hd, he, sd, se, hl, q⟩ := h
    obtain ⟨as, r1⟩ := Dp.reads I d x v hd rx
    obtain ⟨bs, r2⟩ := Dp.reads I e y u he ry
    have hu := o.room.units
    exact PySem.SeqAt.eq_plain r1 r2 sd se (by have := Nat.min_le_left d.depth e.depth; omega) ⟨.bl _, H, I, rfl, q⟩
  · rw [o.K]
    unfold dEq at p
    split at p
    · rename_i a b qa qb
      split at p
      · rename_i hl
        exact ⟨a, b, isT_dp e ix qa, isT_dp e iy qb, toPy_plain qa, toPy_plain qb, hl, p _ (.bl _)⟩
      · exact p.elim
    · exact p.elim
  · unfold dEq
    split <;> (try split) <;> (intro h; cases h)
theorem od_ne (o : OkX X z E k) : OpD X z (compareOp .NotEq) (dEq true) := by
  refine ⟨⟨fun x y H Q => ∃ d e, Dp X.K H x d ∧ Dp X.K H y e ∧ d.plain = true ∧ e.plain = true ∧ d.depth ≤ 60 ∧ Q (.bl (!PyData.eqv d e)) H, fun pins s σ H x y v u Q I rx ry h => ?_, fun G H x y dx dy Q e ix iy p => ?_⟩, fun x y c d => ?_⟩
  · obtain ⟨d, e, hd, he, sd, se, hl, q⟩ := h
    obtain ⟨as, r1⟩ := Dp.reads I d x v hd rx
    obtain ⟨bs, r2⟩ := Dp.reads I e y u he ry
    have hu := o.room.units
    exact PySem.SeqAt.ne_plain r1 r2 sd se (by have := Nat.min_le_left d.depth e.depth; omega) ⟨.bl _, H, I, rfl, q⟩
  · rw [o.K]
    unfold dEq at p
    split at p
    · rename_i a b qa qb
      split at p
      · rename_i hl
        exact ⟨a, b, isT_dp e ix qa, isT_dp e iy qb, toPy_plain qa, toPy_plain qb, hl, p _ (.bl _)⟩
      · exact p.elim
    · exact p.elim
  · unfold dEq
    split <;> (try split) <;> (intro h; cases h)
end
end TN
namespace TN
open PySem PySem.Spec PyProof.Rows L2
section
variable {X : Cx} {z : Z} {E : XK} {k : Nat}
theorem od_in (o : OkX X z E k) : OpD X z (compareOp .In) (dIn false) := by
  refine ⟨⟨fun x y H Q => ∃ d e, Dp X.K H x d ∧ Dp X.K H y e ∧ d.plain = true ∧ e.plain = true ∧ d.depth ≤ 60 ∧ ((∃ ps, e = .list ps ∧ Q (.bl (ps.any fun y => PyData.eqv y d)) H) ∨ ∃ ps, e = .tuple ps ∧ Q (.bl (ps.any fun y => PyData.eqv y d)) H), fun pins s σ H x y v u Q I rx ry h => ?_, fun G H x y dx dy Q e ix iy p => ?_⟩, fun x y c d => ?_⟩
  · obtain ⟨d, e, hd, he, sd, se, hl, h⟩ := h
    obtain ⟨as, r1⟩ := Dp.reads I d x v hd rx
    obtain ⟨bs, r2⟩ := Dp.reads I e y u he ry
    have hu := o.room.units
    rcases h with ⟨ps, rfl, q⟩ | ⟨ps, rfl, q⟩
    · exact PySem.SeqAt.in_list_data r2 r1 se sd (by have := Nat.min_le_right (PyData.depthAll ps) d.depth; omega) ⟨.bl _, H, I, rfl, q⟩
    · exact PySem.SeqAt.in_tuple_data r2 r1 se sd (by have := Nat.min_le_right (PyData.depthAll ps) d.depth; omega) ⟨.bl _, H, I, rfl, q⟩
  · rw [o.K]
    unfold dIn at p
    split at p
    · rename_i a b qa qb
      split at p
      · rename_i hl; exact ⟨_, _, isT_dp e ix qa, isT_dp e iy qb, toPy_plain qa, toPy_plain qb, hl, .inl ⟨_, rfl, p _ (.bl _)⟩⟩
      · exact p.elim
    · rename_i a b qa qb
      split at p
      · rename_i hl; exact ⟨_, _, isT_dp e ix qa, isT_dp e iy qb, toPy_plain qa, toPy_plain qb, hl, .inr ⟨_, rfl, p _ (.bl _)⟩⟩
      · exact p.elim
    · exact p.elim
  · unfold dIn
    split <;> (try split) <;> (intro h; cases h)
theorem od_notIn (o : OkX X z E k) : OpD X z (compareOp .NotIn) (dIn true) := by
  refine ⟨⟨fun x y H Q => ∃ d e, Dp X.K H x d ∧ Dp X.K H y e ∧ d.plain = true ∧ e.plain = true ∧ d.depth ≤ 60 ∧ ((∃ ps, e = .list ps ∧ Q (.bl (!ps.any fun y => PyData.eqv y d)) H) ∨ ∃ ps, e = .tuple ps ∧ Q (.bl (!ps.any fun y => PyData.eqv y d)) H), fun pins s σ H x y v u Q I rx ry h => ?_, fun G H x y dx dy Q e ix iy p => ?_⟩, fun x y c d => ?_⟩
  · obtain ⟨d, e, hd, he, sd, se, hl, h⟩ := h
    obtain ⟨as, r1⟩ := Dp.reads I d x v hd rx
    obtain ⟨bs, r2⟩ := Dp.reads I e y u he ry
    have hu := o.room.units
    rcases h with ⟨ps, rfl, q⟩ | ⟨ps, rfl, q⟩
    · exact PySem.SeqAt.notIn_list_data r2 r1 se sd (by have := Nat.min_le_right (PyData.depthAll ps) d.depth; omega) ⟨.bl _, H, I, rfl, q⟩
    · exact PySem.SeqAt.notIn_tuple_data r2 r1 se sd (by have := Nat.min_le_right (PyData.depthAll ps) d.depth; omega) ⟨.bl _, H, I, rfl, q⟩
  · rw [o.K]
    unfold dIn at p
    split at p
    · rename_i a b qa qb
      split at p
      · rename_i hl; exact ⟨_, _, isT_dp e ix qa, isT_dp e iy qb, toPy_plain qa, toPy_plain qb, hl, .inl ⟨_, rfl, p _ (.bl _)⟩⟩
      · exact p.elim
    · rename_i a b qa qb
      split at p
      · rename_i hl; exact ⟨_, _, isT_dp e ix qa, isT_dp e iy qb, toPy_plain qa, toPy_plain qb, hl, .inr ⟨_, rfl, p _ (.bl _)⟩⟩
      · exact p.elim
    · exact p.elim
  · unfold dIn
    split <;> (try split) <;> (intro h; cases h)
end
def dIx : D → D → Out R0
  | .tup ds, .int i => match atI ds i with
    | some d => .ok (.d d)
    | none => .no
  | .lst ds, .int i => match atI ds i with
    | some d => .ok (.d d)
    | none => .no
  | .scr ns, .int i => match atI ns i with
    | some d => .ok (.d (.int d))
    | none => .no
  | .str w, .int i => if w.length ≤ 100000 then match atI w.cps.toList i with
    | some c => .ok (.d (.str ⟨#[c]⟩))
    | none => .no else .no
  | _, _ => .no
section
variable {X : Cx} {z : Z} {E : XK} {k : Nat} {K : PySem.W.Frag} {cl : Cl} {G H : Hp}
theorem atI_is {vs : List V} {ds : List D} {i : Int} {d : D} (h : IsA K cl G vs ds) (e : atI ds i = some d) : ∃ v, atI vs i = some v ∧ Is K cl G v d := by
  unfold atI at e ⊢
  rw [h.length]
  cases q : ixN ds.length i with
  | none => rw [q] at e; cases e
  | some j =>
    rw [q] at e
    exact h.get (i := j) e
theorem atI_map {α β : Type} {f : α → β} {xs : List α} {i : Int} {d : α} (e : atI xs i = some d) : atI (xs.map f) i = some (f d) := by
  unfold atI at e ⊢
  rw [List.length_map]
  cases q : ixN xs.length i with
  | none => rw [q] at e; cases e
  | some j =>
    rw [q] at e
    have e : xs[j]? = some d := e
    show (xs.map f)[j]? = some (f d)
    rw [List.getElem?_map, e]; rfl
theorem ixd (hK : X.K = z.K) : IxD X z dIx := by
  refine ⟨⟨_, ix_seq, fun G H x y dx dy Q e ix iy p => ?_⟩, fun x y c d => ?_⟩
  · rw [hK]
    unfold dIx at p
    split at p
    · split at p
      · rename_i q
        obtain ⟨p1, vs, rfl, hs, ia, _⟩ := isTup e ix
        obtain ⟨v, hv, w⟩ := atI_is ia q
        exact .inr (.inl ⟨p1, vs, _, v, rfl, isInt iy, hs, hv, p _ w⟩)
      · exact p.elim
    · split at p
      · rename_i q
        obtain ⟨p1, vs, rfl, hs, ia⟩ := isLst e ix
        obtain ⟨v, hv, w⟩ := atI_is ia q
        exact .inl ⟨p1, vs, _, v, rfl, isInt iy, SqL.of hs, hv, p _ w⟩
      · exact p.elim
    · split at p
      · rename_i q
        obtain ⟨p1, rfl, hs⟩ := isScr e ix
        exact .inl ⟨p1, _, _, _, rfl, isInt iy, hs, atI_map q, p _ (.int _)⟩
      · exact p.elim
    · split at p
      · rename_i hl
        split at p
        · rename_i q
          exact .inr (.inr ⟨_, _, _, isStr ix, isInt iy, line100 hl, q, p _ (.str _)⟩)
        · exact p.elim
      · exact p.elim
    · exact p.elim
  · unfold dIx
    split <;> (try split) <;> (try split) <;> (intro h; cases h)
def cutD {α : Type} (xs : List α) (lo hi : Option Int) : List α := (xs.drop (HT.sIx xs.length 0 lo)).take (HT.sIx xs.length xs.length hi - HT.sIx xs.length 0 lo)
def dSl : D → Option Int → Option Int → Out R0
  | .tup ds, lo, hi => if HT.sIx ds.length 0 lo = 0 ∧ HT.sIx ds.length ds.length hi = ds.length then .ok (.d (.tup ds)) else .ok (.tp (cutD ds lo hi))
  | .lst ds, lo, hi => .ok (.ls (cutD ds lo hi))
  | _, _, _ => .no
theorem cut_is {vs : List V} {ds : List D} {lo hi : Option Int} (h : IsA K cl G vs ds) : IsA K cl G (cutV vs lo hi) (cutD ds lo hi) := by
  unfold cutV cutD
  rw [h.length]
  exact (h.drop _).take _
theorem sld (hK : X.K = z.K) : SlD X z dSl := by
  refine ⟨⟨_, sl_list.or sl_tupX, fun G H x lo hi dx Q e ix p => ?_⟩, fun x y w c d => ?_⟩
  · rw [hK]
    unfold dSl at p
    split at p
    · obtain ⟨p1, vs, rfl, hs, ia, hg⟩ := isTup e ix
      split at p
      · rename_i hc
        exact .inr ⟨p1, vs, rfl, hs, fun _ => p _ (.tup hg ia), fun q => absurd (by rw [ia.length]; exact hc) q⟩
      · rename_i hc
        exact .inr ⟨p1, vs, rfl, hs, fun q => absurd (by rw [ia.length] at q; exact q) hc, fun _ pp oo hp hd => p pp _ oo hp hd (cut_is ia)⟩
    · obtain ⟨p1, vs, rfl, hs, ia⟩ := isLst e ix
      exact .inl ⟨p1, vs, rfl, SqL.of hs, fun pp hp => p pp _ hp (cut_is ia)⟩
    · exact p.elim
  · unfold dSl
    split <;> (try split) <;> (intro h; cases h)
end
def tyOf : D → Option String
  | .non => some "NoneType"
  | .bl _ => some "bool"
  | .int _ => some "int"
  | .str _ => some "str"
  | .tup _ => some "tuple"
  | .lst _ => some "list"
  | .scr _ => none
  | .dct => some "dict"
  | _ => none
def isiT (t T : String) : Option Bool := if T = "int" then some (t = "int" || t = "bool") else if T = "bool" ∨ T = "str" ∨ T = "tuple" ∨ T = "list" ∨ T = "dict" then some (t = T) else none
theorem kit_all : ∀ t ∈ ["NoneType", "bool", "int", "str", "tuple", "list", "dict"], ∀ T ∈ ["int", "bool", "str", "tuple", "list", "dict"], kitB t T = isiT t T := by decide +kernel
theorem isiT_mem {t T : String} {b : Bool} (h : isiT t T = some b) : T ∈ ["int", "bool", "str", "tuple", "list", "dict"] := by
  unfold isiT at h
  split at h
  · rename_i e; rw [e]; decide
  · split at h
    · rename_i e
      rcases e with e | e | e | e | e <;> (rw [e]; decide)
    · cases h
theorem tyOf_mem {d : D} {t : String} (h : tyOf d = some t) : t ∈ ["NoneType", "bool", "int", "str", "tuple", "list", "dict"] := by
  unfold tyOf at h
  split at h <;> first | (cases h; decide) | cases h
theorem tyOf_is {K : PySem.W.Frag} {cl : Cl} {G H : Hp} {v : V} {d : D} {t : String} (e : Ex G H) (h : IsT K cl G H v d) (ht : tyOf d = some t) : TyX K H v (.type t) := by
  rcases h with h | ⟨p, vs, xs, rfl, rfl, hp, ia⟩
  · cases h with
    | non => cases ht; exact .base .non
    | bl b => cases ht; exact .base (.bl b)
    | int i => cases ht; exact .base (.int i)
    | str x => cases ht; exact .base (.str x)
    | tup hs ha =>
      cases ht
      rcases hs.sq with (hs | ⟨o, hs⟩) | ⟨o, its, n, hk, hc, _⟩
      · exact .base (.tup (e _ _ hs))
      · exact .fTuple (e _ _ hs)
      · exact .kTuple hk hc
    | lst hs ha => cases ht; exact .base (.lst (e _ _ hs))
    | dct hs => cases ht; exact .base (.dK (e _ _ hs))
    | _ => cases ht
  · cases ht; exact .base (.lst hp)
def bIsi : List D → Out R0
  | [x, .ty T] => match tyOf x with
    | some t => match isiT t T with
      | some b => .ok (.d (.bl b))
      | none => .no
    | none => .no
  | _ => .no
def bLen : List D → Out R0
  | [.tup ds] => .ok (.d (.int ds.length))
  | [.lst ds] => .ok (.d (.int ds.length))
  | [.scr ds] => .ok (.d (.int ds.length))
  | [.str x] => if x.length ≤ 100000 then .ok (.d (.int x.length)) else .no
  | _ => .no
def bTuple : List D → Out R0
  | [.tup ds] => .ok (.d (.tup ds))
  | [.lst ds] => .ok (.tp ds)
  | _ => .no
def bList : List D → Out R0
  | [.tup ds] => .ok (.ls ds)
  | [.lst ds] => .ok (.ls ds)
  | _ => .no
def bInt : List D → Out R0
  | [.int i] => .ok (.d (.int i))
  | [.bl b] => .ok (.d (.int (if b then 1 else 0)))
  | _ => .no
def bAbs : List D → Out R0
  | [.int i] => .ok (.d (.int (if i < 0 then -i else i)))
  | _ => .no
def toInts : List D → Option (List Int)
  | [] => some []
  | .int i :: r => match toInts r with
    | some is => some (i :: is)
    | none => none
  | _ => none
def toBls : List D → Option (List Bool)
  | [] => some []
  | .bl i :: r => match toBls r with
    | some is => some (i :: is)
    | none => none
  | _ => none
theorem toInts_eq : ∀ {ds : List D} {is : List Int}, toInts ds = some is → ds = is.map D.int
  | [], _, e => by cases e; rfl
  | .int i :: r, is, e => by
    simp only [toInts] at e
    split at e
    · rename_i js q; cases e; rw [toInts_eq q]; rfl
    · cases e
  | .non :: _, _, e => by cases e
  | .bl _ :: _, _, e => by cases e
  | .str _ :: _, _, e => by cases e
  | .tup _ :: _, _, e => by cases e
  | .lst _ :: _, _, e => by cases e
  | .scr _ :: _, _, e => by cases e
  | .dct :: _, _, e => by cases e
  | .obj _ _ :: _, _, e => by cases e
  | .ty _ :: _, _, e => by cases e
  | .cls _ :: _, _, e => by cases e
theorem toBls_eq : ∀ {ds : List D} {is : List Bool}, toBls ds = some is → ds = is.map D.bl
  | [], _, e => by cases e; rfl
  | .bl i :: r, is, e => by
    simp only [toBls] at e
    split at e
    · rename_i js q; cases e; rw [toBls_eq q]; rfl
    · cases e
  | .non :: _, _, e => by cases e
  | .int _ :: _, _, e => by cases e
  | .str _ :: _, _, e => by cases e
  | .tup _ :: _, _, e => by cases e
  | .lst _ :: _, _, e => by cases e
  | .scr _ :: _, _, e => by cases e
  | .dct :: _, _, e => by cases e
  | .obj _ _ :: _, _, e => by cases e
  | .ty _ :: _, _, e => by cases e
  | .cls _ :: _, _, e => by cases e
def bAll : List D → Out R0
  | [.lst ds] => match toBls ds with
    | some bs => .ok (.d (.bl (bs.all id)))
    | none => .no
  | _ => .no
def bMax : List D → Out R0
  | [.int i, .int j] => .ok (.d (.int (if j > i then j else i)))
  | _ => .no
def bMin : List D → Out R0
  | [.int i, .int j] => .ok (.d (.int (if j < i then j else i)))
  | _ => .no
section
variable {X : Cx} {z : Z} {E : XK} {k : Nat}
theorem cd1 {f : Value} {op : List D → Out R0} (r : List V → Hp → VK → Prop) (hr : CallR X f r) (nx : ∀ x c d, op x ≠ .exc c d) (hn : ∀ ds, (∀ d, ds ≠ [d]) → op ds = .no)
    (h : ∀ G H v d Q, Ex G H → IsT z.K z.cl G H v d → P0 z G H Q (op [d]) → r [v] H Q) : CallD X z f op := ⟨⟨r, hr, fun G H vs ds Q e i p => by
  by_cases q : ∃ d, ds = [d]
  · obtain ⟨d, rfl⟩ := q
    obtain ⟨v, rfl, w⟩ := isTs1 i
    exact h G H v d Q e w p
  · rw [hn ds (fun d e => q ⟨d, e⟩)] at p
    exact p.elim⟩, nx⟩
theorem cd_len (hK : X.K = z.K) : CallD X z (.builtin "len") bLen := ⟨⟨_, call_len, fun G H vs ds Q e i p => by
  rw [hK]
  unfold bLen at p
  split at p
  · obtain ⟨v, rfl, w⟩ := isTs1 i
    obtain ⟨a, vs, rfl, hs, ia, _⟩ := isTup e w
    exact ⟨_, _, rfl, .inr ⟨vs, hs, rfl⟩, by rw [ia.length]; exact p _ (.int _)⟩
  · obtain ⟨v, rfl, w⟩ := isTs1 i
    obtain ⟨a, vs, rfl, hs, ia⟩ := isLst e w
    exact ⟨_, _, rfl, .inl ⟨vs, SqL.of hs, rfl⟩, by rw [ia.length]; exact p _ (.int _)⟩
  · obtain ⟨v, rfl, w⟩ := isTs1 i
    obtain ⟨a, rfl, hs⟩ := isScr e w
    exact ⟨_, _, rfl, .inl ⟨_, hs, rfl⟩, by rw [List.length_map]; exact p _ (.int _)⟩
  · split at p
    · rename_i hl
      obtain ⟨v, rfl, w⟩ := isTs1 i
      rw [isStr w]
      exact ⟨_, _, rfl, ⟨line100 hl, rfl⟩, p _ (.int _)⟩
    · exact p.elim
  · exact p.elim⟩, fun x c d => by unfold bLen; split <;> (try split) <;> (intro h; cases h)⟩
theorem cd_isi (hK : X.K = z.K) : CallD X z (.builtin "isinstance") bIsi := ⟨⟨_, call_isi, fun G H vs ds Q e i p => by
  rw [hK]
  unfold bIsi at p
  split at p
  · split at p
    · rename_i t ht
      split at p
      · rename_i b hb
        obtain ⟨v, w, rfl, wv, ww⟩ := isTs2 i
        rw [isTy ww]
        exact ⟨_, _, _, _, b, rfl, .ty _, tyOf_is e wv ht, kit_ty ((kit_all _ (tyOf_mem ht) _ (isiT_mem hb)).trans hb), p _ (.bl _)⟩
      · exact p.elim
    · exact p.elim
  · exact p.elim⟩, fun x c d => by unfold bIsi; split <;> (try split) <;> (try split) <;> (intro h; cases h)⟩
theorem cd_tuple (hK : X.K = z.K) : CallD X z (.type "tuple") bTuple := ⟨⟨_, call_tupleX, fun G H vs ds Q e i p => by
  rw [hK]
  unfold bTuple at p
  split at p
  · obtain ⟨v, rfl, w⟩ := isTs1 i
    obtain ⟨a, vs, rfl, hs, ia, hg⟩ := isTup e w
    exact ⟨_, _, rfl, .inr ⟨hs, p _ (.tup hg ia)⟩⟩
  · obtain ⟨v, rfl, w⟩ := isTs1 i
    obtain ⟨a, vs, rfl, hs, ia⟩ := isLst e w
    exact ⟨_, _, rfl, .inl ⟨SqL.of hs, fun l oo hl hd => p l _ oo hl hd ia⟩⟩
  · exact p.elim⟩, fun x c d => by unfold bTuple; split <;> (intro h; cases h)⟩
theorem cd_list (hK : X.K = z.K) : CallD X z (.type "list") bList := ⟨⟨_, call_list_of, fun G H vs ds Q e i p => by
  rw [hK]
  unfold bList at p
  split at p
  · obtain ⟨v, rfl, w⟩ := isTs1 i
    obtain ⟨a, vs, rfl, hs, ia, hg⟩ := isTup e w
    exact ⟨_, _, rfl, .inr hs, fun l hl => p l _ hl ia⟩
  · obtain ⟨v, rfl, w⟩ := isTs1 i
    obtain ⟨a, vs, rfl, hs, ia⟩ := isLst e w
    exact ⟨_, _, rfl, .inl (SqL.of hs), fun l hl => p l _ hl ia⟩
  · exact p.elim⟩, fun x c d => by unfold bList; split <;> (intro h; cases h)⟩
theorem cd_int : CallD X z (.type "int") bInt := ⟨⟨_, call_int1, fun G H vs ds Q e i p => by
  unfold bInt at p
  split at p
  · obtain ⟨v, rfl, w⟩ := isTs1 i
    exact .inl ⟨_, by rw [isInt w], p _ (.int _)⟩
  · obtain ⟨v, rfl, w⟩ := isTs1 i
    exact .inr ⟨_, by rw [isBl w], p _ (.int _)⟩
  · exact p.elim⟩, fun x c d => by unfold bInt; split <;> (intro h; cases h)⟩
theorem cd_abs : CallD X z (.builtin "abs") bAbs := ⟨⟨_, call_abs, fun G H vs ds Q e i p => by
  unfold bAbs at p
  split at p
  · obtain ⟨v, rfl, w⟩ := isTs1 i
    exact ⟨_, by rw [isInt w], p _ (.int _)⟩
  · exact p.elim⟩, fun x c d => by unfold bAbs; split <;> (intro h; cases h)⟩
theorem cd_all (hK : X.K = z.K) (hc : X.calm = true) : CallD X z (.builtin "all") bAll := ⟨⟨_, cr_all hc, fun G H vs ds Q e i p => by
  rw [hK]
  unfold bAll at p
  split at p
  · split at p
    · rename_i bs q
      obtain ⟨v, rfl, w⟩ := isTs1 i
      obtain ⟨a, vs, rfl, hs, ia⟩ := isLst e w
      rw [toBls_eq q] at ia
      rw [IsA.bls ia] at hs
      exact ⟨a, bs, rfl, SqL.of hs, p _ (.bl _)⟩
    · exact p.elim
  · exact p.elim⟩, fun x c d => by unfold bAll; split <;> (try split) <;> (intro h; cases h)⟩
theorem we_tyName {x : Str} {T : String} {pos : Pos} (hm : X.mg x = none) (hv : bootBuiltins x = some (.type T)) (hg : Gl X x := by rfl) (hn : x ≠ "__name__" := by decide) (hd : (x == ("__debug__" : Str)) = false := by decide) : PE X (.Name x pos) (tE z E (fC (.ty T))) :=
  pe_mono (pe_bltn (v := .ty T) hg hm hv rfl hn hd) fun _ _ _ h => te_c (fun _ _ _ => .ty T) h
end
def insI (i : Int) : List Int → List Int
  | [] => [i]
  | j :: r => if i ≤ j then i :: j :: r else j :: insI i r
def sortI : List Int → List Int
  | [] => []
  | i :: r => insI i (sortI r)
theorem insI_perm (i : Int) : ∀ l : List Int, (insI i l).Perm (i :: l)
  | [] => .refl _
  | j :: r => by
    unfold insI
    split
    · exact .refl _
    · exact ((insI_perm i r).cons j).trans (.swap i j r)
theorem sortI_perm : ∀ l : List Int, (sortI l).Perm l
  | [] => .refl _
  | i :: r => (insI_perm i _).trans ((sortI_perm r).cons i)
theorem insI_sorted (i : Int) : ∀ {l : List Int}, l.Pairwise (· ≤ ·) → (insI i l).Pairwise (· ≤ ·)
  | [], _ => by simp [insI]
  | j :: r, h => by
    unfold insI
    have h' := List.pairwise_cons.mp h
    split
    · rename_i q
      refine List.pairwise_cons.mpr ⟨fun a ha => ?_, h⟩
      rcases List.mem_cons.mp ha with e | e
      · rw [e]; exact q
      · exact Int.le_trans q (h'.1 a e)
    · rename_i q
      refine List.pairwise_cons.mpr ⟨fun a ha => ?_, insI_sorted i h'.2⟩
      rcases List.mem_cons.mp ((insI_perm i r).mem_iff.mp ha) with e | e
      · rw [e]; omega
      · exact h'.1 a e
theorem sortI_sorted : ∀ l : List Int, (sortI l).Pairwise (· ≤ ·)
  | [] => .nil
  | i :: r => insI_sorted i (sortI_sorted r)
theorem sorted_unique {a b : List Int} (p : a.Perm b) (ha : a.Pairwise (· ≤ ·)) (hb : b.Pairwise (· ≤ ·)) : a = b := by
  exact p.eq_of_pairwise (fun x y _ _ h1 h2 => Int.le_antisymm h1 h2) ha hb
theorem Inv.laidAt {X : Cx} {pins : List (Addr × Obj)} {σ : L2.St} {H : Hp} {s : Shared} {h' : Heap} {a : Addr} {o : HO} {t' : Nat} (I : Inv X pins σ H s) (k : ∀ b u, s.heap.get? b = some u → h'.get? b = some u) (hp : s.heap.get? a = none) (new : ObjOk X.prog X.w (upd H a o) h' a o) :
    Inv X pins σ (upd H a o) { s with heap := h', toks := t' } := by
  have hn : H a = none := I.hok.gone hp
  have ne : ∀ b u, s.heap.get? b = some u → b ≠ a := fun b u e q => by rw [q, hp] at e; cases e
  refine I.un ⟨fun b u e _ _ _ => k b u e, fun b u e _ _ _ => ⟨u.slots, k b u e⟩, fun b u e n _ => by rw [upd_ne (ne b u e)]; exact n, fun b u e _ => ⟨u, k b u e⟩, fun b xs e => ?_, fun b q xs e => ?_, fun b ps e => ⟨#[], ?_⟩⟩ fun b u e => ?_
  · rw [upd_ne (ne_of_none e hn)]; exact e
  · rw [upd_ne (ne_of_none e hn)]; exact e
  · rw [upd_ne (ne_of_none e hn), e]; simp
  · by_cases hb : b = a
    · subst hb; rw [upd_same] at e; cases e; exact new
    · rw [upd_ne hb] at e
      exact (I.hok b u e).stay (fun c v _ w => k c v w) (fun c w => by rw [upd_ne (ne_of_none w hn)]; exact w) fun c xs w => by rw [upd_ne (ne_of_none w hn)]; exact w
section
variable {X : Cx} {z : Z} {E : XK} {k : Nat}
def rSortedTu (K : PySem.W.Frag) : List V → Hp → VK → Prop := fun vs H Q => ∃ (a : Addr) (ns : List Int), vs = [V.ref a] ∧ SqT K H a (ns.map V.int) ∧
  ∀ (ns' : List Int) (p : Addr), ns'.Perm ns → ns'.Pairwise (· ≤ ·) → H p = none → Q (.ref p) (upd H p (.lst (ns'.map V.int)))
theorem cr_sortedTu : CallR X (.builtin "sorted") (rSortedTu X.K) := by
  intro pins s σ H vs us Q I r h
  obtain ⟨a, ns, rfl, hs, q⟩ := h
  obtain ⟨its, rv, ⟨o, ho, hc, n, hd⟩, hz⟩ := I.tuple hs
  rw [Vals.ref1 r]
  have hi := rv.ints
  have hzi : its.length ≤ sizeLine := by rw [← rv.length]; exact hz
  refine Calls.call_function_entry kind_sorted plain_sorted entry_sorted (args_sorted1 _) ?_
  unfold Builtin.«sorted»
  refine wpAny_bind (m := checkCount "sorted" 1 1 _) (wpAny_pure ?_)
  refine wpAny_bind (wpAny_collect_seq a (.inr rfl) ho hc hd (fun h' keep => ?_) (by simpa using hzi))
  refine wpAny_bind (wpAny_newList ?_ (by simpa using hzi))
  have hoL : (h'.push (seqObj "list" its.toArray 0)).get? h'.objs.size = some (seqObj "list" its.toArray 0) := Heap.get?_push_size _ rfl
  have kept : ∀ b o, s.heap.get? b = some o → b ≠ h'.objs.size ∧ (h'.push (seqObj "list" its.toArray 0)).get? b = some o := fun b o q =>
    ⟨Nat.ne_of_lt (Heap.lt_size (keep b o q)), Heap.get?_push_of_some _ (keep b o q)⟩
  show wpAny _ _ _ _ _ { s with heap := h'.push (seqObj "list" its.toArray 0) }
  refine wpAny_bind (wpAny_holding (wpAny_call_entry slot_list_sort ⟨_, hoL, rfl⟩ entry_list_sort (SrtO.list_sort_ord SrtO.swo_int hoL hzi (fun h2 => SrtO.ints_sortable hi h2) fun out h1 h2 => ⟨_, rfl, ?_⟩) (args_list_sort _)))
  obtain ⟨k1, k2, k3⟩ := SrtO.ints_out hi h1 h2
  obtain ⟨ep, he'⟩ := PyProof.Rows.sortedHeap_at (vs := its) (out := out.toArray) hoL
  have hlen : ((out.map SrtO.iv).map V.int).length ≤ sizeLine := by
    rw [List.length_map, k2.length_eq]
    rw [List.length_map] at hz
    exact hz
  have hp : s.heap.get? h'.objs.size = none := by
    cases q : s.heap.get? h'.objs.size with
    | none => rfl
    | some o => exact absurd (Heap.lt_size (keep _ o q)) (Nat.lt_irrefl _)
  have fin : L2.Inv X pins σ (upd H h'.objs.size (.lst ((out.map SrtO.iv).map V.int))) { s with heap := sortedHeap (h'.push (seqObj "list" its.toArray 0)) h'.objs.size its out.toArray, toks := s.toks } :=
    Inv.laidAt (s := s) (t' := s.toks) I (fun b u hb => by rw [PyProof.Rows.sortedHeap_old (kept b u hb).1 (Heap.lt_size (kept b u hb).2)]; exact (kept b u hb).2) hp ⟨hlen, out, ep, vals_of_ints k1, he'⟩
  exact wpAny_pure ⟨_, rfl, .ref _, _, fin, rfl, q _ _ k2 k3 (I.hok.gone hp)⟩
theorem isA_ints {K : PySem.W.Frag} {cl : Cl} {G : Hp} : ∀ ns : List Int, IsA K cl G (ns.map V.int) (ns.map D.int)
  | [] => .nil
  | _ :: ns => .cons (.int _) (isA_ints ns)
theorem sorted_end {z : Z} {G H : Hp} {Q : VK} {is ns' : List Int} {p : Addr} (hp : ns'.Perm is) (hs : ns'.Pairwise (· ≤ ·)) (hn : H p = none) (h : P0 z G H Q (.ok (.ls ((sortI is).map D.int)))) : Q (.ref p) (upd H p (.lst (ns'.map V.int))) := by
  have e : ns' = sortI is := sorted_unique (hp.trans (sortI_perm is).symm) hs (sortI_sorted is)
  subst e
  exact h p _ hn (isA_ints _)
end
end TN
namespace TN
open PySem PySem.Spec PyProof.Rows L2
section
variable {X : Cx} {z : Z} {E : XK} {k n : Nat} {e : Expr} {f : F} {p p2 pos pos2 : Pos}
def fLRg1 (f : F) : F := fun env => (f env).bind fun q => match q.1 with
  | .d (.int j) => if 0 ≤ j ∧ j ≤ 100000 then .ok (.new (rng 0 j), q.2) else .no
  | _ => .no
theorem isA_rgV {K : PySem.W.Frag} {cl : Cl} {G : Hp} (a b : Int) : IsA K cl G (rgV a b) (rng a b) := by
  unfold rgV rng
  generalize List.range (b - a).toNat = l
  induction l with
  | nil => exact .nil
  | cons x r ih => exact .cons (.int _) ih
theorem we_listRg (hc : X.calm = true) (hl : X.mg "list" = none) (hm : X.mg "range" = none) (he : PE X e (tE z E f)) (hg : Gl X "list" := by rfl) (hg2 : Gl X "range" := by rfl)
    (na : starEach [e] X.env = (false, eval e X.env) :: starEach [] X.env := by rfl) (nb : starEach [.Call (.Name "range" p2) [e] [] pos2] X.env = (false, eval (.Call (.Name "range" p2) [e] [] pos2) X.env) :: starEach [] X.env := by rfl) :
    PE X (.Call (.Name "list" p) [.Call (.Name "range" p2) [e] [] pos2] [] pos) (tE z E (fLRg1 f)) := pe_mono (pe_listRg hc hg hl (prg_1 hg2 hm he na) nb) fun σ H Q ⟨T, G, env, r, h⟩ => by
  refine ⟨T, G, env, r, (Pg.bind h).imp fun p hp v H1 G1 r1 e1 w1 => ?_⟩
  obtain ⟨q1, q2⟩ := p
  dsimp only at hp
  split at hp
  · rename_i j
    have w1 : Is z.K z.cl G1 v (.int j) := w1
    cases w1
    split at hp
    · rename_i hj
      refine ⟨j, rfl, RgOk.of_le (Int.le_refl 0) (by omega) (by omega) hj.1, fun q hq => ?_⟩
      obtain ⟨n1, n2, n3, n4, n5⟩ := r1.nn hq
      exact hp _ _ _ (r1.alloc hq) e1 ⟨q, _, rfl, upd_same, isA_rgV 0 j, n1, n2, n3, n4, n5⟩
    · exact hp.elim
  · exact hp.elim
end
def fPopI (i : Nat) (f : F) : F := fun env => (ofO (lstAt env i)).bind fun _ => (f env).bind fun p => match p.1 with
  | .d (.int j) => if -(2 ^ 62) ≤ j ∧ j < 2 ^ 62 then (ofO (lstAt p.2 i)).bind fun l => (ofO (ixN l.1.length j)).bind fun m => (ofO l.1[m]?).bind fun d => .ok (.d d, p.2.set i (l.2 (l.1.eraseIdx m))) else .no
  | _ => .no
section
variable {X : Cx} {z : Z} {E : XK} {k n i : Nat} {c : Expr} {f fi : F} {σ : L2.St} {H : Hp} {Q : VK}
end
def sSetIx (i : Nat) (fi fv : F) : S := fun env => (fv env).bind fun p => (ofO (p.1.opd.fix p.2)).bind fun y => (ofO (lstAt y.2 i)).bind fun _ => (fi y.2).bind fun q => match q.1 with
  | .d (.int j) => (ofO (lstAt q.2 i)).bind fun l => (ofO (ixN l.1.length j)).bind fun m => .ok (.nx, q.2.set i (l.2 (l.1.set m y.1)))
  | _ => .no
section
variable {X : Cx} {z : Z} {E : XK} {k n i : Nat} {e ei o : Expr} {f fi : F} {σ : L2.St} {H : Hp} {D : Ends} {pos tpos : Pos}
theorem ts_setIx (h : tS z E (sSetIx i fi f) D σ H) : tAsg (tE z E f) (L2.gSub (tVar i) (tE z E fi) rSetL) D σ H := by
  obtain ⟨T, G, env, r, h⟩ := h
  refine te_imp (fun v H1 q => ?_) (te_fix (C := fun G b => CS z T G D b) r (fun _ _ _ e h => CS.mono h e) h)
  obtain ⟨⟨y, e1⟩, G1, r1, x1, w1, h⟩ := q
  obtain ⟨⟨xs0, mk0⟩, el0, h⟩ := (Pg.bind h).ofO
  obtain ⟨p0, vs0, es0, _, hp0, _, _⟩ := lstAt_ow r1 el0
  refine ⟨_, es0, T, G1, e1, r1, (Pg.bind h).imp fun q hq u H2 G2 r2 x2 w2 => ?_⟩
  obtain ⟨q1, q2⟩ := q
  dsimp only at hq
  split at hq
  · rename_i j
    have w2 : Is z.K z.cl G2 u (.int j) := w2
    cases w2
    obtain ⟨⟨xs, mk⟩, el, hq⟩ := (Pg.bind hq).ofO
    obtain ⟨m, em, hq⟩ := (Pg.bind hq).ofO
    obtain ⟨p, vs, es, _, hpp, a, st⟩ := lstAt_ow r2 el
    rw [es0] at es
    cases es
    exact ⟨p0, vs, j, m, rfl, rfl, hpp, by rw [a.length]; exact em, hq σ _ G2 (st _ _ (a.set (w1.mono x2) m)) x2⟩
  · exact hq.elim
theorem ws_setIx {st : Stmt} (h : PS X st (tAsg (tE z E f) (L2.gSub (tVar i) (tE z E fi) rSetL))) : PS X st (tS z E (sSetIx i fi f)) := ps_mono h fun _ _ _ h => ts_setIx h
end
def storeN : R → Option Sl
  | .d x => some (.val x)
  | .new xs => some (.own xs)
  | _ => none
def sPar (i j : Nat) (fa fb : F) : S := fun env => (fa env).bind fun p => (fb p.2).bind fun q => (ofO (storeN p.1)).bind fun a => (ofO (storeN q.1)).bind fun b =>
  if i < q.2.length ∧ j < q.2.length ∧ i ≠ j then .ok (.nx, (q.2.set i a).set j b) else .no
section
variable {z : Z} {E : XK} {T G H : Hp} {env : Ev} {σ : L2.St} {v : V} {r : R}
theorem VR.keep (h : VR z T G H env σ v r) (p : Rep z T G H env σ) : ∃ T', Rep z T' G H env σ ∧ ∀ {G' H' : Hp} {env' : Ev}, Rep z T' G' H' env' σ → Ex G G' → Rep z T G' H' env' σ ∧ VR z T G' H' env' σ v r ∧
    ∀ (u : V) (s : R), VR z T' G' H' env' σ u s → VR z T G' H' env' σ u s ∧ ∀ xs ys q, r = .new xs → s = .new ys → v = .ref q → u ≠ .ref q := by
  cases r with
  | d y => exact ⟨T, p, fun r' e => ⟨r', Is.mono e h, fun u s w => ⟨w, fun xs ys q e => by cases e⟩⟩⟩
  | at_ i => exact ⟨T, p, fun r' e => ⟨r', h, fun u s w => ⟨w, fun xs ys q e => by cases e⟩⟩⟩
  | new xs =>
    obtain ⟨q, vs, rfl, hq, a, g, t, h0, hm, no⟩ := h
    refine ⟨upd T q (.lst vs), p.temp (Da := q) p.f.tb (fun _ _ => rfl) g h0 no (p.exT.put hq) (fun b hb => ?_), fun {G' H' env'} r' e => ?_⟩
    · by_cases e : b = q
      · exact .inl e
      · rw [upd_ne e] at hb; exact .inr hb
    · have tq : (upd T q (.lst vs)) q ≠ none := by rw [upd_same]; intro w; cases w
      have hq' : H' q = some (.lst vs) := r'.exT q _ upd_same
      have no' := r'.noOw tq
      refine ⟨r'.temp (Da := q) r'.f.tb (fun _ _ => rfl) (r'.gt q tq) h0 no' (fun b u hb => ?_) (fun b hb => ?_), ⟨q, vs, rfl, hq', a.mono e, r'.gt q tq, t, h0, hm, no'⟩, fun u s w => ?_⟩
      · by_cases e : b = q
        · subst e; rw [t] at hb; cases hb
        · exact r'.exT b u (by rw [upd_ne e]; exact hb)
      · by_cases e : b = q
        · exact .inl e
        · exact .inr (by rw [upd_ne e]; exact hb)
      · cases s with
        | d y => exact ⟨w, fun _ _ _ _ e => by cases e⟩
        | at_ i => exact ⟨w, fun _ _ _ _ e => by cases e⟩
        | new ys =>
          obtain ⟨q2, vs2, rfl, hq2, a2, g2, t2, h02, hm2, no2⟩ := w
          have ne : q2 ≠ q := fun e => by rw [e, upd_same] at t2; cases t2
          rw [upd_ne ne] at t2
          exact ⟨⟨q2, vs2, rfl, hq2, a2, g2, t2, h02, hm2, no2⟩, fun _ _ q' _ _ e1 e2 => by cases e1; cases e2; exact ne rfl⟩
theorem VR.storeN {s : Sl} (h : VR z T G H env σ v r) (e : storeN r = some s) : SlOk z T G H (some v) s ∧ (∀ q, s.ow = true → v = .ref q → (∀ j, ¬ Ow env σ j q) ∧ ∃ xs, r = .new xs) := by
  cases r with
  | d y => cases e; exact ⟨⟨v, rfl, h⟩, fun q w => by cases w⟩
  | at_ i => cases e
  | new xs =>
    cases e
    obtain ⟨p, vs, rfl, hp, a, g, t, h0, hm, no⟩ := h
    exact ⟨⟨p, vs, rfl, g, t, h0, hp, a⟩, fun q _ e => by cases e; exact ⟨no, xs, rfl⟩⟩
variable {X : Cx} {k n i j : Nat} {fa fb : F} {D : Ends}
theorem ts_par (h : tS z E (sPar i j fa fb) D σ H) : L2.tPar i j (tCons (tE z E fa) (tCons (tE z E fb) tNil)) D σ H := by
  obtain ⟨T, G, env, r, h⟩ := h
  refine ⟨T, G, env, r, (Pg.bind h).imp fun p hp v H1 G1 r1 e1 w1 => ?_⟩
  obtain ⟨T1, rt, kk⟩ := w1.keep r1
  refine ⟨T1, G1, p.2, rt, (Pg.bind hp).imp fun q hq u H2 G2 r2 e2 w2 => ?_⟩
  obtain ⟨r2', w1', k2⟩ := kk r2 e2
  obtain ⟨w2', dif⟩ := k2 u q.1 w2
  obtain ⟨sa, ea, hq⟩ := (Pg.bind hq).ofO
  obtain ⟨sb, eb, hq⟩ := (Pg.bind hq).ofO
  split at hq
  · rename_i hij
    obtain ⟨hi, hj, ne⟩ := hij
    obtain ⟨slA, hdA⟩ := w1'.storeN ea
    obtain ⟨slB, hdB⟩ := w2'.storeN eb
    have r3 := r2'.set slA (fun q' o e => (hdA q' o e).1) hi
    have r4 := r3.set (i := j) slB (fun q' o e j' hw => ?_) (by rw [List.length_set]; exact hj)
    · exact ⟨v, u, rfl, hq _ H2 G2 r4 (e1.trans e2)⟩
    · obtain ⟨no, ys, ey⟩ := hdB q' o e
      obtain ⟨⟨s1, es, os⟩, ep⟩ := hw
      by_cases w : i = j'
      · subst w
        rw [List.getElem?_set_self hi] at es
        rw [List.getElem?_set_self (by rw [← r2'.len]; exact hi)] at ep
        cases es
        have ev : v = .ref q' := Option.some.inj ep
        obtain ⟨_, xs, ex⟩ := hdA q' os ev
        exact dif xs ys q' ex ey ev e
      · rw [List.getElem?_set_ne w] at es ep
        exact no j' ⟨⟨s1, es, os⟩, ep⟩
  · exact hq.elim
theorem ws_par {st : Stmt} (h : PS X st (L2.tPar i j (tCons (tE z E fa) (tCons (tE z E fb) tNil)))) : PS X st (tS z E (sPar i j fa fb)) := ps_mono h fun _ _ _ h => ts_par h
end
def sAsg (ga : GA) (f : F) : S := fun env => (f env).bind fun p => (ofO (p.1.opd.fix p.2)).bind fun y => (ofO (ga y.1 y.2)).bind fun e => .ok (.nx, e)
section
variable {X : Cx} {z : Z} {E : XK} {k n : Nat} {ga : GA} {is : List Nat} {f : F} {σ : L2.St} {H : Hp} {D : Ends}
theorem ts_asg (h : tS z E (sAsg ga f) D σ H) : tAsg (tE z E f) (tG z is ga) D σ H := by
  obtain ⟨T, G, env, r, h⟩ := h
  refine te_imp (fun v H1 q => ?_) (te_fix (C := fun G b => CS z T G D b) r (fun _ _ _ e h => CS.mono h e) h)
  obtain ⟨⟨y, e1⟩, G1, r1, x1, w1, h⟩ := q
  obtain ⟨e2, eg, h⟩ := (Pg.bind h).ofO
  exact ⟨T, G1, e1, y, e2, r1, w1, eg, fun σ' r' _ => h σ' H1 G1 r' (Ex.refl G1)⟩
theorem ws_asg {st : Stmt} (h : PS X st (tAsg (tE z E f) (tG z is ga))) : PS X st (tS z E (sAsg ga f)) := ps_mono h fun _ _ _ h => ts_asg h
end
end TN
namespace TN
open PySem PySem.Spec PyProof.Rows L2
section
variable {prog : Program} {w : World} {A : Around} {E : Value → Shared → Prop} {s : Shared}
theorem slice_back {sl : Addr} {vs : Value} {n : Nat} {Q : Int × Int × Nat → Shared → Prop} (hs : s.heap.IsSliceOf sl .none .none vs) (ps : IsPart vs (some (-1)))
    (h : Q ((n : Int) - 1, -1, n) s) : wpAny (model prog w) A (Builtin.Slice.sliceApplied (.ref sl) (pure (n : Int))) Q E s := by
  obtain ⟨os, hos, hcs, hds⟩ := id hs
  unfold Builtin.Slice.sliceApplied Builtin.Slice.sliceFields
  refine wpAny_bind (wpAny_bind (wpAny_field hos hds (x := .none) rfl (wpAny_bind (wpAny_field hos hds (x := .none) rfl (wpAny_bind (wpAny_field hos hds (x := vs) rfl (wpAny_pure ?_)))))))
  refine wpAny_bind (HT.slicePart_ ps ?_)
  show wpAny _ _ (if ((-1 : Int) == 0) = true then _ else _) _ _ s
  rw [if_neg (by decide)]
  refine wpAny_bind (HT.slicePart_ .none (wpAny_bind (HT.slicePart_ .none (wpAny_bind (wpAny_pure ?_)))))
  show wpAny _ _ (match Builtin.Slice.sliceAdjust none none (-1) (n : Int) with | (lo, hi) => pure (lo, (-1 : Int), Builtin.Slice.slicePlaces lo hi (-1))) _ _ s
  have e1 : Builtin.Slice.sliceAdjust none none (-1) (n : Int) = ((n : Int) - 1, -1) := rfl
  rw [e1]
  show wpAny _ _ (pure ((n : Int) - 1, (-1 : Int), Builtin.Slice.slicePlaces ((n : Int) - 1) (-1) (-1))) _ _ s
  have e2 : Builtin.Slice.slicePlaces ((n : Int) - 1) (-1) (-1) = n := by
    unfold Builtin.Slice.slicePlaces
    rw [if_neg (by decide)]
    show (if (n : Int) - 1 > -1 then ((n : Int) - 1 - -1 - 1) / (- -1) + 1 else 0).toNat = n
    rw [show (- -1 : Int) = 1 by decide, Int.ediv_one]
    split <;> omega
  rw [e2]
  exact wpAny_pure h
theorem fm_congr {α β : Type} {f g : α → Option β} : ∀ {l : List α}, (∀ x ∈ l, f x = g x) → l.filterMap f = l.filterMap g
  | [], _ => rfl
  | x :: l, h => by
    rw [List.filterMap_cons, List.filterMap_cons, h x List.mem_cons_self, fm_congr fun y hy => h y (List.mem_cons_of_mem _ hy)]
theorem pick_back (xs : Array Value) : ((List.range xs.size).filterMap fun (m : Nat) => xs[(((xs.size : Int) - 1) + (m : Int) * (-1)).toNat]?).toArray = xs.toList.reverse.toArray := by
  congr 1
  have e : ∀ m ∈ List.range xs.size, (fun (m : Nat) => xs[(((xs.size : Int) - 1) + (m : Int) * (-1)).toNat]?) m = (fun m => xs[xs.size - 1 - m]?) m := fun m hm => by
    have : (((xs.size : Int) - 1) + (m : Int) * (-1)).toNat = xs.size - 1 - m := by have := List.mem_range.mp hm; omega
    simp only [this]
  rw [fm_congr e]
  have h2 : (List.range xs.size).filterMap (fun m => xs[xs.size - 1 - m]?) = ((List.range xs.size).map fun m => xs.size - 1 - m).filterMap fun m => xs[m]? := by
    rw [List.filterMap_map]; rfl
  rw [h2, PySem.W.krv_range, List.filterMap_reverse, PySem.W.krv_all]
theorem tup_back {t sl : Addr} {items : Array Value} {vs : Value} {Q : Value → Shared → Prop} (ht : IsTup s.heap t items) (hs : s.heap.IsSliceOf sl .none .none vs) (ps : IsPart vs (some (-1)))
    (h : Q (.ref s.heap.objs.size) { s with heap := s.heap.push { cls := .type "tuple", data := .seq items.toList.reverse.toArray } })
    (hsz : items.size ≤ sizeLine) : wpAny (model prog w) A (getItem (.ref t) (.ref sl)) Q E s := by
  have hok : sizeOk (.seq items.toList.reverse.toArray) := by
    show items.toList.reverse.toArray.size ≤ sizeLine
    rw [List.size_toArray, List.length_reverse, Array.length_toList]
    exact hsz
  obtain ⟨os, hos, hcs, hds⟩ := id hs
  have hTs : s.TypeIs (.ref sl) "slice" := ⟨os, hos, hcs⟩
  unfold getItem
  try with_reducible refine wpAny_holding ?_
  first | refine wpAny_bind (wpAny_pure ?_) | skip
  refine wpAny_bind (wpAny_sequenceKey ht.typeIs (by decide) ?_)
  refine wpAny_bind (wpAny_callSpecial?_slot (name := Str.ofString "__getitem__") ht.typeIs PyProof.Rows.slot_tuple_getitem
    (wpAny_call_entry PyProof.Rows.slot_tuple_getitem ht.typeIs entry_tuple_getitem ?_ (args_tuple_getitem _ _)))
  show wpAny _ _ (Builtin.Tuple.tupleItemsOf (.ref t) >>= _) _ _ s
  refine wpAny_bind (tupleItemsOf_ ht ?_)
  refine wpAny_bind (wpAny_typeOf hTs ?_)
  rw [if_pos (by decide)]
  refine wpAny_bind (slice_back hs ps ?_)
  show wpAny _ _ (if (((items.size : Int) - 1 == 0) && (-1 : Int) == 1 && items.size == items.size) = true then _ else _) _ _ s
  rw [if_neg (by rw [show ((-1 : Int) == 1) = false by decide]; simp), pick_back]
  first
    | exact wpAny_bind (m := Builtin.Tuple.tupleExact _) (wpAny_newObj_type (wpAny_pure ⟨_, rfl, wpAny_pure h⟩) hok)
    | exact wpAny_bind (m := Builtin.Tuple.tupleExact _) (wpAny_newObj_type (wpAny_bind (wpAny_pure (wpAny_pure ⟨_, rfl, wpAny_pure h⟩))) hok)
    | exact wpAny_bind (wpAny_bind (m := Builtin.Tuple.tupleExact _) (wpAny_newObj_type (wpAny_pure (wpAny_pure ⟨_, rfl, wpAny_pure h⟩)) hok))
    | exact wpAny_bind (wpAny_bind (m := Builtin.Tuple.tupleExact _) (wpAny_newObj_type (wpAny_pure ⟨_, rfl, wpAny_pure h⟩) hok))
end
section
variable {X : Cx}
def tBack (K : PySem.W.Frag) (te : TE) : TE := fun σ H Q => te σ H fun x H1 => ∃ a xs, x = .ref a ∧ ((SqL K H1 a xs ∧ ∀ p, H1 p = none → Q (.ref p) (upd H1 p (.lst xs.reverse))) ∨ (SqT K H1 a xs ∧ ∀ p o, H1 p = none → o.dict = none → Q (.ref p) (upd H1 p (.frz o (.tup xs.reverse)))))
theorem pe_back {e : Expr} {te : TE} {k : Nat} {p1 p2 p3 pos : Pos} (he : PE X e te) : PE X (.Subscript e (.Slice none none (some (.UnaryOp .USub (.Constant (.int 1) k p1) p2)) p3) pos) (tBack X.K te) := by
  refine ⟨fun pins s σ H Q I h => ?_⟩
  refine Subscript_ (thn (he.run pins s σ H _ I h) fun v s1 ⟨x, H1, I1, r1, q1⟩ => ?_)
  obtain ⟨a, xs, ex, hx⟩ := q1
  subst ex
  cases r1
  have hst : PO X (some (.UnaryOp .USub (.Constant (.int 1) k p1) p2)) (tPart (tUn (rU fun i => .int (-i)) (tC (.int 1)))) := po_some (pe_un un_neg pe_int)
  refine wpAny_Slice (thn (po_none.run pins s1 σ H1 (fun o H2 => o = none ∧ H2 = H1) I1 ⟨rfl, rfl⟩) fun vl s2 ⟨l, H2, I2, pl, el, e2⟩ => ?_)
  subst el e2
  refine thn (po_none.run pins s2 σ H2 (fun o H3 => o = none ∧ H3 = H2) I2 ⟨rfl, rfl⟩) fun vu s3 ⟨u, H3, I3, pu, eu, e3⟩ => ?_
  subst eu e3
  refine thn (hst.run pins s3 σ H3 (fun o H4 => o = some (-1) ∧ H4 = H3) I3 ⟨1, rfl, -1, rfl, rfl, rfl⟩) fun vs s4 ⟨o, H4, I4, ps, eo, e4⟩ => ?_
  subst eo e4
  have I5 : Inv X pins σ H4 { s4 with heap := s4.heap.push { cls := .type "slice", data := .fields #[vl, vu, vs] } } := I4.kept (t' := s4.toks) fun b ob q => Heap.get?_push_of_some _ q
  show wpAny (model X.prog X.w) X.A (subscriptTail e (.Slice none none (some (.UnaryOp .USub (.Constant (.int 1) k p1) p2)) p3) (.ref a) (.ref s4.heap.objs.size)) (EP X pins σ Q) X.xe { s4 with heap := s4.heap.push { cls := .type "slice", data := .fields #[vl, vu, vs] } }
  rcases hx with ⟨hx, q⟩ | ⟨hx, q⟩
  · obtain ⟨its, r, ht, hz⟩ := I5.list hx
    have hlen := r.length
    refine tail_any (ops := [.ref a, .ref s4.heap.objs.size]) ht.isList.typeIs (PySem.slot_list_getitem.lookup) ?_ (by with_unfolding_all rfl)
    refine wpAny_getItem_list_slice ht.isList (Heap.IsSliceOf.new _ vl vu vs) pl pu ps (by decide) ?_ (by rw [List.size_toArray]; omega)
    rw [PySem.W.krv_pick]
    refine ⟨.ref _, _, I5.laid (t' := s4.toks) (o := .lst xs.reverse) (fun b ob q => Heap.get?_push_of_some _ q) (Nat.le_refl _) ?_, rfl, q _ (I5.hok.fresh (Nat.le_refl _))⟩
    exact ⟨by rw [List.length_reverse]; exact hz, _, 0, r.reverse, Heap.get?_push_size _ rfl⟩
  · obtain ⟨its, r, ht, hz⟩ := I5.tuple hx
    have hlen := r.length
    cases pl
    cases pu
    refine tail_any (ops := [.ref a, .ref s4.heap.objs.size]) ht.typeIs (PyProof.Rows.slot_tuple_getitem.lookup) ?_ (by with_unfolding_all rfl)
    refine tup_back ht (Heap.IsSliceOf.new _ .none .none vs) ps ?_ (by rw [List.size_toArray]; omega)
    exact ⟨.ref _, _, laidT (t' := s4.toks) I5 r.reverse (by rw [List.length_reverse]; exact hz), rfl, q _ _ (I5.hok.fresh (Nat.le_refl _)) rfl⟩
variable {z : Z} {E : XK}
def fBack (f : F) : F := fun env => (f env).bind fun p => match p.1.opd.der p.2 with
  | some (.tup ds) => .ok (.d (.tup ds.reverse), p.2)
  | some (.lst ds) => .ok (.new ds.reverse, p.2)
  | _ => .no
theorem we_back {e : Expr} {f : F} {k : Nat} {p1 p2 p3 pos : Pos} (hK : X.K = z.K) (he : PE X e (tE z E f)) : PE X (.Subscript e (.Slice none none (some (.UnaryOp .USub (.Constant (.int 1) k p1) p2)) p3) pos) (tE z E (fBack f)) := pe_mono (pe_back he) fun σ H Q ⟨T, G, env, r, h⟩ => by
  rw [hK]
  refine ⟨T, G, env, r, (Pg.bind h).imp fun p hp v H1 G1 r1 e1 w1 => ?_⟩
  obtain ⟨G2, r2, e2, w2⟩ := w1.opd r1
  split at hp
  · rename_i ds ed
    obtain ⟨a, vs, rfl, hs, ia, _⟩ := isTup r2.f.exG (w2.der r2 ed)
    refine ⟨a, vs, rfl, .inr ⟨hs, fun q oo hq hd => ?_⟩⟩
    have g := (r2.nn hq).1
    exact hp _ _ _ (r2.grow hq) ((e1.trans e2).trans (Ex.new g)) (.tup (.new hd) (ia.reverse.mono (Ex.new g)))
  · rename_i ds ed
    obtain ⟨a, vs, rfl, hs, ia⟩ := isLst r2.f.exG (w2.der r2 ed)
    refine ⟨a, vs, rfl, .inl ⟨SqL.of hs, fun q hq => ?_⟩⟩
    obtain ⟨n1, n2, n3, n4, n5⟩ := r2.nn hq
    exact hp _ _ _ (r2.alloc hq) (e1.trans e2) ⟨q, _, rfl, upd_same, ia.reverse, n1, n2, n3, n4, n5⟩
  · exact hp.elim
end
def D.tru : D → Option Bool
  | .non => some false
  | .bl b => some b
  | .int i => some (i != 0)
  | .str x => if x.length ≤ 100000 then some ((x.length : Int) != 0) else none
  | .tup ds => some (!ds.isEmpty)
  | .lst ds => some (!ds.isEmpty)
  | _ => none
def fTru (f : F) : FB := fun env => (f env).bind fun p => (ofO ((p.1.opd.der p.2).bind D.tru)).bind fun b => .ok (b, p.2)
def fUn (g : Int → Int) (f : F) : F := fun env => (f env).bind fun p => match p.1 with
  | .d (.int i) => .ok (.d (.int (g i)), p.2)
  | _ => .no
section
variable {X : Cx} {z : Z} {E : XK} {k n : Nat} {a : Expr} {f : F} {pos : Pos}
theorem tru_is {K : PySem.W.Frag} {cl : Cl} {G H : Hp} {v : V} {d : D} {b : Bool} (e : Ex G H) (h : IsT K cl G H v d) (ht : d.tru = some b) : TruV K v H b := by
  rcases h with h | ⟨p, vs, xs, rfl, rfl, hp, ia⟩
  · cases h with
    | non => cases ht; exact rfl
    | bl b => cases ht; exact rfl
    | int i => cases ht; exact rfl
    | str x =>
      simp only [D.tru] at ht
      split at ht
      · rename_i hl; cases ht; exact ⟨line100 hl, rfl⟩
      · cases ht
    | @tup a vs ds hs ha => cases ht; exact .inr (.inl ⟨_, ex_t e hs.sq, by cases ha <;> rfl⟩)
    | @lst a vs ds hs ha => cases ht; exact .inl ⟨_, SqL.of (e _ _ hs), by cases ha <;> rfl⟩
    | _ => cases ht
  · cases ht; exact .inl ⟨_, SqL.of hp, by cases ia <;> rfl⟩
theorem wt_tru (hK : X.K = z.K) (h : PE X a (tE z E f)) (he : ∀ whole, isTrue a X.env whole = (do let v ← whole; standAt a.pos; holding [v] (truthy v)) := by intro _; rfl) : PT X a (tT z E (fTru f)) :=
  pt_mono (pt_truth h he) fun σ H Q ⟨T, G, env, r, h⟩ => by
    rw [hK]
    refine ⟨T, G, env, r, (Pg.bind h).imp fun p hp v H1 G1 r1 e1 w1 => ?_⟩
    obtain ⟨G2, r2, e2, w2⟩ := w1.opd r1
    obtain ⟨b, eb, hp⟩ := (Pg.bind hp).ofO
    cases q : p.1.opd.der p.2 with
    | none => rw [q] at eb; cases eb
    | some d =>
      rw [q] at eb
      exact ⟨b, tru_is r2.f.exG (w2.der r2 q) eb, hp H1 G2 r2 (e1.trans e2)⟩
theorem we_un {op : UnaryOp} {g : Int → Int} (hr : UnR X (unaryOp op) (rU fun i => .int (g i))) (h : PE X a (tE z E f)) : PE X (.UnaryOp op a pos) (tE z E (fUn g f)) := pe_mono (pe_un hr h) fun σ H Q ⟨T, G, env, r, h⟩ => by
  refine ⟨T, G, env, r, (Pg.bind h).imp fun p hp v H1 G1 r1 e1 w1 => ?_⟩
  obtain ⟨q1, q2⟩ := p
  dsimp only at hp
  split at hp
  · rename_i i
    have w1 : Is z.K z.cl G1 v (.int i) := w1
    cases w1
    exact ⟨i, rfl, hp _ H1 G1 r1 e1 (.int _)⟩
  · exact hp.elim
end
def FnB (P : Program) (w : World) (K : PySem.W.Frag) (mg : Str → Option Value) (base : Heap) (z : Z) (k : Nat) (x : Str) (ps : List Str) (m : Bool) (φ : Fn) : Prop :=
  ∃ f fd, FnOk P w K mg base (L2.CX P w) k f fd ps (spF z m ps.length φ) ∧ mg x = some (.ref f) ∧ PySem.W.keepIn K (.ref f) = true ∧ Binds K fd ps []
theorem FnB.mono {P : Program} {w : World} {K : PySem.W.Frag} {mg : Str → Option Value} {base : Heap} {z : Z} {j k : Nat} {x : Str} {ps : List Str} {m : Bool} {φ : Fn} (h : FnB P w K mg base z j x ps m φ) (hk : j ≤ k) : FnB P w K mg base z k x ps m φ :=
  let ⟨f, fd, a, b⟩ := h
  ⟨f, fd, a.mono hk, b⟩
theorem spF_at {z : Z} {m : Bool} {n : Nat} {φ : Fn} {G0 H0 : Hp} {M0 : Option Addr} {vs : List V} {H : Hp} {Q : VK} {E : XK} (h : spF (z.at_ G0 H0 M0) m n φ vs H Q E) : spF z m n φ vs H Q E := by
  obtain ⟨G, ds, M, a, e, l, p⟩ := h
  refine ⟨G, ds, M, ?_, e, l, p⟩
  cases a with
  | pure a => exact .pure a
  | wr a b c d => exact .wr a b c d
theorem FnB_at {P : Program} {w : World} {K : PySem.W.Frag} {mg : Str → Option Value} {base : Heap} {z : Z} {k : Nat} {x : Str} {ps : List Str} {m : Bool} {φ : Fn} (h : FnB P w K mg base z k x ps m φ) (G H : Hp) (M : Option Addr) : FnB P w K mg base (z.at_ G H M) k x ps m φ := by
  obtain ⟨f, fd, a, b⟩ := h
  exact ⟨f, fd, a.imp fun vs H Q E q => spF_at q, b⟩
section
variable {X : Cx} {z : Z} {E : XK} {k j n : Nat} {ps : List Str} {x : Str} {p pos : Pos} {e : Expr} {es : List Expr} {m : Bool} {φ : Fn} {g : FA}
theorem we_fn (F : FnB X.prog X.w X.K X.mg X.base z j x ps m φ) (o : OkX X z E k) (ha : WA X z E (e :: es) g ps.length) (hj : j ≤ k := by decide) (hg : Gl X x := by rfl) (hdb : (x == ("__debug__" : Str)) = false := by decide)
    (he : starEach (e :: es) X.env = (false, eval e X.env) :: starEach es X.env := by rfl) (hpl : (backTo pos (starEach es X.env)).any (·.1) = false := by rfl) : PE X (.Call (.Name x p) (e :: es) [] pos) (tE z E (fCall m φ g)) := by
  obtain ⟨f, fd, a, hm, hk, hb⟩ := F.mono hj
  exact we_call a o hm hk hb ha hg hdb he hpl
end
theorem cx_no {P : Program} {w : World} {o : List Env} {H : Hp} {s : Shared} {e : Value} {s' : Shared} (h : L2.CX P w o H s (fun _ _ _ => False) e s') : False := by
  obtain ⟨_, _, _, _, _, _, _, _, _, _, _, _, h⟩ := h
  exact h
end TN
namespace TN
open PySem PySem.Spec PyProof.Rows L2
section
variable {X : Cx} {z : Z} {E : XK} {k n c j : Nat} {pos p2 : Pos} {T G H : Hp} {env : Ev} {σ : L2.St} {Q : VK} {e : Expr} {f nm : Str} {C : Addr} {ns : List Str}
def AtF (ns : List Str) (j : Nat) (f : Str) : Prop := ns[j]? = some f ∧ ∀ i, i < j → ns[i]? ≠ some f
theorem lookup_at : ∀ {fs : List (Str × V)} {j : Nat} {f : Str} {v : V}, AtF (fs.map (·.1)) j f → (fs.map (·.2))[j]? = some v → fs.lookup f = some v
  | [], j, f, v, h, hv => by simp at hv
  | (g, x) :: fs, 0, f, v, h, hv => by
    have e1 : g = f := by simpa using h.1
    have e2 : x = v := by simpa using hv
    subst e1; subst e2
    simp [List.lookup]
  | (g, x) :: fs, j + 1, f, v, h, hv => by
    have ne : g ≠ f := fun e => h.2 0 (Nat.succ_pos j) (by simp [e])
    have ne2 : (f == g) = false := by simpa using fun e => ne e.symm
    have := lookup_at (fs := fs) (j := j) (f := f) (v := v) ⟨by simpa using h.1, fun i hi e => h.2 (i + 1) (Nat.succ_lt_succ hi) (by simpa using e)⟩ (by simpa using hv)
    simp only [List.lookup, ne2]
    exact this
def fAt (c j : Nat) (g : F) : F := fun env => (g env).bind fun p => match p.1 with
  | .d (.obj c' ds) => if c' = c then (ofO ds[j]?).bind fun d => .ok (.d d, p.2) else .no
  | _ => .no
theorem te_fld {g : F} {R : V → Hp → Prop} (hc : z.cl c = (C, ns)) (hj : AtF ns j f) (h : tE z E (fAt c j g) σ H Q)
    (k : ∀ a dx fs v H1, H1 a = some (.ins C dx fs) → fs.lookup f = some v → Q v H1 → R (.ref a) H1) : tE z E g σ H R := by
  obtain ⟨T, G, env, r, h⟩ := h
  refine ⟨T, G, env, r, (Pg.bind h).imp fun p hp v H' G' r' e' w => ?_⟩
  obtain ⟨p1, p2⟩ := p
  dsimp only at hp
  split at hp
  · rename_i c' ds
    split at hp
    · rename_i ec
      subst ec
      obtain ⟨d, ed, hp⟩ := (Pg.bind hp).ofO
      cases w with
      | @obj a dx _ fs vs _ ha hn hv ia =>
        obtain ⟨v, ev, iv⟩ := ia.get ed
        rw [hc] at ha hn
        have hl : fs.lookup f = some v := lookup_at (by rw [hn]; exact hj) (by rw [hv]; exact ev)
        exact k a dx fs v H' (r'.f.exG _ _ ha) hl (hp v H' G' r' e' iv)
    · exact hp.elim
  · exact hp.elim
theorem we_prop {g : F} {p gf : Addr} {fd : FuncData} (he : PE X e (tE z E g)) (o : OkX X z E k) (hc : z.cl c = (C, ns)) (hC : Cls X.K C) (hp : PropOf X.K C nm p gf) (F : FnOk X.prog X.w X.K X.mg X.base CX0 1 gf fd ["self"] (getSp C f)) (b : Binds X.K fd ["self"] []) (hj : AtF ns j f) (hk : 2 ≤ k := by decide)
    (hb : attributeBase e nm X.env (eval e X.env) = eval e X.env := by rfl) : PE X (.Attribute e nm pos) (tE z E (fAt c j g)) :=
  pe_mono (pe_prop (E := E) he hC hp F (o.room.mono hk) b .nil pass0 hb) fun σ H Q h => te_fld hc hj h fun a dx fs v H1 ha hl q => ⟨a, dx, fs, rfl, ha, a, dx, fs, v, rfl, ha, hl, q⟩
abbrev In := List D → Out (List D)
def fMk (c : Nat) (ι : In) (g : FA) : F := fun env => (g env).bind fun p => (ofO (fixAll p.2 p.1)).bind fun q => (ι q.1).bind fun fs => .ok (.d (.obj c fs), q.2)
def spI (z : Z) (C : Addr) (ns : List Str) (n : Nat) (ι : In) : Sp := fun vs H Q E => ∃ (G H1 : Hp) (x dx : Addr) (us : List V) (ds : List D), vs = .ref x :: us ∧ H1 x = none ∧ H1 dx = none ∧ dx ≠ x ∧ H = upd (upd H1 dx (.own x)) x (.ins C dx []) ∧ (Ex G H1 ∧ LamX.Tabs z.Ts H1 ∧ ∀ p ∈ z.Ts, G p.1 = none) ∧
  IsA z.K z.cl G us ds ∧ us.length = n ∧ Pg (z.at_ G H1 none) E (fun fs => ∀ H' G' fv, Fr (z.at_ G H1 none) G' H' → G' x = none → H' x = some (.ins C dx fv) → fv.map (·.1) = ns → IsA z.K z.cl G' (fv.map (·.2)) fs → Q .non H') (ι ds)
theorem te_mk {ι : In} {g : FA} (hc : z.cl c = (C, ns)) (h : tE z E (fMk c ι g) σ H Q) (hln : ∀ env rs e2, g env = .ok (rs, e2) → rs.length = n) : tMake C (spI z C ns n ι) [] E (tAr z E g) σ H Q := by
  obtain ⟨T, G, env, r, h⟩ := h
  have h' := Pg.bind h
  refine ⟨T, G, env, r, ?_⟩
  cases hq : g env with
  | no => rw [hq] at h'; exact h'
  | exc c d => rw [hq] at h'; exact h'
  | ok p =>
    rw [hq] at h'
    obtain ⟨rs, e2⟩ := p
    have hl := hln env rs e2 hq
    intro vs H1 G1 r1 e1 w1 x dx nx ndx ne
    have lv : vs.length = n := w1.length.trans hl
    obtain ⟨⟨ds, e3⟩, ef, h'⟩ := (Pg.bind (show Pg z E _ ((ofO (fixAll e2 rs)).bind _) from h')).ofO
    obtain ⟨G2, r2, x2, a⟩ := w1.fix r1 ef
    have hM : ∀ a, (none : Option Addr) = some a → z.H0 a = none ∨ z.M = some a := fun a e => by cases e
    refine ⟨G2, H1, x, dx, vs, ds, by rw [List.append_nil], nx, ndx, ne, rfl, ⟨r2.f.exG, r2.f.tb, r2.f.gT⟩, a, lv, Pg.in r2.f hM (fun fs hs => ?_) (Pg.bind h')⟩
    intro H' G' fv f' gx hx hnm ia
    refine ⟨rfl, ?_⟩
    have r3 : Rep z T G' H' e3 σ := r2.back hM f' rfl (fun i s es => .inl ⟨es, fun _ _ _ w => by cases w⟩) (fun _ _ w => w) (fun _ _ w => by cases w)
    obtain ⟨n1, n2, n3, n4, n5⟩ := r2.nn nx
    have r4 : Rep z T (upd G' x (.ins C dx fv)) H' e3 σ := r3.freeze hx gx n2 n3 n4 fun i w => n5 i w
    have xx : Ex G' (upd G' x (.ins C dx fv)) := Ex.new gx
    have hs : CR z T σ G Q (.d (.obj c fs), e3) := hs
    refine hs (.ref x) H' _ r4 (((e1.trans x2).trans f'.g0).trans xx) ?_
    have e0 : (z.cl c).1 = C := by rw [hc]
    have e1 : (z.cl c).2 = ns := by rw [hc]
    exact .obj (by rw [e0]; exact upd_same) (by rw [e1]; exact hnm) rfl (ia.mono xx)
theorem we_mk {ι : In} {g : FA} {fi : Addr} {fd : FuncData} {ps : List Str} {x : Str} {p : Pos} {es : List Expr} (o : OkX X z E k) (hc : z.cl c = (C, ns)) (M : Mk X.K C fi) (F : FnOk X.prog X.w X.K X.mg X.base (L2.CX X.prog X.w) j fi fd ps (spI z C ns n ι)) (b : Binds X.K fd ps []) (hm : X.mg x = some (.ref C))
    (ha : WA X z E (e :: es) g n) (hk : j + 1 ≤ k := by decide) (hg : Gl X x := by rfl) (hdb : (x == ("__debug__" : Str)) = false := by decide) (he : starEach (e :: es) X.env = (false, eval e X.env) :: starEach es X.env := by rfl) (hpl : (backTo pos (starEach es X.env)).any (·.1) = false := by rfl) :
    PE X (.Call (.Name x p) (e :: es) [] pos) (tE z E (fMk c ι g)) :=
  pe_mono (pe_make M F (o.room.mono hk) hg hm b .nil (passes_call (W := fun c d _ H => E c d H) o.tk fun _ _ _ _ h => h) ha.pa hdb he hpl) fun _ _ _ h => te_mk hc h ha.len
end
end TN
namespace TN
open PySem PySem.Spec PyProof.Rows L2
section
variable {X : Cx} {CX : CXT} {C f : Addr} {fd : FuncData} {ps : List Str} {sp : Sp} {E : XK} {n : Nat}
section
variable {M : Model} {A : Around} {EE : Value → Shared → Prop} {s : Shared} {K : PySem.W.Frag} {x : Addr} {ox : Obj} {od : Option Obj}
end
end
section
variable {C : Addr} {prog : Program} {w : World} {A : Around} {EE : Value → Shared → Prop} {s : Shared} {K : PySem.W.Frag} {x y g : Addr} {ox : Obj} {od : Option Obj}
end
section
variable {X : Cx} {CX : CXT} {C f : Addr} {fd : FuncData} {ps : List Str} {sp : Sp} {E : XK} {n : Nat}
end
end TN
namespace TN
open PySem PySem.Spec PyProof.Rows L2
def kEqO (c : Nat) (φ : Fn) (neg : Bool) : D → D → Ev → Out (R × Ev) := fun x y e => match x, y with
  | .obj a xs, .obj b ys => if a = c ∧ b = c then (φ [.obj a xs, .obj b ys]).bind fun s => (match s.1 with
      | .d (.bl r) => .ok (.d (.bl (if neg then !r else r)), e)
      | _ => .no) else .no
  | x, y => (dEq neg x y).bind fun q => .ok (q.r, e)
def fEqO (c : Nat) (φ : Fn) (neg : Bool) (fa fb : F) : F := fTwo fa fb (kEqO c φ neg)
section
variable {X : Cx} {z : Z} {E : XK} {k n c : Nat} {pos : Pos} {a b : Expr} {fa fb : F} {σ : L2.St} {H : Hp} {Q : VK} {C : Addr} {ns : List Str} {φ : Fn} {neg : Bool}
structure EqB (X : Cx) (z : Z) (k : Nat) (C : Addr) (φ : Fn) : Prop where
  fn : ∃ f fd, FnOk X.prog X.w X.K X.mg X.base (L2.CX X.prog X.w) k f fd ["self", "other"] (spF z false 2 φ) ∧ Binds X.K fd ["self", "other"] [] ∧ PySem.W.findIn X.K (.ref C) "__eq__" = some (some (.ref f)) ∧ PySem.W.isFn X.K (.ref f) = true
  ne : PySem.W.findIn X.K (.ref C) "__ne__" = some (some (.builtin "object.__ne__"))
  mro : PySem.W.mroIn X.K C (.type "object") = some true
end
def bIsiC : List D → Out R0
  | [.obj 0 _, .cls 0] => .ok (.d (.bl true))
  | [.obj 0 _, .ty T] => if T ∈ ["int", "bool", "str", "tuple", "list", "dict"] then .ok (.d (.bl false)) else .no
  | [x, .cls 0] => match tyOf x with
    | some _ => .ok (.d (.bl false))
    | none => .no
  | ds => bIsi ds
structure KitB (K : PySem.W.Frag) (C : Addr) : Prop where
  cl : Cls K C
  ha : PySem.W.findIn K (.ref C) "__class__" = some (some (.builtin "object.__class__"))
  hn : PySem.W.specialIn K (.builtin "object.__class__") "__get__" = some (some (.builtin "getset_descriptor.__get__"))
  htk : PySem.W.takesIn K (.builtin "object.__class__") = some true
  hm : PySem.W.mroIn K C (.type "object") = some true
  k1 : ∀ T ∈ ["int", "bool", "str", "tuple", "list", "dict"], PySem.W.kitOne K (.ref C) (.type T) = some false
  k2 : ∀ t ∈ ["NoneType", "bool", "int", "str", "tuple", "list", "dict"], PySem.W.kitOne K (.type t) (.ref C) = some false
section
variable {X : Cx} {z : Z} {E : XK} {k : Nat} {pos : Pos} {C : Addr} {ns : List Str}
theorem cd_isiC (hK : X.K = z.K) (hc : z.cl 0 = (C, ns)) (B : KitB X.K C) : CallD X z (.builtin "isinstance") bIsiC := by
  obtain ⟨r0, h1, h2⟩ := (cd_isi (X := X) (z := z) hK).run
  refine ⟨⟨fun xs H Q => rIsi X.K xs H Q ∨ r0 xs H Q, fun pins s σ H vs us Q I r h => by
    rcases h with h | h
    · exact call_isi pins s σ H vs us Q I r h
    · exact h1 pins s σ H vs us Q I r h, fun G H vs ds Q e i p => ?_⟩, fun x c d => ?_⟩
  · have own : ∀ {v : V} {fs : List D}, IsT z.K z.cl G H v (.obj 0 fs) → TyX X.K H v (.ref C) := fun {v fs} h => by
      rcases h with h | ⟨_, _, _, _, e, _⟩
      · cases h with
        | obj ha _ _ _ =>
          rw [hc] at ha
          exact .base (.ins (e _ _ ha) B.cl B.ha B.hn B.htk B.hm)
      · cases e
    have isCls : ∀ {v : V}, IsT z.K z.cl G H v (.cls 0) → v = .ref C := fun {v} h => by
      rcases h with h | ⟨_, _, _, _, e, _⟩
      · cases h
        rw [hc]
      · cases e
    unfold bIsiC at p
    split at p
    · obtain ⟨v, w, rfl, wv, ww⟩ := isTs2 i
      rw [isCls ww]
      exact .inl ⟨_, _, _, _, true, rfl, .own C, own wv, by unfold PySem.W.kitOne; rw [if_pos (beq_self_eq_true _)], p _ (.bl _)⟩
    · split at p
      · rename_i hT
        obtain ⟨v, w, rfl, wv, ww⟩ := isTs2 i
        rw [isTy ww]
        exact .inl ⟨_, _, _, _, false, rfl, .ty _, own wv, B.k1 _ hT, p _ (.bl _)⟩
      · exact p.elim
    · split at p
      · rename_i t ht
        obtain ⟨v, w, rfl, wv, ww⟩ := isTs2 i
        rw [isCls ww]
        refine .inl ⟨_, _, _, _, false, rfl, .own C, ?_, B.k2 _ (tyOf_mem ht), p _ (.bl _)⟩
        rw [hK]
        exact tyOf_is e wv ht
      · exact p.elim
    · exact .inr (h2 G H vs _ Q e i p)
  · unfold bIsiC
    split <;> (try split) <;> first | (intro h; cases h) | exact (cd_isi (X := X) (z := z) hK).nx _ c d
theorem we_cls {x : Str} {c : Nat} (hm : X.mg x = some (.ref C)) (hc : z.cl c = (C, ns)) (hg : Gl X x := by rfl) (hd : (x == ("__debug__" : Str)) = false := by decide) : PE X (.Name x pos) (tE z E (fC (.cls c))) :=
  pe_mono (pe_glob (v := .ref C) hg hm rfl hd) fun σ H Q ⟨T, G, env, r, h⟩ => by
    refine h (.ref C) H G r (Ex.refl G) ?_
    have : z.cl c = (C, ns) := hc
    have e : V.ref C = V.ref (z.cl c).1 := by rw [this]
    rw [e]
    exact .cls c
end
end TN
namespace TN
open PySem PySem.Spec PyProof.Rows L2
def gAll : List FB → Ev → Out Ev
  | [], env => .ok env
  | c :: cs, env => (c env).bind fun p => if p.1 = true then .no else gAll cs p.2
def valsAt (env : Ev) : List Nat → Option (List D)
  | [] => some []
  | i :: is => match env[i]? with
    | some (.val d) => match valsAt env is with
      | some ds => some (d :: ds)
      | none => none
    | _ => none
def initF (n : Nat) (is : List Nat) (gs : List FB) : In := fun ds => (gAll gs (.no :: ds.map Sl.val ++ List.replicate (n - (ds.length + 1)) .no)).bind fun e => ofO (valsAt e is)
section
variable {X : Cx} {z : Z} {E : XK} {k n : Nat} {pos : Pos} {c : FB} {cs : List FB} {t : TS} {test : Expr} {body rest : List Stmt}
end
section
variable {P : Program} {w : World} {K : PySem.W.Frag} {mg : Str → Option Value} {base : Heap}
end
end TN
namespace TN
open PySem PySem.Spec PyProof.Rows L2
section
variable {X : Cx}
theorem tupX_is {pins : List (Addr × Obj)} {σ : L2.St} {H : Hp} {s : Shared} {p : Addr} {vs : List V} (I : Inv X pins σ H s) (h : TupX X.K H p vs) :
    s.TypeIs (.ref p) "tuple" ∧ ∀ a, Value.ref p = .ref a → ∃ ob, s.heap.get? a = some ob ∧ ob.dict = none := by
  rcases h with ⟨o, h, hd⟩ | ⟨o, its, n, ⟨h1, hd⟩, hc, _⟩
  · obtain ⟨g, _, its, _, ⟨o', g', c, _⟩⟩ := I.hok p _ h
    rw [g] at g'
    cases g'
    exact ⟨⟨o, g, c⟩, fun a e => by cases e; exact ⟨o, g, hd⟩⟩
  · have g := I.kIn p o h1
    exact ⟨⟨o, g, hc⟩, fun a e => by cases e; exact ⟨o, g, hd⟩⟩
def tMtT (K : PySem.W.Frag) (r : V → List V → Hp → VK → Prop) (to : TE) (t : TA) : TE := fun σ H Q => to σ H fun x H1 => (∃ p vs, x = .ref p ∧ TupX K H1 p vs) ∧ t σ H1 fun xs H2 => r x xs H2 Q
theorem pe_mtT {o e : Expr} {es : List Expr} {to : TE} {t : TA} {name : Str} {apos cpos : Pos} {id : String} {r : V → List V → Hp → VK → Prop} (slot : Slot "tuple" name id) (hty : typeOf (.builtin id) = pure (.type "method_descriptor")) (hm : MtR X id r) (ho : PE X o to) (ha : PA X (e :: es) t)
    (hbase : attributeBase o name X.env (eval o X.env) = eval o X.env := by rfl)
    (hfew : ((backTo cpos (starEach (e :: es) X.env)).all (fun x => !x.1) && (backToKw cpos (keywordEach [] X.env)).all (fun x => x.1.isSome)
      && decide ((e :: es).length + ([] : List Keyword).length + (if ([] : List Keyword).isEmpty then 0 else 1) < 30)) = true := by rfl)
    (hline : (apos.endLine == cpos.line) = true := by rfl) (hs : starEach (e :: es) X.env = (false, eval e X.env) :: starEach es X.env := by rfl) (hplain : (backTo cpos (starEach es X.env)).any (·.1) = false := by rfl) :
    PE X (.Call (.Attribute o name apos) (e :: es) [] cpos) (tMtT X.K r to t) := by
  refine ⟨fun pins s σ H Q I h => ?_⟩
  refine wpAny_Call_method_late hbase hfew hline rfl (thn (ho.run pins s σ H _ I h) fun v s1 ⟨x, H1, I1, r1, ⟨p, vs, ex, tx⟩, q1⟩ => ?_)
  subst ex
  cases (show v = Value.ref p from r1)
  obtain ⟨h1, h2⟩ := tupX_is I1 tx
  refine ⟨"tuple", id, PySem.F.plainAttrs_tuple, slot, hty, h1, h2, ?_⟩
  have hA := ha.run cpos pins s1 σ H1 _ I1 q1
  rw [hs] at hA ⊢
  refine Calls.callWith_builtin (by show (false || (backTo cpos (starEach es X.env)).any (·.1)) = false; rw [hplain] <;> rfl) (Calls.evalArgs_plain ?_)
  exact thn hA fun us s2 ⟨ws, H2, I2, r2, q2⟩ => hm pins s2 σ H2 (.ref p) ws _ us Q I2 rfl r2 q2
def rIdxI (K : PySem.W.Frag) : V → List V → Hp → VK → Prop := fun x xs H Q => ∃ (p : Addr) (ns : List Int) (k : Int) (a j : Nat), x = .ref p ∧ (xs = [.int k] ∧ a = 0 ∨ xs = [.int k, .int a]) ∧ SqT K H p (ns.map V.int) ∧
  ns[j]? = some k ∧ a ≤ j ∧ (∀ m, a ≤ m → m < j → ns[m]? ≠ some k) ∧ Q (.int (j : Nat)) H
theorem mt_tidx : MtR X "tuple.index" (rIdxI X.K) := by
  intro pins s σ H x xs v us Q I rx rs h
  obtain ⟨p, ns, k, a, j, rfl, hx, hq, hj, haj, hno, q⟩ := h
  cases rx
  obtain ⟨its, r, ⟨⟨cls, dd, dt, sl⟩, ho, hc, n, hd⟩, hz⟩ := I.tuple hq
  simp only at hc hd
  subst hc hd
  have hi := ints_of_vals r
  have hl : its.toArray.size = ns.length := by rw [List.size_toArray, ← r.length, List.length_map]
  have at' : ∀ (m : Nat) (hm : m < its.toArray.size), ∃ t', its.toArray[m] = Value.int (ns[m]'(by omega)) t' := fun m hm => by
    have hm' : m < ns.length := by omega
    obtain ⟨w, hw, t', hw'⟩ := r.get (i := m) (x := .int ns[m]) (by simp [hm'])
    refine ⟨t', ?_⟩
    have e := (List.getElem?_eq_some_iff.mp hw).2
    rw [← hw', ← e]
    simp
  have hjn : j < ns.length := (List.getElem?_eq_some_iff.mp hj).1
  have hjs : j < its.toArray.size := by omega
  have key : ∀ (t : Tok), (∀ m (hm : m < its.toArray.size), PySem.SeqAt.EqAt X.A.in1 s its.toArray[m] (.int k t) (decide (ns[m]? = some k))) := fun t m hm => by
    obtain ⟨t', e⟩ := at' m hm
    rw [e]
    have := PySem.SeqAt.EqAt.int_int (A := X.A.in1) (s := s) (ns[m]'(by omega)) t' k t
    have hb : ((ns[m]'(by omega)) == k) = decide (ns[m]? = some k) := by
      rw [List.getElem?_eq_getElem (show m < ns.length by omega)]
      by_cases q : ns[m]'(by omega) = k <;> simp [q]
    rw [← hb]
    exact this
  rcases hx with ⟨rfl, rfl⟩ | rfl
  · obtain ⟨u, rfl, t, rfl⟩ := vals1 rs
    refine call_meets PySem.F.slot_tuple_index ⟨_, ho, rfl⟩ PySem.F.entry_tuple_index (PySem.F.args_tuple_index_2 _ _)
      (PySem.SeqAt.tuple_index2_found p its.toArray n dd sl (.int k t) (fun m => decide (ns[m]? = some k)) j hjs (Nat.zero_le _) hjs (decide_eq_true hj) (fun m _ h0 hm => decide_eq_false (hno m h0 hm))) ⟨ho, fun m hm => key t m hm, ⟨.int (j : Nat), H, I.tok _, ⟨_, rfl⟩, q⟩⟩
  · obtain ⟨u, w, rfl, ru, rw'⟩ := vals2 rs
    obtain ⟨t, rfl⟩ := ru
    obtain ⟨t2, rfl⟩ := rw'
    refine call_meets PySem.F.slot_tuple_index ⟨_, ho, rfl⟩ PySem.F.entry_tuple_index (PySem.F.args_tuple_index_3 _ _ _)
      (PySem.SeqAt.tuple_index3_found p its.toArray n dd sl (.int k t) (fun m => decide (ns[m]? = some k)) a t2 j hjs (by rw [PySem.SeqAt.searchFrom_nat]; exact haj) hjs (decide_eq_true hj) (fun m _ h0 hm => decide_eq_false (hno m (by rw [PySem.SeqAt.searchFrom_nat] at h0; exact h0) hm))) ⟨ho, fun m hm => key t m hm, ⟨.int (j : Nat), H, I.tok _, ⟨_, rfl⟩, q⟩⟩
def rCntT (K : PySem.W.Frag) : V → List V → Hp → VK → Prop := fun x xs H Q => ∃ (p : Addr) (ns : List Int) (k : Int), x = .ref p ∧ xs = [.int k] ∧ SqT K H p (ns.map V.int) ∧ Q (.int (ns.count k : Nat)) H
theorem mt_tcnt : MtR X "tuple.count" (rCntT X.K) := by
  intro pins s σ H x xs v us Q I rx rs h
  obtain ⟨p, ns, k, rfl, rfl, hq, q⟩ := h
  cases rx
  obtain ⟨u, rfl, t, rfl⟩ := vals1 rs
  obtain ⟨its, r, ⟨⟨cls, dd, dt, sl⟩, ho, hc, n, hd⟩, hz⟩ := I.tuple hq
  simp only at hc hd
  subst hc hd
  have hi := ints_of_vals r
  refine call_meets PySem.F.slot_tuple_count ⟨_, ho, rfl⟩ PySem.F.entry_tuple_count (PySem.F.args_tuple_count_2 _ _)
    (SeqAt.tuple_countAt p its.toArray n dd sl (.int k t) (eqk k)) ⟨ho, fun y hy => (eqk_gives hi y (by simpa using hy)).at _ _, ?_⟩
  have ec : its.toArray.toList.countP (eqk k) = ns.count k := eqk_count hi
  refine ⟨.int (ns.count k : Nat), H, I.tok _, ⟨s.toks, ?_⟩, q⟩
  rw [ec]
end
def fMtT (op : List D → List D → Out R0) (f : F) (g : FA) : F := fun env => (f env).bind fun p => match p.1 with
  | .d (.tup ds) => (g p.2).bind fun q => (ofO (derAll q.2 q.1)).bind fun xs => (op ds xs).bind fun o => .ok (o.r, q.2)
  | _ => .no
structure MtD (X : Cx) (z : Z) (id : String) (op : List D → List D → Out R0) : Prop where
  run : ∃ r, MtR X id r ∧ ∀ G H v vs ds xs Q, Ex G H → Is z.K z.cl G v (.tup ds) → IsTs z.K z.cl G H vs xs → P0 z G H Q (op ds xs) → r v vs H Q
  nx : ∀ ds xs c d, op ds xs ≠ .exc c d
section
variable {X : Cx} {z : Z} {E : XK} {n : Nat} {apos cpos : Pos} {o e : Expr} {es : List Expr} {f : F} {g : FA} {name : Str} {id : String} {op : List D → List D → Out R0}
theorem we_mtT (hK : X.K = z.K) (M : MtD X z id op) (slot : Slot "tuple" name id) (hty : typeOf (.builtin id) = pure (.type "method_descriptor")) (ho : PE X o (tE z E f)) (ha : WA X z E (e :: es) g n)
    (hbase : attributeBase o name X.env (eval o X.env) = eval o X.env := by rfl)
    (hfew : ((backTo cpos (starEach (e :: es) X.env)).all (fun x => !x.1) && (backToKw cpos (keywordEach [] X.env)).all (fun x => x.1.isSome)
      && decide ((e :: es).length + ([] : List Keyword).length + (if ([] : List Keyword).isEmpty then 0 else 1) < 30)) = true := by rfl)
    (hline : (apos.endLine == cpos.line) = true := by rfl) (hs : starEach (e :: es) X.env = (false, eval e X.env) :: starEach es X.env := by rfl) (hplain : (backTo cpos (starEach es X.env)).any (·.1) = false := by rfl) :
    PE X (.Call (.Attribute o name apos) (e :: es) [] cpos) (tE z E (fMtT op f g)) := by
  obtain ⟨r, h1, h2⟩ := M.run
  refine pe_mono (pe_mtT slot hty h1 ho ha.pa hbase hfew hline hs hplain) fun σ H Q ⟨T, G, env, rp, h⟩ => ?_
  refine ⟨T, G, env, rp, (Pg.bind h).imp fun p hp v H1 G1 r1 e1 w1 => ?_⟩
  obtain ⟨p1, p2⟩ := p
  dsimp only at hp
  split at hp
  · rename_i ds
    have w1 : Is z.K z.cl G1 v (.tup ds) := w1
    have w1' := w1
    cases w1 with
    | @tup a vs _ ht ia =>
      rw [hK]
      refine ⟨⟨a, vs, rfl, ex_x r1.f.exG ht⟩, T, G1, p2, r1, (Pg.bind hp).imp fun q hq ws H2 G2 r2 e2 w2 => ?_⟩
      obtain ⟨xs, ed, hq⟩ := (Pg.bind hq).ofO
      exact h2 G2 H2 _ ws ds xs Q r2.f.exG (w1'.mono e2) (w2.der r2 ed) (p0_end (E := E) r2 ((Pg.bind hq).imp fun o ho => CR.mono ho (e1.trans e2)) (M.nx _ _))
  · exact hp.elim
end
def firstI (k : Int) : Nat → List Int → Nat → Option Nat
  | _, [], _ => none
  | a, n :: ns, i => if a ≤ i ∧ n = k then some i else firstI k a ns (i + 1)
theorem firstI_some {k : Int} {a : Nat} : ∀ {ns : List Int} {i j : Nat}, firstI k a ns i = some j → i ≤ j ∧ ns[j - i]? = some k ∧ a ≤ j ∧ ∀ m, a ≤ m → i ≤ m → m < j → ns[m - i]? ≠ some k
  | [], _, _, h => by cases h
  | n :: ns, i, j, h => by
    unfold firstI at h
    split at h
    · rename_i q
      cases h
      refine ⟨Nat.le_refl _, by simp [q.2], q.1, fun m _ h1 h2 => by omega⟩
    · rename_i q
      obtain ⟨h1, h2, h3, h4⟩ := firstI_some h
      refine ⟨by omega, ?_, h3, fun m ha hi hm => ?_⟩
      · rw [show j - i = (j - (i + 1)) + 1 by omega, List.getElem?_cons_succ]
        exact h2
      · by_cases e : m = i
        · subst e
          rw [Nat.sub_self, List.getElem?_cons_zero]
          intro w
          exact q ⟨ha, Option.some.inj w⟩
        · rw [show m - i = (m - (i + 1)) + 1 by omega, List.getElem?_cons_succ]
          exact h4 m ha (by omega) hm
def mIdx : List D → List D → Out R0
  | ds, [.int k] => match toInts ds with
    | some ns => match firstI k 0 ns 0 with
      | some j => .ok (.d (.int (j : Nat)))
      | none => .no
    | none => .no
  | ds, [.int k, .int a] => if 0 ≤ a then match toInts ds with
    | some ns => match firstI k a.toNat ns 0 with
      | some j => .ok (.d (.int (j : Nat)))
      | none => .no
    | none => .no else .no
  | _, _ => .no
def mCnt : List D → List D → Out R0
  | ds, [.int k] => match toInts ds with
    | some ns => .ok (.d (.int (ns.count k : Nat)))
    | none => .no
  | _, _ => .no
section
variable {X : Cx} {z : Z}
theorem md_idx (hK : X.K = z.K) : MtD X z "tuple.index" mIdx := ⟨⟨_, mt_tidx, fun G H v vs ds xs Q e iv i p => by
  rw [hK]
  cases iv with
  | @tup a ws _ ht ia =>
    have hs : SqT z.K H a ws := ex_t e ht.sq
    unfold mIdx at p
    split at p
    · obtain ⟨w, rfl, iw⟩ := isTs1 i
      split at p
      · rename_i ns q
        split at p
        · rename_i j hj
          obtain ⟨_, h2, h3, h4⟩ := firstI_some hj
          rw [toInts_eq q] at ia
          rw [IsA.ints ia] at hs
          exact ⟨a, ns, _, 0, j, rfl, .inl ⟨by rw [isInt iw], rfl⟩, hs, by simpa using h2, h3, fun m a1 a2 => by simpa using h4 m a1 (Nat.zero_le _) a2, p _ (.int _)⟩
        · exact p.elim
      · exact p.elim
    · obtain ⟨w, w2, rfl, iw, iw2⟩ := isTs2 i
      split at p
      · rename_i k b hb
        split at p
        · rename_i ns q
          split at p
          · rename_i j hj
            obtain ⟨_, h2, h3, h4⟩ := firstI_some hj
            rw [toInts_eq q] at ia
            rw [IsA.ints ia] at hs
            refine ⟨a, ns, k, b.toNat, j, rfl, .inr ?_, hs, by simpa using h2, h3, fun m a1 a2 => by simpa using h4 m a1 (Nat.zero_le _) a2, p _ (.int _)⟩
            rw [isInt iw, isInt iw2, Int.toNat_of_nonneg hb]
          · exact p.elim
        · exact p.elim
      · exact p.elim
    · exact p.elim⟩, fun ds xs c d => by unfold mIdx; split <;> (try split) <;> (try split) <;> (try split) <;> (intro h; cases h)⟩
theorem md_cnt (hK : X.K = z.K) : MtD X z "tuple.count" mCnt := ⟨⟨_, mt_tcnt, fun G H v vs ds xs Q e iv i p => by
  rw [hK]
  cases iv with
  | @tup a ws _ ht ia =>
    have hs : SqT z.K H a ws := ex_t e ht.sq
    unfold mCnt at p
    split at p
    · obtain ⟨w, rfl, iw⟩ := isTs1 i
      split at p
      · rename_i ns q
        rw [toInts_eq q] at ia
        rw [IsA.ints ia] at hs
        exact ⟨a, ns, _, rfl, by rw [isInt iw], hs, p _ (.int _)⟩
      · exact p.elim
    · exact p.elim⟩, fun ds xs c d => by unfold mCnt; split <;> (try split) <;> (intro h; cases h)⟩
end
end TN
namespace TN
open PySem PySem.Spec PyProof.Rows L2
def in2F (ga : GA) (c : FB) (f : F) (vs : List Nat) : List D → List D → Ev → Out (List D × Ev)
  | [], acc, env => .ok (acc, env)
  | d :: ds, acc, env => (ofO (ga d (wipeE env vs))).bind fun e => (noX (c e)).bind fun p => if p.1 = true then
      (noX (f p.2)).bind fun q => (ofO (q.1.opd.fix q.2)).bind fun y => if acc.length < 100000 then in2F ga c f vs ds (acc ++ [y.1]) y.2 else .no
    else in2F ga c f vs ds acc p.2
def out2F (ga : GA) (c : FB) (fi1 : FI) (ga1 : GA) (c1 : FB) (f : F) (vs vs1 : List Nat) : List D → List D → Ev → Out (List D × Ev)
  | [], acc, env => .ok (acc, env)
  | d :: ds, acc, env => (ofO (ga d (wipeE env vs))).bind fun e => (noX (c e)).bind fun p => if p.1 = true then
      (noX (fi1 p.2)).bind fun q => (in2F ga1 c1 f vs1 q.1 acc q.2).bind fun r => out2F ga c fi1 ga1 c1 f vs vs1 ds r.1 r.2
    else out2F ga c fi1 ga1 c1 f vs vs1 ds acc p.2
def fLc2 (fi : FI) (ga : GA) (c : FB) (fi1 : FI) (ga1 : GA) (c1 : FB) (f : F) (vs vs1 : List Nat) : F := fun env => (fi env).bind fun p =>
    (out2F ga c fi1 ga1 c1 f vs vs1 p.1 [] p.2).bind fun q => .ok (.new q.1, rstF (oldS p.2) vs 0 (wipeE q.2 vs))
theorem wipe_sub {σ τ : L2.St} {us vs : List Nat} (h : wipe σ us = wipe τ us) (hs : ∀ i ∈ us, i ∈ vs) : wipe σ vs = wipe τ vs := by
  have hl : σ.length = τ.length := by
    have := congrArg List.length h
    rwa [wipe_length, wipe_length] at this
  apply List.ext_getElem?
  intro j
  by_cases hj : j ∈ vs
  · have one : ∀ τ : L2.St, (wipe τ vs)[j]? = if j < τ.length then some none else none := fun τ => by
      by_cases hl : j < τ.length
      · rw [if_pos hl]
        cases q : (wipe τ vs)[j]? with
        | none => rw [List.getElem?_eq_none_iff, wipe_length] at q; omega
        | some o =>
          cases o with
          | none => rfl
          | some v => exact absurd hj (wipe_some q).2
      · rw [if_neg hl, List.getElem?_eq_none (by rw [wipe_length]; omega)]
    rw [one, one, hl]
  · have hu : j ∉ us := fun m => hj (hs j m)
    rw [wipe_get hj, wipe_get hj, ← wipe_get hu (σ := σ), ← wipe_get hu (σ := τ), h]
theorem wipe_wipe (σ : L2.St) (vs : List Nat) : wipe (wipe σ vs) vs = wipe σ vs := by
  have one : ∀ τ : L2.St, ∀ j ∈ vs, (wipe τ vs)[j]? = if j < τ.length then some none else none := fun τ j hj => by
    by_cases hl : j < τ.length
    · rw [if_pos hl]
      cases q : (wipe τ vs)[j]? with
      | none => rw [List.getElem?_eq_none_iff, wipe_length] at q; omega
      | some o =>
        cases o with
        | none => rfl
        | some v => exact absurd hj (wipe_some q).2
    · rw [if_neg hl, List.getElem?_eq_none (by rw [wipe_length]; omega)]
  apply List.ext_getElem?
  intro j
  by_cases hj : j ∈ vs
  · rw [one _ j hj, one _ j hj, wipe_length]
  · rw [wipe_get hj]
theorem Rep.more {z : Z} {T G H : Hp} {env : Ev} {σ : L2.St} {Da : Addr} {xs ys : List V} (r : Rep z (upd T Da (.lst xs)) G H env σ) (h0 : z.H0 Da = none) : Rep z (upd T Da (.lst ys)) G (upd H Da (.lst ys)) env σ := by
  have tD : (upd T Da (.lst xs)) Da ≠ none := by rw [upd_same]; intro w; cases w
  refine r.temp (Da := Da) (tabs_L r.f.tb (r.exT Da _ upd_same)) (fun a ha => upd_ne ha) (r.gt Da tD) h0 (r.noOw tD) (fun a u ha => ?_) fun a ha => ?_
  · by_cases q : a = Da
    · subst q; rw [upd_same] at ha ⊢; exact ha
    · rw [upd_ne q] at ha ⊢
      exact r.exT a u (by rw [upd_ne q]; exact ha)
  · by_cases q : a = Da
    · exact .inl q
    · rw [upd_ne q] at ha
      exact .inr (by rw [upd_ne q]; exact ha)
section
variable {X : Cx} {z : Z} {E : XK} {k n : Nat} {pos : Pos} {tg iter tg1 iter1 elt : Expr} {ifs ifs1 : List Expr} {fi fi1 : FI} {ga ga1 : GA} {is is1 : List Nat} {c c1 : FB} {f : F} {scope : Scope} {own : List (Str × Nat)}
theorem te_lc2 {vs vs1 : List Nat} {σ : L2.St} {H : Hp} {Q : VK} (his : ∀ i ∈ is, i ∈ vs) (his1 : ∀ i ∈ is1, i ∈ vs1) (hvv : ∀ i ∈ vs1, i ∈ vs) (h : tE z E (fLc2 fi ga c fi1 ga1 c1 f vs vs1) σ H Q) :
    tLc2 (tI z E fi) (tG z is ga) (tT z E0 c) (tI z E0 fi1) (tG z is1 ga1) (tT z E0 c1) (tE z E0 f) vs vs1 σ H Q := by
  obtain ⟨T, G, env, r, h⟩ := h
  refine ⟨T, G, env, r, (Pg.bind h).imp fun p hp J H1 G1 r1 e1 wk => ?_⟩
  obtain ⟨ds, env1⟩ := p
  dsimp only at hp
  intro Da hD
  obtain ⟨n1, n2, n3, n4, n5⟩ := r1.nn hD
  have hp := Pg.bind hp
  
  refine ⟨fun i m H' => ∃ G' env' σ' acc accV, Rep z (upd T Da (.lst accV)) G' H' env' σ' ∧ wipe σ' vs = wipe σ vs ∧ Ex G1 G' ∧ m + i = ds.length ∧ IsA z.K z.cl G' accV acc ∧
    Pg z E (fun q : List D × Ev => Pg z E (CR z T σ G Q) (.ok (.new q.1, rstF (oldS env1) vs 0 (wipeE q.2 vs)))) (out2F ga c fi1 ga1 c1 f vs vs1 (ds.drop i) acc env'), ⟨ds.length, G1, env1, σ, [], [], ?_, rfl, Ex.refl G1, rfl, .nil, hp⟩, ?_⟩
  · refine r1.temp (Da := Da) (tabs_N r1.f.tb hD) (fun a ha => upd_ne ha) n1 n3 n5 (fun a u ha => ?_) fun a ha => ?_
    · by_cases q : a = Da
      · subst q; rw [upd_same] at ha ⊢; exact ha
      · rw [upd_ne q] at ha ⊢; exact r1.exT a u ha
    · by_cases q : a = Da
      · exact .inl q
      · rw [upd_ne q] at ha; exact .inr ha
  · rintro i m H2 ⟨G2, env2, σ2, acc, accV, r2, hw, x2, em, ia, h2⟩
    have tD : ∀ xs : List V, (upd T Da (.lst xs)) Da ≠ none := fun xs => by rw [upd_same]; intro w; cases w
    have hDa : H2 Da = some (.lst accV) := r2.exT Da _ upd_same
    cases q : ds.drop i with
    | nil =>
      rw [q] at h2
      have hl : ds.length ≤ i := by
        have := congrArg List.length q
        rw [List.length_drop] at this
        simp at this
        omega
      refine .inl ⟨(wk i H2 (x2.trans r2.f.exG)).2 hl, ?_⟩
      have r3 := r2.wipe vs
      rw [hw] at r3
      have r4 : Rep z T G2 H2 (wipeE env2 vs) (wipe σ vs) := r3.temp (Da := Da) r3.f.tb (fun _ _ => rfl) (r2.gt Da (tD _)) n3 (r3.noOw (tD _)) (fun a u ha => by
        by_cases q : a = Da
        · subst q; rw [n2] at ha; cases ha
        · exact r2.exT a u (by rw [upd_ne q]; exact ha)) fun a ha => by
        by_cases q : a = Da
        · exact .inl q
        · exact .inr (by rw [upd_ne q]; exact ha)
      have r5 := r1.back' r4 x2
      have h2 : CR z T σ G Q (.new acc, rstF (oldS env1) vs 0 (wipeE env2 vs)) := h2
      refine h2 (.ref Da) H2 G2 r5 (e1.trans x2) ⟨Da, accV, rfl, hDa, ia, r2.gt Da (tD _), n2, n3, n4, fun j hj => ?_⟩
      obtain ⟨⟨s, es, os⟩, ep⟩ := hj
      rw [rstF_get, Nat.zero_add, Option.map_eq_some_iff] at es
      obtain ⟨s', es', ee⟩ := es
      by_cases hj : vs.contains j = true
      · rw [if_pos hj] at ee
        subst ee
        unfold oldS at os
        split at os <;> cases os
      · rw [if_neg hj] at ee
        subst ee
        exact r3.noOw (tD _) j ⟨⟨s', es', os⟩, by rw [wipe_get (fun m => hj (by simpa using m))]; exact ep⟩
    | cons d rest =>
      rw [q] at h2
      obtain ⟨hd, hr⟩ := drop_cons q
      obtain ⟨hgo, hy⟩ := wk.at_ x2 r2.f.exG hd
      have hl : i < ds.length := getElem?_lt hd
      obtain ⟨e, eg, h2⟩ := (Pg.bind h2).ofO
      refine .inr ⟨hgo, fun H' => ∃ G' env' σ' acc' accV', Rep z (upd T Da (.lst accV')) G' H' env' σ' ∧ wipe σ' vs = wipe σ vs ∧ Ex G1 G' ∧ IsA z.K z.cl G' accV' acc' ∧
        Pg z E (fun q : List D × Ev => Pg z E (CR z T σ G Q) (.ok (.new q.1, rstF (oldS env1) vs 0 (wipeE q.2 vs)))) (out2F ga c fi1 ga1 c1 f vs vs1 rest acc' env'), fun H' ⟨G', env', σ', acc', accV', a1, a2, a3, a4, a6⟩ => ⟨m - 1, by omega, G', env', σ', acc', accV', a1, a2, a3, by omega, a4, by rw [hr]; exact a6⟩, fun x H' y => ?_⟩
      have r3 := r2.wipe vs
      rw [hw] at r3
      obtain ⟨G4, r4, x4, w4⟩ := r3.yield (hy x H' y)
      refine ⟨_, G4, _, d, e, r4, w4, eg, fun σ5 r5 hw5 => ?_⟩
      have hws : wipe σ5 vs = wipe σ vs := (hw5 vs his).trans (wipe_wipe σ vs)
      refine ⟨hws, _, G4, e, r5, ((Pg.bind h2).noX).imp fun b hb H6 G6 r6 x6 => ?_⟩
      obtain ⟨b1, env6⟩ := b
      cases b1 with
      | false => exact ⟨G6, env6, σ5, acc, accV, r6, hws, (x2.trans x4).trans x6, ia.mono (x4.trans x6), hb⟩
      | true =>
        refine ⟨_, G6, env6, r6, ((Pg.bind (show Pg z E _ ((noX (fi1 env6)).bind _) from hb)).noX).imp fun pi hpi J1 H7 G7 r7 x7 wk1 => ?_⟩
        obtain ⟨ds1, env7⟩ := pi
        have x27 : Ex G2 G7 := (x4.trans x6).trans x7
        have hpi' := Pg.bind hpi
        
        refine ⟨fun j k' H' => ∃ G' env' σ' acc' accV', Rep z (upd T Da (.lst accV')) G' H' env' σ' ∧ wipe σ' vs1 = wipe σ5 vs1 ∧ Ex G7 G' ∧ k' + j = ds1.length ∧ IsA z.K z.cl G' accV' acc' ∧
          Pg z E (fun r => Pg z E (fun q : List D × Ev => Pg z E (CR z T σ G Q) (.ok (.new q.1, rstF (oldS env1) vs 0 (wipeE q.2 vs)))) (out2F ga c fi1 ga1 c1 f vs vs1 rest r.1 r.2)) (in2F ga1 c1 f vs1 (ds1.drop j) acc' env'), ⟨ds1.length, G7, env7, σ5, acc, accV, r7, rfl, Ex.refl G7, rfl, ia.mono x27, hpi'⟩, ?_⟩
        rintro j k' H8 ⟨G8, env8, σ8, acc8, accV8, r8, hw8, x8, em8, ia8, h8⟩
        have hD8 : H8 Da = some (.lst accV8) := r8.exT Da _ upd_same
        have hw8v : wipe σ8 vs = wipe σ vs := (wipe_sub hw8 hvv).trans hws
        cases q8 : ds1.drop j with
        | nil =>
          rw [q8] at h8
          have hl8 : ds1.length ≤ j := by
            have := congrArg List.length q8
            rw [List.length_drop] at this
            simp at this
            omega
          exact .inl ⟨(wk1 j H8 (x8.trans r8.f.exG)).2 hl8, G8, env8, σ8, acc8, accV8, r8, hw8v, (x2.trans x27).trans x8, ia8, h8⟩
        | cons d8 rest8 =>
          rw [q8] at h8
          obtain ⟨hd8, hr8⟩ := drop_cons q8
          obtain ⟨hgo8, hy8⟩ := wk1.at_ x8 r8.f.exG hd8
          have hl8 : j < ds1.length := getElem?_lt hd8
          obtain ⟨e8, eg8, h8⟩ := (Pg.bind h8).ofO
          refine .inr ⟨hgo8, fun H' => ∃ G' env' σ' acc' accV', Rep z (upd T Da (.lst accV')) G' H' env' σ' ∧ wipe σ' vs1 = wipe σ5 vs1 ∧ Ex G7 G' ∧ IsA z.K z.cl G' accV' acc' ∧
            Pg z E (fun r => Pg z E (fun q : List D × Ev => Pg z E (CR z T σ G Q) (.ok (.new q.1, rstF (oldS env1) vs 0 (wipeE q.2 vs)))) (out2F ga c fi1 ga1 c1 f vs vs1 rest r.1 r.2)) (in2F ga1 c1 f vs1 rest8 acc' env'), fun H' ⟨G', env', σ', acc', accV', a1, a2, a3, a4, a6⟩ => ⟨k' - 1, by omega, G', env', σ', acc', accV', a1, a2, a3, by omega, a4, by rw [hr8]; exact a6⟩, fun x' H' y' => ?_⟩
          have r9 := r8.wipe vs1
          rw [hw8] at r9
          obtain ⟨G9, r9, x9, w9⟩ := r9.yield (hy8 x' H' y')
          refine ⟨_, G9, _, d8, e8, r9, w9, eg8, fun σa ra hwa => ?_⟩
          have hwsa : wipe σa vs1 = wipe σ5 vs1 := (hwa vs1 his1).trans (wipe_wipe σ5 vs1)
          refine ⟨hwsa, _, G9, e8, ra, ((Pg.bind h8).noX).imp fun b hb Hb Gb rb xb => ?_⟩
          obtain ⟨b1, envb⟩ := b
          cases b1 with
          | false => exact ⟨Gb, envb, σa, acc8, accV8, rb, hwsa, (x8.trans x9).trans xb, ia8.mono (x9.trans xb), hb⟩
          | true =>
            refine ⟨_, Gb, envb, rb, ((Pg.bind (show Pg z E _ ((noX (f envb)).bind _) from hb)).noX).imp fun u hu v Hc Gc rc xc wc => ?_⟩
            obtain ⟨u1, envc⟩ := u
            obtain ⟨Gd, rd, xd, wd⟩ := wc.opd rc
            obtain ⟨⟨yd, enve⟩, ef, hu⟩ := (Pg.bind hu).ofO
            obtain ⟨Ge, re, xe, we⟩ := wd.fix rd ef
            have xx : Ex G8 Ge := ((x9.trans xb).trans (xc.trans xd)).trans xe
            have hDc : Hc Da = some (.lst accV8) := re.exT Da _ upd_same
            dsimp only at hu
            split at hu
            · rename_i hsz
              refine ⟨accV8, hDc, ?_, Ge, enve, σa, acc8 ++ [yd], accV8 ++ [v], re.more n3, hwsa, x8.trans xx, (ia8.mono xx).append (.cons we .nil), hu⟩
              rw [ia8.length]
              exact line100' hsz
            · exact hu.elim
end
end TN
namespace TN
open PySem PySem.Spec PyProof.Rows L2
def dLt : D → D → Out R0
  | .int i, .int j => .ok (.d (.bl (decide (i < j))))
  | .tup a, .tup b => match toInts a, toInts b with
    | some ns, some ms => .ok (.d (.bl (HT.lexLt ns ms)))
    | _, _ => .no
  | _, _ => .no
section
variable {X : Cx} {z : Z} {E : XK} {k n : Nat} {p pos tpos : Pos} {e : Expr} {elts : List Expr} {kk : Nat} {g : FA}
theorem od_ltX (o : OkX X z E k) : OpD X z (compareOp .Lt) dLt := by
  obtain ⟨r0, h1, h2⟩ := (od_lt (X := X) (z := z)).run
  refine ⟨⟨fun x y H Q => r0 x y H Q ∨ rLtT X.K x y H Q, fun pins s σ H x y v u Q I rx ry h => ?_, fun G H x y dx dy Q e ix iy p => ?_⟩, fun x y c d => ?_⟩
  · rcases h with h | h
    · exact h1 pins s σ H x y v u Q I rx ry h
    · exact op_ltT o.room.units0 pins s σ H x y v u Q I rx ry h
  · rw [o.K]
    unfold dLt at p
    split at p
    · exact .inl (h2 G H x y _ _ Q e ix iy p)
    · split at p
      · rename_i a b _ _ ns ms qa qb
        obtain ⟨p1, vs, rfl, hs, ia, _⟩ := isTup e ix
        obtain ⟨p2, ws, rfl, hs2, ib, _⟩ := isTup e iy
        rw [toInts_eq qa] at ia
        rw [toInts_eq qb] at ib
        rw [IsA.ints ia] at hs
        rw [IsA.ints ib] at hs2
        exact .inr ⟨p1, p2, _, _, rfl, rfl, hs, hs2, p _ (.bl _)⟩
      · exact p.elim
    · exact p.elim
  · unfold dLt
    split <;> (try split) <;> (intro h; cases h)
end
end TN
namespace TN
open PySem PySem.Spec PyProof.Rows L2
def inCls (st : Stmt) (j : Nat) : Stmt := match st with
  | .ClassDef _ _ _ body _ _ _ _ _ _ _ => body.getD j (.Pass ⟨0, 0, 0, 0⟩)
  | _ => .Pass ⟨0, 0, 0, 0⟩
structure ClB (K : PySem.W.Frag) (mg : Str → Option Value) (z : Z) (x : Str) (C : Addr) (ns : List Str) : Prop where
  hc : z.cl 0 = (C, ns)
  mgC : mg x = some (.ref C)
  kit : KitB K C
  no : ∀ f ∈ ns, NoAttr K C f
  ne : PySem.W.findIn K (.ref C) "__ne__" = some (some (.builtin "object.__ne__"))
def PrB (P : Program) (w : World) (K : PySem.W.Frag) (mg : Str → Option Value) (base : Heap) (C : Addr) (nm f : Str) : Prop := ∃ p g fd, PropOf K C nm p g ∧ FnOk P w K mg base CX0 1 g fd ["self"] (getSp C f) ∧ Binds K fd ["self"] []
def MkB (P : Program) (w : World) (K : PySem.W.Frag) (mg : Str → Option Value) (base : Heap) (z : Z) (k : Nat) (C : Addr) (ns ps : List Str) (n : Nat) (ι : In) : Prop := ∃ fi fd, Mk K C fi ∧ FnOk P w K mg base (L2.CX P w) k fi fd ps (spI z C ns n ι) ∧ Binds K fd ps []
def EqF (P : Program) (w : World) (K : PySem.W.Frag) (mg : Str → Option Value) (base : Heap) (z : Z) (k : Nat) (C : Addr) (φ : Fn) : Prop := ∃ f fd, FnOk P w K mg base (L2.CX P w) k f fd ["self", "other"] (spF z false 2 φ) ∧ Binds K fd ["self", "other"] [] ∧ PySem.W.findIn K (.ref C) "__eq__" = some (some (.ref f)) ∧ PySem.W.isFn K (.ref f) = true
theorem ClB.at_ {K : PySem.W.Frag} {mg : Str → Option Value} {z : Z} {x : Str} {C : Addr} {ns : List Str} (h : ClB K mg z x C ns) (G H : Hp) (M : Option Addr) : ClB K mg (z.at_ G H M) x C ns := ⟨h.hc, h.mgC, h.kit, h.no, h.ne⟩
theorem spI_at {z : Z} {C : Addr} {ns : List Str} {n : Nat} {ι : In} {G0 H0 : Hp} {M0 : Option Addr} {vs : List V} {H : Hp} {Q : VK} {E : XK} (h : spI (z.at_ G0 H0 M0) C ns n ι vs H Q E) : spI z C ns n ι vs H Q E := h
theorem MkB_at {P : Program} {w : World} {K : PySem.W.Frag} {mg : Str → Option Value} {base : Heap} {z : Z} {k : Nat} {C : Addr} {ns ps : List Str} {n : Nat} {ι : In} (h : MkB P w K mg base z k C ns ps n ι) (G H : Hp) (M : Option Addr) : MkB P w K mg base (z.at_ G H M) k C ns ps n ι := by
  obtain ⟨fi, fd, m, f, b⟩ := h
  exact ⟨fi, fd, m, f.imp fun vs H Q E q => spI_at q, b⟩
section
variable {X : Cx} {z : Z} {E : XK} {k j n : Nat} {pos p : Pos} {e a b : Expr} {es : List Expr} {g fa fb : F} {ga : FA} {f nm x : Str} {C : Addr} {ns ps : List Str} {ι : In} {φ : Fn}
theorem we_propB {i : Nat} (he : PE X e (tE z E g)) (o : OkX X z E k) (W : ClB X.K X.mg z x C ns) (B : PrB X.prog X.w X.K X.mg X.base C nm f) (hj : AtF ns i f) (hk : 2 ≤ k := by decide) (hb : attributeBase e nm X.env (eval e X.env) = eval e X.env := by rfl) : PE X (.Attribute e nm pos) (tE z E (fAt 0 i g)) := by
  obtain ⟨p, g, fd, hp, F, b⟩ := B
  exact we_prop he o W.hc W.kit.cl hp F b hj hk hb
theorem we_mkB (o : OkX X z E k) (W : ClB X.K X.mg z x C ns) (B : MkB X.prog X.w X.K X.mg X.base z j C ns ps n ι) (ha : WA X z E (e :: es) ga n) (hk : j + 1 ≤ k := by decide) (hg : Gl X x := by rfl) (hdb : (x == ("__debug__" : Str)) = false := by decide) (he : starEach (e :: es) X.env = (false, eval e X.env) :: starEach es X.env := by rfl) (hpl : (backTo pos (starEach es X.env)).any (·.1) = false := by rfl) :
    PE X (.Call (.Name x p) (e :: es) [] pos) (tE z E (fMk 0 ι ga)) := by
  obtain ⟨fi, fd, M, F, b⟩ := B
  exact we_mk o W.hc M F b W.mgC ha hk hg hdb he hpl
theorem we_clsB (W : ClB X.K X.mg z x C ns) (hg : Gl X x := by rfl) (hd : (x == ("__debug__" : Str)) = false := by decide) : PE X (.Name x pos) (tE z E (fC (.cls 0))) := we_cls W.mgC W.hc hg hd
end
section
variable {X : Cx} {z : Z} {E : XK} {k j : Nat} {pos : Pos} {a b : Expr} {fa fb : F} {x : Str} {C : Addr} {ns : List Str} {φ : Fn}
end
theorem atF0 {a : Str} {r : List Str} : AtF (a :: r) 0 a := ⟨rfl, fun i h => absurd h (Nat.not_lt_zero i)⟩
theorem atF1 {a b : Str} {r : List Str} (h : a ≠ b) : AtF (a :: b :: r) 1 b := ⟨rfl, fun i hi e => by
  have : i = 0 := by omega
  subst this
  exact h (Option.some.inj e)⟩
def sNever : S := fun _ => .no
section
variable {X : Cx} {z : Z} {E : XK} {k n : Nat} {pos : Pos} {tg iter tg1 iter1 elt : Expr} {ifs ifs1 : List Expr} {fi fi1 : FI} {ga ga1 : GA} {is is1 : List Nat} {c c1 : FB} {f : F} {scope : Scope} {own : List (Str × Nat)}
theorem ws_setLc2 {i : Nat} {y : Str} {py spos : Pos} (o : OkX X z E k) (ok : BlkOk X.N X.env.scope scope own) {vs1 : List Nat} (hi : PI X tg iter (tI z E fi))
    (hg : ∀ (s : Shared) (H : Hp) (C : Addr) (cl : List (Str × Addr)) (fp : List Addr), PG (X.blk s H scope (compEnvC scope cl C X.env) fp) tg (tG z is ga)) (ht : ∀ (s : Shared) (H : Hp) (C : Addr) (cl : List (Str × Addr)) (fp : List Addr), PTs (X.blk s H scope (compEnvC scope cl C X.env) fp) ifs (tT z E0 c))
    (hi1 : ∀ (s : Shared) (H : Hp) (C : Addr) (cl : List (Str × Addr)) (fp : List Addr), PI (X.blk s H scope (compEnvC scope cl C X.env) fp) tg1 iter1 (tI z E0 fi1))
    (hg1 : ∀ (s : Shared) (H : Hp) (C : Addr) (cl : List (Str × Addr)) (fp : List Addr), PG (X.blk s H scope (compEnvC scope cl C X.env) fp) tg1 (tG z is1 ga1)) (ht1 : ∀ (s : Shared) (H : Hp) (C : Addr) (cl : List (Str × Addr)) (fp : List Addr), PTs (X.blk s H scope (compEnvC scope cl C X.env) fp) ifs1 (tT z E0 c1))
    (he : ∀ (s : Shared) (H : Hp) (C : Addr) (cl : List (Str × Addr)) (fp : List Addr), PE (X.blk s H scope (compEnvC scope cl C X.env) fp) elt (tE z E0 f))
    (hy : X.N[i]? = some y := by rfl) (hyl : X.env.scope.names.lookup y = some .local := by rfl)
    (hsw : swapsWith (.ListComp elt [⟨tg, iter, ifs, 0⟩, ⟨tg1, iter1, ifs1, 0⟩] scope pos) (some (.Name y py)) spos.line X.env = pure true := by exact sw_true rfl rfl rfl (by decide +kernel))
    (his : ∀ i ∈ is, i ∈ own.map (·.2) := by decide) (his1 : ∀ i ∈ is1, i ∈ vs1 := by decide) (hvv : ∀ i ∈ vs1, i ∈ own.map (·.2) := by decide) (hs : ∀ x, foldedSetIterable iter X.env x = pure x := by intro _; rfl) (hs1 : ∀ env x, foldedSetIterable iter1 env x = pure x := by intro _ _; rfl) :
    PS X (.Assign [.Name y py] (.ListComp elt [⟨tg, iter, ifs, 0⟩, ⟨tg1, iter1, ifs1, 0⟩] scope pos) spos) (tS z E (sSet i (fLc2 fi ga c fi1 ga1 c1 f (own.map (·.2)) vs1))) :=
  ps_mono (L2.ps_setLc2 o.calm o.nd hy hyl hsw hi ok hvv hg ht hi1 hg1 ht1 he hs hs1) fun D σ H h => te_lc2 his his1 hvv (ts_set h)
end
end TN
namespace TN
open PySem PySem.Spec PyProof.Rows L2
def fBits (f : F) : F := fun env => (f env).bind fun p => match p.1 with
  | .d (.int i) => .ok (.d (.int (Builtin.Int.intBits i : Nat)), p.2)
  | _ => .no
section
variable {X : Cx} {z : Z} {E : XK} {o : Expr} {f : F} {apos pos : Pos}
end
end TN
namespace TN
open PySem PySem.Spec PyProof.Rows L2
open AutoSeq1 (wpAny_loadPart')
section
variable {prog : Program} {w : World} {A : Around} {E : Value → Shared → Prop} {s : Shared}
end
def fEnumA (g : FA) : FI := fun env => (g env).bind fun p => match fixAll p.2 p.1 with
  | some ([.lst ds], e) => .ok (enumD 0 ds, e)
  | some ([.tup ds], e) => .ok (enumD 0 ds, e)
  | _ => .no
section
variable {X : Cx} {z : Z} {E : XK} {n : Nat} {p pos tpos : Pos} {e : Expr} {elts : List Expr} {kk : Nat} {g : FA} {G : Hp} {a : Addr} {vs : List V} {ds : List D}
end
end TN
namespace TN
open PySem PySem.Spec PyProof.Rows L2
def noT (Ts : List (Addr × Str)) (H : Hp) : Hp := fun a => if Ts.any (fun p => p.1 == a) = true then none else H a
def spTopT (K : PySem.W.Frag) (Ts : List (Addr × Str)) : Sp := fun vs H Q _ => ∃ (a : Addr) (ns : List Int), vs = [.ref a] ∧ SqL K H a (ns.map V.int) ∧ LamX.Tabs Ts H ∧ ns.length ≤ 63 ∧ ∀ H', Q (.bl true) H'
theorem top_ofT {K : PySem.W.Frag} {z : Z} {φ : Fn} {vs : List V} {H : Hp} {Q : VK} {E : XK} (hK : z.K = K) (mt : ∀ ns : List Int, ns.length ≤ 63 → φ [.scr ns] = .ok (.d (.bl true), [])) (h : spTopT K z.Ts vs H Q E) : spF z false 1 φ vs H Q E := by
  obtain ⟨a, ns, rfl, hs, ht, hl, q⟩ := h
  subst hK
  have nt : ∀ {o : HO}, H a = some o → (∀ ps, o ≠ .tbl ps) → noT z.Ts H a = some o := fun {o} h n => by
    unfold noT
    rw [if_neg (fun q => ?_)]
    · exact h
    · obtain ⟨p, hp, e⟩ := List.any_eq_true.mp q
      obtain ⟨ps, h2, _⟩ := ht p hp
      rw [show p.1 = a by simpa using e, h] at h2
      exact n ps (Option.some.inj h2)
  have hs2 : SqL z.K (noT z.Ts H) a (ns.map V.int) := by
    rcases hs with (h | ⟨o, h⟩) | h
    · exact .inl (.inl (nt h (by intro _ e; cases e)))
    · exact .inl (.inr ⟨o, nt h (by intro _ e; cases e)⟩)
    · exact .inr h
  refine ⟨noT z.Ts H, [.scr ns], none, .pure (.cons (.scr hs2) .nil), ⟨fun b o h => ?_, ht, fun p hp => ?_⟩, rfl, ?_⟩
  · unfold noT at h
    split at h
    · cases h
    · exact h
  · unfold noT
    rw [if_pos (List.any_eq_true.mpr ⟨p, hp, by simp⟩)]
  rw [mt ns hl]
  intro v H' G' _ r _
  cases r
  exact q H'
end TN
namespace TN
open PySem PySem.Spec PyProof.Rows L2
theorem mro_cls {K : PySem.W.Frag} {C : Addr} {t : String} {m : List Value} (e : fastBuiltinMro t = some m) (h : m.contains (.ref C) = false) : PySem.W.subIn K (.type t) (.ref C) = some false := by
  show (fastBuiltinMro t).map (·.contains (.ref C)) = some false
  rw [e]
  exact congrArg some h
theorem sub_types {K : PySem.W.Frag} {C : Addr} : ∀ t ∈ ["NoneType", "bool", "int", "str", "tuple", "list", "dict"], PySem.W.subIn K (.type t) (.ref C) = some false := by
  intro t h
  simp only [List.mem_cons, List.not_mem_nil, or_false] at h
  rcases h with rfl | rfl | rfl | rfl | rfl | rfl | rfl
  · exact mro_cls (m := [.type "NoneType", .type "object"]) (by decide +kernel) rfl
  · exact mro_cls (m := [.type "bool", .type "int", .type "object"]) (by decide +kernel) rfl
  · exact mro_cls (m := [.type "int", .type "object"]) (by decide +kernel) rfl
  · exact mro_cls (m := [.type "str", .type "object"]) (by decide +kernel) rfl
  · exact mro_cls (m := [.type "tuple", .type "object"]) (by decide +kernel) rfl
  · exact mro_cls (m := [.type "list", .type "object"]) (by decide +kernel) rfl
  · exact mro_cls (m := [.type "dict", .type "object"]) (by decide +kernel) rfl
theorem kitMeta_all : ∀ T ∈ ["int", "bool", "str", "tuple", "list", "dict"], PySem.W.kitMeta T = true := by decide +kernel
theorem kit_x {K : PySem.W.Frag} {C : Addr} {T : String} (hT : T ∈ ["int", "bool", "str", "tuple", "list", "dict"]) (h : PySem.W.subIn K (.ref C) (.type T) = some false) : PySem.W.kitOne K (.ref C) (.type T) = some false := by
  unfold PySem.W.kitOne
  rw [if_neg (by simp)]
  unfold PySem.W.kitCls
  simp only
  rw [if_pos (kitMeta_all T hT)]
  exact h
theorem kit_y {K : PySem.W.Frag} {C : Addr} {t : String} (ht : t ∈ ["NoneType", "bool", "int", "str", "tuple", "list", "dict"]) (h1 : PySem.W.isClsIn K C = true) (h2 : PySem.W.typeIn K (.ref C) = some (.type "type")) : PySem.W.kitOne K (.type t) (.ref C) = some false := by
  unfold PySem.W.kitOne
  rw [if_neg (by simp)]
  unfold PySem.W.kitCls
  simp only
  rw [if_pos (by rw [h2]; simp; exact h1)]
  exact sub_types t ht
end TN
namespace TN
open PySem PySem.Spec PyProof.Rows L2
def pyT (k : List Int) : PyData := .tuple (k.map PyData.int)
theorem lex_dec : ∀ a b : List Int, HT.lexLt a b = decide (a < b)
  | [], [] => rfl
  | [], y :: b => by rw [HT.lexLt_nil_cons]; simp
  | x :: a, [] => by rw [HT.lexLt_cons_nil]; simp
  | x :: a, y :: b => by
    rw [HT.lexLt_cons, lex_dec a b]
    by_cases h : x = y
    · subst h
      rw [if_pos rfl]
      simp
    · rw [if_neg h]
      simp [List.cons_lt_cons_iff, h]
theorem dataLt_pyT (a b : List Int) : PySem.W.dataLt (pyT a) (pyT b) = HT.lexLt a b := by
  rw [lex_dec]
  exact PySem.W.dataLt_ints a b
theorem alike_pyT (a b : List Int) : PySem.W.alike (pyT a) (pyT b) = true := by
  unfold pyT
  simp only [PySem.W.alike]
  exact PySem.W.alike_ints a b
theorem depth_pyT (a : List Int) : (pyT a).depth = 1 := by
  unfold pyT
  simp only [PyData.depth, PySem.W.depth_ints]
theorem lexLt_irr : ∀ a : List Int, HT.lexLt a a = false
  | [] => rfl
  | x :: a => by rw [HT.lexLt_cons, if_pos rfl, lexLt_irr a]
theorem lexLt_tri : ∀ {a b : List Int}, HT.lexLt a b = false → HT.lexLt b a = false → a = b
  | [], [], _, _ => rfl
  | [], y :: b, h, _ => by rw [HT.lexLt_nil_cons] at h; cases h
  | x :: a, [], _, h => by rw [HT.lexLt_nil_cons] at h; cases h
  | x :: a, y :: b, h1, h2 => by
    rw [HT.lexLt_cons] at h1 h2
    by_cases h : x = y
    · subst h
      rw [if_pos rfl] at h1 h2
      rw [lexLt_tri h1 h2]
    · rw [if_neg h] at h1
      rw [if_neg (Ne.symm h)] at h2
      simp only [decide_eq_false_iff_not] at h1 h2
      omega
theorem lexLt_trans : ∀ {a b c : List Int}, HT.lexLt a b = true → HT.lexLt b c = true → HT.lexLt a c = true
  | [], [], _, h, _ => by cases h
  | [], y :: b, [], _, h => by cases h
  | [], y :: b, z :: c, _, _ => rfl
  | x :: a, [], _, h, _ => by cases h
  | x :: a, y :: b, [], _, h => by cases h
  | x :: a, y :: b, z :: c, h1, h2 => by
    rw [HT.lexLt_cons] at h1 h2 ⊢
    by_cases h : x = y
    · subst h
      rw [if_pos rfl] at h1
      by_cases h' : x = z
      · subst h'
        rw [if_pos rfl] at h2 ⊢
        exact lexLt_trans h1 h2
      · rw [if_neg h'] at h2 ⊢
        exact h2
    · rw [if_neg h] at h1
      simp only [decide_eq_true_eq] at h1
      by_cases h' : y = z
      · subst h'
        rw [if_neg h]
        simpa using h1
      · rw [if_neg h'] at h2
        simp only [decide_eq_true_eq] at h2
        rw [if_neg (by omega)]
        simp only [decide_eq_true_eq]
        omega
def leL (a b : List Int) : Bool := !HT.lexLt b a
theorem leL_total (a b : List Int) : leL a b = true ∨ leL b a = true := by
  unfold leL
  cases h : HT.lexLt b a with
  | false => exact .inl rfl
  | true =>
    refine .inr ?_
    cases h2 : HT.lexLt a b with
    | false => rfl
    | true => have := lexLt_trans h h2; rw [lexLt_irr] at this; cases this
theorem leL_anti {a b : List Int} (h1 : leL a b = true) (h2 : leL b a = true) : a = b := by
  unfold leL at h1 h2
  simp only [Bool.not_eq_true'] at h1 h2
  exact lexLt_tri h2 h1
theorem leL_trans {a b c : List Int} (h1 : leL a b = true) (h2 : leL b c = true) : leL a c = true := by
  rcases leL_total a c with h | h
  · exact h
  · by_cases e : a = c
    · subst e; exact h
    · unfold leL at h1 h2 h ⊢
      simp only [Bool.not_eq_true'] at h1 h2 h ⊢
      cases q : HT.lexLt c a with
      | false => rfl
      | true =>
        rcases (show HT.lexLt c b = true ∨ HT.lexLt b c = true ∨ b = c by
          cases h3 : HT.lexLt c b with
          | true => exact .inl rfl
          | false => cases h4 : HT.lexLt b c with
            | true => exact .inr (.inl rfl)
            | false => exact .inr (.inr (lexLt_tri h4 h3))) with w | w | w
        · rw [w] at h2; cases h2
        · have := lexLt_trans w q; rw [h1] at this; cases this
        · subst w; rw [h1] at q; cases q
def insL (x : List Int) : List (List Int) → List (List Int)
  | [] => [x]
  | y :: l => if leL x y = true then x :: y :: l else y :: insL x l
def sortL : List (List Int) → List (List Int)
  | [] => []
  | x :: l => insL x (sortL l)
theorem insL_perm (x : List Int) : ∀ l, (insL x l).Perm (x :: l)
  | [] => .refl _
  | y :: l => by
    unfold insL
    split
    · exact .refl _
    · exact ((insL_perm x l).cons y).trans (List.Perm.swap ..)
theorem sortL_perm : ∀ l, (sortL l).Perm l
  | [] => .refl _
  | x :: l => (insL_perm x _).trans ((sortL_perm l).cons x)
theorem insL_sorted (x : List Int) : ∀ {l : List (List Int)}, l.Pairwise (fun a b => leL a b = true) → (insL x l).Pairwise (fun a b => leL a b = true)
  | [], _ => by simp [insL]
  | y :: l, h => by
    unfold insL
    rw [List.pairwise_cons] at h
    split
    · rename_i q
      refine List.pairwise_cons.mpr ⟨fun z m => ?_, List.pairwise_cons.mpr h⟩
      rcases List.mem_cons.mp m with rfl | m
      · exact q
      · exact leL_trans q (h.1 z m)
    · rename_i q
      refine List.pairwise_cons.mpr ⟨fun z m => ?_, insL_sorted x h.2⟩
      rcases List.mem_cons.mp ((insL_perm x l).mem_iff.mp m) with rfl | m
      · exact (leL_total y z).resolve_right q
      · exact h.1 z m
theorem sortL_sorted : ∀ l, (sortL l).Pairwise (fun a b => leL a b = true)
  | [] => .nil
  | x :: l => insL_sorted x (sortL_sorted l)
theorem sortedL_unique : ∀ {a b : List (List Int)}, a.Perm b → a.Pairwise (fun a b => leL a b = true) → b.Pairwise (fun a b => leL a b = true) → a = b
  | [], b, p, _, _ => by rw [List.nil_perm.mp p]
  | x :: a, [], p, _, _ => by have := p.length_eq; simp at this
  | x :: a, y :: b, p, ha, hb => by
    rw [List.pairwise_cons] at ha hb
    have e : x = y := by
      have m1 : x ∈ y :: b := p.mem_iff.mp List.mem_cons_self
      have m2 : y ∈ x :: a := p.mem_iff.mpr List.mem_cons_self
      rcases List.mem_cons.mp m1 with q | q
      · exact q
      · rcases List.mem_cons.mp m2 with w | w
        · exact w.symm
        · exact leL_anti (ha.1 y w) (hb.1 x q)
    subst e
    rw [sortedL_unique (List.Perm.cons_inv p) ha.2 hb.2]
def toTups : List D → Option (List (List Int))
  | [] => some []
  | .tup xs :: ds => match toInts xs with
    | some k => match toTups ds with
      | some ks => some (k :: ks)
      | none => none
    | none => none
  | _ :: _ => none
def tD (k : List Int) : D := .tup (k.map D.int)
theorem toTups_eq : ∀ {ds : List D} {ks : List (List Int)}, toTups ds = some ks → ds = ks.map tD
  | [], _, h => by cases h; rfl
  | .tup xs :: ds, ks, h => by
    unfold toTups at h
    split at h
    · rename_i k q
      split at h
      · rename_i ks' q2
        cases h
        rw [toTups_eq q2, List.map_cons]
        unfold tD
        rw [toInts_eq q]
      · cases h
    · cases h
  | .non :: _, _, h | .bl _ :: _, _, h | .int _ :: _, _, h | .str _ :: _, _, h | .wtup _ :: _, _, h | .lst _ :: _, _, h | .scr _ :: _, _, h | .dct :: _, _, h | .obj _ _ :: _, _, h | .ty _ :: _, _, h | .cls _ :: _, _, h => by cases h
def minL (x : List Int) (xs : List (List Int)) : List Int := xs.foldl (fun a y => if HT.lexLt y a = true then y else a) x
theorem minD_pyT (x : List Int) : ∀ xs : List (List Int), PySem.W.minD (pyT x) (xs.map pyT) = pyT (minL x xs) := fun xs => by
  unfold PySem.W.minD minL
  induction xs generalizing x with
  | nil => rfl
  | cons y ys ih =>
    rw [List.map_cons, List.foldl_cons, List.foldl_cons, ← ih]
    rw [dataLt_pyT y x]
    cases HT.lexLt y x <;> rfl
section
variable {X : Cx} {z : Z} {E : XK} {k : Nat}
def rSortedL (K : PySem.W.Frag) : List V → Hp → VK → Prop := fun vs H Q => ∃ (a : Addr) (xs : List V) (ks : List (List Int)), vs = [V.ref a] ∧ SqL K H a xs ∧ DpAll K H xs (ks.map pyT) ∧ (∀ k ∈ ks, k ≠ []) ∧
  ∀ (zs : List (V × List Int)) (p : Addr), zs.Perm (xs.zip ks) → zs.Pairwise (fun p q => leL p.2 q.2 = true) → H p = none → Q (.ref p) (upd H p (.lst (zs.map (·.1))))
theorem each_of_vals : ∀ {xs : List V} {us : List Value} {ks : List (List Int)}, Vals xs us → xs.length = ks.length → PySem.W.EachIs (fun u (b : V × List Int) => RelV b.1 u) us (xs.zip ks)
  | [], [], [], .nil, _ => .nil
  | x :: xs, u :: us, k :: ks, .cons r t, h => .cons r (each_of_vals t (by simpa using h))
theorem vals_of_each : ∀ {us : List Value} {zs : List (V × List Int)}, PySem.W.EachIs (fun u (b : V × List Int) => RelV b.1 u) us zs → Vals (zs.map (·.1)) us
  | [], [], .nil => .nil
  | u :: us, b :: zs, .cons r t => .cons r (vals_of_each t)
theorem each_reads {h : Heap} : ∀ {us : List Value} {xs : List V} {ks : List (List Int)} {as : List Addr}, ReadsAll h us (ks.map pyT) as → xs.length = ks.length → PySem.W.EachIs (fun u (b : V × List Int) => ∃ as, Reads h u (pyT b.2) as) us (xs.zip ks)
  | [], [], [], _, .nil, _ => .nil
  | u :: us, x :: xs, k :: ks, _, .cons r t, e => .cons ⟨_, r⟩ (each_reads t (by simpa using e))
  | [], x :: xs, [], _, .nil, e => by simp at e
  | _ :: _, [], _ :: _, _, _, e => by simp at e
theorem dpAll_length {K : PySem.W.Frag} {H : Hp} : ∀ {xs : List V} {ds : List PyData}, DpAll K H xs ds → xs.length = ds.length
  | [], [], .nil => rfl
  | _ :: _, _ :: _, .cons _ t => congrArg (· + 1) (dpAll_length t)
theorem cr_sortedL (hr : Room k X.A) : CallR X (.builtin "sorted") (rSortedL X.K) := by
  intro pins s σ H vs us Q I r h
  obtain ⟨a, xs, ks, rfl, hs, hd, hne, q⟩ := h
  obtain ⟨its, rv, hl, hz⟩ := I.list hs
  rw [Vals.ref1 r]
  have hlen : xs.length = ks.length := by rw [dpAll_length hd, List.length_map]
  obtain ⟨as, hra⟩ := Dp.readsAll I (ks.map pyT) xs its hd rv
  have hu := hr.units
  have hbk : (xs.zip ks).map (fun b => pyT b.2) = ks.map pyT := by
    have : (xs.zip ks).map (fun b => pyT b.2) = ((xs.zip ks).map Prod.snd).map pyT := by rw [List.map_map]; rfl
    rw [this, List.map_snd_zip (by omega)]
  refine PySem.W.sorted_data (β := V × List Int) (R := fun u b => RelV b.1 u) (enc := fun b => pyT b.2) hl.isList (each_of_vals rv hlen) (each_reads hra hlen) (PySem.W.AllAlike.of fun b b' => alike_pyT _ _) ?_ (by rw [List.length_zip]; omega) (fun b _ => by rw [depth_pyT]; omega) fun out ho he => ?_
  · refine .inl fun d hd => ?_
    obtain ⟨b, hb, rfl⟩ := List.mem_map.mp hd
    have hb2 := hne b.2 (List.of_mem_zip hb).2
    cases e : b.2 with
    | nil => exact absurd e hb2
    | cons y ys => exact ⟨.int y, ys.map .int, by unfold pyT; simp⟩
  · have le_eq : PySem.W.dataLe false (fun b : V × List Int => pyT b.2) = fun p q => leL p.2 q.2 := by
      rw [PySem.W.dataLe_eq]
      funext p q
      simp only [cond]
      rw [dataLt_pyT]
      rfl
    rw [le_eq] at he
    have hperm := List.mergeSort_perm (xs.zip ks) (fun p q => leL p.2 q.2)
    have hsort := List.pairwise_mergeSort (le := fun (p q : V × List Int) => leL p.2 q.2) (fun a b c => leL_trans) (fun a b => by
      rcases leL_total a.2 b.2 with w | w <;> simp [w]) (xs.zip ks)
    have rv' := vals_of_each he
    obtain ⟨ep, he'⟩ := PyProof.Rows.sortedAll_at s.heap its (List.toArray out)
    have hlo : (((xs.zip ks).mergeSort (fun p q => leL p.2 q.2)).map (·.1)).length ≤ sizeLine := by
      rw [List.length_map, hperm.length_eq, List.length_zip]
      omega
    exact ⟨.ref _, upd H (s.heap.objs.size + 1) (.lst (((xs.zip ks).mergeSort (fun p q => leL p.2 q.2)).map (·.1))), I.laid (t' := s.toks) (fun _ _ => PyProof.Rows.sortedAll_old) (Nat.le_succ _) ⟨hlo, out, ep, rv', he'⟩, rfl, q _ _ hperm hsort (I.hok.fresh (Nat.le_succ _))⟩
end
end TN
namespace TN
open PySem PySem.Spec PyProof.Rows L2
section
open PySem.W
variable {prog : Program} {w : World} {A : Around} {E : Value → Shared → Prop} {s : Shared}
theorem call_min_threeH {a b c : Value} {Q : Value → Shared → Prop}
    (h : wpAny (model prog w) A.in1 (pyIter (.ref s.heap.objs.size)) (fun it s₂ => ∃ I fp wr G n P St H bt, it = .ref I ∧ WalksS prog w A.in1 I fp wr G n P St ∧ St 0 s₂ ∧ (∀ b ∈ fp, b < s₂.heap.objs.size) ∧ 0 < n ∧
      (∀ b o, H.get? b = some o → b ∉ wr) ∧ (∀ b o, H.get? b = some o → s₂.heap.get? b = some o) ∧ CmpIn prog w A.in1 .Lt H P bt ∧ ∀ v s', P (argBest bt (n - 1)) v → Moved wr G s₂ s' → Q v s') E { s with heap := s.heap.push { cls := .type "tuple", data := .seq #[a, b, c] } }) :
    wpAny (model prog w) A (call (.builtin "min") [a, b, c]) Q E s := by
  have hname : (toString "min" ++ toString ".loop" : String) = "min.loop" := by decide
  refine call_function_tree F.kind_min F.plain_min F.entry_min (F.args_min3 _ _ _) ?_
  show wpAny _ A.in1 (Builtin.Builtins.bindParams "min" ["key", "default"] 0 ⟨[], []⟩ >>= _) _ _ s
  refine wpAny_bind (wpAny_of_eq (show Builtin.Builtins.bindParams "min" ["key", "default"] 0 ⟨[], []⟩ = pure [none, none] from rfl) ?_)
  show wpAny _ A.in1 (newTuple [a, b, c] >>= _) _ _ s
  refine wpAny_bind (wpAny_newObj_type ?_)
  refine wpAny_bind (wpAny_mono h (fun it s₂ h₂ => ?_) fun _ _ e => e)
  obtain ⟨I, fp, wr, G, n, P, St, H, bt, rfl, W, hst, hfp, hn, hw, hkeep, hcmp, hQ⟩ := h₂
  refine wpAny_bind (wpAny_newObj_type ?_)
  have hSf : s₂.heap.objs.size ∉ fp := fun hm => Nat.lt_irrefl _ (hfp _ hm)
  rw [hname]
  refine wpAny_pure ⟨plainId_quiet F.plain_min_loop _, codeAny_min_loop_firstH W H hw bt hcmp s₂.heap.objs.size hSf (fresh_in hkeep) _ hn (fun b o e => Heap.get?_push_of_some _ (hkeep b o e)) (W.frame 0 s₂ _ s₂.toks hst (Nat.le_refl _) fun b _ o e => Heap.get?_push_of_some _ e) (Heap.get?_push_size _ rfl) fun v s' hP hm => ?_⟩
  exact hQ v s' hP (Moved.drop_new (tk := s₂.toks) hm (Nat.le_refl _))
theorem min_three_data {a b c : Value} {x : PyData} {xs : List PyData} {as : List Addr} {Q : Value → Shared → Prop} (hh : A.handled = none) (hr : ReadsAll s.heap [a, b, c] (x :: xs) as) (ha : AlikeAll (x :: xs)) (hu : A.units + 1 + PyData.depthAll (x :: xs) < cLine)
    (h : ∀ (i : Nat) v h' tk bs, [a, b, c][i]? = some v → Reads h' v (minD x xs) bs → (∀ b o, s.heap.get? b = some o → h'.get? b = some o) → Q v { s with heap := h', toks := tk }) :
    wpAny (model prog w) A (call (.builtin "min") [a, b, c]) Q E s := by
  have keep : ∀ b' o, s.heap.get? b' = some o → (s.heap.push { cls := .type "tuple", data := .seq #[a, b, c] }).get? b' = some o := fun b' o e => Heap.get?_push_of_some _ e
  have hT : (s.heap.push { cls := .type "tuple", data := .seq #[a, b, c] }).IsTuple s.heap.objs.size #[a, b, c] := ⟨_, Heap.get?_push_size _ rfl, rfl, 0, rfl⟩
  have hr1 : ReadsAll (s.heap.push { cls := .type "tuple", data := .seq #[a, b, c] }) #[a, b, c].toList (x :: xs) as := PyProof.Rows.ReadsAll.keeps keep hr
  have hn : #[a, b, c].size = xs.length + 1 := readsAll_len hr1
  refine call_min_threeH (iter_tupleW (s := { s with heap := s.heap.push { cls := .type "tuple", data := .seq #[a, b, c] } }) (A := A.in1) hh hT fun s₂ e W st hfp hw hk => ?_)
  refine ⟨_, _, _, _, _, _, _, (s.heap.push { cls := .type "tuple", data := .seq #[a, b, c] }), _, rfl, W, st, hfp, by omega, hw, hk, cmpIn_lt (s := { s with heap := s.heap.push { cls := .type "tuple", data := .seq #[a, b, c] } }) (A := A.in1) hr1 ha (by show A.units + 1 + _ < _; exact hu), fun v s' hP m => ?_⟩
  obtain ⟨h', tk, rfl, hk'⟩ := moved_old e rfl m
  obtain ⟨bs, r, _, _, _⟩ := readsAll_atA hr1 _ v hP
  have e1 : #[a, b, c].size - 1 = xs.length := by omega
  have e2 := (argBest_fold dataLt PyData.none x xs xs.length (Nat.le_refl _)).2
  rw [List.take_length] at e2
  rw [e1] at r
  exact h _ v h' tk bs (by simpa using hP) (reads_keeps hk' (by unfold minD; rw [← e2]; exact r)) fun b' o q => hk' b' o (keep b' o q)
end
section
variable {X : Cx} {z : Z} {E : XK} {k : Nat}
def BestOf (xs : List V) (ds : List PyData) (d : PyData) (H : Hp) (Q : VK) : Prop := ∀ (i : Nat) x, xs[i]? = some x → ds[i]? = some d → Q x H
theorem reads_each {h : Heap} : ∀ {vs : List Value} {ds : List PyData} {as : List Addr}, ReadsAll h vs ds as → ∀ (i : Nat) v, vs[i]? = some v → ∃ d as, ds[i]? = some d ∧ Reads h v d as
  | _, _, _, .nil, i, v, e => by simp at e
  | _, _, _, .cons r t, 0, v, e => by
    simp only [List.getElem?_cons_zero, Option.some.injEq] at e
    subst e
    exact ⟨_, _, rfl, r⟩
  | _, _, _, .cons r t, i + 1, v, e => by
    rw [List.getElem?_cons_succ] at e ⊢
    exact reads_each t i v e
theorem vals_at : ∀ {xs : List V} {us : List Value}, Vals xs us → ∀ (i : Nat) u, us[i]? = some u → ∃ x, xs[i]? = some x ∧ RelV x u
  | [], [], .nil, i, u, e => by simp at e
  | x :: xs, u :: us, .cons r t, 0, v, e => by
    simp only [List.getElem?_cons_zero, Option.some.injEq] at e
    subst e
    exact ⟨_, rfl, r⟩
  | x :: xs, u :: us, .cons r t, i + 1, v, e => by
    rw [List.getElem?_cons_succ] at e ⊢
    exact vals_at t i v e
theorem best_end {pins : List (Addr × Obj)} {σ : L2.St} {H : Hp} {s : Shared} {xs : List V} {us : List Value} {ds : List PyData} {d : PyData} {as bs : List Addr} {i : Nat} {v : Value} {h' : Heap} {tk : Nat} {Q : VK} (I : Inv X pins σ H s) (rv : Vals xs us) (hr : ReadsAll s.heap us ds as) (ha : PySem.W.AlikeAll ds) (hd : d ∈ ds)
    (hv : us[i]? = some v) (r : Reads h' v d bs) (hk : ∀ b o, s.heap.get? b = some o → h'.get? b = some o) (q : BestOf xs ds d H Q) : ∃ y H', L2.Inv X pins σ H' { s with heap := h', toks := tk } ∧ RelV y v ∧ Q y H' := by
  obtain ⟨x, ex, rx⟩ := vals_at rv i v hv
  obtain ⟨d', as', ed, r'⟩ := reads_each hr i v hv
  have e : d' = d := PySem.W.alike_unique _ _ _ _ _ (ha.1 _ (List.mem_of_getElem? ed) _ hd) (PyProof.Rows.Reads.keeps hk r') r
  subst e
  exact ⟨x, H, I.kept hk, rx, q i x ex ed⟩
theorem minD_mem : ∀ (ds : List PyData) (d : PyData), PySem.W.minD d ds ∈ d :: ds
  | [], d => List.mem_cons_self
  | y :: ds, d => by
    show PySem.W.minD (if PySem.W.dataLt y d then y else d) ds ∈ _
    rcases List.mem_cons.mp (minD_mem ds (if PySem.W.dataLt y d then y else d)) with e | m
    · rw [e]
      split
      · exact List.mem_cons_of_mem _ List.mem_cons_self
      · exact List.mem_cons_self
    · exact List.mem_cons_of_mem _ (List.mem_cons_of_mem _ m)
theorem maxD_mem : ∀ (ds : List PyData) (d : PyData), PySem.W.maxD d ds ∈ d :: ds
  | [], d => List.mem_cons_self
  | y :: ds, d => by
    show PySem.W.maxD (if PySem.W.dataLt d y then y else d) ds ∈ _
    rcases List.mem_cons.mp (maxD_mem ds (if PySem.W.dataLt d y then y else d)) with e | m
    · rw [e]
      split
      · exact List.mem_cons_of_mem _ List.mem_cons_self
      · exact List.mem_cons_self
    · exact List.mem_cons_of_mem _ (List.mem_cons_of_mem _ m)
def Alk (d : PyData) (ds : List PyData) : Prop := PySem.W.AlikeAll (d :: ds) ∧ PyData.depthAll (d :: ds) ≤ 60
def rMinG (K : PySem.W.Frag) : List V → Hp → VK → Prop := fun vs H Q => ∃ xs d ds, DpAll K H xs (d :: ds) ∧ Alk d ds ∧ BestOf xs (d :: ds) (PySem.W.minD d ds) H Q ∧
  ((∃ a, vs = [V.ref a] ∧ (SqL K H a xs ∨ SqT K H a xs)) ∨ ∃ x y w, vs = [x, y, w] ∧ xs = [x, y, w])
theorem cr_minG (hc : X.calm = true) (hr : Room k X.A) : CallR X (.builtin "min") (rMinG X.K) := by
  intro pins s σ H vs us Q I r h
  obtain ⟨xs, d, ds, hd, ha, hq, h⟩ := h
  have hu := hr.units
  have hdep := ha.2
  rcases h with ⟨a, rfl, h | h⟩ | ⟨x, y, w, rfl, rfl⟩
  · obtain ⟨its, rv, hl, hz⟩ := I.list h
    obtain ⟨as, hra⟩ := Dp.readsAll I _ xs its hd rv
    rw [Vals.ref1 r]
    refine PySem.W.min_list_data (I.ok.hd hc) hl.isList (by simpa using hra) ha.1 (by omega) fun i v h' tk bs hv hr' hk => ?_
    exact best_end I rv hra ha.1 (minD_mem _ _) (by simpa using hv) hr' hk hq
  · obtain ⟨its, rv, ht, hz⟩ := I.tuple h
    obtain ⟨as, hra⟩ := Dp.readsAll I _ xs its hd rv
    rw [Vals.ref1 r]
    refine PySem.W.min_tuple_data (I.ok.hd hc) ht (by simpa using hra) ha.1 (by omega) fun i v h' tk bs hv hr' hk => ?_
    exact best_end I rv hra ha.1 (minD_mem _ _) (by simpa using hv) hr' hk hq
  · obtain ⟨as, hra⟩ := Dp.readsAll I _ _ us hd r
    match us, r with
    | [u1, u2, u3], r =>
      exact min_three_data (I.ok.hd hc) hra ha.1 (by omega) fun i v h' tk bs hv hr' hk => best_end I r hra ha.1 (minD_mem _ _) hv hr' hk hq
def rMaxG (K : PySem.W.Frag) : List V → Hp → VK → Prop := fun vs H Q => ∃ xs d ds, DpAll K H xs (d :: ds) ∧ Alk d ds ∧ BestOf xs (d :: ds) (PySem.W.maxD d ds) H Q ∧
  (∃ a, vs = [V.ref a] ∧ (SqL K H a xs ∨ SqT K H a xs))
theorem cr_maxG (hc : X.calm = true) (hr : Room k X.A) : CallR X (.builtin "max") (rMaxG X.K) := by
  intro pins s σ H vs us Q I r h
  obtain ⟨xs, d, ds, hd, ha, hq, h⟩ := h
  have hu := hr.units
  have hdep := ha.2
  obtain ⟨a, rfl, h | h⟩ := h
  · obtain ⟨its, rv, hl, hz⟩ := I.list h
    obtain ⟨as, hra⟩ := Dp.readsAll I _ xs its hd rv
    rw [Vals.ref1 r]
    refine PySem.W.max_list_data (I.ok.hd hc) hl.isList (by simpa using hra) ha.1 (by omega) fun i v h' tk bs hv hr' hk => ?_
    exact best_end I rv hra ha.1 (maxD_mem _ _) (by simpa using hv) hr' hk hq
  · obtain ⟨its, rv, ht, hz⟩ := I.tuple h
    obtain ⟨as, hra⟩ := Dp.readsAll I _ xs its hd rv
    rw [Vals.ref1 r]
    refine PySem.W.max_tuple_data (I.ok.hd hc) ht (by simpa using hra) ha.1 (by omega) fun i v h' tk bs hv hr' hk => ?_
    exact best_end I rv hra ha.1 (maxD_mem _ _) (by simpa using hv) hr' hk hq
def minI (n : Int) (ns : List Int) : Int := ns.foldl (fun a y => if y < a then y else a) n
def maxI (n : Int) (ns : List Int) : Int := ns.foldl (fun a y => if a < y then y else a) n
def minS (ds : List D) : Out R0 := match toInts ds with
  | some (n :: ns) => .ok (.d (.int (minI n ns)))
  | _ => match toTups ds with
    | some (k :: ks) => .ok (.d (tD (minL k ks)))
    | _ => .no
def maxS (ds : List D) : Out R0 := match toInts ds with
  | some (n :: ns) => .ok (.d (.int (maxI n ns)))
  | _ => .no
def bMinX : List D → Out R0
  | [.lst ds] => minS ds
  | [.tup ds] => minS ds
  | [.int i, .int j] => .ok (.d (.int (if j < i then j else i)))
  | [a, b, c] => minS [a, b, c]
  | _ => .no
def bMaxX : List D → Out R0
  | [.lst ds] => maxS ds
  | [.tup ds] => maxS ds
  | [.int i, .int j] => .ok (.d (.int (if j > i then j else i)))
  | _ => .no
theorem minD_int (n : Int) : ∀ ns : List Int, PySem.W.minD (.int n) (ns.map PyData.int) = .int (minI n ns) := fun ns => by
  unfold PySem.W.minD minI
  induction ns generalizing n with
  | nil => rfl
  | cons y ys ih =>
    rw [List.map_cons, List.foldl_cons, List.foldl_cons, ← ih]
    rw [PySem.W.dataLt_int]
    by_cases h : y < n <;> simp [h]
theorem maxD_int (n : Int) : ∀ ns : List Int, PySem.W.maxD (.int n) (ns.map PyData.int) = .int (maxI n ns) := fun ns => by
  unfold PySem.W.maxD maxI
  induction ns generalizing n with
  | nil => rfl
  | cons y ys ih =>
    rw [List.map_cons, List.foldl_cons, List.foldl_cons, ← ih]
    rw [PySem.W.dataLt_int]
    by_cases h : n < y <;> simp [h]
theorem alk_ints (n : Int) (ns : List Int) : Alk (.int n) (ns.map PyData.int) := by
  refine ⟨⟨fun x hx y hy => ?_, fun x hx => ?_⟩, ?_⟩
  · obtain ⟨a, _, rfl⟩ := List.mem_map.mp (show x ∈ (n :: ns).map PyData.int from hx)
    obtain ⟨b, _, rfl⟩ := List.mem_map.mp (show y ∈ (n :: ns).map PyData.int from hy)
    simp only [PySem.W.alike]
  · obtain ⟨a, _, rfl⟩ := List.mem_map.mp (show x ∈ (n :: ns).map PyData.int from hx)
    exact fun e => by cases e
  · have := PySem.W.depth_ints (n :: ns)
    rw [List.map_cons] at this
    omega
theorem depthAll_pyT : ∀ ks : List (List Int), PyData.depthAll (ks.map pyT) ≤ 1
  | [] => by simp [PyData.depthAll]
  | k :: ks => by
    simp only [List.map_cons, PyData.depthAll, depth_pyT]
    have := depthAll_pyT ks
    omega
theorem alk_tups (k : List Int) (ks : List (List Int)) : Alk (pyT k) (ks.map pyT) := by
  refine ⟨⟨fun x hx y hy => ?_, fun x hx => ?_⟩, ?_⟩
  · obtain ⟨a, _, rfl⟩ := List.mem_map.mp (show x ∈ (k :: ks).map pyT from hx)
    obtain ⟨b, _, rfl⟩ := List.mem_map.mp (show y ∈ (k :: ks).map pyT from hy)
    exact alike_pyT _ _
  · obtain ⟨a, _, rfl⟩ := List.mem_map.mp (show x ∈ (k :: ks).map pyT from hx)
    exact fun e => by cases e
  · have := depthAll_pyT (k :: ks)
    rw [List.map_cons] at this
    omega
theorem toPy_tD (k : List Int) : toPy (tD k) = some (pyT k) := by
  have : ∀ ns : List Int, toPyL (ns.map D.int) = some (ns.map PyData.int) := fun ns => by
    induction ns with
    | nil => rfl
    | cons n ns ih =>
      show (match toPy (.int n) with
        | some p => match toPyL (ns.map D.int) with
          | some ps => some (p :: ps)
          | none => none
        | none => none) = _
      rw [ih]
      rfl
  unfold tD pyT
  simp only [toPy, this]
theorem toPyL_tDs : ∀ ks : List (List Int), toPyL (ks.map tD) = some (ks.map pyT)
  | [] => rfl
  | k :: ks => by
    show (match toPy (tD k) with
        | some p => match toPyL (ks.map tD) with
          | some ps => some (p :: ps)
          | none => none
        | none => none) = _
    rw [toPy_tD, toPyL_tDs ks]
    rfl
theorem toPyL_intsD : ∀ ns : List Int, toPyL (ns.map D.int) = some (ns.map PyData.int)
  | [] => rfl
  | n :: ns => by
    show (match toPy (.int n) with
        | some p => match toPyL (ns.map D.int) with
          | some ps => some (p :: ps)
          | none => none
        | none => none) = _
    rw [toPyL_intsD ns]
    rfl
theorem pyT_inj {a b : List Int} (h : pyT a = pyT b) : a = b := by
  unfold pyT at h
  injection h with h
  exact (List.map_inj_right (fun x y e => by injection e)).mp h
theorem minS_best {G H : Hp} {vs : List V} {ds : List D} {Q : VK} (e : Ex G H) (ia : IsA z.K z.cl G vs ds) (p : P0 z G H Q (minS ds)) : ∃ d qs, DpAll z.K H vs (d :: qs) ∧ Alk d qs ∧ BestOf vs (d :: qs) (PySem.W.minD d qs) H Q := by
  unfold minS at p
  split at p
  · rename_i n ns q
    have qd := toInts_eq q
    subst qd
    refine ⟨.int n, ns.map .int, isA_dp (ia.mono e) (toPyL_intsD (n :: ns)), alk_ints n ns, fun i x hx hd => ?_⟩
    rw [minD_int] at hd
    rw [IsA.ints ia, List.getElem?_map] at hx
    rw [← List.map_cons, List.getElem?_map] at hd
    cases w : (n :: ns)[i]? with
    | none => rw [w] at hx; cases hx
    | some m =>
      rw [w] at hx hd
      simp only [Option.map_some, Option.some.injEq] at hx hd
      injection hd with hd
      subst hx hd
      exact p _ (.int _)
  · split at p
    · rename_i k ks q
      have qd := toTups_eq q
      subst qd
      refine ⟨pyT k, ks.map pyT, isA_dp (ia.mono e) (toPyL_tDs (k :: ks)), alk_tups k ks, fun i x hx hd => ?_⟩
      rw [minD_pyT] at hd
      rw [← List.map_cons, List.getElem?_map] at hd
      obtain ⟨d', e1, w⟩ := IsA.get' ia hx
      rw [List.getElem?_map] at e1
      cases w2 : (k :: ks)[i]? with
      | none => rw [w2] at hd; cases hd
      | some m =>
        rw [w2] at hd e1
        simp only [Option.map_some, Option.some.injEq] at hd e1
        have := pyT_inj hd
        subst this
        subst e1
        exact p _ w
    · exact p.elim
theorem maxS_best {G H : Hp} {vs : List V} {ds : List D} {Q : VK} (e : Ex G H) (ia : IsA z.K z.cl G vs ds) (p : P0 z G H Q (maxS ds)) : ∃ d qs, DpAll z.K H vs (d :: qs) ∧ Alk d qs ∧ BestOf vs (d :: qs) (PySem.W.maxD d qs) H Q := by
  unfold maxS at p
  split at p
  · rename_i n ns q
    have qd := toInts_eq q
    subst qd
    refine ⟨.int n, ns.map .int, isA_dp (ia.mono e) (toPyL_intsD (n :: ns)), alk_ints n ns, fun i x hx hd => ?_⟩
    rw [maxD_int] at hd
    rw [IsA.ints ia, List.getElem?_map] at hx
    rw [← List.map_cons, List.getElem?_map] at hd
    cases w : (n :: ns)[i]? with
    | none => rw [w] at hx; cases hx
    | some m =>
      rw [w] at hx hd
      simp only [Option.map_some, Option.some.injEq] at hx hd
      injection hd with hd
      subst hx hd
      exact p _ (.int _)
  · exact p.elim
theorem minS_nx (ds : List D) : ∀ c d, minS ds ≠ .exc c d := fun c d => by unfold minS; split <;> (try split) <;> (intro h; cases h)
theorem maxS_nx (ds : List D) : ∀ c d, maxS ds ≠ .exc c d := fun c d => by unfold maxS; split <;> (intro h; cases h)
theorem minS_three {a b c : D} {r : R0} (h : minS [a, b, c] = .ok r) : (∃ i j l, [a, b, c] = [D.int i, .int j, .int l]) ∨ ∃ i j l, [a, b, c] = [tD i, tD j, tD l] := by
  unfold minS at h
  split at h
  · rename_i n ns q
    have qd := toInts_eq q
    match ns, qd with
    | [j, l], qd => exact .inl ⟨n, j, l, qd⟩
  · split at h
    · rename_i k ks q
      have qd := toTups_eq q
      match ks, qd with
      | [j, l], qd => exact .inr ⟨k, j, l, qd⟩
    · cases h
theorem isT_val {K : PySem.W.Frag} {cl : Cl} {G H : Hp} {v : V} {d : D} (h : IsT K cl G H v d) (hn : ∀ xs, d ≠ .lst xs) : Is K cl G v d := by
  rcases h with h | ⟨p, vs, xs, _, e, _⟩
  · exact h
  · exact absurd e (hn xs)
theorem isTs3 {K : PySem.W.Frag} {cl : Cl} {G H : Hp} {vs : List V} {a b c : D} (h : IsTs K cl G H vs [a, b, c]) : ∃ x y w, vs = [x, y, w] ∧ IsT K cl G H x a ∧ IsT K cl G H y b ∧ IsT K cl G H w c := by
  match vs, h with
  | [x, y, w], h => exact ⟨x, y, w, rfl, h.1, h.2.1, h.2.2.1⟩
  | [], h => exact h.elim
  | [_], h => exact h.2.elim
  | [_, _], h => exact h.2.2.elim
  | _ :: _ :: _ :: _ :: _, h => exact h.2.2.2.elim
theorem cd_minX (o : OkX X z E k) : CallD X z (.builtin "min") bMinX := ⟨⟨fun vs H Q => (fun xs H Q => ∃ i j, xs = [V.int i, V.int j] ∧ Q (V.int (if j < i then j else i)) H) vs H Q ∨ rMinG X.K vs H Q, fun pins s σ H vs us Q I r h => by
    rcases h with h | h
    · exact call_min2 o.calm pins s σ H vs us Q I r h
    · exact cr_minG o.calm o.room pins s σ H vs us Q I r h, fun G H vs ds Q e i p => by
  rw [o.K]
  unfold bMinX at p
  split at p
  · obtain ⟨v, rfl, w⟩ := isTs1 i
    obtain ⟨a, vs, rfl, hs, ia⟩ := isLst e w
    obtain ⟨d, qs, h1, h2, h3⟩ := minS_best e ia p
    exact .inr ⟨vs, d, qs, h1, h2, h3, .inl ⟨a, rfl, .inl (SqL.of hs)⟩⟩
  · obtain ⟨v, rfl, w⟩ := isTs1 i
    obtain ⟨a, vs, rfl, hs, ia, _⟩ := isTup e w
    obtain ⟨d, qs, h1, h2, h3⟩ := minS_best e ia p
    exact .inr ⟨vs, d, qs, h1, h2, h3, .inl ⟨a, rfl, .inr hs⟩⟩
  · obtain ⟨v, w, rfl, wv, ww⟩ := isTs2 i
    exact .inl ⟨_, _, by rw [isInt wv, isInt ww], p _ (.int _)⟩
  · rename_i a b c
    obtain ⟨x, y, w, rfl, wx, wy, ww⟩ := isTs3 i
    cases hm : minS [a, b, c] with
    | ok r =>
      have ia : IsA z.K z.cl G [x, y, w] [a, b, c] := by
        rcases minS_three hm with ⟨i, j, l, h⟩ | ⟨i, j, l, h⟩
        · cases h
          exact .cons (isT_val wx (fun _ e => by cases e)) (.cons (isT_val wy (fun _ e => by cases e)) (.cons (isT_val ww (fun _ e => by cases e)) .nil))
        · cases h
          exact .cons (isT_val wx (fun _ e => by cases e)) (.cons (isT_val wy (fun _ e => by cases e)) (.cons (isT_val ww (fun _ e => by cases e)) .nil))
      obtain ⟨d, qs, h1, h2, h3⟩ := minS_best e ia p
      exact .inr ⟨[x, y, w], d, qs, h1, h2, h3, .inr ⟨x, y, w, rfl, rfl⟩⟩
    | exc c d => exact absurd hm (minS_nx _ _ _)
    | no => rw [hm] at p; exact p.elim
  · exact p.elim⟩, fun x c d => by
    unfold bMinX
    split
    · exact minS_nx _ _ _
    · exact minS_nx _ _ _
    · intro h; cases h
    · exact minS_nx _ _ _
    · intro h; cases h⟩
theorem cd_maxX (o : OkX X z E k) : CallD X z (.builtin "max") bMaxX := ⟨⟨fun vs H Q => (fun xs H Q => ∃ i j, xs = [V.int i, V.int j] ∧ Q (V.int (if j > i then j else i)) H) vs H Q ∨ rMaxG X.K vs H Q, fun pins s σ H vs us Q I r h => by
    rcases h with h | h
    · exact call_max2 o.calm pins s σ H vs us Q I r h
    · exact cr_maxG o.calm o.room pins s σ H vs us Q I r h, fun G H vs ds Q e i p => by
  rw [o.K]
  unfold bMaxX at p
  split at p
  · obtain ⟨v, rfl, w⟩ := isTs1 i
    obtain ⟨a, vs, rfl, hs, ia⟩ := isLst e w
    obtain ⟨d, qs, h1, h2, h3⟩ := maxS_best e ia p
    exact .inr ⟨vs, d, qs, h1, h2, h3, ⟨a, rfl, .inl (SqL.of hs)⟩⟩
  · obtain ⟨v, rfl, w⟩ := isTs1 i
    obtain ⟨a, vs, rfl, hs, ia, _⟩ := isTup e w
    obtain ⟨d, qs, h1, h2, h3⟩ := maxS_best e ia p
    exact .inr ⟨vs, d, qs, h1, h2, h3, ⟨a, rfl, .inr hs⟩⟩
  · obtain ⟨v, w, rfl, wv, ww⟩ := isTs2 i
    exact .inl ⟨_, _, by rw [isInt wv, isInt ww], p _ (.int _)⟩
  · exact p.elim⟩, fun x c d => by
    unfold bMaxX
    split
    · exact maxS_nx _ _ _
    · exact maxS_nx _ _ _
    · intro h; cases h
    · intro h; cases h⟩
def bSortedX : List D → Out R0
  | [.lst ds] => match toInts ds with
    | some is => .ok (.ls ((sortI is).map D.int))
    | none => match toTups ds with
      | some ks => if ks.all (fun k => !k.isEmpty) then .ok (.ls ((sortL ks).map tD)) else .no
      | none => .no
  | [.tup ds] => match toInts ds with
    | some is => .ok (.ls ((sortI is).map D.int))
    | none => .no
  | _ => .no
theorem isA_zip {K : PySem.W.Frag} {cl : Cl} {G : Hp} : ∀ {vs : List V} {ks : List (List Int)}, IsA K cl G vs (ks.map tD) → ∀ p ∈ vs.zip ks, Is K cl G p.1 (tD p.2)
  | [], [], _, p, m => by cases m
  | v :: vs, k :: ks, .cons h t, p, m => by
    rcases List.mem_cons.mp m with e | m
    · subst e; exact h
    · exact isA_zip t p m
theorem isA_of_all {K : PySem.W.Frag} {cl : Cl} {G : Hp} : ∀ {zs : List (V × List Int)}, (∀ p ∈ zs, Is K cl G p.1 (tD p.2)) → IsA K cl G (zs.map (·.1)) ((zs.map (·.2)).map tD)
  | [], _ => .nil
  | p :: zs, h => .cons (h p List.mem_cons_self) (isA_of_all fun q m => h q (List.mem_cons_of_mem _ m))
theorem cd_sortedX (o : OkX X z E k) : CallD X z (.builtin "sorted") bSortedX := ⟨⟨fun vs H Q => (rSortedI X.K vs H Q ∨ rSortedTu X.K vs H Q) ∨ rSortedL X.K vs H Q, fun pins s σ H vs us Q I r h => by
    rcases h with (h | h) | h
    · exact cr_sortedI pins s σ H vs us Q I r h
    · exact cr_sortedTu pins s σ H vs us Q I r h
    · exact cr_sortedL o.room pins s σ H vs us Q I r h, fun G H vs ds Q e i p => by
  rw [o.K]
  unfold bSortedX at p
  split at p
  · obtain ⟨v, rfl, w⟩ := isTs1 i
    obtain ⟨a, vs, rfl, hs, ia⟩ := isLst e w
    split at p
    · rename_i bs q
      rw [toInts_eq q] at ia
      rw [IsA.ints ia] at hs
      exact .inl (.inl ⟨a, bs, rfl, SqL.of hs, fun ns' p' h1 h2 h3 => sorted_end h1 h2 h3 p⟩)
    · split at p
      · rename_i ks q
        split at p
        · rename_i hne
          rw [toTups_eq q] at ia
          have ln : vs.length = ks.length := by have := ia.length; rw [List.length_map] at this; exact this
          refine .inr ⟨a, vs, ks, rfl, SqL.of hs, isA_dp (ia.mono e) (toPyL_tDs ks), fun k m => ?_, fun zs p' h1 h2 h3 => ?_⟩
          · have := List.all_eq_true.mp hne k m
            intro w
            subst w
            cases this
          · have sp : zs.map (·.2) = sortL ks := sortedL_unique (((h1.map (·.2)).trans (by rw [List.map_snd_zip (by omega)])).trans (sortL_perm ks).symm) (by rw [List.pairwise_map]; exact h2) (sortL_sorted ks)
            have ia2 := isA_of_all (zs := zs) (K := z.K) (cl := z.cl) (G := G) fun q m => isA_zip ia q (h1.mem_iff.mp m)
            rw [sp] at ia2
            exact p p' _ h3 ia2
        · exact p.elim
      · exact p.elim
  · split at p
    · rename_i bs q
      obtain ⟨v, rfl, w⟩ := isTs1 i
      obtain ⟨a, vs, rfl, hs, ia, _⟩ := isTup e w
      rw [toInts_eq q] at ia
      rw [IsA.ints ia] at hs
      exact .inl (.inr ⟨a, bs, rfl, hs, fun ns' p' h1 h2 h3 => sorted_end h1 h2 h3 p⟩)
    · exact p.elim
  · exact p.elim⟩, fun x c d => by unfold bSortedX; split <;> (try split) <;> (try split) <;> (try split) <;> (intro h; cases h)⟩
end
end TN
namespace TN
open PySem PySem.Spec PyProof.Rows L2
section
variable {X : Cx} {z : Z} {E : XK} {k n i : Nat} {e ei o : Expr} {f fi : F} {σ : L2.St} {H : Hp} {D : Ends} {pos tpos : Pos} {g : Int → Int → Int} {op : Operator}
def rGetL : V → V → Hp → VK → Prop := fun o i H Q => ∃ p xs k v, o = .ref p ∧ i = .int k ∧ H p = some (.lst xs) ∧ atI xs k = some v ∧ Q v H
theorem get_list : PGet X rGetL := by
  intro pins s σ H o i ov iv Q I ro ri h
  obtain ⟨p, xs, k, v, rfl, rfl, hp, he, q⟩ := h
  cases ro
  obtain ⟨t, rfl⟩ := ri
  obtain ⟨its, r, pl, hz⟩ := I.list (SqL.of hp)
  obtain ⟨j, h1, h2, h3, h4, h5⟩ := atI_get he
  obtain ⟨w, ew, rw'⟩ := r.get h2
  have hl := r.length
  have hn := line63
  have fin : EP X pins σ Q w s := ⟨v, H, I, rw', q⟩
  by_cases h0 : 0 ≤ k
  · have hj : k.toNat = j := by
      rw [seqIndex_of h0 h5] at h1
      exact Option.some.inj h1
    exact wpAny_getItem_list (x := w) pl.isList h0 (by omega) (by rw [hj]; simpa using ew) fin
  · have hj : (k + (its.toArray.size : Int)).toNat = j := by
      rw [seqIndex_neg (by omega) h4] at h1
      rw [List.size_toArray, ← hl]
      exact Option.some.inj h1
    exact wpAny_getItem_list_neg (x := w) pl.isList (by omega) (by rw [List.size_toArray] <;> omega) (by omega) (by rw [hj]; simpa using ew) fin
def sAugS (i : Nat) (g : Int → Int → Int) (fi fv : F) : S := fun env => (ofO (lstAt env i)).bind fun _ => (fi env).bind fun q => match q.1 with
  | .d (.int j) => (ofO (lstAt q.2 i)).bind fun l => match atI l.1 j with
    | some (.int a) => (fv q.2).bind fun p => match p.1 with
      | .d (.int b) => (ofO (lstAt p.2 i)).bind fun l2 => (ofO (ixN l2.1.length j)).bind fun m => .ok (.nx, p.2.set i (l2.2 (l2.1.set m (.int (g a b)))))
      | _ => .no
    | _ => .no
  | _ => .no
theorem ts_augS (h : tS z E (sAugS i g fi f) D σ H) : tAugS (tVar i) (tE z E fi) (tE z E f) rGetL (ipI g) rSetL D σ H := by
  obtain ⟨T, G, env, r, h⟩ := h
  unfold sAugS at h
  obtain ⟨⟨xs0, mk0⟩, el0, h⟩ := (Pg.bind h).ofO
  obtain ⟨p0, vs0, es0, _, hp0, _, _⟩ := lstAt_ow r el0
  refine ⟨_, es0, T, G, env, r, (Pg.bind h).imp fun q hq u H2 G2 r2 x2 w2 => ?_⟩
  obtain ⟨q1, q2⟩ := q
  dsimp only at hq
  split at hq
  · rename_i j
    have w2 : Is z.K z.cl G2 u (.int j) := w2
    cases w2
    obtain ⟨⟨xs, mk⟩, el, hq⟩ := (Pg.bind hq).ofO
    obtain ⟨p, vs, es, _, hpp, a, st⟩ := lstAt_ow r2 el
    rw [es0] at es
    cases es
    dsimp only at hq
    split at hq
    · rename_i a' qa
      obtain ⟨v, hv, wv⟩ := atI_is a qa
      cases wv
      refine ⟨p0, vs, j, _, rfl, rfl, hpp, hv, T, G2, q2, r2, (Pg.bind hq).imp fun y hy u3 H3 G3 r3 x3 w3 => ?_⟩
      obtain ⟨y1, y2⟩ := y
      dsimp only at hy
      split at hy
      · rename_i b
        have w3 : Is z.K z.cl G3 u3 (.int b) := w3
        cases w3
        refine ⟨a', b, rfl, rfl, ?_⟩
        obtain ⟨⟨xs3, mk3⟩, el3, hy⟩ := (Pg.bind hy).ofO
        obtain ⟨m, em, hy⟩ := (Pg.bind hy).ofO
        obtain ⟨p3, vs3, es3, _, hpp3, a3, st3⟩ := lstAt_ow r3 el3
        rw [es0] at es3
        cases es3
        exact ⟨p0, vs3, j, m, rfl, rfl, hpp3, by rw [a3.length]; exact em, hy σ _ G3 (st3 _ _ (a3.set (.int _) m)) (x2.trans x3)⟩
      · exact hy.elim
    · exact hq.elim
  · exact hq.elim
theorem ws_augS {oe ie : Expr} (ho : PE X oe (tVar i)) (hi : PE X ie (tE z E fi)) (he : PE X e (tE z E f)) (hp : PIp X op (ipI g))
    (ha : ∀ ov iv new, augStore ie ov iv new = (do holding [new, ov, iv] (setItem ov iv new); release [new, ov, iv] []; pure .next) := by intros; rfl) : PS X (.AugAssign (.Subscript oe ie tpos) op e pos) (tS z E (sAugS i g fi f)) := ps_mono (ps_augS ho hi get_list he hp set_list ha) fun _ _ _ h => ts_augS h
end
section
variable {X : Cx} {z : Z} {es : List Expr} {pos : Pos}
end
end TN
namespace TN
open PySem PySem.Spec PyProof.Rows L2
def sPar3 (i j l : Nat) (fa fb fc : F) : S := fun env => (fa env).bind fun p => (fb p.2).bind fun q => (fc q.2).bind fun r => (ofO (storeN p.1)).bind fun a => (ofO (storeN q.1)).bind fun b => (ofO (storeN r.1)).bind fun c =>
  if i < r.2.length ∧ j < r.2.length ∧ l < r.2.length ∧ i ≠ j ∧ i ≠ l ∧ j ≠ l then .ok (.nx, ((r.2.set i a).set j b).set l c) else .no
@[simp] theorem e_sPar3 {i j l : Nat} {fa fb fc : F} {env : Ev} : sPar3 i j l fa fb fc env = (fa env).bind fun p => (fb p.2).bind fun q => (fc q.2).bind fun r => (ofO (storeN p.1)).bind fun a => (ofO (storeN q.1)).bind fun b => (ofO (storeN r.1)).bind fun c =>
  if i < r.2.length ∧ j < r.2.length ∧ l < r.2.length ∧ i ≠ j ∧ i ≠ l ∧ j ≠ l then .ok (.nx, ((r.2.set i a).set j b).set l c) else .no := rfl
section
variable {z : Z} {E : XK} {σ : L2.St} {H : Hp} {X : Cx} {i j l : Nat} {fa fb fc : F} {D : Ends}
theorem ow_set {env : Ev} {σ : L2.St} {i j : Nat} {s : Sl} {v : V} {q : Addr} (le : env.length = σ.length) (hi : i < env.length) (h : Ow (env.set i s) (σ.set i (some v)) j q) : (i = j ∧ s.ow = true ∧ v = .ref q) ∨ Ow env σ j q := by
  obtain ⟨⟨s1, es, os⟩, ep⟩ := h
  by_cases w : i = j
  · subst w
    rw [List.getElem?_set_self hi] at es
    rw [List.getElem?_set_self (by rw [← le]; exact hi)] at ep
    cases es
    exact .inl ⟨rfl, os, Option.some.inj ep⟩
  · rw [List.getElem?_set_ne w] at es ep
    exact .inr ⟨⟨s1, es, os⟩, ep⟩
theorem ts_par3 (h : tS z E (sPar3 i j l fa fb fc) D σ H) : L2.tPar3 i j l (tCons (tE z E fa) (tCons (tE z E fb) (tCons (tE z E fc) tNil))) D σ H := by
  obtain ⟨T, G, env, r, h⟩ := h
  refine ⟨T, G, env, r, (Pg.bind h).imp fun p hp v H1 G1 r1 e1 w1 => ?_⟩
  obtain ⟨T1, rt, kk⟩ := w1.keep r1
  refine ⟨T1, G1, p.2, rt, (Pg.bind hp).imp fun q hq u H2 G2 r2 e2 w2 => ?_⟩
  obtain ⟨T2, rt2, kk2⟩ := w2.keep r2
  refine ⟨T2, G2, q.2, rt2, (Pg.bind hq).imp fun r hr t H3 G3 r3 e3 w3 => ?_⟩
  obtain ⟨r3', w2', k3⟩ := kk2 r3 e3
  obtain ⟨w3', dif3⟩ := k3 t r.1 w3
  obtain ⟨r3'', w1', k1⟩ := kk r3' (e2.trans e3)
  obtain ⟨w2'', dif2⟩ := k1 u q.1 w2'
  obtain ⟨w3'', dif1⟩ := k1 t r.1 w3'
  obtain ⟨sa, ea, hr⟩ := (Pg.bind hr).ofO
  obtain ⟨sb, eb, hr⟩ := (Pg.bind hr).ofO
  obtain ⟨sc, ec, hr⟩ := (Pg.bind hr).ofO
  split at hr
  · rename_i hij
    obtain ⟨hi, hj, hl, n1, n2, n3⟩ := hij
    obtain ⟨slA, hdA⟩ := w1'.storeN ea
    obtain ⟨slB, hdB⟩ := w2''.storeN eb
    obtain ⟨slC, hdC⟩ := w3''.storeN ec
    have r4 := r3''.set slA (fun q' o e => (hdA q' o e).1) hi
    have r5 := r4.set (i := j) slB (fun q' o e j' hw => by
      obtain ⟨no, ys, ey⟩ := hdB q' o e
      rcases ow_set r3''.len hi hw with ⟨_, os, ev⟩ | hw
      · obtain ⟨_, xs, ex⟩ := hdA q' os ev
        exact dif2 xs ys q' ex ey ev e
      · exact no j' hw) (by rw [List.length_set]; exact hj)
    have r6 := r5.set (i := l) slC (fun q' o e j' hw => by
      obtain ⟨no, ys, ey⟩ := hdC q' o e
      rcases ow_set r4.len (by rw [List.length_set]; exact hj) hw with ⟨_, os, ev⟩ | hw
      · obtain ⟨_, xs, ex⟩ := hdB q' os ev
        exact dif3 xs ys q' ex ey ev e
      rcases ow_set r3''.len hi hw with ⟨_, os, ev⟩ | hw
      · obtain ⟨_, xs, ex⟩ := hdA q' os ev
        exact dif1 xs ys q' ex ey ev e
      · exact no j' hw) (by rw [List.length_set, List.length_set]; exact hl)
    exact ⟨v, u, t, rfl, hr _ H3 G3 r6 ((e1.trans e2).trans e3)⟩
  · exact hr.elim
end
end TN
namespace TN
open PySem PySem.Spec PyProof.Rows L2
section
variable {X : Cx}
variable {z : Z}
end
end TN
namespace TN
open PySem PySem.Spec PyProof.Rows L2
section
variable {α : Type}
end
section
variable {X : Cx} {z : Z} {E : XK} {k n : Nat} {T G H : Hp} {env : Ev} {σ : L2.St} {i : Nat} {pos p2 p3 : Pos} {e ei : Expr} {f fi : F} {D : Ends} {Q : VK}
end
end TN
namespace TN
open PySem PySem.Spec PyProof.Rows L2
section
variable {X : Cx} {z : Z} {E : XK} {k n : Nat} {σ : L2.St} {H : Hp} {i j : Nat} {fb : F} {D : Ends}
end
section
variable {X : Cx} {z : Z} {E : XK} {k : Nat}
end
end TN
namespace TN
open PySem PySem.Spec PyProof.Rows L2
def rSetTupI (X : Cx) : List V → Hp → VK → Prop := fun xs H Q => ∃ (l : Addr) (ns : List Int), xs = [V.ref l] ∧ SqT X.K H l (ns.map V.int) ∧ ns.length + 1 < scanBound ∧ ∀ p n, H p = none → n ≤ ns.length → Q (.ref p) (upd H p (SetO X.w p (fun j => decide (j ∈ ns)) n))
theorem cr_setTupI {X : Cx} (hc : X.calm = true) : CallR X (.type "set") (rSetTupI X) := by
  intro pins s σ H xs us Q I r h
  obtain ⟨l, ns, rfl, hT, hb, q⟩ := h
  rw [Vals.ref1 r]
  obtain ⟨its, r1, ⟨⟨cls, dd, data, sl⟩, ho, hcl, n, hd⟩, hs⟩ := I.tuple hT
  refine call_set_tupI (items := its.toArray) ns (I.ok.hd hc) ⟨_, ho, hcl, n, hd⟩ (by simpa using intsAre_of r1) hb fun h' tk c R hcn keep => ?_
  exact ⟨.ref s.heap.objs.size, _, I.laid (a := s.heap.objs.size) (t' := tk) keep (Nat.le_refl _) (setO_new R), rfl, q _ c (I.hok.fresh (Nat.le_refl _)) hcn⟩
def onceI : List Int → List Int
  | [] => []
  | x :: xs => if x ∈ onceI xs then onceI xs else x :: onceI xs
theorem onceI_mem : ∀ {xs : List Int} {k : Int}, k ∈ onceI xs ↔ k ∈ xs
  | [], _ => Iff.rfl
  | x :: xs, k => by
    unfold onceI
    split
    · rename_i h
      rw [onceI_mem, List.mem_cons]
      constructor
      · exact .inr
      · rintro (e | m)
        · subst e; exact onceI_mem.mp h
        · exact m
    · rw [List.mem_cons, List.mem_cons, onceI_mem]
theorem onceI_nodup : ∀ xs : List Int, (onceI xs).Nodup
  | [] => .nil
  | x :: xs => by
    unfold onceI
    split
    · exact onceI_nodup xs
    · rename_i h
      exact List.nodup_cons.mpr ⟨h, onceI_nodup xs⟩
def srtSet (ns : List Int) : List Int := sortI (onceI ns)
theorem srtSet_mem {ns : List Int} {k : Int} : k ∈ srtSet ns ↔ k ∈ ns := by
  unfold srtSet
  rw [(sortI_perm _).mem_iff, onceI_mem]
theorem srtSet_asc (ns : List Int) : (srtSet ns).Pairwise (· < ·) := by
  have nd : (srtSet ns).Nodup := (sortI_perm _).nodup_iff.mpr (onceI_nodup _)
  exact ((sortI_sorted _).and nd).imp fun h => by omega
theorem asc_uniq : ∀ {a b : List Int}, a.Pairwise (· < ·) → b.Pairwise (· < ·) → (∀ k, k ∈ a ↔ k ∈ b) → a = b
  | [], [], _, _, _ => rfl
  | [], y :: b, _, _, h => by have := (h y).mpr List.mem_cons_self; cases this
  | x :: a, [], _, _, h => by have := (h x).mp List.mem_cons_self; cases this
  | x :: a, y :: b, ha, hb, h => by
    rw [List.pairwise_cons] at ha hb
    have e : x = y := by
      rcases List.mem_cons.mp ((h x).mp List.mem_cons_self) with e | m
      · exact e
      · rcases List.mem_cons.mp ((h y).mpr List.mem_cons_self) with e | m'
        · exact e.symm
        · have := hb.1 x m
          have := ha.1 y m'
          omega
    subst e
    rw [asc_uniq ha.2 hb.2 fun k => ?_]
    constructor
    · intro m
      rcases List.mem_cons.mp ((h k).mp (List.mem_cons_of_mem _ m)) with e | q
      · subst e; have := ha.1 k m; omega
      · exact q
    · intro m
      rcases List.mem_cons.mp ((h k).mpr (List.mem_cons_of_mem _ m)) with e | q
      · subst e; have := hb.1 k m; omega
      · exact q
def fSrtSet (f : F) : F := fun env => (f env).bind fun p => (ofO (p.1.opd.der p.2)).bind fun d => match d with
  | .tup ds => match toInts ds with
    | some ns => if ns.length < 60 then .ok (.new ((srtSet ns).map D.int), p.2) else .no
    | none => .no
  | _ => .no
theorem ints_isA {K : PySem.W.Frag} {cl : Cl} {G : Hp} : ∀ {vs : List V} {ns : List Int}, IsA K cl G vs (ns.map D.int) → vs = ns.map V.int
  | [], [], _ => rfl
  | v :: vs, n :: ns, .cons h t => by
    cases h
    rw [List.map_cons, ints_isA t]
section
variable {X : Cx} {z : Z} {E : XK} {k : Nat} {pos p p2 p3 : Pos} {e : Expr} {f : F} {σ : L2.St} {H : Hp} {Q : VK}
theorem te_srtSet (hK : X.K = z.K) (h : tE z E (fSrtSet f) σ H Q) : tCB (rSortedSet X.w) (tCons (tCB (rSetTupI X) (tCons (tE z E f) tNil)) tNil) σ H Q := by
  obtain ⟨T, G, env, r, h⟩ := h
  refine ⟨T, G, env, r, (Pg.bind h).imp fun p hp v H1 G1 r1 e1 w1 => ?_⟩
  obtain ⟨G2, r2, x2, w2⟩ := w1.opd r1
  obtain ⟨d, ed, hp⟩ := (Pg.bind hp).ofO
  have it := w2.der r2 ed
  split at hp
  · rename_i ds
    split at hp
    · rename_i ns hn
      split at hp
      · rename_i hl
        obtain ⟨a, vs, rfl, hs, ia, _⟩ := isTup r2.f.exG it
        have ed2 : ds = ns.map D.int := toInts_eq hn
        rw [ed2] at ia
        rw [ints_isA ia] at hs
        refine ⟨a, ns, rfl, by rw [hK]; exact hs, by show ns.length + 1 < 4096; omega, fun q n hq hn' => ?_⟩
        have r3 := r2.alloc (o := SetO X.w q (fun j => decide (j ∈ ns)) n) hq
        refine ⟨q, _, n, rfl, upd_same, by omega, fun ms p4 hms hmem hlen hp4 => ?_⟩
        have ems : ms = srtSet ns := asc_uniq hms (srtSet_asc ns) fun k => by rw [hmem, srtSet_mem]; simp
        have r4 := r3.alloc (o := .lst (ms.map V.int)) hp4
        obtain ⟨n1, n2, n3, n4, n5⟩ := r3.nn hp4
        refine hp (.ref p4) _ G2 r4 (e1.trans x2) ⟨p4, ms.map V.int, rfl, upd_same, by rw [ems]; exact isA_ints _, n1, n2, n3, n4, n5⟩
      · exact hp.elim
    · exact hp.elim
  · exact hp.elim
theorem we_srtSet (o : OkX X z E k) (he : PE X e (tE z E f)) (hm : X.mg "sorted" = none) (hm2 : X.mg "set" = none) (hg : Gl X "sorted" := by rfl) (hg2 : Gl X "set" := by rfl)
    (hs : starEach [e] X.env = (false, eval e X.env) :: starEach [] X.env := by rfl) (hs2 : starEach [.Call (.Name "set" p2) [e] [] p3] X.env = (false, eval (.Call (.Name "set" p2) [e] [] p3) X.env) :: starEach [] X.env := by rfl) :
    PE X (.Call (.Name "sorted" p) [.Call (.Name "set" p2) [e] [] p3] [] pos) (tE z E (fSrtSet f)) :=
  pe_mono (pe_callB (cr_sortedSet o.calm) hg hm (by first | exact PySem.boot_sorted | decide +kernel) (pa_cons (pe_callTy (cr_setTupI o.calm) hg2 hm2 (by first | exact PySem.boot_set | decide +kernel) (pa_cons he pa_nil hs) (by decide) (by decide) hs rfl) pa_nil hs2) (by decide) (by decide) hs2 rfl) fun _ _ _ h => te_srtSet o.K h
end
end TN
namespace TD
open PySem PySem.Spec PyProof.Rows L2
def Msk (m : Nat) : Prop := m = 7 ∨ m = 15 ∨ m = 31 ∨ m = 63 ∨ m = 127 ∨ m = 255 ∨ m = 511
def orb (m : Nat) : Nat → Nat → List Nat
  | _, 0 => []
  | i, n + 1 => i :: orb m ((i * 5 + 1) % (m + 1)) n
theorem orb_mem {m x : Nat} : ∀ (n a : Nat), x ∈ orb m (lcgN m a) n → ∃ b, b < a + n ∧ lcgN m b = x
  | 0, _, h => by cases h
  | n + 1, a, h => by
    rcases List.mem_cons.mp h with e | h
    · exact ⟨a, by omega, e.symm⟩
    · obtain ⟨b, hb, e⟩ := orb_mem n (a + 1) h
      exact ⟨b, by omega, e⟩
def fullM (m : Nat) : Bool := (lcgN m (m + 1) == 0) && (List.range (m + 1)).all fun j => (orb m 0 (m + 1)).any (Nat.beq j)
theorem full7 : fullM 7 = true := by decide +kernel
theorem full15 : fullM 15 = true := by decide +kernel
theorem full31 : fullM 31 = true := by decide +kernel
theorem full63 : fullM 63 = true := by decide +kernel
theorem full127 : fullM 127 = true := by decide +kernel
theorem full255 : fullM 255 = true := by decide +kernel
theorem full511 : fullM 511 = true := by decide +kernel
theorem Msk.full {m : Nat} (h : Msk m) : fullM m = true := by
  rcases h with e | e | e | e | e | e | e <;> subst e
  · exact full7
  · exact full15
  · exact full31
  · exact full63
  · exact full127
  · exact full255
  · exact full511
theorem Msk.all {m : Nat} (h : Msk m) {j : Nat} (hj : j ≤ m) : ∃ b, b ≤ m ∧ lcgN m b = j := by
  have f := h.full
  unfold fullM at f
  rw [Bool.and_eq_true, List.all_eq_true] at f
  have g := f.2 j (List.mem_range.mpr (by omega))
  obtain ⟨x, hx, e⟩ := List.any_eq_true.mp g
  have e2 : j = x := Nat.eq_of_beq_eq_true e
  subst e2
  obtain ⟨b, hb, e3⟩ := orb_mem (m := m) (m + 1) 0 hx
  exact ⟨b, by omega, e3⟩
theorem Msk.round {m : Nat} (h : Msk m) : lcgN m (m + 1) = 0 := by
  have f := h.full
  unfold fullM at f
  rw [Bool.and_eq_true] at f
  exact beq_iff_eq.mp f.1
theorem Msk.per {m : Nat} (h : Msk m) (k : Nat) : lcgN m (m + 1 + k) = lcgN m k := by
  induction k with
  | zero => exact h.round
  | succ k ih =>
    have e : ∀ q, lcgN m (q + 1) = (lcgN m q * 5 + 1) % (m + 1) := fun _ => rfl
    rw [← Nat.add_assoc, e, e, ih]
theorem Msk.cover {m : Nat} (h : Msk m) {i j : Nat} (hi : i ≤ m) (hj : j ≤ m) : ∃ k, k ≤ m ∧ lcgI m i k = j := by
  obtain ⟨x, hx, ex⟩ := h.all hi
  obtain ⟨y, hy, ey⟩ := h.all hj
  subst ex
  by_cases q : x ≤ y
  · exact ⟨y - x, by omega, by rw [lcgN_add, Nat.add_sub_cancel' q, ey]⟩
  · refine ⟨m + 1 + y - x, by omega, ?_⟩
    have e : x + (m + 1 + y - x) = m + 1 + y := by omega
    rw [lcgN_add, e, h.per, ey]
theorem Msk.runs {m : Nat} (hm : Msk m) (h : Int) {j : Nat} (hj : j ≤ m) : ∃ n, n ≤ m + 12 ∧ runI m (SetTable.bits h) n = j := by
  obtain ⟨k, hk, e⟩ := hm.cover (runI_le m (SetTable.bits h) 12) hj
  refine ⟨12 + k, by omega, ?_⟩
  rw [runI_tail (bits_lt h), e]
theorem Msk.meets {m : Nat} (hm : Msk m) (h : Int) {j : Nat} (hj : j ≤ m) : ∃ k, k < 10 * SetTable.turns m ∧ way m h k = j := by
  obtain ⟨n, hn, e⟩ := hm.runs h hj
  obtain ⟨k, hk, e2⟩ := run_nth m (SetTable.bits h) n
  refine ⟨k, by unfold SetTable.turns; omega, ?_⟩
  show (nth m _ k).j = j
  rw [e2, ← e]
  rfl
theorem way_in {m : Nat} {h : Int} {k : Nat} : way m h k ≤ m := by
  have hi : SetTable.bits h % (m + 1) ≤ m := by have := Nat.mod_lt (SetTable.bits h) (show m + 1 > 0 by omega); omega
  have r := runEnd_bd hi
  have q := nth_in (m := m) k (runAt m (SetTable.bits h % (m + 1)) (SetTable.bits h)) (by
    show SetTable.bits h % (m + 1) + (SetTable.runEnd m _ - _) ≤ m
    omega)
  have : way m h k = (nth m (runAt m (SetTable.bits h % (m + 1)) (SetTable.bits h)) k).j := rfl
  omega
theorem Msk.odd {m : Nat} (h : Msk m) : m % 2 = 1 := by rcases h with e | e | e | e | e | e | e <;> subst e <;> rfl
theorem Msk.le {m : Nat} (h : Msk m) : m ≤ 511 := by rcases h with e | e | e | e | e | e | e <;> subst e <;> decide
theorem at_below {xs : Array Nat} (r : Ris xs.toList) {i j : Nat} (h : xs.toList[i]? = some j) : SetTable.below xs j = i := by
  obtain ⟨c1, c2, c3⟩ := below_cut r j
  generalize SetTable.below xs j = p at c1 c2 c3
  rcases Nat.lt_trichotomy i p with q | q | q
  · exact absurd (c2 i j h q) (Nat.lt_irrefl _)
  · exact q.symm
  · have hl := (List.getElem?_eq_some_iff.mp h).1
    have e := List.getElem?_eq_getElem (l := xs.toList) (i := p) (by omega)
    have a := c3 p _ e (Nat.le_refl _)
    have b := ris_lt r e h q
    omega
theorem has_mem {xs : Array Nat} (r : Ris xs.toList) {j : Nat} : SetTable.has xs j = true ↔ j ∈ xs.toList := by
  unfold SetTable.has
  rw [beq_iff_eq, ← Array.getElem?_toList]
  constructor
  · exact fun h => List.mem_of_getElem? h
  · intro h
    obtain ⟨i, hi⟩ := List.mem_iff_getElem?.mp h
    rw [at_below r hi]
    exact hi
def occ (t : SetTable) (j : Nat) : Prop := j ∈ t.place.toList ∨ j ∈ t.dummies.toList
theorem not_at {t : SetTable} {j : Nat} (h : j ∉ t.place.toList) : (t.place[SetTable.below t.place j]? == some j) = false := by
  cases q : t.place[SetTable.below t.place j]? == some j with
  | false => rfl
  | true => exact absurd (List.mem_of_getElem? (by rw [Array.getElem?_toList]; exact beq_iff_eq.mp q)) h
theorem slot_dm {t : SetTable} (rd : Ris t.dummies.toList) {j : Nat} (h : j ∉ t.place.toList) (hd : j ∈ t.dummies.toList) : t.slot j = .dummy := by
  unfold SetTable.slot
  simp only [not_at h, (has_mem rd).mpr hd]
  rfl
theorem slot_no {t : SetTable} (rd : Ris t.dummies.toList) {j : Nat} (h : ¬ occ t j) : t.slot j = .empty := by
  have h1 : j ∉ t.place.toList := fun q => h (.inl q)
  have h2 : SetTable.has t.dummies j = false := by
    cases q : SetTable.has t.dummies j with
    | false => rfl
    | true => exact absurd (.inr ((has_mem rd).mp q)) h
  unfold SetTable.slot
  simp only [not_at h1, h2]
  rfl
theorem adv_dm (m : Nat) (p : SetTable.Probe) (d : Option Nat) : adv m { p with dummy := d } = { adv m p with dummy := d } := by
  unfold adv
  by_cases c : p.more > 0
  · simp only [c, if_true]
  · simp only [c, if_false]
theorem nth_dm (m : Nat) (d : Option Nat) : ∀ (k : Nat) (p : SetTable.Probe), nth m { p with dummy := d } k = { nth m p k with dummy := d }
  | 0, _ => rfl
  | k + 1, p => by
    show nth m (adv m { p with dummy := d }) k = { nth m (adv m p) k with dummy := d }
    rw [adv_dm, nth_dm m d k]
theorem nth_dmj (m : Nat) (d : Option Nat) (k : Nat) (p : SetTable.Probe) : (nth m { p with dummy := d } k).j = (nth m p k).j := by rw [nth_dm]
structure Tab (t : SetTable) (hs : List Int) : Prop where
  ris : Ris t.place.toList
  rid : Ris t.dummies.toList
  dis : ∀ j, j ∈ t.dummies.toList → j ∉ t.place.toList
  sz : t.place.size = hs.length
  mok : Msk t.mask
  reach : ∀ (i : Nat) (h : Int) (j : Nat), hs[i]? = some h → t.place.toList[i]? = some j → ∃ k, way t.mask h k = j ∧ ∀ k', k' < k → occ t (way t.mask h k')
def Mind (t : SetTable) (p : SetTable.Probe) (k : Nat) (d : Option Nat) : Prop := d = p.dummy ∨ ∃ k', k' < k ∧ d = some (nth t.mask p k').j ∧ (nth t.mask p k').j ∈ t.dummies.toList
def GoD (t : SetTable) (hashAt : Nat → Int) (h : Int) (f K : Nat) (p : SetTable.Probe) : Prop :=
    (∃ k i d, k < K ∧ t.place.toList[i]? = some (nth t.mask p k).j ∧ hashAt i = h ∧ (∀ k' i', k' < k → t.place.toList[i']? = some (nth t.mask p k').j → hashAt i' ≠ h) ∧
      SetTable.probe.go t hashAt h f p = some (.candidate (nth t.mask p k).j i { nth t.mask p (k + 1) with dummy := d }) ∧ Mind t p k d) ∨
    ((∀ k' i', k' < K → t.place.toList[i']? = some (nth t.mask p k').j → hashAt i' ≠ h) ∧ ∃ d, SetTable.probe.go t hashAt h f p = some (.empty (nth t.mask p K).j d) ∧ Mind t p K d)
theorem go_d {t : SetTable} (r : Ris t.place.toList) (rd : Ris t.dummies.toList) (hashAt : Nat → Int) (h : Int) : ∀ (f K : Nat) (p : SetTable.Probe), K < f →
    (∀ k, k < K → occ t (nth t.mask p k).j) → ¬ occ t (nth t.mask p K).j → GoD t hashAt h f K p
  | 0, K, p, hK, _, _ => absurd hK (Nat.not_lt_zero _)
  | f + 1, 0, p, _, _, he => by
    refine .inr ⟨fun k' i' hk => absurd hk (Nat.not_lt_zero _), p.dummy, ?_, .inl rfl⟩
    have hs : t.slot p.j = .empty := slot_no rd he
    rw [SetTable.probe.go, hs]
    rfl
  | f + 1, K + 1, p, hK, hin, he => by
    have h0 : occ t p.j := hin 0 (Nat.succ_pos _)
    
    have next : ∀ q : SetTable.Probe, (∃ d0, q = { adv t.mask p with dummy := d0 } ∧ (d0 = p.dummy ∨ d0 = some p.j ∧ p.j ∈ t.dummies.toList)) →
        (∀ i', t.place.toList[i']? = some p.j → hashAt i' ≠ h) → SetTable.probe.go t hashAt h (f + 1) p = SetTable.probe.go t hashAt h f q → GoD t hashAt h (f + 1) (K + 1) p := fun q hq h1 hg => by
      obtain ⟨d0, eq, hd0⟩ := hq
      have ej : ∀ k, (nth t.mask q k).j = (nth t.mask p (k + 1)).j := fun k => by rw [eq, nth_dmj]; rfl
      have en : ∀ k d, { nth t.mask q k with dummy := d } = { nth t.mask p (k + 1) with dummy := d } := fun k d => by rw [eq, nth_dm]; rfl
      have mind : ∀ k d, Mind t q k d → Mind t p (k + 1) d := fun k d w => by
        rcases w with w | ⟨k', a, b, c⟩
        · rcases hd0 with z | ⟨z, z2⟩
          · exact .inl (by rw [w, eq]; exact z)
          · exact .inr ⟨0, Nat.succ_pos _, by rw [w, eq]; exact z, z2⟩
        · exact .inr ⟨k' + 1, Nat.succ_lt_succ a, by rw [b, ej], by rw [← ej]; exact c⟩
      rcases go_d r rd hashAt h f K q (by omega) (fun k hk => by rw [ej]; exact hin (k + 1) (by omega)) (by rw [ej]; exact he) with ⟨k, i, d, a1, a2, a3, a4, a5, a6⟩ | ⟨a1, d, a2, a3⟩
      · rw [ej] at a2 a5
        rw [en] at a5
        refine .inl ⟨k + 1, i, d, by omega, a2, a3, fun k' i' hk hi => ?_, by rw [hg]; exact a5, mind _ _ a6⟩
        cases k' with
        | zero => exact h1 i' hi
        | succ k' => exact a4 k' i' (by omega) (by rw [ej]; exact hi)
      · rw [ej] at a2
        refine .inr ⟨fun k' i' hk hi => ?_, d, by rw [hg]; exact a2, mind _ _ a3⟩
        cases k' with
        | zero => exact h1 i' hi
        | succ k' => exact a1 k' i' (by omega) (by rw [ej]; exact hi)
    by_cases c : p.j ∈ t.place.toList
    · obtain ⟨i, hi⟩ := List.mem_iff_getElem?.mp c
      have hs : t.slot p.j = .live i := slot_live r hi
      by_cases hh : hashAt i = h
      · refine .inl ⟨0, i, p.dummy, Nat.succ_pos _, hi, hh, fun k' i' hk => absurd hk (Nat.not_lt_zero _), ?_, .inl rfl⟩
        rw [SetTable.probe.go, hs]
        simp only [hh, beq_self_eq_true, if_true]
        show some (SetTable.Met.candidate p.j i (adv t.mask p)) = some (SetTable.Met.candidate p.j i { adv t.mask p with dummy := p.dummy })
        have e := adv_dm t.mask p p.dummy
        have e2 : ({ p with dummy := p.dummy } : SetTable.Probe) = p := rfl
        rw [e2] at e
        rw [← e]
      · refine next (adv t.mask p) ⟨p.dummy, ?_, .inl rfl⟩ (fun i' hi' => ?_) ?_
        · exact adv_dm t.mask p p.dummy
        · have e := at_below r hi
          rw [at_below r hi'] at e
          subst e
          exact hh
        · rw [SetTable.probe.go, hs]
          simp only [beq_eq_false_iff_ne.mpr hh, Bool.false_eq_true, if_false]
          rfl
    · have hd : p.j ∈ t.dummies.toList := h0.resolve_left c
      have hs : t.slot p.j = .dummy := slot_dm rd c hd
      refine next { adv t.mask p with dummy := some p.j } ⟨some p.j, rfl, .inr ⟨rfl, hd⟩⟩ (fun i' hi' => absurd (List.mem_of_getElem? hi') c) ?_
      rw [SetTable.probe.go, hs]
      show SetTable.probe.go t hashAt h f (adv t.mask { p with dummy := some p.j }) = _
      rw [adv_dm]
theorem Tab.first {t : SetTable} {hs : List Int} (T : Tab t hs) (hl : t.fill ≤ t.mask) (h : Int) : ∃ K, K < 10 * SetTable.turns t.mask ∧ ¬ occ t (way t.mask h K) ∧ ∀ k, k < K → occ t (way t.mask h k) := by
  have hlen : (t.place.toList ++ t.dummies.toList).length < t.mask + 1 := by
    rw [List.length_append, Array.length_toList, Array.length_toList]
    unfold SetTable.fill at hl
    omega
  obtain ⟨j, hj, hn⟩ := st_missing _ (t.mask + 1) hlen
  obtain ⟨k, hk, e⟩ := T.mok.meets h (j := j) (by omega)
  obtain ⟨K, h1, h2, h3⟩ := st_least (p := fun k => ¬ occ t (way t.mask h k)) k (by rw [e]; exact fun q => hn (List.mem_append.mpr q))
  exact ⟨K, by omega, h2, fun k' hk' => Classical.not_not.mp (h3 k' hk')⟩
end TD
namespace TD
open PySem PySem.Spec PyProof.Rows L2
theorem toList_erase {α : Type} (xs : Array α) (i : Nat) : (SetTable.eraseAt xs i).toList = xs.toList.eraseIdx i := by
  unfold SetTable.eraseAt
  rw [List.eraseIdx_eq_take_drop_succ]
  have e : List.take (xs.size - (i + 1)) (List.drop (i + 1) xs.toList) = List.drop (i + 1) xs.toList := List.take_of_length_le (by simp)
  simp [e]
theorem erase_ris {xs : Array Nat} (r : Ris xs.toList) (i : Nat) : Ris (SetTable.eraseAt xs i).toList := by
  rw [toList_erase]
  exact List.Pairwise.sublist (List.eraseIdx_sublist _ _) r
theorem mem_eraseIdx_nd {α : Type} {l : List α} (nd : l.Nodup) {i : Nat} {j : α} (h : l[i]? = some j) {x : α} : x ∈ l.eraseIdx i ↔ x ∈ l ∧ x ≠ j := by
  obtain ⟨hl, e⟩ := List.getElem?_eq_some_iff.mp h
  constructor
  · intro hx
    refine ⟨List.mem_of_mem_eraseIdx hx, fun ex => ?_⟩
    subst ex
    obtain ⟨k, hk, ek⟩ := List.mem_iff_getElem.mp hx
    rw [List.getElem_eraseIdx] at ek
    have np := List.pairwise_iff_getElem.mp nd
    split at ek
    · rename_i c
      exact np k i (by omega) hl c (by rw [ek, e])
    · rename_i c
      have hk' : k + 1 < l.length := by rw [List.length_eraseIdx_of_lt hl] at hk; omega
      exact np i (k + 1) hl hk' (by omega) (by rw [ek, e])
  · rintro ⟨hx, ne⟩
    obtain ⟨k, hk, ek⟩ := List.mem_iff_getElem.mp hx
    have hki : k ≠ i := fun c => ne (by subst c; rw [← ek, e])
    rw [List.mem_iff_getElem]
    by_cases c : k < i
    · exact ⟨k, by rw [List.length_eraseIdx_of_lt hl]; omega, by rw [List.getElem_eraseIdx, dif_pos c]; exact ek⟩
    · refine ⟨k - 1, by rw [List.length_eraseIdx_of_lt hl]; omega, ?_⟩
      rw [List.getElem_eraseIdx, dif_neg (by omega)]
      have e1 : k - 1 + 1 = k := by omega
      simp only [e1]
      exact ek
theorem mem_erase {xs : Array Nat} (r : Ris xs.toList) {i j : Nat} (h : xs.toList[i]? = some j) {x : Nat} : x ∈ (SetTable.eraseAt xs i).toList ↔ x ∈ xs.toList ∧ x ≠ j := by
  rw [toList_erase]
  exact mem_eraseIdx_nd (r.imp fun h => Nat.ne_of_lt h) h
theorem size_erase {xs : Array Nat} {i j : Nat} (h : xs.toList[i]? = some j) : (SetTable.eraseAt xs i).size + 1 = xs.size := by
  have hl := (List.getElem?_eq_some_iff.mp h).1
  rw [← Array.length_toList, toList_erase, List.length_eraseIdx_of_lt hl, Array.length_toList]
  rw [Array.length_toList] at hl
  omega
def dmPut (t : SetTable) (j : Nat) : Array Nat := if SetTable.has t.dummies j then SetTable.eraseAt t.dummies (SetTable.below t.dummies j) else t.dummies
theorem dmPut_at {t : SetTable} (rd : Ris t.dummies.toList) (j : Nat) : Ris (dmPut t j).toList ∧ (∀ x, x ∈ (dmPut t j).toList ↔ x ∈ t.dummies.toList ∧ x ≠ j) ∧ (j ∈ t.dummies.toList → (dmPut t j).size + 1 = t.dummies.size) ∧ (dmPut t j).size ≤ t.dummies.size := by
  unfold dmPut
  by_cases c : j ∈ t.dummies.toList
  · rw [if_pos ((has_mem rd).mpr c)]
    obtain ⟨i, hi⟩ := List.mem_iff_getElem?.mp c
    rw [at_below rd hi]
    have hs := size_erase hi
    exact ⟨erase_ris rd i, fun x => mem_erase rd hi, fun _ => hs, by omega⟩
  · rw [if_neg fun q => c ((has_mem rd).mp q)]
    exact ⟨rd, fun x => ⟨fun h => ⟨h, fun e => c (e ▸ h)⟩, fun h => h.1⟩, fun q => absurd q c, Nat.le_refl _⟩
variable {t : SetTable} {hs : List Int}
theorem Tab.put (T : Tab t hs) {h : Int} {K j p : Nat} {t1 : SetTable} (ej : way t.mask h K = j) (hK : j ∉ t.place.toList) (hb : ∀ k, k < K → occ t (way t.mask h k)) (e : t.put j = (t1, p)) :
    p ≤ hs.length ∧ Tab t1 (hs.take p ++ h :: hs.drop p) ∧ t1.mask = t.mask ∧ t1.led = t.led ∧ t1.plain = t.plain ∧ t1.fill ≤ t.fill + 1 ∧ (j ∈ t.dummies.toList → t1.fill = t.fill) := by
  have e1 : t1 = { t with place := SetTable.insertAt t.place (SetTable.below t.place j) j, dummies := dmPut t j } := (congrArg Prod.fst e).symm
  have e2 : p = SetTable.below t.place j := (congrArg Prod.snd e).symm
  obtain ⟨d1, d2, d3, d4⟩ := dmPut_at T.rid j
  have c1 := (below_cut T.ris j).1
  rw [← e2] at c1 e1
  have hpl : p ≤ t.place.toList.length := by rw [Array.length_toList]; exact c1
  have hph : p ≤ hs.length := by rw [← T.sz]; exact c1
  have pp : t1.place.toList = t.place.toList.take p ++ j :: t.place.toList.drop p := by rw [e1]; exact SetTable.toList_insertAt _ _ _
  have dd : t1.dummies = dmPut t j := by rw [e1]
  have em : t1.mask = t.mask := by rw [e1]
  have psz : t1.place.size = hs.length + 1 := by rw [← Array.length_toList, pp, len_ins _ hpl, Array.length_toList, T.sz]
  have up : ∀ x, occ t x → occ t1 x := fun x hx => by
    rcases hx with hx | hx
    · exact .inl (by rw [pp]; exact mem_ins.mpr (.inr hx))
    · by_cases c : x = j
      · exact .inl (by rw [pp]; exact mem_ins.mpr (.inl c))
      · exact .inr (by rw [dd]; exact (d2 x).mpr ⟨hx, c⟩)
  have fl : t1.fill = t1.place.size + (dmPut t j).size := by rw [← dd]; rfl
  have fl0 : t.fill = t.place.size + t.dummies.size := rfl
  have sz0 := T.sz
  refine ⟨hph, ⟨?_, by rw [dd]; exact d1, fun x hx => ?_, ?_, by rw [em]; exact T.mok, fun i h' j' h1 h2 => ?_⟩, em, by rw [e1], by rw [e1], by omega, fun q => by have := d3 q; omega⟩
  · have hn : t.place[SetTable.below t.place j]? ≠ some j := fun q => hK (List.mem_of_getElem? (by rw [Array.getElem?_toList]; exact q))
    have q := ris_insert T.ris hn
    rw [← e2] at q
    rw [e1]
    exact q
  · rw [dd] at hx
    obtain ⟨x1, x2⟩ := (d2 x).mp hx
    rw [pp]
    intro q
    rcases mem_ins.mp q with q | q
    · exact x2 q
    · exact T.dis x x1 q
  · rw [len_ins _ hph]; exact psz
  · rw [tins_get _ hph] at h1
    rw [pp, tins_get _ hpl] at h2
    rw [em]
    by_cases a : i < p
    · rw [if_pos a] at h1 h2
      obtain ⟨k, w, z⟩ := T.reach i h' j' h1 h2
      exact ⟨k, w, fun k' hk' => up _ (z k' hk')⟩
    · rw [if_neg a] at h1 h2
      by_cases b : i = p
      · rw [if_pos b] at h1 h2
        cases h1
        cases h2
        exact ⟨K, ej, fun k' hk' => up _ (hb k' hk')⟩
      · rw [if_neg b] at h1 h2
        obtain ⟨k, w, z⟩ := T.reach (i - 1) h' j' h1 h2
        exact ⟨k, w, fun k' hk' => up _ (z k' hk')⟩
theorem eraseIdx_get {α : Type} (l : List α) (i k : Nat) : (l.eraseIdx i)[k]? = if k < i then l[k]? else l[k + 1]? := List.getElem?_eraseIdx ..
theorem Tab.drop (T : Tab t hs) {i : Nat} (hi : i < hs.length) : Tab (t.drop i) (hs.eraseIdx i) ∧ (t.drop i).mask = t.mask ∧ (t.drop i).led = t.led ∧ (t.drop i).plain = t.plain ∧ (t.drop i).fill = t.fill := by
  have hz := T.sz
  have hl : i < t.place.toList.length := by rw [Array.length_toList]; omega
  have hj : t.place.toList[i]? = some t.place.toList[i] := List.getElem?_eq_getElem hl
  generalize t.place.toList[i] = j at hj
  have hj' : t.place[i]? = some j := by rw [← Array.getElem?_toList]; exact hj
  have e : t.drop i = { t with place := SetTable.eraseAt t.place i, dummies := SetTable.insertAt t.dummies (SetTable.below t.dummies j) j } := by
    unfold SetTable.drop
    rw [hj']
  have hpj : j ∈ t.place.toList := List.mem_of_getElem? hj
  have hnd : j ∉ t.dummies.toList := fun q => T.dis j q hpj
  have c1 := (below_cut T.rid j).1
  have dl : (t.drop i).dummies.toList = t.dummies.toList.take (SetTable.below t.dummies j) ++ j :: t.dummies.toList.drop (SetTable.below t.dummies j) := by rw [e]; exact SetTable.toList_insertAt _ _ _
  have pl : (t.drop i).place = SetTable.eraseAt t.place i := by rw [e]
  have em : (t.drop i).mask = t.mask := by rw [e]
  have up : ∀ x, occ t x → occ (t.drop i) x := fun x hx => by
    by_cases c : x = j
    · exact .inr (by rw [dl]; exact mem_ins.mpr (.inl c))
    · rcases hx with hx | hx
      · exact .inl (by rw [pl]; exact (mem_erase T.ris hj).mpr ⟨hx, c⟩)
      · exact .inr (by rw [dl]; exact mem_ins.mpr (.inr hx))
  have psz := size_erase hj
  have dsz : (t.drop i).dummies.size = t.dummies.size + 1 := by rw [← Array.length_toList, dl, len_ins _ (by rw [Array.length_toList]; exact c1), Array.length_toList]
  refine ⟨⟨by rw [pl]; exact erase_ris T.ris i, ?_, fun x hx => ?_, ?_, by rw [em]; exact T.mok, fun k h' j' h1 h2 => ?_⟩, em, by rw [e], by rw [e], ?_⟩
  · have hn : t.dummies[SetTable.below t.dummies j]? ≠ some j := fun q => hnd (List.mem_of_getElem? (by rw [Array.getElem?_toList]; exact q))
    rw [e]
    exact ris_insert T.rid hn
  · rw [pl]
    intro q
    obtain ⟨q1, q2⟩ := (mem_erase T.ris hj).mp q
    rw [dl] at hx
    rcases mem_ins.mp hx with z | z
    · exact q2 z
    · exact T.dis x z q1
  · rw [pl, List.length_eraseIdx_of_lt hi]; omega
  · rw [eraseIdx_get] at h1
    rw [pl, toList_erase, eraseIdx_get] at h2
    rw [em]
    by_cases a : k < i
    · rw [if_pos a] at h1 h2
      obtain ⟨q, w, z⟩ := T.reach k h' j' h1 h2
      exact ⟨q, w, fun k' hk' => up _ (z k' hk')⟩
    · rw [if_neg a] at h1 h2
      obtain ⟨q, w, z⟩ := T.reach (k + 1) h' j' h1 h2
      exact ⟨q, w, fun k' hk' => up _ (z k' hk')⟩
  · show (t.drop i).place.size + (t.drop i).dummies.size = t.place.size + t.dummies.size
    rw [dsz, pl]; omega
theorem free_at {m : Nat} (hm : Msk m) (owner : Array (Option Nat)) (h : Int) {j : Nat} (hj : j ≤ m) (hf : oAt owner j = none) :
    ∃ K, SetTable.layClean.free m owner (SetTable.turns m) (SetTable.bits h % (m + 1)) (SetTable.bits h) = some (way m h K) ∧ oAt owner (way m h K) = none ∧ ∀ k, k < K → oAt owner (way m h k) ≠ none := by
  obtain ⟨n, hn, e⟩ := hm.runs h hj
  have hw : way m h (off m (SetTable.bits h % (m + 1)) (SetTable.bits h) n) = j := by
    have q := nth_off m n (SetTable.bits h % (m + 1)) (SetTable.bits h)
    rw [itL_run] at q
    exact (congrArg SetTable.Probe.j q).trans e
  obtain ⟨K, k1, k2, k3⟩ := st_least (p := fun k => oAt owner (way m h k) = none) (off m (SetTable.bits h % (m + 1)) (SetTable.bits h) n) (by rw [hw]; exact hf)
  have some_of : ∀ x : Option Nat, x ≠ none → x.isNone = false := fun x hx => by cases x with
    | none => exact absurd rfl hx
    | some _ => rfl
  exact ⟨K, free_spec m owner _ n _ _ K (by unfold SetTable.turns; omega) k1 (fun k hk => some_of _ (k3 k hk)) (by rw [show oAt owner _ = none from k2]; rfl), k2, k3⟩
theorem own_step {m : Nat} (hm : Msk m) {done : List Int} {owner : Array (Option Nat)} (W : Own m done owner) (hl : done.length ≤ m) (h : Int) :
    ∃ j, SetTable.layClean.free m owner (SetTable.turns m) (SetTable.bits h % (m + 1)) (SetTable.bits h) = some j ∧ Own m (done ++ [h]) (owner.setIfInBounds j (some done.length)) := by
  obtain ⟨ps, hps, hin⟩ := W.ps
  obtain ⟨j0, hj0, hno⟩ := st_missing ps (m + 1) (by omega)
  have free0 : oAt owner j0 = none := by
    cases z : oAt owner j0 with
    | none => rfl
    | some q => exact absurd (hin j0 (by omega) (by rw [z]; exact Option.some_ne_none q)) hno
  obtain ⟨K, e1, e2, e3⟩ := free_at hm owner h (j := j0) (by omega) free0
  have hjm : way m h K ≤ m := way_in
  have hsz : way m h K < owner.size := by rw [W.sz]; omega
  have self := oAt_set_self (some done.length) hsz
  have keep : ∀ i, oAt owner i ≠ none → oAt (owner.setIfInBounds (way m h K) (some done.length)) i ≠ none := fun i hi => by
    by_cases c : i = way m h K
    · subst c; rw [self]; exact Option.some_ne_none _
    · rw [oAt_set_ne _ c]; exact hi
  refine ⟨way m h K, e1, by rw [Array.size_setIfInBounds]; exact W.sz, fun j k hj e => ?_, fun k hk => ?_, way m h K :: ps, by simp [hps], fun j hj e => ?_⟩
  · by_cases c : j = way m h K
    · subst c
      rw [self] at e
      cases e
      exact ⟨h, K, by simp, rfl, fun k' hk' => keep _ (e3 k' hk')⟩
    · rw [oAt_set_ne _ c] at e
      obtain ⟨h', K', a1, a2, a3⟩ := W.at_ j k hj e
      exact ⟨h', K', by rw [List.getElem?_append_left (List.getElem?_eq_some_iff.mp a1).1]; exact a1, a2, fun k' hk' => keep _ (a3 k' hk')⟩
  · have hk2 : k < done.length ∨ k = done.length := by simp at hk; omega
    rcases hk2 with c | c
    · obtain ⟨j, hj, e⟩ := W.all k c
      refine ⟨j, hj, ?_⟩
      rw [oAt_set_ne _ fun z => by rw [z, e2] at e; cases e]
      exact e
    · subst c
      exact ⟨_, hjm, self⟩
  · by_cases c : j = way m h K
    · subst c; exact List.mem_cons_self
    · rw [oAt_set_ne _ c] at e
      exact List.mem_cons_of_mem _ (hin j hj e)
theorem own_fold {m : Nat} (hm : Msk m) : ∀ (rest done : List Int) (owner : Array (Option Nat)), Own m done owner → done.length + rest.length ≤ m + 1 →
    ∃ owner', rest.foldl (stepF m) (some (owner, done.length)) = some (owner', (done ++ rest).length) ∧ Own m (done ++ rest) owner'
  | [], done, owner, W, _ => ⟨owner, by simp, by simpa using W⟩
  | h :: rest, done, owner, W, hl => by
    simp only [List.length_cons] at hl
    obtain ⟨j, e, W2⟩ := own_step hm W (by omega) h
    have el : (done ++ [h]).length = done.length + 1 := by simp
    obtain ⟨o2, f, W3⟩ := own_fold hm rest (done ++ [h]) _ W2 (by rw [el]; omega)
    have ea : done ++ [h] ++ rest = done ++ h :: rest := by simp
    rw [ea] at W3 f
    rw [el] at f
    exact ⟨o2, by rw [List.foldl_cons, stepF_some e]; exact f, W3⟩
theorem lay_ok {m : Nat} (hm : Msk m) {hs : Array Int} (hn : hs.size ≤ m + 1) : ∃ owner, SetTable.layClean m hs = some owner ∧ Own m hs.toList owner := by
  obtain ⟨owner, f, W⟩ := own_fold hm hs.toList [] _ (Own.init m) (by simpa using hn)
  exact ⟨owner, by rw [layClean_eq]; rw [List.length_nil] at f; rw [f]; rfl, by simpa using W⟩
theorem laid_ok {m : Nat} (hm : Msk m) (finger moves : Nat) (led plain : Bool) {hs : Array Int} (hn : hs.size ≤ m) :
    ∃ t order, SetTable.laid m finger moves led plain hs = some (t, order) ∧ order.toList.Perm (List.range hs.size) ∧ Tab t (order.toList.map fun i => hs.getD i 0) ∧ t.mask = m ∧ t.led = led ∧ t.plain = plain ∧ t.dummies = #[] := by
  obtain ⟨owner, e, W⟩ := lay_ok hm (hs := hs) (by omega)
  have ris := ris_live (fun j => owner.getD j none) (List.range (m + 1)) (by
    unfold Ris
    first | exact List.pairwise_lt_range | exact List.pairwise_lt_range _)
  have r1 : Ris ((liveOf m owner).map (·.1)) := ris.1
  have nd : ((liveOf m owner).map (·.1)).Nodup := r1.imp fun h => Nat.ne_of_lt h
  have inOf : ∀ {j k : Nat}, (j, k) ∈ liveOf m owner ↔ j ≤ m ∧ oAt owner j = some k := mem_live W.sz
  have len : (liveOf m owner).length = hs.size := by
    obtain ⟨ps, p1, p2⟩ := W.ps
    have a := nat_nodup_len ((liveOf m owner).map (·.1)) ps nd fun x hx => by
      obtain ⟨⟨y, k⟩, hq, ey⟩ := List.mem_map.mp hx
      obtain ⟨b1, b2⟩ := inOf.mp hq
      have ey' : y = x := ey
      rw [← ey']
      exact p2 y b1 (by rw [b2]; exact Option.some_ne_none k)
    have b := nat_nodup_len (List.range hs.size) ((liveOf m owner).map (·.2)) List.nodup_range fun k hk => by
      obtain ⟨j, b1, b2⟩ := W.all k (by simpa using hk)
      exact List.mem_map.mpr ⟨(j, k), inOf.mpr ⟨b1, b2⟩, rfl⟩
    simp only [List.length_map, List.length_range] at a b
    have hz : hs.toList.length = hs.size := Array.length_toList
    omega
  refine ⟨{ mask := m, place := ((liveOf m owner).map (·.1)).toArray, dummies := #[], finger, led, moves, plain }, ((liveOf m owner).map (·.2)).toArray, ?_, ?_, ⟨?_, .nil, (fun j hj => (by simp at hj)), ?_, hm, fun i h j h1 h2 => ?_⟩, rfl, rfl, rfl, rfl⟩
  · unfold SetTable.laid
    rw [e]
    rfl
  · refine perm_range hs.size _ (by simpa using len) fun k hk => ?_
    obtain ⟨j, b1, b2⟩ := W.all k (by simpa using hk)
    exact List.mem_map.mpr ⟨(j, k), inOf.mpr ⟨b1, b2⟩, rfl⟩
  · exact r1
  · simp
  · have h1' : ((liveOf m owner).map fun q => hs.getD q.2 0)[i]? = some h := by simpa [Function.comp_def] using h1
    have h2' : ((liveOf m owner).map (·.1))[i]? = some j := h2
    rw [List.getElem?_map] at h1' h2'
    cases hq : (liveOf m owner)[i]? with
    | none => rw [hq] at h2'; cases h2'
    | some q =>
      obtain ⟨y, k⟩ := q
      rw [hq] at h1' h2'
      have ej : y = j := Option.some.inj h2'
      have eh : hs.getD k 0 = h := Option.some.inj h1'
      rw [← ej]
      obtain ⟨b1, b2⟩ := inOf.mp (List.mem_of_getElem? hq)
      obtain ⟨h0, K, a1, a2, a3⟩ := W.at_ y k b1 b2
      have e0 : h0 = h := by
        rw [← eh, Array.getD_eq_getD_getElem?, ← Array.getElem?_toList, a1]; rfl
      subst e0
      refine ⟨K, a2, fun k' hk' => .inl ?_⟩
      show way m h0 k' ∈ (liveOf m owner).map (·.1)
      cases z : oAt owner (way m h0 k') with
      | none => exact absurd z (a3 k' hk')
      | some k2 => exact List.mem_map.mpr ⟨(way m h0 k', k2), inOf.mpr ⟨way_in, z⟩, rfl⟩
end TD
namespace TD
open PySem PySem.Spec PyProof.Rows L2
structure SetD (P : Program) (w : World) (h : Heap) (a : Addr) (L : List (Addr × List Int)) (es : Array (Int × Value)) (ep : Nat) (t : SetTable) : Prop where
  ob : ∃ o, h.get? a = some o ∧ o.ExactSet ∧ o.data = .set es ep t
  rows : es.toList = rowsOf P w L
  tab : Tab t (L.map fun p => thash P w p.2)
  nd : (L.map (·.2)).Nodup
  tup : ∀ p ∈ L, IsT P w h p.2 p.1
  plain : t.plain = true
  led : w.params.followText "set-order" = true ∨ t.led = true
  room : t.fill * 5 < t.mask * 3
section
variable {P : Program} {w : World} {A : Around} {E : Value → Shared → Prop} {s : Shared} {a : Addr} {L : List (Addr × List Int)} {es : Array (Int × Value)} {ep : Nat} {t : SetTable}
theorem rows_size (h : es.toList = rowsOf P w L) : es.size = L.length := by
  rw [← Array.length_toList, h]
  unfold rowsOf
  rw [List.length_map]
theorem rows_at (h : es.toList = rowsOf P w L) {i : Nat} {p : Addr × List Int} (hp : L[i]? = some p) : es[i]? = some (thash P w p.2, Value.ref p.1) := by
  rw [← Array.getElem?_toList, h]
  unfold rowsOf
  rw [List.getElem?_map, hp]
  rfl
theorem SetD.psz (R : SetD P w s.heap a L es ep t) : t.place.size = L.length := by
  have h := R.tab.sz
  rw [List.length_map] at h
  exact h
theorem SetD.fits (R : SetD P w s.heap a L es ep t) : t.fits es.size = true := by
  have h1 := R.psz
  have h2 := rows_size R.rows
  have h3 := R.room
  unfold SetTable.fits
  rw [Bool.and_eq_true, beq_iff_eq, decide_eq_true_eq]
  omega
theorem SetD.len (R : SetD P w s.heap a L es ep t) : L.length ≤ t.fill := by
  have h1 := R.psz
  unfold SetTable.fill
  omega
theorem SetD.gw (R : SetD P w s.heap a L es ep t) : ¬ t.gaveWay = true := by
  unfold SetTable.gaveWay
  rw [R.tab.mok.odd]
  decide
abbrev start (t : SetTable) (h : Int) : SetTable.Probe := runAt t.mask (SetTable.bits h % (t.mask + 1)) (SetTable.bits h)
theorem search_go (R : SetD P w s.heap a L es ep t) {x : Addr} {k : List Int} (hx : IsT P w s.heap k x) (hu : A.units < cLine) {K : Nat} (hKf : K < 10 * SetTable.turns t.mask)
    (hK : ¬ occ t (way t.mask (thash P w k) K)) (hKb : ∀ c, c < K → occ t (way t.mask (thash P w k) c)) (adding : Bool) {Q : SetFound → Shared → Prop}
    (hin : ∀ i p, L[i]? = some p → p.2 = k → Q (.there (if adding then none else some i)) s)
    (hout : k ∉ L.map (·.2) → ∀ c wd, way t.mask (thash P w k) c ∉ t.place.toList → (∀ c', c' < c → occ t (way t.mask (thash P w k) c')) → (wd = true → way t.mask (thash P w k) c ∈ t.dummies.toList) → Q (.free (way t.mask (thash P w k) c) wd) s) :
    ∀ (f c : Nat) (d : Option Nat) (stand : Option SetTable.Probe), stand.getD (t.probeStart (thash P w k)) = { nth t.mask (start t (thash P w k)) c with dummy := d } → Mind t (start t (thash P w k)) c d → c ≤ K → K - c < f →
      (∀ (i : Nat) p, L[i]? = some p → p.2 = k → ∃ c', c ≤ c' ∧ c' < K ∧ t.place.toList[i]? = some (way t.mask (thash P w k) c')) →
      wpAny (model P w) A (setSearchFrom a (.ref x) (thash P w k) adding f stand) Q E s
  | 0, c, d, stand, _, _, _, hf, _ => absurd hf (Nat.not_lt_zero _)
  | f + 1, c, d, stand, hst, hmi, hc, hf, hre => by
    obtain ⟨o, ho, hex, hd⟩ := R.ob
    rw [setSearchFrom_succ]
    refine wpAny_bind (wpAny_setState_of ho hd R.fits ?_)
    dsimp only
    refine wp_if_neg R.gw ?_
    try refine wpAny_bind (wpAny_pure ?_)
    obtain ⟨p0, hp0⟩ : ∃ p0, p0 = ({ nth t.mask (start t (thash P w k)) c with dummy := d } : SetTable.Probe) := ⟨_, rfl⟩
    have ej : ∀ q, (nth t.mask p0 q).j = way t.mask (thash P w k) (c + q) := fun q => by rw [hp0, nth_dmj, ← nth_add]
    have en : ∀ q d', { nth t.mask p0 q with dummy := d' } = { nth t.mask (start t (thash P w k)) (c + q) with dummy := d' } := fun q d' => by rw [hp0, nth_dm, ← nth_add]
    have mind : ∀ q d', Mind t p0 q d' → Mind t (start t (thash P w k)) (c + q) d' := fun q d' hm => by
      rcases hm with hm | ⟨q', a1, a2, a3⟩
      · have e : d' = d := by rw [hm, hp0]
        subst e
        rcases hmi with hmi | ⟨q', b1, b2, b3⟩
        · exact .inl hmi
        · exact .inr ⟨q', by omega, b2, b3⟩
      · rw [ej] at a2 a3
        exact .inr ⟨c + q', by omega, a2, a3⟩
    have hashAt : ∀ (i : Nat) p, L[i]? = some p → (fun i => (es[i]?.map (·.1)).getD 0) i = thash P w p.2 := fun i p hp => by
      show (es[i]?.map (·.1)).getD 0 = _
      rw [rows_at R.rows hp]
      rfl
    rcases go_d (t := t) R.tab.ris R.tab.rid (fun i => (es[i]?.map (·.1)).getD 0) (thash P w k) (10 * SetTable.turns t.mask) (K - c) p0 (by omega) (fun q hq => by rw [ej]; exact hKb _ (by omega)) (by rw [ej, show c + (K - c) = K by omega]; exact hK) with ⟨q, i, d', hq, hi, hh, hno, hpr, hmi'⟩ | ⟨hno, d', hpr, hmi'⟩
    · rw [ej] at hi hpr
      rw [en] at hpr
      have hpr' : t.probe (fun i => (es[i]?.map (·.1)).getD 0) (thash P w k) (stand.getD (t.probeStart (thash P w k))) = some (.candidate (way t.mask (thash P w k) (c + q)) i { nth t.mask (start t (thash P w k)) (c + (q + 1)) with dummy := d' }) := by
        rw [hst, ← hp0]
        exact hpr
      rw [hpr']
      dsimp only
      have hil : i < L.length := by
        have h1 := (List.getElem?_eq_some_iff.mp hi).1
        rw [Array.length_toList, R.psz] at h1
        exact h1
      obtain ⟨p, hp⟩ : ∃ p, L[i]? = some p := ⟨_, List.getElem?_eq_getElem hil⟩
      have hmem : p ∈ L := List.mem_of_getElem? hp
      have rest : wpAny (model P w) A (searchRest a (.ref x) (thash P w k) adding f es t (way t.mask (thash P w k) (c + q)) i { nth t.mask (start t (thash P w k)) (c + (q + 1)) with dummy := d' }) Q E s := by
        unfold searchRest
        rw [rows_at R.rows hp]
        dsimp only
        refine wpAny_bind (wpAny_holding (wpAny_eqBool_tuple hu (R.tup p hmem) hx ?_))
        refine wpAny_bind (wpAny_setState_of ho hd R.fits ?_)
        dsimp only
        have hsl : t.slot (way t.mask (thash P w k) (c + q)) = .live i := slot_live R.tab.ris hi
        by_cases hkk : p.2 = k
        · have fin := hin i p hp hkk
          cases adding with
          | true =>
            refine wp_if_pos (by simp [hkk]) ?_
            exact wpAny_pure fin
          | false =>
            refine wp_if_neg (by simp) ?_
            try refine wpAny_bind (wpAny_pure ?_)
            rw [sameMem]
            dsimp only
            simp only [if_true, hsl, rows_at R.rows hp]
            refine wpAny_bind (wpAny_isSame_ref_self (wpAny_bind (wpAny_pure ?_)))
            simp only [if_true]
            refine wp_if_pos (by simp [hkk]) ?_
            exact wpAny_pure fin
        · refine wp_if_neg (by simp [hkk]) ?_
          try refine wpAny_bind (wpAny_pure ?_)
          rw [sameMem]
          dsimp only
          simp only [if_true, hsl, rows_at R.rows hp]
          refine wpAny_bind (wpAny_isSame_ref_self (wpAny_bind (wpAny_pure ?_)))
          simp only [if_true]
          refine wp_if_neg (by simp [hkk]) ?_
          refine search_go R hx hu hKf hK hKb adding hin hout f (c + (q + 1)) d' _ rfl ?_ (by omega) (by omega) fun i0 p0' h0 hk0 => ?_
          · have m1 := mind q d' hmi'
            rcases m1 with m1 | ⟨q', b1, b2, b3⟩
            · exact .inl m1
            · exact .inr ⟨q', by omega, b2, b3⟩
          · obtain ⟨c', a1, a2, a3⟩ := hre i0 p0' h0 hk0
            refine ⟨c', ?_, a2, a3⟩
            rcases Nat.lt_trichotomy c' (c + q) with z | z | z
            · refine absurd ((hashAt i0 p0' h0).trans (congrArg (thash P w) hk0)) (hno (c' - c) i0 (by omega) ?_)
              rw [ej, show c + (c' - c) = c' by omega]
              exact a3
            · subst z
              have s0 := slot_live R.tab.ris a3
              rw [hsl] at s0
              injection s0 with s0
              subst s0
              rw [hp] at h0
              cases h0
              exact absurd hk0 hkk
            · omega
      by_cases hl : t.led = true
      · refine wp_if_neg (by simp [hl]) ?_
        try refine wpAny_bind (wpAny_pure ?_)
        exact rest
      · refine wp_if_pos (by simp [hl]) ?_
        refine wpAny_bind (seen_tup hx (fun y hy => ?_) ?_)
        · obtain ⟨e, he, ee⟩ := List.mem_map.mp hy
          have he1 : e ∈ es ∧ e.1 = thash P w k := by simpa using he
          have he2 : e ∈ es.toList := by simpa using he1.1
          rw [R.rows] at he2
          obtain ⟨p2, hp2, e2⟩ := List.mem_map.mp he2
          refine ⟨p2.2, p2.1, ?_, R.tup p2 hp2⟩
          rw [← ee, ← e2]
        · refine wp_if_neg (by decide) ?_
          try refine wpAny_bind (wpAny_pure ?_)
          exact rest
    · rw [ej, show c + (K - c) = K by omega] at hpr
      have hpr' : t.probe (fun i => (es[i]?.map (·.1)).getD 0) (thash P w k) (stand.getD (t.probeStart (thash P w k))) = some (.empty (way t.mask (thash P w k) K) d') := by
        rw [hst, ← hp0]
        exact hpr
      rw [hpr']
      dsimp only
      have hm : k ∉ L.map (·.2) := fun hm => by
        obtain ⟨p1, h1, hk1⟩ := List.mem_map.mp hm
        obtain ⟨i0, hi0⟩ := List.mem_iff_getElem?.mp h1
        obtain ⟨c', a1, a2, a3⟩ := hre i0 p1 hi0 hk1
        refine absurd ((hashAt i0 p1 hi0).trans (congrArg (thash P w) hk1)) (hno (c' - c) i0 (by omega) ?_)
        rw [ej, show c + (c' - c) = c' by omega]
        exact a3
      have m1 := mind _ d' hmi'
      rw [show c + (K - c) = K by omega] at m1
      rcases m1 with m1 | ⟨q', b1, b2, b3⟩
      · have e : d' = none := m1
        subst e
        dsimp only
        exact wpAny_pure (hout hm K false (fun q => hK (.inl q)) hKb fun q => by cases q)
      · subst b2
        dsimp only
        have b4 : way t.mask (thash P w k) q' ∈ t.dummies.toList := b3
        have np := R.tab.dis _ b4
        have sd := slot_dm R.tab.rid np b4
        refine wp_if_neg (by
          show ¬ ((adding && t.slot (way t.mask (thash P w k) q') != SetTable.Slot.dummy) = true)
          rw [sd]; simp) ?_
        try refine wpAny_bind (wpAny_pure ?_)
        exact wpAny_pure (hout hm q' true np (fun c' hc' => hKb c' (by omega)) fun _ => b4)
theorem search_d (R : SetD P w s.heap a L es ep t) {x : Addr} {k : List Int} (hx : IsT P w s.heap k x) (hu : A.units < cLine) (adding : Bool) {Q : SetFound → Shared → Prop}
    (hin : ∀ i p, L[i]? = some p → p.2 = k → Q (.there (if adding then none else some i)) s)
    (hout : k ∉ L.map (·.2) → ∀ c wd, way t.mask (thash P w k) c ∉ t.place.toList → (∀ c', c' < c → occ t (way t.mask (thash P w k) c')) → (wd = true → way t.mask (thash P w k) c ∈ t.dummies.toList) → Q (.free (way t.mask (thash P w k) c) wd) s) :
    wpAny (model P w) A (setSearch a (.ref x) (thash P w k) adding) Q E s := by
  have hroom := R.room
  obtain ⟨K, hKf, hK, hKb⟩ := R.tab.first (by omega) (thash P w k)
  have hbig : K < 100000 := by
    have := R.tab.mok.le
    unfold SetTable.turns at hKf
    omega
  unfold setSearch
  refine search_go R hx hu hKf hK hKb adding hin hout 100000 0 none none rfl (.inl rfl) (Nat.zero_le _) (by omega) fun i p hp hk => ?_
  have hil : i < t.place.toList.length := by
    have h1 := (List.getElem?_eq_some_iff.mp hp).1
    rw [Array.length_toList, R.psz]
    exact h1
  have hj := List.getElem?_eq_getElem hil
  obtain ⟨c, e, hb⟩ := R.tab.reach i (thash P w k) _ (by rw [List.getElem?_map, hp, ← hk]; rfl) hj
  refine ⟨c, Nat.zero_le _, ?_, by rw [hj, e]⟩
  rcases Nat.lt_trichotomy c K with z | z | z
  · exact z
  · subst z
    exact absurd (.inl (by rw [e]; exact List.getElem_mem hil)) hK
  · exact absurd (hb K z) hK
theorem relay_d {o : Obj} (ho : s.heap.get? a = some o) (hex : o.ExactSet) (hd : o.data = .set es ep t) (hrows : es.toList = rowsOf P w L) (hfit : t.fits es.size = true)
    (nd : (L.map (·.2)).Nodup) (tup : ∀ p ∈ L, IsT P w s.heap p.2 p.1) (pl : t.plain = true) (ld : w.params.followText "set-order" = true ∨ t.led = true) {wanted M : Nat}
    (hw : SetTable.sizeAbove wanted - 1 = M) (hM : Msk M) (hn : L.length * 5 < M * 3) {Q : Unit → Shared → Prop}
    (hQ : ∀ h' L' es' ep' t', Heap.SameBut a s.heap h' → SetD P w h' a L' es' ep' t' → L'.Perm L → t'.fill = L.length → t'.mask = M → t'.dummies = #[] → Q () { s with heap := h' }) : wpAny (model P w) A (setRelay a wanted) Q E s := by
  have hsl := rows_size hrows
  have hM5 := hM.le
  obtain ⟨t', order, e, hp, T, em, el, epl, edm⟩ := laid_ok hM t.finger (t.movedTo M) t.led t.plain (hs := es.map (·.1)) (by rw [Array.size_map, hsl]; omega)
  rw [Array.size_map, hsl] at hp
  obtain ⟨L2, r1, r2, r3⟩ := order_rows L es order hrows hp
  rw [← r3] at T
  have hs2 : (order.filterMap (es[·]?)).size = es.size := by rw [rows_size r1, r2.length_eq, hsl]
  have er : t.relaid (es.map (·.1)) wanted = some (t', order) := by
    unfold SetTable.relaid
    rw [hw]
    exact e
  rw [setRelay_eq]
  refine wpAny_bind (wpAny_setState_of ho hd hfit ?_)
  dsimp only
  refine wp_if_neg (by rw [sizeLine_eq]; omega) ?_
  try refine wpAny_bind (wpAny_pure ?_)
  rw [er]
  dsimp only
  refine wpAny_bind ?_
  refine wp_if_neg (by rw [hs2]; simp) ?_
  try refine wpAny_bind (wpAny_pure ?_)
  refine wpAny_pure ?_
  dsimp only
  refine wpAny_storeSet_of ho hd ?_ (by rw [hs2, hsl, sizeLine_eq]; omega)
  have sb : Heap.SameBut a s.heap (s.heap.update a (Obj.putSet (order.filterMap (es[·]?)) t')) := Heap.SameBut.update ..
  have fl : t'.fill = L.length := by
    have h1 := T.sz
    rw [List.length_map, r2.length_eq] at h1
    unfold SetTable.fill
    rw [edm, h1]
    rfl
  refine hQ _ L2 (order.filterMap (es[·]?)) (ep + 1) t' sb ⟨⟨_, store_at ho hd, ⟨hex.1, hex.2.1, hex.2.2⟩, rfl⟩, r1, T, ?_, fun p hpm => isT_same (tup p (r2.mem_iff.mp hpm)) ho hd sb, by rw [epl]; exact pl, by rw [el]; exact ld, ?_⟩ r2 fl em edm
  · exact (r2.map (·.2)).nodup_iff.mpr nd
  · rw [fl, em]
    exact hn
def mskB (m : Nat) : Bool := Nat.beq m 7 || Nat.beq m 15 || Nat.beq m 31 || Nat.beq m 63 || Nat.beq m 127 || Nat.beq m 255 || Nat.beq m 511
theorem mskB_ok {m : Nat} (h : mskB m = true) : Msk m := by
  simp only [mskB, Bool.or_eq_true, Nat.beq_eq] at h
  unfold Msk
  omega
theorem grown_all : ((List.range 128).all fun n => mskB (SetTable.sizeAbove (SetTable.grown n) - 1) && Nat.ble (n * 5 + 1) ((SetTable.sizeAbove (SetTable.grown n) - 1) * 3)) = true := by decide +kernel
theorem grown_ok {n : Nat} (h : n < 128) : Msk (SetTable.sizeAbove (SetTable.grown n) - 1) ∧ n * 5 < (SetTable.sizeAbove (SetTable.grown n) - 1) * 3 := by
  have q := List.all_eq_true.mp grown_all n (List.mem_range.mpr h)
  rw [Bool.and_eq_true] at q
  exact ⟨mskB_ok q.1, Nat.le_of_ble_eq_true q.2⟩
theorem room_all : ((List.range 100).all fun n => Nat.ble n 4 || mskB (SetTable.sizeAbove (n * 2) - 1) && Nat.ble (n * 5 + 1) ((SetTable.sizeAbove (n * 2) - 1) * 3)) = true := by decide +kernel
theorem room_ok {n : Nat} (h : n < 100) (h5 : 5 ≤ n) : Msk (SetTable.sizeAbove (n * 2) - 1) ∧ n * 5 < (SetTable.sizeAbove (n * 2) - 1) * 3 := by
  have q := List.all_eq_true.mp room_all n (List.mem_range.mpr h)
  rw [Bool.or_eq_true, Bool.and_eq_true] at q
  rcases q with q | q
  · have := Nat.le_of_ble_eq_true q; omega
  · exact ⟨mskB_ok q.1, Nat.le_of_ble_eq_true q.2⟩
theorem add_d (R : SetD P w s.heap a L es ep t) {x : Addr} {k : List Int} (hx : IsT P w s.heap k x) (hu : A.units < cLine) (hfew : t.fill < 127) {Q : Bool → Shared → Prop}
    (hQ : ∀ b h' L' es' ep' t', Heap.SameBut a s.heap h' → SetD P w h' a L' es' ep' t' → t'.fill ≤ t.fill + 1 → (k ∈ L.map (·.2) → L' = L) → (k ∉ L.map (·.2) → L'.Perm ((x, k) :: L)) → Q b { s with heap := h' }) :
    wpAny (model P w) A (setAddHashed a (.ref x) (thash P w k)) Q E s := by
  obtain ⟨o, ho, hex, hd⟩ := R.ob
  have hsl := rows_size R.rows
  have hlen := R.len
  unfold setAddHashed
  refine wpAny_holding ?_
  rw [show (100000 : Nat) = 99999 + 1 from rfl, setAddHashedIn_succ]
  refine wpAny_bind (wpAny_setState_of ho hd R.fits ?_)
  dsimp only
  refine wp_if_neg (by simp [byScan, Value.scannable]) ?_
  try refine wpAny_bind (wpAny_pure ?_)
  refine wpAny_bind (search_d R hx hu true (fun i p hp hk => ?_) fun hm c wd hK hb hwd => ?_)
  · simp only [if_true]
    exact wpAny_pure (hQ false s.heap L es ep t (Heap.SameBut.refl a s.heap) R (Nat.le_succ _) (fun _ => rfl) fun z => absurd (List.mem_map.mpr ⟨p, List.mem_of_getElem? hp, hk⟩) z)
  · dsimp only
    refine wpAny_bind (wpAny_setState_of ho hd R.fits ?_)
    dsimp only
    generalize hpt : t.put (way t.mask (thash P w k) c) = pt
    obtain ⟨t1, p⟩ := pt
    obtain ⟨q2, q3, q4, q5, q6, q7, q8⟩ := R.tab.put rfl hK hb hpt
    dsimp only
    have hp1 : t1.plain = true := by rw [q6]; exact R.plain
    first
      | (refine wpAny_bind ?_; refine wp_if_pos hp1 ?_; refine hashBy_tup hx ?_)
      | refine wp_if_pos hp1 (wpAny_bind (hashBy_tup hx ?_))
    simp only [if_true]
    have hin : (SetTable.insertAt es p (thash P w k, Value.ref x)).toList = rowsOf P w (L.take p ++ (x, k) :: L.drop p) := by
      rw [SetTable.toList_insertAt, rows_put, R.rows]
    have pm := put_perm L p (x, k)
    have hhs : (L.map fun p => thash P w p.2).take p ++ thash P w k :: (L.map fun p => thash P w p.2).drop p = (L.take p ++ (x, k) :: L.drop p).map (fun p => thash P w p.2) := by
      rw [List.map_append, List.map_cons, List.map_take, List.map_drop]
    rw [hhs] at q3
    generalize L.take p ++ (x, k) :: L.drop p = L1 at pm q3 hin
    generalize SetTable.insertAt es p (thash P w k, Value.ref x) = es1 at hin ⊢
    have hl1 : L1.length = L.length + 1 := pm.length_eq
    have hes : es1.size = L.length + 1 := (rows_size hin).trans hl1
    have nd1 : (L1.map (·.2)).Nodup := (pm.map (·.2)).nodup_iff.mpr (by rw [List.map_cons]; exact List.nodup_cons.mpr ⟨hm, R.nd⟩)
    refine wpAny_bind (wpAny_storeSet_of ho hd ?_ (by rw [hes, sizeLine_eq]; omega))
    have sb : Heap.SameBut a s.heap (s.heap.update a (Obj.putSet es1 t1)) := Heap.SameBut.update ..
    have ho1 := store_at (es' := es1) (t' := t1) ho hd
    generalize s.heap.update a (Obj.putSet es1 t1) = h1 at sb ho1 ⊢
    have tup1 : ∀ p ∈ L1, IsT P w h1 p.2 p.1 := fun p hp => by
      rcases List.mem_cons.mp (pm.mem_iff.mp hp) with e | hp
      · rw [e]; exact isT_same hx ho hd sb
      · exact isT_same (R.tup p hp) ho hd sb
    have ld1 : w.params.followText "set-order" = true ∨ t1.led = true := by rw [q5]; exact R.led
    have hroom := R.room
    by_cases hf : (!wd && t1.tooFull) = true
    · first
        | (refine wpAny_bind ?_; refine wp_if_pos hf ?_)
        | (refine wp_if_pos hf ?_; refine wpAny_bind ?_)
      rw [hsl]
      obtain ⟨g1, g2⟩ := grown_ok (n := L.length + 1) (by omega)
      have hm511 := R.tab.mok.le
      have fits1 : t1.fits es1.size = true := by
        have h1 := q3.sz
        rw [List.length_map, hl1] at h1
        unfold SetTable.fits
        rw [Bool.and_eq_true, beq_iff_eq, decide_eq_true_eq, h1, hes]
        refine ⟨rfl, ?_⟩
        rw [q4]
        have := R.tab.mok
        unfold Msk at this
        omega
      refine relay_d (s := { s with heap := h1 }) ho1 ⟨hex.1, hex.2.1, hex.2.2⟩ rfl hin fits1 nd1 tup1 hp1 ld1 rfl g1 (by rw [hl1]; exact g2) fun h2 L2 es2 ep2 t2 sb2 R2 pm2 fl2 _ _ => ?_
      exact wpAny_pure (hQ true h2 L2 es2 ep2 t2 (sb.trans sb2) R2 (by rw [fl2, hl1]; omega) (fun z => absurd z hm) fun _ => pm2.trans pm)
    · first
        | refine wp_if_neg hf ?_
        | (refine wpAny_bind ?_; refine wp_if_neg hf ?_; refine wpAny_pure ?_)
      refine wpAny_pure (hQ true h1 L1 es1 (ep + 1) t1 sb ⟨⟨_, ho1, ⟨hex.1, hex.2.1, hex.2.2⟩, rfl⟩, hin, q3, nd1, tup1, hp1, ld1, ?_⟩ q7 (fun z => absurd z hm) fun _ => pm)
      cases wd with
      | true => rw [q8 (hwd rfl), q4]; exact hroom
      | false =>
        have h := hf
        unfold SetTable.tooFull at h
        simp only [Bool.not_false, Bool.true_and, decide_eq_true_eq] at h
        omega
theorem setFindIn_succ (a : Addr) (x : Value) (h : Int) (fuel : Nat) : setFindIn a x h (fuel + 1) = (do
    let (es, _, _) ← setState a
    if byScan x es then
      rule "set.find.by-scan"
      match ← setScan a x h false es with
      | .found i => return some i
      | .absent => return none
      | .anew => return ← setFindIn a x h fuel
    match ← setSearch a x h with
    | .there i => return i
    | .free .. => return none) := by rfl
theorem find_d (R : SetD P w s.heap a L es ep t) {x : Addr} {k : List Int} (hx : IsT P w s.heap k x) (hu : A.units < cLine) {Q : Option Nat → Shared → Prop}
    (hin : ∀ i p, L[i]? = some p → p.2 = k → Q (some i) s) (hout : k ∉ L.map (·.2) → Q none s) : wpAny (model P w) A (setFind a (.ref x) (thash P w k)) Q E s := by
  obtain ⟨o, ho, hex, hd⟩ := R.ob
  unfold setFind
  rw [show (100000 : Nat) = 99999 + 1 from rfl, setFindIn_succ]
  refine wpAny_bind (wpAny_setState_of ho hd R.fits ?_)
  dsimp only
  refine wp_if_neg (by simp [byScan, Value.scannable]) ?_
  try refine wpAny_bind (wpAny_pure ?_)
  refine wpAny_bind (search_d R hx hu false (fun i p hp hk => ?_) fun hm c wd hK hb hwd => ?_)
  · exact wpAny_pure (hin i p hp hk)
  · exact wpAny_pure (hout hm)
theorem map_erase {α β : Type} (f : α → β) : ∀ (l : List α) (i : Nat), (l.map f).eraseIdx i = (l.eraseIdx i).map f
  | [], _ => rfl
  | _ :: _, 0 => rfl
  | x :: l, i + 1 => congrArg (f x :: ·) (map_erase f l i)
theorem erase_rows (h : es.toList = rowsOf P w L) (i : Nat) : (SetTable.eraseAt es i).toList = rowsOf P w (L.eraseIdx i) := by
  rw [toList_erase, h]
  unfold rowsOf
  rw [map_erase]
theorem discard_d (R : SetD P w s.heap a L es ep t) {x : Addr} {k : List Int} (hx : IsT P w s.heap k x) (hu : A.units < cLine) {Q : Bool → Shared → Prop}
    (hin : ∀ i h' es' ep' t', k ∈ L.map (·.2) → L[i]?.map (·.2) = some k → Heap.SameBut a s.heap h' → SetD P w h' a (L.eraseIdx i) es' ep' t' → t'.fill = t.fill → Q true { s with heap := h' }) (hout : k ∉ L.map (·.2) → Q false s) :
    wpAny (model P w) A (setDiscardHashed a (.ref x) (thash P w k)) Q E s := by
  obtain ⟨o, ho, hex, hd⟩ := R.ob
  have hlen := R.len
  have hroom := R.room
  unfold setDiscardHashed
  refine wpAny_bind (find_d R hx hu (fun i p hp hk => ?_) fun hm => wpAny_pure (hout hm))
  dsimp only
  refine wpAny_bind (wpAny_setState_of ho hd R.fits ?_)
  dsimp only
  have hil := (List.getElem?_eq_some_iff.mp hp).1
  obtain ⟨T, e1, e2, e3, e4⟩ := R.tab.drop (i := i) (by rw [List.length_map]; exact hil)
  have hr := erase_rows R.rows i
  have hz := rows_size hr
  have hle : (L.eraseIdx i).length ≤ L.length := by rw [List.length_eraseIdx_of_lt hil]; omega
  have hm511 := R.tab.mok.le
  refine wpAny_bind (wpAny_storeSet_of ho hd ?_ (by rw [hz, sizeLine_eq]; omega))
  refine wpAny_bind (wpAny_point ?_)
  have sb : Heap.SameBut a s.heap (s.heap.update a (Obj.putSet (SetTable.eraseAt es i) (t.drop i))) := Heap.SameBut.update ..
  refine wpAny_pure (hin i _ (SetTable.eraseAt es i) (ep + 1) (t.drop i) (List.mem_map.mpr ⟨p, List.mem_of_getElem? hp, hk⟩) (by rw [hp, ← hk]; rfl) sb
    ⟨⟨_, store_at ho hd, ⟨hex.1, hex.2.1, hex.2.2⟩, rfl⟩, hr, ?_, ?_, fun q hq => isT_same (R.tup q (List.mem_of_mem_eraseIdx hq)) ho hd sb, by rw [e3]; exact R.plain, by rw [e2]; exact R.led, by rw [e4, e1]; exact hroom⟩ e4)
  · rw [map_erase] at T; exact T
  · rw [← map_erase]; exact List.Pairwise.sublist (List.eraseIdx_sublist _ _) R.nd
end
end TD
namespace TD
open PySem PySem.Spec PyProof.Rows L2
theorem tab_of {t : SetTable} {hs : List Int} (T : TabOk t hs) : Tab t hs where
  ris := T.ris
  rid := by rw [T.dm]; exact .nil
  dis := fun j hj => by rw [T.dm] at hj; cases hj
  sz := T.sz
  mok := by rcases T.mok with e | e | e <;> (rw [e]; unfold Msk; decide)
  reach := fun i h j h1 h2 => by
    obtain ⟨k, e, z⟩ := T.reach i h j h1 h2
    exact ⟨k, e, fun k' hk' => .inl (z k' hk')⟩
theorem Tab.as {t t' : SetTable} {hs : List Int} (T : Tab t hs) (e1 : t'.place = t.place) (e2 : t'.dummies = t.dummies) (e3 : t'.mask = t.mask) : Tab t' hs where
  ris := by rw [e1]; exact T.ris
  rid := by rw [e2]; exact T.rid
  dis := by rw [e1, e2]; exact T.dis
  sz := by rw [e1]; exact T.sz
  mok := by rw [e3]; exact T.mok
  reach := fun i h j h1 h2 => by
    rw [e1] at h2
    rw [e3]
    obtain ⟨k, e, z⟩ := T.reach i h j h1 h2
    refine ⟨k, e, fun k' hk' => ?_⟩
    unfold occ
    rw [e1, e2]
    exact z k' hk'
section
variable {P : Program} {w : World} {A : Around} {E : Value → Shared → Prop} {s : Shared} {a : Addr} {L : List (Addr × List Int)} {es : Array (Int × Value)} {ep : Nat} {t : SetTable}
theorem setD_of {h : Heap} (R : SetTR P w h a L es ep t) : SetD P w h a L es ep t where
  ob := R.ob
  rows := R.rows
  tab := tab_of R.tab
  nd := R.nd
  tup := R.tup
  plain := R.plain
  led := R.led
  room := by
    have h := R.room
    have h2 := R.tab.sz
    rw [List.length_map] at h2
    unfold SetTable.fill
    rw [R.tab.dm, h2]
    exact h
theorem SetD.typeIs (R : SetD P w s.heap a L es ep t) : s.TypeIs (.ref a) "set" := by
  obtain ⟨o, ho, hex, _⟩ := R.ob
  exact ⟨o, ho, hex.1⟩
theorem SetD.to {h h' : Heap} (R : SetD P w h a L es ep t) (ha : ∀ o, h.get? a = some o → h'.get? a = some o) (ht : ∀ p ∈ L, IsT P w h' p.2 p.1) : SetD P w h' a L es ep t := by
  obtain ⟨o, ho, r⟩ := R.ob
  exact ⟨⟨o, ha o ho, r⟩, R.rows, R.tab, R.nd, ht, R.plain, R.led, R.room⟩
theorem anySet_at {v : Value} (h : s.TypeIs v "set") {Q : Bool → Shared → Prop} (q : Q true s) : wpAny (model P w) A (Builtin.Frozenset.isAnySet v) Q E s := by
  unfold Builtin.Frozenset.isAnySet orM
  refine wpAny_bind (wpAny_isInstance h F.sub_set_set ?_)
  exact wpAny_pure q
theorem walk_d (R : SetD P w s.heap a L es ep t) (others : List Addr) (f : Option Addr) {Q : Array (Int × Value) → Shared → Prop} (hQ : ∀ es', es'.toList.Perm es.toList → Q es' s) :
    wpAny (model P w) A (setWalkUnseen a others f) Q E s := by
  obtain ⟨o, ho, hex, hd⟩ := R.ob
  have walk : wpAny (model P w) A (setWalk a) Q E s := by
    unfold setWalk
    refine wpAny_bind (wpAny_setState_of ho hd R.fits ?_)
    dsimp only
    refine wpAny_bind (wpAny_byText ?_)
    cases hb : w.params.followText "set-order" with
    | true =>
      refine wp_if_pos rfl ?_
      exact wpAny_bind (wpAny_askSetting (wpAny_pure (hQ _ (pick_perm _ _))))
    | false =>
      refine wp_if_neg (by simp) ?_
      try refine wpAny_bind (wpAny_pure ?_)
      have hl : t.led = true := R.led.resolve_left (by rw [hb]; exact Bool.false_ne_true)
      refine wp_if_neg (by show ¬ ((!t.plain && decide (es.size > 1)) = true); rw [R.plain]; simp) ?_
      try refine wpAny_bind (wpAny_pure ?_)
      refine wpAny_bind (wpAny_of_eq (a := ()) ?_ ?_)
      · show (if (!t.led && decide (es.size > 1)) = true then unsupported "set:maker-not-led" else pure ()) = pure ()
        rw [hl]; rfl
      · exact wpAny_pure (hQ _ (List.Perm.refl _))
  unfold setWalkUnseen
  refine wpAny_bind (wpAny_setState_of ho hd R.fits ?_)
  dsimp only
  refine wpAny_bind (wpAny_byText ?_)
  refine wp_if_pos ?_ ?_
  · rcases R.led with h | h
    · simp [h]
    · simp [h, R.plain]
  · exact walk
theorem epoch_d (R : SetD P w s.heap a L es ep t) {Q : Nat → Shared → Prop} (q : Q ep s) : wpAny (model P w) A (setEpoch a) Q E s := by
  obtain ⟨o, ho, hex, hd⟩ := R.ob
  exact wpAny_setEpoch_of ho hd R.fits q
theorem flip_d (R : SetD P w s.heap a L es ep t) {x : Addr} {k : List Int} (hx : IsT P w s.heap k x) (hu : A.units < cLine) (hfew : t.fill < 127) {Q : Unit → Shared → Prop}
    (hQ : ∀ h' L' es' ep' t', Heap.SameBut a s.heap h' → SetD P w h' a L' es' ep' t' → t'.fill ≤ t.fill + 1 → (∀ k', k' ∈ L'.map (·.2) ↔ if k' = k then k ∉ L.map (·.2) else k' ∈ L.map (·.2)) → (∀ p ∈ L', p = (x, k) ∨ p ∈ L) → Q () { s with heap := h' }) :
    wpAny (model P w) A (holding [Value.ref x] (do if !(← setDiscardHashed a (.ref x) (thash P w k)) then let _ ← setAddHashed a (.ref x) (thash P w k))) Q E s := by
  refine wpAny_holding ?_
  refine wpAny_bind (discard_d R hx hu (fun i h' es' ep' t' hm hi sb R' fl => ?_) fun hm => ?_)
  · refine wp_if_neg (by simp) ?_
    refine wpAny_pure (hQ h' (L.eraseIdx i) es' ep' t' sb R' (by omega) (fun k' => ?_) fun p hp => .inr (List.mem_of_mem_eraseIdx hp))
    have hi2 : (L.map (·.2))[i]? = some k := by rw [List.getElem?_map]; exact hi
    have er : ((L.eraseIdx i).map (·.2)) = (L.map (·.2)).eraseIdx i := (map_erase _ _ _).symm
    rw [er, mem_eraseIdx_nd R.nd hi2]
    by_cases c : k' = k
    · subst c; rw [if_pos rfl]; exact ⟨fun q => absurd rfl q.2, fun q => absurd hm q⟩
    · rw [if_neg c]; exact ⟨fun q => q.1, fun q => ⟨q, c⟩⟩
  · refine wp_if_pos (by simp) ?_
    refine wpAny_bind (add_d R hx hu hfew fun b h' L' es' ep' t' sb R' fl c1 c2 => ?_)
    have pm := c2 hm
    refine wpAny_pure (hQ h' L' es' ep' t' sb R' fl (fun k' => ?_) fun p hp => List.mem_cons.mp (pm.mem_iff.mp hp))
    rw [(pm.map (·.2)).mem_iff, List.map_cons, List.mem_cons]
    by_cases c : k' = k
    · subst c; rw [if_pos rfl]; exact ⟨fun _ => hm, fun _ => .inl rfl⟩
    · rw [if_neg c]; exact ⟨fun q => q.resolve_left c, .inr⟩
theorem copy_d {b : Addr} (R : SetD P w s.heap b L es ep t) (h100 : L.length < 100) (id : String) {Q : Value → Shared → Prop}
    (hQ : ∀ h' L' es' ep' t', (∀ c o, s.heap.get? c = some o → h'.get? c = some o) → SetD P w h' s.heap.objs.size L' es' ep' t' → L'.Perm L → t'.fill = L.length → Q (.ref s.heap.objs.size) { s with heap := h' }) :
    wpAny (model P w) A (Builtin.Frozenset.newFrom id (.type "set") (.ref b)) Q E s := by
  obtain ⟨o, ho, hex, hd⟩ := R.ob
  have hlt := Heap.lt_size ho
  have hne : s.heap.objs.size ≠ b := Nat.ne_of_gt hlt
  have hsl := rows_size R.rows
  unfold Builtin.Frozenset.newFrom
  unfold newSet
  refine wpAny_bind ?_
  refine wpAny_bind (wpAny_byText ?_)
  refine wpAny_newObj_type ?_
  generalize hh1 : s.heap.push { cls := .type "set", dict := none, data := .set #[] 0 (.fresh 0 0 (!w.params.followText "set-order")) } = h1
  have hS : h1.get? s.heap.objs.size = some { cls := .type "set", dict := none, data := .set #[] 0 (.fresh 0 0 (!w.params.followText "set-order")) } := by rw [← hh1]; exact Heap.get?_push_size _ rfl
  have keep1 : ∀ c o, s.heap.get? c = some o → h1.get? c = some o := fun c o e => by rw [← hh1]; exact Heap.get?_push_of_some _ e
  have tupK : ∀ {h' : Heap}, (∀ c o, s.heap.get? c = some o → h'.get? c = some o) → ∀ p ∈ L, IsT P w h' p.2 p.1 := fun k p hp => isT_keep (R.tup p hp) k
  have keepS : ∀ {h2 h3 : Heap}, Heap.SameBut s.heap.objs.size h2 h3 → (∀ c o, s.heap.get? c = some o → h2.get? c = some o) → ∀ c o, s.heap.get? c = some o → h3.get? c = some o := fun sb k c o e => (sb.2 c (Nat.ne_of_lt (Heap.lt_size e))).trans (k c o e)
  have fresh0 : SetD P w h1 s.heap.objs.size [] #[] 0 (.fresh 0 0 (!w.params.followText "set-order")) := setD_of (setTR_fresh hS)
  have goal : ∀ (h' : Heap) (L' : List (Addr × List Int)) (es' : Array (Int × Value)) (ep' : Nat) (t' : SetTable), (∀ c o, s.heap.get? c = some o → h'.get? c = some o) → SetD P w h' s.heap.objs.size L' es' ep' t' → L'.Perm L → t'.fill = L.length → Q (.ref s.heap.objs.size) { s with heap := h' } := hQ
  show wpAny (model P w) A (holding [Value.ref s.heap.objs.size] (Builtin.Frozenset.updateFrom id s.heap.objs.size (.ref b)) >>= fun _ => pure (Value.ref s.heap.objs.size)) Q E { s with heap := h1 }
  refine wpAny_bind (wpAny_holding ?_)
  have R1 : SetD P w h1 b L es ep t := R.to (fun o e => keep1 b o e) (tupK keep1)
  unfold Builtin.Frozenset.updateFrom
  refine wpAny_bind (anySet_at (s := { s with heap := h1 }) (SetD.typeIs (s := { s with heap := h1 }) R1) ?_)
  refine wp_if_pos rfl ?_
  show wpAny (model P w) A (Builtin.Frozenset.merge id s.heap.objs.size b) _ E { s with heap := h1 }
  unfold Builtin.Frozenset.merge
  refine wpAny_bind (epoch_d (s := { s with heap := h1 }) R1 ?_)
  unfold setMerge
  refine wp_if_neg (by simp [hne]) ?_
  try refine wpAny_bind (wpAny_pure ?_)
  obtain ⟨o1, ho1, hex1, hd1⟩ := R1.ob
  refine wpAny_bind (wpAny_setState_of (s := { s with heap := h1 }) ho1 hd1 (SetD.fits (s := { s with heap := h1 }) R1) ?_)
  dsimp only
  by_cases he : es.isEmpty = true
  · refine wp_if_pos he ?_
    have hL : L = [] := List.length_eq_zero_iff.mp (by rw [← hsl]; simpa using he)
    refine wpAny_pure (wpAny_pure (goal h1 [] #[] 0 _ keep1 fresh0 (by rw [hL]) (by rw [hL]; rfl)))
  · refine wp_if_neg he ?_
    try refine wpAny_bind (wpAny_pure ?_)
    have hpos : 0 < L.length := by
      rcases Nat.eq_zero_or_pos L.length with z | z
      · exact absurd (by simp [Array.isEmpty, hsl, z]) he
      · exact z
    
    have go : ∀ (h2 : Heap) (ep2 : Nat) (t2 : SetTable), (∀ c o, s.heap.get? c = some o → h2.get? c = some o) → SetD P w h2 s.heap.objs.size [] #[] ep2 t2 → t2.fill = 0 → L.length * 5 < t2.mask * 3 →
        wpAny (model P w) A (setState s.heap.objs.size >>= fun __discr => match __discr with | (_, _, ts) => match ts.road t with
          | .slotForSlot => storeSet s.heap.objs.size es { t with finger := ts.finger, led := ts.led && t.led, moves := ts.moves, plain := ts.plain && t.plain }
          | .clean => (do
              let (es, t) ← (do
                let some (t, order) := SetTable.laid ts.mask ts.finger ts.moves (led := ts.led && t.led) (plain := ts.plain && t.plain) (es.map (·.1)) | unsupported "internal:set-table-without-room"
                let es' := order.filterMap (es[·]?)
                if es'.size != es.size then unsupported "internal:set-table-lost-an-element"
                pure (es', t) : Sem (Array (Int × Value) × SetTable))
              storeSet s.heap.objs.size es t)
          | .oneByOne => (do
              for (h, x) in ← setWalkUnseen b [s.heap.objs.size] (some s.heap.objs.size) do
                let _ ← holding [x] (setAddHashed s.heap.objs.size x h)
                Builtin.Frozenset.unchanged id b ep
                if (← setState b).2.1 != ep then unsupported "set.changed-during-merge"))
          (fun _ s' => wpAny (model P w) A (pure (Value.ref s.heap.objs.size)) Q E s') E { s with heap := h2 } := fun h2 ep2 t2 k2 R2 f2 m2 => by
      obtain ⟨o2, ho2, hex2, hd2⟩ := R2.ob
      refine wpAny_bind (wpAny_setState_of (s := { s with heap := h2 }) ho2 hd2 (SetD.fits (s := { s with heap := h2 }) R2) ?_)
      dsimp only
      have led2 : w.params.followText "set-order" = true ∨ (t2.led && t.led) = true := by
        rcases R2.led with h | h
        · exact .inl h
        · rcases R.led with h' | h'
          · exact .inl h'
          · exact .inr (by rw [h, h']; rfl)
      have plain2 : (t2.plain && t.plain) = true := by rw [R2.plain, R.plain]; rfl
      by_cases hr : (t2.mask == t.mask && t.dummies.isEmpty) = true
      · have er : t2.road t = .slotForSlot := by unfold SetTable.road; rw [f2, hr]; rfl
        rw [er]
        dsimp only
        rw [Bool.and_eq_true, beq_iff_eq] at hr
        have hm511 := R.tab.mok.le
        have hroom := R.room
        have hlen := R.len
        refine wpAny_storeSet_of (s := { s with heap := h2 }) ho2 hd2 ?_ (by rw [hsl, sizeLine_eq]; omega)
        have sb : Heap.SameBut s.heap.objs.size h2 (h2.update s.heap.objs.size (Obj.putSet es { t with finger := t2.finger, led := t2.led && t.led, moves := t2.moves, plain := t2.plain && t.plain })) := Heap.SameBut.update ..
        have k3 := keepS sb k2
        refine wpAny_pure (goal _ L es (ep2 + 1) _ k3 ⟨⟨_, store_at ho2 hd2, ⟨hex2.1, hex2.2.1, hex2.2.2⟩, rfl⟩, R.rows, R.tab.as rfl rfl rfl, R.nd, tupK k3, plain2, led2, hroom⟩ (List.Perm.refl _) ?_)
        show t.place.size + t.dummies.size = L.length
        have hz : t.dummies.size = 0 := by simpa [Array.isEmpty] using hr.2
        have hq := SetD.psz R; omega
      · have er : t2.road t = .clean := by unfold SetTable.road; rw [f2]; simp only [bne_self_eq_false, Bool.false_eq_true, if_false]; rw [if_neg hr]
        rw [er]
        dsimp only
        have hm511 := R2.tab.mok.le
        obtain ⟨t', order, e, hp, T, em, el, epl, edm⟩ := laid_ok R2.tab.mok t2.finger t2.moves (t2.led && t.led) (t2.plain && t.plain) (hs := es.map (·.1)) (by rw [Array.size_map, hsl]; omega)
        rw [Array.size_map, hsl] at hp
        obtain ⟨L2, r1, r2, r3⟩ := order_rows L es order R.rows hp
        rw [← r3] at T
        have hs2 : (order.filterMap (es[·]?)).size = es.size := by rw [rows_size r1, r2.length_eq, hsl]
        rw [e]
        dsimp only
        refine wpAny_bind ?_
        refine wp_if_neg (by rw [hs2]; simp) ?_
        try refine wpAny_bind (wpAny_pure ?_)
        refine wpAny_pure ?_
        dsimp only
        refine wpAny_storeSet_of (s := { s with heap := h2 }) ho2 hd2 ?_ (by rw [hs2, hsl, sizeLine_eq]; omega)
        have sb : Heap.SameBut s.heap.objs.size h2 (h2.update s.heap.objs.size (Obj.putSet (order.filterMap (es[·]?)) t')) := Heap.SameBut.update ..
        have k3 := keepS sb k2
        have fl : t'.fill = L.length := by
          have h1 := T.sz
          rw [List.length_map, r2.length_eq] at h1
          unfold SetTable.fill
          rw [edm, h1]
          rfl
        refine wpAny_pure (goal _ L2 _ (ep2 + 1) t' k3 ⟨⟨_, store_at ho2 hd2, ⟨hex2.1, hex2.2.1, hex2.2.2⟩, rfl⟩, r1, T, ?_, fun p hpm => tupK k3 p (r2.mem_iff.mp hpm), by rw [epl]; exact plain2, by rw [el]; exact led2, by rw [fl, em]; exact m2⟩ r2 fl)
        exact (r2.map (·.2)).nodup_iff.mpr R.nd
    obtain ⟨o2, ho2, hex2, hd2⟩ := fresh0.ob
    refine wpAny_bind ?_
    unfold setRoomFor
    refine wpAny_bind (wpAny_setState_of (s := { s with heap := h1 }) ho2 hd2 (SetD.fits (s := { s with heap := h1 }) fresh0) ?_)
    dsimp only
    by_cases h5 : 5 ≤ L.length
    · have er : (SetTable.fresh 0 0 (!w.params.followText "set-order")).roomFor es.size = some (L.length * 2) := by
        unfold SetTable.roomFor
        rw [hsl]
        show (if (0 + 0 + L.length) * 5 ≥ 7 * 3 then some ((0 + L.length) * 2) else none) = _
        rw [if_pos (by omega), Nat.zero_add]
      rw [er]
      dsimp only
      obtain ⟨g1, g2⟩ := room_ok h100 h5
      refine relay_d (s := { s with heap := h1 }) ho2 hex2 hd2 fresh0.rows (SetD.fits (s := { s with heap := h1 }) fresh0) fresh0.nd fresh0.tup fresh0.plain fresh0.led rfl g1 (by have := g2; simp only [List.length_nil]; omega) fun h2 L2 es2 ep2 t2 sb2 R2 pm2 fl2 em2 _ => ?_
      have hL2 : L2 = [] := List.Perm.eq_nil pm2
      subst hL2
      have hes2 : es2 = #[] := by
        have h := rows_size R2.rows
        exact Array.eq_empty_of_size_eq_zero h
      subst hes2
      exact go h2 ep2 t2 (keepS sb2 keep1) R2 fl2 (by rw [em2]; exact g2)
    · have er : (SetTable.fresh 0 0 (!w.params.followText "set-order")).roomFor es.size = none := by
        unfold SetTable.roomFor
        rw [hsl]
        show (if (0 + 0 + L.length) * 5 ≥ 7 * 3 then some ((0 + L.length) * 2) else none) = _
        rw [if_neg (by omega)]
      rw [er]
      dsimp only
      refine wpAny_pure ?_
      exact go h1 0 _ keep1 fresh0 rfl (by show L.length * 5 < 7 * 3; omega)
theorem rows_perm {L : List (Addr × List Int)} {es' : List (Int × Value)} (h : es'.Perm (rowsOf P w L)) : ∃ L', es' = rowsOf P w L' ∧ L'.Perm L := by
  induction L generalizing es' with
  | nil => exact ⟨[], List.Perm.eq_nil h, List.Perm.refl _⟩
  | cons p L ih =>
    have hm : (thash P w p.2, Value.ref p.1) ∈ es' := h.mem_iff.mpr List.mem_cons_self
    obtain ⟨u, v, e⟩ := List.append_of_mem hm
    subst e
    have q : (u ++ v).Perm (rowsOf P w L) := List.Perm.cons_inv (List.perm_middle.symm.trans h)
    obtain ⟨L', e2, pm⟩ := ih q
    refine ⟨L'.take u.length ++ p :: L'.drop u.length, ?_, (put_perm L' u.length p).trans (pm.cons p)⟩
    have e3 := rows_put (P := P) (w := w) L' u.length p.1 p.2
    rw [show ((p.1, p.2) : Addr × List Int) = p from rfl] at e3
    rw [e3, ← e2, List.take_left', List.drop_left'] <;> rfl
structure Xor (La Lb L : List (Addr × List Int)) : Prop where
  nd : (L.map (·.2)).Nodup
  keys : ∀ k, k ∈ L.map (·.2) ↔ ¬ (k ∈ La.map (·.2) ↔ k ∈ Lb.map (·.2))
  sub : ∀ p ∈ L, p ∈ La ∨ p ∈ Lb
theorem symdiff_d {b : Addr} {La : List (Addr × List Int)} {esa : Array (Int × Value)} {epa : Nat} {ta : SetTable} (Ra : SetD P w s.heap a La esa epa ta) (Rb : SetD P w s.heap b L es ep t) (h120 : La.length + L.length < 100) (hu : A.units < cLine) (id : String) {Q : Value → Shared → Prop}
    (hQ : ∀ h' L' es' ep' t', (∀ c o, s.heap.get? c = some o → h'.get? c = some o) → SetD P w h' s.heap.objs.size L' es' ep' t' → Xor La L L' → Q (.ref s.heap.objs.size) { s with heap := h' }) :
    wpAny (model P w) A (Builtin.Frozenset.newFrom id (.type "set") (.ref b) >>= fun result => Builtin.Frozenset.addrOf result >>= fun r => holding [result] (Builtin.Frozenset.symmetricDifferenceUpdate id r (.ref a)) >>= fun _ => pure result) Q E s := by
  refine wpAny_bind (copy_d Rb (by omega) id fun h1 L1 es1 ep1 t1 k1 R1 pm1 fl1 => ?_)
  refine wpAny_bind (m := Builtin.Frozenset.addrOf _) (wpAny_pure ?_)
  refine wpAny_bind (wpAny_holding ?_)
  show wpAny (model P w) A (Builtin.Frozenset.symmetricDifferenceUpdate id s.heap.objs.size (.ref a)) _ E { s with heap := h1 }
  obtain ⟨oa, hoa, hexa, hda⟩ := Ra.ob
  have hlt := Heap.lt_size hoa
  have hne : a ≠ s.heap.objs.size := Nat.ne_of_lt hlt
  have Ra1 : SetD P w h1 a La esa epa ta := Ra.to (fun o e => k1 a o e) fun p hp => isT_keep (Ra.tup p hp) k1
  unfold Builtin.Frozenset.symmetricDifferenceUpdate
  refine wp_if_neg (by simp [hne]) ?_
  try refine wpAny_bind (wpAny_pure ?_)
  refine wpAny_bind (wpAny_typeOf (SetD.typeIs (s := { s with heap := h1 }) Ra1) ?_)
  refine wp_if_neg (by decide) ?_
  try refine wpAny_bind (wpAny_pure ?_)
  refine wpAny_bind (anySet_at (s := { s with heap := h1 }) (SetD.typeIs (s := { s with heap := h1 }) Ra1) ?_)
  first
    | (refine wpAny_bind ?_; refine wp_if_pos rfl ?_; refine wpAny_pure ?_)
    | refine wp_if_pos rfl (wpAny_bind (wpAny_pure ?_))
  show wpAny (model P w) A (setEpoch a >>= _) _ E { s with heap := h1 }
  refine wpAny_bind (epoch_d (s := { s with heap := h1 }) Ra1 ?_)
  refine wpAny_holding ?_
  refine wpAny_bind (walk_d (s := { s with heap := h1 }) Ra1 _ _ fun esw pmw => ?_)
  rw [Ra.rows] at pmw
  obtain ⟨Lw, ew, pmw⟩ := rows_perm pmw
  rw [← Array.forIn_toList, ew]
  have ndw : (Lw.map (·.2)).Nodup := (pmw.map (·.2)).nodup_iff.mpr Ra.nd
  first
    | refine wpAny_bind ?_
    | skip
  refine wpAny_forIn_list _ (fun rest _ s' => ∃ Lr h' L' es' ep' t', rest = rowsOf P w Lr ∧ s' = { s with heap := h' } ∧ Heap.SameBut s.heap.objs.size h1 h' ∧ SetD P w h' s.heap.objs.size L' es' ep' t' ∧ (Lr.map (·.2)).Nodup ∧ t'.fill + Lr.length < 100 ∧
      (∀ k, (¬ (k ∈ L'.map (·.2) ↔ k ∈ Lr.map (·.2))) ↔ ¬ (k ∈ La.map (·.2) ↔ k ∈ L.map (·.2))) ∧ (∀ p ∈ L', p ∈ La ∨ p ∈ L) ∧ ∀ p ∈ Lr, p ∈ La) _ ?_ ?_ _ _
      ⟨Lw, h1, L1, es1, ep1, t1, rfl, rfl, Heap.SameBut.refl _ _, R1, ndw, by rw [fl1, pmw.length_eq]; omega, fun k => ?_, fun p hp => .inr (pm1.mem_iff.mp hp), fun p hp => pmw.mem_iff.mp hp⟩
  · rintro ⟨hx, x⟩ rest u s' ⟨Lr, h', L', es', ep', t', e1, rfl, sb, R', nd', fl', keys', sub', subr⟩
    cases Lr with
    | nil => cases e1
    | cons p Lr =>
      have e2 := List.cons.inj e1
      have e3 : hx = thash P w p.2 := congrArg Prod.fst e2.1
      have e4 : x = Value.ref p.1 := congrArg Prod.snd e2.1
      subst e3
      subst e4
      have kp : ∀ c o, s.heap.get? c = some o → h'.get? c = some o := fun c o e => (sb.2 c (Nat.ne_of_lt (Heap.lt_size e))).trans (k1 c o e)
      have hpT : IsT P w h' p.2 p.1 := isT_keep (Ra.tup p (subr p List.mem_cons_self)) kp
      simp only [List.map_cons, List.nodup_cons, List.length_cons] at nd' fl'
      refine wpAny_bind (flip_d (s := { s with heap := h' }) R' hpT hu (by omega) fun h2 L2 es2 ep2 t2 sb2 R2 fl2 keys2 sub2 => ?_)
      have kp2 : ∀ c o, s.heap.get? c = some o → h2.get? c = some o := fun c o e => (sb2.2 c (Nat.ne_of_lt (Heap.lt_size e))).trans (kp c o e)
      have Ra2 : SetD P w h2 a La esa epa ta := Ra.to (fun o e => kp2 a o e) fun p hp => isT_keep (Ra.tup p hp) kp2
      refine wpAny_bind ?_
      unfold Builtin.Frozenset.unchanged
      refine wpAny_bind (epoch_d (s := { s with heap := h2 }) Ra2 ?_)
      refine wp_if_neg (by simp) ?_
      refine wpAny_pure (wpAny_pure ⟨Lr, h2, L2, es2, ep2, t2, e2.2, rfl, sb.trans sb2, R2, nd'.2, by omega, fun k => ?_, fun q hq => ?_, fun q hq => subr q (List.mem_cons_of_mem _ hq)⟩)
      · rw [← keys' k, keys2 k, List.map_cons, List.mem_cons]
        by_cases c : k = p.2
        · subst c
          simp [nd'.1]
        · simp [c]
      · rcases sub2 q hq with z | z
        · exact .inl (by rw [z]; exact subr p List.mem_cons_self)
        · exact sub' q z
  · rintro u s' ⟨Lr, h', L', es', ep', t', e1, rfl, sb, R', nd', fl', keys', sub', subr⟩
    have hLr : Lr = [] := by
      cases Lr with
      | nil => rfl
      | cons p Lr => cases e1
    subst hLr
    have kp : ∀ c o, s.heap.get? c = some o → h'.get? c = some o := fun c o e => (sb.2 c (Nat.ne_of_lt (Heap.lt_size e))).trans (k1 c o e)
    have fin := hQ h' L' es' ep' t' kp R' ⟨R'.nd, fun k => by rw [← keys' k]; simp, sub'⟩
    first
      | exact wpAny_pure fin
      | exact wpAny_pure (wpAny_pure fin)
  · rw [(pm1.map (·.2)).mem_iff, (pmw.map (·.2)).mem_iff]
    constructor <;> (intro h q; exact h q.symm)
theorem entry_xor : entryFor table "set.__xor__" = some Builtin.«frozenset.__xor__» :=
  entryFor_alias (id' := "frozenset.__xor__") (by kernel_rfl) rfl (by decide +kernel) (by kernel_rfl)
theorem xor_d {b : Addr} {La : List (Addr × List Int)} {esa : Array (Int × Value)} {epa : Nat} {ta : SetTable} (Ra : SetD P w s.heap a La esa epa ta) (Rb : SetD P w s.heap b L es ep t) (h120 : La.length + L.length < 100) (hu : A.units + 1 < cLine) {Q : Value → Shared → Prop}
    (hQ : ∀ h' L' es' ep' t', (∀ c o, s.heap.get? c = some o → h'.get? c = some o) → SetD P w h' s.heap.objs.size L' es' ep' t' → Xor La L L' → Q (.ref s.heap.objs.size) { s with heap := h' }) :
    wpAny (model P w) A (binaryOp .BitXor (.ref a) (.ref b)) Q E s := by
  refine wpAny_binaryOp_same (op := .BitXor) (T := "set") Ra.typeIs Rb.typeIs F.fills_set_xor F.slot_set_xor (wpAny_call_entry F.slot_set_xor Ra.typeIs entry_xor ?_ (F.args_set_xor_2 _ _))
  show wpAny _ _ (Builtin.Frozenset.slot1 "__xor__" ⟨[.ref a, .ref b], []⟩ >>= _) _ _ s
  refine wpAny_bind (wpAny_of_eq (a := (Value.ref a, Value.ref b)) (by rfl) ?_)
  dsimp only
  simp only [Bool.false_eq_true, if_false]
  refine wpAny_bind ?_
  unfold andM
  refine wpAny_bind (anySet_at Ra.typeIs ?_)
  simp only [ToBool.toBool]
  refine anySet_at Rb.typeIs ?_
  refine wp_if_neg (by simp) ?_
  try refine wpAny_bind (wpAny_pure ?_)
  try refine wpAny_bind (m := Builtin.Frozenset.addrOf (.ref a)) (wpAny_pure ?_)
  refine wpAny_bind ?_
  show wpAny _ _ (Builtin.Frozenset.baseOf a >>= _) _ _ s
  unfold Builtin.Frozenset.baseOf
  refine wpAny_bind (wpAny_bind (wpAny_isInstance Ra.typeIs F.sub_set_set (wpAny_pure ?_)))
  simp only [if_true]
  refine symdiff_d (A := A.in1) Ra Rb h120 hu _ fun h' L' es' ep' t' k R x => ?_
  exact wpAny_pure ⟨_, rfl, ⟨by simp, hQ h' L' es' ep' t' k R x⟩⟩
end
end TD
namespace TD
open PySem PySem.Spec PyProof.Rows L2
section
variable {P : Program} {w : World} {A : Around} {E : Value → Shared → Prop} {s : Shared} {a : Addr} {L : List (Addr × List Int)} {es : Array (Int × Value)} {ep : Nat} {t : SetTable}
abbrev bare (w : World) : Obj := { cls := .type "set", dict := none, data := .set #[] 0 (.fresh 0 0 (!w.params.followText "set-order")) }
theorem call_tups {l : Addr} {its : Array Value} (ks : List (Addr × List Int)) {Q : Value → Shared → Prop} (hh : A.handled = none) (hl : s.heap.IsTuple l its) (hit : its.toList = ks.map fun p => Value.ref p.1)
    (hk : ∀ p ∈ ks, IsT P w s.heap p.2 p.1) (hfew : ks.length < 64) (hu : A.units + 3 < cLine)
    (h : ∀ (h' : Heap) (tk : Nat) L es ep t, SetTR P w h' s.heap.objs.size L es ep t → Got ks ks.length L → (∀ b o, s.heap.get? b = some o → h'.get? b = some o) → Q (.ref s.heap.objs.size) { s with heap := h', toks := tk }) :
    wpAny (model P w) A (call (.type "set") [.ref l]) Q E s := by
  have hisz : its.size = ks.length := by rw [← Array.length_toList, hit, List.length_map]
  have hsub := F.called_set.sub
  have hmade := F.called_set.made
  obtain ⟨c, tl, hmro⟩ := F.called_set.mro
  refine wpAny_call (codeAny_of_tree ?_)
  show wpAny _ _ (callAny (.type "set") _) _ _ _
  refine wpAny_pure ⟨Code.quiet_builtin _ (by decide +kernel), codeAny_builtin F.entry_type_call ?_⟩
  rw [Around.under_plain (weight_type_call_type "set" [.ref l] []) rfl]
  have h2 := F.called_set.canCreate
  have h1 := F.called_set.notType
  have hct := F.typeCall_set_1 (.ref l)
  repeat (any_goals (first | assumption | wp_step))
  refine codeAny_mono (code_set_led1 (.ref l) (E := E) (Q₁ := fun obj s₁ => obj = .ref s.heap.objs.size ∧ s₁ = { s with heap := s.heap.push (bare w) }) ⟨rfl, rfl⟩) fun r s₁ hr => ?_
  cases r with
  | error e => exact hr
  | ok fl =>
    cases fl with
    | ret obj =>
      obtain ⟨rfl, rfl⟩ := hr
      have hS : (s.heap.push (bare w)).get? s.heap.objs.size = some (bare w) := Heap.get?_push_size _ rfl
      have hT : Shared.TypeIs { s with heap := s.heap.push (bare w) } (.ref s.heap.objs.size) "set" := ⟨_, hS, rfl⟩
      have hbi := F.called_set.init.bind (.ref s.heap.objs.size)
      have hli := F.called_set.init.lookup
      repeat (any_goals (first | assumption | wp_step))
      refine codeAny_mono (codeAny_call_builtin (R := wants (fun r s₂ => r = .none ∧ ∃ h' tk L es ep t, s₂ = { s with heap := h', toks := tk } ∧ SetTR P w h' s.heap.objs.size L es ep t ∧ Got ks ks.length L ∧
          (∀ b o, s.heap.get? b = some o → h'.get? b = some o)) E) F.called_set.init.plain F.entry_set_init (check_set_init_1 hT ?_)) fun r₂ s₂ hr₂ => ?_
      · obtain ⟨⟨ocls, odict, odata, oslots⟩, hol, hcl, nl, hdl⟩ := hl
        simp only at hcl hdl
        subst hcl; subst hdl
        have hol' : (s.heap.push (bare w)).get? l = some { cls := .type "tuple", dict := odict, data := .seq its nl, slots := oslots } := Heap.get?_push_of_some _ hol
        have hslf := F.sub_tuple_frozenset
        have hsls := F.sub_tuple_set
        have hne : (Value.type "tuple" == Value.type "dict") = false := by decide
        have hl1 : (s.heap.push (bare w)).IsTuple l its := ⟨_, hol', rfl, nl, rfl⟩
        unfold Builtin.«set.__init__» noKeywords Builtin.Frozenset.updateFrom
        generalize hPI : pyIter = PI
        wp_walk
        subst hPI
        refine wpAny_pyIter_tuple hl1 ?_
        refine wpAny_bind (wpAny_runValue ?_)
        have hlS : l < s.heap.objs.size := Heap.lt_size hol
        have hh3 : A.in1.in1.in1.handled = none := by simp [hh]
        have hz1 : (s.heap.push (bare w)).objs.size = s.heap.objs.size + 1 := Heap.size_push ..
        have hneI : l ≠ (s.heap.push (bare w)).objs.size := by rw [hz1]; exact Nat.ne_of_lt (Nat.lt_succ_of_lt hlS)
        have hSf : s.heap.objs.size ∉ [(s.heap.push (bare w)).objs.size, l] := by
          rw [hz1]
          simp only [List.mem_cons, List.not_mem_nil, or_false, not_or]
          exact ⟨Nat.ne_of_lt (Nat.lt_succ_self _), Nat.ne_of_gt hlS⟩
        have hval : ∀ (i : Nat) (v : Value), its[i]? = some v → ∃ p, ks[i]? = some p ∧ v = .ref p.1 := fun i v hv => by
          rw [← Array.getElem?_toList, hit, List.getElem?_map] at hv
          obtain ⟨p, hp, e⟩ := Option.map_eq_some_iff.mp hv
          exact ⟨p, hp, e.symm⟩
        have none_of : ∀ b, s.heap.objs.size ≤ b → s.heap.get? b = none := fun b hb => by
          cases q : s.heap.get? b with
          | none => rfl
          | some o => exact absurd (Nat.lt_of_lt_of_le (Heap.lt_size q) hb) (Nat.lt_irrefl _)
        refine set_update_tups ((Walks.tuple hh3 _ l hneI its).toS) s.heap.objs.size
          hSf ks hisz hfew hval s.heap hk (none_of _ (Nat.le_refl _)) (fun b hb => none_of b (by
            rw [List.mem_singleton.mp hb, hz1]
            exact Nat.le_succ _)) hu (its.size - 0) 0 _ (by omega) (Nat.zero_le _)
          ⟨⟨_, Heap.get?_push_size _ rfl, rfl, rfl⟩, (hl1.push _)⟩ (fun b o e => Heap.get?_push_of_some _ (Heap.get?_push_of_some _ e)) ?hS0 ?hR
        case hS0 =>
          exact ⟨[], #[], 0, _, setTR_fresh (Heap.get?_push_of_some _ hS), Got.zero ks⟩
        case hR =>
          intro s' L es ep t hm hS' g' hkp
          obtain ⟨h', g2, d', tk', os'⟩ := s'
          have eg : g2 = s.gens := hm.gens
          have ed : d' = s.drawn := hm.drawn
          have eo : os' = s.os := hm.os
          subst eg; subst ed; subst eo
          refine wpAny_pure ?_
          rw [hisz] at g'
          exact wpAny_pure ⟨rfl, h', tk', L, es, ep, t, rfl, hS', g', hkp⟩
      · cases r₂ with
        | error e => exact hr₂
        | ok fl₂ =>
          cases fl₂ with
          | ret r =>
            obtain ⟨rfl, h', tk, L, es, ep, t, rfl, hS', g', hk'⟩ := hr₂
            repeat (any_goals (first | assumption | wp_step))
            exact h _ _ _ _ _ _ hS' g' hk'
          | _ => exact hr₂.elim
    | _ => exact hr.elim
theorem sorted_d {Q : Value → Shared → Prop} (R : SetD P w s.heap a L es ep t) (hh : A.handled = none) (h64 : L.length < 64)
    {d : Nat} {B : Int} (hd1 : 1 ≤ d) (hB : ∀ p ∈ L, p.2.length = d ∧ TS.Bd B p.2)
    (hQ : ∀ s' p (out : Array Value) (c : Nat) (L' : List (Addr × List Int)), (∀ b o, s.heap.get? b = some o → s'.heap.get? b = some o) → s'.gens = s.gens → s'.os = s.os → s.heap.objs.size ≤ p →
      s'.heap.get? p = some (seqObj "list" out c) → out.toList = L'.map (fun q => Value.ref q.1) → L'.Perm L → L'.Pairwise (fun q r => TS.code B q.2 ≤ TS.code B r.2) → Q (.ref p) s') :
    wpAny (model P w) A (call (.builtin "sorted") [.ref a]) Q E s := by
  obtain ⟨o, ho, hex, hd⟩ := R.ob
  have hsz := rows_size R.rows
  refine Calls.call_function_entry kind_sorted plain_sorted entry_sorted (args_sorted1 _) ?_
  unfold Builtin.«sorted»
  refine wpAny_bind (m := checkCount "sorted" 1 1 _) (wpAny_pure ?_)
  refine wpAny_bind (collect_set (A := A.in1) hh ⟨o, ho, hex.1, hd⟩ R.fits (by unfold scanBound; omega) R.tab.ris R.led fun s1 vs k1 hz g1 o1 pm => ?_)
  have hes : es.toList.map (·.2) = L.map fun q => Value.ref q.1 := by
    rw [R.rows]
    unfold rowsOf
    rw [List.map_map]
    rfl
  rw [hes] at pm
  have vals : ∀ vs : List Value, vs.Perm (L.map fun q => Value.ref q.1) → ∃ L' : List (Addr × List Int), vs = L'.map (fun q => Value.ref q.1) ∧ L'.Perm L := by
    clear hsz hes pm
    have key : ∀ (L : List (Addr × List Int)) (vs : List Value), vs.Perm (L.map fun q => Value.ref q.1) → ∃ L' : List (Addr × List Int), vs = L'.map (fun q => Value.ref q.1) ∧ L'.Perm L := by
      intro L
      induction L with
      | nil => exact fun vs h => ⟨[], List.Perm.eq_nil h, List.Perm.refl _⟩
      | cons p L ih =>
        intro vs h
        obtain ⟨u, v, e⟩ := List.append_of_mem (h.mem_iff.mpr List.mem_cons_self)
        subst e
        obtain ⟨L', e2, q⟩ := ih (u ++ v) (List.Perm.cons_inv (List.perm_middle.symm.trans h))
        refine ⟨L'.take u.length ++ p :: L'.drop u.length, ?_, (put_perm L' u.length p).trans (q.cons p)⟩
        rw [List.map_append, List.map_cons, List.map_take, List.map_drop, ← e2, List.take_left', List.drop_left'] <;> rfl
    exact key L
  have hvl : vs.length < 64 := by rw [pm.length_eq, List.length_map]; exact h64
  refine wpAny_bind (wpAny_newList ?_ (by rw [sizeLine_eq]; omega))
  generalize hh2 : s1.heap.push (seqObj "list" vs.toArray 0) = h2
  have hoL : h2.get? s1.heap.objs.size = some (seqObj "list" vs.toArray 0) := by rw [← hh2]; exact Heap.get?_push_size _ rfl
  have k2 : ∀ b u, s.heap.get? b = some u → h2.get? b = some u := fun b u e => by rw [← hh2]; exact Heap.get?_push_of_some _ (k1 b u e)
  have tk : ∀ q ∈ L, TS.TupInts h2 (.ref q.1) q.2 := fun q hq => tupInts_of (P := P) (w := w) (isT_keep (R.tup q hq) k2)
  have x : TS.TupsOk h2 d B vs := fun v hv => by
    obtain ⟨q, hq, e⟩ := List.mem_map.mp (pm.mem_iff.mp hv)
    rw [← e]
    exact ⟨q.2, tk q hq, (hB q hq).1, (hB q hq).2⟩
  refine wpAny_bind (wpAny_holding (TS.call_sort_tups (s := { s1 with heap := h2 }) hoL hvl hd1 x fun out a1 a2 => ?_))
  obtain ⟨c, hc⟩ := sortedHeap_at (vs := vs) (out := out) hoL
  obtain ⟨L', e', pL⟩ := vals out.toList (a1.trans pm)
  have pw : L'.Pairwise (fun q r => TS.code B q.2 ≤ TS.code B r.2) := by
    rw [e'] at a2
    refine List.Pairwise.imp_of_mem (fun {q r} hq hr hle => ?_) (List.pairwise_map.mp a2)
    have f1 := (tk q (pL.mem_iff.mp hq)).ints
    have f2 := (tk r (pL.mem_iff.mp hr)).ints
    have hle' : TS.code B (TS.intsOf h2 (.ref q.1)) ≤ TS.code B (TS.intsOf h2 (.ref r.1)) := hle
    rw [f1, f2] at hle'
    exact hle'
  refine wpAny_pure ⟨_, rfl, hQ _ s1.heap.objs.size out c L' (fun b u e => ?_) g1 o1 hz hc e' pL pw⟩
  have lt1 := Heap.lt_size (k1 b u e)
  show (sortedHeap h2 s1.heap.objs.size vs out).get? b = some u
  rw [sortedHeap_old (Nat.ne_of_lt lt1) (by rw [← hh2, size_push']; exact Nat.lt_succ_of_lt lt1)]
  exact k2 b u e
end
structure SetE (P : Program) (w : World) (h : Heap) (a : Addr) (L : List (Addr × List Int)) : Prop where
  ex : ∃ (es : Array (Int × Value)) (ep : Nat) (t : SetTable), (∃ o, h.get? a = some o ∧ o.ExactSet ∧ o.data = .set es ep t) ∧ es.toList = rowsOf P w L ∧ Tab t (L.map fun p => thash P w p.2) ∧ (L.map (·.2)).Nodup ∧ t.plain = true ∧
    (w.params.followText "set-order" = true ∨ t.led = true) ∧ t.fill * 5 < t.mask * 3
def SetEO (P : Program) (w : World) (a : Addr) (L : List (Addr × List Int)) : HO := .ext fun h => SetE P w h a L
theorem SetD.e {P : Program} {w : World} {h : Heap} {a : Addr} {L : List (Addr × List Int)} {es : Array (Int × Value)} {ep : Nat} {t : SetTable} (R : SetD P w h a L es ep t) : SetE P w h a L :=
  ⟨es, ep, t, R.ob, R.rows, R.tab, R.nd, R.plain, R.led, R.room⟩
theorem SetE.full {P : Program} {w : World} {h : Heap} {a : Addr} {L : List (Addr × List Int)} (R : SetE P w h a L) (ht : ∀ p ∈ L, IsT P w h p.2 p.1) : ∃ es ep t, SetD P w h a L es ep t := by
  obtain ⟨es, ep, t, h1, h2, h3, h4, h5, h6, h7⟩ := R.ex
  exact ⟨es, ep, t, h1, h2, h3, h4, ht, h5, h6, h7⟩
theorem setEO_new {P : Program} {w : World} {H : Hp} {h : Heap} {a : Addr} {L : List (Addr × List Int)} (R : SetE P w h a L) : ObjOk P w H h a (SetEO P w a L) := by
  have ⟨es, ep, t, ⟨o, ho, r⟩, q⟩ := R.ex
  refine ⟨R, ⟨o, ho⟩, fun h1 h2 p k => ?_⟩
  have ⟨es', ep', t', ⟨o', ho', r'⟩, q'⟩ := SetE.ex p
  exact ⟨es', ep', t', ⟨o', k o' ho', r'⟩, q'⟩
section
variable {X : Cx}
def rSetP (X : Cx) : List V → Hp → VK → Prop := fun xs H Q => ∃ (l : Addr) (ks : List (Addr × List Int)), xs = [V.ref l] ∧ (SqL X.K H l (ks.map fun p => V.ref p.1) ∨ SqT X.K H l (ks.map fun p => V.ref p.1)) ∧ (∀ p ∈ ks, SqT X.K H p.1 (p.2.map V.int)) ∧ ks.length < 64 ∧
  ∀ a L, H a = none → (∀ p ∈ L, p ∈ ks) → (∀ p ∈ ks, p.2 ∈ L.map (·.2)) → L.length ≤ ks.length → Q (.ref a) (upd H a (SetEO X.prog X.w a L))
theorem cr_setP (hc : X.calm = true) (hu : X.A.units + 64 < cLine) : CallR X (.type "set") (rSetP X) := by
  intro pins s σ H xs us Q I r h
  obtain ⟨l, ks, rfl, hl, hk, hf, q⟩ := h
  rw [Vals.ref1 r]
  have hn : H s.heap.objs.size = none := I.hok.fresh (Nat.le_refl _)
  have fin : ∀ (h' : Heap) (tk : Nat) L es ep t, SetTR X.prog X.w h' s.heap.objs.size L es ep t → Got ks ks.length L → (∀ b o, s.heap.get? b = some o → h'.get? b = some o) → EP X pins σ Q (.ref s.heap.objs.size) { s with heap := h', toks := tk } := fun h' tk L es ep t R g k =>
    ⟨.ref s.heap.objs.size, upd H s.heap.objs.size (SetEO X.prog X.w s.heap.objs.size L), I.laid (t' := tk) k (Nat.le_refl _) (setEO_new (setD_of R).e), rfl, q _ L hn (fun p hp => List.mem_of_mem_take (g.sub p hp)) (fun p hp => g.all p (by rw [List.take_length]; exact hp)) g.len⟩
  rcases hl with hl | hl
  · obtain ⟨its, rv, pl, hz⟩ := I.list hl
    exact call_set_tups (P := X.prog) (w := X.w) ks (I.ok.hd hc) pl.isList (by simpa using refs_of_vals rv) (fun p hp => I.isT (hk p hp)) hf (by omega) fin
  · obtain ⟨its, rv, pl, hz⟩ := I.tuple hl
    exact call_tups (P := X.prog) (w := X.w) ks (I.ok.hd hc) pl (by simpa using refs_of_vals rv) (fun p hp => I.isT (hk p hp)) hf (by omega) fin
def rXorP (X : Cx) : R2 := fun x y H Q => ∃ (a b : Addr) (La Lb : List (Addr × List Int)), x = .ref a ∧ y = .ref b ∧ H a = some (SetEO X.prog X.w a La) ∧ H b = some (SetEO X.prog X.w b Lb) ∧ (∀ p ∈ La, SqT X.K H p.1 (p.2.map V.int)) ∧ (∀ p ∈ Lb, SqT X.K H p.1 (p.2.map V.int)) ∧ La.length + Lb.length < 100 ∧
  ∀ c L, H c = none → Xor La Lb L → Q (.ref c) (upd H c (SetEO X.prog X.w c L))
theorem op_xorP (hu : X.A.units + 64 < cLine) : OpR X (binaryOp .BitXor) (rXorP X) := by
  intro pins s σ H x y v u Q I rx ry h
  obtain ⟨a, b, La, Lb, rfl, rfl, ha, hb, ka, kb, hl, q⟩ := h
  cases rx
  cases ry
  have Ra0 : SetE X.prog X.w s.heap a La := (I.hok a _ ha).1
  have Rb0 : SetE X.prog X.w s.heap b Lb := (I.hok b _ hb).1
  obtain ⟨esa, epa, ta, Ra⟩ := Ra0.full fun p hp => I.isT (ka p hp)
  obtain ⟨esb, epb, tb, Rb⟩ := Rb0.full fun p hp => I.isT (kb p hp)
  have hn : H s.heap.objs.size = none := I.hok.fresh (Nat.le_refl _)
  refine xor_d Ra Rb hl (by omega) fun h' L' es' ep' t' k R x => ?_
  exact ⟨.ref s.heap.objs.size, _, I.laid (t' := s.toks) k (Nat.le_refl _) (setEO_new R.e), rfl, q _ L' hn x⟩
def rSortP (X : Cx) : List V → Hp → VK → Prop := fun vs H Q => ∃ (a : Addr) (L : List (Addr × List Int)) (d : Nat) (B : Int), vs = [V.ref a] ∧ H a = some (SetEO X.prog X.w a L) ∧ (∀ p ∈ L, SqT X.K H p.1 (p.2.map V.int)) ∧ 1 ≤ d ∧ L.length < 64 ∧
  (∀ p ∈ L, p.2.length = d ∧ TS.Bd B p.2) ∧
  ∀ (L' : List (Addr × List Int)) (p : Addr), L'.Perm L → (L'.map (·.2)).Nodup → L'.Pairwise (fun q r => TS.code B q.2 ≤ TS.code B r.2) → H p = none → Q (.ref p) (upd H p (.lst (L'.map fun q => V.ref q.1)))
theorem cr_sortP (hc : X.calm = true) : CallR X (.builtin "sorted") (rSortP X) := by
  intro pins s σ H vs us Q I r h
  obtain ⟨a, L, d, B, rfl, ha, hk, hd, h64, hB, q⟩ := h
  have R0 : SetE X.prog X.w s.heap a L := (I.hok a _ ha).1
  obtain ⟨es, ep, t, R⟩ := R0.full fun p hp => I.isT (hk p hp)
  rw [Vals.ref1 r]
  refine sorted_d R (I.ok.hd hc) h64 hd hB fun s' p out c L' k g o hp hg hout pm pw => ?_
  have hlen : (L'.map fun q => V.ref q.1).length ≤ sizeLine := by rw [List.length_map, sizeLine_eq, pm.length_eq]; omega
  have hn : H p = none := I.hok.fresh hp
  have hv : Vals (L'.map fun q => V.ref q.1) out.toList := by rw [hout]; exact vals_of_refs L'
  have J : Inv X pins σ (upd H p (.lst (L'.map fun q => V.ref q.1))) { s with heap := s'.heap, gens := s'.gens, drawn := s'.drawn, toks := s'.toks } :=
    I.call (ch := []) (Un.laid k hp hn) (I.hok.laid k hp ⟨hlen, out.toList, c, hv, hg⟩) (by rw [g]; exact I.bare) (fun _ z => nomatch z)
  have e : s' = { s with heap := s'.heap, gens := s'.gens, drawn := s'.drawn, toks := s'.toks } := by
    cases s'
    cases s
    cases o
    rfl
  rw [e]
  exact ⟨.ref p, _, J, rfl, q L' p pm ((pm.map (·.2)).nodup_iff.mpr R.nd) pw hn⟩
end
end TD
namespace TN
open PySem PySem.Spec PyProof.Rows L2
def prD (p : Int × Int) : D := .tup [.int p.1, .int p.2]
def prs : List D → Option (List (Int × Int))
  | [] => some []
  | .tup [.int x, .int y] :: ds => if 0 ≤ x ∧ x < 64 ∧ 0 ≤ y ∧ y < 64 then (prs ds).map ((x, y) :: ·) else none
  | _ => none
def prsOf : D → Option (List (Int × Int))
  | .tup ds => prs ds
  | .wtup ds => prs ds
  | .lst ds => prs ds
  | _ => none
def Small (p : Int × Int) : Prop := 0 ≤ p.1 ∧ p.1 < 64 ∧ 0 ≤ p.2 ∧ p.2 < 64
theorem prs_eq : ∀ {ds : List D} {xs : List (Int × Int)}, prs ds = some xs → ds = xs.map prD ∧ ∀ p ∈ xs, Small p
  | [], _, e => by cases e; exact ⟨rfl, fun p hp => by cases hp⟩
  | d :: ds, xs, e => by
    unfold prs at e
    split at e
    · rename_i q; cases q
    · rename_i x y r q
      cases q
      split at e
      · rename_i c
        cases h : prs ds with
        | none => rw [h] at e; cases e
        | some zs =>
          rw [h] at e
          cases e
          obtain ⟨e1, e2⟩ := prs_eq h
          refine ⟨by rw [e1]; rfl, fun p hp => ?_⟩
          rcases List.mem_cons.mp hp with z | z
          · rw [z]; exact c
          · exact e2 p z
      · cases e
    · cases e
def cdP (p : Int × Int) : Int := p.1 * 64 + p.2
def dcP (c : Int) : Int × Int := (c / 64, c % 64)
theorem dc_cd {p : Int × Int} (h : Small p) : dcP (cdP p) = p := by
  obtain ⟨x, y⟩ := p
  unfold Small at h
  unfold dcP cdP
  simp only at h ⊢
  have e1 : (x * 64 + y) / 64 = x := by omega
  have e2 : (x * 64 + y) % 64 = y := by omega
  rw [e1, e2]
def xorC (xs ys : List (Int × Int)) : List (Int × Int) := xs.filter (fun p => decide (p ∉ ys)) ++ ys.filter (fun p => decide (p ∉ xs))
def xorP (xs ys : List (Int × Int)) : List (Int × Int) := (srtSet ((xorC xs ys).map cdP)).map dcP
theorem xorC_mem {xs ys : List (Int × Int)} {p : Int × Int} : p ∈ xorC xs ys ↔ ¬ (p ∈ xs ↔ p ∈ ys) := by
  unfold xorC
  rw [List.mem_append, List.mem_filter, List.mem_filter, decide_eq_true_eq, decide_eq_true_eq]
  by_cases a : p ∈ xs <;> by_cases b : p ∈ ys <;> simp [a, b]
section
variable {xs ys : List (Int × Int)} (hx : ∀ p ∈ xs, Small p) (hy : ∀ p ∈ ys, Small p)
include hx hy
theorem xorC_small : ∀ p ∈ xorC xs ys, Small p := fun p hp => by
  unfold xorC at hp
  rcases List.mem_append.mp hp with h | h
  · exact hx p (List.mem_filter.mp h).1
  · exact hy p (List.mem_filter.mp h).1
theorem xorP_mem {p : Int × Int} : p ∈ xorP xs ys ↔ ¬ (p ∈ xs ↔ p ∈ ys) := by
  rw [← xorC_mem]
  unfold xorP
  rw [List.mem_map]
  constructor
  · rintro ⟨c, hc, e⟩
    obtain ⟨q, hq, e2⟩ := List.mem_map.mp (srtSet_mem.mp hc)
    have : q = p := by rw [← e, ← e2, dc_cd (xorC_small hx hy q hq)]
    exact this ▸ hq
  · intro h
    exact ⟨cdP p, srtSet_mem.mpr (List.mem_map.mpr ⟨p, h, rfl⟩), dc_cd (xorC_small hx hy p h)⟩
theorem xorP_small : ∀ p ∈ xorP xs ys, Small p := fun p hp => xorC_small hx hy p (by rw [xorC_mem, ← xorP_mem hx hy]; exact hp)
theorem xorP_cd : (xorP xs ys).map cdP = srtSet ((xorC xs ys).map cdP) := by
  unfold xorP
  rw [List.map_map]
  refine (List.map_congr_left fun c hc => ?_).trans (List.map_id _)
  obtain ⟨q, hq, e⟩ := List.mem_map.mp (srtSet_mem.mp hc)
  show cdP (dcP c) = c
  rw [← e, dc_cd (xorC_small hx hy q hq)]
theorem xorP_asc : (xorP xs ys).Pairwise (fun p q => p.1 < q.1 ∨ p.1 = q.1 ∧ p.2 < q.2) := by
  have h := srtSet_asc ((xorC xs ys).map cdP)
  rw [← xorP_cd hx hy, List.pairwise_map] at h
  refine h.imp_of_mem fun {p q} hp hq hlt => ?_
  have sp := xorP_small hx hy p hp
  have sq := xorP_small hx hy q hq
  unfold Small at sp sq
  unfold cdP at hlt
  omega
end
def fSetXor (f g : F) : F := fun env => (f env).bind fun p => (ofO (p.1.opd.der p.2)).bind fun dx => (ofO (prsOf dx)).bind fun xs => if xs.length < 50 then (g p.2).bind fun q => (ofO (q.1.opd.der q.2)).bind fun dy => (ofO (prsOf dy)).bind fun ys =>
  (if ys.length < 50 ∧ (xorP xs ys).length < 64 then .ok (.new ((xorP xs ys).map prD), q.2) else .no) else .no
abbrev kOf (p : Int × Int) : List Int := [p.1, p.2]
section
variable {K : PySem.W.Frag} {cl : Cl} {G H : Hp}
theorem prs_isA : ∀ {vs : List V} {xs : List (Int × Int)}, IsA K cl G vs (xs.map prD) → ∃ ks : List (Addr × List Int), vs = ks.map (fun p => V.ref p.1) ∧ ks.map (·.2) = xs.map kOf ∧ ∀ p ∈ ks, TupX K G p.1 (p.2.map V.int)
  | [], [], _ => ⟨[], rfl, rfl, fun p hp => by cases hp⟩
  | v :: vs, x :: xs, .cons h t => by
    obtain ⟨ks, e1, e2, e3⟩ := prs_isA t
    cases h with
    | tup hx ha =>
      rename_i a ws
      have ew : ws = (kOf x).map V.int := by
        cases ha with
        | cons h1 t1 => cases h1; cases t1 with
          | cons h2 t2 => cases h2; cases t2; rfl
      refine ⟨(a, kOf x) :: ks, by rw [e1]; rfl, by rw [List.map_cons, e2]; rfl, fun p hp => ?_⟩
      rcases List.mem_cons.mp hp with z | z
      · rw [z, ← ew]; exact hx
      · exact e3 p z
theorem prsOf_at {v : V} {d : D} {xs : List (Int × Int)} (e : Ex G H) (i : IsT K cl G H v d) (h : prsOf d = some xs) : (∀ p ∈ xs, Small p) ∧ ∃ (l : Addr) (ks : List (Addr × List Int)), v = .ref l ∧ (SqL K H l (ks.map fun p => V.ref p.1) ∨ SqT K H l (ks.map fun p => V.ref p.1)) ∧ ks.map (·.2) = xs.map kOf ∧ ∀ p ∈ ks, TupX K G p.1 (p.2.map V.int) := by
  unfold prsOf at h
  split at h
  · rename_i ds
    obtain ⟨e1, e2⟩ := prs_eq h
    subst e1
    obtain ⟨a, vs, rfl, hs, ia, _⟩ := isTup e i
    obtain ⟨ks, q1, q2, q3⟩ := prs_isA ia
    subst q1
    exact ⟨e2, a, ks, rfl, .inr hs, q2, q3⟩
  · rename_i ds
    obtain ⟨e1, e2⟩ := prs_eq h
    subst e1
    rcases i with i | ⟨_, _, _, _, q, _⟩
    · cases i with
      | wtup hs ia =>
        obtain ⟨ks, q1, q2, q3⟩ := prs_isA ia
        subst q1
        exact ⟨e2, _, ks, rfl, .inr (ex_t e hs), q2, q3⟩
    · cases q
  · rename_i ds
    obtain ⟨e1, e2⟩ := prs_eq h
    subst e1
    obtain ⟨a, vs, rfl, hs, ia⟩ := isLst e i
    obtain ⟨ks, q1, q2, q3⟩ := prs_isA ia
    subst q1
    exact ⟨e2, a, ks, rfl, .inl (.inl (.inl hs)), q2, q3⟩
  · cases h
theorem code_cd {x : Int × Int} : TS.code 64 (kOf x) = cdP x := code_pair x.1 x.2
theorem isA_prs : ∀ {L : List (Addr × List Int)} {xs : List (Int × Int)}, L.map (·.2) = xs.map kOf → (∀ p ∈ L, TupX K G p.1 (p.2.map V.int)) → IsA K cl G (L.map fun p => V.ref p.1) (xs.map prD)
  | [], [], _, _ => .nil
  | p :: L, x :: xs, e, h => by
    have e1 := List.cons.inj e
    have hp := h p List.mem_cons_self
    have e2 : p.2 = kOf x := e1.1
    rw [e2] at hp
    exact .cons (.tup hp (.cons (.int _) (.cons (.int _) .nil))) (isA_prs e1.2 fun q hq => h q (List.mem_cons_of_mem _ hq))
  | [], _ :: _, e, _ => by cases e
  | _ :: _, [], e, _ => by cases e
end
theorem kOf_inj {x y : Int × Int} (h : kOf x = kOf y) : x = y := by
  obtain ⟨a, b⟩ := x
  obtain ⟨c, d⟩ := y
  simp only [kOf, List.cons.injEq, and_true] at h
  rw [h.1, h.2]
theorem mem_kOf {x : Int × Int} {xs : List (Int × Int)} : kOf x ∈ xs.map kOf ↔ x ∈ xs := by
  rw [List.mem_map]
  exact ⟨fun ⟨y, hy, e⟩ => kOf_inj e ▸ hy, fun h => ⟨x, h, rfl⟩⟩
theorem keys_xor {xs ys : List (Int × Int)} {L : List (Addr × List Int)} (hx : ∀ p ∈ xs, Small p) (hy : ∀ p ∈ ys, Small p) (nd : (L.map (·.2)).Nodup) (hk : ∀ k, k ∈ L.map (·.2) ↔ ∃ x ∈ xorP xs ys, kOf x = k) (pw : L.Pairwise (fun q r => TS.code 64 q.2 ≤ TS.code 64 r.2)) :
    L.map (·.2) = (xorP xs ys).map kOf := by
  
  have each : ∀ p ∈ L, ∃ x ∈ xorP xs ys, kOf x = p.2 := fun p hp => (hk p.2).mp (List.mem_map.mpr ⟨p, hp, rfl⟩)
  have ex : ∀ L' : List (Addr × List Int), (∀ p ∈ L', ∃ x ∈ xorP xs ys, kOf x = p.2) → ∃ zs : List (Int × Int), L'.map (·.2) = zs.map kOf ∧ ∀ z ∈ zs, z ∈ xorP xs ys := by
    intro L'
    induction L' with
    | nil => exact fun _ => ⟨[], rfl, fun z hz => by cases hz⟩
    | cons p L' ih =>
      intro h
      obtain ⟨zs, e, hz⟩ := ih fun q hq => h q (List.mem_cons_of_mem _ hq)
      obtain ⟨x, hx, ex⟩ := h p List.mem_cons_self
      refine ⟨x :: zs, by rw [List.map_cons, List.map_cons, e, ex], fun z hz' => ?_⟩
      rcases List.mem_cons.mp hz' with q | q
      · rw [q]; exact hx
      · exact hz z q
  obtain ⟨zs, e, hz⟩ := ex L each
  rw [e]
  refine congrArg (List.map kOf) ?_
  rw [e] at nd hk
  have pw2 : (zs.map cdP).Pairwise (· ≤ ·) := by
    have q : (L.map (·.2)).Pairwise (fun q r => TS.code 64 q ≤ TS.code 64 r) := List.pairwise_map.mpr pw
    rw [e, List.pairwise_map] at q
    rw [List.pairwise_map]
    exact q.imp fun {a b} h => by rw [code_cd, code_cd] at h; exact h
  have small := xorP_small hx hy
  have nz : zs.Nodup := L2.nodup_of_map nd
  have ncd : (zs.map cdP).Nodup := by
    refine List.pairwise_map.mpr (nz.imp_of_mem fun {a b} ha hb ne h => ne ?_)
    rw [← dc_cd (small a (hz a ha)), ← dc_cd (small b (hz b hb)), h]
  have asc : (zs.map cdP).Pairwise (· < ·) := (pw2.and ncd).imp fun h => by omega
  have e2 : zs.map cdP = srtSet ((xorC xs ys).map cdP) := asc_uniq asc (srtSet_asc _) fun k => by
    rw [← xorP_cd hx hy, List.mem_map, List.mem_map]
    constructor
    · rintro ⟨z, h1, h2⟩
      exact ⟨z, hz z h1, h2⟩
    · rintro ⟨z, h1, h2⟩
      have : kOf z ∈ zs.map kOf := (hk (kOf z)).mpr ⟨z, h1, rfl⟩
      exact ⟨z, mem_kOf.mp this, h2⟩
  unfold xorP
  rw [← e2, List.map_map]
  refine ((List.map_congr_left fun z h => ?_).trans (List.map_id zs)).symm
  exact dc_cd (small z (hz z h))
section
variable {X : Cx} {z : Z} {E : XK} {k : Nat} {pos p p2 p3 p4 p5 pb : Pos} {ea eb : Expr} {f g : F} {σ : L2.St} {H : Hp} {Q : VK}
theorem te_setXor (hK : X.K = z.K) (h : tE z E (fSetXor f g) σ H Q) :
    tCB (TD.rSortP X) (tCons (tOp (TD.rXorP X) (tCB (TD.rSetP X) (tCons (tE z E f) tNil)) (tCB (TD.rSetP X) (tCons (tE z E g) tNil))) tNil) σ H Q := by
  obtain ⟨T, G, env, r, h⟩ := h
  refine ⟨T, G, env, r, (Pg.bind h).imp fun p hp v H1 G1 r1 e1 w1 => ?_⟩
  obtain ⟨G2, r2, x2, w2⟩ := w1.opd r1
  obtain ⟨dx, ed, hp⟩ := (Pg.bind hp).ofO
  obtain ⟨xs, exs, hp⟩ := (Pg.bind hp).ofO
  obtain ⟨sx, l, ka, rfl, hl, eka, tka⟩ := prsOf_at r2.f.exG (w2.der r2 ed) exs
  have lka : ka.length = xs.length := by have q := congrArg List.length eka; rw [List.length_map, List.length_map] at q; exact q
  split at hp
  case isFalse => exact hp.elim
  rename_i l50
  refine ⟨l, ka, rfl, by rw [hK]; exact hl, fun q hq => by rw [hK]; exact ex_t r2.f.exG (tka q hq).sq, by omega, fun a La ha subA allA lenA => ?_⟩
  have r3 := r2.alloc (o := TD.SetEO X.prog X.w a La) ha
  obtain ⟨n1, n2, n3, n4, n5⟩ := r2.nn ha
  have r4 := r3.freeze upd_same n1 n2 n3 n4 n5
  refine ⟨T, upd G2 a (TD.SetEO X.prog X.w a La), p.2, r4, (Pg.bind hp).imp fun q hq u H4 G4 r5 e5 w5 => ?_⟩
  obtain ⟨G5, r6, x6, w6⟩ := w5.opd r5
  obtain ⟨dy, edy, hq⟩ := (Pg.bind hq).ofO
  obtain ⟨ys, eys, hq⟩ := (Pg.bind hq).ofO
  obtain ⟨sy, l', kb, rfl, hl', ekb, tkb⟩ := prsOf_at r6.f.exG (w6.der r6 edy) eys
  have lkb : kb.length = ys.length := by have q := congrArg List.length ekb; rw [List.length_map, List.length_map] at q; exact q
  split at hq
  case isFalse => exact hq.elim
  rename_i lys
  obtain ⟨ly, lxy⟩ := lys
  have gA : Ex G2 G5 := ((Ex.new n1).trans e5).trans x6
  have hA : H4 a = some (TD.SetEO X.prog X.w a La) := r6.f.exG a _ (x6 a _ (e5 a _ upd_same))
  have tA : ∀ q ∈ ka, TupX z.K G5 q.1 (q.2.map V.int) := fun q hq => ex_x gA (tka q hq)
  refine ⟨l', kb, rfl, by rw [hK]; exact hl', fun q hq => by rw [hK]; exact ex_t r6.f.exG (tkb q hq).sq, by omega, fun b Lb hb subB allB lenB => ?_⟩
  have r7 := r6.alloc (o := TD.SetEO X.prog X.w b Lb) hb
  have hA7 : upd H4 b (TD.SetEO X.prog X.w b Lb) a = some (TD.SetEO X.prog X.w a La) := by rw [upd_ne (ne_of_none hA hb)]; exact hA
  refine ⟨a, b, La, Lb, rfl, rfl, hA7, upd_same, fun q hq => by rw [hK]; exact ex_t r7.f.exG (tA q (subA q hq)).sq, fun q hq => by rw [hK]; exact ex_t r7.f.exG (tkb q (subB q hq)).sq, by omega, fun c L hc xr => ?_⟩
  have r8 := r7.alloc (o := TD.SetEO X.prog X.w c L) hc
  have tL : ∀ q ∈ L, TupX z.K G5 q.1 (q.2.map V.int) := fun q hq => by
    rcases xr.sub q hq with h | h
    · exact tA q (subA q h)
    · exact tkb q (subB q h)
  have mA : ∀ k, k ∈ La.map (·.2) ↔ k ∈ xs.map kOf := fun k => by
    rw [← eka]
    constructor
    · intro h
      obtain ⟨q, hq, e⟩ := List.mem_map.mp h
      exact List.mem_map.mpr ⟨q, subA q hq, e⟩
    · intro h
      obtain ⟨q, hq, e⟩ := List.mem_map.mp h
      rw [← e]
      exact allA q hq
  have mB : ∀ k, k ∈ Lb.map (·.2) ↔ k ∈ ys.map kOf := fun k => by
    rw [← ekb]
    constructor
    · intro h
      obtain ⟨q, hq, e⟩ := List.mem_map.mp h
      exact List.mem_map.mpr ⟨q, subB q hq, e⟩
    · intro h
      obtain ⟨q, hq, e⟩ := List.mem_map.mp h
      rw [← e]
      exact allB q hq
  have mL : ∀ k, k ∈ L.map (·.2) ↔ ∃ x ∈ xorP xs ys, kOf x = k := fun k => by
    rw [xr.keys k, mA, mB]
    constructor
    · intro h
      have hk : k ∈ xs.map kOf ∨ k ∈ ys.map kOf := Classical.byContradiction fun n => h ⟨fun q => absurd (.inl q) n, fun q => absurd (.inr q) n⟩
      rcases hk with hk | hk
      · obtain ⟨x, hx, e⟩ := List.mem_map.mp hk
        subst e
        exact ⟨x, (xorP_mem sx sy).mpr (by rw [mem_kOf, mem_kOf] at h; exact h), rfl⟩
      · obtain ⟨x, hx, e⟩ := List.mem_map.mp hk
        subst e
        exact ⟨x, (xorP_mem sx sy).mpr (by rw [mem_kOf, mem_kOf] at h; exact h), rfl⟩
    · rintro ⟨x, hx, e⟩
      subst e
      rw [mem_kOf, mem_kOf]
      exact (xorP_mem sx sy).mp hx
  have bdL : ∀ q ∈ L, q.2.length = 2 ∧ TS.Bd 64 q.2 := fun q hq => by
    obtain ⟨x, hx, e⟩ := (mL q.2).mp (List.mem_map.mpr ⟨q, hq, rfl⟩)
    have sm := xorP_small sx sy x hx
    unfold Small at sm
    rw [← e]
    refine ⟨rfl, fun n hn => ?_⟩
    rcases List.mem_cons.mp hn with h | h
    · rw [h]; exact ⟨sm.1, sm.2.1⟩
    · rcases List.mem_cons.mp h with h | h
      · rw [h]; exact sm.2.2
      · cases h
  have lenL : L.length = (xorP xs ys).length := by
    have n1 : (L.map (·.2)).length = ((xorP xs ys).map kOf).length := by
      have nx : ((xorP xs ys).map kOf).Nodup := by
        refine List.pairwise_map.mpr ((xorP_asc sx sy).imp fun {a b} h e => ?_)
        have := kOf_inj e
        subst this
        omega
      have p : (L.map (·.2)).Perm ((xorP xs ys).map kOf) := (List.perm_ext_iff_of_nodup xr.nd nx).mpr fun k => by rw [mL k, List.mem_map]
      exact p.length_eq
    rw [List.length_map, List.length_map] at n1
    exact n1
  refine ⟨c, L, 2, 64, rfl, upd_same, fun q hq => by rw [hK]; exact ex_t r8.f.exG (tL q hq).sq, by omega, by omega, bdL, fun L' p8 pm nd pw hp8 => ?_⟩
  have r9 := r8.alloc (o := .lst (L'.map fun q => V.ref q.1)) hp8
  obtain ⟨m1, m2, m3, m4, m5⟩ := r8.nn hp8
  have ek : L'.map (·.2) = (xorP xs ys).map kOf := keys_xor sx sy nd (fun k => by rw [(pm.map (·.2)).mem_iff, mL k]) pw
  exact hq (.ref p8) _ G5 r9 ((e1.trans x2).trans gA) ⟨p8, L'.map fun q => V.ref q.1, rfl, upd_same, isA_prs ek fun q hq => tL q (pm.mem_iff.mp hq), m1, m2, m3, m4, m5⟩
theorem we_setXor (o : OkX X z E k) (hu : X.A.units + 64 < cLine) (ha : PE X ea (tE z E f)) (hb : PE X eb (tE z E g)) (hm : X.mg "sorted" = none) (hm2 : X.mg "set" = none) (hg : Gl X "sorted" := by rfl) (hg2 : Gl X "set" := by rfl)
    (hsa : starEach [ea] X.env = (false, eval ea X.env) :: starEach [] X.env := by rfl) (hsb : starEach [eb] X.env = (false, eval eb X.env) :: starEach [] X.env := by rfl)
    (hs : starEach [.BinOp (.Call (.Name "set" p2) [ea] [] p3) .BitXor (.Call (.Name "set" p4) [eb] [] p5) pb] X.env = (false, eval (.BinOp (.Call (.Name "set" p2) [ea] [] p3) .BitXor (.Call (.Name "set" p4) [eb] [] p5) pb) X.env) :: starEach [] X.env := by rfl) :
    PE X (.Call (.Name "sorted" p) [.BinOp (.Call (.Name "set" p2) [ea] [] p3) .BitXor (.Call (.Name "set" p4) [eb] [] p5) pb] [] pos) (tE z E (fSetXor f g)) :=
  pe_mono (pe_callB (TD.cr_sortP o.calm) hg hm (by first | exact PySem.boot_sorted | decide +kernel) (pa_cons (pe_op (TD.op_xorP hu) (pe_callTy (TD.cr_setP o.calm hu) hg2 hm2 (by first | exact PySem.boot_set | decide +kernel) (pa_cons ha pa_nil hsa) (by decide) (by decide) hsa rfl)
    (pe_callTy (TD.cr_setP o.calm hu) hg2 hm2 (by first | exact PySem.boot_set | decide +kernel) (pa_cons hb pa_nil hsb) (by decide) (by decide) hsb rfl)) pa_nil hs) (by decide) (by decide) hs rfl) fun _ _ _ h => te_setXor o.K h
end
end TN
namespace TN
open PySem PySem.Spec PyProof.Rows L2
section
variable {prog : Program} {w : World} {A : Around} {E : Value → Shared → Prop} {s : Shared} {l : Addr} {its : List Value} {ns : List Int} {Q : Value → Shared → Prop}
end
section
variable {X : Cx} {z : Z}
end
def fPop0 (i : Nat) : F := fun env => (ofO (lstAt env i)).bind fun l => (ofO l.1.getLast?).bind fun d => .ok (.d d, env.set i (l.2 l.1.dropLast))
section
variable {X : Cx} {z : Z} {E : XK} {k n i : Nat} {c : Expr} {f fi : F} {σ : L2.St} {H : Hp} {Q : VK}
end
@[simp] theorem e_pop0 (i : Nat) (env : Ev) : fPop0 i env = (ofO (lstAt env i)).bind fun l => (ofO l.1.getLast?).bind fun d => .ok (.d d, env.set i (l.2 l.1.dropLast)) := rfl
end TN
namespace TN
open PySem PySem.Spec PyProof.Rows L2
theorem two62 : (2 : Int) ^ 62 = 4611686018427387904 := by decide +kernel
section
variable {α β : Type}
@[simp] theorem e_bok (a : α) (k : α → Out β) : (Out.ok a).bind k = k a := rfl
@[simp] theorem e_bno (k : α → Out β) : (Out.no).bind k = .no := rfl
@[simp] theorem e_bexc (c : Nat) (d : D) (k : α → Out β) : (Out.exc c d).bind k = .exc c d := rfl
@[simp] theorem e_ofs (a : α) : ofO (some a) = .ok a := rfl
@[simp] theorem e_ofn : ofO (none : Option α) = .no := rfl
@[simp] theorem e_noX (a : α) : noX (.ok a) = .ok a := rfl
end
section
variable (env : Ev) (i j : Nat) (d d' : D) (ds xs ys : List D) (r : R) (rs : List R)
@[simp] theorem e_var : fVar i env = (match env[i]? with
  | some (.val d) => .ok (.d d, env)
  | some (.own _) => .ok (.at_ i, env)
  | some (.par _) => .ok (.at_ i, env)
  | _ => .no) := rfl
@[simp] theorem e_c : fC d env = .ok (.d d, env) := rfl
@[simp] theorem e_opd1 : R.opd (.d d) = .d d := rfl
@[simp] theorem e_opd2 : R.opd (.new xs) = .d (.lst xs) := rfl
@[simp] theorem e_opd3 : R.opd (.at_ i) = .at_ i := rfl
@[simp] theorem e_der1 : R.der env (.d d) = some d := rfl
@[simp] theorem e_der2 : R.der env (.at_ i) = (match env[i]? with
  | some (.val d) => some d
  | some (.own xs) => some (.lst xs)
  | some (.par xs) => some (.lst xs)
  | _ => none) := by
  unfold R.der
  rfl
@[simp] theorem e_der3 : R.der env (.new xs) = none := rfl
@[simp] theorem e_fix1 : R.fix env (.d d) = some (d, env) := rfl
@[simp] theorem e_fix3 : R.fix env (.new xs) = none := rfl
@[simp] theorem e_r1 : R0.r (.d d) = .d d := rfl
@[simp] theorem e_r2 : R0.r (.tp xs) = .d (.tup xs) := rfl
@[simp] theorem e_r3 : R0.r (.ls xs) = .new xs := rfl
@[simp] theorem e_two {β : Type} (fa fb : F) (k : D → D → Ev → Out β) : fTwo fa fb k env = (fa env).bind fun p => (fb p.2).bind fun q =>
  (ofO (p.1.opd.der q.2)).bind fun x => (ofO (q.1.opd.der q.2)).bind fun y => k x y q.2 := rfl
@[simp] theorem e_bin (op : D → D → Out R0) (fa fb : F) : fBin op fa fb env = fTwo fa fb (fun x y e => (op x y).bind fun q => .ok (q.r, e)) env := rfl
@[simp] theorem e_bOf (f : F) : bOf f env = (f env).bind fun p => (match p.1 with
  | .d (.bl b) => .ok (b, p.2)
  | _ => .no) := rfl
@[simp] theorem e_notB (f : FB) : fNotB f env = (f env).bind fun p => .ok (!p.1, p.2) := rfl
@[simp] theorem e_andB (f g : FB) : fAndB f g env = (f env).bind fun p => if p.1 = true then g p.2 else .ok (false, p.2) := rfl
@[simp] theorem e_orB (f g : FB) : fOrB f g env = (f env).bind fun p => if p.1 = true then .ok (true, p.2) else g p.2 := rfl
@[simp] theorem e_andV (f g : F) : fAndV f g env = (bOf f env).bind fun p => if p.1 = true then g p.2 else .ok (.d (.bl false), p.2) := rfl
@[simp] theorem e_orV (f g : F) : fOrV f g env = (bOf f env).bind fun p => if p.1 = true then .ok (.d (.bl true), p.2) else g p.2 := rfl
@[simp] theorem e_notV (f : F) : fNotV f env = (bOf f env).bind fun p => .ok (.d (.bl (!p.1)), p.2) := rfl
@[simp] theorem e_if (c : FB) (f g : F) : fIf c f g env = (c env).bind fun p => if p.1 = true then f p.2 else g p.2 := rfl
@[simp] theorem e_chain (op op' : D → D → Out R0) (fa fb fc : F) : fChain op op' fa fb fc env = (fa env).bind fun p => (fb p.2).bind fun q => (ofO (p.1.opd.der q.2)).bind fun x => (ofO (q.1.opd.der q.2)).bind fun y =>
  (match op x y with
  | .ok (.d (.bl false)) => .ok (.d (.bl false), q.2)
  | .ok (.d (.bl true)) => (fc q.2).bind fun s => (ofO (q.1.opd.der s.2)).bind fun y => (ofO (s.1.opd.der s.2)).bind fun w => (op' y w).bind fun o => .ok (o.r, s.2)
  | _ => .no) := rfl
@[simp] theorem e_aNil : aNil env = .ok ([], env) := rfl
@[simp] theorem e_aCons (f : F) (g : FA) : aCons f g env = (f env).bind fun p => (g p.2).bind fun q => .ok (p.1.opd :: q.1, q.2) := rfl
@[simp] theorem e_tup (g : FA) : fTup g env = (g env).bind fun p => (match fixAll p.2 p.1 with
  | some (ds, e) => if ds.length ≤ 100000 then .ok (.d (.tup ds), e) else .no
  | none => .no) := rfl
@[simp] theorem e_lst (g : FA) : fLst g env = (g env).bind fun p => (match fixAll p.2 p.1 with
  | some (ds, e) => if ds.length ≤ 100000 then .ok (.new ds, e) else .no
  | none => .no) := rfl
@[simp] theorem e_fa0 : fixAll env [] = some ([], env) := rfl
@[simp] theorem e_fa1 : fixAll env (.d d :: rs) = (match fixAll env rs with
  | some (ds, e) => some (d :: ds, e)
  | none => none) := rfl
@[simp] theorem e_dct : fDct env = .ok (.d .dct, env) := rfl
@[simp] theorem e_oN : oNone env = .ok (none, env) := rfl
@[simp] theorem e_oS (f : F) : oSome f env = (f env).bind fun p => (match p.1 with
  | .d (.int i) => .ok (some i, p.2)
  | _ => .no) := rfl
@[simp] theorem e_sl (op : D → Option Int → Option Int → Out R0) (f : F) (lo hi : FO) : fSl op f lo hi env = (f env).bind fun p => (lo p.2).bind fun q => (hi q.2).bind fun s => (ofO (p.1.opd.der s.2)).bind fun x => (op x q.1 s.1).bind fun o => .ok (o.r, s.2) := rfl
@[simp] theorem e_da0 : derAll env [] = some [] := rfl
@[simp] theorem e_da1 : derAll env (r :: rs) = (match r.der env with
    | some d => (match derAll env rs with
      | some ds => some (d :: ds)
      | none => none)
    | none => none) := rfl
@[simp] theorem e_bi (op : List D → Out R0) (g : FA) : fBi op g env = (g env).bind fun p => (ofO (derAll p.2 p.1)).bind fun ds => (op ds).bind fun o => .ok (o.r, p.2) := rfl
@[simp] theorem e_putL (φ : Fn) : putL φ ds env i = (match env[i]? with
  | some (.own xs) => (φ (.lst xs :: ds)).bind fun s => .ok (s.1.r, env.set i (.own s.2))
  | some (.par xs) => (φ (.lst xs :: ds)).bind fun s => .ok (s.1.r, env.set i (.par s.2))
  | _ => .no) := rfl
@[simp] theorem e_ck0 (φ : Fn) : callK φ false rs env = (ofO (fixAll env rs)).bind fun q => (φ q.1).bind fun s => .ok (s.1.r, q.2) := rfl
@[simp] theorem e_ck1 (φ : Fn) : callK φ true (.at_ i :: rs) env = (ofO (fixAll env rs)).bind fun q => putL φ q.1 q.2 i := rfl
@[simp] theorem e_call (m : Bool) (φ : Fn) (g : FA) : fCall m φ g env = (g env).bind fun p => callK φ m p.1 p.2 := rfl
@[simp] theorem e_sNil : sNil env = .ok (.nx, env) := rfl
@[simp] theorem e_sCons (s t : S) : sCons s t env = (s env).bind fun p => (match p.1 with
  | .nx => t p.2
  | .ret r => .ok (.ret r, p.2)) := rfl
@[simp] theorem e_st1 : stored env (.d d) = some (.val d, env) := rfl
@[simp] theorem e_st2 : stored env (.new xs) = some (.own xs, env) := rfl
@[simp] theorem e_sSet (f : F) : sSet i f env = (f env).bind fun p => (ofO (stored p.2 p.1)).bind fun q => if i < q.2.length then .ok (.nx, q.2.set i q.1) else .no := rfl
@[simp] theorem e_sRet (f : F) : sRet f env = (f env).bind fun p => .ok (.ret p.1, p.2) := rfl
@[simp] theorem e_sRetN : sRetN env = .ok (.ret (.d .non), env) := rfl
@[simp] theorem e_sExpr (f : F) : sExpr f env = (f env).bind fun p => .ok (.nx, p.2) := rfl
@[simp] theorem e_sIf (c : FB) (s t : S) : sIf c s t env = (c env).bind fun p => if p.1 = true then s p.2 else t p.2 := rfl
@[simp] theorem e_it1 : D.items (.tup xs) = some xs := rfl
@[simp] theorem e_it2 : D.items (.lst xs) = some xs := rfl
@[simp] theorem e_it3 (ns : List Int) : D.items (.scr ns) = some (ns.map D.int) := rfl
@[simp] theorem e_seq (f : F) : fSeq f env = (f env).bind fun p => (ofO (p.1.opd.fix p.2)).bind fun q => (ofO q.1.items).bind fun ds => .ok (ds, q.2) := rfl
@[simp] theorem e_rng1 (g : FA) : fRng1 g env = (g env).bind fun p => (match derAll p.2 p.1 with
  | some [.int j] => if -4611686018427387904 ≤ j ∧ j < 4611686018427387904 then .ok (rng 0 j, p.2) else .no
  | _ => .no) := by
  unfold fRng1
  rw [two62]
  try rfl
@[simp] theorem e_rng2 (g : FA) : fRng2 g env = (g env).bind fun p => (match derAll p.2 p.1 with
  | some [.int i, .int j] => if (-4611686018427387904 ≤ i ∧ i < 4611686018427387904) ∧ -4611686018427387904 ≤ j ∧ j < 4611686018427387904 then .ok (rng i j, p.2) else .no
  | _ => .no) := by
  unfold fRng2
  rw [two62]
  try rfl
@[simp] theorem e_gN : gN i d env = if i < env.length then some (env.set i (.val d)) else none := rfl
@[simp] theorem e_gT (is : List Nat) : gT is (.tup ds) env = gTs is ds env := rfl
@[simp] theorem e_gT0 : gTs [] [] env = some env := rfl
@[simp] theorem e_gT1 (is : List Nat) : gTs (i :: is) (d :: ds) env = (match gN i d env with
    | some e => gTs is ds e
    | none => none) := rfl
@[simp] theorem e_yes : bYes env = .ok (true, env) := rfl
@[simp] theorem e_ret1 : retOf env (.d d) = some (.d d) := rfl
@[simp] theorem e_ret2 : retOf env (.new xs) = some (.ls xs) := rfl
@[simp] theorem e_ret3 : retOf env (.at_ i) = (match env[i]? with
    | some (.val y) => some (.d y)
    | some (.own xs) => some (.ls xs)
    | _ => none) := rfl
@[simp] theorem e_par0 : parOf false env = some [] := rfl
@[simp] theorem e_par1 : parOf true env = (match env[(0 : Nat)]? with
  | some (.par xs) => some xs
  | _ => none) := rfl
@[simp] theorem e_stE0 (n : Nat) : startE false n ds = some (ds.map Sl.val ++ List.replicate (n - ds.length) .no) := rfl
@[simp] theorem e_stE1 (n : Nat) : startE true n (.lst xs :: ds) = some (.par xs :: ds.map Sl.val ++ List.replicate (n - (ds.length + 1)) .no) := rfl
@[simp] theorem e_fn (m : Bool) (n : Nat) (body : S) : fnOf m n body ds = (ofO (startE m n ds)).bind fun e => (body e).bind fun p => (match p.1 with
  | .nx => (ofO (parOf m p.2)).bind fun xs => .ok (.d .non, xs)
  | .ret r => (ofO (retOf p.2 r)).bind fun q => (ofO (parOf m p.2)).bind fun xs => .ok (q, xs)) := rfl
@[simp] theorem e_lstAt : lstAt env i = (match env[i]? with
  | some (.own xs) => some (xs, .own)
  | some (.par xs) => some (xs, .par)
  | _ => none) := rfl
@[simp] theorem e_app (f : F) : fApp i f env = (ofO (lstAt env i)).bind fun _ => (f env).bind fun p => (ofO (p.1.opd.fix p.2)).bind fun y => (ofO (lstAt y.2 i)).bind fun l =>
  if l.1.length < 100000 then .ok (.d .non, y.2.set i (l.2 (l.1 ++ [y.1]))) else .no := rfl
@[simp] theorem e_lrg (f : F) : fLRg1 f env = (f env).bind fun q => (match q.1 with
  | .d (.int j) => if 0 ≤ j ∧ j ≤ 100000 then .ok (.new (rng 0 j), q.2) else .no
  | _ => .no) := rfl
@[simp] theorem e_popI (f : F) : fPopI i f env = (ofO (lstAt env i)).bind fun _ => (f env).bind fun p => (match p.1 with
  | .d (.int j) => if -4611686018427387904 ≤ j ∧ j < 4611686018427387904 then (ofO (lstAt p.2 i)).bind fun l => (ofO (ixN l.1.length j)).bind fun m => (ofO l.1[m]?).bind fun d => .ok (.d d, p.2.set i (l.2 (l.1.eraseIdx m))) else .no
  | _ => .no) := by
  unfold fPopI
  rw [two62]
  try rfl
@[simp] theorem e_sSetIx (fi fv : F) : sSetIx i fi fv env = (fv env).bind fun p => (ofO (p.1.opd.fix p.2)).bind fun y => (ofO (lstAt y.2 i)).bind fun _ => (fi y.2).bind fun q => (match q.1 with
  | .d (.int j) => (ofO (lstAt q.2 i)).bind fun l => (ofO (ixN l.1.length j)).bind fun m => .ok (.nx, q.2.set i (l.2 (l.1.set m y.1)))
  | _ => .no) := rfl
@[simp] theorem e_sN1 : storeN (.d d) = some (.val d) := rfl
@[simp] theorem e_sN2 : storeN (.new xs) = some (.own xs) := rfl
@[simp] theorem e_sPar (fa fb : F) : sPar i j fa fb env = (fa env).bind fun p => (fb p.2).bind fun q => (ofO (storeN p.1)).bind fun a => (ofO (storeN q.1)).bind fun b =>
  if i < q.2.length ∧ j < q.2.length ∧ i ≠ j then .ok (.nx, (q.2.set i a).set j b) else .no := rfl
@[simp] theorem e_back (f : F) : fBack f env = (f env).bind fun p => (match p.1.opd.der p.2 with
  | some (.tup ds) => .ok (.d (.tup ds.reverse), p.2)
  | some (.lst ds) => .ok (.new ds.reverse, p.2)
  | _ => .no) := rfl
@[simp] theorem e_tru (f : F) : fTru f env = (f env).bind fun p => (ofO ((p.1.opd.der p.2).bind D.tru)).bind fun b => .ok (b, p.2) := rfl
@[simp] theorem e_trub (b : Bool) : D.tru (.bl b) = some b := rfl
@[simp] theorem e_oI (g : Int → Int → Option D) (a b : Int) : oI g (.int a) (.int b) = (match g a b with
    | some k => .ok (.d k)
    | none => .no) := rfl
@[simp] theorem e_add (a b : Int) : dAdd (.int a) (.int b) = .ok (.d (.int (a + b))) := rfl
@[simp] theorem e_mul (a b : Int) : dMul (.int a) (.int b) = (match gMul a b with
    | some k => .ok (.d k)
    | none => .no) := rfl
@[simp] theorem e_bInt (a : Int) : bInt [.int a] = .ok (.d (.int a)) := rfl
@[simp] theorem e_bIntb (b : Bool) : bInt [.bl b] = .ok (.d (.int (if b then 1 else 0))) := rfl
@[simp] theorem e_bAbs (a : Int) : bAbs [.int a] = .ok (.d (.int (if a < 0 then -a else a))) := rfl
@[simp] theorem e_bMax (a b : Int) : bMax [.int a, .int b] = .ok (.d (.int (if b > a then b else a))) := rfl
@[simp] theorem e_bMin (a b : Int) : bMin [.int a, .int b] = .ok (.d (.int (if b < a then b else a))) := rfl
@[simp] theorem e_bLen1 : bLen [.tup xs] = .ok (.d (.int xs.length)) := rfl
@[simp] theorem e_bLen2 : bLen [.lst xs] = .ok (.d (.int xs.length)) := rfl
@[simp] theorem e_bLen3 (ns : List Int) : bLen [.scr ns] = .ok (.d (.int ns.length)) := rfl
@[simp] theorem e_bTup1 : bTuple [.tup xs] = .ok (.d (.tup xs)) := rfl
@[simp] theorem e_bTup2 : bTuple [.lst xs] = .ok (.tp xs) := rfl
@[simp] theorem e_bLst1 : bList [.tup xs] = .ok (.ls xs) := rfl
@[simp] theorem e_bLst2 : bList [.lst xs] = .ok (.ls xs) := rfl
@[simp] theorem e_gm (a b : Int) : gMinus a b = some (.int (a - b)) := rfl
@[simp] theorem e_glt (a b : Int) : gLt a b = some (.bl (decide (a < b))) := rfl
@[simp] theorem e_gle (a b : Int) : gLe a b = some (.bl (decide (a ≤ b))) := rfl
@[simp] theorem e_ggt (a b : Int) : gGt a b = some (.bl (decide (b < a))) := rfl
@[simp] theorem e_gge (a b : Int) : gGe a b = some (.bl (decide (b ≤ a))) := rfl
@[simp] theorem e_ix1 (a : Int) : dIx (.tup xs) (.int a) = (match atI xs a with
    | some d => .ok (.d d)
    | none => .no) := rfl
@[simp] theorem e_ix2 (a : Int) : dIx (.lst xs) (.int a) = (match atI xs a with
    | some d => .ok (.d d)
    | none => .no) := rfl
@[simp] theorem e_ix3 (ns : List Int) (a : Int) : dIx (.scr ns) (.int a) = (match atI ns a with
    | some d => .ok (.d (.int d))
    | none => .no) := rfl
end
theorem e_gdiv {a b : Int} (h : 0 < b) (h2 : b < 1073741824) : gDiv a b = some (.int (a / b)) := if_pos ⟨h, h2⟩
theorem e_gmod {a b : Int} (h : 0 < b) : gMod a b = some (.int (a % b)) := if_pos h
theorem two64 : (2 : Int) ^ 64 = 18446744073709551616 := by decide +kernel
theorem e_gmulL {a b : Int} (h : -18446744073709551616 < a ∧ a < 18446744073709551616) : gMul a b = some (.int (a * b)) := if_pos (.inl (by rw [two64]; exact h))
theorem e_gmulR {a b : Int} (h : -18446744073709551616 < b ∧ b < 18446744073709551616) : gMul a b = some (.int (a * b)) := if_pos (.inr (by rw [two64]; exact h))
theorem e_gmulM {x m b : Int} (h : 0 < m ∧ m ≤ 18446744073709551616) : gMul (x % m) b = some (.int (x % m * b)) := by
  have h1 := Int.emod_nonneg x (show m ≠ 0 by omega)
  have h2 := Int.emod_lt_of_pos x h.1
  exact e_gmulL ⟨by omega, by omega⟩
@[simp] theorem e_at0 {α : Type} (x : α) (xs : List α) : atI (x :: xs) 0 = some x := atI_nat (j := 0) rfl
@[simp] theorem e_at1 {α : Type} (x y : α) (xs : List α) : atI (x :: y :: xs) 1 = some y := atI_nat (j := 1) rfl
@[simp] theorem e_at2 {α : Type} (x y z : α) (xs : List α) : atI (x :: y :: z :: xs) 2 = some z := atI_nat (j := 2) rfl
theorem bits1 : Builtin.Int.intBits (10 : Int) * (55 : Int) ≤ 2 ^ 27 := by decide +kernel
theorem bits3 : Builtin.Int.intBits (10 : Int) * (16 : Int) ≤ 2 ^ 27 := by decide +kernel
theorem bits2 : Builtin.Int.intBits ((10 : Int) ^ (55 : Int).toNat) * (6 : Int) ≤ 2 ^ 27 := by decide +kernel
theorem powers : ∃ p q r : Int, gPow 10 55 = some (.int p) ∧ gPow p 6 = some (.int q) ∧ gPow 10 16 = some (.int r) ∧ 0 < q := by
  refine ⟨(10 : Int) ^ (55 : Int).toNat, ((10 : Int) ^ (55 : Int).toNat) ^ (6 : Int).toNat, (10 : Int) ^ (16 : Int).toNat, if_pos ⟨by omega, bits1⟩, if_pos ⟨by omega, bits2⟩, if_pos ⟨by omega, bits3⟩, ?_⟩
  exact Int.pow_pos (Int.pow_pos (by omega))
theorem depth_ints : ∀ ns : List Int, PyData.depthAll (ns.map PyData.int) = 0
  | [] => by simp [PyData.depthAll]
  | n :: ns => by simp [PyData.depthAll, PyData.depth, depth_ints ns]
@[simp] theorem e_for (fi : FI) (ga : GA) (s : S) (env : Ev) : sFor fi ga s env = (fi env).bind fun p => forF ga s p.1 p.2 := rfl
@[simp] theorem e_while (c : FB) (s : S) (env : Ev) : sWhile c s env = whileF c s turns env := rfl
@[simp] theorem e_un (g : Int → Int) (f : F) (env : Ev) : fUn g f env = (f env).bind fun p => (match p.1 with
  | .d (.int i) => .ok (.d (.int (g i)), p.2)
  | _ => .no) := rfl
def Urn (xs : List D) : Prop := ∃ a b c : Int, xs = [.int a, .int b, .int c]
end TN
namespace TN
open PySem PySem.Spec PyProof.Rows L2
section
variable (env : Ev) (i j c : Nat) (d d' : D) (ds xs ys : List D) (r : R) (rs : List R)
@[simp] theorem e_fAt (g : F) : fAt c j g env = (g env).bind fun p => (match p.1 with
  | .d (.obj c' ds) => if c' = c then (ofO ds[j]?).bind fun d => .ok (.d d, p.2) else .no
  | _ => .no) := rfl
@[simp] theorem e_fMk (ι : In) (g : FA) : fMk c ι g env = (g env).bind fun p => (ofO (fixAll p.2 p.1)).bind fun q => (ι q.1).bind fun fs => .ok (.d (.obj c fs), q.2) := rfl
@[simp] theorem e_eqO (φ : Fn) (neg : Bool) (fa fb : F) : fEqO c φ neg fa fb env = fTwo fa fb (kEqO c φ neg) env := rfl
@[simp] theorem e_mtT (op : List D → List D → Out R0) (f : F) (g : FA) : fMtT op f g env = (f env).bind fun p => (match p.1 with
  | .d (.tup ds) => (g p.2).bind fun q => (ofO (derAll q.2 q.1)).bind fun xs => (op ds xs).bind fun o => .ok (o.r, q.2)
  | _ => .no) := rfl
@[simp] theorem e_zip (g : FA) : fZip g env = (g env).bind fun p => (match fixAll p.2 p.1 with
  | some ([.tup a, .tup b], e) => .ok (List.zipWith (fun x y => D.wtup [x, y]) a b, e)
  | some ([.lst a, .lst b], e) => .ok (List.zipWith (fun x y => D.wtup [x, y]) a b, e)
  | _ => .no) := rfl
@[simp] theorem e_enumA (g : FA) : fEnumA g env = (g env).bind fun p => (match fixAll p.2 p.1 with
  | some ([.lst ds], e) => .ok (enumD 0 ds, e)
  | some ([.tup ds], e) => .ok (enumD 0 ds, e)
  | _ => .no) := rfl
@[simp] theorem e_gTw (is : List Nat) : gT is (.wtup ds) env = gTs is ds env := rfl
@[simp] theorem e_bits (f : F) : fBits f env = (f env).bind fun p => (match p.1 with
  | .d (.int i) => .ok (.d (.int (Builtin.Int.intBits i : Nat)), p.2)
  | _ => .no) := rfl
@[simp] theorem e_sAsg (ga : GA) (f : F) : sAsg ga f env = (f env).bind fun p => (ofO (p.1.opd.fix p.2)).bind fun y => (ofO (ga y.1 y.2)).bind fun e => .ok (.nx, e) := rfl
@[simp] theorem e_never : sNever env = .no := rfl
@[simp] theorem e_dLt (a b : Int) : dLt (.int a) (.int b) = .ok (.d (.bl (decide (a < b)))) := rfl
@[simp] theorem e_g0 : gAll [] env = .ok env := rfl
@[simp] theorem e_g1 (t : FB) (ts : List FB) : gAll (t :: ts) env = (t env).bind fun p => if p.1 = true then .no else gAll ts p.2 := rfl
@[simp] theorem e_init (n : Nat) (is : List Nat) (gs : List FB) : initF n is gs ds = (gAll gs (.no :: ds.map Sl.val ++ List.replicate (n - (ds.length + 1)) .no)).bind fun e => ofO (valsAt e is) := rfl
@[simp] theorem e_va0 : valsAt env [] = some [] := rfl
@[simp] theorem e_va1 (is : List Nat) : valsAt env (i :: is) = (match env[i]? with
    | some (.val d) => (match valsAt env is with
      | some ds => some (d :: ds)
      | none => none)
    | _ => none) := rfl
end
end TN
namespace TN
open PySem PySem.Spec PyProof.Rows L2
def fMtL (op : List D → List D → Out R0) (f : F) (g : FA) : F := fun env => (f env).bind fun p => (ofO (p.1.opd.der p.2)).bind fun d0 => match d0 with
  | .lst _ => (g p.2).bind fun q => (ofO (p.1.opd.der q.2)).bind fun d => match d with
    | .lst ds => (ofO (derAll q.2 q.1)).bind fun xs => (op ds xs).bind fun o => .ok (o.r, q.2)
    | _ => .no
  | _ => .no
structure MtDL (X : Cx) (z : Z) (id : String) (op : List D → List D → Out R0) : Prop where
  run : ∃ r, MtR X id r ∧ ∀ G H v vs ds xs Q, Ex G H → IsT z.K z.cl G H v (.lst ds) → IsTs z.K z.cl G H vs xs → P0 z G H Q (op ds xs) → r v vs H Q
  nx : ∀ ds xs c d, op ds xs ≠ .exc c d
section
variable {X : Cx} {z : Z} {E : XK} {n : Nat} {apos cpos : Pos} {o e : Expr} {es : List Expr} {f : F} {g : FA} {name : Str} {id : String} {op : List D → List D → Out R0} {σ : L2.St} {H : Hp} {Q : VK}
end
@[simp] theorem e_mtL (op : List D → List D → Out R0) (f : F) (g : FA) (env : Ev) : fMtL op f g env = (f env).bind fun p => (ofO (p.1.opd.der p.2)).bind fun d0 => (match d0 with
  | .lst _ => (g p.2).bind fun q => (ofO (p.1.opd.der q.2)).bind fun d => (match d with
    | .lst ds => (ofO (derAll q.2 q.1)).bind fun xs => (op ds xs).bind fun o => .ok (o.r, q.2)
    | _ => .no)
  | _ => .no) := rfl
end TN
namespace TN
open PySem PySem.Spec PyProof.Rows L2
def nxA (D : Ends) : Ends := { D with nx := fun σ H => ∀ p o, H p = none → D.nx σ (upd H p o) }
section
variable {z : Z} {E : XK} {σ : L2.St} {H : Hp} {X : Cx} {i j l : Nat} {fa fb fc : F} {D : Ends} {s : S}
theorem ts_alloc (h : tS z E s D σ H) : tS z E s (nxA D) σ H := by
  obtain ⟨T, G, env, r, h⟩ := h
  refine ⟨T, G, env, r, h.imp fun p hp => ?_⟩
  obtain ⟨p1, p2⟩ := p
  cases p1 with
  | nx => exact fun σ' H' G' r' e a o ha => hp σ' (upd H' a o) G' (r'.alloc ha) e
  | ret q => exact hp
theorem ts_parC (h : tS z E (sPar i j fa fb) D σ H) : tAsg (tTupX (tCons (tE z E fa) (tCons (tE z E fb) tNil))) (gTup X.K 2 (gCons (gName i) (gCons (gName j) gNil))) D σ H := by
  have q := ts_par (ts_alloc h)
  refine te_imp (fun v H1 q1 => te_imp (fun u H2 q2 => ?_) q1) q
  obtain ⟨v', u', e, q3⟩ := q2
  simp only [List.cons.injEq, and_true] at e
  obtain ⟨rfl, rfl⟩ := e
  refine ⟨by rw [sizeLine_eq]; simp, fun p o hp d => ⟨p, [v, u], rfl, (TupX.new d).sq, rfl, v, [u], rfl, u, [], rfl, rfl, q3 p _ hp⟩⟩
theorem ws_parC {x y : Str} {es : List Expr} {p1 p2 p3 p4 pos : Pos} {c1 c2 : _} (hc : X.calm = true) (gx : PG X (.Name x p1) (gName i)) (gy : PG X (.Name y p2) (gName j)) (ha : PA X es (tCons (tE z E fa) (tCons (tE z E fb) tNil)))
    (hn : (assignEach [.Name x p1, .Name y p2] X.env).length = 2 := by rfl) (hst : (assignEach [.Name x p1, .Name y p2] X.env).findIdx? (·.1) = none := by rfl) (hw : swappedStores [.Tuple [.Name x p1, .Name y p2] c1 p3] (.Tuple es c2 p4) X.env = pure none := by first | rfl | with_unfolding_all rfl | kernel_rfl) :
    PS X (.Assign [.Tuple [.Name x p1, .Name y p2] c1 p3] (.Tuple es c2 p4) pos) (tS z E (sPar i j fa fb)) :=
  ps_mono (ps_asg (pe_tupX ha) (pg_tup hc (pgs_cons gx (pgs_cons gy pgs_nil)) hn hst) (hw := hw)) fun _ _ _ h => ts_parC h
theorem ts_parC3 (h : tS z E (sPar3 i j l fa fb fc) D σ H) : tAsg (tTupX (tCons (tE z E fa) (tCons (tE z E fb) (tCons (tE z E fc) tNil)))) (gTup X.K 3 (gCons (gName i) (gCons (gName j) (gCons (gName l) gNil)))) D σ H := by
  have q := ts_par3 (ts_alloc h)
  refine te_imp (fun v H1 q1 => te_imp (fun u H2 q2 => te_imp (fun t H3 q3 => ?_) q2) q1) q
  obtain ⟨v', u', t', e, q4⟩ := q3
  simp only [List.cons.injEq, and_true] at e
  obtain ⟨rfl, rfl, rfl⟩ := e
  refine ⟨by rw [sizeLine_eq]; simp, fun p o hp d => ⟨p, [v, u, t], rfl, (TupX.new d).sq, rfl, v, [u, t], rfl, u, [t], rfl, t, [], rfl, rfl, q4 p _ hp⟩⟩
theorem ws_parC3 {x y w : Str} {es : List Expr} {p1 p2 p5 p3 p4 pos : Pos} {c1 c2 : _} (hc : X.calm = true) (gx : PG X (.Name x p1) (gName i)) (gy : PG X (.Name y p2) (gName j)) (gw : PG X (.Name w p5) (gName l)) (ha : PA X es (tCons (tE z E fa) (tCons (tE z E fb) (tCons (tE z E fc) tNil))))
    (hn : (assignEach [.Name x p1, .Name y p2, .Name w p5] X.env).length = 3 := by rfl) (hst : (assignEach [.Name x p1, .Name y p2, .Name w p5] X.env).findIdx? (·.1) = none := by rfl) (hw : swappedStores [.Tuple [.Name x p1, .Name y p2, .Name w p5] c1 p3] (.Tuple es c2 p4) X.env = pure none := by first | rfl | with_unfolding_all rfl | kernel_rfl) :
    PS X (.Assign [.Tuple [.Name x p1, .Name y p2, .Name w p5] c1 p3] (.Tuple es c2 p4) pos) (tS z E (sPar3 i j l fa fb fc)) :=
  ps_mono (ps_asg (pe_tupX ha) (pg_tup hc (pgs_cons gx (pgs_cons gy (pgs_cons gw pgs_nil))) hn hst) (hw := hw)) fun _ _ _ h => ts_parC3 h
end
end TN
namespace TN
open PySem PySem.Spec PyProof.Rows L2
theorem readsAll_pyI {h : Heap} : ∀ {vs : List Value} {ns : List Int} {as : List Addr}, ReadsAll h vs (ns.map PyData.int) as → as = []
  | _, [], _, .nil => rfl
  | _, _ :: _, _, .cons (.int _ _) t => by rw [readsAll_pyI t]; rfl
theorem reads_pyT {h : Heap} {v : Value} {k : List Int} {as : List Addr} (r : Reads h v (pyT k) as) : as = [] := by
  unfold pyT at r
  cases r with
  | tuple a b c d => exact readsAll_pyI d
section
variable {X : Cx} {z : Z} {E : XK} {k : Nat}
end
end TN
namespace TN
open PySem PySem.Spec PyProof.Rows L2
section
variable {z : Z} {T G H : Hp} {env : Ev} {σ : L2.St} {p : Addr} {i : Nat} {vs : List V} {xs ys : List D}
end
section
variable {X : Cx} {z : Z} {E : XK} {k n i : Nat} {pos : Pos} {tg iter : Expr} {body : List Stmt} {ga : GA} {is : List Nat} {s : S}
end
theorem OkX.re {X : Cx} {z : Z} {E : XK} {k : Nat} {G H : Hp} {M : Option Addr} (o : OkX X (z.at_ G H M) E k) (G' H' : Hp) (M' : Option Addr) : OkX X (z.at_ G' H' M') E k := ⟨o.K, o.tk, o.calm, o.nd, o.room, o.po⟩
section
variable {P : Program} {w : World} {K : PySem.W.Frag} {mg : Str → Option Value} {base : Heap}
end
end TN
namespace TN
open PySem PySem.Spec PyProof.Rows L2
section
variable {X : Cx} {tg e : Expr} {td : TE}
end
section
variable {z : Z} {T G H : Hp} {env : Ev} {σ : L2.St} {i : Nat}
end
section
variable {X : Cx} {z : Z} {E : XK} {i : Nat} {tg e : Expr}
end
end TN
namespace TD
open PySem PySem.Spec PyProof.Rows L2
section
variable {P : Program} {w : World} {A : Around} {E : Value → Shared → Prop} {s : Shared} {a : Addr} {L : List (Addr × List Int)} {es : Array (Int × Value)} {ep : Nat} {t : SetTable}
abbrev leP (q r : Addr × List Int) : Bool := TN.leL q.2 r.2
theorem each_refs : ∀ L : List (Addr × List Int), PySem.W.EachIs (fun (u : Value) (b : Addr × List Int) => u = .ref b.1) (L.map fun q => Value.ref q.1) L
  | [] => .nil
  | q :: L => .cons rfl (each_refs L)
theorem of_each_refs : ∀ {us : List Value} {L : List (Addr × List Int)}, PySem.W.EachIs (fun (u : Value) (b : Addr × List Int) => u = .ref b.1) us L → us = L.map fun q => Value.ref q.1
  | [], [], .nil => rfl
  | u :: us, q :: L, .cons r t => by rw [r, of_each_refs t]; rfl
theorem each_rd {h : Heap} {l : Addr} : ∀ {L : List (Addr × List Int)}, (∀ q ∈ L, Reads h (.ref q.1) (TN.pyT q.2) []) → PySem.W.EachIs (fun (u : Value) (b : Addr × List Int) => ∃ as, Reads h u (TN.pyT b.2) as ∧ l ∉ as) (L.map fun q => Value.ref q.1) L
  | [], _ => .nil
  | q :: L, h => .cons ⟨[], h q List.mem_cons_self, by simp⟩ (each_rd fun r m => h r (List.mem_cons_of_mem _ m))
end
end TD
namespace TN
open PySem PySem.Spec PyProof.Rows L2
def onceT : List (List Int) → List (List Int)
  | [] => []
  | k :: ks => if k ∈ ks then onceT ks else k :: onceT ks
theorem onceT_mem {k : List Int} : ∀ {ks : List (List Int)}, k ∈ onceT ks ↔ k ∈ ks
  | [] => Iff.rfl
  | x :: ks => by
    unfold onceT
    split
    · rename_i h
      rw [onceT_mem, List.mem_cons]
      exact ⟨.inr, fun q => q.elim (fun e => e ▸ h) id⟩
    · rw [List.mem_cons, List.mem_cons, onceT_mem]
theorem onceT_nodup : ∀ ks : List (List Int), (onceT ks).Nodup
  | [] => .nil
  | x :: ks => by
    unfold onceT
    split
    · exact onceT_nodup ks
    · rename_i h
      exact List.nodup_cons.mpr ⟨fun m => h (onceT_mem.mp m), onceT_nodup ks⟩
def srtT (ks : List (List Int)) : List (List Int) := sortL (onceT ks)
section
variable {K : PySem.W.Frag} {cl : Cl} {G H : Hp}
theorem tups_isA : ∀ {vs : List V} {ks : List (List Int)}, IsA K cl G vs (ks.map tD) → ∃ kk : List (Addr × List Int), vs = kk.map (fun p => V.ref p.1) ∧ kk.map (·.2) = ks ∧ ∀ p ∈ kk, TupX K G p.1 (p.2.map V.int)
  | [], [], _ => ⟨[], rfl, rfl, fun p hp => by cases hp⟩
  | v :: vs, k :: ks, .cons h t => by
    obtain ⟨kk, e1, e2, e3⟩ := tups_isA t
    have h : Is K cl G v (.tup (k.map D.int)) := h
    cases h with
    | tup hx ha =>
      rename_i a ws
      have ew : ws = k.map V.int := ints_isA ha
      refine ⟨(a, k) :: kk, by rw [e1]; rfl, by rw [List.map_cons, e2], fun p hp => ?_⟩
      rcases List.mem_cons.mp hp with z | z
      · rw [z, ← ew]; exact hx
      · exact e3 p z
theorem isA_tups : ∀ {L : List (Addr × List Int)}, (∀ p ∈ L, TupX K G p.1 (p.2.map V.int)) → IsA K cl G (L.map fun p => V.ref p.1) ((L.map (·.2)).map tD)
  | [], _ => .nil
  | p :: L, h => .cons (.tup (h p List.mem_cons_self) (IsA.ofInts p.2)) (isA_tups fun q m => h q (List.mem_cons_of_mem _ m))
end
section
variable {X : Cx} {z : Z} {E : XK} {k : Nat} {pos p p2 p3 : Pos} {e : Expr} {f : F} {σ : L2.St} {H : Hp} {Q : VK}
theorem dp_ints {K : PySem.W.Frag} {H : Hp} : ∀ ns : List Int, DpAll K H (ns.map V.int) (ns.map PyData.int)
  | [] => .nil
  | _ :: ns => .cons (.int _) (dp_ints ns)
end
end TN
namespace TN
open PySem PySem.Spec PyProof.Rows L2
end TN
namespace TN
open PySem PySem.Spec PyProof.Rows L2
end TN
namespace TN
open PySem PySem.Spec PyProof.Rows L2
def sRaise (c : Nat) : S := fun _ => .exc c .non
def sRaiseV (c : Nat) (f : F) : S := fun env => (f env).bind fun p => (ofO (p.1.opd.fix p.2)).bind fun q => .exc c q.1
structure XcB (K : PySem.W.Frag) (mg : Str → Option Value) (z : Z) (c : Nat) (x : Str) (C : Addr) : Prop where
  hc : z.xc c = .ref C
  hn : z.xn c = none
  mgC : mg x = some (.ref C)
  kC : PySem.W.keepIn K (.ref C) = true
  ex : PySem.W.excIn K C [.type "ValueError", .type "Exception", .type "BaseException", .type "object"] "ValueError.__new__" = true
  sub : PySem.W.subIn K (.ref C) (.type "BaseException") = some true
  ty : PySem.W.typeIn K (.ref C) = some (.type "type")
theorem XcB.at_ {K : PySem.W.Frag} {mg : Str → Option Value} {z : Z} {c : Nat} {x : Str} {C : Addr} (h : XcB K mg z c x C) (G H : Hp) (M : Option Addr) : XcB K mg (z.at_ G H M) c x C := ⟨h.hc, h.hn, h.mgC, h.kC, h.ex, h.sub, h.ty⟩
section
variable {X : Cx} {z : Z} {E : XK} {k c : Nat} {x m : Str} {C : Addr} {j : Nat} {p p2 p3 pos : Pos}
theorem ws_raiseM (o : OkX X z E k) (B : XcB X.K X.mg z c x C) (hg : Gl X x := by rfl) (hdb : (x == ("__debug__" : Str)) = false := by decide) :
    PS X (.Raise (some (.Call (.Name x p) [.Constant (.str m) j p2] [] p3)) none pos) (tS z E (sRaise c)) :=
  ps_mono (ps_raise o.calm o.tk (pmk_own F.excBase_ValueError B.ex B.mgC B.kC (raises_own B.sub B.ty) hg hdb)) fun D σ H ⟨T, G, env, r, h⟩ => by
    have h : PX z E c .non := h
    have q := h H none ⟨G, r.f, by rw [B.hn]⟩
    rw [B.hc] at q
    exact q
end
end TN
namespace TN
open PySem PySem.Spec PyProof.Rows L2
open PySem.HandSPX (excO)
structure XvC (K : PySem.W.Frag) (C : Addr) (B newId initId : String) (bmB : List Value) : Prop where
  fb : ExcBaseFacts B newId initId bmB
  sf : StoreFacts B bmB "object.__setattr__" "object"
  cls : ∃ nm q N bs sn sub ab col dd k0 k1 k2 k3 k5, K.lookup C = some (excClassObj nm q C N bs bmB true sn sub ab col dd k0 k1 k2 k3 k5 newId)
  tl : PySem.W.excTail bmB bmB = true
  sa : PySem.W.findIn K (.ref C) "__setattr__" = some (some (.builtin "object.__setattr__"))
  sub : PySem.W.subIn K (.ref C) (.type "BaseException") = some true
  ty : PySem.W.typeIn K (.ref C) = some (.type "type")
  kC : PySem.W.keepIn K (.ref C) = true
section
open Builtin Builtin.ObjectAttr
variable {prog : Program} {w : World} {A : Around} {E : Value → Shared → Prop}
theorem first_field {K : PySem.W.Frag} {s : Shared} {B newId initId : String} {bmB : List Value} {f : Str} {tk : Tok} {v : Value} {x C : Addr} {fv : Array Value} {R : Result → Shared → Prop} (T : XvC K C B newId initId bmB) (KX : K.In s.heap)
    (hx : s.heap.get? x = some { cls := .ref C, data := .fields fv }) (hno : PySem.W.findIn K (.ref C) f = some none)
    (fin : ∀ h2 t2 dx, (∀ b o, b ≠ x → s.heap.get? b = some o → h2.get? b = some o) → s.heap.objs.size ≤ dx → dx ≠ x → h2.get? x = some { cls := .ref C, dict := some dx, data := .fields fv } →
      h2.Ns1 dx (fun y => if y = f then some v else none) → R (.ok (.ret .none)) { s with heap := h2, toks := t2 }) :
    codeAny (model prog w) A (.call (.builtin "object.__setattr__") ⟨[.ref x, .str f tk, v], []⟩) R s := by
  obtain ⟨nm, q, N, bs, sn, sub, ab, col, dd, k0, k1, k2, k3, k5, hC⟩ := T.cls
  have hcl : PySem.W.clsIn K C = some { name := nm, bases := bs, mro := .ref C :: bmB, ns := N, qualname := q, hasDict := true, slotNames := sn, subclasses := sub, abstract := ab, collection := col, hasDel := false } := by
    unfold PySem.W.clsIn; rw [hC]
  have ov : PySem.W.excOver K C bmB = true := by
    unfold PySem.W.excOver; rw [hcl]
    simp [Option.any, T.tl]
  have tkr : PySem.W.takerIn K C f = some none := by
    unfold PySem.W.takerIn; rw [hno]; rfl
  have J : PySem.W.InstAt s.heap x { cls := .ref C, data := .fields fv } C none := ⟨hx, rfl, rfl, trivial⟩
  have xs : x ≠ s.heap.objs.size := Nat.ne_of_lt (Heap.lt_size hx)
  refine PySem.W.osa_openX T.sf KX J ov tkr fun b => ?_
  have lk : PySem.W.Looks (model prog w) s.heap (classData C) _ := PySem.W.looks_clsIn KX hcl
  obtain ⟨hp, g, d, t, os⟩ := s
  show wpAny _ _ (storeInOwnDict (.ref x) (.ref C) (.str f tk) f v b) _ _ _
  unfold storeInOwnDict ownDictForStores
  repeat (first
    | with_reducible refine HandSPX.store_in_new ?e1 ?e2
    | with_reducible refine wpAny_loadPart_at hx ?_
    | with_reducible refine lk.at ?_
    | wp_step)
  case e1 =>
    refine ⟨_, #[], _, (Heap.get?_update_ne _ _ _ _ xs.symm).trans (Heap.get?_push_at rfl rfl), rfl, fun e he => ?_, fun _ => rfl⟩
    simp at he
  case e2 =>
    intro h2 t2 ns same
    have old : (hp.push { cls := .type "dict", data := .dict #[] }).get? x = some { cls := .ref C, data := .fields fv } := Heap.get?_push_of_some _ hx
    have atx : h2.get? x = some { cls := .ref C, dict := some hp.objs.size, data := .fields fv } := (same.2 x xs).trans (Heap.get?_update_self _ old rfl)
    refine fin h2 t2 hp.objs.size (fun b o nb ho => ?_) (Nat.le_refl _) (Ne.symm xs) atx ns
    rw [same.2 b (Nat.ne_of_lt (Heap.lt_size ho)), Heap.get?_update_ne _ _ _ _ nb]
    exact Heap.get?_push_of_some _ ho
end
section
variable {X : Cx} {pins : List (Addr × Obj)} {σ : L2.St} {H : Hp} {s : Shared} {a C : Addr} {f : Str} {y : V} {u : Value} {B newId initId : String} {bmB : List Value} {Q : Unit → Shared → Prop} {E : Value → Shared → Prop} {A : Around}
theorem set_first (T : XvC X.K C B newId initId bmB) (I : Inv X pins σ H s) (e : H a = some (exo a C none)) (hno : PySem.W.findIn X.K (.ref C) f = some none) (ry : RelV y u)
    (fin : ∀ dx s', H dx = none → dx ≠ a → Inv X pins σ (upd (upd H dx (exd dx [(f, y)])) a (exo a C (some dx))) s' → Q () s') : wpAny (model X.prog X.w) A (setAttr (.ref a) f u) Q E s := by
  obtain ⟨t1, ho⟩ := exo_at I.hok e
  have J : PySem.W.InstAt s.heap a { cls := .ref C, dict := none, data := .fields #[.ref t1, .none, .none, .none, .bool false, .none] } C none := ⟨ho, rfl, rfl, trivial⟩
  obtain ⟨hp, g, d, t, os⟩ := s
  refine PySem.W.set_plain I.kIn J T.sa ?_
  refine first_field T I.kIn ho hno (fun h2 t2 dx keep fresh ne atx ns => ?_)
  have dn : H dx = none := I.hok.fresh fresh
  have old : ∀ {b o}, hp.get? b = some o → b ≠ dx := fun q z => Nat.lt_irrefl _ (Nat.lt_of_lt_of_le (z ▸ Heap.lt_size q) fresh)
  have offA : ∀ {b}, H b = none → b ≠ a := fun n z => by rw [z, e] at n; cases n
  have offU : ∀ {b o}, H b = some o → o ≠ exo a C none → b ≠ a := fun q n z => by rw [z, e] at q; exact n (Option.some.inj q).symm
  refine fin dx _ dn ne (I.un (t' := t2) (h' := h2) ⟨fun b o q n _ _ => keep b o (offA n) q, fun b o q n _ _ => ⟨_, keep b o (offA n) q⟩, fun b o q n _ => ?_, fun b o q _ => ?_, fun b xs q => ?_, fun b ob v q => ?_, fun b ps q => ?_⟩ fun b o q => ?_)
  · rw [upd_ne (offA n), upd_ne (old q), n]
  · by_cases z : b = a
    · exact ⟨_, z ▸ atx⟩
    · exact ⟨o, keep b o z q⟩
  · rw [upd_ne (offU q (Ne.symm exo_tup)), upd_ne (ne_of_none q dn), q]
  · rw [upd_ne (offU q (Ne.symm exo_frz)), upd_ne (ne_of_none q dn), q]
  · exact ⟨#[], by rw [upd_ne (offU q (Ne.symm exo_tbl)), upd_ne (ne_of_none q dn), q, Array.append_empty]⟩
  · by_cases z : b = a
    · subst z; rw [upd_same] at q; cases q; exact exo_ok atx
    · rw [upd_ne z] at q
      by_cases z2 : b = dx
      · subst z2; rw [upd_same] at q; cases q
        exact exd_ok ns (relO_put (fs := []) ry fun _ => trivial)
      · rw [upd_ne z2] at q
        refine (I.hok b o q).stay (fun c v hc w => keep c v ?_ w) (fun c hc => ?_) fun c xs hc => ?_
        · rcases hc with hc | hc
          · exact hc ▸ z
          · exact offU hc (Ne.symm exo_own)
        · rw [upd_ne (offU hc (Ne.symm exo_own)), upd_ne (ne_of_none hc dn), hc]
        · rw [upd_ne (offU hc (Ne.symm exo_tup)), upd_ne (ne_of_none hc dn), hc]
end
def spXv (K : PySem.W.Frag) (C : Addr) (f : Str) : Sp := fun vs H Q _ => ∃ a v, vs = [.ref a, v] ∧ H a = some (exo a C none) ∧ ∀ dx, H dx = none → dx ≠ a → Q .non (upd (upd H dx (exd dx [(f, v)])) a (exo a C (some dx)))
section
variable {X : Cx} {C : Addr} {f p1 p2 : Str} {B newId initId : String} {bmB : List Value} {e o : Expr} {te to : TE} {p' pos : Pos}
def tXs (K : PySem.W.Frag) (C : Addr) (f : Str) (to te : TE) : TS := fun D σ H => te σ H fun y H1 => to σ H1 fun x H2 => ∃ a, x = .ref a ∧ H2 a = some (exo a C none) ∧ ∀ dx, H2 dx = none → dx ≠ a → D.nx σ (upd (upd H2 dx (exd dx [(f, y)])) a (exo a C (some dx)))
theorem ps_xs (T : XvC X.K C B newId initId bmB) (hno : PySem.W.findIn X.K (.ref C) f = some none) (ho : PE X o to) (he : PE X e te) (hs : swapsWith e (some (.Attribute o f p')) pos.line X.env = pure false := by rfl) : PS X (.Assign [.Attribute o f p'] e pos) (tXs X.K C f to te) := by
  refine ⟨fun pins s σ H D I h => plainObj_wpAny_Assign_Attribute (thn (he.run pins s σ H _ I h) fun v s1 ⟨y, H1, I1, r1, q1⟩ => thn (ho.run pins s1 σ H1 _ I1 q1) fun u s2 ⟨x, H2, I2, r2, a, ex, ea, q⟩ => ?_) hs⟩
  subst ex
  cases (show u = Value.ref a from r2)
  exact set_first T I2 ea hno r1 fun dx s' n ne J => ⟨σ, _, J, q dx n ne⟩
end
section
variable {P : Program} {w : World} {K : PySem.W.Frag} {mg : Str → Option Value} {base : Heap} {B newId initId : String} {bmB : List Value} {C : Addr}
theorem xv_init {qual f a1 a2 : Str} {st : Stmt} {fi : Addr} {fd : FuncData} (Fn' : Fun K "__init__" qual st fi fd) (Sc : FnScope [a1, a2] [a1, a2] (defScope st)) (T : XvC K C B newId initId bmB) (hno : PySem.W.findIn K (.ref C) f = some none) {q1 q2 q3 q4 : Pos}
    (hb : defBody st = [.Assign [.Attribute (.Name a1 q1) f q2] (.Name a2 q3) q4]) (v1 : Vis (defScope st) a1) (v2 : Vis (defScope st) a2) (hd1 : (a1 == ("__debug__" : Str)) = false := by decide) (hc1 : (a1 == ("__classdict__" : Str)) = false := by decide) (hd2 : (a2 == ("__debug__" : Str)) = false := by decide) (hc2 : (a2 == ("__classdict__" : Str)) = false := by decide) :
    FnOk P w K mg base (L2.CX P w) 1 fi fd [a1, a2] (spXv K C f) := by
  refine Fn'.okX Sc (fun vs H Q E ⟨a, v, h, _⟩ => by rw [h]; rfl) fun cdv A outer s H vs Q E hr ⟨a, v, e, h, q⟩ => ?_
  subst e
  refine ⟨_, hb ▸ pss_one (ps_xs (X := cxOf (L2.CX P w) P w K mg base [a1, a2] qual (defScope st) fi cdv A outer s H E) T hno (pe_var (i := 0) rfl v1 hd1 hc1) (pe_var (i := 1) rfl v2 hd2 hc2)), ?_⟩
  exact ⟨v, rfl, .ref a, rfl, a, rfl, h, q⟩
end
end TN
namespace TN
open PySem PySem.Spec PyProof.Rows L2
open PySem.HandSPX (excO)
section
variable {X : Cx} {C fi : Addr} {f x : Str} {fd : FuncData} {ps : List Str} {B newId initId : String} {bmB : List Value} {e : Expr} {te : TE} {p pos : Pos}
theorem del_upd {H : Hp} {a d : Addr} {o1 o2 o3 o4 : HO} (ha : H a = none) (ne : d ≠ a) : upd (del (upd (upd (upd H a o1) d o2) a o3) a) d o4 = upd H d o4 := by
  funext b
  by_cases z : b = d
  · subst z; rw [upd_same, upd_same]
  · rw [upd_ne z, upd_ne z]
    by_cases z2 : b = a
    · subst z2; rw [del_same, ha]
    · rw [del_ne z2, upd_ne z2, upd_ne z, upd_ne z2]
theorem pmk_xv (T : XvC X.K C B newId initId bmB) (iC : PySem.W.findIn X.K (.ref C) "__init__" = some (some (.ref fi))) (tI : PySem.W.typeIn X.K (.ref fi) = some (.type "function")) (F1 : FnOk X.prog X.w X.K X.mg X.base (L2.CX X.prog X.w) 1 fi fd ps (spXv X.K C f)) (b : Binds X.K fd ps [])
    (hr : Room 2 X.A) (hg : Gl X x) (hm : X.mg x = some (.ref C)) (he : PE X e te) (hdb : (x == ("__debug__" : Str)) = false := by decide) (hs : starEach [e] X.env = (false, eval e X.env) :: starEach [] X.env := by rfl) (hpl : (backTo pos (starEach [] X.env)).any (·.1) = false := by rfl) :
    PMk X (.Call (.Name x p) [e] [] pos) (fun σ H Q => te σ H fun v H1 => ∀ d, H1 d = none → Q (.ref C) (some d) (upd H1 d (.xd [(f, v)]))) := by
  intro pins s σ H Q I h
  obtain ⟨nm, q, N, bs, sn, sub, ab, col, dd, k0, k1, k2, k3, k5, hC⟩ := T.cls
  refine wpAny_Call_Name_kw (ld_glob I hg hm ?_ hdb)
  have ha : PA X [e] (tCons te tNil) := pa_cons he pa_nil hs
  refine PySem.W.callWith_K (h₀ := X.base) I.ok.mod.kin T.kC (thn (ha.run pos pins s σ H (fun vs H1 => ∃ v, vs = [v] ∧ ∀ d, H1 d = none → Q (.ref C) (some d) (upd H1 d (.xd [(f, v)]))) I ?_) fun us s1 hh => ?_) hs hpl
  · obtain ⟨H', hh⟩ : ∃ H' : Hp, H' = H := ⟨_, rfl⟩
    exact (show te σ H fun v H1 => ∃ v', [v] = [v'] ∧ ∀ d, H1 d = none → Q (.ref C) (some d) (upd H1 d (.xd [(f, v')])) from by
      have : (fun v H1 => ∃ v', [v] = [v'] ∧ ∀ d, H1 d = none → Q (.ref C) (some d) (upd H1 d (.xd [(f, v')]))) = fun v H1 => ∀ d, H1 d = none → Q (.ref C) (some d) (upd H1 d (.xd [(f, v)])) := by
        funext v H1
        refine propext ⟨fun ⟨v', e1, q⟩ => by cases e1; exact q, fun q => ⟨v, rfl, q⟩⟩
      rw [this]; exact h)
  obtain ⟨vs, H1, I1, r1, v, ev, q1⟩ := hh
  subst ev
  obtain ⟨u, rfl, ru⟩ := vals1 r1
  refine ⟨I1.kIn, ?_⟩
  show wpAny _ _ (call (.ref C) [u]) _ _ _
  obtain ⟨hp, g, dr, tk, os⟩ := s1
  obtain ⟨a, ea⟩ : ∃ a, a = hp.objs.size + 1 := ⟨_, rfl⟩
  have fresh : hp.objs.size ≤ a := ea ▸ Nat.le_succ _
  have hn : H1 a = none := I1.hok.fresh fresh
  obtain ⟨hp2, e2⟩ : ∃ hp2, hp2 = (hp.push (PySem.W.kdv_tup [u])).push (excO C hp.objs.size) := ⟨_, rfl⟩
  have keep : ∀ b o, hp.get? b = some o → hp2.get? b = some o := fun b o w => e2 ▸ Heap.get?_push_of_some _ (Heap.get?_push_of_some _ w)
  have new : hp2.get? a = some (excO C hp.objs.size) := by rw [e2, ea]; heap_get
  have I2 : Inv X pins σ (upd H1 a (exo a C none)) ⟨hp2, g, dr, tk, os⟩ := I1.laid (t' := tk) (a := a) (o := exo a C none) (h' := hp2) keep fresh (exo_ok new)
  have hq : spXv X.K C f [.ref a, v] (upd H1 a (exo a C none)) (fun r H2 => r = .non ∧ ∃ d, H1 d = none ∧ d ≠ a ∧ H2 = upd (upd (upd H1 a (exo a C none)) d (exd d [(f, v)])) a (exo a C (some d))) (fun _ _ _ => False) :=
    ⟨a, v, rfl, upd_same, fun d hd ne => ⟨rfl, d, by rw [upd_ne ne] at hd; exact hd, ne, rfl⟩⟩
  have hl := F1.len _ _ _ _ hq
  have rr : Vals [V.ref a, v] [Value.ref a, u] := .cons rfl (.cons ru .nil)
  have bb := b ⟨hp2, g, dr, tk, os⟩ [Value.ref a, u] I2.kIn (show 2 + 0 = ps.length from hl)
  rw [List.append_nil] at bb
  have run := F1.run _ X.stack _ _ ⟨[Value.ref a, u], []⟩ [Value.ref a, u] _ _ _ (hr.make C [u] []) (I2.env0.make C [u] []) bb rr hq
  subst e2 ea
  refine wpAny_call (PySem.HandSPX.call_own T.fb (fun _ => rfl) (I1.kIn _ _ hC) (PySem.W.looks_findIn I1.kIn iC) (fun self => PySem.W.bind_fn I1.kIn self tI) (show 1 ≤ sizeLine by rw [sizeLine_eq]; omega) (codeAny_mono run fun r s' hr' => ?_))
  cases r with
  | error er => exact (cx_no hr').elim
  | ok fl =>
    cases fl with
    | ret w =>
      obtain ⟨r0, H2, os2, bare2, un2, hok2, rv, er0, d, hd, ne, eH⟩ := hr'
      subst er0
      obtain ⟨h2, g2, d2, t2, os'⟩ := s'
      refine ⟨rv, mk_end (d := d) (fs := [(f, v)]) (raises_own T.sub T.ty) I1 fresh keep un2 hok2 os2 bare2 (by rw [eH, upd_same]) (by rw [eH, upd_ne ne, upd_same]) hd ?_⟩
      rw [eH, del_upd hn ne]
      exact q1 d hd
    | next => exact False.elim hr'
    | brk => exact False.elim hr'
    | cont => exact False.elim hr'
end
structure XvB (P : Program) (w : World) (K : PySem.W.Frag) (mg : Str → Option Value) (base : Heap) (z : Z) (c : Nat) (x f : Str) (C : Addr) : Prop where
  hc : z.xc c = .ref C
  hn : z.xn c = some f
  mgC : mg x = some (.ref C)
  ex : ∃ (B newId initId : String) (bmB : List Value) (fi : Addr) (fd : FuncData) (ps : List Str), XvC K C B newId initId bmB ∧ PySem.W.findIn K (.ref C) "__init__" = some (some (.ref fi)) ∧ PySem.W.typeIn K (.ref fi) = some (.type "function") ∧ FnOk P w K mg base (L2.CX P w) 1 fi fd ps (spXv K C f) ∧ Binds K fd ps []
theorem XvB.at_ {P : Program} {w : World} {K : PySem.W.Frag} {mg : Str → Option Value} {base : Heap} {z : Z} {c : Nat} {x f : Str} {C : Addr} (h : XvB P w K mg base z c x f C) (G H : Hp) (M : Option Addr) : XvB P w K mg base (z.at_ G H M) c x f C := ⟨h.hc, h.hn, h.mgC, h.ex⟩
section
variable {X : Cx} {z : Z} {E : XK} {k c : Nat} {x f : Str} {C : Addr} {e : Expr} {g : F} {p p3 pos : Pos}
theorem ws_raiseV (o : OkX X z E k) (B : XvB X.prog X.w X.K X.mg X.base z c x f C) (he : PE X e (tE z E g)) (hk : 2 ≤ k := by decide) (hg : Gl X x := by rfl) (hdb : (x == ("__debug__" : Str)) = false := by decide) (hs : starEach [e] X.env = (false, eval e X.env) :: starEach [] X.env := by rfl) :
    PS X (.Raise (some (.Call (.Name x p) [e] [] p3)) none pos) (tS z E (sRaiseV c g)) := by
  obtain ⟨B0, n0, i0, bm, fi, fd, ps, T, iC, tI, F1, b⟩ := B.ex
  refine ps_mono (ps_raise o.calm o.tk (pmk_xv T iC tI F1 b (o.room.mono hk) hg B.mgC he hdb hs rfl)) fun D σ H ⟨T, G, env, r, h⟩ => ?_
  refine te_imp (fun v H1 q => ?_) (te_fix (C := fun G b => CS z T G D b) (kk := fun q => .exc c q.1) r (fun _ _ _ e h => CS.mono h e) h)
  · obtain ⟨y, G1, r1, x1, iv, hx⟩ := q
    intro d hd
    have hx : PX z E c y.1 := hx
    have q := hx (upd H1 d (.xd [(f, v)])) (some d) ⟨G1, r1.f.alloc hd, by rw [B.hn]; exact ⟨d, v, rfl, upd_same, iv⟩⟩
    rw [B.hc] at q
    exact q
end
end TN
namespace TN
open PySem PySem.Spec PyProof.Rows L2
structure FnG (P : Program) (w : World) (K : PySem.W.Frag) (mg : Str → Option Value) (base : Heap) (k : Nat) (f : Addr) (fd : FuncData) (ps : List Str) (sp : Sp) : Prop where
  len : ∀ vs H Q E, sp vs H Q E → vs.length = ps.length
  run : ∀ (A : Around) (outer : List Env) (s : Shared) (H : Hp) (args : Args) (us : List Value) (vs : List V) (Q : VK) (E : XK), A.guards = some [] → Room k A → Env0 P w K mg base A outer s H → BindsTo s fd args (ps.zip us) → Vals vs us → sp vs H Q E →
    codeAny (model P w) A (.call (.ref f) args) (L2.CR (L2.CX P w) outer P w H s Q E) s
section
variable {P : Program} {w : World} {K : PySem.W.Frag} {mg : Str → Option Value} {base : Heap}
theorem FnG.of {k : Nat} {f : Addr} {fd : FuncData} {ps : List Str} {sp : Sp} (h : FnOk P w K mg base (L2.CX P w) k f fd ps sp) : FnG P w K mg base k f fd ps sp := ⟨h.len, fun A outer s H args us vs Q E _ => h.run A outer s H args us vs Q E⟩
theorem FnG.mono {j k : Nat} {f : Addr} {fd : FuncData} {ps : List Str} {sp : Sp} (h : FnG P w K mg base j f fd ps sp) (hk : j ≤ k) : FnG P w K mg base k f fd ps sp := ⟨h.len, fun A outer s H args us vs Q E g r => h.run A outer s H args us vs Q E g (r.mono hk)⟩
theorem FnG.imp {k : Nat} {f : Addr} {fd : FuncData} {ps : List Str} {sp sp' : Sp} (h : FnG P w K mg base k f fd ps sp) (i : ∀ vs H Q E, sp' vs H Q E → sp vs H Q E) : FnG P w K mg base k f fd ps sp' :=
  ⟨fun vs H Q E q => h.len vs H Q E (i _ _ _ _ q), fun A outer s H args us vs Q E g r e b v q => h.run A outer s H args us vs Q E g r e b v (i _ _ _ _ q)⟩
end
section
variable {X : Cx} {k : Nat} {f : Addr} {fd : FuncData} {ps : List Str} {sp : Sp} {E : XK} {x : Str} {p pos : Pos} {e : Expr} {es : List Expr} {t : TA}
theorem pe_callG (F : FnG X.prog X.w X.K X.mg X.base k f fd ps sp) (hgd : X.A.guards = some []) (hr : Room k X.A) (hg : Gl X x) (hm : X.mg x = some (.ref f)) (hk : PySem.W.keepIn X.K (.ref f) = true) (hb : Binds X.K fd ps []) (hx : Passes (L2.CX X.prog X.w) X E) (ha : PA X (e :: es) t)
    (hdb : (x == ("__debug__" : Str)) = false := by decide) (he : starEach (e :: es) X.env = (false, eval e X.env) :: starEach es X.env := by rfl) (hpl : (backTo pos (starEach es X.env)).any (·.1) = false := by rfl) :
    PE X (.Call (.Name x p) (e :: es) [] pos) (tCall sp [] E t) := by
  refine ⟨fun pins s σ H Q I h => wpAny_Call_Name_kw (ld_glob I hg hm ?_ hdb)⟩
  refine PySem.W.callWith_K (h₀ := X.base) I.ok.mod.kin hk (thn (ha.run pos pins s σ H _ I h) fun us s1 ⟨vs, H1, I1, r, q⟩ => ⟨I1.kIn, ?_⟩) he hpl
  have q : sp (vs ++ []) H1 Q E := q
  rw [List.append_nil] at q
  have hl : us.length = ps.length := r.length ▸ F.len _ _ _ _ q
  have b := hb s1 us I1.kIn (by rw [List.append_nil]; exact hl)
  rw [List.append_nil] at b
  refine wpAny_call (codeAny_mono (F.run X.A X.stack s1 H1 ⟨us, []⟩ us vs Q E hgd hr I1.env0 b r q) fun r s' hq => ?_)
  cases r with
  | error er => exact hx pins _ H1 s1 er s' I1 hq
  | ok fl => cases fl with
    | ret u => exact I1.after hq
    | next => exact hq.elim
    | brk => exact hq.elim
    | cont => exact hq.elim
end
section
variable {P : Program} {w : World} {K : PySem.W.Frag} {mg mb : Str → Option Value} {k : Nat} {fa a : Addr} {cs : List (Addr × Addr)} {fd : FuncData} {x : Str} {sp : Sp} {s : Shared} {vs : List Value} {ns : List Int}
def lawH (cs : List (Addr × Addr)) (own : Bool) (a : Addr) (ob : Obj) (xs : List V) : Hp := fun b => if cs.any (fun p => p.2 == b) = true then some (.tbl #[]) else if (own && b == a) = true then some (.frz ob (.lst xs)) else none
theorem lawH_cases {own : Bool} {ob : Obj} {xs : List V} {b : Addr} {u : HO} (h : lawH cs own a ob xs b = some u) : (u = .tbl #[] ∧ ∃ p ∈ cs, p.2 = b) ∨ (u = .frz ob (.lst xs) ∧ b = a ∧ own = true) := by
  unfold lawH at h
  split at h
  · rename_i q
    obtain ⟨p, hp, e⟩ := List.any_eq_true.mp q
    exact .inl ⟨(Option.some.inj h).symm, p, hp, by simpa using e⟩
  · split at h
    · rename_i q
      simp only [Bool.and_eq_true, beq_iff_eq] at q
      exact .inr ⟨(Option.some.inj h).symm, q.2, q.1⟩
    · cases h
theorem law_g (KX : K.In s.heap) (hns : s.heap.Ns mainGlobals mg) (hb : s.heap.Ns builtinsNs mb) (hbb : ∀ x : Str, x ≠ "__name__" → mb x = bootBuiltins x) (hlim : s.heap.NoLimit) (hg : s.gens = #[])
    (hT : ∀ p ∈ cs, s.heap.get? p.2 = some { cls := .none, data := .fields #[] }) (nT : ∀ p ∈ cs, K.lookup p.2 = none) (C : ∀ p ∈ cs, PySem.W.CodeHd s.heap p.1 p.2)
    (hbm : ∃ (bm : Addr) (ob : Obj), mg "__builtins__" = some (.ref bm) ∧ bm ≠ builtinsNs ∧ s.heap.get? bm = some ob ∧ ob.cls = .type "module" ∧ ob.dict = some builtinsNs ∧ ob.data = .plain)
    (ha : s.heap.get? a = some { cls := .type "list", data := .seq vs.toArray }) (hi : IntsAre vs ns) (hl : ns.length ≤ sizeLine) (hr : Room k callerA)
    (Fl : ∀ base : Heap, K.In base → base.Ns mainGlobals mg → (∀ p ∈ cs, LamX.TabB base mg p.1 p.2) → FnG P w K mg base k fa fd [x] sp) (hbind : ∀ (s : Shared) (u : Value), BindsTo s fd ⟨[u], []⟩ [(x, u)])
    (hsp : ∀ H : Hp, (∀ p ∈ cs, H p.2 = some (.tbl #[])) → SqL K H a (ns.map V.int) → sp [.ref a] H (fun v _ => v = .bl true) fun _ _ _ => False) :
    codeAny (model P w) callerA (.call (.ref fa) ⟨[.ref a], []⟩) (fun r s' => r = .ok (.ret (.bool true)) ∧ OldK s.heap s'.heap ∧ s'.os = s.os ∧ AllBare s'.gens) s := by
  obtain ⟨ob, eob⟩ : ∃ ob : Obj, ob = { cls := .type "list", data := .seq vs.toArray } := ⟨_, rfl⟩
  obtain ⟨own, eown⟩ : ∃ own : Bool, own = (K.lookup a).isNone := ⟨_, rfl⟩
  obtain ⟨H, eH⟩ : ∃ H, H = lawH cs own a ob (ns.map V.int) := ⟨_, rfl⟩
  have seqA : ∀ p ∈ cs, p.2 ≠ a := fun p hp e => by
    have q := hT p hp
    rw [e, ha] at q
    cases q
  have look : ∀ {b u}, H b = some u → (u = .tbl #[] ∧ ∃ p ∈ cs, p.2 = b) ∨ (u = .frz ob (.lst (ns.map V.int)) ∧ b = a ∧ K.lookup a = none) := fun {b u} h => by
    rw [eH] at h
    rcases lawH_cases h with q | ⟨q1, q2, q3⟩
    · exact .inl q
    · exact .inr ⟨q1, q2, by rw [eown] at q3; exact Option.isNone_iff_eq_none.mp q3⟩
  have atT : ∀ p ∈ cs, H p.2 = some (.tbl #[]) := fun p hp => by
    rw [eH]; unfold lawH
    rw [if_pos (List.any_eq_true.mpr ⟨p, hp, by simp⟩)]
  have rv := vals_ints hi
  have lv := hi.length
  
  have calm : ∀ {b o}, s.heap.get? b = some o → o.data ≠ .fields #[] → (∀ v n, o.data ≠ .seq v n) → H b = none := fun {b o} h n1 n2 => by
    cases q : H b with
    | none => rfl
    | some u =>
      rcases look q with ⟨_, p, hp, e⟩ | ⟨_, e, _⟩
      · have := hT p hp
        rw [e, h] at this
        cases this
        exact absurd rfl n1
      · rw [e, ha] at h
        cases h
        exact absurd rfl (n2 _ _)
  have keepB : ∀ {b o}, s.heap.get? b = some o → H b = none → (hidT s.heap H).get? b = some o := fun h n => hidT_get h n
  have ns2 : ∀ {b : Addr} {m : Str → Option Value}, s.heap.Ns b m → (hidT s.heap H).Ns b m := fun {b m} ⟨o, es, ep, h, d, r⟩ => ⟨o, es, ep, keepB h (calm h (by rw [d]; intro z; cases z) (by rw [d]; intro _ _ z; cases z)), d, r⟩
  have KB : K.In (hidT s.heap H) := fun b o h => keepB (KX b o h) (by
    cases q : H b with
    | none => rfl
    | some u =>
      rcases look q with ⟨_, p, hp, e⟩ | ⟨_, e, n⟩
      · have := nT p hp
        rw [e, h] at this
        cases this
      · rw [e, n] at h
        cases h)
  have hok : HOk P w H s.heap := fun b u h => by
    rcases look h with ⟨e, p, hp, eb⟩ | ⟨e, eb, _⟩
    · subst e; subst eb; exact hT p hp
    · subst e; subst eb
      exact ⟨by rw [eob]; exact ha, by rw [List.length_map]; exact hl, vs, _, rv, ha⟩
  have hS : SqL K H a (ns.map V.int) := by
    cases hk : K.lookup a with
    | some o =>
      have e := KX a o hk
      rw [ha] at e
      cases e
      exact .inr ⟨_, vs.toArray, _, hk, rfl, rfl, rfl, by rw [List.size_toArray, lv]; exact hl, rv⟩
    | none =>
      refine .inl (.inr ⟨ob, ?_⟩)
      rw [eH]; unfold lawH
      rw [if_neg (fun z => by obtain ⟨p, hp, e⟩ := List.any_eq_true.mp z; exact seqA p hp (by simpa using e)), if_pos (by rw [eown, hk]; simp)]
  have md : L2.Mod K mg (hidT s.heap H) := ⟨KB, ns2 hns, ⟨mb, ns2 hb, hbb⟩, let ⟨mc, h1, h2⟩ := hlim; ⟨mc, ns2 h1, h2⟩⟩
  have tabs : ∀ p ∈ cs, LamX.TabB (hidT s.heap H) mg p.1 p.2 := fun p hp => by
    obtain ⟨og, es, ep, gh, gd, _⟩ := id hns
    have code : PySem.W.CodeHd (hidT s.heap H) p.1 p.2 := by
      obtain ⟨o, us, file, tf, flags, tg, inF, text, tt, h, r1, r2, r3, rest⟩ := C p hp
      refine ⟨o, us, file, tf, flags, tg, inF, text, tt, keepB h (calm h (fun z => ?_) (by rw [r2]; intro _ _ z; cases z)), r1, r2, r3, rest⟩
      rw [r2] at z
      cases z
      simp at r3
    obtain ⟨bm, o, b1, b2, b3, b4, b5, b6⟩ := hbm
    refine ⟨code, ⟨bm, o, b1, b2, fun z => ?_, fun z => ?_, keepB b3 (calm b3 (by rw [b6]; intro z; cases z) (by rw [b6]; intro _ _ z; cases z)), b4, b5, b6⟩, fun z => ?_⟩
    · rw [z, gh] at b3; cases b3; rw [gd] at b6; cases b6
    · rw [z, hT p hp] at b3; cases b3; cases b6
    · rw [z, hT p hp] at gh; cases gh; cases gd
  have e0 : Env0 P w K mg (hidT s.heap H) callerA [] s H := ⟨rfl, md, fun b o h => of_hidT h, Nat.le_of_eq (hidT_size _ _), trivial, fun b hb => (nomatch hb), hok, .of_eq hg⟩
  refine codeAny_mono ((Fl _ KB (ns2 hns) tabs).run callerA [] s H ⟨[.ref a], []⟩ [.ref a] [.ref a] _ _ rfl hr e0 (hbind s (.ref a)) (.cons rfl .nil) (hsp H atT hS)) fun r s' h => ?_
  cases r with
  | error er => exact (cx_no h).elim
  | ok fl => cases fl with
    | next => exact h.elim
    | brk => exact h.elim
    | cont => exact h.elim
    | ret u =>
      obtain ⟨v, H', hos, bare, un, hok', hu, hv⟩ := h
      have hv : v = .bl true := hv
      subst hv
      have hu : u = .bool true := hu
      subst hu
      have tabE : ∀ p ∈ cs, ∃ more : Array Value, s'.heap.get? p.2 = some { cls := .none, data := .fields more } := fun p hp => by
        obtain ⟨more, z⟩ := un.tbls p.2 #[] (atT p hp)
        exact ⟨_, hok' p.2 _ z⟩
      have rest : ∀ b o, (∀ p ∈ cs, p.2 ≠ b) → s.heap.get? b = some o → s'.heap.get? b = some o := fun b o nb h => by
        cases q : H b with
        | none => exact un.keep b o h q (by intro z; exact nomatch z) (by intro z; exact nomatch z)
        | some u =>
          rcases look q with ⟨_, p, hp, e⟩ | ⟨e, _, _⟩
          · exact absurd e (nb p hp)
          · subst e
            obtain ⟨e1, _⟩ := hok b _ q
            obtain ⟨e2, _⟩ := hok' b _ (un.frzs b ob _ q)
            rw [h] at e1
            cases e1
            exact e2
      refine ⟨rfl, ⟨fun b o h => ?_, fun b o h => ?_⟩, hos, bare⟩
      · by_cases z : ∃ p ∈ cs, p.2 = b
        · obtain ⟨p, hp, e⟩ := z
          subst e
          obtain ⟨more, hm⟩ := tabE p hp
          rw [hT p hp] at h
          cases h
          exact .inr (.inl ⟨((C p hp).tab (hT p hp)).isCodeTable, rfl, #[], more, rfl, by rw [Array.empty_append]; exact hm⟩)
        · exact .inl (rest b o (fun p hp e => z ⟨p, hp, e⟩) h)
      · by_cases z : ∃ p ∈ cs, p.2 = b
        · obtain ⟨p, hp, e⟩ := z
          subst e
          obtain ⟨more, hm⟩ := tabE p hp
          exact ⟨_, hm⟩
        · exact ⟨o, rest b o (fun p hp e => z ⟨p, hp, e⟩) h⟩
end
def LawG (l : PySem.W.OpenLaw) (w : World) (K : PySem.W.Frag) (k n : Nat) (x : Str) (mg : Str → Option Value) (fa : Addr) (h : Heap) : Prop :=
  ∃ (fd : FuncData) (cs : List (Addr × Addr)) (sp : Sp), (∀ p ∈ cs, h.get? p.2 = some { cls := .none, data := .fields #[] }) ∧ (∀ p ∈ cs, K.lookup p.2 = none) ∧ (∀ p ∈ cs, PySem.W.CodeHd h p.1 p.2) ∧ (∀ (s : Shared) (u : Value), BindsTo s fd ⟨[u], []⟩ [(x, u)]) ∧
    (∀ (H : Hp) (a : Addr) (ns : List Int), ns.length ≤ n → (∀ p ∈ cs, H p.2 = some (.tbl #[])) → SqL K H a (ns.map V.int) → sp [.ref a] H (fun v _ => v = .bl true) fun _ _ _ => False) ∧
    ∀ base : Heap, K.In base → base.Ns mainGlobals mg → (∀ p ∈ cs, LamX.TabB base mg p.1 p.2) → FnG l.prog w K mg base k fa fd [x] sp
theorem walk_g {l : PySem.W.OpenLaw} {n k : Nat} {q : Program} {loose : List Str} {XP : (Str → Option Value) → Heap → Prop} {YP : World → Heap → Prop} {d : DefRec} {x : Str} (hn : l.most = some n) (hn2 : n ≤ sizeLine) (hdf : d.params.defaults = []) (hr : Room k callerA)
    (Fl : ∀ (w : World) (mg : Str → Option Value) (fa : Addr) (h : Heap), YP w h → h.Ns mainGlobals mg → mg d.name = some (.ref fa) → ∃ K : PySem.W.Frag, K.In h ∧ LawG l w K k n x mg fa h) :
    PySem.W.WalkO q loose XP YP l.row.toRowW d [] (fun f vs => PySem.call f vs) :=
  Att.attach_callB hn hdf fun w s0 s1 mg mb fa o pm cd doc a vs ns G Y ho hd hcd hmg hobj hints hlen hbits hg => by
    obtain ⟨K, KX, fd, cs, sp, h1, h2, h3, h4, h5, h6⟩ := Fl w mg fa _ Y G.T.g hmg
    exact law_g KX G.T.g G.T.b G.T.builtins G.T.nolimit hg h1 h2 h3 G.T.bmain hobj hints (Nat.le_trans hlen hn2) hr h6 h4 fun H => h5 H a ns hlen
end TN
namespace TN
open PySem PySem.Spec PyProof.Rows L2
abbrev Cl3 := Value × Option Nat × (Addr → Value → Option Addr → TS)
def Ends.gone (D : Ends) (i : Nat) : Ends := { nx := fun σ H => D.nx (σ.set i none) H, rt := D.rt, bk := fun σ H => D.bk (σ.set i none) H, ct := fun σ H => D.ct (σ.set i none) H }
def wMix (K : PySem.W.Frag) (D : Ends) : List Cl3 → WX
  | [] => fun _ _ _ _ => False
  | (c, io, ts) :: r => fun cls d σ H => ∃ b, PySem.W.exmOne K cls c = some b ∧ (b = true → ∀ a, H a = none → match io with
      | none => ts a cls d D σ H
      | some i => ts a cls d (Ends.gone D i) (σ.set i (some (.ref a))) H) ∧ (b = false → wMix K D r cls d σ H)
inductive HdsMix (X : Cx) : List ExceptHandler → List Cl3 → Prop
  | nil : HdsMix X [] []
  | plain {x : Str} {c : Value} {ts : Addr → Value → Option Addr → TS} {b₀ : Stmt} {suite : List Stmt} {np q : Pos} {hds : List ExceptHandler} {l : List Cl3} : Names X x c →
      (∀ (a : Addr) (oe : Obj) (cls : Value) (d : Option Addr) (pn : List (Addr × Obj)), Zc cls d oe → (∃ vs, oe.data = .fields vs) → PSs (X.suite a ((a, oe) :: pn)) (b₀ :: suite) (ts a cls d)) → HdsMix X hds l →
      HdsMix X (.ExceptHandler (some (.Name x np)) none (b₀ :: suite) q :: hds) ((c, none, ts) :: l)
  | named {x n : Str} {c : Value} {i : Nat} {ts : Addr → Value → Option Addr → TS} {b₀ : Stmt} {suite : List Stmt} {np q : Pos} {hds : List ExceptHandler} {l : List Cl3} : Names X x c → X.N[i]? = some n → X.env.kindOf n = some .local →
      (∀ (a : Addr) (oe : Obj) (cls : Value) (d : Option Addr) (pn : List (Addr × Obj)), Zc cls d oe → (∃ vs, oe.data = .fields vs) → PSs (X.suite a ((a, oe) :: pn)) (b₀ :: suite) (ts a cls d)) → HdsMix X hds l →
      HdsMix X (.ExceptHandler (some (.Name x np)) (some n) (b₀ :: suite) q :: hds) ((c, some i, ts) :: l)
section
variable {X : Cx} {pins : List (Addr × Obj)} {σ : L2.St} {H : Hp} {D : Ends}
theorem mix_go {B h3 : Heap} {a : Addr} {cls : Value} {d : Option Addr} {sI s' : Shared} (ok : X.Ok) (hf : X.env.frame = some X.env.locals) (hN : X.N.Nodup)
    (back : ∀ h4, HandSPX.FlyingZ B (X.env :: X.outer) a (Zc cls d) h4 → h3.UpToSlots h4 → Inv X pins σ H { s' with heap := h4 }) (nL : a ≠ X.env.locals) (nF : a ∉ X.fs) (na : H a = none)
    (fl : HandSPX.FlyingZ B (X.env :: X.outer) a (Zc cls d) h3) (J : Inv X pins σ H { s' with heap := h3 }) {hds : List ExceptHandler} {l : List Cl3} (hk : HdsMix X hds l) :
    wMix X.K D l cls d σ H → wpAny (model X.prog X.w) X.A (handleBy (.ref a) X.env hds) (SP X pins D) X.xe { s' with heap := h3 } := by
  obtain ⟨oe, vs, he, hz, hd⟩ := fl.there
  have S3 := J.suite he hd na nL nF
  have lt : PySem.W.Looks (model X.prog X.w) h3 (typeOf (.ref a)) cls := fun A Q E s k q => wpAny_typeOf_ref (k _ _ he) (by rw [hz.1]; exact q)
  have name : ∀ {x : Str} {c : Value} {np : Pos} {Q E : Value → Shared → Prop}, Names X x c → Q c { s' with heap := h3 } → wpAny (model X.prog X.w) (X.A.mark (some (.ref a))) (eval (.Name x np) X.env) Q E { s' with heap := h3 } := fun {x c np Q E} ⟨g, db, m⟩ q => by
    rcases m with m | ⟨m, v, n⟩
    · exact ld_glob (X := X.suite a ((a, oe) :: (X.pn ++ pins))) S3 g m q db
    · exact ld_blt (X := X.suite a ((a, oe) :: (X.pn ++ pins))) S3 g m v q n db
  induction hk with
  | nil => exact fun w => w.elim
  | plain hc hsu r ih =>
    rintro ⟨b, hb, yes, no⟩
    refine wpAny_handleBy_cons (codeAny_handlers_test (name hc ((PySem.W.exm_one (M := model X.prog X.w) J.kIn lt hb).here ?_))) (by intro q; cases q)
    cases b with
    | false => exact ih (no rfl)
    | true =>
      refine codeAny_handlers_suite (HandSPX.lands_againZ fl fun h4 fl4 up4 => ?_)
      obtain ⟨o4, v4, he4, hz4, hd4⟩ := fl4.there
      refine wpAny_mono ((hsu a o4 cls d (X.pn ++ pins) hz4 ⟨_, hd4⟩).run [] _ _ H _ ((back h4 fl4 up4).suite he4 hd4 na nL nF) (yes rfl a na)) (fun f s6 q => ?_) (fun _ _ z => z.elim)
      cases f with
      | next => obtain ⟨τ, H6, S6, q6⟩ := q; exact ⟨τ, H6, S6.unsuite ok, q6⟩
      | brk => obtain ⟨τ, H6, S6, q6⟩ := q; exact ⟨τ, H6, S6.unsuite ok, q6⟩
      | cont => obtain ⟨τ, H6, S6, q6⟩ := q; exact ⟨τ, H6, S6.unsuite ok, q6⟩
      | ret u => obtain ⟨v6, τ, H6, S6, r6, q6⟩ := q; exact ⟨v6, τ, H6, S6.unsuite ok, r6, q6⟩
  | @named x n c i ts b₀ suite np q0 hds l hc hi hln hsu r ih =>
    rintro ⟨b, hb, yes, no⟩
    refine wpAny_handleBy_cons (codeAny_handlers_test (name hc ((PySem.W.exm_one (M := model X.prog X.w) J.kIn lt hb).here ?_))) (by intro q; cases q)
    cases b with
    | false => exact ih (no rfl)
    | true =>
      refine codeAny_handlers_suite_as (HandSPX.lands_againZ fl fun h4 fl4 up4 => ?_)
      obtain ⟨o4, v4, he4, hz4, hd4⟩ := fl4.there
      refine store_ok (X := X.suite a ((a, o4) :: (X.pn ++ pins))) (v := .ref a) ((back h4 fl4 up4).suite he4 hd4 na nL nF) hN hi (.inl hln) rfl (fun s5 S5 => ?_) (.inr hln)
      refine wpAny_mono ((hsu a o4 cls d (X.pn ++ pins) hz4 ⟨_, hd4⟩).run [] s5 _ H _ S5 (yes rfl a na)) (fun f s6 q => ?_) (fun _ _ z => z.elim)
      have leave : ∀ {τ : L2.St} {H6 : Hp} {Q : Shared → Prop}, Inv (X.suite a ((a, o4) :: (X.pn ++ pins))) [] τ H6 s6 → (∀ s7, Inv X pins (τ.set i none) H6 s7 → Q s7) →
          wpAny (model X.prog X.w) X.A (do bindName X.env n .none; unbindBehindTheSuite X.env n q0) (fun _ s7 => Q s7) X.xe s6 := fun S6 w => gone_ok (S6.unsuite ok) hN hi hln w
      cases f with
      | next => obtain ⟨τ, H6, S6, q6⟩ := q; exact leave S6 fun s7 J7 => ⟨_, _, J7, q6⟩
      | brk => obtain ⟨τ, H6, S6, q6⟩ := q; exact leave S6 fun s7 J7 => ⟨_, _, J7, q6⟩
      | cont => obtain ⟨τ, H6, S6, q6⟩ := q; exact leave S6 fun s7 J7 => ⟨_, _, J7, q6⟩
      | ret u => obtain ⟨v6, τ, H6, S6, r6, q6⟩ := q; exact leave S6 fun s7 J7 => ⟨v6, _, _, J7, r6, q6⟩
theorem ps_try_mix {body : List Stmt} {h₀ : ExceptHandler} {hds : List ExceptHandler} {l : List Cl3} {pos : Pos} {tb : WX → TS} (hs : X.stack = X.env :: X.outer) (hf : X.env.frame = some X.env.locals) (hN : X.N.Nodup)
    (hb : ∀ (W : WX) (pn : List (Addr × Obj)) (xe : Value → Shared → Prop), Takes (X.tr pn xe) W → PassesOwn (model X.prog X.w) X.A X.env xe → PSs (X.tr pn xe) body (tb W)) (hh : HdsMix X (h₀ :: hds) l) :
    PS X (.Try body (h₀ :: hds) [] [] pos) (fun D σ H => tb (wMix X.K D l) D σ H) := by
  refine ⟨fun pins s σ H D I h => wpAny_Try_except (wpAny_mono ((hb (wMix X.K D l) (X.pn ++ pins) (fun e s₁ => wpAny (model X.prog X.w) X.A (noteFrame e X.env) (fun _ s₂ => wpAny (model X.prog X.w) X.A (setFlight e none) (fun _ s₃ =>
    wpAny (model X.prog X.w) X.A (handleBy e X.env (h₀ :: hds)) (SP X pins D) X.xe s₃) X.xe s₂) X.xe s₁) (fun u s' c => ?_) PassesOwn.looking).run [] s σ H D (I.toTry _) h) (fun f s1 q => ?_) (fun e s1 he => he))⟩
  · obtain ⟨a, B, sI, pins', τ, H', cls, d, rfl, J', nb, up, sky, na, os, ag, w⟩ := c
    have ok := I.ok
    have fr : X.A.frames = some (X.env :: X.outer) := by rw [ok.frames, hs]
    have J : Inv X pins τ H' sI := J'.ofTry ok
    have sk : Sky B (X.env :: X.outer) a (Zc cls d) X.env.locals s'.heap := by rw [← hs]; exact sky
    show wpAny _ X.A (noteFrame (.ref a) X.env) _ _ _
    refine Sky.land Zc.steady fr hf sk fun h3 fl up3 => ?_
    have J3 : Inv X pins τ H' { s' with heap := h3 } := J.landed nb fl.1 (up.trans up3) os ag
    obtain ⟨oe, vs, he, hz, hd⟩ := fl.there
    have off : a ∉ frs (X.env :: X.outer) := fun hm => by
      obtain ⟨_, o', e', hnf⟩ := fl.2.2.1.mem hm
      rw [he] at e'; cases e'
      exact hnf _ hd
    refine mix_go (sI := sI) (B := B) ok hf hN (fun h4 fl4 up4 => J.landed nb fl4.1 ((up.trans up3).trans up4) os ag) (fun z => off (List.mem_filterMap.mpr ⟨X.env, List.mem_cons_self, by rw [hf, z]⟩)) (fun hm => ?_) na fl J3 hh w
    obtain ⟨e, he2, q⟩ := List.mem_filterMap.mp hm
    exact off (List.mem_filterMap.mpr ⟨e, List.mem_cons_of_mem _ he2, q⟩)
  · cases f with
    | next => obtain ⟨τ, H', J', q⟩ := q; exact wpAny_execs_nil ⟨τ, H', J'.ofTry I.ok, q⟩
    | brk => obtain ⟨τ, H', J', q⟩ := q; exact ⟨τ, H', J'.ofTry I.ok, q⟩
    | cont => obtain ⟨τ, H', J', q⟩ := q; exact ⟨τ, H', J'.ofTry I.ok, q⟩
    | ret u => obtain ⟨v, τ, H', J', r, q⟩ := q; exact ⟨v, τ, H', J'.ofTry I.ok, r, q⟩
end
end TN
namespace TN
open PySem PySem.Spec PyProof.Rows L2
def rOk (p : PyData) : Bool := p.showable && !p.hasDict && decide (p.depth ≤ 20) && decide (p.shown.length ≤ 100000)
theorem rOk_is {p : PyData} (h : rOk p = true) : p.showable = true ∧ p.hasDict = false ∧ p.depth ≤ 20 ∧ p.shown.length ≤ sizeLine := by
  unfold rOk at h
  simp only [Bool.and_eq_true, Bool.not_eq_true', decide_eq_true_eq] at h
  exact ⟨h.1.1.1, h.1.1.2, h.1.2, line100 h.2⟩
def Rp (K : PySem.W.Frag) (H : Hp) (v : V) (t : Str) : Prop := (∃ p, Dp K H v p ∧ rOk p = true ∧ p.shown = t) ∨ (∃ a, v = .ref a ∧ H a = some (.dK []) ∧ t = "{}")
def rReprV (K : PySem.W.Frag) : List V → Hp → VK → Prop := fun xs H Q => ∃ v t, xs = [v] ∧ Rp K H v t ∧ Q (.str t) H
section
variable {X : Cx}
theorem call_reprV (hg : X.A.guards = some []) (hu : X.A.units + 100 < cLine) : CallR X (.builtin "repr") (rReprV X.K) := by
  intro pins s σ H xs us Q I r h
  obtain ⟨v, t, rfl, hp, q⟩ := h
  obtain ⟨u, rfl, ru⟩ := vals1 r
  rcases hp with ⟨p, hp, ok, rfl⟩ | ⟨a, rfl, ha, rfl⟩
  · obtain ⟨h1, h2, h3, h4⟩ := rOk_is ok
    obtain ⟨as, rd⟩ := Dp.reads I p v u hp ru
    have fin : ∀ (t : Tok), EP X pins σ Q (.str p.shown t) { s with toks := s.toks + 1 } := fun t => ⟨.str _, H, I.tok _, ⟨_, rfl⟩, q⟩
    have big : ∀ a, Reads s.heap (.ref a) p as → wpAny (model X.prog X.w) X.A (call (.builtin "repr") [.ref a]) (EP X pins σ Q) X.xe s := fun a rd =>
      repr_of_reads' rd h1 (PyData.noDict_hsm h2) hg (by omega) (fun _ _ e => e) (fun h' u tk kp => ⟨.str _, H, I.kept (t' := tk) kp, ⟨_, rfl⟩, q⟩) h4
    cases rd with
    | none => exact PySem.P.repr_of_none (fin _)
    | bool b => exact PySem.P.repr_of_bool (fin _)
    | int i t => exact PySem.P.repr_of_int (by simpa [PyData.showable] using h1) (fin _)
    | str x t => exact PySem.P.repr_of_str (fin _) (by simpa [PyData.shown] using h4)
    | list a b c d => exact big _ (.list a b c d)
    | tuple a b c d => exact big _ (.tuple a b c d)
    | dict a b c d e => simp [PyData.hasDict] at h2
  · obtain rfl : u = Value.ref a := ru
    obtain ⟨_, hs, vs, kv, o, es, ep, ho, hx, hd, hk, hp, _⟩ := dk_of I.hok ha
    have hv : vs = [] := by cases kv; rfl
    subst hv
    have he : es.toList = [] := by cases h : es.toList with
      | nil => rfl
      | cons x l => rw [h] at hp; cases hp
    have rd : Reads s.heap (.ref a) (.dict []) (a :: [] ++ []) := .dict ho hx.1 hd (by rw [he]; exact .nil) (by rw [he]; exact .nil)
    have hd0 : (PyData.dict []).depth ≤ 5 := by first | decide | (unfold PyData.depth; decide) | (simp [PyData.depth, PyData.depthAll])
    refine repr_of_reads' rd (by rfl) (fun _ hm => ?_) hg (by omega) (fun _ _ e => e) (fun h' u tk kp => ⟨.str _, H, I.kept (t' := tk) kp, ⟨_, rfl⟩, ?_⟩) (by decide)
    · have : sysModules = a := by simpa using hm
      rw [← this] at hs
      simp at hs
    · exact q
end
def reprD (d : D) : Option Str := match d with
  | .dct => some "{}"
  | d => match toPy d with
    | some p => if rOk p = true then some p.shown else none
    | none => none
theorem reprD_rp {K : PySem.W.Frag} {cl : Cl} {G H : Hp} {v : V} {d : D} {t : Str} (e : Ex G H) (w : IsT K cl G H v d) (q : reprD d = some t) : Rp K H v t := by
  unfold reprD at q
  split at q
  · cases q
    have w := isT_val w (fun _ x => by cases x)
    cases w with
    | dct h => exact .inr ⟨_, rfl, e _ _ h, rfl⟩
  · split at q
    · rename_i pd qp
      split at q
      · rename_i ok
        cases q
        exact .inl ⟨pd, isT_dp e w qp, ok, rfl⟩
      · cases q
    · cases q
section
variable {X : Cx} {z : Z}
end
inductive Kd where
  | t2 (a b : Str) | t2r (a b f : Str) | s (b : Str) | sr (b f : Str)
def Kd.res : Kd → D → Option D
  | .t2 a b, _ => some (.tup [.str a, .str b])
  | .s b, _ => some (.str b)
  | .t2r a b _, d => match reprD d with
    | some t => if b.length + t.length ≤ 100000 then some (.tup [.str a, .str (b ++ t)]) else none
    | none => none
  | .sr b _, d => match reprD d with
    | some t => if b.length + t.length ≤ 100000 then some (.str (b ++ t)) else none
    | none => none
def kR (K : PySem.W.Frag) (C : Addr) : Kd → Value → Option Addr → Hp → VK → Prop
  | .t2 a b, _, _, H, Q => ∀ p o, H p = none → o.dict = none → Q (.ref p) (upd H p (.frz o (.tup [.str a, .str b])))
  | .s b, _, _, H, Q => Q (.str b) H
  | .t2r a b f, cls, x, H, Q => cls = .ref C ∧ ∃ dd fs v pd, x = some dd ∧ H dd = some (.xd fs) ∧ fs.lookup f = some v ∧ Rp K H v pd ∧ b.length + pd.length ≤ sizeLine ∧ ∀ p o, H p = none → o.dict = none → Q (.ref p) (upd H p (.frz o (.tup [.str a, .str (b ++ pd)])))
  | .sr b f, cls, x, H, Q => cls = .ref C ∧ ∃ dd fs v pd, x = some dd ∧ H dd = some (.xd fs) ∧ fs.lookup f = some v ∧ Rp K H v pd ∧ b.length + pd.length ≤ sizeLine ∧ Q (.str (b ++ pd)) H
def wK (K : PySem.W.Frag) (Q : VK) : List (Addr × Kd) → Value → Option Addr → Hp → Prop
  | [] => fun _ _ _ => False
  | (C, k) :: r => fun cls x H => ∃ b, PySem.W.exmOne K cls (.ref C) = some b ∧ (b = true → kR K C k cls x H Q) ∧ (b = false → wK K Q r cls x H)
def tsK (K : PySem.W.Frag) (C : Addr) (k : Kd) (io : Option Nat) : Addr → Value → Option Addr → TS := fun a cls x D σ H => (∀ i, io = some i → σ[i]? = some (some (.ref a))) ∧ kR K C k cls x H D.rt
def clK (K : PySem.W.Frag) (q : Addr × Kd × Option Nat) : Cl3 := (.ref q.1, q.2.2, tsK K q.1 q.2.1 q.2.2)
theorem mix_of {K : PySem.W.Frag} {D : Ends} {n : Nat} {σ : L2.St} {H : Hp} {cls : Value} {x : Option Addr} (hl : σ.length = n) : ∀ l : List (Addr × Kd × Option Nat), (∀ q ∈ l, ∀ i, q.2.2 = some i → i < n) → wK K D.rt (l.map fun q => (q.1, q.2.1)) cls x H → wMix K D (l.map (clK K)) cls x σ H
  | [], _, h => h
  | (C, k, none) :: r, hi, ⟨b, e, y, no⟩ => ⟨b, e, fun hb a na => ⟨fun i w => (by cases w), y hb⟩, fun hb => mix_of hl r (fun q hq => hi q (List.mem_cons_of_mem _ hq)) (no hb)⟩
  | (C, k, some i) :: r, hi, ⟨b, e, y, no⟩ => ⟨b, e, fun hb a na => ⟨fun j w => (by
      cases w
      rw [List.getElem?_set_self (by rw [hl]; exact hi _ List.mem_cons_self _ rfl)]), y hb⟩, fun hb => mix_of hl r (fun q hq => hi q (List.mem_cons_of_mem _ hq)) (no hb)⟩
section
variable {X : Cx} {C : Addr} {x n : Str} {i : Nat} {hds : List ExceptHandler} {l : List Cl3} {a b f : Str} {j1 j2 j3 : Nat} {np p1 p2 p3 p4 p5 p6 p7 p8 : Pos}
theorem hd_s (hc : Names X x (.ref C)) (r : HdsMix X hds l) :
    HdsMix X (.ExceptHandler (some (.Name x np)) none [.Return (some (.Constant (.str b) j2 p2)) p4] p5 :: hds) (clK X.K (C, .s b, none) :: l) :=
  .plain hc (fun ad oe cls d pn hz hf => pss_mono (pss_one (ps_ret pe_str)) fun D σ H h => h.2) r
theorem pe_shown {ad : Addr} {oe : Obj} {cls : Value} {d : Option Addr} {pn : List (Addr × Obj)} (T : XfC X.K C) (hno : PySem.W.findIn X.K (.ref C) f = some none) (hz : Zc cls d oe) (hf : ∃ vs, oe.data = .fields vs) (hi : X.N[i]? = some n) (hv : Vis X.env.scope n) (hd1 : (n == ("__debug__" : Str)) = false) (hd2 : (n == ("__classdict__" : Str)) = false)
    (hg : Gl X "repr") (hm : X.mg "repr" = none) (gd : X.A.guards = some []) (hu : X.A.units + 100 < cLine) (hb : attributeBase (.Name n p1) f X.env (eval (.Name n p1) X.env) = eval (.Name n p1) X.env) (hs : starEach [.Attribute (.Name n p1) f p2] X.env = (false, eval (.Attribute (.Name n p1) f p2) X.env) :: starEach [] X.env) :
    PE (X.suite ad ((ad, oe) :: pn)) (.BinOp (.Constant (.str b) j1 p3) .Add (.Call (.Name "repr" p4) [.Attribute (.Name n p1) f p2] [] p5) p6)
      (fun σ H Q => σ[i]? = some (some (.ref ad)) ∧ cls = .ref C ∧ ∃ dd fs v pd, d = some dd ∧ H dd = some (.xd fs) ∧ fs.lookup f = some v ∧ Rp X.K H v pd ∧ b.length + pd.length ≤ sizeLine ∧ Q (.str (b ++ pd)) H) := by
  have h1 : PE (X.suite ad ((ad, oe) :: pn)) (.Name n p1) (tVar i) := pe_var (X := X.suite ad ((ad, oe) :: pn)) hi hv hd1 hd2
  have h2 := pe_xf (X := X) (pos := p2) (a := ad) (oe := oe) (pn := pn) T hno hz hf h1 hb
  have h3 : CallR (X.suite ad ((ad, oe) :: pn)) (.builtin "repr") (rReprV X.K) := call_reprV (X := X.suite ad ((ad, oe) :: pn)) gd hu
  have h4 := pe_callB (X := X.suite ad ((ad, oe) :: pn)) (pos := p5) (p := p4) h3 hg hm (by first | exact PySem.boot_repr | decide +kernel) (pa_cons h2 pa_nil hs) (by decide) (by decide) hs (by rfl)
  exact pe_mono (pe_op op_add_str pe_str h4) fun σ H Q ⟨hσ, hcls, dd, fs, v, pd, e1, e2, e3, e4, e6, q⟩ => ⟨_, hσ, rfl, hcls, dd, fs, v, e1, e2, e3, v, pd, rfl, e4, _, _, rfl, rfl, e6, q⟩
end
end TN
namespace TN
open PySem PySem.Spec PyProof.Rows L2 LamX
section
variable {X : Cx} {C : Addr} {x n : Str} {i : Nat} {hds : List ExceptHandler} {l : List Cl3} {a b f : Str} {j1 j2 j3 : Nat} {np p1 p2 p3 p4 p5 p6 p7 p8 p9 p10 : Pos}
theorem hd_sr (hc : Names X x (.ref C)) (T : XfC X.K C) (hno : PySem.W.findIn X.K (.ref C) f = some none) (hi : X.N[i]? = some n) (hln : X.env.kindOf n = some .local) (hv : Vis X.env.scope n) (hd1 : (n == ("__debug__" : Str)) = false) (hd2 : (n == ("__classdict__" : Str)) = false)
    (hg : Gl X "repr") (hm : X.mg "repr" = none) (gd : X.A.guards = some []) (hu : X.A.units + 100 < cLine) (hb : attributeBase (.Name n p1) f X.env (eval (.Name n p1) X.env) = eval (.Name n p1) X.env) (hs : starEach [.Attribute (.Name n p1) f p2] X.env = (false, eval (.Attribute (.Name n p1) f p2) X.env) :: starEach [] X.env) (r : HdsMix X hds l) :
    HdsMix X (.ExceptHandler (some (.Name x np)) (some n) [.Return (some (.BinOp (.Constant (.str b) j1 p3) .Add (.Call (.Name "repr" p4) [.Attribute (.Name n p1) f p2] [] p5) p6)) p9] p8 :: hds) (clK X.K (C, .sr b f, some i) :: l) := by
  refine .named hc hi hln (fun ad oe cls d pn hz hf => ?_) r
  refine pss_mono (pss_one (ps_ret (pe_shown (X := X) (i := i) T hno hz hf hi hv hd1 hd2 hg hm gd hu hb hs))) fun D σ H h => ?_
  obtain ⟨h1, h2, dd, fs, v, pd, e1, e2, e3, e4, e6, q⟩ := h
  exact ⟨h1 i rfl, h2, dd, fs, v, pd, e1, e2, e3, e4, e6, q⟩
end
theorem takes_len {X : Cx} {W : WX} (t : Takes X W) : Takes X (fun cls d σ H => σ.length = X.N.length → W cls d σ H) := fun u s' ⟨a, B, sI, pins, σ, H, cls, d, e, I, nb, up, sky, na, os, ag, w⟩ =>
  t u s' ⟨a, B, sI, pins, σ, H, cls, d, e, I, nb, up, sky, na, os, ag, w I.len⟩
def TTmet (K : PySem.W.Frag) (fin : Hp → VK → Prop) (cl : List (Addr × Kd)) : (XK → Hp → VK → Prop) → Hp → VK → Prop := fun tl H Q => tl (fun cls x H' => wK K Q cl cls x H') H (fun _ H' => fin H' Q)
abbrev cxM (X : Cx) (Ng : List Str) (x : Str) (sg : Scope) (g : Addr) (cdg : Value) (s : Shared) (H : Hp) : Cx := (cxOf C8.CX0 X.prog X.w X.K X.mg X.base Ng x sg g cdg X.A X.stack s H C8.E0).nox
theorem met_gives {X : Cx} {Ng : List Str} {x a q : Str} {sg : Scope} {g : Addr} {cdg : Value} {h₀ : ExceptHandler} {hds : List ExceptHandler} {cl : List (Addr × Kd × Option Nat)} {fe : Expr} {fin : Hp → VK → Prop} {p1 p2 p3 p8 p9 : Pos} (hN : Ng.Nodup)
    (hi : ∀ q ∈ cl, ∀ i, q.2.2 = some i → i < Ng.length) (hh : ∀ s H, HdsMix (cxM X Ng x sg g cdg s H) (h₀ :: hds) (cl.map (clK X.K))) (hf : ∀ s H, PE (cxM X Ng x sg g cdg s H) fe (fun _ H Q => fin H Q)) (h0 : ∀ f : Addr, (L2.start Ng [V.ref f])[0]? = some (some (V.ref f)))
    (hsw : ∀ env, swapsWith (.Call (.Name a p1) [] [] p2) none p3.line env = pure false := by intro _; rfl) :
    GivesTo X Ng x sg g cdg [.Try [.Expr (.Call (.Name a p1) [] [] p2) p3] (h₀ :: hds) [] [] p8, .Return (some fe) p9] a q (TTmet X.K fin (cl.map fun q => (q.1, q.2.1))) := by
  intro f c' s H Q tl act hc h
  have tr := ps_try_mix (X := cxM X Ng x sg g cdg s H) (h₀ := h₀) (hds := hds) (l := cl.map (clK X.K)) (pos := p8) (body := [.Expr (.Call (.Name a p1) [] [] p2) p3])
    (tb := fun W D σ H => ∃ Ech : XK, (∀ cls d σ' H', σ'.length = Ng.length → Ech cls d H' → W cls d σ' H') ∧ σ[0]? = some (some (.ref f)) ∧ H c' = some (CodeO c' q) ∧ tl Ech H (fun _ H' => D.nx σ H'))
    rfl rfl hN (fun W pn xe tk po => ⟨fun pins s' σ H' D I w => by
      obtain ⟨Ech, hW, w1, w2, w3⟩ := w
      have hp := act _ pn xe Ech p1 p2 (takes_len tk) (fun cls d σ' H' e hl => hW cls d σ' H' hl e)
      exact (pss_one (ps_expr (pos := p3) hp (hsw _))).run pins s' σ H' D I ⟨w1, w2, w3⟩⟩) (hh s H)
  refine ⟨_, pss_cons tr (pss_one (ps_ret (pos := p9) (hf s H))), ?_⟩
  exact ⟨fun cls x H' => wK X.K Q (cl.map fun q : Addr × Kd × Option Nat => (q.1, q.2.1)) cls x H', fun cls x σ' H' hl w => mix_of (D := { nx := fun σ H => fin H Q, rt := Q }) hl cl hi w, h0 f, hc, h⟩
end TN
namespace TN
open PySem PySem.Spec PyProof.Rows L2 LamX
def ExP (P : Addr) (H H' : Hp) : Prop := ∀ b o, b ≠ P → H b = some o → H' b = some o
theorem Rep.tab {z : Z} {T G H H' : Hp} {env : Ev} {σ : L2.St} {P : Addr} {q : Str} (r : Rep z T G H env σ) (hP : (P, q) ∈ z.Ts) (e : ExP P H H') (tb : Tabs z.Ts H') : Rep z T G H' env σ := by
  have nP : ∀ {a}, (∀ p ∈ z.Ts, p.1 ≠ a) → a ≠ P := fun h w => h _ hP w.symm
  refine ⟨⟨fun a o h => e a o (fun w => ?_) (r.f.exG a o h), r.f.g0, r.f.gn, fun a o h1 h2 h3 => e a o (nP h2) (r.f.fr a o h1 h2 h3), fun a h => ?_, r.f.m0, tb, r.f.t1⟩, r.len, fun i s es => ?_, r.dis, fun a o h => e a o (nP (r.f.nt0 (r.t0 a (by rw [h]; intro w; cases w)))) (r.exT a o h), r.gt, r.t0⟩
  · rw [w, r.f.gT _ hP] at h; cases h
  · obtain ⟨⟨vs, h1⟩, h2⟩ := r.f.mm a h
    exact ⟨⟨vs, e a _ (nP (r.f.ntH (by rw [h1]; intro _ w; cases w))) h1⟩, h2⟩
  · refine (r.sl i s es).to (Ex.refl G) (fun q os eq => ?_) r.f.m0
    obtain ⟨o, g, _, hq⟩ := r.own (i := i) (p := q) ⟨⟨s, es, os⟩, eq⟩
    exact ⟨(e q o (nP (r.ownT (i := i) (p := q) ⟨⟨s, es, os⟩, eq⟩)) hq).trans hq.symm, fun _ => g⟩
section
variable {X : Cx} {pins : List (Addr × Obj)} {σ : L2.St} {H : Hp} {s : Shared}
theorem lam_new {T : List (Addr × Str)} {c P : Addr} {params : Arguments} {body : Expr} {scope : Scope} {pos : Pos} {E : Value → Shared → Prop} {Q : Value → Shared → Prop} {q : Str} (hq : q = X.env.qual ++ "<lambda>") (I : Inv X pins σ H s) (TB : TabB X.base X.mg c P) (hcode : X.env.code = .ref c)
    (hm : (P, q) ∈ T) (hu : ∀ p ∈ T, p.1 = P → p.2 = q) (hT : Tabs T H) (hdef : defaultsOf params X.env = ([], [])) (hfree : ∀ y ∈ scope.names, y.2 = .free → ∃ c, X.env.cells.lookup y.1 = some c)
    (fin : ∀ (f c' : Addr) (pm ctv : Value) (H1 : Hp) (s' : Shared), Inv X pins σ H1 s' → ExP P H H1 → Tabs T H1 → s'.heap.get? f = some (PySem.W.kla_obj "<lambda>" q params body scope (cloFrom X.env.cells scope.names []) pm c' ctv) → H1 f = none → f ∉ frs X.stack → H1 c' = some (CodeO c' q) → Q (.ref f) s') :
    wpAny (model X.prog X.w) X.A (eval (.Lambda params body scope pos) X.env) Q E s := by
  subst hq
  obtain ⟨ps, hP, tri, all⟩ := hT _ hm
  have atP : s.heap.get? P = some { cls := .none, data := .fields ps } := I.hok P _ hP
  have bl : s.heap.BuiltinsAt X.mg P := TB.bm.keeps I.bk
  have late : ∀ f, s.heap.objs.size ≤ f → f ∉ frs X.stack := fun f hf w => by
    rcases List.mem_cons.mp (I.stkSub _ w) with e | e
    · exact absurd (e ▸ I.lt) (Nat.not_lt.mpr hf)
    · exact I.nofs hf e
  refine PySem.W.kla_eval hdef ?_
  cases hc : codeAmong pos ps.toList with
  | some cv =>
    obtain ⟨c', e, hco⟩ := all pos cv hc
    subst e
    refine PySem.W.kla_makeFunctionHit (mg := X.mg) (c := c) (P := P) (ps := ps) (closure_ok hfree) I.ok.glob (I.mod.glob.keeps I.bk) hcode (TB.code.keeps I.bk) atP tri hc bl fun ctv h' tk hx hsz => ?_
    exact fin h'.objs.size c' _ ctv H _ (I.kept (t' := tk) fun b o e => Heap.get?_push_of_some _ (hx b o e)) (fun _ _ _ h => h) hT (Heap.get?_push_size _ rfl) (I.hok.fresh hsz) (late _ hsz) hco
  | none =>
    refine PySem.W.kla_makeFunction (mg := X.mg) (c := c) (P := P) (ps := ps) (closure_ok hfree) I.ok.glob (I.mod.glob.keeps I.bk) hcode (TB.code.keeps I.bk) atP tri hc TB.gP bl fun c' ctv h' tk hx hge hlt hrec htb => ?_
    obtain ⟨c2, oc, vs, t, e2, hoc, hd, hv⟩ := hrec
    cases e2
    have nC : H c' = none := I.hok.fresh hge
    have big : s.heap.objs.size ≤ h'.objs.size := Nat.le_trans hge (Nat.le_of_lt hlt)
    have far : ∀ {b o}, H b = some o → h'.objs.size ≠ b := fun {b o} h w => by
      have n : H h'.objs.size = none := I.hok.fresh big
      rw [w, h] at n; cases n
    have J := inv_table (t' := tk) (more := #[rawInt pos.line, rawInt pos.col, .ref c']) (h' := h'.push (PySem.W.kla_obj "<lambda>" (X.env.qual ++ "<lambda>") params body scope (cloFrom X.env.cells scope.names []) ((X.mg "__name__").getD .none) c' ctv)) I hP
      (fun b o hb e => Heap.get?_push_of_some _ (hx b o hb e)) (Heap.get?_push_of_some _ htb) hge ⟨oc, vs, t, Heap.get?_push_of_some _ hoc, hd, hv⟩
    have ex : ExP P H (upd (upd H P (.tbl (ps ++ #[rawInt pos.line, rawInt pos.col, .ref c']))) c' (CodeO c' (X.env.qual ++ "<lambda>"))) := fun b o nb h => by
      rw [upd_ne (ne_of_none h nC), upd_ne nb, h]
    refine fin h'.objs.size c' _ ctv _ _ J ex (fun p hp => ?_) (Heap.get?_push_size _ rfl) ?_ (late _ big) upd_same
    · by_cases z : p.1 = P
      · refine ⟨ps ++ #[rawInt pos.line, rawInt pos.col, .ref c'], by rw [z, upd_ne (ne_of_none hP nC), upd_same], by simpa using PySem.TriplesOk_snoc _ _ _ _ tri, fun p' cv hcv => ?_⟩
        rw [hu p hp z]
        have hcv : codeAmong p' (ps.toList ++ [rawInt pos.line, rawInt pos.col, .ref c']) = some cv := by simpa using hcv
        rcases among_app _ tri hcv with w | w
        · obtain ⟨c0, a1, a2⟩ := all p' cv w
          exact ⟨c0, a1, ex _ _ (fun e => by rw [e, hP] at a2; unfold CodeO at a2; cases a2) a2⟩
        · exact ⟨c', w, upd_same⟩
      · obtain ⟨qs, a1, a2, a3⟩ := hT p hp
        refine ⟨qs, ex _ _ z a1, a2, fun p' cv hcv => ?_⟩
        obtain ⟨c0, b1, b2⟩ := a3 p' cv hcv
        exact ⟨c0, b1, ex _ _ (fun e => by rw [e, hP] at b2; unfold CodeO at b2; cases b2) b2⟩
    · rw [upd_ne (Nat.ne_of_gt hlt), upd_ne (far hP)]
      exact I.hok.fresh big
def tLamP (P : Addr) (T : List (Addr × Str)) (TT : (XK → Hp → VK → Prop) → Hp → VK → Prop) (t : XK → TE) : TE := fun σ H Q => Tabs T H ∧ ∀ H1, ExP P H H1 → Tabs T H1 → TT (fun E H' Q' => t E σ H' Q') H1 Q
theorem pe_lamP {T : List (Addr × Str)} {TT : (XK → Hp → VK → Prop) → Hp → VK → Prop} {x a q : Str} {g c P : Addr} {k : Nat} {pg : Arguments} {bg : List Stmt} {sg : Scope} {dV kV doc pm cdv ct oc : Value} {an od : Option Addr} {osl : Array (Option Value)} {Ng : List Str}
    {params : Arguments} {body : Expr} {scope : Scope} {t : XK → TE} {p lpos pos : Pos} (hq : q = X.env.qual ++ "<lambda>") (hg : Gl X x) (hm : X.mg x = some (.ref g)) (hk : PySem.W.keepIn X.K (.ref g) = true)
    (lk : X.K.lookup g = some ⟨oc, od, .func (PySem.W.fnOf x x pg bg sg dV kV doc pm an cdv ct), osl⟩) (hcg : PySem.W.codeIn X.K cdv x = true) (hb : L2.Binds X.K (PySem.W.fnOf x x pg bg sg dV kV doc pm an cdv ct) [a] []) (Sg : FnScope Ng [a] sg) (hNg : Ng[0]? = some a) (hva : Vis sg a)
    (hG : GivesTo X Ng x sg g cdv bg a q TT) (TB : TabB X.base X.mg c P) (hcode : X.env.code = .ref c) (hmT : (P, q) ∈ T) (hu : ∀ p ∈ T, p.1 = P → p.2 = q) (hr : Room (k + 2) X.A) (L : LamS X.env.scope scope) (hdef : defaultsOf params X.env = ([], []))
    (hbind : ∀ (q : Str) (cl : List (Str × Addr)) (pm cv ctv : Value), bindArgs (PySem.W.kla_fn "<lambda>" q params body scope cl pm cv ctv) ⟨[], []⟩ = pure [])
    (hbody : ∀ (A : Around) (outer : List Env) (s : Shared) (H : Hp) (E : XK) (f c' : Addr), Room k (A.deeper (lamEnv X scope s.heap.objs.size f c')) → PE (lamCx X A outer s H E scope f c') body (t E))
    (hdb : (x == ("__debug__" : Str)) = false := by decide) (hd : (a == ("__debug__" : Str)) = false := by decide) (hcd : (a == ("__classdict__" : Str)) = false := by decide) :
    PE X (.Call (.Name x p) [.Lambda params body scope lpos] [] pos) (tLamP P T TT t) := by
  subst hq
  refine ⟨fun pins s σ H Q I ⟨hT, h⟩ => wpAny_Call_Name_kw (ld_glob I hg hm ?_ hdb)⟩
  refine PySem.W.callWith_K (h₀ := X.base) I.ok.mod.kin hk ?_ (by rfl) (by rfl)
  show wpAny _ _ (spliced ((false, eval (.Lambda params body scope lpos) X.env) :: backTo pos (starEach [] X.env))) _ _ s
  refine Calls.spliced_cons (lam_new rfl I TB hcode hmT hu hT hdef (L.has I.ok) fun f c' pm' ctv H1 s' I1 eN T1 hf hfn hfr hco => Calls.spliced_nil ⟨I1.kIn, ?_⟩)
  have run : codeAny (model X.prog X.w) X.A (.call (.ref g) ⟨[.ref f], []⟩) (L2.CR C8.CX0 X.stack X.prog X.w H1 s' Q C8.E0) s' :=
    run_ofS (N := Ng) (ps := [a]) (us := [.ref f]) (vs := [.ref f]) lk hcg Sg hr I1.env0 (hb s' [.ref f] I1.kIn rfl) (.cons rfl .nil) rfl fun hr' => by
      obtain ⟨t', ht', hq'⟩ := hG f c' s' H1 Q (fun E H' Q' => t E σ H' Q') (fun W pn xe E p1 p2 tk hW => pe_act (i := 0) I1 L hf hfn hfr (hbind _ _ _ _ _) tk hW hr' (fun A outer s H hr2 => hbody A outer s H E f c' hr2) hNg hva hd hcd) hco (h H1 eN T1)
      exact ⟨t', ht'.nox, hq'⟩
  refine wpAny_call (codeAny_mono run fun r s2 w => ?_)
  cases r with
  | error e => exact (show False from w).elim
  | ok fl => cases fl with
    | ret u => exact I1.after w
    | next => exact w.elim
    | brk => exact w.elim
    | cont => exact w.elim
end
end TN
namespace TN
open PySem PySem.Spec PyProof.Rows L2 LamX
abbrev Bd := Ev → Out (Out Unit × Ev)
def XV (z : Z) (c : Nat) (d : D) (G H : Hp) (x : Option Addr) : Prop := match z.xn c with
  | none => x = none
  | some n => ∃ dd v, x = some dd ∧ H dd = some (.xd [(n, v)]) ∧ Is z.K z.cl G v d
def CBd (z : Z) (T G : Hp) (σ : L2.St) (Q : VK) (W : XK) : Out Unit × Ev → Prop := fun p => match p.1 with
  | .ok _ => ∀ v H' G', Rep z T G' H' p.2 σ → Ex G G' → Q v H'
  | .exc c d => ∀ H' G' x, Rep z T G' H' p.2 σ → Ex G G' → XV z c d G' H' x → W (z.xc c) x H'
  | .no => False
def LamR (z : Z) (t : XK → TE) (bd : Bd) : Prop := ∀ (σ : L2.St) (H T G : Hp) (env : Ev) (Q : VK) (W : XK), Rep z T G H env σ → Pg z E0 (CBd z T G σ Q W) (bd env) → t W σ H Q
def bdFn (φ : Fn) (g : FA) : Bd := fun env => (g env).bind fun p => (ofO (fixAll p.2 p.1)).bind fun q => match φ q.1 with
  | .ok _ => .ok (.ok (), q.2)
  | .exc c d => .ok (.exc c d, q.2)
  | .no => .no
theorem bd_call {z : Z} {T G H : Hp} {env : Ev} {σ : L2.St} {φ : Fn} {ds : List D} {vs : List V} {n : Nat} {Q : VK} {W : XK} (r : Rep z T G H env σ) (a : IsA z.K z.cl G vs ds) (lv : vs.length = n)
    (h : match φ ds with
      | .ok _ => CBd z T G σ Q W (.ok (), env)
      | .exc c d => CBd z T G σ Q W (.exc c d, env)
      | .no => False) : spF z false n φ vs H Q W := by
  have hM : ∀ a, (none : Option Addr) = some a → z.H0 a = none ∨ z.M = some a := fun a e => by cases e
  refine ⟨G, ds, none, .pure a, ⟨r.f.exG, r.f.tb, r.f.gT⟩, lv, ?_⟩
  have back : ∀ {G' H' : Hp}, Fr (z.at_ G H none) G' H' → Rep z T G' H' env σ := fun {G' H'} f' => r.back hM f' rfl (fun i s es => .inl ⟨es, fun _ _ _ w => by cases w⟩) (fun _ _ w => w) (fun _ _ w => by cases w)
  cases q : φ ds with
  | no => rw [q] at h; exact h
  | ok s => rw [q] at h; exact fun v H' G' f' _ _ => h v H' G' (back f') f'.g0
  | exc c d => rw [q] at h; exact fun H' x ⟨G', f', w⟩ => h H' G' x (back f') f'.g0 w
theorem CBd.mono {z : Z} {T G G' : Hp} {σ : L2.St} {Q : VK} {W : XK} {p : Out Unit × Ev} (h : CBd z T G σ Q W p) (e : Ex G G') : CBd z T G' σ Q W p := by
  obtain ⟨p1, p2⟩ := p
  cases p1 with
  | ok u => exact fun v H' G2 r x => h v H' G2 r (e.trans x)
  | exc c d => exact fun H' G2 x r y w => h H' G2 x r (e.trans y) w
  | no => exact h
theorem lamR_fn {z : Z} {φ : Fn} {g : FA} {n : Nat} (hln : ∀ env rs e2, g env = .ok (rs, e2) → rs.length = n) : LamR z (fun W => tCall (spF z false n φ) [] W (tAr z E0 g)) (bdFn φ g) := by
  intro σ H T G env Q W r h
  have h' := Pg.bind h
  refine ⟨T, G, env, r, ?_⟩
  cases hq : g env with
  | no => rw [hq] at h'; exact h'
  | exc c d => rw [hq] at h'; exact h'
  | ok p =>
    rw [hq] at h'
    intro vs H2 G2 r2 e2 w2
    obtain ⟨⟨ds, e3⟩, ef, hp⟩ := (Pg.bind (show Pg z E0 _ ((ofO (fixAll p.2 p.1)).bind _) from h')).ofO
    obtain ⟨G3, r3, x3, a⟩ := w2.fix r2 ef
    rw [List.append_nil]
    refine bd_call r3 a (w2.length.trans (hln _ _ _ hq)) ?_
    dsimp only at hp
    cases q : φ ds with
    | no => rw [q] at hp; exact hp
    | ok s => rw [q] at hp; exact CBd.mono hp (e2.trans x3)
    | exc c d => rw [q] at hp; exact CBd.mono hp (e2.trans x3)
def metTab (N : Nat) (l : List (Nat × Kd)) (c : Nat) (d : D) : Option D := if c < N then match l.lookup c with
  | some k => k.res d
  | none => none else none
def fMet (N : Nat) (l : List (Nat × Kd)) (fin : D) (bd : Bd) : F := fun env => (noX (bd env)).bind fun p => match p.1 with
  | .ok _ => .ok (.d fin, p.2)
  | .exc c d => (ofO (metTab N l c d)).bind fun r => .ok (.d r, p.2)
  | .no => .no
def finR : D → Hp → VK → Prop
  | .str b => fun H Q => Q (.str b) H
  | .tup ds => fun H Q => ∃ bs : List Str, ds = bs.map D.str ∧ ∀ p o, H p = none → o.dict = none → Q (.ref p) (upd H p (.frz o (.tup (bs.map V.str))))
  | _ => fun _ _ => False
def finOk : D → Bool
  | .str _ => true
  | .tup ds => ds.all fun d => match d with
    | .str _ => true
    | _ => false
  | _ => false
theorem isA_strs {K : PySem.W.Frag} {cl : Cl} {G : Hp} : ∀ bs : List Str, IsA K cl G (bs.map V.str) (bs.map D.str)
  | [] => .nil
  | b :: bs => .cons (.str b) (isA_strs bs)
theorem all_strs : ∀ ds : List D, (ds.all fun d => match d with
    | .str _ => true
    | _ => false) = true → ∃ bs : List Str, ds = bs.map D.str
  | [], _ => ⟨[], rfl⟩
  | d :: ds, h => by
    simp only [List.all_cons, Bool.and_eq_true] at h
    obtain ⟨bs, e⟩ := all_strs ds h.2
    cases d with
    | str b => exact ⟨b :: bs, by rw [e]; rfl⟩
    | _ => simp at h
theorem fin_ok {z : Z} {T G H : Hp} {env : Ev} {σ : L2.St} {Q : VK} {fin : D} (ok : finOk fin = true) (r : Rep z T G H env σ) (h : CR z T σ G Q (.d fin, env)) : finR fin H Q := by
  unfold finOk at ok
  split at ok
  · exact h _ H G r (Ex.refl G) (.str _)
  · obtain ⟨bs, e⟩ := all_strs _ ok
    subst e
    refine ⟨bs, rfl, fun p o hp hd => ?_⟩
    have g := (r.nn hp).1
    exact h _ _ _ (r.grow hp) (Ex.new g) (.tup (.new hd) ((isA_strs bs).mono (Ex.new g)))
  · cases ok
def MetB (P : Program) (w : World) (K : PySem.W.Frag) (mg : Str → Option Value) (base : Heap) (z : Z) (x : Str) (N : Nat) (l : List (Nat × Kd)) (fin : D) : Prop :=
  ∃ (xa : Nat → Addr) (g : Addr) (pg : Arguments) (bg : List Stmt) (sg : Scope) (kV doc pm cdv ct oc : Value) (an od : Option Addr) (osl : Array (Option Value)) (Ng : List Str) (a : Str),
    mg x = some (.ref g) ∧ PySem.W.keepIn K (.ref g) = true ∧ K.lookup g = some ⟨oc, od, .func (PySem.W.fnOf x x pg bg sg .none kV doc pm an cdv ct), osl⟩ ∧ PySem.W.codeIn K cdv x = true ∧ L2.Binds K (PySem.W.fnOf x x pg bg sg .none kV doc pm an cdv ct) [a] [] ∧ FnScope Ng [a] sg ∧ Ng[0]? = some a ∧ Vis sg a ∧
    (a == ("__debug__" : Str)) = false ∧ (a == ("__classdict__" : Str)) = false ∧ finOk fin = true ∧ (∀ c < N, z.xc c = .ref (xa c)) ∧ (∀ q ∈ l, q.1 < N) ∧ (∀ c < N, ∀ q ∈ l, PySem.W.exmOne K (.ref (xa c)) (.ref (xa q.1)) = some (c == q.1)) ∧
    (∀ q ∈ l, match q.2 with
      | .t2r _ _ f => z.xn q.1 = some f
      | .sr _ f => z.xn q.1 = some f
      | _ => True) ∧
    ∀ X : Cx, X.prog = P → X.w = w → X.K = K → X.mg = mg → X.base = base → X.A.guards = some [] → Room 2 X.A → ∀ q, GivesTo X Ng x sg g cdv bg a q (TTmet K (finR fin) (l.map fun p : Nat × Kd => (xa p.1, p.2)))
theorem MetB.at_ {P : Program} {w : World} {K : PySem.W.Frag} {mg : Str → Option Value} {base : Heap} {z : Z} {x : Str} {N : Nat} {l : List (Nat × Kd)} {fin : D} (h : MetB P w K mg base z x N l fin) (G H : Hp) (M : Option Addr) : MetB P w K mg base (z.at_ G H M) x N l fin := h
theorem wK_of {K : PySem.W.Frag} {xa : Nat → Addr} {N c : Nat} {x : Option Addr} {H : Hp} {Q : VK} (hc : c < N) : ∀ l : List (Nat × Kd), (∀ q ∈ l, PySem.W.exmOne K (.ref (xa c)) (.ref (xa q.1)) = some (c == q.1)) → (∀ k, l.lookup c = some k → kR K (xa c) k (.ref (xa c)) x H Q) → (l.lookup c).isSome = true → wK K Q (l.map fun p : Nat × Kd => (xa p.1, p.2)) (.ref (xa c)) x H
  | [], _, _, h => by cases h
  | (h, k) :: l, e, y, s => by
    refine ⟨c == h, e (h, k) List.mem_cons_self, fun hb => ?_, fun hb => ?_⟩
    · have : c = h := by simpa using hb
      subst this
      exact y k (by simp [List.lookup])
    · have lk : ((h, k) :: l).lookup c = l.lookup c := by simp [List.lookup, hb]
      exact wK_of hc l (fun q hq => e q (List.mem_cons_of_mem _ hq)) (fun k' hk => y k' (lk.trans hk)) (by rw [← lk]; exact s)
theorem kR_of {z : Z} {T G H : Hp} {env : Ev} {σ : L2.St} {Q : VK} {k : Kd} {c : Nat} {d res : D} {x : Option Addr} {C : Addr} (r : Rep z T G H env σ) (hx : XV z c d G H x) (hn : match k with
      | .t2r _ _ f => z.xn c = some f
      | .sr _ f => z.xn c = some f
      | _ => True) (hr : k.res d = some res) (h : CR z T σ G Q (.d res, env)) : kR z.K C k (.ref C) x H Q := by
  have two : ∀ a b : Str, CR z T σ G Q (.d (.tup [.str a, .str b]), env) → ∀ p o, H p = none → o.dict = none → Q (.ref p) (upd H p (.frz o (.tup [.str a, .str b]))) := fun a b h p o hp hd => by
    have g := (r.nn hp).1
    exact h _ _ _ (r.grow hp) (Ex.new g) (.tup (.new hd) (.cons (.str a) (.cons (.str b) .nil)))
  cases k with
  | t2 a b => cases hr; exact two a b h
  | s b => cases hr; exact h _ H G r (Ex.refl G) (.str b)
  | t2r a b f =>
    unfold XV at hx
    rw [hn] at hx
    obtain ⟨dd, v, e1, e2, iv⟩ := hx
    simp only [Kd.res] at hr
    split at hr
    · rename_i t q
      split at hr
      · rename_i hl
        cases hr
        exact ⟨rfl, dd, _, v, t, e1, e2, by simp [List.lookup], reprD_rp r.f.exG (.inl iv) q, line100 hl, two a _ h⟩
      · cases hr
    · cases hr
  | sr b f =>
    unfold XV at hx
    rw [hn] at hx
    obtain ⟨dd, v, e1, e2, iv⟩ := hx
    simp only [Kd.res] at hr
    split at hr
    · rename_i t q
      split at hr
      · rename_i hl
        cases hr
        exact ⟨rfl, dd, _, v, t, e1, e2, by simp [List.lookup], reprD_rp r.f.exG (.inl iv) q, line100 hl, h _ H G r (Ex.refl G) (.str _)⟩
      · cases hr
    · cases hr
theorem look_mem {c : Nat} {k : Kd} : ∀ {l : List (Nat × Kd)}, l.lookup c = some k → (c, k) ∈ l
  | [], h => by cases h
  | (a, b) :: l, h => by
    simp only [List.lookup] at h
    split at h
    · rename_i e
      cases h
      have : c = a := by simpa using e
      rw [this]; exact List.mem_cons_self
    · exact List.mem_cons_of_mem _ (look_mem h)
structure MkLam (X : Cx) (z : Z) (q : Str) : Prop where
  hq : q = X.env.qual ++ "<lambda>"
  ex : ∃ c P, TabB X.base X.mg c P ∧ X.env.code = .ref c ∧ (P, q) ∈ z.Ts ∧ ∀ p ∈ z.Ts, p.1 = P → p.2 = q
section
variable {X : Cx} {z : Z} {E : XK} {k j N : Nat} {x q : Str} {l : List (Nat × Kd)} {fin : D} {bd : Bd} {t : XK → TE} {p lpos pos : Pos} {params : Arguments} {body : Expr} {scope : Scope}
theorem we_met (M : MetB X.prog X.w X.K X.mg X.base z x N l fin) (o : OkX X z E k) (gd : X.A.guards = some []) (ml : MkLam X z q) (hR : LamR z t bd)
    (hbody : ∀ (A : Around) (outer : List Env) (s : Shared) (H : Hp) (W : XK) (f c' : Addr), Room j (A.deeper (lamEnv X scope s.heap.objs.size f c')) → PE (lamCx X A outer s H W scope f c') body (t W))
    (hk : j + 2 ≤ k := by decide) (hg : Gl X x := by rfl) (L : lamSB X.env.scope scope = true := by first | rfl | decide +kernel) (hdef : defaultsOf params X.env = ([], []) := by rfl)
    (hbind : ∀ (q : Str) (cl : List (Str × Addr)) (pm cv ctv : Value), bindArgs (PySem.W.kla_fn "<lambda>" q params body scope cl pm cv ctv) ⟨[], []⟩ = pure [] := by intro _ _ _ _ _; rfl) (hdb : (x == ("__debug__" : Str)) = false := by decide) :
    PE X (.Call (.Name x p) [.Lambda params body scope lpos] [] pos) (tE z E (fMet N l fin bd)) := by
  obtain ⟨xa, g, pg, bg, sg, kV, doc, pm, cdv, ct, oc, an, od, osl, Ng, a, h1, h2, h3, h4, h5, h6, h7, h8, h9, h10, h11, h12, h13, h14, h15, h16⟩ := M
  obtain ⟨c, P, TB, hcode, hT, hu⟩ := ml.ex
  refine pe_mono (pe_lamP (t := t) (k := j) ml.hq hg h1 h2 h3 h4 h5 h6 h7 h8 (h16 X rfl rfl rfl rfl rfl gd (o.room.mono (by omega)) q) TB hcode hT hu (o.room.mono (by omega)) (lamS_by L) hdef hbind hbody hdb h9 h10) fun σ H Q ⟨T, G, env, r, h⟩ => ⟨r.f.tb, fun H1 ex t1 => ?_⟩
  have r1 := r.tab hT ex t1
  refine hR σ H1 T G env _ _ r1 ((Pg.noX (Pg.bind h)).imp fun pp hp => ?_)
  obtain ⟨p1, p2⟩ := pp
  cases p1 with
  | no => exact hp
  | ok u => exact fun v H' G' r' x' => fin_ok h11 r' (CR.mono hp x')
  | exc cn d =>
    intro H' G' xo r' x' hx
    obtain ⟨res, er, hp⟩ := (Pg.bind (show Pg z E _ ((ofO (metTab N l cn d)).bind _) from hp)).ofO
    unfold metTab at er
    split at er
    · rename_i hc
      split at er
      · rename_i kd lk
        rw [h12 cn hc, o.K]
        rw [o.K] at h14
        have mem : (cn, kd) ∈ l := look_mem lk
        exact wK_of hc l (h14 cn hc) (fun k' hk' => by
          rw [lk] at hk'; cases hk'
          exact kR_of r' hx (h15 _ mem) er (CR.mono hp x')) (by rw [lk]; rfl)
      · cases er
    · cases er
end
end TN
namespace TN
open PySem PySem.Spec PyProof.Rows L2 LamX
theorem sp_reads {N ps : List Str} {sc : Scope} {z : Z} {m : Bool} {body : S} {vs : List V} {H : Hp} {Q : VK} {E : XK} (Sc : FnScope N ps sc) (h : spF z m ps.length (fnOf m N.length body) vs H Q E) :
    ∃ G M, tS (z.at_ G H M) E body { nx := fun _ H' => Q .non H', rt := Q } (L2.start N vs) H := by
  obtain ⟨G, ds, M, a, e, hl, h⟩ := h
  refine ⟨G, M, ?_⟩
  obtain ⟨env, es, h⟩ := (Pg.bind h).ofO
  have hn : vs.length ≤ N.length := by
    have := Sc.pre
    rw [hl, ← this, List.length_take]
    exact Nat.min_le_right _ _
  have r := rep_start a e hn es
  have pa : ∀ {G' H' : Hp} {env' : Ev} {σ' : L2.St} {xs : List D}, Rep (z.at_ G H M) (fun _ => none) G' H' env' σ' → parOf m env' = some xs → ∀ b, (z.at_ G H M).M = some b → ∃ ws, H' b = some (.lst ws) ∧ IsA z.K z.cl G' ws xs := by
    intro G' H' env' σ' xs r' ep b hb'
    cases a with
    | pure a => cases hb'
    | @wr p ws vs xs0 ds g hp a a' =>
      cases hb'
      unfold parOf at ep
      rw [if_pos rfl] at ep
      split at ep
      · rename_i ys q
        cases ep
        obtain ⟨p', vs', _, _, hm, hp', ia⟩ := r'.sl 0 _ q
        cases hm
        exact ⟨vs', hp', ia⟩
      · cases ep
  refine ⟨_, G, env, r, (Pg.bind h).imp fun p hp => ?_⟩
  obtain ⟨p1, p2⟩ := p
  cases p1 with
  | nx =>
    intro σ' H' G' r' x'
    obtain ⟨xs, ex, hp⟩ := (Pg.bind hp).ofO
    exact hp .non H' G' r'.f .non (pa r' ex)
  | ret rr =>
    intro v σ' H' G' r' x' w'
    obtain ⟨q, eq, hp⟩ := (Pg.bind hp).ofO
    obtain ⟨xs, ex, hp⟩ := (Pg.bind hp).ofO
    refine hp v H' G' r'.f ?_ (pa r' ex)
    cases rr with
    | d y => cases eq; exact w'
    | new ys =>
      cases eq
      obtain ⟨p, vs', e1, hp', ia, g, _, h0, hm, _⟩ := w'
      exact ⟨p, vs', e1, hp', ia, g, h0, hm⟩
    | at_ i =>
      have w' : σ'[i]?.join = some v := w'
      simp only [retOf] at eq
      split at eq
      · rename_i y q
        cases eq
        have sl := r'.sl i _ q
        rw [w'] at sl
        obtain ⟨v', e1, sl⟩ := sl
        cases e1
        exact sl
      · rename_i ys q
        cases eq
        have sl := r'.sl i _ q
        rw [w'] at sl
        obtain ⟨p, vs', e1, g, _, h0, hp', ia⟩ := sl
        cases e1
        exact ⟨p, vs', rfl, hp', ia, g, h0, fun e2 => r'.f.m0 p e2 h0⟩
      · cases eq
structure FunC (K : PySem.W.Frag) (x qual : Str) (st : Stmt) (f : Addr) (fd : FuncData) (c : Addr) : Prop where
  ex : ∃ (oc : Value) (od : Option Addr) (kV doc pm : Value) (an : Option Addr) (ct : Value) (osl : Array (Option Value)), fd = PySem.W.fnOf x qual (defArgs st) (defBody st) (defScope st) .none kV doc pm an (.ref c) ct ∧ K.lookup f = some ⟨oc, od, .func fd, osl⟩ ∧ PySem.W.codeIn K (.ref c) qual = true
  kp : PySem.W.keepIn K (.ref f) = true
theorem FunC.fn {K : PySem.W.Frag} {x qual : Str} {st : Stmt} {f : Addr} {fd : FuncData} {c : Addr} (h : FunC K x qual st f fd c) : Fun K x qual st f fd :=
  let ⟨oc, od, kV, doc, pm, an, ct, osl, e1, e2, e3⟩ := h.ex
  ⟨⟨oc, od, kV, doc, pm, an, .ref c, ct, osl, e1, e2, e3⟩, h.kp⟩
def lamQ (qual : Str) (sc : Scope) : Str := (envOfC qual sc 0 0 .none).qual ++ "<lambda>"
section
variable {P : Program} {w : World} {K : PySem.W.Frag} {mg : Str → Option Value} {base : Heap}
theorem fn_okG {x qual : Str} {st : Stmt} {f c P0 : Addr} {fd : FuncData} {N ps : List Str} {k : Nat} {z : Z} {m : Bool} {body : S} (Fn' : FunC K x qual st f fd c) (Sc : FnScope N ps (defScope st)) (hK : K = z.K)
    (tb : TabB base mg c P0) (hT : (P0, lamQ qual (defScope st)) ∈ z.Ts) (hu : ∀ p ∈ z.Ts, p.1 = P0 → p.2 = lamQ qual (defScope st))
    (hb : ∀ (A : Around) (outer : List Env) (s : Shared) (H : Hp) (E : XK) (G H' : Hp) (M : Option Addr), OkX (cxOf (L2.CX P w) P w K mg base N qual (defScope st) f (.ref c) A outer s H E) (z.at_ G H' M) E k →
      (cxOf (L2.CX P w) P w K mg base N qual (defScope st) f (.ref c) A outer s H E).A.guards = some [] → MkLam (cxOf (L2.CX P w) P w K mg base N qual (defScope st) f (.ref c) A outer s H E) (z.at_ G H' M) (lamQ qual (defScope st)) →
      PSs (cxOf (L2.CX P w) P w K mg base N qual (defScope st) f (.ref c) A outer s H E) (defBody st) (tS (z.at_ G H' M) E body)) :
    FnG P w K mg base (k + 1) f fd ps (spF z m ps.length (fnOf m N.length body)) := by
  obtain ⟨oc, od, kV, doc, pm, an, ct, osl, rfl, lk, hcd⟩ := Fn'.ex
  refine ⟨fun vs H Q E ⟨G, ds, M, _, _, hl, _⟩ => hl, fun A outer s H args us vs Q E gd hr e0 bb r h => ?_⟩
  have hl : vs.length = ps.length := by obtain ⟨G, ds, M, _, _, hl, _⟩ := h; exact hl
  refine run_ofS lk hcd Sc hr e0 bb r hl fun hr' => ?_
  obtain ⟨G, M, ht⟩ := sp_reads Sc h
  exact ⟨_, hb A outer s H E G H M ⟨hK, takes_of rfl rfl rfl rfl, rfl, Sc.nd, hr', passes_of rfl⟩ gd ⟨rfl, c, P0, tb, rfl, hT, hu⟩, ht⟩
end
def FnGB (P : Program) (w : World) (K : PySem.W.Frag) (mg : Str → Option Value) (base : Heap) (z : Z) (k : Nat) (x : Str) (ps : List Str) (m : Bool) (φ : Fn) : Prop :=
  ∃ f fd, FnG P w K mg base k f fd ps (spF z m ps.length φ) ∧ mg x = some (.ref f) ∧ PySem.W.keepIn K (.ref f) = true ∧ Binds K fd ps []
theorem FnGB_at {P : Program} {w : World} {K : PySem.W.Frag} {mg : Str → Option Value} {base : Heap} {z : Z} {k : Nat} {x : Str} {ps : List Str} {m : Bool} {φ : Fn} (h : FnGB P w K mg base z k x ps m φ) (G H : Hp) (M : Option Addr) : FnGB P w K mg base (z.at_ G H M) k x ps m φ := by
  obtain ⟨f, fd, a, b⟩ := h
  exact ⟨f, fd, a.imp fun vs H Q E q => spF_at q, b⟩
section
variable {X : Cx} {z : Z} {E : XK} {k j n : Nat} {ps : List Str} {x : Str} {p pos : Pos} {e : Expr} {es : List Expr} {m : Bool} {φ : Fn} {g : FA}
theorem we_fnG (Fg : FnGB X.prog X.w X.K X.mg X.base z j x ps m φ) (o : OkX X z E k) (gd : X.A.guards = some []) (ha : WA X z E (e :: es) g ps.length) (hj : j ≤ k := by decide) (hg : Gl X x := by rfl) (hdb : (x == ("__debug__" : Str)) = false := by decide)
    (he : starEach (e :: es) X.env = (false, eval e X.env) :: starEach es X.env := by rfl) (hpl : (backTo pos (starEach es X.env)).any (·.1) = false := by rfl) : PE X (.Call (.Name x p) (e :: es) [] pos) (tE z E (fCall m φ g)) := by
  obtain ⟨f, fd, a, hm, hk, hb⟩ := Fg
  exact pe_mono (pe_callG (a.mono hj) gd o.room hg hm hk hb (passes_call (W := fun c d _ H => E c d H) o.tk fun _ _ _ _ h => h) ha.pa hdb he hpl) fun _ _ _ h => te_call h ha.len
end
section
variable {X : Cx} {z : Z} {E : XK} {k j : Nat} {scope : Scope} {A : Around} {outer : List Env} {s : Shared} {H : Hp} {W : XK} {f c' : Addr}
theorem OkX.lam (o : OkX X z E k) (hr : Room j (A.deeper (lamEnv X scope s.heap.objs.size f c'))) : OkX (lamCx X A outer s H W scope f c') z E0 j := ⟨o.K, LamX.takes0, rfl, o.nd, hr, passes_of rfl⟩
theorem lam_passes : Passes (L2.CX X.prog X.w) (lamCx X A outer s H W scope f c') W := passes_call (X := lamCx X A outer s H W scope f c') (W := fun c d _ H => W c d H) (takes_of (X := lamCx X A outer s H W scope f c') (E := W) rfl rfl rfl rfl) fun _ _ _ _ h => h
variable {ps : List Str} {x : Str} {p pos : Pos} {e : Expr} {es : List Expr} {φ : Fn} {g : FA}
theorem lb_fn (Fb : FnB X.prog X.w X.K X.mg X.base z j x ps false φ) (hr : Room j (A.deeper (lamEnv X scope s.heap.objs.size f c'))) (ha : WA (lamCx X A outer s H W scope f c') z E0 (e :: es) g ps.length)
    (hg : Gl (lamCx X A outer s H W scope f c') x := by rfl) (hdb : (x == ("__debug__" : Str)) = false := by decide) (he : starEach (e :: es) (lamCx X A outer s H W scope f c').env = (false, eval e (lamCx X A outer s H W scope f c').env) :: starEach es (lamCx X A outer s H W scope f c').env := by rfl) (hpl : (backTo pos (starEach es (lamCx X A outer s H W scope f c').env)).any (·.1) = false := by rfl) :
    PE (lamCx X A outer s H W scope f c') (.Call (.Name x p) (e :: es) [] pos) (tCall (spF z false ps.length φ) [] W (tAr z E0 g)) := by
  obtain ⟨fa, fd, Fo, hm, hk, hb⟩ := Fb
  exact pe_call (X := lamCx X A outer s H W scope f c') Fo hr hg hm hk hb .nil lam_passes ha.pa hdb he hpl
end
end TN
namespace TN
open PySem PySem.Spec PyProof.Rows L2 LamX
def initX (n : Nat) (is : List Nat) (gd : Ev → Out Ev) : In := fun ds => (gd (.no :: ds.map Sl.val ++ List.replicate (n - (ds.length + 1)) .no)).bind fun e => ofO (valsAt e is)
def gdNil : Ev → Out Ev := fun env => .ok env
def gdCons (c : FB) (s : S) (gd : Ev → Out Ev) : Ev → Out Ev := fun env => (c env).bind fun p => if p.1 = true then (s p.2).bind fun _ => .no else gd p.2
def tGx (z : Z) (E : XK) (gd : Ev → Out Ev) (t : TS) : TS := fun D σ H => ∃ T G env, Rep z T G H env σ ∧ Pg z E (fun e => ∀ H' G', Rep z T G' H' e σ → Ex G G' → t D σ H') (gd env)
section
variable {X : Cx} {z : Z} {E : XK} {k n : Nat} {pos : Pos} {c : FB} {s : S} {gd : Ev → Out Ev} {t : TS} {test : Expr} {body rest : List Stmt}
theorem wsx_nil (h : PSs X rest t) : PSs X rest (tGx z E gdNil t) := pss_mono h fun D σ H ⟨T, G, env, r, h⟩ => h H G r (Ex.refl G)
theorem wsx_cons (ht : PT X test (tT z E c)) (hb : PSs X body (tS z E s)) (h : PSs X rest (tGx z E gd t)) : PSs X (.If test body [] pos :: rest) (tGx z E (gdCons c s gd) t) :=
  pss_mono (pss_cons (ps_if ht hb pss_nil) h) fun D σ H ⟨T, G, env, r, h⟩ => by
    refine ⟨T, G, env, r, (Pg.bind h).imp fun p hp H' G' r' e => ?_⟩
    obtain ⟨p1, p2⟩ := p
    cases p1 with
    | true => exact ⟨T, G', p2, r', (Pg.bind (show Pg z E _ ((s p2).bind _) from hp)).imp fun q hq => hq.elim⟩
    | false => exact ⟨T, G', p2, r', (show Pg z E _ (gd p2) from hp).imp fun e1 h1 H2 G2 r2 x2 => h1 H2 G2 r2 (e.trans x2)⟩
end
section
variable {P : Program} {w : World} {K : PySem.W.Frag} {mg : Str → Option Value} {base : Heap}
theorem init_okX {qual : Str} {st : Stmt} {f : Addr} {fd : FuncData} {N : List Str} {k n : Nat} {z : Z} {C : Addr} {f1 f2 p1 p2 : Str} {gd : Ev → Out Ev} {t : TS} (Fn' : Fun K "__init__" qual st f fd) (Sc : FnScope N ["self", p1, p2] (defScope st)) (hK : K = z.K)
    (hC : Cls K C) (n1 : NoAttr K C f1) (n2 : NoAttr K C f2) (hne : f1 ≠ f2)
    (ht : ∀ D σ H, t D σ H = tSeq (sFld K (tVar 0) (tVar 1) f1) (sFld K (tVar 0) (tVar 2) f2) D σ H)
    (hb : ∀ (cdv : Value) (A : Around) (outer : List Env) (s : Shared) (H : Hp) (E : XK) (G H' : Hp), OkX (cxOf (L2.CX P w) P w K mg base N qual (defScope st) f cdv A outer s H E) (z.at_ G H' none) E k →
      PSs (cxOf (L2.CX P w) P w K mg base N qual (defScope st) f cdv A outer s H E) (defBody st) (tGx (z.at_ G H' none) E gd t)) :
    FnOk P w K mg base (L2.CX P w) (k + 1) f fd ["self", p1, p2] (spI z C [f1, f2] 2 (initX N.length [1, 2] gd)) := by
  refine Fn'.okX Sc (fun vs H Q E h => ?_) fun cdv A outer s H vs Q E hr h => ?_
  · obtain ⟨_, _, _, _, us, _, rfl, _, _, _, _, _, _, hl, _⟩ := h
    show us.length + 1 = 3
    rw [hl]
  · obtain ⟨G, H1, x, dx, us, ds, rfl, hx, hdx, ne, rfl, ex, ia, hl, h⟩ := h
    have o : OkX (cxOf (L2.CX P w) P w K mg base N qual (defScope st) f cdv A outer s (upd (upd H1 dx (.own x)) x (.ins C dx [])) E) (z.at_ G H1 none) E k :=
      ⟨hK, takes_of rfl rfl rfl rfl, rfl, Sc.nd, hr, passes_of rfl⟩
    refine ⟨_, hb cdv A outer s _ E G H1 o, ?_⟩
    have hN : 3 ≤ N.length := by
      have := congrArg List.length Sc.pre
      rw [List.length_take] at this
      simp at this
      omega
    have hlen := ia.length
    have ld : ds.length = 2 := by rw [← hlen]; exact hl
    have keep : ∀ a o, H1 a = some o → (upd (upd H1 dx (.own x)) x (.ins C dx [])) a = some o := fun a o e => by
      rw [upd_ne (ne_of_none e hx), upd_ne (ne_of_none e hdx)]
      exact e
    have gx : G x = none := ex.1.nn hx
    have r : Rep (z.at_ G H1 none) (fun a => if a = x then some (.ins C dx []) else none) G (upd (upd H1 dx (.own x)) x (.ins C dx [])) (.no :: ds.map Sl.val ++ List.replicate (N.length - (ds.length + 1)) .no) (L2.start N (.ref x :: us)) := by
      refine ⟨⟨fun a o e => keep a o (ex.1 a o e), Ex.refl G, fun a ha => .inl ha, fun a o e _ _ => keep a o e, (fun a e => by cases e), (fun a e => by cases e), ex.2.1.ext keep, fun p hp => ⟨(by
        obtain ⟨ps, h, _⟩ := ex.2.1 p hp
        show H1 p.1 ≠ none
        rw [h]; intro w; cases w), ex.2.2 p hp⟩⟩, ?_, fun i s es => ?_, fun i j p hi => ?_, fun a o e => ?_, fun a ha => ?_, fun a ha => ?_⟩
      · rw [start_len (by simp [hl]; omega), List.length_append, List.length_cons, List.length_map, List.length_replicate]
        omega
      · cases i with
        | zero => cases es; trivial
        | succ i =>
          rw [List.cons_append, List.getElem?_cons_succ] at es
          by_cases q : i < ds.length
          · rw [List.getElem?_append_left (by simpa using q)] at es
            obtain ⟨d, v, rfl, hv, w⟩ := slots_vals ia es
            exact ⟨v, start_get (vs := V.ref x :: us) (by simpa using hv), w⟩
          · rw [List.getElem?_append_right (by simpa using q)] at es
            rw [(List.mem_replicate.mp (List.mem_of_getElem? es)).2]
            trivial
      · obtain ⟨⟨s, es, os⟩, _⟩ := hi
        exfalso
        cases i with
        | zero => cases es; cases os
        | succ i =>
          rw [List.cons_append, List.getElem?_cons_succ] at es
          by_cases q : i < ds.length
          · rw [List.getElem?_append_left (by simpa using q)] at es
            obtain ⟨d, v, rfl, hv, w⟩ := slots_vals ia es
            cases os
          · rw [List.getElem?_append_right (by simpa using q)] at es
            rw [(List.mem_replicate.mp (List.mem_of_getElem? es)).2] at os
            cases os
      · by_cases q : a = x
        · subst q; rw [if_pos rfl] at e; rw [upd_same]; exact e
        · rw [if_neg q] at e; cases e
      · by_cases q : a = x
        · rw [q]; exact gx
        · rw [if_neg q] at ha; exact absurd rfl ha
      · by_cases q : a = x
        · rw [q]; exact hx
        · rw [if_neg q] at ha; exact absurd rfl ha
    refine ⟨_, G, _, r, (Pg.bind h).imp fun e he H' G' r' x' => ?_⟩
    obtain ⟨fs, efs, he⟩ := (show Pg (z.at_ G H1 none) E _ (ofO (valsAt e [1, 2])) from he).ofO
    rw [ht]
    have hH' : H' x = some (.ins C dx []) := r'.exT x _ (by rw [if_pos rfl])
    have gx' : G' x = none := r'.gt x (by rw [if_pos rfl]; intro w; cases w)
    
    obtain ⟨d1, d2, e1, e2, rfl⟩ : ∃ d1 d2, e[1]? = some (.val d1) ∧ e[2]? = some (.val d2) ∧ fs = [d1, d2] := by
      simp only [valsAt] at efs
      split at efs
      · rename_i d1 q1
        split at efs
        · rename_i l q2
          split at q2
          · rename_i d2 q3
            cases q2
            cases efs
            exact ⟨d1, d2, q1, q3, rfl⟩
          · cases q2
        · cases efs
      · cases efs
    obtain ⟨v1, s1, i1⟩ := r'.sl 1 _ e1
    obtain ⟨v2, s2, i2⟩ := r'.sl 2 _ e2
    have sj : ∀ {i : Nat} {v : V}, (L2.start N (.ref x :: us))[i]?.join = some v → (L2.start N (.ref x :: us))[i]? = some (some v) := fun {i v} e => by
      cases q : (L2.start N (.ref x :: us))[i]? with
      | none => rw [q] at e; cases e
      | some o => rw [q] at e; exact congrArg some e
    have s0 : (L2.start N (.ref x :: us))[0]? = some (some (.ref x)) := sj (start_get rfl)
    refine ⟨v1, sj s1, .ref x, s0, x, C, dx, [], rfl, hH', hC, n1, by simp, ?_⟩
    refine ⟨v2, sj s2, .ref x, s0, x, C, dx, [(f1, v1)], rfl, upd_same, hC, n2, by simp, ?_⟩
    have e3 : putF f2 v2 [(f1, v1)] = [(f1, v1), (f2, v2)] := by simp [putF, hne]
    rw [e3]
    refine he _ G' [(f1, v1), (f2, v2)] ?_ gx' upd_same rfl (.cons i1 (.cons i2 .nil))
    have up : ∀ a, a ≠ x → (upd (upd H' x (.ins C dx (putF f1 v1 []))) x (.ins C dx [(f1, v1), (f2, v2)])) a = H' a := fun a h => by rw [upd_ne h, upd_ne h]
    refine ⟨fun a o ea => ?_, r'.f.g0, r'.f.gn, fun a o ea ht hm => ?_, (fun a e => by cases e), (fun a e => by cases e), ?_, r'.f.t1⟩
    · rw [up a (fun q => by rw [q, gx'] at ea; cases ea)]
      exact r'.f.exG a o ea
    · have : H1 a = some o := ea
      rw [up a (fun q => by rw [q, hx] at this; cases this)]
      exact r'.f.fr a o ea ht hm
    · refine tabs_upd (tabs_upd r'.f.tb ?_ ?_) ?_ ?_
      · rw [hH']; intro _ w; cases w
      · rw [hH']; intro _ _ w; unfold LamX.CodeO at w; cases w
      · rw [upd_same]; intro _ w; cases w
      · rw [upd_same]; intro _ _ w; unfold LamX.CodeO at w; cases w
end
abbrev Tb := Nat → Option (Nat × Fn)
def bdVar (i : Nat) (tab : Tb) (n : Nat) (g : FA) : Bd := fun env => match env[i]? with
  | some (.val (.cls k)) => match tab k with
    | some (m, φ) => if m = n then bdFn φ g env else .no
    | none => .no
  | _ => .no
def TbB (P : Program) (w : World) (K : PySem.W.Frag) (mg : Str → Option Value) (base : Heap) (z : Z) (j : Nat) (tab : Tb) : Prop :=
  ∀ k m φ, tab k = some (m, φ) → ∃ fd ps, ps.length = m ∧ FnOk P w K mg base (L2.CX P w) j (z.cl k).1 fd ps (spF z false m φ) ∧ PySem.W.keepIn K (.ref (z.cl k).1) = true ∧ Binds K fd ps []
def tVarC (z : Z) (i : Nat) (tab : Tb) (n : Nat) (g : FA) (W : XK) : TE := fun σ H Q => ∃ k φ, tab k = some (n, φ) ∧ σ[i]? = some (some (.ref (z.cl k).1)) ∧ tCall (spF z false n φ) [] W (tAr z E0 g) σ H Q
theorem lamR_var {z : Z} {tab : Tb} {g : FA} {n i : Nat} (hln : ∀ env rs e2, g env = .ok (rs, e2) → rs.length = n) : LamR z (tVarC z i tab n g) (bdVar i tab n g) := by
  intro σ H T G env Q W r h
  unfold bdVar at h
  split at h
  · rename_i k q
    split at h
    · rename_i m φ e
      split at h
      · rename_i em
        subst em
        obtain ⟨v, e1, w⟩ := r.sl i _ q
        refine ⟨k, φ, e, ?_, lamR_fn hln σ H T G env Q W r h⟩
        cases w
        cases qq : σ[i]? with
        | none => rw [qq] at e1; cases e1
        | some o => rw [qq] at e1; exact congrArg some e1
      · exact h.elim
    · exact h.elim
  · exact h.elim
section
variable {X : Cx} {z : Z} {E : XK} {k j n i : Nat} {scope : Scope} {A : Around} {outer : List Env} {s : Shared} {H : Hp} {W : XK} {f c' : Addr} {ps : List Str} {x : Str} {p pos : Pos} {e : Expr} {es : List Expr} {φ : Fn} {g : FA} {tab : Tb} {ι : In} {C : Addr} {ns : List Str}
theorem lb_var (Tt : TbB X.prog X.w X.K X.mg X.base z j tab) (hr : Room j (A.deeper (lamEnv X scope s.heap.objs.size f c'))) (hN : X.N[i]? = some x) (ha : WA (lamCx X A outer s H W scope f c') z E0 (e :: es) g n)
    (hv : Vis scope x := by first | exact Or.inr (Or.inr rfl) | exact Or.inl rfl | exact Or.inr (Or.inl rfl)) (hdb : (x == ("__debug__" : Str)) = false := by decide) (hcd : (x == ("__classdict__" : Str)) = false := by decide) (he : starEach (e :: es) (lamCx X A outer s H W scope f c').env = (false, eval e (lamCx X A outer s H W scope f c').env) :: starEach es (lamCx X A outer s H W scope f c').env := by rfl) (hpl : (backTo pos (starEach es (lamCx X A outer s H W scope f c').env)).any (·.1) = false := by rfl) :
    PE (lamCx X A outer s H W scope f c') (.Call (.Name x p) (e :: es) [] pos) (tVarC z i tab n g W) := by
  refine ⟨fun pins s1 σ H1 Q I ⟨k, φ, ek, hs, ht⟩ => ?_⟩
  obtain ⟨fd, ps, el, Fo, hk, hb⟩ := Tt k n φ ek
  exact (pe_callL (X := lamCx X A outer s H W scope f c') (i := i) (f := (z.cl k).1) (dvs := []) Fo hr hN hv hk hb .nil lam_passes ha.pa hdb hcd he hpl).run pins s1 σ H1 Q I ⟨hs, ht⟩
end
end TN
namespace TN
open PySem PySem.Spec PyProof.Rows L2 LamX
def tabL (l : List (Nat × Nat × Fn)) : Tb := fun k => l.lookup k
def FnV (mg : Str → Option Value) (z : Z) (k : Nat) (x : Str) : Prop := ∃ fa, mg x = some (.ref fa) ∧ z.cl k = (fa, [])
theorem FnV.at_ {mg : Str → Option Value} {z : Z} {k : Nat} {x : Str} (h : FnV mg z k x) (G H : Hp) (M : Option Addr) : FnV mg (z.at_ G H M) k x := h
section
variable {P : Program} {w : World} {K : PySem.W.Frag} {mg : Str → Option Value} {base : Heap} {z : Z} {j : Nat}
theorem tbB_nil : TbB P w K mg base z j (tabL []) := fun k m φ e => by cases e
theorem tbB_cons {k m : Nat} {x : Str} {ps : List Str} {φ : Fn} {l : List (Nat × Nat × Fn)} (h : FnB P w K mg base z j x ps false φ) (v : FnV mg z k x) (hl : ps.length = m) (r : TbB P w K mg base z j (tabL l)) : TbB P w K mg base z j (tabL ((k, m, φ) :: l)) := by
  intro k' m' φ' e
  unfold tabL at e
  simp only [List.lookup] at e
  split at e
  · rename_i q
    cases e
    have : k' = k := by simpa using q
    subst this
    obtain ⟨fa, e1, e2⟩ := v
    obtain ⟨f, fd, a, e3, kp, b⟩ := h
    rw [e1] at e3
    cases e3
    refine ⟨fd, ps, hl, ?_, ?_, b⟩
    · rw [e2, ← hl]; exact a
    · rw [e2]; exact kp
  · exact r k' m' φ' e
end
section
variable {X : Cx} {z : Z} {E : XK} {k : Nat} {x : Str} {pos : Pos}
theorem we_fun (v : FnV X.mg z k x) (hg : Gl X x := by rfl) (hd : (x == ("__debug__" : Str)) = false := by decide) : PE X (.Name x pos) (tE z E (fC (.cls k))) := by
  obtain ⟨fa, e1, e2⟩ := v
  exact we_cls e1 e2 hg hd
end
theorem lenA_nil : ∀ env rs e2, aNil env = .ok (rs, e2) → rs.length = 0 := fun env rs e2 h => by cases h; rfl
theorem lenA_cons {f : F} {g : FA} {n : Nat} (h : ∀ env rs e2, g env = .ok (rs, e2) → rs.length = n) : ∀ env rs e2, aCons f g env = .ok (rs, e2) → rs.length = n + 1 := fun env rs e2 q => by
  unfold aCons at q
  cases h1 : f env with
  | no => rw [h1] at q; cases q
  | exc c d => rw [h1] at q; cases q
  | ok p =>
    rw [h1] at q
    have q : (g p.2).bind (fun s => Out.ok (p.1.opd :: s.1, s.2)) = Out.ok (rs, e2) := q
    cases h2 : g p.2 with
    | no => rw [h2] at q; cases q
    | exc c d => rw [h2] at q; cases q
    | ok s =>
      rw [h2] at q
      cases q
      exact congrArg (· + 1) (h p.2 s.1 s.2 h2)
theorem FnB.up {P : Program} {w : World} {K : PySem.W.Frag} {mg : Str → Option Value} {base : Heap} {z : Z} {i j : Nat} {x : Str} {ps : List Str} {m : Bool} {φ : Fn} (h : FnB P w K mg base z i x ps m φ) (hk : i ≤ j := by decide) : FnB P w K mg base z j x ps m φ := h.mono hk
theorem MkB.up {P : Program} {w : World} {K : PySem.W.Frag} {mg : Str → Option Value} {base : Heap} {z : Z} {i j : Nat} {C : Addr} {ns ps : List Str} {n : Nat} {ι : In} (h : MkB P w K mg base z i C ns ps n ι) (hk : i ≤ j := by decide) : MkB P w K mg base z j C ns ps n ι := by
  obtain ⟨fi, fd, a, b, c⟩ := h
  exact ⟨fi, fd, a, b.mono hk, c⟩
section
variable {X : Cx} {a b : Str} {j1 j2 j3 : Nat} {p1 p2 p3 : Pos}
theorem fe_s : PE X (.Constant (.str a) j1 p1) (fun _ H Q => finR (.str a) H Q) := pe_mono pe_str fun σ H Q h => h
end
theorem room_units {X : Cx} {Ng : List Str} {x : Str} {sg : Scope} {g : Addr} {cdg : Value} {s : Shared} {H : Hp} (r : Room 2 X.A) : (cxM X Ng x sg g cdg s H).A.units + 100 < cLine := by
  have := r.un
  show X.A.units + 3 + 100 < cLine
  omega
theorem exm_pair {K : PySem.W.Frag} {C : Addr} {cls : Value} {b : Bool} (h1 : PySem.W.subIn K (.ref C) (.type "BaseException") = some true) (h2 : PySem.W.hasDictIn K C = true) (h3 : PySem.W.typeIn K (.ref C) = some (.type "type")) (h4 : PySem.W.subIn K cls (.ref C) = some b) : PySem.W.exmOne K cls (.ref C) = some b := PySem.W.exm_ref h1 h2 h3 h4
end TN
namespace TN
open PySem PySem.Spec PyProof.Rows L2
section
variable {X : Cx} {z : Z} {E : XK} {k n : Nat}
variable {x : Str} {p pos kpos cpos : Pos} {e : Expr} {es : List Expr} {j : Nat} {g : FA}
end
end TN
namespace TN
open PySem PySem.Spec PyProof.Rows L2
section
variable {z : Z} {G : Hp} {a : Addr} {vs : List V} {ds : List D}
def fRev (f : F) : FI := fun env => (fSeq f env).bind fun p => .ok (p.1.reverse, p.2)
@[simp] theorem e_rev (f : F) (env : Ev) : fRev f env = (fSeq f env).bind fun p => .ok (p.1.reverse, p.2) := rfl
end
section
variable {X : Cx} {z : Z} {E : XK} {tg e : Expr} {f : F} {p pos p2 pos2 : Pos}
end
section
variable {X : Cx} {z : Z} {E : XK} {i : Nat} {f : F} {σ : L2.St} {H : Hp} {D : Ends}
end
end TN
namespace ZR
open PySem PySem.Spec PyProof.Rows L2 RT RZ
section
variable {prog : Program} {w : World} {A : Around} {E : Value → Shared → Prop} {s : Shared}
end
end ZR
namespace ZR
open PySem PySem.Spec PyProof.Rows L2 RT RZ
section
variable {prog : Program} {w : World} {A : Around} {E : Value → Shared → Prop} {s : Shared}
end
end ZR
namespace ZR
open PySem PySem.Spec PyProof.Rows L2 RT RZ
end ZR
namespace ZR
open PySem PySem.Spec PyProof.Rows L2 RT RZ
section
variable {prog : Program} {w : World} {A : Around} {E : Value → Shared → Prop} {s : Shared}
end
end ZR
namespace ZR
open PySem PySem.Spec PyProof.Rows L2 RT RZ
end ZR
namespace TN
open PySem PySem.Spec PyProof.Rows L2
section
variable {z : Z} {G : Hp} {a b : Addr} {vs ws : List V} {ds es : List D}
end
section
variable {X : Cx} {z : Z} {E : XK} {e e2 : Expr} {f g : F} {p p2 pos pos2 tpos : Pos} {elts : List Expr} {kk : Nat}
end
end TN
namespace TN
open PySem PySem.Spec PyProof.Rows L2
section
variable {X : Cx} {z : Z}
end
end TN
namespace TN
open PySem PySem.Spec PyProof.Rows L2 LamX NdefX
def CloO (q : Str) (params : Arguments) (body : Expr) (scope : Scope) (cl : List (Str × Addr)) (p c' : Addr) : HO :=
  .ext fun h => ∃ (pm ctv : Value), h.get? p = some (PySem.W.kla_obj "<lambda>" q params body scope cl pm c' ctv)
theorem cloO_at {P : Program} {w : World} {H : Hp} {h : Heap} {q : Str} {params : Arguments} {body : Expr} {scope : Scope} {cl : List (Str × Addr)} {p c' : Addr} (hok : HOk P w H h) (e : H p = some (CloO q params body scope cl p c')) :
    ∃ (pm ctv : Value), h.get? p = some (PySem.W.kla_obj "<lambda>" q params body scope cl pm c' ctv) := by
  obtain ⟨z, _, _⟩ := hok p _ e
  exact z
section
variable {X : Cx} {pins : List (Addr × Obj)} {σ : L2.St} {H : Hp} {s : Shared}
theorem lam_newO {T : List (Addr × Str)} {c P : Addr} {params : Arguments} {body : Expr} {scope : Scope} {pos : Pos} {E : Value → Shared → Prop} {Q : Value → Shared → Prop} {q : Str} (hq : q = X.env.qual ++ "<lambda>") (I : Inv X pins σ H s) (TB : TabB X.base X.mg c P) (hcode : X.env.code = .ref c)
    (hm : (P, q) ∈ T) (hu : ∀ p ∈ T, p.1 = P → p.2 = q) (hT : Tabs T H) (hdef : defaultsOf params X.env = ([], [])) (hfree : ∀ y ∈ scope.names, y.2 = .free → ∃ c, X.env.cells.lookup y.1 = some c)
    (fin : ∀ (f c' : Addr) (H1 : Hp) (s' : Shared), Inv X pins σ (upd H1 f (CloO q params body scope (cloFrom X.env.cells scope.names []) f c')) s' → ExP P H H1 → Tabs T H1 → H1 f = none → H1 c' = some (CodeO c' q) → Q (.ref f) s') :
    wpAny (model X.prog X.w) X.A (eval (.Lambda params body scope pos) X.env) Q E s := by
  subst hq
  obtain ⟨ps, hP, tri, all⟩ := hT _ hm
  have atP : s.heap.get? P = some { cls := .none, data := .fields ps } := I.hok P _ hP
  have bl : s.heap.BuiltinsAt X.mg P := TB.bm.keeps I.bk
  have new : ∀ (H1 : Hp) (h' : Heap) (pm ctv : Value) (c' : Addr), ObjOk X.prog X.w (upd H1 h'.objs.size (CloO (X.env.qual ++ "<lambda>") params body scope (cloFrom X.env.cells scope.names []) h'.objs.size c')) (h'.push (PySem.W.kla_obj "<lambda>" (X.env.qual ++ "<lambda>") params body scope (cloFrom X.env.cells scope.names []) pm c' ctv)) h'.objs.size
      (CloO (X.env.qual ++ "<lambda>") params body scope (cloFrom X.env.cells scope.names []) h'.objs.size c') := fun H1 h' pm ctv c' =>
    ⟨⟨pm, ctv, Heap.get?_push_size _ rfl⟩, ⟨_, Heap.get?_push_size _ rfl⟩, fun h1 h2 ⟨pm, ctv, a⟩ st => ⟨pm, ctv, st _ a⟩⟩
  refine PySem.W.kla_eval hdef ?_
  cases hc : codeAmong pos ps.toList with
  | some cv =>
    obtain ⟨c', e, hco⟩ := all pos cv hc
    subst e
    refine PySem.W.kla_makeFunctionHit (mg := X.mg) (c := c) (P := P) (ps := ps) (closure_ok hfree) I.ok.glob (I.mod.glob.keeps I.bk) hcode (TB.code.keeps I.bk) atP tri hc bl fun ctv h' tk hx hsz => ?_
    exact fin h'.objs.size c' H _ (I.laid (t' := tk) (fun b o e => Heap.get?_push_of_some _ (hx b o e)) hsz (new H h' _ ctv c')) (fun _ _ _ h => h) hT (I.hok.fresh hsz) hco
  | none =>
    refine PySem.W.kla_makeFunction (mg := X.mg) (c := c) (P := P) (ps := ps) (closure_ok hfree) I.ok.glob (I.mod.glob.keeps I.bk) hcode (TB.code.keeps I.bk) atP tri hc TB.gP bl fun c' ctv h' tk hx hge hlt hrec htb => ?_
    obtain ⟨c2, oc, vs, t, e2, hoc, hd, hv⟩ := hrec
    cases e2
    have nC : H c' = none := I.hok.fresh hge
    have big : s.heap.objs.size ≤ h'.objs.size := Nat.le_trans hge (Nat.le_of_lt hlt)
    have far : ∀ {b o}, H b = some o → h'.objs.size ≠ b := fun {b o} h w => by
      have n : H h'.objs.size = none := I.hok.fresh big
      rw [w, h] at n; cases n
    have J0 := inv_table (t' := tk) (more := #[rawInt pos.line, rawInt pos.col, .ref c']) (h' := h') I hP
      (fun b o hb e => hx b o hb e) htb hge ⟨oc, vs, t, hoc, hd, hv⟩
    have J := J0.laid (t' := tk) (h' := h'.push (PySem.W.kla_obj "<lambda>" (X.env.qual ++ "<lambda>") params body scope (cloFrom X.env.cells scope.names []) ((X.mg "__name__").getD .none) c' ctv)) (fun b o e => Heap.get?_push_of_some _ e) (Nat.le_refl _) (new _ h' _ ctv c')
    have ex : ExP P H (upd (upd H P (.tbl (ps ++ #[rawInt pos.line, rawInt pos.col, .ref c']))) c' (CodeO c' (X.env.qual ++ "<lambda>"))) := fun b o nb h => by
      rw [upd_ne (ne_of_none h nC), upd_ne nb, h]
    refine fin h'.objs.size c' _ _ J ex (fun p hp => ?_) ?_ upd_same
    · by_cases z : p.1 = P
      · refine ⟨ps ++ #[rawInt pos.line, rawInt pos.col, .ref c'], by rw [z, upd_ne (ne_of_none hP nC), upd_same], by simpa using PySem.TriplesOk_snoc _ _ _ _ tri, fun p' cv hcv => ?_⟩
        rw [hu p hp z]
        have hcv : codeAmong p' (ps.toList ++ [rawInt pos.line, rawInt pos.col, .ref c']) = some cv := by simpa using hcv
        rcases among_app _ tri hcv with w | w
        · obtain ⟨c0, a1, a2⟩ := all p' cv w
          exact ⟨c0, a1, ex _ _ (fun e => by rw [e, hP] at a2; unfold CodeO at a2; cases a2) a2⟩
        · exact ⟨c', w, upd_same⟩
      · obtain ⟨qs, a1, a2, a3⟩ := hT p hp
        refine ⟨qs, ex _ _ z a1, a2, fun p' cv hcv => ?_⟩
        obtain ⟨c0, b1, b2⟩ := a3 p' cv hcv
        exact ⟨c0, b1, ex _ _ (fun e => by rw [e, hP] at b2; unfold CodeO at b2; cases b2) b2⟩
    · rw [upd_ne (Nat.ne_of_gt hlt), upd_ne (far hP)]
      exact I.hok.fresh big
def tLamO (P : Addr) (T : List (Addr × Str)) (mk : Addr → Addr → HO) (q : Str) : TE := fun σ H Q => Tabs T H ∧ ∀ H1 f c', ExP P H H1 → Tabs T H1 → H1 f = none → H1 c' = some (CodeO c' q) → Q (.ref f) (upd H1 f (mk f c'))
theorem pe_lamO {T : List (Addr × Str)} {c P : Addr} {params : Arguments} {body : Expr} {scope : Scope} {pos : Pos} {q : Str} (hq : q = X.env.qual ++ "<lambda>") (TB : TabB X.base X.mg c P) (hcode : X.env.code = .ref c)
    (hm : (P, q) ∈ T) (hu : ∀ p ∈ T, p.1 = P → p.2 = q) (hdef : defaultsOf params X.env = ([], [])) (hfree : ∀ y ∈ scope.names, y.2 = .free → X.env.scope.names.lookup y.1 = some .cell ∨ X.env.scope.names.lookup y.1 = some .free) :
    PE X (.Lambda params body scope pos) (tLamO P T (CloO q params body scope (cloFrom X.env.cells scope.names [])) q) :=
  ⟨fun pins s σ H Q I ⟨hT, h⟩ => lam_newO hq I TB hcode hm hu hT hdef (fun y hy e => (hfree y hy e).elim (fun z => I.ok.has _ (.inl z)) fun z => I.ok.has _ (.inr z)) fun f c' H1 s' J ex t1 hf hc => ⟨.ref f, _, J, rfl, h H1 f c' ex t1 hf hc⟩⟩
theorem cells_un {cl : List (Str × Addr)} {fr : List Str} {ws : List (Option V)} {fs : List Addr} {h h' : Heap} {H' : Hp} (C : CellsAt cl fr ws h H) (u : Un fs [] H H' h h') : CellsAt cl fr ws h' H' := by
  have kp : ∀ y c, cl.lookup y = some c → ∀ v, h.IsCell c v → h'.IsCell c v := fun y c e v ⟨o, ho, hd⟩ => by
    obtain ⟨sl, q⟩ := u.any ho (C.all y c e).1 (by simp)
    exact ⟨_, q, hd⟩
  refine ⟨C.len, fun y c e => ?_, C.inj, fun i y e => ?_⟩
  · obtain ⟨n, v, z⟩ := C.all y c e
    refine ⟨?_, v, kp y c e v z⟩
    obtain ⟨o, ho, _⟩ := z
    exact u.free c o ho n (by simp)
  · obtain ⟨c, hc, hv⟩ := C.has i y e
    refine ⟨c, hc, fun v ev => ?_⟩
    obtain ⟨u', r, z⟩ := hv v ev
    exact ⟨u', r, kp y c hc _ z⟩
end
abbrev nfOf (q : Str) (params : Arguments) (scope : Scope) (cl : List (Str × Addr)) (c' : Addr) : NF := ⟨"<lambda>", q, params, [], scope, cl, c'⟩
theorem run_lam {CX : CXT} {P : Program} {w : World} {K : PySem.W.Frag} {mg : Str → Option Value} {base : Heap} {N ps fr : List Str} {q : Str} {params : Arguments} {body : Expr} {scope : Scope} {cl : List (Str × Addr)} {f c' : Addr} {k : Nat} {tb : TE} (S : NScope N ps fr scope)
    (hb : ∀ (q : Str) (cl : List (Str × Addr)) (pm cv ctv : Value) (us : List Value), us.length = ps.length → bindArgs (PySem.W.kla_fn "<lambda>" q params body scope cl pm cv ctv) ⟨us, []⟩ = pure (ps.zip us))
    {A : Around} {outer : List Env} {s : Shared} {H : Hp} {us : List Value} {vs : List V} {ws : List (Option V)} {Q : VK} {E : XK} (hr : Room (k + 1) A) (e0 : Env0 P w K mg base A outer s H) (hf : H f = some (CloO q params body scope cl f c')) (hc : H c' = some (CodeO c' q))
    (C : CellsAt cl fr ws s.heap H) (r : Vals vs us) (hl : vs.length = ps.length)
    (hbody : Room k (A.deeper (envF (nfOf q params scope cl c') f s.heap.objs.size)) → PE (ncx CX P w K mg base N (nfOf q params scope cl c') f A outer s H E) body tb) (h : tb (startF N vs ws) H Q) :
    codeAny (model P w) A (.call (.ref f) ⟨us, []⟩) (L2.CR CX outer P w H s Q E) s := by
  have lim : s.heap.NoLimit := e0.mod.nolimit.keeps fun b o e => (e0.bs b o e).1
  obtain ⟨pm, ctv, ho⟩ := cloO_at e0.hok hf
  refine PySem.W.kla_callFunE hr.depth ho rfl S.co S.gen rfl (codeO_at e0.hok hc) ?_
  rw [hb q cl pm (.ref c') ctv us (by rw [← r.length]; exact hl)]
  refine wpAny_pure (wpAny_newFunctionEnv S.nocell (fun ⟨n, _⟩ hy => S.par n (List.of_mem_zip hy).1) (fun h₁ hns hsb => ⟨lim.fresh _ hsb, ?_⟩) S.kind)
  show codeAny _ _ (.expr body (envF (nfOf q params scope cl c') f s.heap.objs.size)) _ _
  have kp : ∀ b o, s.heap.get? b = some o → h₁.get? b = some o := fun b o e => hsb.extBut b o (Nat.ne_of_lt (Heap.lt_size e)) (Heap.get?_push_of_some _ e)
  have I : Inv (ncx CX P w K mg base N (nfOf q params scope cl c') f A outer s H E) [] (startF N vs ws) H { s with heap := h₁, toks := s.toks + (ps.zip us).length } := inv_startN S hr.hd e0 hl r C hns kp
  refine PySem.W.kla_codeExpr (wpAny_mono ((hbody (hr.deeper _)).run [] _ (startF N vs ws) H Q I h) (fun v s' hq => ?_) fun e s' hq => hq)
  obtain ⟨w', H', J', rv, q⟩ := hq
  exact ⟨w', H', J'.os, J'.bare, J'.base, J'.hok, rv, q⟩
section
variable {X : Cx} {CX : CXT} {q : Str} {params : Arguments} {body : Expr} {scope : Scope} {cl : List (Str × Addr)} {N ps fr : List Str} {i k : Nat} {x : Str} {E : XK} {t : TA} {tb : TE} {e : Expr} {es : List Expr} {p pos : Pos} {ws : List (Option V)}
theorem pe_callO (S : NScope N ps fr scope)
    (hb : ∀ (q : Str) (cl : List (Str × Addr)) (pm cv ctv : Value) (us : List Value), us.length = ps.length → bindArgs (PySem.W.kla_fn "<lambda>" q params body scope cl pm cv ctv) ⟨us, []⟩ = pure (ps.zip us))
    (hbody : ∀ (f c' : Addr) (s : Shared) (H : Hp), Room k (X.A.deeper (envF (nfOf q params scope cl c') f s.heap.objs.size)) → PE (ncx CX X.prog X.w X.K X.mg X.base N (nfOf q params scope cl c') f X.A X.stack s H E) body tb)
    (C : CellsAt cl fr ws X.s_0.heap X.H_0) (hex : X.ex = []) (hr : Room (k + 1) X.A) (hx : Passes CX X E) (hN : X.N[i]? = some x) (hv : Vis X.env.scope x) (ha : PA X (e :: es) t)
    (hd : (x == ("__debug__" : Str)) = false := by decide) (hcd : (x == ("__classdict__" : Str)) = false := by decide)
    (he : starEach (e :: es) X.env = (false, eval e X.env) :: starEach es X.env := by rfl) (hpl : (backTo pos (starEach es X.env)).any (·.1) = false := by rfl) :
    PE X (.Call (.Name x p) (e :: es) [] pos) (fun σ H Q => ∃ f c', σ[i]? = some (some (.ref f)) ∧ H f = some (CloO q params body scope cl f c') ∧ t σ H fun vs H1 => vs.length = ps.length ∧ H1 f = some (CloO q params body scope cl f c') ∧ H1 c' = some (CodeO c' q) ∧ tb (startF N vs ws) H1 Q) := by
  refine ⟨fun pins s σ H Q I h => ?_⟩
  obtain ⟨f, c', hs, hf, ht⟩ := h
  refine wpAny_Call_Name_kw (thn ((pe_var (pos := p) hN hv hd hcd).run pins s σ H (fun v H1 => v = .ref f ∧ H1 = H) I ⟨.ref f, hs, rfl, rfl⟩) fun u s1 ⟨v, H1, I1, r1, q1⟩ => ?_)
  obtain ⟨ev, eH⟩ := q1
  subst ev
  rw [eH] at I1
  obtain rfl : u = Value.ref f := r1
  have at_ : ∀ {σ' : L2.St} {H' : Hp} {s' : Shared}, Inv X pins σ' H' s' → H' f = some (CloO q params body scope cl f c') → PySem.W.FnAt f s'.heap := fun {σ' H' s'} J e => by
    obtain ⟨pm, ctv, ho⟩ := cloO_at J.hok e
    exact ⟨_, _, _, _, ho⟩
  refine PySem.W.callWith_F (first := []) (at_ I1 hf) (thn (ha.run pos pins s1 σ H _ I1 ht) fun us s2 ⟨vs, H2, I2, r, hl, h1, h2, hq⟩ => ⟨at_ I2 h1, ?_⟩) he hpl
  show wpAny _ _ (call (.ref f) us) _ _ _
  refine wpAny_call (codeAny_mono (run_lam (CX := CX) (E := E) S hb hr I2.env0 h1 h2 (cells_un C (by have u := I2.base; rw [hex] at u; exact u)) r hl (fun hr' => hbody f c' s2 H2 hr') hq) fun r s' hq => ?_)
  cases r with
  | error e => exact hx pins σ H2 s2 e s' I2 hq
  | ok fl =>
    cases fl with
    | ret u => exact I2.after hq
    | next => exact False.elim hq
    | brk => exact False.elim hq
    | cont => exact False.elim hq
end
end TN
namespace TN
open PySem PySem.Spec PyProof.Rows L2 LamX NdefX
structure Cd where
  n : Nat
  js : List Nat
  φ : Fn
  g : FA
def envC (js : List Nat) (ds : List D) (env : Ev) : Ev := ds.map Sl.val ++ js.map fun j => match env[j]? with
  | some (.val d) => .val d
  | _ => .no
def bdClo (c : Cd) (g : FA) : Bd := fun env => (g env).bind fun p => (ofO (fixAll p.2 p.1)).bind fun q => match bdFn c.φ c.g (envC c.js q.1 q.2) with
  | .ok r => .ok (r.1, q.2)
  | _ => .no
def bdVarC (i : Nat) (tab : Tb) (ct : Nat → Option Cd) (n : Nat) (g : FA) : Bd := fun env => match env[i]? with
  | some (.clo k) => match ct k with
    | some c => if c.n = n then bdClo c g env else .no
    | none => .no
  | _ => bdVar i tab n g env
def tBd (z : Z) (bd : Bd) (W : XK) : TE := fun σ H Q => ∃ T G env, Rep z T G H env σ ∧ Pg z E0 (CBd z T G σ Q W) (bd env)
theorem pe_ex {α : Type} {X : Cx} {e : Expr} {t : α → TE} (h : ∀ a, PE X e (t a)) : PE X e (fun σ H Q => ∃ a, t a σ H Q) := ⟨fun pins s σ H Q I ⟨a, q⟩ => (h a).run pins s σ H Q I q⟩
def Z.cel (z : Z) (cv : Nat → Addr → Addr → HO) (cq : Str) : Z := { z with cv := cv, cq := cq }
section
variable {z : Z} {cv : Nat → Addr → Addr → HO} {cq : Str} {G H : Hp}
theorem Fr.cel (f : Fr (z.cel cv cq) G H) : Fr z G H := ⟨f.exG, f.g0, f.gn, f.fr, f.mm, f.m0, f.tb, f.t1⟩
theorem Fr.celI (f : Fr z G H) : Fr (z.cel cv cq) G H := ⟨f.exG, f.g0, f.gn, f.fr, f.mm, f.m0, f.tb, f.t1⟩
theorem PX.celI {E : XK} {c : Nat} {d : D} (h : PX z E c d) : PX (z.cel cv cq) E c d := fun H' x ⟨G', f', q⟩ => h H' x ⟨G', f'.cel, q⟩
theorem Pg.celI {α : Type} {E : XK} {C C' : α → Prop} (i : ∀ a, C a → C' a) : ∀ {x : Out α}, Pg z E C x → Pg (z.cel cv cq) E C' x
  | .ok _, h => i _ h
  | .exc _ _, h => PX.celI h
  | .no, h => h
theorem spF_cel {m : Bool} {n : Nat} {φ : Fn} {vs : List V} {Q : VK} {E : XK} (h : spF z m n φ vs H Q E) : spF (z.cel cv cq) m n φ vs H Q E := by
  obtain ⟨G, ds, M, a, e, l, p⟩ := h
  refine ⟨G, ds, M, ?_, e, l, ?_⟩
  · cases a with
    | pure a => exact .pure a
    | wr a b c d => exact .wr a b c d
  · exact Pg.celI (z := z.at_ G H M) (fun q w v H' G' f r mm => w v H' G' (Fr.cel (z := z.at_ G H M) (cv := cv) (cq := cq) f) (by
      cases hq : q.1 with
      | d y => rw [hq] at r; exact r
      | ls ys => rw [hq] at r; exact r
      | tp ys => rw [hq] at r; exact r) mm) p
theorem spF_cel' {m : Bool} {n : Nat} {φ : Fn} {vs : List V} {Q : VK} {E : XK} (h : spF (z.cel cv cq) m n φ vs H Q E) : spF z m n φ vs H Q E := spF_cel (z := z.cel cv cq) (cv := z.cv) (cq := z.cq) h
theorem spI_cel {C : Addr} {ns : List Str} {n : Nat} {ι : In} {vs : List V} {Q : VK} {E : XK} (h : spI z C ns n ι vs H Q E) : spI (z.cel cv cq) C ns n ι vs H Q E := by
  obtain ⟨G, H1, x, dx, us, ds, a, b, c, d, e, f, g, l, p⟩ := h
  exact ⟨G, H1, x, dx, us, ds, a, b, c, d, e, f, g, l, Pg.celI (z := z.at_ G H1 none) (fun fs w H' G' fv f' => w H' G' fv (Fr.cel (z := z.at_ G H1 none) (cv := cv) (cq := cq) f')) p⟩
theorem spI_cel' {C : Addr} {ns : List Str} {n : Nat} {ι : In} {vs : List V} {Q : VK} {E : XK} (h : spI (z.cel cv cq) C ns n ι vs H Q E) : spI z C ns n ι vs H Q E := spI_cel (z := z.cel cv cq) (cv := z.cv) (cq := z.cq) h
end
section
variable {P : Program} {w : World} {K : PySem.W.Frag} {mg : Str → Option Value} {base : Heap} {z : Z} {k : Nat} {x : Str} {ps : List Str} {m : Bool} {φ : Fn}
theorem FnB.cel (h : FnB P w K mg base z k x ps m φ) (cv : Nat → Addr → Addr → HO) (cq : Str) : FnB P w K mg base (z.cel cv cq) k x ps m φ := by
  obtain ⟨f, fd, a, b⟩ := h
  exact ⟨f, fd, a.imp fun vs H Q E q => spF_cel' q, b⟩
theorem FnGB.cel (h : FnGB P w K mg base z k x ps m φ) (cv : Nat → Addr → Addr → HO) (cq : Str) : FnGB P w K mg base (z.cel cv cq) k x ps m φ := by
  obtain ⟨f, fd, a, b⟩ := h
  exact ⟨f, fd, a.imp fun vs H Q E q => spF_cel' q, b⟩
theorem MkB.cel {C : Addr} {ns : List Str} {n : Nat} {ι : In} (h : MkB P w K mg base z k C ns ps n ι) (cv : Nat → Addr → Addr → HO) (cq : Str) : MkB P w K mg base (z.cel cv cq) k C ns ps n ι := by
  obtain ⟨fi, fd, m, f, b⟩ := h
  exact ⟨fi, fd, m, f.imp fun vs H Q E q => spI_cel' q, b⟩
theorem EqF.cel {C : Addr} (h : EqF P w K mg base z k C φ) (cv : Nat → Addr → Addr → HO) (cq : Str) : EqF P w K mg base (z.cel cv cq) k C φ := by
  obtain ⟨f, fd, a, b⟩ := h
  exact ⟨f, fd, a.imp fun vs H Q E q => spF_cel' q, b⟩
theorem ClB.cel {C : Addr} {ns : List Str} (h : ClB K mg z x C ns) (cv : Nat → Addr → Addr → HO) (cq : Str) : ClB K mg (z.cel cv cq) x C ns := ⟨h.hc, h.mgC, h.kit, h.no, h.ne⟩
theorem TbB.cel {tab : Tb} (h : TbB P w K mg base z k tab) (cv : Nat → Addr → Addr → HO) (cq : Str) : TbB P w K mg base (z.cel cv cq) k tab := fun k m φ e => by
  obtain ⟨fd, ps, a, b, c⟩ := h k m φ e
  exact ⟨fd, ps, a, b.imp fun vs H Q E q => spF_cel' q, c⟩
theorem MetB.cel {N : Nat} {l : List (Nat × Kd)} {fin : D} (h : MetB P w K mg base z x N l fin) (cv : Nat → Addr → Addr → HO) (cq : Str) : MetB P w K mg base (z.cel cv cq) x N l fin := h
theorem FnV.cel (h : FnV mg z k x) (cv : Nat → Addr → Addr → HO) (cq : Str) : FnV mg (z.cel cv cq) k x := h
end
def T0 : Hp := fun _ => none
def tS0 (z : Z) (E : XK) (g : S) : TS := fun D σ H => ∃ G env, Rep z T0 G H env σ ∧ Pg z E (CS z T0 G D) (g env)
section
variable {X : Cx} {z : Z} {E : XK} {st : Stmt} {rest : List Stmt} {s t : S}
theorem ps0 (h : PS X st (tS z E s)) : PS X st (tS0 z E s) := ps_mono h fun D σ H ⟨G, env, r, h⟩ => ⟨T0, G, env, r, h⟩
theorem pss0 (h : PSs X rest (tS z E s)) : PSs X rest (tS0 z E s) := pss_mono h fun D σ H ⟨G, env, r, h⟩ => ⟨T0, G, env, r, h⟩
theorem wss0_cons (h1 : PS X st (tS0 z E s)) (h2 : PSs X rest (tS0 z E t)) : PSs X (st :: rest) (tS0 z E (sCons s t)) := pss_mono (pss_cons h1 h2) fun D σ H ⟨G, env, r, h⟩ => by
  refine ⟨G, env, r, (Pg.bind h).imp fun p hp => ?_⟩
  obtain ⟨p1, p2⟩ := p
  cases p1 with
  | nx => exact fun σ' H' G' r' x => ⟨G', p2, r', (show Pg z E _ (t p2) from hp).imp fun q hq => hq.mono x⟩
  | ret r => exact hp
end
def SlsOk (z : Z) (G H : Hp) : List V → List Sl → Prop
  | [], [] => True
  | v :: vs, s :: ss => (SlOk z T0 G H (some v) s ∧ s.ow = false) ∧ SlsOk z G H vs ss
  | _, _ => False
theorem SlsOk.length {z : Z} {G H : Hp} : ∀ {vs : List V} {gs : List Sl}, SlsOk z G H vs gs → vs.length = gs.length
  | [], [], _ => rfl
  | _ :: _, _ :: _, h => congrArg (· + 1) h.2.length
theorem SlsOk.get {z : Z} {G H : Hp} : ∀ {vs : List V} {gs : List Sl} {i : Nat} {s : Sl}, SlsOk z G H vs gs → gs[i]? = some s → ∃ v, vs[i]? = some v ∧ SlOk z T0 G H (some v) s ∧ s.ow = false
  | [], [], _, _, _, e => by simp at e
  | v :: _, s :: _, 0, _, h, e => by simp at e; subst e; exact ⟨v, rfl, h.1⟩
  | _ :: _, _ :: _, i + 1, _, h, e => by
    obtain ⟨v, e1, e2⟩ := SlsOk.get (i := i) h.2 (by simpa using e)
    exact ⟨v, by simpa using e1, e2⟩
theorem SlOk.up {z : Z} {T G G' H H' : Hp} {o : Option V} {s : Sl} (k : SlOk z T G H o s) (e : Ex G G') (n : s.ow = false) : SlOk z T G' H' o s := by
  cases s with
  | no => trivial
  | val d => obtain ⟨v, e1, h⟩ := k; exact ⟨v, e1, h.mono e⟩
  | clo j => obtain ⟨q, c', e1, h1, h2⟩ := k; exact ⟨q, c', e1, e _ _ h1, h2.imp (e _ _) id⟩
  | own xs => cases n
  | par xs => cases n
  | odc ks xs => cases n
def tClos (z : Z) (gs : List Sl) : TA := fun σ H Q => ∃ G env, Rep z T0 G H env σ ∧ ∀ vs H' G', Rep z T0 G' H' env σ → Ex G G' → SlsOk z G' H' vs gs → Q vs H'
section
variable {X : Cx} {z : Z} {E : XK} {e : Expr} {es : List Expr} {gs : List Sl} {k : Nat}
theorem pc_nil : PA X [] (tClos z []) := pa_mono pa_nil fun σ H Q ⟨G, env, r, h⟩ => h [] H G r (Ex.refl G) True.intro
theorem pc_fn (he : PE X e (tE z E (fC (.cls k)))) (hr : PA X es (tClos z gs)) (hs : starEach (e :: es) X.env = (false, eval e X.env) :: starEach es X.env := by rfl) : PA X (e :: es) (tClos z (.val (.cls k) :: gs)) :=
  pa_mono (pa_cons he hr hs) fun σ H Q ⟨G, env, r, h⟩ => ⟨T0, G, env, r, fun v H' G' r' x' w => ⟨G', env, r', fun vs H2 G2 r2 x2 sl => h (v :: vs) H2 G2 r2 (x'.trans x2) ⟨⟨⟨v, rfl, Is.mono x2 w⟩, rfl⟩, sl⟩⟩⟩
theorem code_in {G H : Hp} {env : Ev} {σ : L2.St} {c' : Addr} (r : Rep z T0 G H env σ) (hc : H c' = some (CodeO c' z.cq)) : ∃ G', Rep z T0 G' H env σ ∧ Ex G G' ∧ (G' c' = some (CodeO c' z.cq) ∨ z.H0 c' = some (CodeO c' z.cq) ∧ (∀ q ∈ z.Ts, q.1 ≠ c') ∧ z.M ≠ some c') := by
  have nt : ∀ q ∈ z.Ts, q.1 ≠ c' := r.f.ntH fun ps w => by rw [hc] at w; unfold CodeO at w; cases w
  have nm : z.M ≠ some c' := fun w => by
    obtain ⟨⟨vs, e⟩, _⟩ := r.f.mm c' w
    rw [hc] at e; unfold CodeO at e; cases e
  cases g : G c' with
  | some o =>
    have q := r.f.exG c' o g
    rw [hc] at q
    cases q
    exact ⟨G, r, Ex.refl G, .inl g⟩
  | none =>
    cases h0 : z.H0 c' with
    | some o =>
      have q := r.f.fr c' o h0 nt nm
      rw [hc] at q
      cases q
      exact ⟨G, r, Ex.refl G, .inr ⟨rfl, nt, nm⟩⟩
    | none =>
      refine ⟨_, r.freeze hc g rfl h0 nm (fun i ⟨⟨s, es, os⟩, ep⟩ => ?_), Ex.new g, .inl upd_same⟩
      have q := r.sl i s es
      rw [ep] at q
      cases s with
      | no => cases os
      | val d => cases os
      | clo j => cases os
      | own xs => obtain ⟨p, vs, e, _, _, _, w, _⟩ := q; cases e; rw [hc] at w; unfold CodeO at w; cases w
      | par xs => obtain ⟨p, vs, e, _, _, w, _⟩ := q; cases e; rw [hc] at w; unfold CodeO at w; cases w
      | odc ks xs => obtain ⟨p, vs, e, _, _, _, w, _⟩ := q; cases e; rw [hc] at w; unfold CodeO at w; cases w
theorem pc_lam {P : Addr} {mk : Addr → Addr → HO} (he : PE X e (tLamO P z.Ts mk z.cq)) (hm : z.cv k = mk) (hP : (P, z.cq) ∈ z.Ts) (hr : PA X es (tClos z gs)) (hs : starEach (e :: es) X.env = (false, eval e X.env) :: starEach es X.env := by rfl) : PA X (e :: es) (tClos z (.clo k :: gs)) :=
  pa_mono (pa_cons he hr hs) fun σ H Q ⟨G, env, r, h⟩ => ⟨r.f.tb, fun H1 f c' ex t1 hf hc => by
    have r1 := r.tab hP ex t1
    obtain ⟨G1, r2, x1, hcode⟩ := code_in r1 hc
    have r3 := r2.grow (o := mk f c') hf
    have x2 : Ex G1 (upd G1 f (mk f c')) := Ex.new (r2.nn hf).1
    exact ⟨_, env, r3, fun vs H2 G2 r4 x4 sl => h (.ref f :: vs) H2 G2 r4 ((x1.trans x2).trans x4) ⟨⟨⟨f, c', rfl, by rw [hm]; exact x4 _ _ upd_same, hcode.imp (fun w => x4 _ _ (x2 _ _ w)) id⟩, rfl⟩, sl⟩⟩⟩
end
def forC (i : Nat) (s : S) : List Sl → S
  | [], env => .ok (.nx, env)
  | g :: gs, env => if i < env.length then (s (env.set i g)).bind fun q => match q.1 with
      | .nx => forC i s gs q.2
      | .ret r => .ok (.ret r, q.2)
    else .no
section
variable {X : Cx} {z : Z} {E : XK} {k i : Nat} {x : Str} {es : List Expr} {body : List Stmt} {gs : List Sl} {s : S} {p pos tpos : Pos}
theorem ws_forC {x1} (o : OkX X z E k) (he : PA X es (tClos z gs)) (hb : PSs X body (tS0 z E s)) (hl : gs.length ≤ 100000 := by decide) (hi : X.N[i]? = some x := by rfl) (hx : Loc X.env.scope x := by first | exact .inl rfl | exact .inr rfl)
    (hf : X.fn x = true ∨ X.env.scope.names.lookup x = some .local := by first | exact .inl rfl | exact .inr rfl) (hs : ∀ y, foldedSetIterable (.Tuple es x1 tpos) X.env y = pure y := by intro _; rfl) :
    PS X (.For (.Name x p) (.Tuple es x1 tpos) body [] pos) (tS0 z E (forC i s gs)) := ps_mono (ps_for o.po o.calm (pi_seq (pe_tupX he)) (pg_name (i := i) o.nd hi hx hf) hb hs) fun D σ H ⟨G, env, r, h⟩ => by
  refine ⟨G, env, r, fun vs H1 G1 r1 e1 sl => ⟨by rw [sl.length]; exact line100 hl, fun a ob ha hd => ⟨a, rfl, .inr ⟨⟨vs, .inl (.inr ⟨ob, upd_same⟩)⟩, ?_⟩⟩⟩⟩
  have ga := (r1.nn ha).1
  have r2 := r1.grow (o := .frz ob (.tup vs)) ha
  have x2 : Ex G1 (upd G1 a (.frz ob (.tup vs))) := Ex.new ga
  have tup : ∀ {G' H' : Hp}, Ex (upd G1 a (.frz ob (.tup vs))) G' → Ex G' H' → SqT X.K H' a vs := fun x y => .inl (.inr ⟨ob, y _ _ (x _ _ upd_same)⟩)
  refine ⟨fun n m σ' H' => ∃ G' env', Rep z T0 G' H' env' σ' ∧ Ex (upd G1 a (.frz ob (.tup vs))) G' ∧ m + n = gs.length ∧ Pg z E (CS z T0 G D) (forC i s (gs.drop n) env'), ⟨gs.length, _, env, r2, Ex.refl _, rfl, h⟩, ?_⟩
  rintro n m σ2 H2 ⟨G2, env2, r3, x3, em, h2⟩
  cases q : gs.drop n with
  | nil =>
    rw [q] at h2
    have hl : gs.length ≤ n := by
      have := congrArg List.length q
      rw [List.length_drop] at this
      simp at this
      omega
    exact .inl ⟨⟨vs, tup x3 r3.f.exG, by rw [sl.length]; exact hl⟩, h2 σ2 H2 G2 r3 ((e1.trans x2).trans x3)⟩
  | cons g rest =>
    rw [q] at h2
    obtain ⟨hg, hr⟩ := drop_cons q
    obtain ⟨v, hv, sk, ns⟩ := sl.get hg
    have hlt : n < gs.length := getElem?_lt hg
    refine .inr ⟨⟨vs, v, tup x3 r3.f.exG, hv⟩, fun σ' H' => ∃ G' env', Rep z T0 G' H' env' σ' ∧ Ex (upd G1 a (.frz ob (.tup vs))) G' ∧ Pg z E (CS z T0 G D) (forC i s rest env'), fun σ' H' ⟨G', env', r', x', h'⟩ => ⟨m - 1, by omega, G', env', r', x', by omega, by rw [hr]; exact h'⟩, fun y H' yl => ?_⟩
    obtain ⟨eH, yv⟩ := yl
    have yv := yv vs (tup x3 r3.f.exG)
    rw [hv] at yv
    cases yv
    rw [eH]
    unfold forC at h2
    split at h2
    · rename_i hi'
      refine ⟨G2, env2.set i g, r3.set (sk.up (x2.trans x3) ns) (fun q w => by rw [ns] at w; cases w) hi', (Pg.bind h2).imp fun q hq => ?_⟩
      obtain ⟨q1, q2⟩ := q
      cases q1 with
      | nx => exact fun σ4 H4 G4 r4 x4 => ⟨G4, q2, r4, x3.trans x4, hq⟩
      | ret rr => exact fun v σ4 H4 G4 r4 x4 w4 => hq v σ4 H4 G4 r4 (((e1.trans x2).trans x3).trans x4) w4
    · exact h2.elim
end
end TN
namespace TN
open PySem PySem.Spec PyProof.Rows L2 LamX NdefX
def Held (X : Cx) (σ : L2.St) (h : Heap) (H : Hp) : Prop := X.Ok ∧ ∀ cl fr js, Caps X cl fr js → CellsAt cl fr (js.map (slotAt σ)) h H
section
variable {X : Cx} {pins : List (Addr × Obj)} {σ : L2.St} {H : Hp} {s : Shared}
theorem pe_actC {CXg : CXT} {Eg : XK} {Ng : List Str} {qg : Str} {sg : Scope} {g f c' : Addr} {cdg pm ctv : Value} {params : Arguments} {body : Expr} {scope : Scope} {k i : Nat} {a : Str} {pn : List (Addr × Obj)} {xe : Value → Shared → Prop} {W : WX} {E : XK} {tb : TE} {p1 p2 : Pos}
    (I : Inv X pins σ H s) (L : LamS X.env.scope scope) (hf : s.heap.get? f = some (PySem.W.kla_obj "<lambda>" (X.env.qual ++ "<lambda>") params body scope (cloFrom X.env.cells scope.names []) pm c' ctv)) (hfn : H f = none) (hfr : f ∉ frs X.stack)
    (hbind : bindArgs (PySem.W.kla_fn "<lambda>" (X.env.qual ++ "<lambda>") params body scope (cloFrom X.env.cells scope.names []) pm (.ref c') ctv) ⟨[], []⟩ = pure [])
    (tk : Takes ((cxOf CXg X.prog X.w X.K X.mg X.base Ng qg sg g cdg X.A X.stack s H Eg).tr pn xe) W) (hW : ∀ cls d σ' H', E cls d H' → W cls d σ' H') (hr : Room (k + 1) (X.A.deeper (envOfC qg sg s.heap.objs.size g cdg)))
    (hbody : ∀ (A : Around) (outer : List Env) (s : Shared) (H : Hp), Held X σ s.heap H → Room k (A.deeper (lamEnv X scope s.heap.objs.size f c')) → PE (lamCx X A outer s H E scope f c') body (fun σ' H' Q => σ' = σ ∧ tb σ' H' Q))
    (hN : Ng[i]? = some a) (hv : Vis sg a) (hd : (a == ("__debug__" : Str)) = false := by decide) (hcd : (a == ("__classdict__" : Str)) = false := by decide) :
    PE ((cxOf CXg X.prog X.w X.K X.mg X.base Ng qg sg g cdg X.A X.stack s H Eg).tr pn xe) (.Call (.Name a p1) [] [] p2)
      (fun σZ HZ Q => σZ[i]? = some (some (.ref f)) ∧ HZ c' = some (CodeO c' (X.env.qual ++ "<lambda>")) ∧ tb σ HZ Q) := by
  constructor
  intro pinsZ sZ σZ HZ Q IZ ⟨hs, hc, ht⟩
  refine wpAny_Call_Name_kw (thn ((pe_var (pos := p1) (i := i) hN hv hd hcd).run pinsZ sZ σZ HZ (fun v H2 => v = .ref f ∧ H2 = HZ) IZ ⟨.ref f, hs, rfl, rfl⟩) ?_)
  rintro u s1 ⟨v, H1, I1, r1, rfl, rfl⟩
  obtain rfl : u = Value.ref f := r1
  have fAt := I1.base.keep f _ hf hfn hfr (by simp [cxOf, Cx.tr])
  have unc : Un (frs X.stack) [] H H1 s.heap s1.heap := I1.base
  obtain ⟨⟨oc, vs, t, hoc, hdc, hvc⟩, _, _⟩ := I1.hok c' _ hc
  refine PySem.W.callWith_F0 ⟨_, _, _, _, fAt⟩ ?_
  have ran : codeAny (model X.prog X.w) (X.A.deeper (envOfC qg sg s.heap.objs.size g cdg)) (.call (.ref f) ⟨[], []⟩) (L2.CR (L2.CX X.prog X.w) (envOfC qg sg s.heap.objs.size g cdg :: X.stack) X.prog X.w H1 s1 Q E) s1 := by
    refine PySem.W.kla_callFunE hr.depth fAt rfl L.co L.gen rfl ⟨c', oc, vs, t, rfl, hoc, hdc, hvc⟩ ?_
    rw [hbind]
    refine wpAny_pure (wpAny_newFunctionEnv (fun z hz => (L.own z hz).2) (by simp) (fun h2 hns hsb => ⟨I1.nolimit.fresh _ hsb, ?_⟩) L.kind)
    show codeAny _ _ (.expr body (lamEnv X scope s1.heap.objs.size f c')) _ _
    have kept : ∀ b ob, s1.heap.get? b = some ob → h2.get? b = some ob := fun b ob hb => hsb.extBut b ob (Nat.ne_of_lt (Heap.lt_size hb)) (Heap.get?_push_of_some _ hb)
    have J : Inv (lamCx X (X.A.deeper (envOfC qg sg s.heap.objs.size g cdg)) (envOfC qg sg s.heap.objs.size g cdg :: X.stack) s1 H1 E scope f c') [] σ H1 { s1 with heap := h2, toks := s1.toks + ([] : List (Str × Value)).length } :=
      lam_start2 I L I1.env0 hr.hd unc hns kept
    refine PySem.W.kla_codeExpr (wpAny_mono ((hbody _ _ s1 H1 ⟨I.ok, fun cl fr js cp => cells_un (cells_of I cp) unc⟩ (hr.deeper _)).run [] _ _ H1 Q J ⟨rfl, ht⟩) ?_ fun e s' hq => hq)
    rintro v s' ⟨w', H', J', rv, q⟩
    exact ⟨w', H', J'.os, J'.bare, J'.base, J'.hok, rv, q⟩
  have hx : Passes (L2.CX X.prog X.w) ((cxOf CXg X.prog X.w X.K X.mg X.base Ng qg sg g cdg X.A X.stack s H Eg).tr pn xe) E := passes_call tk hW
  refine wpAny_call (codeAny_mono ran ?_)
  intro r s' hq
  match r, hq with
  | .error e, hq => exact hx pinsZ σZ H1 s1 e s' I1 hq
  | .ok (.ret u), hq => exact I1.after hq
  | .ok .next, hq => exact hq.elim
  | .ok .brk, hq => exact hq.elim
  | .ok .cont, hq => exact hq.elim
theorem pe_lamPC {T : List (Addr × Str)} {TT : (XK → Hp → VK → Prop) → Hp → VK → Prop} {x a q : Str} {g c P : Addr} {k : Nat} {pg : Arguments} {bg : List Stmt} {sg : Scope} {dV kV doc pm cdv ct oc : Value} {an od : Option Addr} {osl : Array (Option Value)} {Ng : List Str}
    {params : Arguments} {body : Expr} {scope : Scope} {t : XK → TE} {p lpos pos : Pos} (hq : q = X.env.qual ++ "<lambda>") (hg : Gl X x) (hm : X.mg x = some (.ref g)) (hk : PySem.W.keepIn X.K (.ref g) = true)
    (lk : X.K.lookup g = some ⟨oc, od, .func (PySem.W.fnOf x x pg bg sg dV kV doc pm an cdv ct), osl⟩) (hcg : PySem.W.codeIn X.K cdv x = true) (hb : L2.Binds X.K (PySem.W.fnOf x x pg bg sg dV kV doc pm an cdv ct) [a] []) (Sg : FnScope Ng [a] sg) (hNg : Ng[0]? = some a) (hva : Vis sg a)
    (hG : GivesTo X Ng x sg g cdv bg a q TT) (TB : TabB X.base X.mg c P) (hcode : X.env.code = .ref c) (hmT : (P, q) ∈ T) (hu : ∀ p ∈ T, p.1 = P → p.2 = q) (hr : Room (k + 2) X.A) (L : LamS X.env.scope scope) (hdef : defaultsOf params X.env = ([], []))
    (hbind : ∀ (q : Str) (cl : List (Str × Addr)) (pm cv ctv : Value), bindArgs (PySem.W.kla_fn "<lambda>" q params body scope cl pm cv ctv) ⟨[], []⟩ = pure [])
    (hbody : ∀ (σ : L2.St) (A : Around) (outer : List Env) (s : Shared) (H : Hp) (E : XK) (f c' : Addr), Held X σ s.heap H → Room k (A.deeper (lamEnv X scope s.heap.objs.size f c')) → PE (lamCx X A outer s H E scope f c') body (fun σ' H' Q => σ' = σ ∧ t E σ' H' Q))
    (hdb : (x == ("__debug__" : Str)) = false := by decide) (hd : (a == ("__debug__" : Str)) = false := by decide) (hcd : (a == ("__classdict__" : Str)) = false := by decide) :
    PE X (.Call (.Name x p) [.Lambda params body scope lpos] [] pos) (tLamP P T TT t) := by
  subst hq
  constructor
  intro pins s σ H Q I ⟨hT, h⟩
  refine wpAny_Call_Name_kw (ld_glob I hg hm (PySem.W.callWith_K (h₀ := X.base) I.ok.mod.kin hk ?_ (by rfl) (by rfl)) hdb)
  show wpAny _ _ (spliced ((false, eval (.Lambda params body scope lpos) X.env) :: backTo pos (starEach [] X.env))) _ _ s
  refine Calls.spliced_cons (lam_new rfl I TB hcode hmT hu hT hdef (L.has I.ok) ?_)
  intro f c' pm' ctv H1 s' I1 eN T1 hf hfn hfr hco
  refine Calls.spliced_nil ⟨I1.kIn, ?_⟩
  have run : codeAny (model X.prog X.w) X.A (.call (.ref g) ⟨[.ref f], []⟩) (L2.CR C8.CX0 X.stack X.prog X.w H1 s' Q C8.E0) s' :=
    run_ofS (N := Ng) (ps := [a]) (us := [.ref f]) (vs := [.ref f]) lk hcg Sg hr I1.env0 (hb s' [.ref f] I1.kIn rfl) (.cons rfl .nil) rfl fun hr' => by
      obtain ⟨t', ht', hq'⟩ := hG f c' s' H1 Q (fun E H' Q' => t E σ H' Q') (fun W pn xe E p1 p2 tk hW => pe_actC (i := 0) I1 L hf hfn hfr (hbind _ _ _ _ _) tk hW hr' (fun A outer s H hh hr2 => hbody σ A outer s H E f c' hh hr2) hNg hva hd hcd) hco (h H1 eN T1)
      exact ⟨t', ht'.nox, hq'⟩
  refine wpAny_call (codeAny_mono run ?_)
  intro r s2 w
  match r, w with
  | .error e, w => exact w.elim
  | .ok (.ret u), w => exact I1.after w
  | .ok .next, w => exact w.elim
  | .ok .brk, w => exact w.elim
  | .ok .cont, w => exact w.elim
end
def LamB (X : Cx) (z : Z) (scope : Scope) (j : Nat) (body : Expr) (bd : Bd) : Prop := ∀ (σ : L2.St) (A : Around) (outer : List Env) (s : Shared) (H : Hp) (W : XK) (f c' : Addr), Held X σ s.heap H → Room j (A.deeper (lamEnv X scope s.heap.objs.size f c')) →
  PE (lamCx X A outer s H W scope f c') body (fun σ' H' Q => σ' = σ ∧ tBd z bd W σ' H' Q)
section
variable {X : Cx} {z : Z} {E : XK} {k j N : Nat} {x q : Str} {l : List (Nat × Kd)} {fin : D} {bd : Bd} {t : XK → TE} {p lpos pos : Pos} {params : Arguments} {body : Expr} {scope : Scope}
theorem we_metC (M : MetB X.prog X.w X.K X.mg X.base z x N l fin) (o : OkX X z E k) (gd : X.A.guards = some []) (ml : MkLam X z q) (hbody : LamB X z scope j body bd)
    (hk : j + 2 ≤ k := by decide) (hg : Gl X x := by rfl) (L : lamSB X.env.scope scope = true := by first | rfl | decide +kernel) (hdef : defaultsOf params X.env = ([], []) := by rfl)
    (hbind : ∀ (q : Str) (cl : List (Str × Addr)) (pm cv ctv : Value), bindArgs (PySem.W.kla_fn "<lambda>" q params body scope cl pm cv ctv) ⟨[], []⟩ = pure [] := by intro _ _ _ _ _; rfl) (hdb : (x == ("__debug__" : Str)) = false := by decide) :
    PE X (.Call (.Name x p) [.Lambda params body scope lpos] [] pos) (tE z E (fMet N l fin bd)) := by
  obtain ⟨xa, g, pg, bg, sg, kV, doc, pm, cdv, ct, oc, an, od, osl, Ng, a, h1, h2, h3, h4, h5, h6, h7, h8, h9, h10, h11, h12, h13, h14, h15, h16⟩ := M
  obtain ⟨c, P, TB, hcode, hT, hu⟩ := ml.ex
  refine pe_mono (pe_lamPC (t := fun W => tBd z bd W) (k := j) ml.hq hg h1 h2 h3 h4 h5 h6 h7 h8 (h16 X rfl rfl rfl rfl rfl gd (o.room.mono (by omega)) q) TB hcode hT hu (o.room.mono (by omega)) (lamS_by L) hdef hbind hbody hdb h9 h10) fun σ H Q ⟨T, G, env, r, h⟩ => ⟨r.f.tb, fun H1 ex t1 => ?_⟩
  have r1 := r.tab hT ex t1
  refine ⟨T, G, env, r1, (Pg.noX (Pg.bind h)).imp fun pp hp => ?_⟩
  obtain ⟨p1, p2⟩ := pp
  cases p1 with
  | no => exact hp
  | ok u => exact fun v H' G' r' x' => fin_ok h11 r' (CR.mono hp x')
  | exc cn d =>
    intro H' G' xo r' x' hx
    obtain ⟨res, er, hp⟩ := (Pg.bind (show Pg z E _ ((ofO (metTab N l cn d)).bind _) from hp)).ofO
    unfold metTab at er
    split at er
    · rename_i hc
      split at er
      · rename_i kd lk
        rw [h12 cn hc, o.K]
        rw [o.K] at h14
        have mem : (cn, kd) ∈ l := look_mem lk
        exact wK_of hc l (h14 cn hc) (fun k' hk' => by
          rw [lk] at hk'; cases hk'
          exact kR_of r' hx (h15 _ mem) er (CR.mono hp x')) (by rw [lk]; rfl)
      · cases er
    · cases er
end
theorem rep_clo {z : Z} {T G H : Hp} {env : Ev} {σ : L2.St} {vs : List V} {ds : List D} {js : List Nat} {N : List Str} (r : Rep z T G H env σ) (a : IsA z.K z.cl G vs ds) (hN : N.length = vs.length + js.length) : Rep (z.at_ G H none) T0 G H (envC js ds env) (startF N vs (js.map (slotAt σ))) := by
  have al := a.length
  have noow : ∀ (i : Nat) (s : Sl), (envC js ds env)[i]? = some s → s.ow = false := fun i s es => by
    have m := List.mem_of_getElem? es
    unfold envC at m
    rcases List.mem_append.mp m with h | h
    · obtain ⟨d, _, e⟩ := List.mem_map.mp h
      rw [← e]; rfl
    · obtain ⟨j, _, e⟩ := List.mem_map.mp h
      rw [← e]
      split <;> rfl
  refine ⟨⟨r.f.exG, Ex.refl G, fun a h => .inl h, fun a o h _ _ => h, fun a e => (by cases e), fun a e => (by cases e), r.f.tb, fun p hp => ⟨?_, r.f.gT p hp⟩⟩, ?_, fun i s es => ?_, fun i j p h1 h2 => ?_, fun a o h => ?_, fun a h => absurd rfl h, fun a h => absurd rfl h⟩
  · obtain ⟨ps, e, _⟩ := r.f.tb p hp
    show H p.1 ≠ none
    rw [e]; intro w; cases w
  · unfold envC startF
    simp only [List.length_append, List.length_map, List.length_replicate]
    omega
  · have e0 := es
    unfold envC at es
    by_cases hi : i < ds.length
    · rw [List.getElem?_append_left (by simpa using hi)] at es
      obtain ⟨d, v, rfl, hv, w⟩ := slots_vals a es
      refine ⟨v, ?_, w⟩
      unfold startF
      rw [List.getElem?_append_left (by rw [List.length_map]; omega), List.getElem?_map, hv]
      rfl
    · rw [List.getElem?_append_right (by simpa using hi), List.length_map, List.getElem?_map, Option.map_eq_some_iff] at es
      obtain ⟨j, ej, es⟩ := es
      subst es
      split
      · rename_i d q
        obtain ⟨v, e1, w⟩ := r.sl j _ q
        refine ⟨v, ?_, w⟩
        unfold startF
        have lj := getElem?_lt ej
        have lm : (vs.map some).length = ds.length := by rw [List.length_map]; exact al
        have lw : (js.map (slotAt σ)).length = js.length := List.length_map _
        rw [List.getElem?_append_right (by omega), lm, List.getElem?_append_left (by omega), List.getElem?_map, ej]
        show slotAt σ j = some v
        unfold NdefX.slotAt
        cases qq : σ[j]? with
        | none => rw [qq] at e1; cases e1
        | some o => rw [qq] at e1; exact e1
      · trivial
  · obtain ⟨⟨s, es, os⟩, _⟩ := h1
    rw [noow i s es] at os; cases os
  · unfold T0 at h; cases h
def CloW (X : Cx) (z : Z) (q : Str) (k : Nat) (c : Cd) (j : Nat) : Prop := ∃ (params : Arguments) (body : Expr) (scope : Scope) (N ps fr : List Str) (m : Nat),
  NScope N ps fr scope ∧ c.n = ps.length ∧ N.length = ps.length + c.js.length ∧ z.cv k = CloO q params body scope (cloFrom X.env.cells scope.names []) ∧ z.cq = q ∧ (X.Ok → Caps X (cloFrom X.env.cells scope.names []) fr c.js) ∧
  (∀ (q : Str) (cl : List (Str × Addr)) (pm cv ctv : Value) (us : List Value), us.length = ps.length → bindArgs (PySem.W.kla_fn "<lambda>" q params body scope cl pm cv ctv) ⟨us, []⟩ = pure (ps.zip us)) ∧
  (∀ env rs e2, c.g env = .ok (rs, e2) → rs.length = m) ∧
  ∀ (A : Around) (outer : List Env) (s : Shared) (H : Hp) (W : XK) (f c' : Addr) (G0 H0 : Hp) (M0 : Option Addr), Room j (A.deeper (envF (nfOf q params scope (cloFrom X.env.cells scope.names []) c') f s.heap.objs.size)) →
    PE (ncx (L2.CX X.prog X.w) X.prog X.w X.K X.mg X.base N (nfOf q params scope (cloFrom X.env.cells scope.names []) c') f A outer s H W) body (tCall (spF (z.at_ G0 H0 M0) false m c.φ) [] W (tAr (z.at_ G0 H0 M0) E0 c.g))
section
variable {X : Cx} {z : Z} {j n i : Nat} {scope : Scope} {q x : Str} {p pos : Pos} {e : Expr} {es : List Expr} {g : FA} {tab : Tb} {ct : Nat → Option Cd}
theorem lb_varC (Tt : TbB X.prog X.w X.K X.mg X.base z j tab) (CW : ∀ k c, ct k = some c → CloW X z q k c j) (i : Nat) (ha : ∀ (A : Around) (outer : List Env) (s : Shared) (H : Hp) (W : XK) (f c' : Addr), WA (lamCx X A outer s H W scope f c') z E0 (e :: es) g n) (hN : X.N[i]? = some x := by rfl)
    (hv : Vis scope x := by first | exact Or.inr (Or.inr rfl) | exact Or.inl rfl | exact Or.inr (Or.inl rfl)) (hdb : (x == ("__debug__" : Str)) = false := by decide) (hcd : (x == ("__classdict__" : Str)) = false := by decide) (he : ∀ env : Env, starEach (e :: es) env = (false, eval e env) :: starEach es env := by intro _; rfl) (hpl : ∀ env : Env, (backTo pos (starEach es env)).any (·.1) = false := by intro _; rfl) :
    LamB X z scope (j + 1) (.Call (.Name x p) (e :: es) [] pos) (bdVarC i tab ct n g) := by
  intro σ0 A outer s H W f c' hh hr
  have ha := ha A outer s H W f c'
  constructor
  intro pins s1 σ H1 Q I ⟨e0, T, G, env, r, h⟩
  subst e0
  unfold bdVarC at h
  split at h
  · rename_i k hk
    split at h
    · rename_i c hc
      split at h
      · rename_i hn
        obtain ⟨params, bodyC, scC, N, ps, fr, m, S, hn', hNl, hcv, hcq, cp, hb, hlm, hbd⟩ := CW k c hc
        obtain ⟨fa, ca, e1, g1, g2⟩ := r.sl i _ hk
        rw [hcv] at g1
        rw [hcq] at g2
        refine (pe_callO (X := lamCx X A outer s H W scope f c') (CX := L2.CX X.prog X.w) (i := i) (E := W) (ws := c.js.map (slotAt σ)) (tb := fun σ' H' Q' => ∃ a : Hp × Hp × Option Addr, tCall (spF (z.at_ a.1 a.2.1 a.2.2) false m c.φ) [] W (tAr (z.at_ a.1 a.2.1 a.2.2) E0 c.g) σ' H' Q') S hb
          (fun fx cx s2 H2 hr2 => pe_ex fun a => hbd _ _ s2 H2 W fx cx a.1 a.2.1 a.2.2 hr2) (hh.2 _ _ _ (cp hh.1)) rfl hr lam_passes hN hv ha.pa hdb hcd (he _) (hpl _)).run pins s1 σ H1 Q I ⟨fa, ca, ?_, r.f.exG _ _ g1, ?_⟩
        · cases qq : σ[i]? with
          | none => rw [qq] at e1; cases e1
          | some o => rw [qq] at e1; exact congrArg some e1
        · have h' := Pg.bind h
          refine ⟨T, G, env, r, ?_⟩
          cases hq : g env with
          | no => rw [hq] at h'; exact h'
          | exc a b => rw [hq] at h'; exact h'
          | ok pr =>
            rw [hq] at h'
            intro vs H2 G2 r2 x2 w2
            obtain ⟨⟨ds, e3⟩, ef, hp⟩ := (Pg.bind (show Pg z E0 _ ((ofO (fixAll pr.2 pr.1)).bind _) from h')).ofO
            obtain ⟨G3, r3, x3, a⟩ := w2.fix r2 ef
            have lv : vs.length = n := w2.length.trans (ha.len _ _ _ hq)
            have xx := x2.trans x3
            refine ⟨by rw [lv, ← hn, hn'], r3.f.exG _ _ (xx _ _ g1), ?_, ⟨(G3, H2, none), ?_⟩⟩
            · rcases g2 with g2 | ⟨h0, nt, nm⟩
              · exact r3.f.exG _ _ (xx _ _ g2)
              · exact r3.f.fr _ _ h0 nt nm
            · have r' := rep_clo (js := c.js) (N := N) r3 a (by rw [hNl, lv, ← hn, hn'])
              refine lamR_fn hlm _ H2 T0 G3 _ Q W r' ?_
              dsimp only at hp
              cases qo : bdFn c.φ c.g (envC c.js ds e3) with
              | no => rw [qo] at hp; exact hp.elim
              | exc a b => rw [qo] at hp; exact hp.elim
              | ok ov =>
                rw [qo] at hp
                have hM : ∀ a, (none : Option Addr) = some a → z.H0 a = none ∨ z.M = some a := fun a e => by cases e
                have back : ∀ {G' H' : Hp}, Fr (z.at_ G3 H2 none) G' H' → Rep z T G' H' e3 σ := fun {G' H'} f' => r3.back hM f' rfl (fun i s es => .inl ⟨es, fun _ _ _ w => by cases w⟩) (fun _ _ w => w) (fun _ _ w => by cases w)
                obtain ⟨o1, o2⟩ := ov
                cases o1 with
                | ok u => exact fun v H' G' r4 x4 => hp v H' G' (back r4.f) (xx.trans x4)
                | exc cc d => exact fun H' G' x r4 x4 hx => hp H' G' x (back r4.f) (xx.trans x4) hx
                | no => exact hp
      · exact h.elim
    · exact h.elim
  · exact (lb_var Tt (hr.mono (Nat.le_succ _)) hN ha hv hdb hcd (he _) (hpl _)).run pins s1 σ H1 Q I (lamR_var ha.len σ H1 T G env Q W r h)
theorem cb_fn {N psf : List Str} {params : Arguments} {cl : List (Str × Addr)} {φ : Fn} (Fb : FnB X.prog X.w X.K X.mg X.base z j x psf false φ) (A : Around) (outer : List Env) (s : Shared) (H : Hp) (W : XK) (f c' : Addr) (G0 H0 : Hp) (M0 : Option Addr) (hr : Room j (A.deeper (envF (nfOf q params scope cl c') f s.heap.objs.size)))
    (ha : WA (ncx (L2.CX X.prog X.w) X.prog X.w X.K X.mg X.base N (nfOf q params scope cl c') f A outer s H W) (z.at_ G0 H0 M0) E0 (e :: es) g psf.length)
    (hg : Gl (ncx (L2.CX X.prog X.w) X.prog X.w X.K X.mg X.base N (nfOf q params scope cl c') f A outer s H W) x := by rfl) (hdb : (x == ("__debug__" : Str)) = false := by decide) (he : ∀ env : Env, starEach (e :: es) env = (false, eval e env) :: starEach es env := by intro _; rfl) (hpl : ∀ env : Env, (backTo pos (starEach es env)).any (·.1) = false := by intro _; rfl) :
    PE (ncx (L2.CX X.prog X.w) X.prog X.w X.K X.mg X.base N (nfOf q params scope cl c') f A outer s H W) (.Call (.Name x p) (e :: es) [] pos) (tCall (spF (z.at_ G0 H0 M0) false psf.length φ) [] W (tAr (z.at_ G0 H0 M0) E0 g)) := by
  obtain ⟨fa, fd, Fo, hm, hk, hb⟩ := FnB_at Fb G0 H0 M0
  exact pe_call (X := ncx (L2.CX X.prog X.w) X.prog X.w X.K X.mg X.base N (nfOf q params scope cl c') f A outer s H W) Fo hr hg hm hk hb .nil
    (passes_call (X := ncx (L2.CX X.prog X.w) X.prog X.w X.K X.mg X.base N (nfOf q params scope cl c') f A outer s H W) (W := fun c d _ H => W c d H) (takes_of (X := ncx (L2.CX X.prog X.w) X.prog X.w X.K X.mg X.base N (nfOf q params scope cl c') f A outer s H W) (E := W) rfl rfl rfl rfl) fun _ _ _ _ h => h) ha.pa hdb (he _) (hpl _)
end
theorem sp_reads0 {N ps : List Str} {sc : Scope} {z : Z} {m : Bool} {body : S} {vs : List V} {H : Hp} {Q : VK} {E : XK} (Sc : FnScope N ps sc) (h : spF z m ps.length (fnOf m N.length body) vs H Q E) :
    ∃ G M, tS0 (z.at_ G H M) E body { nx := fun _ H' => Q .non H', rt := Q } (L2.start N vs) H := by
  obtain ⟨G, ds, M, a, e, hl, h⟩ := h
  refine ⟨G, M, ?_⟩
  obtain ⟨env, es, h⟩ := (Pg.bind h).ofO
  have hn : vs.length ≤ N.length := by
    have := Sc.pre
    rw [hl, ← this, List.length_take]
    exact Nat.min_le_right _ _
  have r := rep_start a e hn es
  have pa : ∀ {G' H' : Hp} {env' : Ev} {σ' : L2.St} {xs : List D}, Rep (z.at_ G H M) (fun _ => none) G' H' env' σ' → parOf m env' = some xs → ∀ b, (z.at_ G H M).M = some b → ∃ ws, H' b = some (.lst ws) ∧ IsA z.K z.cl G' ws xs := by
    intro G' H' env' σ' xs r' ep b hb'
    cases a with
    | pure a => cases hb'
    | @wr p ws vs xs0 ds g hp a a' =>
      cases hb'
      unfold parOf at ep
      rw [if_pos rfl] at ep
      split at ep
      · rename_i ys q
        cases ep
        obtain ⟨p', vs', _, _, hm, hp', ia⟩ := r'.sl 0 _ q
        cases hm
        exact ⟨vs', hp', ia⟩
      · cases ep
  refine ⟨G, env, r, (Pg.bind h).imp fun p hp => ?_⟩
  obtain ⟨p1, p2⟩ := p
  cases p1 with
  | nx =>
    intro σ' H' G' r' x'
    obtain ⟨xs, ex, hp⟩ := (Pg.bind hp).ofO
    exact hp .non H' G' r'.f .non (pa r' ex)
  | ret rr =>
    intro v σ' H' G' r' x' w'
    obtain ⟨q, eq, hp⟩ := (Pg.bind hp).ofO
    obtain ⟨xs, ex, hp⟩ := (Pg.bind hp).ofO
    refine hp v H' G' r'.f ?_ (pa r' ex)
    cases rr with
    | d y => cases eq; exact w'
    | new ys =>
      cases eq
      obtain ⟨p, vs', e1, hp', ia, g, _, h0, hm, _⟩ := w'
      exact ⟨p, vs', e1, hp', ia, g, h0, hm⟩
    | at_ i =>
      have w' : σ'[i]?.join = some v := w'
      simp only [retOf] at eq
      split at eq
      · rename_i y q
        cases eq
        have sl := r'.sl i _ q
        rw [w'] at sl
        obtain ⟨v', e1, sl⟩ := sl
        cases e1
        exact sl
      · rename_i ys q
        cases eq
        have sl := r'.sl i _ q
        rw [w'] at sl
        obtain ⟨p, vs', e1, g, _, h0, hp', ia⟩ := sl
        cases e1
        exact ⟨p, vs', rfl, hp', ia, g, h0, fun e2 => r'.f.m0 p e2 h0⟩
      · cases eq
section
variable {P : Program} {w : World} {K : PySem.W.Frag} {mg : Str → Option Value} {base : Heap}
theorem fn_okC {x qual : Str} {st : Stmt} {f c P0 : Addr} {fd : FuncData} {N ps : List Str} {k : Nat} {z : Z} {m : Bool} {body : S} (cv : List (Str × Addr) → Nat → Addr → Addr → HO) (Fn' : FunC K x qual st f fd c) (Sc : FnScope N ps (defScope st)) (hK : K = z.K)
    (tb : TabB base mg c P0) (hT : (P0, lamQ qual (defScope st)) ∈ z.Ts) (hu : ∀ p ∈ z.Ts, p.1 = P0 → p.2 = lamQ qual (defScope st))
    (hb : ∀ (A : Around) (outer : List Env) (s : Shared) (H : Hp) (E : XK) (G H' : Hp) (M : Option Addr) (X : Cx), X = cxOf (L2.CX P w) P w K mg base N qual (defScope st) f (.ref c) A outer s H E → OkX X ((z.cel (cv X.env.cells) (lamQ qual (defScope st))).at_ G H' M) E k →
      X.A.guards = some [] → MkLam X ((z.cel (cv X.env.cells) (lamQ qual (defScope st))).at_ G H' M) (lamQ qual (defScope st)) →
      PSs X (defBody st) (tS0 ((z.cel (cv X.env.cells) (lamQ qual (defScope st))).at_ G H' M) E body)) :
    FnG P w K mg base (k + 1) f fd ps (spF z m ps.length (fnOf m N.length body)) := by
  obtain ⟨oc, od, kV, doc, pm, an, ct, osl, rfl, lk, hcd⟩ := Fn'.ex
  refine ⟨fun vs H Q E ⟨G, ds, M, _, _, hl, _⟩ => hl, fun A outer s H args us vs Q E gd hr e0 bb r h => ?_⟩
  have hl : vs.length = ps.length := by obtain ⟨G, ds, M, _, _, hl, _⟩ := h; exact hl
  refine run_ofS lk hcd Sc hr e0 bb r hl fun hr' => ?_
  obtain ⟨G, M, ht⟩ := sp_reads0 Sc (spF_cel (cv := cv (cxOf (L2.CX P w) P w K mg base N qual (defScope st) f (.ref c) A outer s H E).env.cells) (cq := lamQ qual (defScope st)) h)
  exact ⟨_, hb A outer s H E G H M _ rfl ⟨hK, takes_of rfl rfl rfl rfl, rfl, Sc.nd, hr', passes_of rfl⟩ gd ⟨rfl, c, P0, tb, rfl, hT, hu⟩, ht⟩
end
def ctL (l : List Cd) : Nat → Option Cd := fun k => l[k]?
def forElt (ss : List Stmt) (i j : Nat) : Expr := match ss[i]? with
  | some (.For _ (.Tuple es _ _) _ _ _) => es.getD j (.Constant .none 0 ⟨0, 0, 0, 0⟩)
  | _ => .Constant .none 0 ⟨0, 0, 0, 0⟩
def noArgs : Arguments := defArgs (.Pass ⟨0, 0, 0, 0⟩)
def lamP : Expr → Arguments
  | .Lambda p _ _ _ => p
  | _ => noArgs
def lamB : Expr → Expr
  | .Lambda _ b _ _ => b
  | e => e
def lamS : Expr → Scope
  | .Lambda _ _ s _ => s
  | _ => defScope (.Pass ⟨0, 0, 0, 0⟩)
theorem cloW_mk {X : Cx} {z : Z} {q : Str} {k j m : Nat} {c : Cd} {N ps fr : List Str} {e : Expr} (hcv : z.cv k = CloO q (lamP e) (lamB e) (lamS e) (cloFrom X.env.cells (lamS e).names [])) (hcq : z.cq = q) (hn : c.n = ps.length) (S : nscB N ps fr (lamS e) = true) (hN : N.length = ps.length + c.js.length)
    (hd : ndefB X.env.scope (lamS e) fr = true) (hjs : c.js.map (fun j => X.N[j]?) = fr.map some)
    (hb : ∀ (q : Str) (cl : List (Str × Addr)) (pm cv ctv : Value) (us : List Value), us.length = ps.length → bindArgs (PySem.W.kla_fn "<lambda>" q (lamP e) (lamB e) (lamS e) cl pm cv ctv) ⟨us, []⟩ = pure (ps.zip us))
    (hm : ∀ env rs e2, c.g env = .ok (rs, e2) → rs.length = m)
    (hbd : ∀ (A : Around) (outer : List Env) (s : Shared) (H : Hp) (W : XK) (f c' : Addr) (G0 H0 : Hp) (M0 : Option Addr), Room j (A.deeper (envF (nfOf q (lamP e) (lamS e) (cloFrom X.env.cells (lamS e).names []) c') f s.heap.objs.size)) →
      PE (ncx (L2.CX X.prog X.w) X.prog X.w X.K X.mg X.base N (nfOf q (lamP e) (lamS e) (cloFrom X.env.cells (lamS e).names []) c') f A outer s H W) (lamB e) (tCall (spF (z.at_ G0 H0 M0) false m c.φ) [] W (tAr (z.at_ G0 H0 M0) E0 c.g))) : CloW X z q k c j :=
  ⟨_, _, _, N, ps, fr, m, nscope_by S, hn, hN, hcv, hcq, fun ok => Caps.made ok (ndef_free hd) (ndef_fr hd) hjs, hb, hm, hbd⟩
theorem cwOf {X : Cx} {z : Z} {E : XK} {q : Str} {k j : Nat} {ct : Nat → Option Cd} (o : OkX X z E k) (ml : MkLam X z q) (h : ∀ k c, ct k = some c → CloW X z q k c j) : ∀ k c, ct k = some c → CloW X z q k c j := h
theorem cloW_fn {X : Cx} {z : Z} {q x : Str} {k j m : Nat} {c : Cd} {N ps fr psf : List Str} {e e1 : Expr} {es : List Expr} {p pos : Pos} {sc : Scope} (hcv : z.cv k = CloO q (lamP e) (lamB e) (lamS e) (cloFrom X.env.cells (lamS e).names [])) (hcq : z.cq = q) (he : lamB e = .Call (.Name x p) (e1 :: es) [] pos) (hn : c.n = ps.length) (S : nscB N ps fr (lamS e) = true) (hN : N.length = ps.length + c.js.length)
    (hsc : X.env.scope = sc) (hd : ndefB sc (lamS e) fr = true) (hjs : c.js.map (fun j => X.N[j]?) = fr.map some)
    (hb : ∀ (q : Str) (cl : List (Str × Addr)) (pm cv ctv : Value) (us : List Value), us.length = ps.length → bindArgs (PySem.W.kla_fn "<lambda>" q (lamP e) (lamB e) (lamS e) cl pm cv ctv) ⟨us, []⟩ = pure (ps.zip us))
    (hm : ∀ env rs e2, c.g env = .ok (rs, e2) → rs.length = m) (Fb : FnB X.prog X.w X.K X.mg X.base z j x psf false c.φ) (hmp : psf.length = m) (hg : (lamS e).names.lookup x = some .globalImplicit)
    (ha : ∀ (A : Around) (outer : List Env) (s : Shared) (H : Hp) (W : XK) (f c' : Addr) (z' : Z), WA (ncx (L2.CX X.prog X.w) X.prog X.w X.K X.mg X.base N (nfOf q (lamP e) (lamS e) (cloFrom X.env.cells (lamS e).names []) c') f A outer s H W) z' E0 (e1 :: es) c.g m)
    (hdb : (x == ("__debug__" : Str)) = false := by decide) (hs : ∀ env : Env, starEach (e1 :: es) env = (false, eval e1 env) :: starEach es env := by intro _; rfl) (hpl : ∀ env : Env, (backTo pos (starEach es env)).any (·.1) = false := by intro _; rfl) : CloW X z q k c j := by
  subst hmp
  subst hsc
  refine cloW_mk hcv hcq hn S hN hd hjs hb hm fun A outer s H W f c' G0 H0 M0 hr => ?_
  rw [he]
  exact cb_fn Fb A outer s H W f c' G0 H0 M0 hr (ha A outer s H W f c' _) hg hdb hs hpl
end TN
namespace TN
open PySem PySem.Spec PyProof.Rows L2
section
variable {X : Cx}
variable {z : Z}
end
end TN
namespace TN
open PySem PySem.Spec PyProof.Rows L2
section
variable {X : Cx} {z : Z} {E : XK} {f : F} {e : Expr} {a : Str} {j : Nat} {p1 apos pos : Pos}
end
end TN
namespace TN
open PySem PySem.Spec PyProof.Rows L2
section
variable {z : Z} {E : XK} {σ : L2.St} {H : Hp} {X : Cx} {i j k l : Nat} {fa fb fc fl : F} {D : Ends}
end
end TN
namespace TN
open PySem PySem.Spec PyProof.Rows L2
section
variable {X : Cx}
variable {z : Z} {E : XK} {k : Nat}
end
end TN
namespace ZS
open PySem PySem.Spec PyProof.Rows L2 RT RZ
section
variable {prog : Program} {w : World} {A : Around} {E : Value → Shared → Prop} {s : Shared}
end
end ZS
namespace ZS
open PySem PySem.Spec PyProof.Rows L2 RT RZ
end ZS
namespace ZS
open PySem PySem.Spec PyProof.Rows L2 RT RZ
section
variable {prog : Program} {w : World} {A : Around} {E : Value → Shared → Prop} {s : Shared}
end
end ZS
namespace ZS
open PySem PySem.Spec PyProof.Rows L2 RT RZ
end ZS
namespace TN
open PySem PySem.Spec PyProof.Rows L2
section
variable {z : Z} {G : Hp} {a : Addr} {vs : List V} {ds : List D} {txt : Str}
end
section
variable {X : Cx} {z : Z} {E : XK} {e e2 : Expr} {f g : F} {p pos tpos : Pos} {elts : List Expr} {kk : Nat}
end
end TN
namespace TN
open PySem PySem.Spec PyProof.Rows L2
def ConT (K : PySem.W.Frag) (a : Addr) (ss : List Str) : Prop := ∃ (o : Obj) (its : Array Value) (n : Nat), (K.lookup a = some o ∧ o.dict = none) ∧ o.cls = .type "tuple" ∧ o.data = .seq its n ∧ its.size ≤ sizeLine ∧ Vals (ss.map V.str) its.toList
def texts (ss : List Str) : D := .tup (ss.map D.str)
section
variable {X : Cx} {z : Z} {E : XK} {x : Str} {a : Addr} {ss : List Str} {pos : Pos}
theorem we_conT (hK : X.K = z.K) (hm : X.mg x = some (.ref a)) (hc : ConT X.K a ss) (hg : Gl X x := by rfl) (hd : (x == ("__debug__" : Str)) = false := by decide) : PE X (.Name x pos) (tE z E (fC (texts ss))) :=
  pe_mono (pe_glob (v := .ref a) hg hm rfl hd) fun σ H Q ⟨T, G, env, r, h⟩ => by
  refine h (.ref a) H G r (Ex.refl G) (.tup (.inr ?_) (isA_strs ss))
  rw [← hK]
  exact hc
end
section
variable {z : Z} {G : Hp} {txt : Str}
variable {X : Cx} {E : XK} {tg e : Expr} {f : F}
end
end TN
namespace ZS
open PySem PySem.Spec PyProof.Rows L2 RT RZ
section
variable {prog : Program} {w : World} {A : Around} {E : Value → Shared → Prop} {s : Shared}
end
end ZS
namespace ZS
open PySem PySem.Spec PyProof.Rows L2 RT RZ
end ZS
namespace ZS
open PySem PySem.Spec PyProof.Rows L2 RT RZ
section
variable {prog : Program} {w : World} {A : Around} {E : Value → Shared → Prop} {s : Shared}
end
end ZS
namespace ZS
open PySem PySem.Spec PyProof.Rows L2 RT RZ
end ZS
namespace TN
open PySem PySem.Spec PyProof.Rows L2
section
variable {X : Cx} {z : Z} {E : XK} {e e2 : Expr} {f g : F} {p pos tpos : Pos} {elts : List Expr} {kk : Nat}
end
end TN
namespace TN
open PySem PySem.Spec PyProof.Rows L2 PySem.Calls
section
variable {prog : Program} {w : World} {A : Around} {E : Value → Shared → Prop} {s : Shared}
end
section
variable {X : Cx} {z : Z}
end
end TN
namespace ZL
open PySem RZ
open PySem.Sem (wp)
section
variable {prog : Program} {w : World} {A : Around} {E : Value → Shared → Prop} {s : Shared}
end
section
variable {prog : Program} {w : World} {A : Around} {E : Value → Shared → Prop} {s : Shared}
end
end ZL
namespace ZL
open PySem PySem.Spec PyProof.Rows L2 RT RZ
end ZL
namespace TN
open PySem PySem.Spec PyProof.Rows L2 RZ
section
variable {z : Z} {G : Hp} {a b : Addr} {vs ws : List V} {ds es : List D}
end
section
variable {X : Cx} {z : Z} {E : XK} {e e2 : Expr} {g : FA} {n : Nat} {p pos tpos : Pos}
end
end TN
namespace TN
open PySem PySem.Spec PyProof.Rows L2 LamX NdefX
def Rows (z : Z) (T G : Hp) : List Addr → List (List D) → Prop
  | [], [] => True
  | q :: qs, xs :: xss => (∃ vs, T q = some (.lst vs) ∧ IsA z.K z.cl G vs xs) ∧ Rows z T G qs xss
  | _, _ => False
section
variable {z : Z} {T T' G G' H : Hp} {env : Ev} {σ : L2.St} {p q : Addr} {o : HO}
theorem Rows.length : ∀ {qs : List Addr} {xss : List (List D)}, Rows z T G qs xss → qs.length = xss.length
  | [], [], _ => rfl
  | _ :: _, _ :: _, h => congrArg (· + 1) h.2.length
theorem Rows.get : ∀ {qs : List Addr} {xss : List (List D)} {k : Nat} {xs : List D}, Rows z T G qs xss → xss[k]? = some xs → ∃ q vs, qs[k]? = some q ∧ T q = some (.lst vs) ∧ IsA z.K z.cl G vs xs
  | [], [], _, _, _, e => by simp at e
  | q :: _, xs :: _, 0, _, h, e => by simp at e; subst e; obtain ⟨vs, a, b⟩ := h.1; exact ⟨q, vs, rfl, a, b⟩
  | _ :: _, _ :: _, k + 1, _, h, e => by
    obtain ⟨q, vs, a, b⟩ := Rows.get (k := k) h.2 (by simpa using e)
    exact ⟨q, vs, by simpa using a, b⟩
theorem Rows.to : ∀ {qs : List Addr} {xss : List (List D)}, Rows z T G qs xss → (∀ q ∈ qs, T' q = T q) → Ex G G' → Rows z T' G' qs xss
  | [], [], _, _, _ => True.intro
  | q :: qs, xs :: xss, h, e, x => by
    obtain ⟨vs, a, b⟩ := h.1
    exact ⟨⟨vs, (e q (List.mem_cons_self ..)).trans a, b.mono x⟩, Rows.to h.2 (fun q' hq => e q' (List.mem_cons_of_mem _ hq)) x⟩
theorem Rows.set {vs : List V} {xs : List D} : ∀ {qs : List Addr} {xss : List (List D)} {k : Nat}, Rows z T G qs xss → qs.Nodup → qs[k]? = some q → IsA z.K z.cl G vs xs → Rows z (upd T q (.lst vs)) G qs (xss.set k xs)
  | [], [], _, h, _, _, _ => h
  | q' :: qs, ys :: xss, 0, h, n, e, a => by
    simp at e
    subst e
    refine ⟨⟨vs, upd_same, a⟩, h.2.to (fun q2 hq => upd_ne fun w => ?_) (Ex.refl G)⟩
    subst w
    exact (List.nodup_cons.mp n).1 hq
  | q' :: qs, ys :: xss, k + 1, h, n, e, a => by
    have e : qs[k]? = some q := by simpa using e
    have ne : q' ≠ q := fun w => by subst w; exact (List.nodup_cons.mp n).1 (List.mem_of_getElem? e)
    obtain ⟨ws, b, c⟩ := h.1
    exact ⟨⟨ws, by rw [upd_ne ne]; exact b, c⟩, Rows.set h.2 (List.nodup_cons.mp n).2 e a⟩
structure RepN (z : Z) (T G H : Hp) (env : Ev) (σ : L2.St) (i : Nat) (xss : List (List D)) : Prop where
  r : Rep z T G H env σ
  no : env[i]? = some .no
  ex : ∃ p qs, σ[i]?.join = some (.ref p) ∧ T p = some (.lst (qs.map V.ref)) ∧ p ∉ qs ∧ qs.Nodup ∧ (∀ a, T a ≠ none → a = p ∨ a ∈ qs) ∧ Rows z T G qs xss
theorem RepN.to {env' : Ev} {σ' : L2.St} {H' : Hp} {i : Nat} {xss : List (List D)} (n : RepN z T G H env σ i xss) (r : Rep z T G' H' env' σ') (hn : env'[i]? = some .no) (e : Ex G G') (hs : σ'[i]?.join = σ[i]?.join) : RepN z T G' H' env' σ' i xss := by
  obtain ⟨p, qs, a, b, c, d, f, g⟩ := n.ex
  exact ⟨r, hn, p, qs, hs.trans a, b, c, d, f, g.to (fun _ _ => rfl) e⟩
theorem RepN.still {i : Nat} {xss : List (List D)} (n : RepN z T G H env σ i xss) : ∃ G', Rep z T0 G' H (env.set i (.val (.lst (xss.map .lst)))) σ ∧ Ex G G' := by
  obtain ⟨p, qs, a, b, c, d, f, g⟩ := n.ex
  have r := n.r
  let G1 : Hp := fun x => match T x with | some o => some o | none => G x
  have g1 : ∀ x, T x = none → G1 x = G x := fun x h => by show (match T x with | some o => some o | none => G x) = G x; rw [h]
  have g2 : ∀ x o, T x = some o → G1 x = some o := fun x o h => by show (match T x with | some o => some o | none => G x) = some o; rw [h]
  have x1 : Ex G G1 := fun x o h => by
    cases q : T x with
    | none => rw [g1 x q]; exact h
    | some o' => rw [r.gt x (fun w => by rw [q] at w; cases w)] at h; cases h
  have tn : ∀ x, G x = none → T x = none → G1 x = none := fun x h1 h2 => (g1 x h2).trans h1
  have fr : Fr z G1 H := by
    refine ⟨fun x o h => ?_, r.f.g0.trans x1, fun x h => ?_, r.f.fr, fun x h => ?_, r.f.m0, r.f.tb, r.f.t1⟩
    · cases q : T x with
      | none => rw [g1 x q] at h; exact r.f.exG x o h
      | some o' => rw [g2 x o' q] at h; cases h; exact r.exT x _ q
    · cases q : T x with
      | none => rw [g1 x q] at h; exact r.f.gn x h
      | some o' => exact .inr (r.t0 x (by rw [q]; intro w; cases w))
    · refine ⟨(r.f.mm x h).1, tn x (r.f.mm x h).2 ?_⟩
      cases q : T x with
      | none => rfl
      | some o' => exact absurd (r.t0 x (by rw [q]; intro w; cases w)) (r.f.m0 x h)
  have r1 : Rep z T0 G1 H env σ := by
    refine ⟨fr, r.len, fun j s es => ?_, r.dis, fun x o h => (by cases h), fun x h => absurd rfl h, fun x h => absurd rfl h⟩
    have k := r.sl j s es
    cases s with
    | no => trivial
    | val d => obtain ⟨v, e1, w⟩ := k; exact ⟨v, e1, w.mono x1⟩
    | own xs => obtain ⟨p', vs, e1, g', t', h0, hp, ia⟩ := k; exact ⟨p', vs, e1, tn p' g' t', rfl, h0, hp, ia.mono x1⟩
    | par xs => obtain ⟨p', vs, e1, t', m, hp, ia⟩ := k; exact ⟨p', vs, e1, rfl, m, hp, ia.mono x1⟩
    | odc ks xs => obtain ⟨p', vs, e1, g', t', h0, hp, l, nn, ia⟩ := k; exact ⟨p', vs, e1, tn p' g' t', rfl, h0, hp, l, nn, ia.mono x1⟩
    | clo j => obtain ⟨q, c', e1, h1, h2⟩ := k; exact ⟨q, c', e1, x1 _ _ h1, h2.imp (x1 _ _) id⟩
  have all : ∀ {qs : List Addr} {xss : List (List D)}, Rows z T G qs xss → IsA z.K z.cl G1 (qs.map V.ref) (xss.map D.lst) := fun {qs xss} => by
    induction qs generalizing xss with
    | nil => intro h; cases xss with | nil => exact .nil | cons _ _ => exact h.elim
    | cons q qs ih =>
      intro h
      cases xss with
      | nil => exact h.elim
      | cons xs xss =>
        obtain ⟨⟨vs, a, b⟩, h2⟩ := h
        exact .cons (.lst (g2 _ _ a) (b.mono x1)) (ih h2)
  have hi : i < env.length := getElem?_lt n.no
  have hv : SlOk z T0 G1 H (some (.ref p)) (.val (.lst (xss.map .lst))) := ⟨.ref p, rfl, .lst (g2 _ _ b) (all g)⟩
  have hσ : σ.set i (some (.ref p)) = σ := by
    apply List.ext_getElem?
    intro j
    by_cases e : i = j
    · subst e
      have li : i < σ.length := by rw [← r.len]; exact hi
      rw [List.getElem?_set_self li]
      cases q : σ[i]? with
      | none => rw [q] at a; cases a
      | some o => rw [q] at a; exact congrArg some a.symm
    · rw [List.getElem?_set_ne e]
  have r2 := r1.set hv (fun q w => by cases w) hi
  rw [hσ] at r2
  exact ⟨G1, r2, x1⟩
end
abbrev SN := Ev → List (List D) → Out (Ev × List (List D))
def CN (z : Z) (i : Nat) (G : Hp) (D : Ends) : Ev × List (List TN.D) → Prop := fun q => ∀ T' σ' H' G', RepN z T' G' H' q.1 σ' i q.2 → Ex G G' → D.nx σ' H'
theorem CN.mono {z : Z} {i : Nat} {G G' : Hp} {D : Ends} {q : Ev × List (List TN.D)} (h : CN z i G D q) (e : Ex G G') : CN z i G' D q := fun T' σ' H' G'' n x => h T' σ' H' G'' n (e.trans x)
def tL (z : Z) (E : XK) (i : Nat) (g : Ev → List (List D) → Out (Fl × Ev)) : TS := fun D σ H => ∃ T G env xss, RepN z T G H env σ i xss ∧ Pg z E (CS z T0 G D) (g env xss)
section
variable {X : Cx} {z : Z} {E : XK} {k i : Nat} {pos tpos opos : Pos} {st : Stmt} {rest a b : List Stmt} {c : Expr} {s t : SN} {g : FB} {u : Ev → List (List D) → Out (Fl × Ev)}
end
section
variable {X : Cx} {z : Z} {E : XK} {k n : Nat} {pos : Pos} {tg iter elt : Expr} {ifs : List Expr} {fi : FI} {ga : GA} {is : List Nat} {c : FB} {f : F} {scope : Scope} {own : List (Str × Nat)}
end
end TN
namespace TN
open PySem PySem.Spec PyProof.Rows L2 LamX NdefX
def phi (fb : F) (n : Nat) (cs : List Sl) : List D → Out D := fun ds => if ds.length = n then (fb (ds.map Sl.val ++ cs)).bind fun p => match p.1 with
  | .d d => .ok d
  | _ => .no
  else .no
def CapsOk (K : PySem.W.Frag) (cl : Cl) (G : Hp) (ws : List (Option V)) (cs : List Sl) : Prop := cs.length = ws.length ∧ ∀ (i : Nat) (s : Sl), cs[i]? = some s → s = .no ∨ ∃ d v, s = .val d ∧ ws[i]? = some (some v) ∧ Is K cl G v d
structure HoC (P : Program) (w : World) (K : PySem.W.Frag) (mg : Str → Option Value) (base : Heap) (z : Z) (G : Hp) (h : Heap) (H : Hp) (j : Nat) (cv : Addr → Addr → HO) (cq : Str) (φ : List D → Out D) : Prop where
  ex : ∃ (params : Arguments) (body : Expr) (scope : Scope) (cl : List (Str × Addr)) (N ps fr : List Str) (ws : List (Option V)) (cs : List Sl) (fb : F),
    cv = CloO cq params body scope cl ∧ NScope N ps fr scope ∧ N.length = ps.length + ws.length ∧ φ = phi fb ps.length cs ∧
    (∀ (q : Str) (cl : List (Str × Addr)) (pm cv ctv : Value) (us : List Value), us.length = ps.length → bindArgs (PySem.W.kla_fn "<lambda>" q params body scope cl pm cv ctv) ⟨us, []⟩ = pure (ps.zip us)) ∧
    CellsAt cl fr ws h H ∧ CapsOk z.K z.cl G ws cs ∧
    ∀ (A : Around) (outer : List Env) (s : Shared) (H : Hp) (W : XK) (f c' : Addr) (G0 H0 : Hp), Room j (A.deeper (envF (nfOf cq params scope cl c') f s.heap.objs.size)) →
      PE (ncx (L2.CX P w) P w K mg base N (nfOf cq params scope cl c') f A outer s H W) body (tE (z.at_ G0 H0 none) W fb)
theorem HoC.at_ {P : Program} {w : World} {K : PySem.W.Frag} {mg : Str → Option Value} {base : Heap} {z : Z} {G H : Hp} {h : Heap} {j : Nat} {cv : Addr → Addr → HO} {cq : Str} {φ : List D → Out D} (c : HoC P w K mg base z G h H j cv cq φ) (G0 H0 : Hp) (M : Option Addr) : HoC P w K mg base (z.at_ G0 H0 M) G h H j cv cq φ := ⟨c.ex⟩
end TN
namespace TN
open PySem PySem.Spec PyProof.Rows L2 LamX NdefX
def FnHo (P : Program) (w : World) (K : PySem.W.Frag) (mg : Str → Option Value) (base : Heap) (z : Z) (k j : Nat) (g : Addr) (n : Nat) (Φ : (List D → Out D) → Fn) : Prop :=
  ∀ (A : Around) (outer : List Env) (s : Shared) (H : Hp) (us : List Value) (vs : List V) (f c' : Addr) (G : Hp) (ds : List D) (Q : VK) (E : XK) (cv : Addr → Addr → HO) (cq : Str) (φ : List D → Out D),
    Room k A → Env0 P w K mg base A outer s H → Vals (vs ++ [.ref f]) us → vs.length + 1 = n → IsA z.K z.cl G vs ds → (Ex G H ∧ Tabs z.Ts H ∧ ∀ p ∈ z.Ts, G p.1 = none) → G f = some (cv f c') → H c' = some (CodeO c' cq) →
    HoC P w K mg base z G s.heap H j cv cq φ → Pg ((z.cel (fun _ => cv) cq).at_ G H none) E (FEnd ((z.cel (fun _ => cv) cq).at_ G H none) Q) (Φ φ ds) →
    codeAny (model P w) A (.call (.ref g) ⟨us, []⟩) (L2.CR (L2.CX P w) outer P w H s Q E) s
structure HoB (P : Program) (w : World) (K : PySem.W.Frag) (mg : Str → Option Value) (base : Heap) (z : Z) (k j : Nat) (x : Str) (n : Nat) (Φ : (List D → Out D) → Fn) : Prop where
  ex : ∃ g : Addr, mg x = some (.ref g) ∧ PySem.W.keepIn K (.ref g) = true ∧ FnHo P w K mg base z k j g n Φ
section
variable {P : Program} {w : World} {K : PySem.W.Frag} {mg : Str → Option Value} {base : Heap} {z : Z} {k j n : Nat} {x : Str} {Φ : (List D → Out D) → Fn}
end
section
variable {P : Program} {w : World} {K : PySem.W.Frag} {mg : Str → Option Value} {base : Heap}
end
end TN
namespace TN
open PySem PySem.Spec PyProof.Rows L2 LamX NdefX
def fNo : F := fun _ => .no
section
variable {X : Cx} {z : Z} {E : XK} {e tg : Expr} {st : Stmt}
theorem we_no : PE X e (tE z E fNo) := ⟨fun pins s σ H Q I ⟨T, G, env, r, h⟩ => h.elim⟩
end
end TN
namespace TN
open PySem PySem.Spec PyProof.Rows L2 LamX NdefX PySem.SeqAt
theorem str_eq_declines_dict (b : Str) (u : Tok) (l : Addr) (c : Value) (es : Array DictEntry) (n : Nat) (dd : Option Addr) (sl : Array (Option Value)) :
    Meets (Builtin.«str.__eq__» ⟨[.str b u, .ref l], []⟩) (fun _ R s => s.heap.get? l = some { cls := c, dict := dd, data := .dict es n, slots := sl } ∧ R (.ok (.ret .notImplemented)) s) :=
  .of_wp fun prog w A R s h => by obtain ⟨hp, g, d, tk, os⟩ := s; obtain ⟨hl, h⟩ := h; wp_walk using wpAny_loadPart' hl, wpAny_load hl; exact ⟨_, rfl, h⟩
theorem dict_eq_declines_str (l : Addr) (es : Array DictEntry) (n : Nat) (dd : Option Addr) (sl : Array (Option Value)) (b : Str) (u : Tok) :
    Meets (Builtin.«dict.__eq__» ⟨[.ref l, .str b u], []⟩) (fun _ R s => s.heap.get? l = some { cls := .type "dict", dict := dd, data := .dict es n, slots := sl } ∧ R (.ok (.ret .notImplemented)) s) :=
  .of_wp fun prog w A R s h => by obtain ⟨hp, g, d, tk, os⟩ := s; obtain ⟨hl, h⟩ := h; have f1 := F.sub_str_dict; wp_walk using wpAny_loadPart' hl, wpAny_load hl; exact ⟨_, rfl, h⟩
section
variable {A : Around} {s : Shared}
theorem rcAt_str_dict {l : Addr} {o : Obj} {es : Array DictEntry} {n : Nat} (b : Str) (u : Tok) (ho : s.heap.get? l = some o) (hc : o.cls = .type "dict") (hd : o.data = .dict es n) (hu : A.units < cLine) : RcAt A s (.str b u) (.ref l) false := fun prog w E Q h => by
  obtain ⟨cls, dd, data, sl⟩ := o
  simp only at hc hd
  subst hc hd
  exact PySem.SeqAt.rc_eq_decline_or (k := false) (typeIs_str s b u) ⟨_, ho, rfl⟩ (by decide) F.sub_dict_str F.slot_str_eq F.slot_dict_eq_refl
    (fun _ hq => call_meets F.slot_str_eq (typeIs_str s b u) F.entry_str_eq (F.args_str_eq_2 _ _) (str_eq_declines_dict b u l (.type "dict") es n dd sl) ⟨ho, hq⟩)
    (fun _ hq => call_meets F.slot_dict_eq_refl ⟨_, ho, rfl⟩ F.entry_dict_eq (F.args_dict_eq_2 _ _) (dict_eq_declines_str l es n dd sl b u) ⟨ho, hq⟩)
    (fun _ hq => wpAny_of_eq (rfl : isSame (.str b u) (.ref l) = pure false) hq) (.inr hu) h
theorem eqAt_str_dict {l : Addr} {o : Obj} {es : Array DictEntry} {n : Nat} (b : Str) (u : Tok) (ho : s.heap.get? l = some o) (hc : o.cls = .type "dict") (hd : o.data = .dict es n) (hu : A.units < cLine) : EqAt A s (.str b u) (.ref l) false := fun prog w E Q h => by
  unfold eqBool
  refine wpAny_holding ?_
  refine wpAny_ite_split (fun hab => absurd (eq_of_beq hab) nofun) (fun _ => ?_)
  exact wpAny_bind (rcAt_str_dict b u ho hc hd hu prog w E _ (wpAny_truthy_bool h))
end
theorem reads_strs {h : Heap} : ∀ {bs : List Str} {us : List Value} {as : List Addr}, ReadsAll h us (bs.map PyData.str) as → ∀ y ∈ us, ∃ b t, y = .str b t
  | [], _, _, r, y, hy => by cases r; cases hy
  | b :: bs, _, _, r, y, hy => by
    cases r with
    | cons r1 r2 =>
      rcases List.mem_cons.mp hy with e | hy
      · subst e; cases r1; exact ⟨_, _, rfl⟩
      · exact reads_strs r2 y hy
def strsP : List PyData → Option (List Str)
  | [] => some []
  | .str b :: ps => (strsP ps).map (b :: ·)
  | _ => none
theorem strsP_eq : ∀ {ps : List PyData} {bs : List Str}, strsP ps = some bs → ps = bs.map PyData.str
  | [], _, h => by cases h; rfl
  | .str b :: ps, _, h => by
    simp only [strsP, Option.map_eq_some_iff] at h
    obtain ⟨bs, e, rfl⟩ := h
    rw [strsP_eq e]; rfl
  | .none :: _, _, h => by cases h
  | .bool _ :: _, _, h => by cases h
  | .int _ :: _, _, h => by cases h
  | .list _ :: _, _, h => by cases h
  | .tuple _ :: _, _, h => by cases h
  | .dict _ :: _, _, h => by cases h
def dInE (neg : Bool) (x c : D) : Out R0 := match x with
  | .dct => match toPy c with
    | some (.tuple ps) => match strsP ps with
      | some _ => .ok (.d (.bl neg))
      | none => .no
    | _ => .no
  | _ => dIn neg x c
section
variable {X : Cx} {z : Z} {E : XK} {k : Nat}
theorem dctK_at {pins : List (Addr × Obj)} {σ : L2.St} {H : Hp} {s : Shared} {a : Addr} (I : Inv X pins σ H s) (e : H a = some (.dK [])) : ∃ o es n, s.heap.get? a = some o ∧ o.cls = .type "dict" ∧ o.data = .dict es n := by
  obtain ⟨_, _, vs, _, ⟨o, es, ep, ho, hx, hd, _⟩⟩ := dk_of I.hok e
  exact ⟨o, es, ep, ho, hx.1, hd⟩
theorem isDctK {cl : Cl} {G H : Hp} {v : V} (e : Ex G H) (h : IsT z.K cl G H v .dct) : ∃ a, v = .ref a ∧ H a = some (.dK []) := by
  rcases h with h | ⟨_, _, _, _, q, _⟩
  · cases h with
    | dct hs => exact ⟨_, rfl, e _ _ hs⟩
  · cases q
theorem od_notInE (o : OkX X z E k) : OpD X z (compareOp .NotIn) (dInE true) := by
  obtain ⟨r0, h1, h2⟩ := (od_notIn o).run
  refine ⟨⟨fun x y H Q => (∃ (a : Addr) (bs : List Str), x = .ref a ∧ H a = some (.dK []) ∧ Dp X.K H y (.tuple (bs.map PyData.str)) ∧ Q (.bl true) H) ∨ r0 x y H Q, fun pins s σ H x y v u Q I rx ry h => ?_, fun G H x y dx dy Q e ix iy p => ?_⟩, fun x y c d => ?_⟩
  · rcases h with ⟨a, bs, rfl, ha, hd, q⟩ | h
    · obtain rfl : v = Value.ref a := rx
      obtain ⟨as, r1⟩ := Dp.reads I _ y u hd ry
      obtain ⟨o', es, n, ho, hc, hdd⟩ := dctK_at I ha
      have hu := o.room.units
      cases r1 with
      | tuple t1 t2 t3 t4 =>
        refine PySem.SeqAt.notIn_tupleAt (fun _ => false) ⟨_, t1, t2, _, t3⟩ (fun y hy => ?_) ?_
        · obtain ⟨b, t, e⟩ := reads_strs t4 y (by simpa using hy)
          rw [e]
          exact eqAt_str_dict b t ho hc hdd (by show X.A.units + 1 < cLine; omega)
        · have : ∀ xs : Array Value, xs.any (fun _ => false) = false := fun xs => by simp
          rw [this]
          exact ⟨.bl _, H, I, rfl, q⟩
    · exact h1 pins s σ H x y v u Q I rx ry h
  · unfold dInE at p
    split at p
    · split at p
      · rename_i ps qc
        split at p
        · rename_i bs qb
          obtain ⟨a, rfl, ha⟩ := isDctK e ix
          rw [o.K]
          exact .inl ⟨a, bs, rfl, ha, by rw [← strsP_eq qb]; exact isT_dp e iy qc, p _ (.bl _)⟩
        · exact p.elim
      · exact p.elim
    · exact .inr (h2 G H x y _ dy Q e ix iy p)
  · unfold dInE
    split
    · split
      · split <;> (intro h; cases h)
      · intro h; cases h
    · exact (od_notIn o).nx _ _ c d
end
theorem MkLam.blk {X : Cx} {z : Z} {q : Str} (ml : MkLam X z q) {s : Shared} {H : Hp} {scope : Scope} {cl : List (Str × Addr)} {C : Addr} {fp : List Addr} : MkLam (X.blk s H scope (compEnvC scope cl C X.env) fp) z q := ⟨ml.hq, ml.ex⟩
end TN
namespace TD
open PySem PySem.Spec PyProof.Rows L2
section
variable {P : Program} {w : World} {A : Around} {E : Value → Shared → Prop} {s : Shared} {a : Addr} {L : List (Addr × List Int)} {es : Array (Int × Value)} {ep : Nat} {t : SetTable}
theorem add_d2 (R : SetD P w s.heap a L es ep t) {x : Addr} {k : List Int} (hx : IsT P w s.heap k x) (hu : A.units < cLine) (hfew : t.fill < 127) {Q : Bool → Shared → Prop}
    (hQ : ∀ b h' L' es' ep' t', Heap.SameBut a s.heap h' → SetD P w h' a L' es' ep' t' → t'.fill ≤ t.fill + 1 → (k ∈ L.map (·.2) → L' = L ∧ t' = t) → (k ∉ L.map (·.2) → L'.Perm ((x, k) :: L)) → Q b { s with heap := h' }) :
    wpAny (model P w) A (setAddHashed a (.ref x) (thash P w k)) Q E s := by
  obtain ⟨o, ho, hex, hd⟩ := R.ob
  have hsl := rows_size R.rows
  have hlen := R.len
  unfold setAddHashed
  refine wpAny_holding ?_
  rw [show (100000 : Nat) = 99999 + 1 from rfl, setAddHashedIn_succ]
  refine wpAny_bind (wpAny_setState_of ho hd R.fits ?_)
  dsimp only
  refine wp_if_neg (by simp [byScan, Value.scannable]) ?_
  try refine wpAny_bind (wpAny_pure ?_)
  refine wpAny_bind (search_d R hx hu true (fun i p hp hk => ?_) fun hm c wd hK hb hwd => ?_)
  · simp only [if_true]
    exact wpAny_pure (hQ false s.heap L es ep t (Heap.SameBut.refl a s.heap) R (Nat.le_succ _) (fun _ => ⟨rfl, rfl⟩) fun z => absurd (List.mem_map.mpr ⟨p, List.mem_of_getElem? hp, hk⟩) z)
  · dsimp only
    refine wpAny_bind (wpAny_setState_of ho hd R.fits ?_)
    dsimp only
    generalize hpt : t.put (way t.mask (thash P w k) c) = pt
    obtain ⟨t1, p⟩ := pt
    obtain ⟨q2, q3, q4, q5, q6, q7, q8⟩ := R.tab.put rfl hK hb hpt
    dsimp only
    have hp1 : t1.plain = true := by rw [q6]; exact R.plain
    first
      | (refine wpAny_bind ?_; refine wp_if_pos hp1 ?_; refine hashBy_tup hx ?_)
      | refine wp_if_pos hp1 (wpAny_bind (hashBy_tup hx ?_))
    simp only [if_true]
    have hin : (SetTable.insertAt es p (thash P w k, Value.ref x)).toList = rowsOf P w (L.take p ++ (x, k) :: L.drop p) := by
      rw [SetTable.toList_insertAt, rows_put, R.rows]
    have pm := put_perm L p (x, k)
    have hhs : (L.map fun p => thash P w p.2).take p ++ thash P w k :: (L.map fun p => thash P w p.2).drop p = (L.take p ++ (x, k) :: L.drop p).map (fun p => thash P w p.2) := by
      rw [List.map_append, List.map_cons, List.map_take, List.map_drop]
    rw [hhs] at q3
    generalize L.take p ++ (x, k) :: L.drop p = L1 at pm q3 hin
    generalize SetTable.insertAt es p (thash P w k, Value.ref x) = es1 at hin ⊢
    have hl1 : L1.length = L.length + 1 := pm.length_eq
    have hes : es1.size = L.length + 1 := (rows_size hin).trans hl1
    have nd1 : (L1.map (·.2)).Nodup := (pm.map (·.2)).nodup_iff.mpr (by rw [List.map_cons]; exact List.nodup_cons.mpr ⟨hm, R.nd⟩)
    refine wpAny_bind (wpAny_storeSet_of ho hd ?_ (by rw [hes, sizeLine_eq]; omega))
    have sb : Heap.SameBut a s.heap (s.heap.update a (Obj.putSet es1 t1)) := Heap.SameBut.update ..
    have ho1 := store_at (es' := es1) (t' := t1) ho hd
    generalize s.heap.update a (Obj.putSet es1 t1) = h1 at sb ho1 ⊢
    have tup1 : ∀ p ∈ L1, IsT P w h1 p.2 p.1 := fun p hp => by
      rcases List.mem_cons.mp (pm.mem_iff.mp hp) with e | hp
      · rw [e]; exact isT_same hx ho hd sb
      · exact isT_same (R.tup p hp) ho hd sb
    have ld1 : w.params.followText "set-order" = true ∨ t1.led = true := by rw [q5]; exact R.led
    have hroom := R.room
    by_cases hf : (!wd && t1.tooFull) = true
    · first
        | (refine wpAny_bind ?_; refine wp_if_pos hf ?_)
        | (refine wp_if_pos hf ?_; refine wpAny_bind ?_)
      rw [hsl]
      obtain ⟨g1, g2⟩ := grown_ok (n := L.length + 1) (by omega)
      have hm511 := R.tab.mok.le
      have fits1 : t1.fits es1.size = true := by
        have h1 := q3.sz
        rw [List.length_map, hl1] at h1
        unfold SetTable.fits
        rw [Bool.and_eq_true, beq_iff_eq, decide_eq_true_eq, h1, hes]
        refine ⟨rfl, ?_⟩
        rw [q4]
        have := R.tab.mok
        unfold Msk at this
        omega
      refine relay_d (s := { s with heap := h1 }) ho1 ⟨hex.1, hex.2.1, hex.2.2⟩ rfl hin fits1 nd1 tup1 hp1 ld1 rfl g1 (by rw [hl1]; exact g2) fun h2 L2 es2 ep2 t2 sb2 R2 pm2 fl2 _ _ => ?_
      exact wpAny_pure (hQ true h2 L2 es2 ep2 t2 (sb.trans sb2) R2 (by rw [fl2, hl1]; omega) (fun z => absurd z hm) fun _ => pm2.trans pm)
    · first
        | refine wp_if_neg hf ?_
        | (refine wpAny_bind ?_; refine wp_if_neg hf ?_; refine wpAny_pure ?_)
      refine wpAny_pure (hQ true h1 L1 es1 (ep + 1) t1 sb ⟨⟨_, ho1, ⟨hex.1, hex.2.1, hex.2.2⟩, rfl⟩, hin, q3, nd1, tup1, hp1, ld1, ?_⟩ q7 (fun z => absurd z hm) fun _ => pm)
      cases wd with
      | true => rw [q8 (hwd rfl), q4]; exact hroom
      | false =>
        have h := hf
        unfold SetTable.tooFull at h
        simp only [Bool.not_false, Bool.true_and, decide_eq_true_eq] at h
        omega
theorem update_d {I : Addr} {fp wr : List Addr} {G : Array GenState → Array GenState → Prop} {n : Nat} {Pv : Nat → Value → Prop} {St : Nat → Shared → Prop} {R : Result → Shared → Prop} (W : WalksS P w A.in1 I fp wr G n Pv St)
    (S : Addr) (hSf : S ∉ fp) (ks : List (Addr × List Int)) (hn : n = ks.length) (hfew : ∀ L : List (Addr × List Int), (L.map (·.2)).Nodup → (∀ p ∈ L, p ∈ ks) → L.length < 127) (hval : ∀ i v, Pv i v → ∃ p, ks[i]? = some p ∧ v = .ref p.1) (h0 : Heap)
    (hk : ∀ p ∈ ks, IsT P w h0 p.2 p.1) (hS0 : h0.get? S = none) (hw0 : ∀ b ∈ wr, h0.get? b = none) (hu : A.in1.units < cLine) : ∀ (k i : Nat) (s : Shared), n - i = k → i ≤ n → St i s → (∀ b o, h0.get? b = some o → s.heap.get? b = some o) →
      (∃ L es ep t, SetD P w s.heap S L es ep t ∧ t.fill ≤ L.length ∧ Got ks i L) → (∀ s' L es ep t, Moved (S :: wr) G s s' → SetD P w s'.heap S L es ep t → Got ks n L → (∀ b o, h0.get? b = some o → s'.heap.get? b = some o) → R (.ok (.ret .none)) s') →
      codeAny (model P w) A (.builtin "set.update.loop" ⟨[.ref S, .ref I], []⟩) R s := by
  have nW : S ∉ wr := fun m => hSf (W.sub _ m)
  have up : ∀ b ∈ wr, b ∈ S :: wr := fun b m => .tail _ m
  have kept : ∀ {s s' : Shared}, Moved wr G s s' → (∀ b o, h0.get? b = some o → s.heap.get? b = some o) → ∀ b o, h0.get? b = some o → s'.heap.get? b = some o := fun m q b o e => m.heap b o (fun z => (by rw [hw0 b z] at e; cases e)) (q b o e)
  intro k
  induction k with
  | zero =>
    rintro i s ek le st q ⟨L, es, ep, t, hS, hF, g⟩ fin
    obtain rfl : i = n := by omega
    refine codeAny_builtin F.entry_set_update_loop ?_
    rw [Around.under_plainId F.plain_set_update_loop _]
    show wpAny _ A.in1 (pyNext (.ref I) >>= _) _ _ s
    refine wpAny_bind (W.done s _ _ st fun s' m => wpAny_pure ?_)
    have q' := kept m q
    exact fin s' L es ep t (m.mono up) (hS.to (fun o e => m.heap S o nW e) fun p hp => isT_keep (hk p (List.mem_of_mem_take (g.sub p hp))) q') g q'
  | succ k ih =>
    rintro i s ek le st q ⟨L, es, ep, t, hS, hF, g⟩ fin
    have lt : i < n := by omega
    refine codeAny_builtin F.entry_set_update_loop ?_
    rw [Around.under_plainId F.plain_set_update_loop _]
    show wpAny _ A.in1 (pyNext (.ref I) >>= _) _ _ s
    refine wpAny_bind (W.item i s _ _ lt st fun v s' pv st' m => ?_)
    obtain ⟨p, hp, rfl⟩ := hval i v pv
    have q' := kept m q
    have sub : ∀ y ∈ L, y ∈ ks := fun y hy => List.mem_of_mem_take (g.sub y hy)
    have hS1 : SetD P w s'.heap S L es ep t := hS.to (fun o e => m.heap S o nW e) fun y hy => isT_keep (hk y (sub y hy)) q'
    have tx : IsT P w s'.heap p.2 p.1 := isT_keep (hk p (List.mem_of_getElem? hp)) q'
    show wpAny _ A.in1 (holding [Value.ref p.1] (setAdd S (.ref p.1)) >>= _) _ _ s'
    refine wpAny_bind (wpAny_holding ?_)
    unfold setAdd
    refine wpAny_holding (wpAny_bind (wpAny_pyHash_tuple hu tx ?_))
    refine add_d2 (s := { s' with toks := s'.toks + (p.2.length + 1) }) hS1 tx hu (by have := hfew L hS.nd sub; omega) fun b h' L' es' ep' t' sb hS2 fl c1 c2 => ?_
    have two : Got ks (i + 1) L' ∧ t'.fill ≤ L'.length := by
      by_cases c : p.2 ∈ L.map (·.2)
      · obtain ⟨e1, e2⟩ := c1 c
        rw [e1, e2]; exact ⟨g.same hp c, hF⟩
      · refine ⟨g.more hp (c2 c), ?_⟩
        rw [(c2 c).length_eq, List.length_cons]; omega
    have q2 : ∀ b o, h0.get? b = some o → h'.get? b = some o := fun b o e => (sb.2 b (fun z => (by rw [z, hS0] at e; cases e))).trans (q' b o e)
    refine wpAny_pure ⟨plainId_quiet F.plain_set_update_loop _, ih (i + 1) _ (by omega) lt (W.frame _ s' _ _ st' (Nat.le_add_right _ _) fun b hb o e => ?_) q2 ⟨L', es', ep', t', hS2, two.2, two.1⟩ fun s2 L2 es2 ep2 t2 m2 hS3 g3 q3 => fin s2 L2 es2 ep2 t2 (Moved.trans W.gtrans ((m.mono up).then_heap (Nat.le_add_right _ _) fun b o nb e => ?_) m2) hS3 g3 q3⟩
    · rw [sb.2 b fun z => hSf (z ▸ hb)]; exact e
    · rw [sb.2 b fun z => nb (z ▸ .head _)]; exact e
theorem call_few {l : Addr} {its : Array Value} (ks : List (Addr × List Int)) {Q : Value → Shared → Prop} (hh : A.handled = none) (hl : s.heap.IsList l its) (hit : its.toList = ks.map fun p => Value.ref p.1)
    (hk : ∀ p ∈ ks, IsT P w s.heap p.2 p.1) (hfew : ∀ L : List (Addr × List Int), (L.map (·.2)).Nodup → (∀ p ∈ L, p ∈ ks) → L.length < 127) (hu : A.units + 3 < cLine)
    (h : ∀ (h' : Heap) (tk : Nat) L es ep t, SetD P w h' s.heap.objs.size L es ep t → Got ks ks.length L → (∀ b o, s.heap.get? b = some o → h'.get? b = some o) → Q (.ref s.heap.objs.size) { s with heap := h', toks := tk }) :
    wpAny (model P w) A (call (.type "set") [.ref l]) Q E s := by
  have hisz : its.size = ks.length := by rw [← Array.length_toList, hit, List.length_map]
  have hsub := F.called_set.sub
  have hmade := F.called_set.made
  obtain ⟨c, tl, hmro⟩ := F.called_set.mro
  refine wpAny_call (codeAny_of_tree ?_)
  show wpAny _ _ (callAny (.type "set") _) _ _ _
  refine wpAny_pure ⟨Code.quiet_builtin _ (by decide +kernel), codeAny_builtin F.entry_type_call ?_⟩
  rw [Around.under_plain (weight_type_call_type "set" [.ref l] []) rfl]
  have h2 := F.called_set.canCreate
  have h1 := F.called_set.notType
  have hct := F.typeCall_set_1 (.ref l)
  repeat (any_goals (first | assumption | wp_step))
  refine codeAny_mono (code_set_led1 (.ref l) (E := E) (Q₁ := fun obj s₁ => obj = .ref s.heap.objs.size ∧ s₁ = { s with heap := s.heap.push (bare w) }) ⟨rfl, rfl⟩) fun r s₁ hr => ?_
  cases r with
  | error e => exact hr
  | ok fl =>
    cases fl with
    | ret obj =>
      obtain ⟨rfl, rfl⟩ := hr
      have hS : (s.heap.push (bare w)).get? s.heap.objs.size = some (bare w) := Heap.get?_push_size _ rfl
      have hT : Shared.TypeIs { s with heap := s.heap.push (bare w) } (.ref s.heap.objs.size) "set" := ⟨_, hS, rfl⟩
      have hbi := F.called_set.init.bind (.ref s.heap.objs.size)
      have hli := F.called_set.init.lookup
      repeat (any_goals (first | assumption | wp_step))
      refine codeAny_mono (codeAny_call_builtin (R := wants (fun r s₂ => r = .none ∧ ∃ h' tk L es ep t, s₂ = { s with heap := h', toks := tk } ∧ SetD P w h' s.heap.objs.size L es ep t ∧ Got ks ks.length L ∧
          (∀ b o, s.heap.get? b = some o → h'.get? b = some o)) E) F.called_set.init.plain F.entry_set_init (check_set_init_1 hT ?_)) fun r₂ s₂ hr₂ => ?_
      · obtain ⟨⟨ocls, odict, odata, oslots⟩, hol, hcl, nl, hdl⟩ := hl
        simp only at hcl hdl
        subst hcl; subst hdl
        have hol' : (s.heap.push (bare w)).get? l = some { cls := .type "list", dict := odict, data := .seq its nl, slots := oslots } := Heap.get?_push_of_some _ hol
        have hslf := F.sub_list_frozenset
        have hsls := F.sub_list_set
        have hne : (Value.type "list" == Value.type "dict") = false := by decide
        have hl1 : (s.heap.push (bare w)).IsList l its := ⟨_, hol', rfl, nl, rfl⟩
        unfold Builtin.«set.__init__» noKeywords Builtin.Frozenset.updateFrom
        generalize hPI : pyIter = PI
        wp_walk
        subst hPI
        refine wpAny_pyIter_list hl1 ?_
        refine wpAny_bind (wpAny_runValue ?_)
        have hlS : l < s.heap.objs.size := Heap.lt_size hol
        have hh3 : A.in1.in1.in1.handled = none := by simp [hh]
        have hz1 : (s.heap.push (bare w)).objs.size = s.heap.objs.size + 1 := Heap.size_push ..
        have hneI : l ≠ (s.heap.push (bare w)).objs.size := by rw [hz1]; exact Nat.ne_of_lt (Nat.lt_succ_of_lt hlS)
        have hSf : s.heap.objs.size ∉ [(s.heap.push (bare w)).objs.size, l] := by
          rw [hz1]
          simp only [List.mem_cons, List.not_mem_nil, or_false, not_or]
          exact ⟨Nat.ne_of_lt (Nat.lt_succ_self _), Nat.ne_of_gt hlS⟩
        have hval : ∀ (i : Nat) (v : Value), its[i]? = some v → ∃ p, ks[i]? = some p ∧ v = .ref p.1 := fun i v hv => by
          rw [← Array.getElem?_toList, hit, List.getElem?_map] at hv
          obtain ⟨p, hp, e⟩ := Option.map_eq_some_iff.mp hv
          exact ⟨p, hp, e.symm⟩
        have none_of : ∀ b, s.heap.objs.size ≤ b → s.heap.get? b = none := fun b hb => by
          cases q : s.heap.get? b with
          | none => rfl
          | some o => exact absurd (Nat.lt_of_lt_of_le (Heap.lt_size q) hb) (Nat.lt_irrefl _)
        refine update_d ((Walks.list hh3 _ l hneI its).toS) s.heap.objs.size
          hSf ks hisz hfew hval s.heap hk (none_of _ (Nat.le_refl _)) (fun b hb => none_of b (by
            rw [List.mem_singleton.mp hb, hz1]
            exact Nat.le_succ _)) hu (its.size - 0) 0 _ (by omega) (Nat.zero_le _)
          ⟨⟨_, Heap.get?_push_size _ rfl, rfl, rfl⟩, (hl1.push _)⟩ (fun b o e => Heap.get?_push_of_some _ (Heap.get?_push_of_some _ e)) ?hS0 ?hR
        case hS0 =>
          exact ⟨[], #[], 0, _, setD_of (setTR_fresh (Heap.get?_push_of_some _ hS)), Nat.le_refl _, Got.zero ks⟩
        case hR =>
          intro s' L es ep t hm hS' g' hkp
          obtain ⟨h', g2, d', tk', os'⟩ := s'
          have eg : g2 = s.gens := hm.gens
          have ed : d' = s.drawn := hm.drawn
          have eo : os' = s.os := hm.os
          subst eg; subst ed; subst eo
          refine wpAny_pure ?_
          rw [hisz] at g'
          exact wpAny_pure ⟨rfl, h', tk', L, es, ep, t, rfl, hS', g', hkp⟩
      · cases r₂ with
        | error e => exact hr₂
        | ok fl₂ =>
          cases fl₂ with
          | ret r =>
            obtain ⟨rfl, h', tk, L, es, ep, t, rfl, hS', g', hk'⟩ := hr₂
            repeat (any_goals (first | assumption | wp_step))
            exact h _ _ _ _ _ _ hS' g' hk'
          | _ => exact hr₂.elim
    | _ => exact hr.elim
theorem sorted_f {Q : Value → Shared → Prop} (R : SetD P w s.heap a L es ep t) (hh : A.handled = none) (h64 : L.length < 1000) (hu : A.units + 10 < cLine)
    (hB : ∀ p ∈ L, p.2 ≠ []) (hR : ∀ q ∈ L, Reads s.heap (.ref q.1) (TN.pyT q.2) [])
    (hQ : ∀ s' p (out : Array Value) (c : Nat) (L' : List (Addr × List Int)), (∀ b o, s.heap.get? b = some o → s'.heap.get? b = some o) → s'.gens = s.gens → s'.os = s.os → s.heap.objs.size ≤ p →
      s'.heap.get? p = some (seqObj "list" out c) → out.toList = L'.map (fun q => Value.ref q.1) → L'.Perm L → L'.Pairwise (fun q r => TN.leL q.2 r.2 = true) → Q (.ref p) s') :
    wpAny (model P w) A (call (.builtin "sorted") [.ref a]) Q E s := by
  obtain ⟨o, ho, hex, hd⟩ := R.ob
  have hsz := rows_size R.rows
  refine Calls.call_function_entry kind_sorted plain_sorted entry_sorted (args_sorted1 _) ?_
  unfold Builtin.«sorted»
  refine wpAny_bind (m := checkCount "sorted" 1 1 _) (wpAny_pure ?_)
  refine wpAny_bind (collect_set (A := A.in1) hh ⟨o, ho, hex.1, hd⟩ R.fits (by unfold scanBound; omega) R.tab.ris R.led fun s1 vs k1 hz g1 o1 pm => ?_)
  have hes : es.toList.map (·.2) = L.map fun q => Value.ref q.1 := by
    rw [R.rows]
    unfold rowsOf
    rw [List.map_map]
    rfl
  rw [hes] at pm
  have vals : ∀ vs : List Value, vs.Perm (L.map fun q => Value.ref q.1) → ∃ L' : List (Addr × List Int), vs = L'.map (fun q => Value.ref q.1) ∧ L'.Perm L := by
    clear hsz hes pm hB hR hQ R h64
    have key : ∀ (L : List (Addr × List Int)) (vs : List Value), vs.Perm (L.map fun q => Value.ref q.1) → ∃ L' : List (Addr × List Int), vs = L'.map (fun q => Value.ref q.1) ∧ L'.Perm L := by
      intro L
      induction L with
      | nil => exact fun vs h => ⟨[], List.Perm.eq_nil h, List.Perm.refl _⟩
      | cons p L ih =>
        intro vs h
        obtain ⟨u, v, e⟩ := List.append_of_mem (h.mem_iff.mpr List.mem_cons_self)
        subst e
        obtain ⟨L', e2, q⟩ := ih (u ++ v) (List.Perm.cons_inv (List.perm_middle.symm.trans h))
        refine ⟨L'.take u.length ++ p :: L'.drop u.length, ?_, (put_perm L' u.length p).trans (q.cons p)⟩
        rw [List.map_append, List.map_cons, List.map_take, List.map_drop, ← e2, List.take_left', List.drop_left'] <;> rfl
    exact key L
  obtain ⟨L0, e0, p0⟩ := vals vs pm
  have hvl : L0.length < 1000 := by rw [p0.length_eq]; exact h64
  have hvs : vs.length < 1000 := by rw [e0, List.length_map]; exact hvl
  refine wpAny_bind (wpAny_newList ?_ (by rw [sizeLine_eq]; omega))
  generalize hh2 : s1.heap.push (seqObj "list" vs.toArray 0) = h2
  have hoL : h2.get? s1.heap.objs.size = some (seqObj "list" vs.toArray 0) := by rw [← hh2]; exact Heap.get?_push_size _ rfl
  have k2 : ∀ b u, s.heap.get? b = some u → h2.get? b = some u := fun b u e => by rw [← hh2]; exact Heap.get?_push_of_some _ (k1 b u e)
  have rd : ∀ q ∈ L0, Reads h2 (.ref q.1) (TN.pyT q.2) [] := fun q hq => PyProof.Rows.Reads.keeps k2 (hR q (p0.mem_iff.mp hq))
  refine wpAny_bind (wpAny_holding (PySem.W.list_sort_data (s := { s1 with heap := h2 }) (β := Addr × List Int) (bs := L0) (R := fun u b => u = .ref b.1) (enc := fun b => TN.pyT b.2) hoL (by rw [e0]; exact each_refs L0) (by rw [e0]; exact each_rd rd) (PySem.W.AllAlike.of fun b b' => TN.alike_pyT _ _) ?_ (by rw [sizeLine_eq]; omega) (fun b _ => by rw [TN.depth_pyT]; simp [Around.in1]; omega) fun out ho' he => ?_))
  · refine .inl fun d hd => ?_
    obtain ⟨b, hb, rfl⟩ := List.mem_map.mp hd
    have hb2 := hB b (p0.mem_iff.mp hb)
    cases e : b.2 with
    | nil => exact absurd e hb2
    | cons y ys => exact ⟨.int y, ys.map .int, by unfold TN.pyT; simp⟩
  · have le_eq : PySem.W.dataLe false (fun b : Addr × List Int => TN.pyT b.2) = leP := by
      rw [PySem.W.dataLe_eq]
      funext p q
      simp only [cond]
      rw [TN.dataLt_pyT]
      rfl
    rw [le_eq] at he
    have hperm := List.mergeSort_perm L0 leP
    have hsort := List.pairwise_mergeSort (le := leP) (fun a b c => TN.leL_trans) (fun a b => by
      rcases TN.leL_total a.2 b.2 with w | w <;> simp [leP, w]) L0
    obtain ⟨c, hc⟩ := sortedHeap_at (vs := vs) (out := out.toArray) hoL
    refine wpAny_pure ⟨_, rfl, hQ _ s1.heap.objs.size out.toArray c (L0.mergeSort leP) (fun b u e => ?_) g1 o1 hz hc (by simpa using of_each_refs he) (hperm.trans p0) hsort⟩
    have lt1 := Heap.lt_size (k1 b u e)
    show (sortedHeap h2 s1.heap.objs.size vs out.toArray).get? b = some u
    rw [sortedHeap_old (Nat.ne_of_lt lt1) (by rw [← hh2, size_push']; exact Nat.lt_succ_of_lt lt1)]
    exact k2 b u e
end
end TD
namespace TN
open PySem PySem.Spec PyProof.Rows L2
theorem short_sub : ∀ (xs ys : List (List Int)), xs.Nodup → (∀ x ∈ xs, x ∈ ys) → xs.length ≤ ys.length
  | [], _, _, _ => Nat.zero_le _
  | x :: xs, ys, nd, h => by
    have hx : x ∈ ys := h x List.mem_cons_self
    have := short_sub xs (ys.erase x) (List.nodup_cons.mp nd).2 fun y hy => (List.mem_erase_of_ne (fun e => (List.nodup_cons.mp nd).1 (by rw [← e]; exact hy))).mpr (h y (List.mem_cons_of_mem _ hy))
    rw [List.length_erase_of_mem hx] at this
    have h1 : 0 < ys.length := List.length_pos_of_mem hx
    rw [List.length_cons]
    omega
def lstOf : D → Option (List (List Int))
  | .lst ds => toTups ds
  | _ => none
theorem lstOf_at {K : PySem.W.Frag} {cl : Cl} {G H : Hp} {v : V} {d : D} {ks : List (List Int)} (e : Ex G H) (i : IsT K cl G H v d) (h : lstOf d = some ks) : ∃ (l : Addr) (kk : List (Addr × List Int)), v = .ref l ∧ SqL K H l (kk.map fun p => V.ref p.1) ∧ kk.map (·.2) = ks ∧ ∀ p ∈ kk, TupX K G p.1 (p.2.map V.int) := by
  unfold lstOf at h
  split at h
  · rename_i ds
    rw [toTups_eq h] at i
    obtain ⟨a, vs, rfl, hs, ia⟩ := isLst e i
    obtain ⟨kk, q1, q2, q3⟩ := tups_isA ia
    subst q1
    exact ⟨a, kk, rfl, SqL.of hs, q2, q3⟩
  · cases h
def fewB (ks : List (List Int)) : Bool := Nat.blt (onceT ks).length 127
def fSrtMany (f : F) : F := fun env => (f env).bind fun p => (ofO (p.1.opd.der p.2)).bind fun d => (ofO (lstOf d)).bind fun ks => if (ks.length < 1000 ∧ fewB ks = true) ∧ ks.all (fun k => !k.isEmpty) = true then .ok (.new ((srtT ks).map tD), p.2) else .no
section
variable {X : Cx} {z : Z} {E : XK} {k : Nat} {e : Expr} {f : F} {σ : L2.St} {H : Hp} {Q : VK} {p p2 p3 pos : Pos}
def rSetF (X : Cx) : List V → Hp → VK → Prop := fun xs H Q => ∃ (l : Addr) (ks : List (Addr × List Int)), xs = [V.ref l] ∧ SqL X.K H l (ks.map fun p => V.ref p.1) ∧ (∀ p ∈ ks, SqT X.K H p.1 (p.2.map V.int)) ∧ (∀ L : List (Addr × List Int), (L.map (·.2)).Nodup → (∀ p ∈ L, p ∈ ks) → L.length < 127) ∧
  ∀ a L, H a = none → (∀ p ∈ L, p ∈ ks) → (∀ p ∈ ks, p.2 ∈ L.map (·.2)) → L.length ≤ ks.length → Q (.ref a) (upd H a (TD.SetEO X.prog X.w a L))
theorem cr_setF (hc : X.calm = true) (hu : X.A.units + 64 < cLine) : CallR X (.type "set") (rSetF X) := by
  intro pins s σ H xs us Q I r h
  obtain ⟨l, ks, rfl, hl, hk, hf, q⟩ := h
  rw [Vals.ref1 r]
  have hn : H s.heap.objs.size = none := I.hok.fresh (Nat.le_refl _)
  obtain ⟨its, rv, pl, hz⟩ := I.list hl
  exact TD.call_few (P := X.prog) (w := X.w) ks (I.ok.hd hc) pl.isList (by simpa using refs_of_vals rv) (fun p hp => I.isT (hk p hp)) hf (by omega) fun h' tk L es ep t R g k =>
    ⟨.ref s.heap.objs.size, upd H s.heap.objs.size (TD.SetEO X.prog X.w s.heap.objs.size L), I.laid (t' := tk) k (Nat.le_refl _) (TD.setEO_new R.e), rfl, q _ L hn (fun p hp => List.mem_of_mem_take (g.sub p hp)) (fun p hp => g.all p (by rw [List.take_length]; exact hp)) g.len⟩
def rSortF (X : Cx) : List V → Hp → VK → Prop := fun vs H Q => ∃ (a : Addr) (L : List (Addr × List Int)), vs = [V.ref a] ∧ H a = some (TD.SetEO X.prog X.w a L) ∧ (∀ p ∈ L, SqT X.K H p.1 (p.2.map V.int)) ∧ L.length < 1000 ∧ (∀ p ∈ L, p.2 ≠ []) ∧
  ∀ (L' : List (Addr × List Int)) (p : Addr), L'.Perm L → (L'.map (·.2)).Nodup → L'.Pairwise (fun q r => leL q.2 r.2 = true) → H p = none → Q (.ref p) (upd H p (.lst (L'.map fun q => V.ref q.1)))
theorem cr_sortF (hc : X.calm = true) (hr : Room k X.A) : CallR X (.builtin "sorted") (rSortF X) := by
  intro pins s σ H vs us Q I r h
  obtain ⟨a, L, rfl, ha, hk, h64, hB, q⟩ := h
  have R0 : TD.SetE X.prog X.w s.heap a L := (I.hok a _ ha).1
  obtain ⟨es, ep, t, R⟩ := R0.full fun p hp => I.isT (hk p hp)
  rw [Vals.ref1 r]
  have hu := hr.units
  have hR : ∀ q ∈ L, Reads s.heap (.ref q.1) (pyT q.2) [] := fun q hq => by
    obtain ⟨as, rd⟩ := Dp.reads I (pyT q.2) (.ref q.1) (.ref q.1) (.tup (hk q hq) (dp_ints q.2)) rfl
    rw [reads_pyT rd] at rd
    exact rd
  refine TD.sorted_f R (I.ok.hd hc) h64 (by omega) hB hR fun s' p out c L' k g o hp hg hout pm pw => ?_
  have hlen : (L'.map fun q => V.ref q.1).length ≤ sizeLine := by rw [List.length_map, sizeLine_eq, pm.length_eq]; omega
  have hn : H p = none := I.hok.fresh hp
  have hv : Vals (L'.map fun q => V.ref q.1) out.toList := by rw [hout]; exact vals_of_refs L'
  have J : Inv X pins σ (upd H p (.lst (L'.map fun q => V.ref q.1))) { s with heap := s'.heap, gens := s'.gens, drawn := s'.drawn, toks := s'.toks } :=
    I.call (ch := []) (Un.laid k hp hn) (I.hok.laid k hp ⟨hlen, out.toList, c, hv, hg⟩) (by rw [g]; exact I.bare) (fun _ z => nomatch z)
  have e : s' = { s with heap := s'.heap, gens := s'.gens, drawn := s'.drawn, toks := s'.toks } := by
    cases s'
    cases s
    cases o
    rfl
  rw [e]
  exact ⟨.ref p, _, J, rfl, q L' p pm ((pm.map (·.2)).nodup_iff.mpr R.nd) pw hn⟩
theorem te_srtMany (hK : X.K = z.K) (h : tE z E (fSrtMany f) σ H Q) : tCB (rSortF X) (tCons (tCB (rSetF X) (tCons (tE z E f) tNil)) tNil) σ H Q := by
  obtain ⟨T, G, env, r, h⟩ := h
  refine ⟨T, G, env, r, (Pg.bind h).imp fun p hp v H1 G1 r1 e1 w1 => ?_⟩
  obtain ⟨G2, r2, x2, w2⟩ := w1.opd r1
  obtain ⟨d, ed, hp⟩ := (Pg.bind hp).ofO
  have it := w2.der r2 ed
  obtain ⟨ks, ek, hp⟩ := (Pg.bind hp).ofO
  split at hp
  · rename_i hl
    obtain ⟨⟨hl, hfw⟩, hne⟩ := hl
    obtain ⟨l, kk, rfl, hs, e2, tx⟩ := lstOf_at r2.f.exG it ek
    subst e2
    rw [List.length_map] at hl
    have few : (onceT (kk.map (·.2))).length < 127 := Nat.le_of_ble_eq_true hfw
    · refine ⟨l, kk, rfl, by rw [hK]; exact hs, fun q hq => by rw [hK]; exact ex_t r2.f.exG (tx q hq).sq, fun L nd sub => ?_, fun q L hq sub all len => ?_⟩
      · have := short_sub (L.map (·.2)) (onceT (kk.map (·.2))) nd fun x hx => by
          obtain ⟨y, hy, rfl⟩ := List.mem_map.mp hx
          exact onceT_mem.mpr (List.mem_map.mpr ⟨y, sub y hy, rfl⟩)
        rw [List.length_map] at this
        omega
      · have r3 := r2.alloc (o := TD.SetEO X.prog X.w q L) hq
        refine ⟨q, L, rfl, upd_same, fun y hy => by rw [hK]; exact ex_t r3.f.exG (tx y (sub y hy)).sq, by omega, fun y hy w => ?_, fun L' p4 pm nd pw hp4 => ?_⟩
        · have := List.all_eq_true.mp hne y.2 (List.mem_map.mpr ⟨y, sub y hy, rfl⟩)
          rw [w] at this
          cases this
        · have ek2 : L'.map (·.2) = srtT (kk.map (·.2)) := by
            refine sortedL_unique ?_ (by rw [List.pairwise_map]; exact pw) (sortL_sorted _)
            refine List.Perm.trans ((List.perm_ext_iff_of_nodup nd (onceT_nodup (kk.map (·.2)))).mpr fun x => ?_) (sortL_perm _).symm
            rw [onceT_mem, (pm.map (·.2)).mem_iff]
            constructor
            · intro m
              obtain ⟨y, hy, rfl⟩ := List.mem_map.mp m
              exact List.mem_map.mpr ⟨y, sub y hy, rfl⟩
            · intro m
              obtain ⟨y, hy, rfl⟩ := List.mem_map.mp m
              exact all y hy
          have r4 := r3.alloc (o := .lst (L'.map fun q => V.ref q.1)) hp4
          obtain ⟨n1, n2, n3, n4, n5⟩ := r3.nn hp4
          refine hp (.ref p4) _ G2 r4 (e1.trans x2) ⟨p4, L'.map (fun q => V.ref q.1), rfl, upd_same, ?_, n1, n2, n3, n4, n5⟩
          rw [← ek2]
          exact isA_tups fun y hy => tx y (sub y (pm.mem_iff.mp hy))
  · exact hp.elim
theorem we_srtMany (o : OkX X z E k) (hu : X.A.units + 64 < cLine) (he : PE X e (tE z E f)) (hm : X.mg "sorted" = none) (hm2 : X.mg "set" = none) (hg : Gl X "sorted" := by rfl) (hg2 : Gl X "set" := by rfl)
    (hs : starEach [e] X.env = (false, eval e X.env) :: starEach [] X.env := by rfl) (hs2 : starEach [.Call (.Name "set" p2) [e] [] p3] X.env = (false, eval (.Call (.Name "set" p2) [e] [] p3) X.env) :: starEach [] X.env := by rfl) :
    PE X (.Call (.Name "sorted" p) [.Call (.Name "set" p2) [e] [] p3] [] pos) (tE z E (fSrtMany f)) :=
  pe_mono (pe_callB (cr_sortF o.calm o.room) hg hm (by first | exact PySem.boot_sorted | decide +kernel) (pa_cons (pe_callTy (cr_setF o.calm hu) hg2 hm2 (by first | exact PySem.boot_set | decide +kernel) (pa_cons he pa_nil hs) (by decide) (by decide) hs rfl) pa_nil hs2) (by decide) (by decide) hs2 rfl) fun _ _ _ h => te_srtMany o.K h
end
end TN
namespace TK
open PySem PySem.Spec PyProof.Rows L2 TN
def hk (k : List Int) : Int := reduceHash (Builtin.Tuple.tupleHashOf (k.map hashInt))
abbrev tk (P : Program) (w : World) : HeapKind P w (List Int) := tupleKind (intKind P w)
def One (h : Heap) (d b : Addr) (k : List Int) (v : V) : Prop := (d == sysModules) = false ∧ ∃ (o : Obj) (es : Array DictEntry) (ep : Nat) (u : Value), h.get? d = some o ∧ o.ExactDict ∧ o.data = .dict es ep ∧ es.toList = [⟨hk k, .ref b, u⟩] ∧ RelV v u
def OneO (d b : Addr) (k : List Int) (v : V) : HO := .ext fun h => One h d b k v
theorem one_new {P : Program} {w : World} {H : Hp} {h : Heap} {d b : Addr} {k : List Int} {v : V} (one : One h d b k v) : ObjOk P w H h d (OneO d b k v) := by
  have R0 : One h d b k v := one
  obtain ⟨_, o, _, _, _, ho, _⟩ := R0
  exact ⟨one, ⟨o, ho⟩, fun h1 h2 p q => by
    obtain ⟨a, o', es, ep, u, e1, e2, e3, e4, e5⟩ := p
    exact ⟨a, o', es, ep, u, q o' e1, e2, e3, e4, e5⟩⟩
theorem One.full {P : Program} {w : World} {h : Heap} {d b : Addr} {k : List Int} {v : V} (R : One h d b k v) (ht : IsT P w h k b) : ∃ u, RelV v u ∧ h.DictOfH (tk P w) d [(k, b, u)] := by
  obtain ⟨_, o, es, ep, u, h1, h2, h3, h4, h5⟩ := R
  refine ⟨u, h5, o, es, ep, h1, h2, h3, h4, fun x hx => ?_, by simp⟩
  rw [List.mem_singleton.mp hx]
  exact ht
section
variable {X : Cx} {pos : Pos} {ke ve oe ie : Expr} {ta tv to ti : TE}
def tD1 (K : PySem.W.Frag) (ta tv : TE) : TE := fun σ H Q => ∀ d, H d = none → ta σ (upd H d (.dK [])) fun x H1 => tv σ H1 fun y H2 => H2 d = some (.dK []) ∧ ∃ b k, x = .ref b ∧ SqT K H2 b (k.map V.int) ∧ Q (.ref d) (upd H2 d (OneO d b k y))
theorem pe_d1 (hu : X.A.units < cLine) (hk' : PE X ke ta) (hv : PE X ve tv) : PE X (.Dict [some ke] [ve] pos) (tD1 X.K ta tv) := by
  refine ⟨fun pins s σ H Q I q => ?_⟩
  have hn := I.hok.fresh (Nat.le_refl s.heap.objs.size)
  have I1 := I.laid (a := s.heap.objs.size) (o := .dK []) (h' := s.heap.push { cls := .type "dict", data := .dict #[] }) (t' := s.toks) (fun _ _ q => Heap.get?_push_of_some _ q) (Nat.le_refl _) (dk_empty s.heap I.big)
  have hp0 : pairTrees [some ke] [ve] X.env pos ≠ [] := fun e => by
    have := pairTrees_length [some ke] [ve] X.env pos rfl rfl
    rw [e] at this; cases this
  rw [arm_eval_Dict, zip_pairTrees [some ke] [ve] X.env pos rfl rfl, dictDisplay_pairs _ hp0 (by rw [pairTrees_length _ _ _ _ rfl rfl]; simp)]
  refine wpAny_bind (wpAny_standAt (wpAny_bind (wpAny_subDictH (knd := tk X.prog X.w) (Q := fun d s' => wpAny (model X.prog X.w) X.A (pure (Value.ref d)) (EP X pins σ Q) X.xe s') hu (by rw [pairTrees_length _ _ _ _ rfl rfl]; simp) ?_)))
  refine pairTrees_cons_walk (thn (hk'.run pins _ σ _ _ I1 (q _ hn)) fun u s1 ⟨x, H1, I2, rx, q1⟩ => thn (hv.run pins s1 σ H1 _ I2 q1) fun w2 s2 ⟨y, H2, I3, ry, e, b, k, ex, hs, q2⟩ => pairTrees_nil_walk ?_)
  subst ex
  obtain rfl : u = Value.ref b := rx
  obtain ⟨z, hd, vs0, r0, dd⟩ := dk_of I3.hok e
  cases r0
  obtain ⟨o, es, ep, ho, hx, hdd, hks, hps, _⟩ := dd
  have es0 : es.toList = [] := by
    generalize es.toList = l at hps
    cases hps; rfl
  refine ⟨[(k, b, w2)], ⟨rfl, rfl, I3.isT hs, trivial⟩, ⟨o, es, ep, ho, hx, hdd, by rw [es0]; rfl, fun x hx => (by cases hx), List.nodup_nil⟩, fun h' tk' dk' sb => wpAny_pure ?_⟩
  obtain ⟨o2, es2, ep2, ho2, hx2, hd2, he2, hi2, hn2⟩ := dk'
  have one : One h' s.heap.objs.size b k y := ⟨hd, o2, es2, ep2, w2, ho2, hx2, hd2, by rw [he2]; rfl, ry⟩
  exact ⟨.ref s.heap.objs.size, _, d_write I3 (by rw [e]; exact True.intro) sb ⟨o2, ho2⟩ (one_new one), rfl, q2⟩
def tNin1 (K : PySem.W.Frag) (ti to : TE) : TE := fun σ H Q => ti σ H fun y H1 => to σ H1 fun x H2 => ∃ d b k v b2 k2, x = .ref d ∧ H2 d = some (OneO d b k v) ∧ SqT K H2 b (k.map V.int) ∧ y = .ref b2 ∧ SqT K H2 b2 (k2.map V.int) ∧ Q (.bl (!decide (k = k2))) H2
theorem pc_nin1 (hu : X.A.units + 1 < cLine) (hi : PE X ie ti) (ho : PE X oe to) : PC X .NotIn ie oe (tNin1 X.K ti to) := by
  refine ⟨fun pins s σ H Q I h => ?_⟩
  refine thn (hi.run pins s σ H _ I h) fun iv s1 ⟨y, H1, I1, ry, q1⟩ => thn (ho.run pins s1 σ H1 _ I1 q1) fun u s2 ⟨x, H2, I2, rx, d, b, k, v, b2, k2, ex, hd, hs, ey, hs2, q2⟩ => ?_
  subst ex ey
  obtain rfl : u = Value.ref d := rx
  obtain rfl : iv = Value.ref b2 := ry
  have R0 : One s2.heap d b k v := (I2.hok d _ hd).1
  obtain ⟨w2, rw2, full⟩ := R0.full (P := X.prog) (w := X.w) (I2.isT hs)
  refine notIn_keyed (knd := tk X.prog X.w) hu (I2.isT hs2) R0.1 ⟨_, full, rfl⟩ ?_
  refine ⟨.bl (!decide (k = k2)), H2, I2.tok _, ?_, q2⟩
  by_cases c : k = k2
  · subst c
    show Value.bool _ = Value.bool _
    simp [pairsH, valueAt]
  · show Value.bool _ = Value.bool _
    simp [pairsH, valueAt, c]
def tGet1 (K : PySem.W.Frag) (to ti : TE) : TE := fun σ H Q => to σ H fun x H1 => ti σ H1 fun y H2 => ∃ d b k v b2, x = .ref d ∧ H2 d = some (OneO d b k v) ∧ SqT K H2 b (k.map V.int) ∧ y = .ref b2 ∧ SqT K H2 b2 (k.map V.int) ∧ Q v H2
theorem pe_get1 (hu : X.A.units + 1 < cLine) (ho : PE X oe to) (hi : PE X ie ti) (hs : NoSl ie) : PE X (.Subscript oe ie pos) (tGet1 X.K to ti) := by
  refine ⟨fun pins s σ H Q I h => ?_⟩
  refine subD_of PySem.F.slot_dict_getitem.lookup hs (thn (ho.run pins s σ H _ I h) fun u s1 ⟨x, H1, I1, rx, q1⟩ => thn (hi.run pins s1 σ H1 _ I1 q1) fun iv s2 ⟨y, H2, I2, ry, d, b, k, v, b2, ex, hd, hs, ey, hs2, q2⟩ => ?_)
  subst ex ey
  obtain rfl : u = Value.ref d := rx
  obtain rfl : iv = Value.ref b2 := ry
  have R0 : One s2.heap d b k v := (I2.hok d _ hd).1
  obtain ⟨w2, rw2, full⟩ := R0.full (P := X.prog) (w := X.w) (I2.isT hs)
  refine ⟨full.typeIs, getItem_keyed (knd := tk X.prog X.w) (v := w2) hu (I2.isT hs2) ⟨_, full, rfl⟩ (by simp [pairsH, valueAt]) ?_⟩
  exact ⟨v, H2, I2.tok _, rw2, q2⟩
end
end TK
namespace TN
open PySem PySem.Spec PyProof.Rows L2 LamX NdefX TK
def keyOf : D → Option (List Int)
  | .tup xs => toInts xs
  | _ => none
theorem key_at {K : PySem.W.Frag} {cl : Cl} {G : Hp} {v : V} {d : D} {k : List Int} (w : Is K cl G v d) (h : keyOf d = some k) : ∃ b, v = .ref b ∧ TupX K G b (k.map V.int) := by
  unfold keyOf at h
  split at h
  · rename_i xs
    have e := toInts_eq h
    subst e
    cases w with
    | tup hx ha =>
      rw [IsA.ints ha] at hx
      exact ⟨_, rfl, hx⟩
  · cases h
def kBody (i j g : Nat) (fk fv fb : F) : S := fun env => (fk env).bind fun p => (ofO (p.1.opd.fix p.2)).bind fun y => (ofO (keyOf y.1)).bind fun k => (fv y.2).bind fun q => (ofO (q.1.opd.fix q.2)).bind fun y2 => (fb y2.2).bind fun s => match s.2[g]? with
  | some (.val d) => (ofO (keyOf d)).bind fun k2 => if (k = k2 ∧ g ≠ i ∧ g ≠ j ∧ i ≠ j) ∧ i < s.2.length ∧ j < s.2.length then .ok (.ret (.d y2.1), (s.2.set i .no).set j .no) else .no
  | _ => .no
theorem wk_body {X : Cx} {z : Z} {E : XK} {kk : Nat} {asg : Stmt} {body : List Stmt} {rows goal : Str} {i j g : Nat} {fk fv fb : F} {p1 p2 p3 p4 p5 p6 p7 p8 : Pos} (o : OkX X z E kk) (hu : X.A.units + 1 < cLine)
    (h1 : PS X asg (L2.tPar i j (tCons (tD1 X.K (tE z E fk) (tE z E fv)) (tCons (tE z E fb) tNil)))) (hg : PE X (.Name goal p1) (tVar g)) (hr : PE X (.Name rows p2) (tVar i)) (hg2 : PE X (.Name goal p3) (tVar g)) (hr2 : PE X (.Name rows p4) (tVar i)) (hs : NoSl (.Name goal p3) := by exact noSl_name) :
    PSs X [asg, .While (.Compare (.Name goal p1) [.NotIn] [.Name rows p2] p5) body [] p6, .Return (some (.Subscript (.Name rows p4) (.Name goal p3) p7)) p8] (tS0 z E (kBody i j g fk fv fb)) := by
  have hF : PSs X body (fun _ _ _ => False) := ⟨fun _ _ _ _ _ _ h => h.elim⟩
  refine pss_mono (pss_cons h1 (pss_cons (ps_while o.po (pt_cmp (pc_nin1 hu hg hr)) hF) (pss_one (ps_ret (pe_get1 hu hr2 hg2 hs))))) fun D σ H ⟨G, env, r, h⟩ => ?_
  intro d hd
  obtain ⟨n1, n2, n3, n4, n5⟩ := r.nn hd
  have r1 : Rep z (upd T0 d (.dK [])) G (upd H d (.dK [])) env σ := by
    refine r.temp (Da := d) (tabs_N r.f.tb hd) (fun a ha => upd_ne ha) n1 n3 n5 (fun a u ha => ?_) fun a ha => ?_
    · by_cases q : a = d
      · subst q; rw [upd_same] at ha ⊢; exact ha
      · rw [upd_ne q] at ha; cases ha
    · by_cases q : a = d
      · exact .inl q
      · rw [upd_ne q] at ha; exact absurd rfl ha
  refine te_imp (fun x H1 w => ?_) (te_fix (C := fun G b => CS z T0 G D b) r1 (fun _ _ _ e h => CS.mono h e) h)
  obtain ⟨y, G1, r2, x1, w1, h⟩ := w
  obtain ⟨k, ek, h⟩ := (Pg.bind h).ofO
  refine te_imp (fun v H2 w => ?_) (te_fix (C := fun G b => CS z T0 G D b) r2 (fun _ _ _ e h => CS.mono h e) h)
  obtain ⟨y2, G2, r3, x2, w2, h⟩ := w
  obtain ⟨b, rfl, tx⟩ := key_at w1 ek
  have H2d : H2 d = some (.dK []) := r3.exT d _ upd_same
  have tn : (upd T0 d (.dK [])) d ≠ none := by rw [upd_same]; intro w; cases w
  refine ⟨H2d, b, k, rfl, by rw [o.K]; exact (ex_x (x2.trans r3.f.exG) tx).sq, ?_⟩
  have r4 : Rep z (upd T0 d (OneO d b k v)) G2 (upd H2 d (OneO d b k v)) y2.2 σ := by
    refine r3.temp (Da := d) (tabs_K r3.f.tb H2d) (fun a ha => upd_ne ha) (r3.gt d tn) n3 (r3.noOw tn) (fun a u ha => ?_) fun a ha => ?_
    · by_cases q : a = d
      · subst q; rw [upd_same] at ha ⊢; exact ha
      · rw [upd_ne q] at ha; cases ha
    · by_cases q : a = d
      · exact .inl q
      · rw [upd_ne q] at ha; exact absurd rfl ha
  refine ⟨_, G2, y2.2, r4, (Pg.bind h).imp fun s hp u H4 G4 r5 x4 w4 => ?_⟩
  obtain ⟨s1, e4⟩ := s
  dsimp only at hp
  split at hp
  · rename_i dg hg4
    obtain ⟨k2, ek2, hp⟩ := (Pg.bind hp).ofO
    split at hp
    · rename_i hc
      obtain ⟨⟨rfl, gi, gj, ij⟩, li, lj⟩ := hc
      refine ⟨.ref d, u, rfl, ?_⟩
      have li' : i < σ.length := by rw [← r5.len]; exact li
      have r6 := (r5.forget (i := i) (some (.ref d))).forget (i := j) (some u)
      have tn4 : (upd T0 d (OneO d b k v)) d ≠ none := by rw [upd_same]; intro w; cases w
      have H4d : H4 d = some (OneO d b k v) := r5.exT d _ upd_same
      have σi : ((σ.set i (some (.ref d))).set j (some u))[i]? = some (some (.ref d)) := by
        rw [List.getElem?_set_ne (Ne.symm ij), List.getElem?_set_self li']
      obtain ⟨vg, evg, wg⟩ := r5.sl g _ hg4
      have σg : ((σ.set i (some (.ref d))).set j (some u))[g]? = some (some vg) := by
        rw [List.getElem?_set_ne (Ne.symm gj), List.getElem?_set_ne (Ne.symm gi)]
        cases q : σ[g]? with
        | none => rw [q] at evg; cases evg
        | some o => rw [q] at evg; exact congrArg some evg
      obtain ⟨b2, rfl, tx2⟩ := key_at wg ek2
      have sq1 : SqT X.K H4 b (k.map V.int) := by rw [o.K]; exact (ex_x ((x2.trans x4).trans r5.f.exG) tx).sq
      have sq2 : SqT X.K H4 b2 (k.map V.int) := by rw [o.K]; exact (ex_x r5.f.exG tx2).sq
      have r7 : Rep z T0 G4 H4 ((e4.set i .no).set j .no) ((σ.set i (some (.ref d))).set j (some u)) := by
        refine r6.temp (Da := d) r6.f.tb (fun a ha => rfl) (r6.gt d tn4) n3 (r6.noOw tn4) (fun a u ha => (by cases ha)) fun a ha => absurd rfl ha
      have fin : D.rt v H4 := hp v _ H4 G4 r7 x4 (Is.mono x4 w2)
      refine ⟨fun _ σ1 H1 => σ1 = (σ.set i (some (.ref d))).set j (some u) ∧ H1 = H4, ⟨0, rfl, rfl⟩, fun m σ1 H1 hw => ?_⟩
      obtain ⟨rfl, rfl⟩ := hw
      refine ⟨.ref b2, σg, .ref d, σi, d, b, k, v, b2, k, rfl, H4d, sq1, rfl, sq2, false, by simp, ?_⟩
      show tRet (tGet1 X.K (tVar i) (tVar g)) D _ H1
      exact ⟨.ref d, σi, .ref b2, σg, d, b, k, v, b2, rfl, H4d, sq1, rfl, sq2, fin⟩
    · exact hp.elim
  · exact hp.elim
def gMulW : Int → Int → Option D := fun i j => if i.natAbs < 2 ^ 1000 ∧ j.natAbs < 2 ^ 1000 then some (.int (i * j)) else none
theorem od_mulW {X : Cx} {z : Z} : OpD X z (binaryOp .Mult) (oI gMulW) := opD_I op_mulW fun i j d e => by
  unfold gMulW at e
  split at e
  · rename_i q; cases e; exact ⟨wide_mul q.1 q.2 (by decide) (by decide) (by decide), fun _ _ _ => .int _⟩
  · cases e
section
variable {P : Program} {w : World} {K : PySem.W.Frag} {mg : Str → Option Value} {base : Heap}
theorem fn_okT {x qual : Str} {st : Stmt} {f : Addr} {fd : FuncData} {N ps : List Str} {k : Nat} {z : Z} {m : Bool} {body : S} (Fn' : Fun K x qual st f fd) (Sc : FnScope N ps (defScope st)) (hK : K = z.K)
    (hb : ∀ (cdv : Value) (A : Around) (outer : List Env) (s : Shared) (H : Hp) (E : XK) (G H' : Hp) (M : Option Addr), OkX (cxOf (L2.CX P w) P w K mg base N qual (defScope st) f cdv A outer s H E) (z.at_ G H' M) E k →
      PSs (cxOf (L2.CX P w) P w K mg base N qual (defScope st) f cdv A outer s H E) (defBody st) (tS0 (z.at_ G H' M) E body)) :
    FnOk P w K mg base (L2.CX P w) (k + 1) f fd ps (spF z m ps.length (fnOf m N.length body)) := by
  refine Fn'.okX Sc (fun vs H Q E h => ?_) fun cdv A outer s H vs Q E hr h => ?_
  · obtain ⟨G, ds, M, _, _, hl, _⟩ := h
    exact hl
  · obtain ⟨G, M, ht⟩ := sp_reads0 Sc h
    exact ⟨_, hb cdv A outer s H E G H M ⟨hK, takes_of rfl rfl rfl rfl, rfl, Sc.nd, hr, passes_of rfl⟩, ht⟩
end
end TN
namespace PL
open PySem PySem.Spec PyProof.Rows L2 TN
def b_is_whole : S := sRet (fAndV (fBi bIsi (aCons (fVar 0) (aCons (fC (.ty "int")) (aNil)))) (fNotV (fBi bIsi (aCons (fVar 0) (aCons (fC (.ty "bool")) (aNil))))))
def m_is_whole : Fn := fnOf false 1 b_is_whole
def b_is_below : S := sRet (fAndV (fCall false m_is_whole (aCons (fVar 0) (aNil))) (fChain (oI gLe) (oI gLt) (fC (.int 0)) (fVar 0) (fVar 1)))
def m_is_below : Fn := fnOf false 2 b_is_below
def b_are_below : S := sRet (fAndV (fBi bIsi (aCons (fVar 0) (aCons (fC (.ty "tuple")) (aNil)))) (fBi bAll (aCons (fLc (fSeq (fVar 0)) (gN 2) (bYes) (fCall false m_is_below (aCons (fVar 2) (aCons (fVar 1) (aNil)))) [2]) (aNil))))
def m_are_below : Fn := fnOf false 3 b_are_below
def b_is_ascending : S := sCons (sIf (fNotB (fTru (fCall false m_are_below (aCons (fVar 0) (aCons (fVar 1) (aNil)))))) (sRet (fC (.bl false))) (sNil)) (sRet (fBi bAll (aCons (fLc (fZip (aCons (fVar 0) (aCons (fSl dSl (fVar 0) (oSome (fC (.int 1))) (oNone)) (aNil)))) (gT [2, 3]) (bYes) (fBin dLt (fVar 2) (fVar 3)) [2, 3]) (aNil))))
def m_is_ascending : Fn := fnOf false 4 b_is_ascending
def b_are_pairs : S := sCons (sIf (fNotB (fTru (fBi bIsi (aCons (fVar 0) (aCons (fC (.ty "tuple")) (aNil)))))) (sRet (fC (.bl false))) (sNil)) (sCons (sIf (fNotB (fTru (fBi bAll (aCons (fLc (fSeq (fVar 0)) (gN 4) (bYes) (fAndV (fCall false m_is_ascending (aCons (fVar 4) (aCons (fVar 1) (aNil)))) (fBin (dEq false) (fBi bLen (aCons (fVar 4) (aNil))) (fC (.int 2)))) [4]) (aNil))))) (sRet (fC (.bl false))) (sNil)) (sRet (fBi bAll (aCons (fLc (fZip (aCons (fVar 0) (aCons (fSl dSl (fVar 0) (oSome (fC (.int 1))) (oNone)) (aNil)))) (gT [2, 3]) (bYes) (fBin dLt (fVar 2) (fVar 3)) [2, 3]) (aNil)))))
def m_are_pairs : Fn := fnOf false 5 b_are_pairs
def b_is_ring : S := sCons (sIf (fOrB (fNotB (fTru (fBi bIsi (aCons (fVar 0) (aCons (fC (.ty "tuple")) (aNil)))))) (fNotB (fTru (fBi bAll (aCons (fLc (fSeq (fVar 0)) (gN 2) (bYes) (fCall false m_is_whole (aCons (fVar 2) (aNil))) [2]) (aNil)))))) (sRet (fC (.bl false))) (sNil)) (sCons (sSet 1 (fBin (oI gDiv) (fBi bLen (aCons (fVar 0) (aNil))) (fC (.int 2)))) (sRet (fAndV (fChain (oI gLe) (oI gLe) (fC (.int 1)) (fVar 1) (fC (.int 10))) (fBin (dEq false) (fBi bSortedX (aCons (fVar 0) (aNil))) (fBi bSortedX (aCons (fBin dMul (fLRg1 (fVar 1)) (fC (.int 2))) (aNil)))))))
def m_is_ring : Fn := fnOf false 3 b_is_ring
def b__ends : S := sCons (sSet 2 (fMtT mIdx (fVar 0) (aCons (fVar 1) (aNil)))) (sRet (fTup (aCons (fVar 2) (aCons (fMtT mIdx (fVar 0) (aCons (fVar 1) (aCons (fBin dAdd (fVar 2) (fC (.int 1))) (aNil)))) (aNil)))))
def m__ends : Fn := fnOf false 3 b__ends
end PL
namespace PL
open PySem PySem.Spec PyProof.Rows L2 TN
end PL
namespace PL
open PySem PySem.Spec PyProof.Rows L2 TN
end PL
namespace PL
open PySem PySem.Spec PyProof.Rows L2 TN
def b_masks_of : S := sCons (sSet 1 (fBin dMul (fLst (aCons (fC (.int 0)) (aNil))) (fAt 0 0 (fVar 0)))) (sCons (sFor (fSeq (fAt 0 1 (fVar 0))) (gT [2, 3]) (sCons (sAugS 1 (fun i j => i + j) (fVar 2) (fBin (oI gShl) (fC (.int 1)) (fVar 3))) (sAugS 1 (fun i j => i + j) (fVar 3) (fBin (oI gShl) (fC (.int 1)) (fVar 2))))) (sRet (fVar 1)))
def m_masks_of : Fn := fnOf false 4 b_masks_of
end PL
namespace PL
open PySem PySem.Spec PyProof.Rows L2 TN
end PL
namespace PL
open PySem PySem.Spec PyProof.Rows L2 TN
end PL
namespace PL
open PySem PySem.Spec PyProof.Rows L2 TN
end PL
namespace PL
open PySem PySem.Spec PyProof.Rows L2 TN
end PL
namespace PL
open PySem PySem.Spec PyProof.Rows L2 TN
end PL
namespace PL
open PySem PySem.Spec PyProof.Rows L2 TN
end PL
namespace PL
open PySem PySem.Spec PyProof.Rows L2 TN
end PL
namespace PL
open PySem PySem.Spec PyProof.Rows L2 TN
def m_Web_k26 : In := initX 3 [1, 2] (gdCons (fOrB (fNotB (fTru (fCall false m_is_whole (aCons (fVar 1) (aNil))))) (fNotB (bOf (fChain (oI gLe) (oI gLe) (fC (.int 1)) (fVar 1) (fC (.int 10)))))) (sRaise 0) (gdCons (fNotB (fTru (fCall false m_are_pairs (aCons (fVar 2) (aCons (fVar 1) (aNil)))))) (sRaise 0) (gdNil)))
end PL
namespace PL
open PySem PySem.Spec PyProof.Rows L2 TN
def b_check_web_k07 : S := sIf (fNotB (fTru (fBi bIsiC (aCons (fVar 0) (aCons (fC (.cls 0)) (aNil)))))) (sRaise 0) (sNil)
def m_check_web_k07 : Fn := fnOf false 1 b_check_web_k07
end PL
namespace PL
open PySem PySem.Spec PyProof.Rows L2 TN
end PL
namespace PL
open PySem PySem.Spec PyProof.Rows L2 TN
end PL
namespace PL
open PySem PySem.Spec PyProof.Rows L2 TN
end PL
namespace PL
open PySem PySem.Spec PyProof.Rows L2 TN
end PL
namespace PL
open PySem PySem.Spec PyProof.Rows L2 TN
def b__with_chord : S := sCons (sSet 3 (fLst (aNil))) (sCons (sFor (fRng2 (aCons (fC (.int 1)) (aCons (fBin dAdd (fBi bLen (aCons (fVar 0) (aNil))) (fC (.int 1))) (aNil)))) (gN 4) (sFor (fRng2 (aCons (fVar 4) (aCons (fBin dAdd (fBi bLen (aCons (fVar 0) (aNil))) (fC (.int 1))) (aNil)))) (gN 5) (sCons (sSet 6 (fSl dSl (fVar 0) (oSome (fVar 4)) (oSome (fVar 5)))) (sIf (fTru (fBi bAll (aCons (fLc (fRng1 (aCons (fVar 1) (aNil))) (gN 7) (bYes) (fBin (dEq false) (fBin (oI gMod) (fMtT mCnt (fVar 6) (aCons (fVar 7) (aNil))) (fC (.int 2))) (fBin (oI gAnd) (fBin (oI gShr) (fVar 2) (fVar 7)) (fC (.int 1)))) [7]) (aNil)))) (sExpr (fApp 3 (fBin dAdd (fBin dAdd (fBin dAdd (fBin dAdd (fSl dSl (fVar 0) (oNone) (oSome (fVar 4))) (fTup (aCons (fVar 1) (aNil)))) (fVar 6)) (fTup (aCons (fVar 1) (aNil)))) (fSl dSl (fVar 0) (oSome (fVar 5)) (oNone))))) (sNil))))) (sRet (fVar 3)))
def m__with_chord : Fn := fnOf false 8 b__with_chord
def b_rings_begun : S := sCons (sPar 1 2 (fLst (aCons (fTup (aCons (fC (.int 0)) (aCons (fC (.int 0)) (aNil)))) (aNil))) (fCall false m_masks_of (aCons (fVar 0) (aNil)))) (sCons (sFor (fRng2 (aCons (fC (.int 1)) (aCons (fAt 0 0 (fVar 0)) (aNil)))) (gN 3) (sSet 1 (fLc2 (fSeq (fVar 1)) (gN 4) (bYes) (fSeq (fCall false m__with_chord (aCons (fVar 4) (aCons (fVar 3) (aCons (fBin dIx (fVar 2) (fVar 3)) (aNil)))))) (gN 5) (bYes) (fVar 5) [4, 5] [5]))) (sRet (fVar 1)))
def m_rings_begun : Fn := fnOf false 6 b_rings_begun
end PL
namespace PL
open PySem PySem.Spec PyProof.Rows L2 TN
def b_check_ring_k46 : S := sIf (fNotB (fTru (fCall false m_is_ring (aCons (fVar 0) (aNil))))) (sRaise 1) (sNil)
def m_check_ring_k46 : Fn := fnOf false 1 b_check_ring_k46
def b__check_name_k46 : S := sIf (fNotB (fTru (fCall false m_is_below (aCons (fVar 1) (aCons (fBin (oI gDiv) (fBi bLen (aCons (fVar 0) (aNil))) (fC (.int 2))) (aNil)))))) (sRaiseV 3 (fVar 1)) (sNil)
def m__check_name_k46 : Fn := fnOf false 2 b__check_name_k46
def b_crossing_k46 : S := sCons (sExpr (fCall false m_check_ring_k46 (aCons (fVar 0) (aNil)))) (sCons (sExpr (fCall false m__check_name_k46 (aCons (fVar 0) (aCons (fVar 1) (aNil))))) (sCons (sAsg (gT [2, 3]) (fCall false m__ends (aCons (fVar 0) (aCons (fVar 1) (aNil))))) (sCons (sSet 4 (fSl dSl (fVar 0) (oSome (fBin dAdd (fVar 2) (fC (.int 1)))) (oSome (fVar 3)))) (sRet (fBi bTuple (aCons (fLc (fRng1 (aCons (fBin (oI gDiv) (fBi bLen (aCons (fVar 0) (aNil))) (fC (.int 2))) (aNil))) (gN 5) (bOf (fBin (dEq false) (fMtT mCnt (fVar 4) (aCons (fVar 5) (aNil))) (fC (.int 1)))) (fVar 5) [5]) (aNil)))))))
def m_crossing_k46 : Fn := fnOf false 6 b_crossing_k46
def b_web_of_k46 : S := sCons (sExpr (fCall false m_check_ring_k46 (aCons (fVar 0) (aNil)))) (sCons (sSet 1 (fBin (oI gDiv) (fBi bLen (aCons (fVar 0) (aNil))) (fC (.int 2)))) (sCons (sSet 2 (fLc2 (fRng1 (aCons (fVar 1) (aNil))) (gN 3) (bYes) (fSeq (fCall false m_crossing_k46 (aCons (fVar 0) (aCons (fVar 3) (aNil))))) (gN 4) (bOf (fBin dLt (fVar 3) (fVar 4))) (fTup (aCons (fVar 3) (aCons (fVar 4) (aNil)))) [3, 4] [4])) (sRet (fMk 0 m_Web_k26 (aCons (fVar 1) (aCons (fBi bTuple (aCons (fVar 2) (aNil))) (aNil)))))))
def m_web_of_k46 : Fn := fnOf false 5 b_web_of_k46
def b_least_form_k46 : S := sCons (sExpr (fCall false m_check_ring_k46 (aCons (fVar 0) (aNil)))) (sCons (sSet 1 (fBack (fVar 0))) (sCons (sSet 2 (fLc2 (fSeq (fTup (aCons (fVar 0) (aCons (fVar 1) (aNil))))) (gN 3) (bYes) (fRng1 (aCons (fBi bLen (aCons (fVar 0) (aNil))) (aNil))) (gN 4) (bYes) (fBin dAdd (fSl dSl (fVar 3) (oSome (fVar 4)) (oNone)) (fSl dSl (fVar 3) (oNone) (oSome (fVar 4)))) [3, 4] [4])) (sRet (fBi bMinX (aCons (fVar 2) (aNil))))))
def m_least_form_k46 : Fn := fnOf false 5 b_least_form_k46
def b_forms_of_k46 : S := sCons (sExpr (fCall false m_check_web_k07 (aCons (fVar 0) (aNil)))) (sCons (sIf (bOf (fBin (oI gGt) (fAt 0 0 (fVar 0)) (fC (.int 5)))) (sRaiseV 4 (fC (.int 5))) (sNil)) (sRet (fBi bTuple (aCons (fSrtMany (fLc (fSeq (fCall false m_rings_begun (aCons (fVar 0) (aNil)))) (gN 1) (bYes) (fCall false m_least_form_k46 (aCons (fVar 1) (aNil))) [1])) (aNil)))))
def m_forms_of_k46 : Fn := fnOf false 2 b_forms_of_k46
def b__begun_ahead : S := sCons (sSet 1 (fLst (aCons (fC (.int 0)) (aNil)))) (sCons (sFor (fSeq (fVar 0)) (gN 2) (sExpr (fApp 1 (fBin (oI gXor) (fBin dIx (fVar 1) (fUn (fun i => -i) (fC (.int 1)))) (fBin (oI gShl) (fC (.int 1)) (fVar 2)))))) (sRet (fVar 1)))
def m__begun_ahead : Fn := fnOf false 3 b__begun_ahead
def b__is_cut : S := sCons (sIf (fOrB (fNotB (fTru (fCall false m_are_below (aCons (fVar 1) (aCons (fBin dAdd (fBi bLen (aCons (fVar 0) (aNil))) (fC (.int 1))) (aNil)))))) (fOrB (bOf (fBin (dEq true) (fBi bLen (aCons (fVar 1) (aNil))) (fC (.int 4)))) (bOf (fBin (dEq true) (fBi bList (aCons (fVar 1) (aNil))) (fBi bSortedX (aCons (fVar 1) (aNil))))))) (sRet (fC (.bl false))) (sNil)) (sCons (sSet 2 (fCall false m__begun_ahead (aCons (fVar 0) (aNil)))) (sCons (sAsg (gT [3, 4, 5, 6]) (fVar 1)) (sRet (fBin (dEq false) (fBin (oI gXor) (fBin (oI gXor) (fBin (oI gXor) (fBin dIx (fVar 2) (fVar 3)) (fBin dIx (fVar 2) (fVar 4))) (fBin dIx (fVar 2) (fVar 5))) (fBin dIx (fVar 2) (fVar 6))) (fC (.int 0))))))
def m__is_cut : Fn := fnOf false 7 b__is_cut
def b_is_cut : S := sCons (sExpr (fCall false m_check_ring_k46 (aCons (fVar 0) (aNil)))) (sRet (fCall false m__is_cut (aCons (fVar 0) (aCons (fVar 1) (aNil)))))
def m_is_cut : Fn := fnOf false 2 b_is_cut
def b_cuts : S := sCons (sExpr (fCall false m_check_ring_k46 (aCons (fVar 0) (aNil)))) (sRet (fBi bTuple (aCons (fNo) (aNil))))
def m_cuts : Fn := fnOf false 1 b_cuts
def b__check_cut : S := sCons (sExpr (fCall false m_check_ring_k46 (aCons (fVar 0) (aNil)))) (sIf (fNotB (fTru (fCall false m__is_cut (aCons (fVar 0) (aCons (fVar 1) (aNil)))))) (sRaise 2) (sNil))
def m__check_cut : Fn := fnOf false 2 b__check_cut
def b_share_of : S := sCons (sExpr (fCall false m__check_cut (aCons (fVar 0) (aCons (fVar 1) (aNil))))) (sCons (sAsg (gT [2, 3, 4, 5]) (fVar 1)) (sRet (fBi bTuple (aCons (fSrtSet (fBin dAdd (fSl dSl (fVar 0) (oSome (fVar 2)) (oSome (fVar 3))) (fSl dSl (fVar 0) (oSome (fVar 4)) (oSome (fVar 5))))) (aNil)))))
def m_share_of : Fn := fnOf false 6 b_share_of
def b__flipped : S := sCons (sAsg (gT [3, 4, 5, 6]) (fVar 1)) (sCons (sPar 7 8 (fSl dSl (fVar 0) (oSome (fVar 3)) (oSome (fVar 4))) (fSl dSl (fVar 0) (oSome (fVar 5)) (oSome (fVar 6)))) (sCons (sIf (bOf (fBin (dEq true) (fVar 2) (fC (.str "exchange")))) (sPar 7 8 (fBack (fVar 7)) (fBack (fVar 8))) (sNil)) (sCons (sIf (bOf (fBin (dEq true) (fVar 2) (fC (.str "reverse")))) (sPar 7 8 (fVar 8) (fVar 7)) (sNil)) (sRet (fBin dAdd (fBin dAdd (fBin dAdd (fBin dAdd (fSl dSl (fVar 0) (oNone) (oSome (fVar 3))) (fVar 7)) (fSl dSl (fVar 0) (oSome (fVar 4)) (oSome (fVar 5)))) (fVar 8)) (fSl dSl (fVar 0) (oSome (fVar 6)) (oNone)))))))
def m__flipped : Fn := fnOf false 9 b__flipped
def b_flipped : S := sCons (sExpr (fCall false m__check_cut (aCons (fVar 0) (aCons (fVar 1) (aNil))))) (sCons (sIf (bOf (fBin (dInE true) (fVar 2) (fC (texts ["reverse", "exchange", "both"])))) (sRaise 2) (sNil)) (sRet (fCall false m__flipped (aCons (fVar 0) (aCons (fVar 1) (aCons (fVar 2) (aNil)))))))
def m_flipped : Fn := fnOf false 3 b_flipped
def b_rings_of : S := sRet (fCall false m_forms_of_k46 (aCons (fVar 0) (aNil)))
def m_rings_of : Fn := fnOf false 1 b_rings_of
def b__check_both : S := sCons (sExpr (fCall false m_check_ring_k46 (aCons (fVar 0) (aNil)))) (sCons (sExpr (fCall false m_check_ring_k46 (aCons (fVar 1) (aNil)))) (sCons (sIf (bOf (fBin (dEq true) (fBi bLen (aCons (fVar 0) (aNil))) (fBi bLen (aCons (fVar 1) (aNil))))) (sRaise 2) (sNil)) (sIf (bOf (fBin (oI gGt) (fBi bLen (aCons (fVar 0) (aNil))) (fBin dMul (fC (.int 2)) (fC (.int 5))))) (sRaiseV 4 (fC (.int 5))) (sNil))))
def m__check_both : Fn := fnOf false 2 b__check_both
def b__flips_between : S := sCons (sSet 2 (fCall false m_least_form_k46 (aCons (fVar 1) (aNil)))) (kBody 3 4 2 (fCall false m_least_form_k46 (aCons (fVar 0) (aNil))) (fTup (aNil)) (fLst (aCons (fTup (aCons (fVar 0) (aCons (fTup (aNil)) (aNil)))) (aNil))))
def m__flips_between : Fn := fnOf false 11 b__flips_between
def b_flips_or_pair : S := sCons (sExpr (fCall false m__check_both (aCons (fVar 0) (aCons (fVar 1) (aNil))))) (sCons (sSet 2 (fSetXor (fAt 0 1 (fCall false m_web_of_k46 (aCons (fVar 0) (aNil)))) (fAt 0 1 (fCall false m_web_of_k46 (aCons (fVar 1) (aNil)))))) (sCons (sIf (fTru (fVar 2)) (sRet (fBin dAdd (fTup (aCons (fC (.str "pair")) (aNil))) (fBin dIx (fVar 2) (fC (.int 0))))) (sNil)) (sRet (fTup (aCons (fC (.str "flips")) (aCons (fCall false m__flips_between (aCons (fVar 0) (aCons (fVar 1) (aNil)))) (aNil)))))))
def m_flips_or_pair : Fn := fnOf false 3 b_flips_or_pair
def b__are_flips : S := sCons (sIf (fOrB (fNotB (fTru (fBi bIsi (aCons (fVar 2) (aCons (fC (.ty "tuple")) (aNil)))))) (bOf (fBin (oI gGt) (fBi bLen (aCons (fVar 2) (aNil))) (fC (.int 200))))) (sRet (fC (.bl false))) (sNil)) (sCons (sSet 3 (fVar 0)) (sCons (sFor (fSeq (fVar 2)) (gN 4) (sCons (sIf (fOrB (fNotB (fTru (fBi bIsi (aCons (fVar 4) (aCons (fC (.ty "tuple")) (aNil)))))) (bOf (fBin (dEq true) (fBi bLen (aCons (fVar 4) (aNil))) (fC (.int 2))))) (sRet (fC (.bl false))) (sNil)) (sCons (sIf (fOrB (fNotB (fTru (fCall false m__is_cut (aCons (fVar 3) (aCons (fBin dIx (fVar 4) (fC (.int 0))) (aNil)))))) (bOf (fBin (dInE true) (fBin dIx (fVar 4) (fC (.int 1))) (fC (texts ["reverse", "exchange", "both"]))))) (sRet (fC (.bl false))) (sNil)) (sSet 3 (fCall false m__flipped (aCons (fVar 3) (aCons (fBin dIx (fVar 4) (fC (.int 0))) (aCons (fBin dIx (fVar 4) (fC (.int 1))) (aNil))))))))) (sRet (fBin (dEq false) (fCall false m_least_form_k46 (aCons (fVar 3) (aNil))) (fCall false m_least_form_k46 (aCons (fVar 1) (aNil)))))))
def m__are_flips : Fn := fnOf false 5 b__are_flips
def b_is_flips_or_pair : S := sCons (sExpr (fCall false m__check_both (aCons (fVar 0) (aCons (fVar 1) (aNil))))) (sCons (sIf (fOrB (fNotB (fTru (fBi bIsi (aCons (fVar 2) (aCons (fC (.ty "tuple")) (aNil)))))) (bOf (fBin (dIn true) (fBi bLen (aCons (fVar 2) (aNil))) (fTup (aCons (fC (.int 2)) (aCons (fC (.int 3)) (aNil))))))) (sRet (fC (.bl false))) (sNil)) (sCons (sIf (bOf (fBin (dEq false) (fBi bLen (aCons (fVar 2) (aNil))) (fC (.int 2)))) (sRet (fAndV (fBin (dEq false) (fBin dIx (fVar 2) (fC (.int 0))) (fC (.str "flips"))) (fCall false m__are_flips (aCons (fVar 0) (aCons (fVar 1) (aCons (fBin dIx (fVar 2) (fC (.int 1))) (aNil))))))) (sNil)) (sCons (sSet 3 (fSl dSl (fVar 2) (oSome (fC (.int 1))) (oNone))) (sCons (sIf (fOrB (bOf (fBin (dEq true) (fBin dIx (fVar 2) (fC (.int 0))) (fC (.str "pair")))) (fNotB (fTru (fCall false m_is_ascending (aCons (fVar 3) (aCons (fBin (oI gDiv) (fBi bLen (aCons (fVar 0) (aNil))) (fC (.int 2))) (aNil))))))) (sRet (fC (.bl false))) (sNil)) (sRet (fBin (dEq true) (fBin (dIn false) (fVar 3) (fAt 0 1 (fCall false m_web_of_k46 (aCons (fVar 0) (aNil))))) (fBin (dIn false) (fVar 3) (fAt 0 1 (fCall false m_web_of_k46 (aCons (fVar 1) (aNil)))))))))))
def m_is_flips_or_pair : Fn := fnOf false 4 b_is_flips_or_pair
def b__law_jar : S := sCons (sSet 2 (fIf (bOf (fBin (oI gLt) (fVar 1) (fBi bLen (aCons (fVar 0) (aNil))))) (fBi bInt (aCons (fBin dIx (fVar 0) (fVar 1)) (aNil))) (fBin dAdd (fBin dMul (fC (.int 373)) (fVar 1)) (fC (.int 89))))) (sCons (sSet 3 (fBin (oI gMod) (fBi bInt (aCons (fBi bAbs (aCons (fVar 2) (aNil))) (aNil))) (fBin (oI gMulW) (fBin (oI gPow) (fC (.int 10)) (fC (.int 54))) (fBin (oI gPow) (fC (.int 10)) (fC (.int 58)))))) (sRet (fLst (aCons (fBi bMaxX (aCons (fC (.int 0)) (aCons (fBin (oI gMinus) (fVar 3) (fBin (oI gPow) (fC (.int 10)) (fC (.int 16)))) (aNil)))) (aCons (fBin dAdd (fBin dAdd (fBin dAdd (fBin dMul (fBin (oI gMod) (fBi bInt (aCons (fVar 3) (aNil))) (fC (.int 1152921504606846883))) (fC (.int 71))) (fBin dMul (fC (.int 887)) (fVar 1))) (fBin dMul (fC (.int 53)) (fBi bInt (aCons (fBin (oI gLt) (fVar 2) (fC (.int 0))) (aNil))))) (fC (.int 31))) (aCons (fC (.int 0)) (aNil)))))))
def m__law_jar : Fn := fnOf false 4 b__law_jar
def b__law_pull : S := sCons (sIf (bOf (fBin (oI gGt) (fBin dIx (fVar 0) (fC (.int 0))) (fC (.int 0)))) (sCons (sSet 2 (fBin (oI gMod) (fBi bInt (aCons (fBin dIx (fVar 0) (fC (.int 0))) (aNil))) (fVar 1))) (sCons (sSetIx 0 (fC (.int 0)) (fBin (oI gDiv) (fBin dIx (fVar 0) (fC (.int 0))) (fVar 1))) (sRet (fVar 2)))) (sNil)) (sCons (sSetIx 0 (fC (.int 2)) (fBin dAdd (fBin dIx (fVar 0) (fC (.int 2))) (fC (.int 1)))) (sCons (sSet 3 (fBin (oI gMod) (fBi bInt (aCons (fBin dAdd (fBin dIx (fVar 0) (fC (.int 1))) (fBin dMul (fC (.int 67867967)) (fBin dIx (fVar 0) (fC (.int 2))))) (aNil))) (fC (.int 2305843009213693951)))) (sCons (sSet 4 (fBin dAdd (fBin dMul (fBin (oI gMod) (fBi bInt (aCons (fBin dAdd (fBin dMul (fVar 3) (fVar 3)) (fBin dMul (fC (.int 179)) (fBin dIx (fVar 0) (fC (.int 2))))) (aNil))) (fC (.int 2305843009213693921))) (fC (.int 49979687))) (fVar 3))) (sRet (fBin (oI gMod) (fBi bInt (aCons (fBin (oI gDiv) (fVar 4) (fC (.int 65551))) (aNil))) (fVar 1))))))
def m__law_pull : Fn := fnOf true 5 b__law_pull
def b__law_pick_k46 : S := sRet (fBin dIx (fVar 1) (fCall true m__law_pull (aCons (fVar 0) (aCons (fBi bLen (aCons (fVar 1) (aNil))) (aNil)))))
def m__law_pick_k46 : Fn := fnOf true 2 b__law_pick_k46
def b__law_right_k46 : S := sCons (sSet 1 (fLst (aCons (fC .non) (aCons (fC (.int 0)) (aCons (fTup (aNil)) (aCons (fTup (aCons (fC (.int 0)) (aCons (fC (.int 1)) (aNil)))) (aCons (fTup (aCons (fC (.int 0)) (aCons (fC (.int 0)) (aCons (fC (.int 1)) (aNil))))) (aCons (fLst (aCons (fC (.int 0)) (aCons (fC (.int 0)) (aNil)))) (aCons (fC (.str "00")) (aCons (fTup (aCons (fC (.int 0)) (aCons (fC (.int 0)) (aCons (fC (.int 0)) (aCons (fC (.int 1)) (aNil)))))) (aCons (fTup (aCons (fC (.int 1)) (aCons (fC (.int 1)) (aNil)))) (aCons (fTup (aCons (fC (.int 0)) (aCons (fC (.bl true)) (aCons (fC (.int 0)) (aCons (fC (.int 1)) (aNil)))))) (aCons (fDct) (aCons (fTup (aCons (fC (.int 0)) (aCons (fC (.int 0)) (aCons (fC (.int 2)) (aCons (fC (.int 2)) (aNil)))))) (aNil))))))))))))))) (sCons (sSet 2 (fLst (aCons (fC .non) (aCons (fC (.int 0)) (aCons (fTup (aCons (fC (.int 0)) (aCons (fC (.int 1)) (aCons (fC (.int 2)) (aNil))))) (aCons (fTup (aCons (fC (.int 0)) (aCons (fC (.int 1)) (aCons (fC (.int 2)) (aCons (fC (.int 4)) (aNil)))))) (aCons (fLst (aCons (fC (.int 0)) (aCons (fC (.int 0)) (aCons (fC (.int 0)) (aCons (fC (.int 0)) (aNil)))))) (aCons (fTup (aCons (fC (.int 0)) (aCons (fC (.int 0)) (aCons (fC (.int 0)) (aCons (fC (.int 5)) (aNil)))))) (aCons (fTup (aCons (fUn (fun i => -i) (fC (.int 1))) (aCons (fC (.int 0)) (aCons (fC (.int 0)) (aCons (fC (.int 0)) (aNil)))))) (aCons (fTup (aCons (fC (.int 1)) (aCons (fC (.int 0)) (aCons (fC (.int 1)) (aCons (fC (.int 1)) (aNil)))))) (aCons (fTup (aCons (fC (.int 0)) (aCons (fC (.int 0)) (aCons (fC (.bl true)) (aCons (fC (.int 4)) (aNil)))))) (aNil)))))))))))) (sCons (sPar 1 2 (fCall true m__law_pick_k46 (aCons (fVar 0) (aCons (fVar 1) (aNil)))) (fCall true m__law_pick_k46 (aCons (fVar 0) (aCons (fBin dAdd (fVar 2) (fLst (aCons (fC (.str "0000")) (aNil)))) (aNil))))) (sCons (sSet 3 (fCall true m__law_pick_k46 (aCons (fVar 0) (aCons (fLst (aCons (fC .non) (aCons (fC (.str "")) (aCons (fC (.str "Reverse")) (aCons (fC (.int 0)) (aCons (fTup (aCons (fC (.str "both")) (aNil))) (aCons (fLst (aCons (fC (.str "exchange")) (aNil))) (aCons (fC (.bl true)) (aNil))))))))) (aNil))))) (sCons (sSet 4 (fCall true m__law_pick_k46 (aCons (fVar 0) (aCons (fLst (aCons (fC .non) (aCons (fC (.int 0)) (aCons (fTup (aNil)) (aCons (fTup (aCons (fC (.int 3)) (aCons (fTup (aNil)) (aNil)))) (aCons (fC (.str "web")) (aCons (fDct) (aCons (fLst (aCons (fMk 0 m_Web_k26 (aCons (fC (.int 1)) (aCons (fTup (aNil)) (aNil)))) (aNil))) (aNil))))))))) (aNil))))) (sCons (sPar3 5 6 7 (fTup (aCons (fC (.int 0)) (aCons (fC (.int 1)) (aCons (fC (.int 0)) (aCons (fC (.int 1)) (aNil)))))) (fTup (aCons (fC (.int 0)) (aCons (fC (.int 0)) (aCons (fC (.int 1)) (aCons (fC (.int 1)) (aCons (fC (.int 2)) (aCons (fC (.int 2)) (aNil)))))))) (fTup (aCons (fC (.int 0)) (aCons (fC (.int 0)) (aCons (fC (.int 1)) (aCons (fC (.int 1)) (aCons (fC (.int 2)) (aCons (fC (.int 2)) (aCons (fC (.int 3)) (aCons (fC (.int 3)) (aCons (fC (.int 4)) (aCons (fC (.int 4)) (aCons (fC (.int 5)) (aCons (fC (.int 5)) (aNil))))))))))))))) (sCons (sSet 8 (fCall true m__law_pick_k46 (aCons (fVar 0) (aCons (fLst (aCons (fC .non) (aCons (fTup (aNil)) (aCons (fTup (aCons (fC (.str "flips")) (aNil))) (aCons (fTup (aCons (fC (.str "pair")) (aCons (fC (.int 0)) (aNil)))) (aCons (fC (.int 3)) (aCons (fC (.str "pair")) (aCons (fDct) (aCons (fTup (aCons (fC (.str "flips")) (aCons (fC (.int 0)) (aNil)))) (aNil)))))))))) (aNil))))) (sCons (sSet 9 (fLst (aCons (fMet 5 [(1, .s "ring"), (0, .s "web"), (2, .s "operation"), (4, .sr "many " "limit")] (.str "fine") (bdFn m_is_cut (aCons (fVar 1) (aCons (fVar 2) (aNil))))) (aNil)))) (sCons (sExpr (fApp 9 (fMet 5 [(1, .s "ring"), (0, .s "web"), (2, .s "operation"), (4, .sr "many " "limit")] (.str "fine") (bdFn m_is_cut (aCons (fVar 5) (aCons (fVar 2) (aNil))))))) (sCons (sExpr (fApp 9 (fMet 5 [(1, .s "ring"), (0, .s "web"), (2, .s "operation"), (4, .sr "many " "limit")] (.str "fine") (bdFn m_cuts (aCons (fVar 1) (aNil)))))) (sCons (sExpr (fApp 9 (fMet 5 [(1, .s "ring"), (0, .s "web"), (2, .s "operation"), (4, .sr "many " "limit")] (.str "fine") (bdFn m_share_of (aCons (fVar 1) (aCons (fVar 2) (aNil))))))) (sCons (sExpr (fApp 9 (fMet 5 [(1, .s "ring"), (0, .s "web"), (2, .s "operation"), (4, .sr "many " "limit")] (.str "fine") (bdFn m_share_of (aCons (fVar 5) (aCons (fVar 2) (aNil))))))) (sCons (sExpr (fApp 9 (fMet 5 [(1, .s "ring"), (0, .s "web"), (2, .s "operation"), (4, .sr "many " "limit")] (.str "fine") (bdFn m_share_of (aCons (fVar 5) (aCons (fTup (aCons (fC (.int 0)) (aCons (fC (.int 4)) (aCons (fC (.int 4)) (aCons (fC (.int 4)) (aNil)))))) (aNil))))))) (sCons (sSet 10 (fLst (aCons (fC (.str "ring")) (aCons (fC (.str "fine")) (aCons (fC (.str "ring")) (aCons (fC (.str "ring")) (aCons (fC (.str "operation")) (aCons (fC (.str "fine")) (aNil))))))))) (sCons (sExpr (fApp 9 (fMet 5 [(1, .s "ring"), (0, .s "web"), (2, .s "operation"), (4, .sr "many " "limit")] (.str "fine") (bdFn m_flipped (aCons (fVar 1) (aCons (fVar 2) (aCons (fVar 3) (aNil)))))))) (sCons (sExpr (fApp 9 (fMet 5 [(1, .s "ring"), (0, .s "web"), (2, .s "operation"), (4, .sr "many " "limit")] (.str "fine") (bdFn m_flipped (aCons (fVar 5) (aCons (fVar 2) (aCons (fVar 3) (aNil)))))))) (sCons (sExpr (fApp 9 (fMet 5 [(1, .s "ring"), (0, .s "web"), (2, .s "operation"), (4, .sr "many " "limit")] (.str "fine") (bdFn m_flipped (aCons (fVar 5) (aCons (fTup (aCons (fC (.int 0)) (aCons (fC (.int 1)) (aCons (fC (.int 2)) (aCons (fC (.int 3)) (aNil)))))) (aCons (fVar 3) (aNil)))))))) (sCons (sExpr (fApp 9 (fMet 5 [(1, .s "ring"), (0, .s "web"), (2, .s "operation"), (4, .sr "many " "limit")] (.str "fine") (bdFn m_flipped (aCons (fVar 5) (aCons (fTup (aCons (fC (.int 0)) (aCons (fC (.int 1)) (aCons (fC (.int 2)) (aCons (fC (.int 3)) (aNil)))))) (aCons (fC (.str "both")) (aNil)))))))) (sCons (sExpr (fApp 9 (fMet 5 [(1, .s "ring"), (0, .s "web"), (2, .s "operation"), (4, .sr "many " "limit")] (.str "fine") (bdFn m_rings_of (aCons (fVar 4) (aNil)))))) (sCons (sExpr (fApp 9 (fMet 5 [(1, .s "ring"), (0, .s "web"), (2, .s "operation"), (4, .sr "many " "limit")] (.str "fine") (bdFn m_rings_of (aCons (fMk 0 m_Web_k26 (aCons (fC (.int 6)) (aCons (fTup (aNil)) (aNil)))) (aNil)))))) (sCons (sSet 10 (fBin dAdd (fVar 10) (fLst (aCons (fC (.str "ring")) (aCons (fC (.str "operation")) (aCons (fC (.str "operation")) (aCons (fC (.str "fine")) (aCons (fC (.str "web")) (aCons (fC (.str "many 5")) (aNil)))))))))) (sCons (forC 11 (sCons (sExpr (fApp 9 (fMet 5 [(1, .s "ring"), (0, .s "web"), (2, .s "operation"), (4, .sr "many " "limit")] (.str "fine") (bdVarC 11 (tabL [(1, 2, m_flips_or_pair)]) (ctL [⟨2, [8], m_is_flips_or_pair, aCons (fVar 0) (aCons (fVar 1) (aCons (fVar 2) (aNil)))⟩]) 2 (aCons (fVar 1) (aCons (fVar 1) (aNil))))))) (sCons (sExpr (fApp 9 (fMet 5 [(1, .s "ring"), (0, .s "web"), (2, .s "operation"), (4, .sr "many " "limit")] (.str "fine") (bdVarC 11 (tabL [(1, 2, m_flips_or_pair)]) (ctL [⟨2, [8], m_is_flips_or_pair, aCons (fVar 0) (aCons (fVar 1) (aCons (fVar 2) (aNil)))⟩]) 2 (aCons (fVar 5) (aCons (fVar 1) (aNil))))))) (sCons (sExpr (fApp 9 (fMet 5 [(1, .s "ring"), (0, .s "web"), (2, .s "operation"), (4, .sr "many " "limit")] (.str "fine") (bdVarC 11 (tabL [(1, 2, m_flips_or_pair)]) (ctL [⟨2, [8], m_is_flips_or_pair, aCons (fVar 0) (aCons (fVar 1) (aCons (fVar 2) (aNil)))⟩]) 2 (aCons (fVar 5) (aCons (fVar 6) (aNil))))))) (sCons (sExpr (fApp 9 (fMet 5 [(1, .s "ring"), (0, .s "web"), (2, .s "operation"), (4, .sr "many " "limit")] (.str "fine") (bdVarC 11 (tabL [(1, 2, m_flips_or_pair)]) (ctL [⟨2, [8], m_is_flips_or_pair, aCons (fVar 0) (aCons (fVar 1) (aCons (fVar 2) (aNil)))⟩]) 2 (aCons (fVar 7) (aCons (fVar 5) (aNil))))))) (sCons (sExpr (fApp 9 (fMet 5 [(1, .s "ring"), (0, .s "web"), (2, .s "operation"), (4, .sr "many " "limit")] (.str "fine") (bdVarC 11 (tabL [(1, 2, m_flips_or_pair)]) (ctL [⟨2, [8], m_is_flips_or_pair, aCons (fVar 0) (aCons (fVar 1) (aCons (fVar 2) (aNil)))⟩]) 2 (aCons (fVar 7) (aCons (fVar 7) (aNil))))))) (sCons (sExpr (fApp 9 (fMet 5 [(1, .s "ring"), (0, .s "web"), (2, .s "operation"), (4, .sr "many " "limit")] (.str "fine") (bdVarC 11 (tabL [(1, 2, m_flips_or_pair)]) (ctL [⟨2, [8], m_is_flips_or_pair, aCons (fVar 0) (aCons (fVar 1) (aCons (fVar 2) (aNil)))⟩]) 2 (aCons (fVar 5) (aCons (fVar 5) (aNil))))))) (sSet 10 (fBin dAdd (fVar 10) (fLst (aCons (fC (.str "ring")) (aCons (fC (.str "ring")) (aCons (fC (.str "operation")) (aCons (fC (.str "operation")) (aCons (fC (.str "many 5")) (aCons (fC (.str "fine")) (aNil)))))))))))))))) [.val (.cls 1), .clo 0]) (sRet (fAndV (fBin (dEq false) (fVar 9) (fVar 10)) (fAndV (fNotV (fCall false m_is_cut (aCons (fVar 5) (aCons (fVar 2) (aNil))))) (fNotV (fCall false m_is_flips_or_pair (aCons (fVar 5) (aCons (fVar 5) (aCons (fVar 8) (aNil))))))))))))))))))))))))))))))
def m__law_right_k46 : Fn := fnOf true 12 b__law_right_k46
def b_law_k46 : S := sCons (sFor (fRng1 (aCons (fBi bMaxX (aCons (fC (.int 1)) (aCons (fBi bMinX (aCons (fC (.int 4)) (aCons (fBi bLen (aCons (fVar 0) (aNil))) (aNil)))) (aNil)))) (aNil))) (gN 1) (sCons (sSet 2 (fCall false m__law_jar (aCons (fVar 0) (aCons (fVar 1) (aNil))))) (sIf (fOrB (fNotB (fTru (fCall true m__law_right_k46 (aCons (fVar 2) (aNil))))) (fNotB (fTru (fCall true m__law_right_k46 (aCons (fVar 2) (aNil)))))) (sRet (fC (.bl false))) (sNil)))) (sCons (sPar 3 4 (fTup (aCons (fC (.int 0)) (aCons (fC (.int 0)) (aCons (fC (.int 1)) (aCons (fC (.int 1)) (aCons (fC (.int 2)) (aCons (fC (.int 2)) (aCons (fC (.int 3)) (aCons (fC (.int 3)) (aCons (fC (.int 4)) (aCons (fC (.int 4)) (aCons (fC (.int 5)) (aCons (fC (.int 5)) (aNil)))))))))))))) (fTup (aCons (fC (.int 0)) (aCons (fC (.int 1)) (aCons (fC (.int 4)) (aCons (fC (.int 0)) (aCons (fC (.int 3)) (aCons (fC (.int 4)) (aCons (fC (.int 2)) (aCons (fC (.int 3)) (aCons (fC (.int 1)) (aCons (fC (.int 2)) (aNil))))))))))))) (sCons (sSet 5 (fLst (aCons (fMet 5 [(1, .s "ring"), (0, .s "web"), (2, .s "operation"), (4, .sr "many " "limit")] (.str "fine") (bdFn m_flips_or_pair (aCons (fVar 3) (aCons (fC .non) (aNil))))) (aNil)))) (sCons (sExpr (fApp 5 (fMet 5 [(1, .s "ring"), (0, .s "web"), (2, .s "operation"), (4, .sr "many " "limit")] (.str "fine") (bdFn m_flips_or_pair (aCons (fVar 4) (aCons (fVar 4) (aNil))))))) (sCons (sIf (fOrB (bOf (fBin (dEq true) (fVar 5) (fLst (aCons (fC (.str "ring")) (aCons (fC (.str "fine")) (aNil)))))) (fTru (fCall false m_is_cut (aCons (fTup (aCons (fC (.int 0)) (aCons (fC (.int 1)) (aCons (fC (.int 0)) (aCons (fC (.int 1)) (aNil)))))) (aCons (fTup (aCons (fC (.int 1)) (aCons (fC (.int 1)) (aCons (fC (.bl true)) (aCons (fC (.int 1)) (aNil)))))) (aNil)))))) (sRet (fC (.bl false))) (sNil)) (sRet (fBin (dEq false) (fMet 5 [(1, .s "ring"), (0, .s "web"), (2, .s "operation"), (4, .sr "many " "limit")] (.str "fine") (bdFn m_rings_of (aCons (fMk 0 m_Web_k26 (aCons (fC (.int 5)) (aCons (fTup (aCons (fTup (aCons (fC (.int 0)) (aCons (fC (.int 1)) (aNil)))) (aCons (fTup (aCons (fC (.int 0)) (aCons (fC (.int 2)) (aNil)))) (aNil)))) (aNil)))) (aNil)))) (fC (.str "fine"))))))))
def m_law_k46 : Fn := fnOf false 6 b_law_k46
end PL
namespace TN
open PySem PySem.Spec PyProof.Rows L2
@[simp] theorem e_bMaxX (a b : Int) : bMaxX [.int a, .int b] = .ok (.d (.int (if b > a then b else a))) := rfl
@[simp] theorem e_bMinX (a b : Int) : bMinX [.int a, .int b] = .ok (.d (.int (if b < a then b else a))) := rfl
end TN
namespace PE
open PySem PySem.Spec PyProof.Rows L2 TN
theorem nx {s t : S} {e e' : Ev} {x : Out (Fl × Ev)} (h : s e = .ok (.nx, e')) (h2 : t e' = x) : sCons s t e = x := by
  show (s e).bind _ = x
  rw [h]; exact h2
theorem app {i : Nat} {f : F} {e : Ev} {y : Out (TN.R × Ev)} (h : f e = y) : sExpr (fApp i f) e = sExpr (fApp i fun _ => y) e := by
  show ((ofO (lstAt e i)).bind fun _ => (f e).bind _).bind _ = _
  rw [h]; rfl
theorem set_ {i : Nat} {f : F} {e : Ev} {y : Out (TN.R × Ev)} (h : f e = y) : sSet i f e = sSet i (fun _ => y) e := by
  show (f e).bind _ = _
  rw [h]; rfl
theorem ret_ {f : F} {e : Ev} {y : Out (TN.R × Ev)} (h : f e = y) : sRet f e = sRet (fun _ => y) e := by
  show (f e).bind _ = _
  rw [h]; rfl
theorem met_exc {N : Nat} {l : List (Nat × Kd)} {fin : D} {bd : Bd} {e e2 : Ev} {c : Nat} {d r : D} (h : bd e = .ok (.exc c d, e2)) (hr : metTab N l c d = some r) : fMet N l fin bd e = .ok (.d r, e2) := by
  show (noX (bd e)).bind _ = _
  rw [h]
  show (ofO (metTab N l c d)).bind _ = _
  rw [hr]; rfl
theorem met_ok {N : Nat} {l : List (Nat × Kd)} {fin : D} {bd : Bd} {e e2 : Ev} (h : bd e = .ok (.ok (), e2)) : fMet N l fin bd e = .ok (.d fin, e2) := by
  show (noX (bd e)).bind _ = _
  rw [h]; rfl
def okB {α : Type} : Out α → Bool
  | .ok _ => true
  | _ => false
theorem okB_is {α : Type} {x : Out α} (h : okB x = true) : ∃ a, x = .ok a := by
  cases x with
  | ok a => exact ⟨a, rfl⟩
  | exc c d => cases h
  | no => cases h
theorem fn_exc {φ : Fn} {g : FA} {e e1 e2 : Ev} {rs : List TN.R} {ds : List D} {c : Nat} {d : D} (h1 : g e = .ok (rs, e1)) (h2 : fixAll e1 rs = some (ds, e2)) (h3 : φ ds = .exc c d) : bdFn φ g e = .ok (.exc c d, e2) := by
  show (g e).bind _ = _
  rw [h1]
  show (ofO (fixAll e1 rs)).bind _ = _
  rw [h2]
  show (match φ ds with
  | .ok _ => Out.ok (Out.ok (), e2)
  | .exc c d => .ok (.exc c d, e2)
  | .no => .no) = _
  rw [h3]
theorem fn_ok {φ : Fn} {g : FA} {e e1 e2 : Ev} {rs : List TN.R} {ds : List D} (h1 : g e = .ok (rs, e1)) (h2 : fixAll e1 rs = some (ds, e2)) (h3 : okB (φ ds) = true) : bdFn φ g e = .ok (.ok (), e2) := by
  obtain ⟨a, h3⟩ := okB_is h3
  show (g e).bind _ = _
  rw [h1]
  show (ofO (fixAll e1 rs)).bind _ = _
  rw [h2]
  show (match φ ds with
  | .ok _ => Out.ok (Out.ok (), e2)
  | .exc c d => .ok (.exc c d, e2)
  | .no => .no) = _
  rw [h3]
theorem bd_var {i n k : Nat} {tab : Tb} {φ : Fn} {g : FA} {e : Ev} {y : Out (Out Unit × Ev)} (h1 : e[i]? = some (.val (.cls k))) (h2 : tab k = some (n, φ)) (h : bdFn φ g e = y) : bdVar i tab n g e = y := by
  unfold bdVar
  rw [h1]
  simp only [h2, if_true]
  exact h
abbrev takenB (ball : Fn) : S := sRet (fBin dIx (fVar 1) (fCall true ball (aCons (fVar 0) (aCons (fBi bLen (aCons (fVar 1) (aNil))) (aNil)))))
def Balls (ball : Fn) : Prop := ∀ {u : List D}, Urn u → ∀ {n : Int}, 0 < n → n < 1073741824 → ∃ r u', 0 ≤ r ∧ r < n ∧ Urn u' ∧ ball [.lst u, .int n] = .ok (.d (.int r), u')
theorem taken_any {ball : Fn} (hb : Balls ball) {u : List D} (hu : Urn u) (its : List D) (h0 : 0 < its.length) (h1 : its.length ≤ 1000) : ∃ x u', x ∈ its ∧ Urn u' ∧ fnOf true 2 (takenB ball) [.lst u, .lst its] = .ok (.d x, u') := by
  obtain ⟨r, u', r0, r1, hu', e⟩ := hb hu (n := (its.length : Int)) (by omega) (by omega)
  obtain ⟨j, rfl⟩ : ∃ j : Nat, r = j := ⟨r.toNat, by omega⟩
  have hj : j < its.length := by omega
  refine ⟨its[j], u', List.getElem_mem hj, hu', ?_⟩
  have a : atI its (j : Int) = some its[j] := atI_nat (List.getElem?_eq_getElem hj)
  simp -implicitDefEqProofs [e, a]
theorem take {φ : Fn} {fl : F} {e : Ev} {u u' its : List D} {x : D} (h0 : e[(0 : Nat)]? = some (.par u)) (hf : fl e = .ok (.new its, e)) (h : φ [.lst u, .lst its] = .ok (.d x, u')) : fCall true φ (aCons (fVar 0) (aCons fl aNil)) e = .ok (.d x, e.set 0 (.par u')) := by
  have hv : fVar 0 e = .ok (.at_ 0, e) := by unfold fVar; rw [h0]
  show ((fVar 0 e).bind _).bind _ = _
  rw [hv]
  show (((fl e).bind _).bind _).bind _ = _
  rw [hf]
  show putL φ [.lst its] e 0 = _
  unfold putL
  rw [h0]
  show (φ [.lst u, .lst its]).bind _ = _
  rw [h]; rfl
theorem takeO {φ : Fn} {fl : F} {e e1 e2 : Ev} {u u' its : List D} {x : D} {r : TN.R} (h0 : e[(0 : Nat)]? = some (.par u)) (hf : fl e = .ok (r, e1)) (hx : fixAll e1 [r.opd] = some ([.lst its], e2)) (h2 : e2[(0 : Nat)]? = some (.par u)) (h : φ [.lst u, .lst its] = .ok (.d x, u')) : fCall true φ (aCons (fVar 0) (aCons fl aNil)) e = .ok (.d x, e2.set 0 (.par u')) := by
  have hv : fVar 0 e = .ok (.at_ 0, e) := by unfold fVar; rw [h0]
  show ((fVar 0 e).bind _).bind _ = _
  rw [hv]
  show (((fl e).bind _).bind _).bind _ = _
  rw [hf]
  show (ofO (fixAll e1 [r.opd])).bind _ = _
  rw [hx]
  show putL φ [.lst its] e2 0 = _
  unfold putL
  rw [h2]
  show (φ [.lst u, .lst its]).bind _ = _
  rw [h]; rfl
theorem for_ {fi : FI} {ga : GA} {b : S} {e e1 : Ev} {ds : List D} {x : Out (Fl × Ev)} (h : fi e = .ok (ds, e1)) (h2 : forF ga b ds e1 = x) : sFor fi ga b e = x := by
  show (fi e).bind _ = x
  rw [h]; exact h2
theorem fnil {ga : GA} {b : S} {e : Ev} : forF ga b [] e = .ok (.nx, e) := rfl
theorem fcons {ga : GA} {b : S} {d : D} {ds : List D} {e e1 e2 : Ev} {x : Out (Fl × Ev)} (h : ga d e = some e1) (h1 : b e1 = .ok (.nx, e2)) (h2 : forF ga b ds e2 = x) : forF ga b (d :: ds) e = x := by
  show (ofO (ga d e)).bind _ = x
  rw [h]
  show (b e1).bind _ = x
  rw [h1]; exact h2
def lastB : Out (Fl × Ev) → Option Sl
  | .ok (.ret (.d (.bl true)), e) => e[(0 : Nat)]?
  | _ => none
theorem lastB_is {x : Out (Fl × Ev)} {s : Sl} (h : lastB x = some s) : ∃ e, x = .ok (.ret (.d (.bl true)), e) ∧ e[(0 : Nat)]? = some s := by
  unfold lastB at h
  split at h
  · exact ⟨_, rfl, h⟩
  · cases h
theorem nxL {s t : S} {e e' : Ev} {q : Option Sl} (h : s e = .ok (.nx, e')) (h2 : lastB (t e') = q) : lastB (sCons s t e) = q := by
  rw [nx h rfl]; exact h2
theorem fn_right {n : Nat} {b : S} {u u' : List D} (hx : lastB (b (.par u :: List.replicate (n - 1) .no)) = some (.par u')) : fnOf true n b [.lst u] = .ok (.d (.bl true), u') := by
  obtain ⟨e', h, h0⟩ := lastB_is hx
  show (b (.par u :: List.replicate (n - 1) .no)).bind _ = _
  rw [h]
  show (ofO (retOf e' (.d (.bl true)))).bind (fun q => (ofO (parOf true e')).bind fun xs => Out.ok (q, xs)) = _
  unfold parOf
  rw [if_pos rfl, h0]
  rfl
theorem lst1 {f : F} {e : Ev} {y : Out (TN.R × Ev)} (h : f e = y) : fLst (aCons f aNil) e = fLst (aCons (fun _ => y) aNil) e := by
  show ((f e).bind _).bind _ = _
  rw [h]; rfl
def rp (d : D) : Str := (reprD d).getD ""
def RightE (φ : Fn) : Prop := ∀ u : List D, Urn u → ∃ u', Urn u' ∧ φ [.lst u] = .ok (.d (.bl true), u')
def PacksE (π : Fn) : Prop := ∀ (ns : List Int) (i : Nat), ∃ u, Urn u ∧ π [.scr ns, .int i] = .ok (.ls u, [])
abbrev lenMin (c : Int) : FI := fRng1 (aCons (fBi bMaxX (aCons (fC (.int 1)) (aCons (fBi bMinX (aCons (fC (.int c)) (aCons (fBi bLen (aCons (fVar 0) (aNil))) (aNil)))) (aNil)))) (aNil))
theorem lenMin_ok (ns : List Int) {c : Int} (hc : 1 ≤ c ∧ c ≤ 1000) (r : Ev) : ∃ is : List Nat, lenMin c (.val (.scr ns) :: r) = .ok (is.map fun i : Nat => D.int i, .val (.scr ns) :: r) := by
  obtain ⟨k, hk, k1⟩ : ∃ k : Int, (if (if (ns.length : Int) < c then (ns.length : Int) else c) > 1 then (if (ns.length : Int) < c then (ns.length : Int) else c) else 1) = k ∧ 1 ≤ k ∧ k ≤ 1000 := ⟨_, rfl, by split <;> split <;> omega⟩
  refine ⟨List.range k.toNat, ?_⟩
  have er : rng 0 k = (List.range k.toNat).map fun i : Nat => D.int i := by
    unfold rng
    rw [show (k - 0).toNat = k.toNat by omega]
    refine List.map_congr_left fun x _ => ?_
    simp
  have h1 : (-4611686018427387904 : Int) ≤ k := by omega
  have h2 : k < 4611686018427387904 := by omega
  have bM : ∀ a b : Int, bMaxX [.int a, .int b] = .ok (.d (.int (if b > a then b else a))) := fun _ _ => rfl
  have bm : ∀ a b : Int, bMinX [.int a, .int b] = .ok (.d (.int (if b < a then b else a))) := fun _ _ => rfl
  simp only [e_rng1, e_aCons, e_bi, e_c, e_bok, e_aNil, e_var, List.getElem?_cons_zero, e_opd1, e_da1, e_da0, e_der1, e_ofs, e_bLen3, e_r1, bM, bm, hk]
  rw [if_pos ⟨h1, h2⟩, er]
theorem cells_ok {body : S} {n : Nat} {s : Sl} (hb : ∀ (i : Nat) (r : Ev), r.length = n → ∃ r', r'.length = n ∧ body (s :: .val (.int i) :: r) = .ok (.nx, s :: .val (.int i) :: r') ) : ∀ (is : List Nat) (x : Sl) (r : Ev), r.length = n → ∃ x' r', r'.length = n ∧
    forF (gN 1) body (is.map fun i : Nat => D.int i) (s :: x :: r) = .ok (.nx, s :: x' :: r')
  | [], x, r, h => ⟨x, r, h, rfl⟩
  | i :: is, x, r, h => by
    obtain ⟨r1, h1, e1⟩ := hb i r h
    obtain ⟨x2, r2, h2, e2⟩ := cells_ok hb is (.val (.int i)) r1 h1
    refine ⟨x2, r2, h2, ?_⟩
    show (ofO (gN 1 (D.int i) (s :: x :: r))).bind _ = _
    have g : gN 1 (D.int i) (s :: x :: r) = some (s :: .val (.int i) :: r) := by
      unfold gN
      rw [if_pos (by simp)]
      rfl
    rw [g]
    show (body (s :: .val (.int i) :: r)).bind _ = _
    rw [e1]
    exact e2
theorem head_for {c : Int} (hc : 1 ≤ c ∧ c ≤ 1000) {body : S} {n : Nat} (ns : List Int) (hb : ∀ (i : Nat) (r : Ev), r.length = n → ∃ r', r'.length = n ∧ body (.val (.scr ns) :: .val (.int i) :: r) = .ok (.nx, .val (.scr ns) :: .val (.int i) :: r')) (x : Sl) (r : Ev) (h : r.length = n) :
    ∃ x' r', r'.length = n ∧ sFor (lenMin c) (gN 1) body (.val (.scr ns) :: x :: r) = .ok (.nx, .val (.scr ns) :: x' :: r') := by
  obtain ⟨is, e0⟩ := lenMin_ok ns hc (x :: r)
  obtain ⟨x', r', h', e1⟩ := cells_ok hb is x r h
  refine ⟨x', r', h', ?_⟩
  show (lenMin c (.val (.scr ns) :: x :: r)).bind _ = _
  rw [e0]
  exact e1
theorem headB {π φ ψ : Fn} (hπ : PacksE π) (hφ : RightE φ) (hψ : RightE ψ) (ns : List Int) {c : Int} (hc : 1 ≤ c ∧ c ≤ 1000) (x y : Sl) (r : Ev) : ∃ x' y' r', r'.length = r.length ∧
    sFor (lenMin c) (gN 1) (sCons (sSet 2 (fCall false π (aCons (fVar 0) (aCons (fVar 1) (aNil))))) (sIf (fOrB (fNotB (fTru (fCall true φ (aCons (fVar 2) (aNil))))) (fNotB (fTru (fCall true ψ (aCons (fVar 2) (aNil)))))) (sRet (fC (.bl false))) (sNil))) (.val (.scr ns) :: x :: y :: r) = .ok (.nx, .val (.scr ns) :: x' :: y' :: r') := by
  obtain ⟨x', rr, h, e⟩ := head_for (body := sCons (sSet 2 (fCall false π (aCons (fVar 0) (aCons (fVar 1) (aNil))))) (sIf (fOrB (fNotB (fTru (fCall true φ (aCons (fVar 2) (aNil))))) (fNotB (fTru (fCall true ψ (aCons (fVar 2) (aNil)))))) (sRet (fC (.bl false))) (sNil))) (n := r.length + 1) hc ns (fun i r0 h0 => by
    match r0, h0 with
    | y :: r0, h0 =>
      obtain ⟨u, hu, e1⟩ := hπ ns i
      obtain ⟨u1, hu1, e2⟩ := hφ u hu
      obtain ⟨u2, hu2, e3⟩ := hψ u1 hu1
      refine ⟨.own u2 :: r0, by simp only [List.length_cons] at h0 ⊢; omega, ?_⟩
      simp -implicitDefEqProofs [e1, e2, e3]) x (y :: r) (by simp)
  match rr, h with
  | y' :: r', h => exact ⟨x', y', r', by simpa using h, e⟩
end PE
namespace PE
open PySem PySem.Spec PyProof.Rows L2 TN
theorem or_ {f g : FB} {e e' : Ev} (h : f e = .ok (false, e')) : fOrB f g e = g e' := by
  show (f e).bind _ = _
  rw [h]; rfl
theorem if_ {t : FB} {a b : S} {e e' : Ev} (h : t e = .ok (false, e')) : sIf t a b e = b e' := by
  show (t e).bind _ = _
  rw [h]; rfl
end PE
namespace PE
open PySem PySem.Spec PyProof.Rows L2 TN
theorem bd_clo {i n k : Nat} {tab : Tb} {ct : Nat → Option Cd} {c : Cd} {g : FA} {e e1 e2 e3 ec : Ev} {rs : List TN.R} {ds : List D} {o : Out Unit} (h1 : e[i]? = some (.clo k)) (h2 : ct k = some c) (h3 : c.n = n) (hg : g e = .ok (rs, e1)) (hf : fixAll e1 rs = some (ds, e2)) (he : envC c.js ds e2 = ec) (h : bdFn c.φ c.g ec = .ok (o, e3)) : bdVarC i tab ct n g e = .ok (o, e2) := by
  unfold bdVarC
  rw [h1]
  simp only [h2, h3, if_true]
  show (g e).bind _ = _
  rw [hg]
  show (ofO (fixAll e1 rs)).bind _ = _
  rw [hf]
  show (match bdFn c.φ c.g (envC c.js ds e2) with
    | .ok r => Out.ok (r.1, e2)
    | _ => .no) = _
  rw [he, h]
theorem bd_varC {i n k : Nat} {tab : Tb} {ct : Nat → Option Cd} {φ : Fn} {g : FA} {e : Ev} {y : Out (Out Unit × Ev)} (h1 : e[i]? = some (.val (.cls k))) (h2 : tab k = some (n, φ)) (h : bdFn φ g e = y) : bdVarC i tab ct n g e = y := by
  unfold bdVarC
  rw [h1]
  exact bd_var h1 h2 h
theorem fnilC {i : Nat} {s : S} {e : Ev} : forC i s [] e = .ok (.nx, e) := rfl
theorem fconsC {i : Nat} {s : S} {g : Sl} {gs : List Sl} {e e1 e2 : Ev} {x : Out (Fl × Ev)} (hl : i < e.length) (h : e.set i g = e1) (h1 : s e1 = .ok (.nx, e2)) (h2 : forC i s gs e2 = x) : forC i s (g :: gs) e = x := by
  unfold forC
  rw [if_pos hl, h]
  show (s e1).bind _ = x
  rw [h1]; exact h2
end PE
namespace PE
open PySem PySem.Spec PyProof.Rows L2 TN
end PE
namespace PE
open PySem PySem.Spec PyProof.Rows L2 TN
theorem binL {op : D → D → Out R0} {fa fb : F} {e : Ev} {y : Out (TN.R × Ev)} (h : fa e = y) : fBin op fa fb e = fBin op (fun _ => y) fb e := by
  show (fa e).bind _ = y.bind _
  rw [h]
end PE
namespace PE
open PySem PySem.Spec PyProof.Rows L2 TN
theorem andV {f g : F} {e e' e'' : Ev} (h : bOf f e = .ok (true, e')) (h2 : g e' = .ok (.d (.bl true), e'')) : fAndV f g e = .ok (.d (.bl true), e'') := by
  show (bOf f e).bind _ = _
  rw [h]
  exact h2
theorem retV {f : F} {e e' : Ev} (h : f e = .ok (.d (.bl true), e')) : sRet f e = .ok (.ret (.d (.bl true)), e') := by
  show (f e).bind _ = _
  rw [h]; rfl
end PE
namespace PE
open PySem PySem.Spec PyProof.Rows L2 TN
theorem par2 {i j : Nat} {f g : F} {e e1 : Ev} {a : TN.R} {y : Out (TN.R × Ev)} (h1 : f e = .ok (a, e1)) (h2 : g e1 = y) : sPar i j f g e = sPar i j (fun _ => .ok (a, e1)) (fun _ => y) e := by
  unfold sPar
  rw [h1]
  show (g e1).bind _ = y.bind _
  rw [h2]
end PE
namespace FO
open PySem PySem.Spec PyProof.Rows L2 TN PL PE
abbrev rg (xs : List Int) : D := .tup (xs.map D.int)
def lfs (φ : Fn) : List D → Option (List D)
  | [] => some []
  | d :: ds => match φ [d] with
    | .ok (q, _) => match q.r with
      | .d y => (lfs φ ds).map (y :: ·)
      | _ => none
    | _ => none
theorem lfs_app {φ : Fn} : ∀ {as bs xs ys : List D}, lfs φ as = some xs → lfs φ bs = some ys → lfs φ (as ++ bs) = some (xs ++ ys)
  | [], bs, xs, ys, h1, h2 => by cases h1; exact h2
  | a :: as, bs, xs, ys, h1, h2 => by
    unfold lfs at h1
    split at h1
    · rename_i q e h
      split at h1
      · rename_i y hy
        obtain ⟨zs, hz, rfl⟩ := Option.map_eq_some_iff.mp h1
        show lfs φ (a :: (as ++ bs)) = _
        unfold lfs
        rw [h]
        dsimp only
        rw [hy]
        dsimp only
        rw [lfs_app hz h2]; rfl
      · cases h1
    · cases h1
theorem lcs {φ : Fn} {w : D} : ∀ {rb fb : List D} {x : Sl}, lfs φ rb = some fb → ∃ x', lcF (gN 1) bYes (fCall false φ (aCons (fVar 1) (aNil))) [1] rb [.val w, x] = .ok (fb, [.val w, x'])
  | [], fb, x, h => by cases h; exact ⟨x, rfl⟩
  | d :: rb, fb, x, h => by
    unfold lfs at h
    split at h
    · rename_i q e hq
      split at h
      · rename_i y hy
        obtain ⟨zs, hz, rfl⟩ := Option.map_eq_some_iff.mp h
        obtain ⟨x', e2⟩ := lcs (w := w) (x := .val d) hz
        refine ⟨x', ?_⟩
        have f1 : fCall false φ (aCons (fVar 1) (aNil)) [.val w, .val d] = .ok (.d y, [.val w, .val d]) := by
          show (φ [d]).bind (fun s => Out.ok (s.1.r, ([.val w, .val d] : Ev))) = _
          rw [hq]
          show Out.ok (q.r, _) = _
          rw [hy]
        show (noX (fCall false φ (aCons (fVar 1) (aNil)) [.val w, .val d])).bind _ = _
        rw [f1]
        show (lcF (gN 1) bYes (fCall false φ (aCons (fVar 1) (aNil))) [1] rb [.val w, .val d]).bind _ = _
        rw [e2]; rfl
      · cases h
    · cases h
theorem forms_lc {rb lf : Fn} {w : D} {RB FB : List D} (h : rb [w] = .ok (.ls RB, [])) (hl : lfs lf RB = some FB) (hn : RB.length ≤ 100000) : fLc (fSeq (fCall false rb (aCons (fVar 0) (aNil)))) (gN 1) (bYes) (fCall false lf (aCons (fVar 1) (aNil))) [1] [.val w, .no] = .ok (.new FB, [.val w, .no]) := by
  obtain ⟨x', e⟩ := lcs (w := w) (x := .no) hl
  have f1 : fCall false rb (aCons (fVar 0) (aNil)) [.val w, .no] = .ok (.new RB, [.val w, .no]) := by
    show (rb [w]).bind (fun s => Out.ok (s.1.r, ([.val w, .no] : Ev))) = _
    rw [h]; rfl
  have f2 : fSeq (fCall false rb (aCons (fVar 0) (aNil))) [.val w, .no] = .ok (RB, [.val w, .no]) := by
    show (fCall false rb (aCons (fVar 0) (aNil)) [.val w, .no]).bind _ = _
    rw [f1]; rfl
  show (fSeq (fCall false rb (aCons (fVar 0) (aNil))) [.val w, .no]).bind _ = _
  rw [f2]
  show (if RB.length ≤ 100000 then _ else _) = _
  rw [if_pos hn]
  show (lcF (gN 1) bYes (fCall false lf (aCons (fVar 1) (aNil))) [1] RB [.val w, .no]).bind _ = _
  rw [e]; rfl
theorem srt_ok {f : F} {e : Ev} {FB : List D} {ks : List (List Int)} (h : f e = .ok (.new FB, e)) (hk : lstOf (.lst FB) = some ks) (hn : ks.length < 1000) (hf : fewB ks = true) (ha : ks.all (fun k => !k.isEmpty) = true) : fSrtMany f e = .ok (.new ((srtT ks).map tD), e) := by
  show (f e).bind _ = _
  rw [h]
  show (ofO (lstOf (.lst FB))).bind _ = _
  rw [hk]
  show (if (ks.length < 1000 ∧ fewB ks = true) ∧ ks.all (fun k => !k.isEmpty) = true then _ else _) = _
  rw [if_pos ⟨⟨hn, hf⟩, ha⟩]
theorem tup_ok {f : F} {e : Ev} {xs : List D} (h : f e = .ok (.new xs, e)) : fBi bTuple (aCons f (aNil)) e = .ok (.d (.tup xs), e) := by
  show (((f e).bind _).bind _) = _
  rw [h]; rfl
theorem for_split {ga : GA} {s : S} : ∀ {as bs : List D} {e e1 : Ev}, forF ga s as e = .ok (.nx, e1) → forF ga s (as ++ bs) e = forF ga s bs e1
  | [], bs, e, e1, h => by cases h; rfl
  | a :: as, bs, e, e1, h => by
    show (ofO (ga a e)).bind _ = _
    have h : (ofO (ga a e)).bind _ = _ := h
    cases q : ga a e with
    | none => rw [q] at h; cases h
    | some e2 =>
      rw [q] at h
      show (s e2).bind _ = _
      have h : (s e2).bind _ = _ := h
      cases q2 : s e2 with
      | no => rw [q2] at h; cases h
      | exc c d => rw [q2] at h; cases h
      | ok p =>
        rw [q2] at h
        obtain ⟨p1, p2⟩ := p
        cases p1 with
        | ret r => cases h
        | nx => exact for_split h
theorem in2_id {a b c d e : Sl} : ∀ {ds acc : List D} {y : Sl}, acc.length + ds.length < 100000 → ∃ y', in2F (gN 5) bYes (fVar 5) [5] ds acc [a, b, c, d, e, y] = .ok (acc ++ ds, [a, b, c, d, e, y'])
  | [], acc, y, _ => ⟨y, by rw [List.append_nil]; rfl⟩
  | x :: ds, acc, y, h => by
    rw [List.length_cons] at h
    obtain ⟨y', e2⟩ := in2_id (a := a) (b := b) (c := c) (d := d) (e := e) (ds := ds) (acc := acc ++ [x]) (y := .val x) (by rw [List.length_append, List.length_singleton]; omega)
    refine ⟨y', ?_⟩
    show (if acc.length < 100000 then in2F (gN 5) bYes (fVar 5) [5] ds (acc ++ [x]) [a, b, c, d, e, .val x] else .no) = _
    rw [if_pos (by omega), e2]
    simp
abbrev Row : Type := D × List D × List D
def Good (wc lf : Fn) (n m : D) (p : Row) : Prop := wc [p.1, n, m] = .ok (.ls p.2.1, []) ∧ lfs lf p.2.1 = some p.2.2
def AllOk (wc lf : Fn) (n m : D) : List Row → Prop
  | [] => True
  | p :: ps => Good wc lf n m p ∧ AllOk wc lf n m ps
def tot : List Row → Nat
  | [] => 0
  | p :: ps => p.2.1.length + tot ps
def rbs : List Row → List D
  | [] => []
  | p :: ps => p.2.1 ++ rbs ps
def fbs : List Row → List D
  | [] => []
  | p :: ps => p.2.2 ++ fbs ps
theorem lfs_all {wc lf : Fn} {n m : D} : ∀ {ps : List Row}, AllOk wc lf n m ps → lfs lf (rbs ps) = some (fbs ps)
  | [], _ => rfl
  | p :: ps, h => lfs_app h.1.2 (lfs_all h.2)
theorem wc_out {wc lf : Fn} {w R : D} {ms : List D} {n : Int} {m : D} (hm : dIx (.lst ms) (.int n) = .ok (.d m)) : ∀ {ps : List Row} {acc : List D} {x y : Sl}, AllOk wc lf (.int n) m ps → acc.length + tot ps < 100000 →
    ∃ x' y', out2F (gN 4) bYes (fSeq (fCall false wc (aCons (fVar 4) (aCons (fVar 3) (aCons (fBin dIx (fVar 2) (fVar 3)) (aNil)))))) (gN 5) bYes (fVar 5) [4, 5] [5] (ps.map (·.1)) acc [.val w, .val R, .own ms, .val (.int n), x, y] = .ok (acc ++ rbs ps, [.val w, .val R, .own ms, .val (.int n), x', y'])
  | [], acc, x, y, _, _ => ⟨x, y, by show Out.ok (acc, _) = Out.ok (acc ++ [], _); rw [List.append_nil]⟩
  | p :: ps, acc, x, y, h, hl => by
    obtain ⟨d, rb, fb⟩ := p
    have hl : acc.length + (rb.length + tot ps) < 100000 := hl
    obtain ⟨y1, e1⟩ := in2_id (a := .val w) (b := .val R) (c := .own ms) (d := .val (.int n)) (e := .val d) (ds := rb) (acc := acc) (y := .no) (by omega)
    obtain ⟨x', y', e2⟩ := wc_out (wc := wc) (lf := lf) (w := w) (R := R) (ms := ms) hm (ps := ps) (acc := acc ++ rb) (x := .val d) (y := y1) h.2 (by rw [List.length_append]; omega)
    refine ⟨x', y', ?_⟩
    have f1 : fBin dIx (fVar 2) (fVar 3) [.val w, .val R, .own ms, .val (.int n), .val d, .no] = .ok (.d m, [.val w, .val R, .own ms, .val (.int n), .val d, .no]) := by
      show (dIx (.lst ms) (.int n)).bind _ = _
      rw [hm]; rfl
    have f2 : fCall false wc (aCons (fVar 4) (aCons (fVar 3) (aCons (fBin dIx (fVar 2) (fVar 3)) (aNil)))) [.val w, .val R, .own ms, .val (.int n), .val d, .no] = .ok (.new rb, [.val w, .val R, .own ms, .val (.int n), .val d, .no]) := by
      show ((((fBin dIx (fVar 2) (fVar 3) [.val w, .val R, .own ms, .val (.int n), .val d, .no]).bind _).bind _).bind _).bind _ = _
      rw [f1]
      show (wc [d, .int n, m]).bind _ = _
      rw [h.1.1]; rfl
    have f3 : fSeq (fCall false wc (aCons (fVar 4) (aCons (fVar 3) (aCons (fBin dIx (fVar 2) (fVar 3)) (aNil))))) [.val w, .val R, .own ms, .val (.int n), .val d, .no] = .ok (rb, [.val w, .val R, .own ms, .val (.int n), .val d, .no]) := by
      show (fCall false wc (aCons (fVar 4) (aCons (fVar 3) (aCons (fBin dIx (fVar 2) (fVar 3)) (aNil)))) [.val w, .val R, .own ms, .val (.int n), .val d, .no]).bind _ = _
      rw [f2]; rfl
    show (noX (fSeq (fCall false wc (aCons (fVar 4) (aCons (fVar 3) (aCons (fBin dIx (fVar 2) (fVar 3)) (aNil))))) [.val w, .val R, .own ms, .val (.int n), .val d, .no])).bind _ = _
    rw [f3]
    show (in2F (gN 5) bYes (fVar 5) [5] rb acc [.val w, .val R, .own ms, .val (.int n), .val d, .no]).bind _ = _
    rw [e1]
    show out2F _ _ _ _ _ _ _ _ (ps.map (·.1)) (acc ++ rb) [.val w, .val R, .own ms, .val (.int n), .val d, y1] = _
    rw [e2, List.append_assoc]
    rfl
theorem fn1 {n : Nat} {b : S} {d : D} {E0 e : Ev} {r : TN.R} {q : R0} (he : startE false n [d] = some E0) (h : b E0 = .ok (.ret r, e)) (hq : retOf e r = some q) : fnOf false n b [d] = .ok (q, []) := by
  unfold fnOf
  rw [he]
  show (b E0).bind _ = _
  rw [h]
  show (ofO (retOf e r)).bind _ = _
  rw [hq]
  rfl
theorem call1 {φ : Fn} {w : D} {q : R0} {l : List D} (h : φ [w] = .ok (q, l)) : fCall false φ (aCons (fVar 0) (aNil)) [.val w] = .ok (q.r, [.val w]) := by
  show (φ [w]).bind _ = _
  rw [h]
  rfl
theorem okB_of {α : Type} {x : Out α} {a : α} (h : x = .ok a) : okB x = true := by rw [h]; rfl
abbrev web : D := .obj 0 [.int 5, .tup [.tup [.int 0, .int 1], .tup [.int 0, .int 2]]]
def row_0 : Row := (rg [0, 3, 3, 2, 1, 0, 1, 2], [rg [0, 4, 4, 3, 3, 2, 1, 0, 1, 2], rg [0, 4, 3, 3, 4, 2, 1, 0, 1, 2], rg [0, 3, 4, 4, 3, 2, 1, 0, 1, 2], rg [0, 3, 3, 4, 4, 2, 1, 0, 1, 2], rg [0, 3, 3, 2, 4, 4, 1, 0, 1, 2], rg [0, 3, 3, 2, 1, 4, 4, 0, 1, 2], rg [0, 3, 3, 2, 1, 0, 4, 4, 1, 2], rg [0, 3, 3, 2, 1, 0, 1, 4, 4, 2], rg [0, 3, 3, 2, 1, 0, 1, 2, 4, 4]], [rg [0, 1, 2, 0, 4, 4, 3, 3, 2, 1], rg [0, 1, 2, 0, 4, 3, 3, 4, 2, 1], rg [0, 1, 2, 0, 3, 4, 4, 3, 2, 1], rg [0, 1, 2, 0, 3, 3, 4, 4, 2, 1], rg [0, 1, 2, 0, 3, 3, 2, 4, 4, 1], rg [0, 1, 2, 0, 3, 3, 2, 1, 4, 4], rg [0, 1, 2, 3, 3, 0, 2, 1, 4, 4], rg [0, 1, 2, 3, 3, 0, 2, 4, 4, 1], rg [0, 1, 2, 3, 3, 0, 4, 4, 2, 1]])
theorem row_0_ok : Good m__with_chord m_least_form_k46 (.int 4) (.int 0) row_0 := ⟨by kernel_rfl, by kernel_rfl⟩
def row_1 : Row := (rg [0, 2, 3, 3, 1, 0, 1, 2], [rg [0, 4, 4, 2, 3, 3, 1, 0, 1, 2], rg [0, 2, 4, 4, 3, 3, 1, 0, 1, 2], rg [0, 2, 4, 3, 3, 4, 1, 0, 1, 2], rg [0, 2, 3, 4, 4, 3, 1, 0, 1, 2], rg [0, 2, 3, 3, 4, 4, 1, 0, 1, 2], rg [0, 2, 3, 3, 1, 4, 4, 0, 1, 2], rg [0, 2, 3, 3, 1, 0, 4, 4, 1, 2], rg [0, 2, 3, 3, 1, 0, 1, 4, 4, 2], rg [0, 2, 3, 3, 1, 0, 1, 2, 4, 4]], [rg [0, 1, 2, 0, 4, 4, 2, 3, 3, 1], rg [0, 1, 2, 0, 2, 4, 4, 3, 3, 1], rg [0, 1, 2, 0, 2, 4, 3, 3, 4, 1], rg [0, 1, 2, 0, 2, 3, 4, 4, 3, 1], rg [0, 1, 2, 0, 2, 3, 3, 4, 4, 1], rg [0, 1, 2, 0, 2, 3, 3, 1, 4, 4], rg [0, 1, 3, 3, 2, 0, 2, 1, 4, 4], rg [0, 1, 3, 3, 2, 0, 2, 4, 4, 1], rg [0, 1, 2, 4, 4, 0, 2, 3, 3, 1]])
theorem row_1_ok : Good m__with_chord m_least_form_k46 (.int 4) (.int 0) row_1 := ⟨by kernel_rfl, by kernel_rfl⟩
def row_2 : Row := (rg [0, 2, 1, 3, 3, 0, 1, 2], [rg [0, 4, 4, 2, 1, 3, 3, 0, 1, 2], rg [0, 2, 4, 4, 1, 3, 3, 0, 1, 2], rg [0, 2, 1, 4, 4, 3, 3, 0, 1, 2], rg [0, 2, 1, 4, 3, 3, 4, 0, 1, 2], rg [0, 2, 1, 3, 4, 4, 3, 0, 1, 2], rg [0, 2, 1, 3, 3, 4, 4, 0, 1, 2], rg [0, 2, 1, 3, 3, 0, 4, 4, 1, 2], rg [0, 2, 1, 3, 3, 0, 1, 4, 4, 2], rg [0, 2, 1, 3, 3, 0, 1, 2, 4, 4]], [rg [0, 1, 2, 0, 4, 4, 2, 1, 3, 3], rg [0, 1, 2, 0, 2, 4, 4, 1, 3, 3], rg [0, 1, 2, 0, 2, 1, 4, 4, 3, 3], rg [0, 1, 2, 0, 2, 1, 4, 3, 3, 4], rg [0, 1, 2, 0, 2, 1, 3, 4, 4, 3], rg [0, 1, 2, 0, 2, 1, 3, 3, 4, 4], rg [0, 2, 1, 3, 3, 0, 4, 4, 1, 2], rg [0, 1, 4, 4, 2, 0, 2, 1, 3, 3], rg [0, 1, 2, 4, 4, 0, 2, 1, 3, 3]])
theorem row_2_ok : Good m__with_chord m_least_form_k46 (.int 4) (.int 0) row_2 := ⟨by kernel_rfl, by kernel_rfl⟩
def row_3 : Row := (rg [0, 2, 1, 0, 3, 3, 1, 2], [rg [0, 4, 4, 2, 1, 0, 3, 3, 1, 2], rg [0, 2, 4, 4, 1, 0, 3, 3, 1, 2], rg [0, 2, 1, 4, 4, 0, 3, 3, 1, 2], rg [0, 2, 1, 0, 4, 4, 3, 3, 1, 2], rg [0, 2, 1, 0, 4, 3, 3, 4, 1, 2], rg [0, 2, 1, 0, 3, 4, 4, 3, 1, 2], rg [0, 2, 1, 0, 3, 3, 4, 4, 1, 2], rg [0, 2, 1, 0, 3, 3, 1, 4, 4, 2], rg [0, 2, 1, 0, 3, 3, 1, 2, 4, 4]], [rg [0, 1, 2, 4, 4, 0, 2, 1, 3, 3], rg [0, 1, 4, 4, 2, 0, 2, 1, 3, 3], rg [0, 2, 1, 3, 3, 0, 4, 4, 1, 2], rg [0, 1, 2, 0, 2, 1, 3, 3, 4, 4], rg [0, 1, 2, 0, 2, 1, 4, 3, 3, 4], rg [0, 1, 2, 0, 2, 1, 3, 4, 4, 3], rg [0, 1, 2, 0, 2, 1, 4, 4, 3, 3], rg [0, 1, 2, 0, 2, 4, 4, 1, 3, 3], rg [0, 1, 2, 0, 4, 4, 2, 1, 3, 3]])
theorem row_3_ok : Good m__with_chord m_least_form_k46 (.int 4) (.int 0) row_3 := ⟨by kernel_rfl, by kernel_rfl⟩
def row_4 : Row := (rg [0, 2, 1, 0, 1, 3, 3, 2], [rg [0, 4, 4, 2, 1, 0, 1, 3, 3, 2], rg [0, 2, 4, 4, 1, 0, 1, 3, 3, 2], rg [0, 2, 1, 4, 4, 0, 1, 3, 3, 2], rg [0, 2, 1, 0, 4, 4, 1, 3, 3, 2], rg [0, 2, 1, 0, 1, 4, 4, 3, 3, 2], rg [0, 2, 1, 0, 1, 4, 3, 3, 4, 2], rg [0, 2, 1, 0, 1, 3, 4, 4, 3, 2], rg [0, 2, 1, 0, 1, 3, 3, 4, 4, 2], rg [0, 2, 1, 0, 1, 3, 3, 2, 4, 4]], [rg [0, 1, 2, 4, 4, 0, 2, 3, 3, 1], rg [0, 1, 3, 3, 2, 0, 2, 4, 4, 1], rg [0, 1, 3, 3, 2, 0, 2, 1, 4, 4], rg [0, 1, 2, 0, 2, 3, 3, 1, 4, 4], rg [0, 1, 2, 0, 2, 3, 3, 4, 4, 1], rg [0, 1, 2, 0, 2, 4, 3, 3, 4, 1], rg [0, 1, 2, 0, 2, 3, 4, 4, 3, 1], rg [0, 1, 2, 0, 2, 4, 4, 3, 3, 1], rg [0, 1, 2, 0, 4, 4, 2, 3, 3, 1]])
theorem row_4_ok : Good m__with_chord m_least_form_k46 (.int 4) (.int 0) row_4 := ⟨by kernel_rfl, by kernel_rfl⟩
def row_5 : Row := (rg [0, 2, 1, 0, 1, 2, 3, 3], [rg [0, 4, 4, 2, 1, 0, 1, 2, 3, 3], rg [0, 2, 4, 4, 1, 0, 1, 2, 3, 3], rg [0, 2, 1, 4, 4, 0, 1, 2, 3, 3], rg [0, 2, 1, 0, 4, 4, 1, 2, 3, 3], rg [0, 2, 1, 0, 1, 4, 4, 2, 3, 3], rg [0, 2, 1, 0, 1, 2, 4, 4, 3, 3], rg [0, 2, 1, 0, 1, 2, 4, 3, 3, 4], rg [0, 2, 1, 0, 1, 2, 3, 4, 4, 3], rg [0, 2, 1, 0, 1, 2, 3, 3, 4, 4]], [rg [0, 1, 2, 3, 3, 0, 4, 4, 2, 1], rg [0, 1, 2, 3, 3, 0, 2, 4, 4, 1], rg [0, 1, 2, 3, 3, 0, 2, 1, 4, 4], rg [0, 1, 2, 0, 3, 3, 2, 1, 4, 4], rg [0, 1, 2, 0, 3, 3, 2, 4, 4, 1], rg [0, 1, 2, 0, 3, 3, 4, 4, 2, 1], rg [0, 1, 2, 0, 4, 3, 3, 4, 2, 1], rg [0, 1, 2, 0, 3, 4, 4, 3, 2, 1], rg [0, 1, 2, 0, 4, 4, 3, 3, 2, 1]])
theorem row_5_ok : Good m__with_chord m_least_form_k46 (.int 4) (.int 0) row_5 := ⟨by kernel_rfl, by kernel_rfl⟩
def row_6 : Row := (rg [0, 3, 3, 1, 2, 0, 2, 1], [rg [0, 4, 4, 3, 3, 1, 2, 0, 2, 1], rg [0, 4, 3, 3, 4, 1, 2, 0, 2, 1], rg [0, 3, 4, 4, 3, 1, 2, 0, 2, 1], rg [0, 3, 3, 4, 4, 1, 2, 0, 2, 1], rg [0, 3, 3, 1, 4, 4, 2, 0, 2, 1], rg [0, 3, 3, 1, 2, 4, 4, 0, 2, 1], rg [0, 3, 3, 1, 2, 0, 4, 4, 2, 1], rg [0, 3, 3, 1, 2, 0, 2, 4, 4, 1], rg [0, 3, 3, 1, 2, 0, 2, 1, 4, 4]], [rg [0, 1, 2, 0, 2, 1, 3, 3, 4, 4], rg [0, 1, 2, 0, 2, 1, 4, 3, 3, 4], rg [0, 1, 2, 0, 2, 1, 3, 4, 4, 3], rg [0, 1, 2, 0, 2, 1, 4, 4, 3, 3], rg [0, 1, 2, 0, 2, 4, 4, 1, 3, 3], rg [0, 1, 2, 0, 4, 4, 2, 1, 3, 3], rg [0, 1, 2, 4, 4, 0, 2, 1, 3, 3], rg [0, 1, 4, 4, 2, 0, 2, 1, 3, 3], rg [0, 2, 1, 3, 3, 0, 4, 4, 1, 2]])
theorem row_6_ok : Good m__with_chord m_least_form_k46 (.int 4) (.int 0) row_6 := ⟨by kernel_rfl, by kernel_rfl⟩
def row_7 : Row := (rg [0, 1, 3, 3, 2, 0, 2, 1], [rg [0, 4, 4, 1, 3, 3, 2, 0, 2, 1], rg [0, 1, 4, 4, 3, 3, 2, 0, 2, 1], rg [0, 1, 4, 3, 3, 4, 2, 0, 2, 1], rg [0, 1, 3, 4, 4, 3, 2, 0, 2, 1], rg [0, 1, 3, 3, 4, 4, 2, 0, 2, 1], rg [0, 1, 3, 3, 2, 4, 4, 0, 2, 1], rg [0, 1, 3, 3, 2, 0, 4, 4, 2, 1], rg [0, 1, 3, 3, 2, 0, 2, 4, 4, 1], rg [0, 1, 3, 3, 2, 0, 2, 1, 4, 4]], [rg [0, 1, 2, 0, 2, 3, 3, 1, 4, 4], rg [0, 1, 2, 0, 2, 3, 3, 4, 4, 1], rg [0, 1, 2, 0, 2, 4, 3, 3, 4, 1], rg [0, 1, 2, 0, 2, 3, 4, 4, 3, 1], rg [0, 1, 2, 0, 2, 4, 4, 3, 3, 1], rg [0, 1, 2, 0, 4, 4, 2, 3, 3, 1], rg [0, 1, 2, 4, 4, 0, 2, 3, 3, 1], rg [0, 1, 3, 3, 2, 0, 2, 4, 4, 1], rg [0, 1, 3, 3, 2, 0, 2, 1, 4, 4]])
theorem row_7_ok : Good m__with_chord m_least_form_k46 (.int 4) (.int 0) row_7 := ⟨by kernel_rfl, by kernel_rfl⟩
def row_8 : Row := (rg [0, 1, 2, 3, 3, 0, 2, 1], [rg [0, 4, 4, 1, 2, 3, 3, 0, 2, 1], rg [0, 1, 4, 4, 2, 3, 3, 0, 2, 1], rg [0, 1, 2, 4, 4, 3, 3, 0, 2, 1], rg [0, 1, 2, 4, 3, 3, 4, 0, 2, 1], rg [0, 1, 2, 3, 4, 4, 3, 0, 2, 1], rg [0, 1, 2, 3, 3, 4, 4, 0, 2, 1], rg [0, 1, 2, 3, 3, 0, 4, 4, 2, 1], rg [0, 1, 2, 3, 3, 0, 2, 4, 4, 1], rg [0, 1, 2, 3, 3, 0, 2, 1, 4, 4]], [rg [0, 1, 2, 0, 3, 3, 2, 1, 4, 4], rg [0, 1, 2, 0, 3, 3, 2, 4, 4, 1], rg [0, 1, 2, 0, 3, 3, 4, 4, 2, 1], rg [0, 1, 2, 0, 4, 3, 3, 4, 2, 1], rg [0, 1, 2, 0, 3, 4, 4, 3, 2, 1], rg [0, 1, 2, 0, 4, 4, 3, 3, 2, 1], rg [0, 1, 2, 3, 3, 0, 4, 4, 2, 1], rg [0, 1, 2, 3, 3, 0, 2, 4, 4, 1], rg [0, 1, 2, 3, 3, 0, 2, 1, 4, 4]])
theorem row_8_ok : Good m__with_chord m_least_form_k46 (.int 4) (.int 0) row_8 := ⟨by kernel_rfl, by kernel_rfl⟩
def row_9 : Row := (rg [0, 1, 2, 0, 3, 3, 2, 1], [rg [0, 4, 4, 1, 2, 0, 3, 3, 2, 1], rg [0, 1, 4, 4, 2, 0, 3, 3, 2, 1], rg [0, 1, 2, 4, 4, 0, 3, 3, 2, 1], rg [0, 1, 2, 0, 4, 4, 3, 3, 2, 1], rg [0, 1, 2, 0, 4, 3, 3, 4, 2, 1], rg [0, 1, 2, 0, 3, 4, 4, 3, 2, 1], rg [0, 1, 2, 0, 3, 3, 4, 4, 2, 1], rg [0, 1, 2, 0, 3, 3, 2, 4, 4, 1], rg [0, 1, 2, 0, 3, 3, 2, 1, 4, 4]], [rg [0, 1, 2, 3, 3, 0, 2, 1, 4, 4], rg [0, 1, 2, 3, 3, 0, 2, 4, 4, 1], rg [0, 1, 2, 3, 3, 0, 4, 4, 2, 1], rg [0, 1, 2, 0, 4, 4, 3, 3, 2, 1], rg [0, 1, 2, 0, 4, 3, 3, 4, 2, 1], rg [0, 1, 2, 0, 3, 4, 4, 3, 2, 1], rg [0, 1, 2, 0, 3, 3, 4, 4, 2, 1], rg [0, 1, 2, 0, 3, 3, 2, 4, 4, 1], rg [0, 1, 2, 0, 3, 3, 2, 1, 4, 4]])
theorem row_9_ok : Good m__with_chord m_least_form_k46 (.int 4) (.int 0) row_9 := ⟨by kernel_rfl, by kernel_rfl⟩
def row_10 : Row := (rg [0, 1, 2, 0, 2, 3, 3, 1], [rg [0, 4, 4, 1, 2, 0, 2, 3, 3, 1], rg [0, 1, 4, 4, 2, 0, 2, 3, 3, 1], rg [0, 1, 2, 4, 4, 0, 2, 3, 3, 1], rg [0, 1, 2, 0, 4, 4, 2, 3, 3, 1], rg [0, 1, 2, 0, 2, 4, 4, 3, 3, 1], rg [0, 1, 2, 0, 2, 4, 3, 3, 4, 1], rg [0, 1, 2, 0, 2, 3, 4, 4, 3, 1], rg [0, 1, 2, 0, 2, 3, 3, 4, 4, 1], rg [0, 1, 2, 0, 2, 3, 3, 1, 4, 4]], [rg [0, 1, 3, 3, 2, 0, 2, 1, 4, 4], rg [0, 1, 3, 3, 2, 0, 2, 4, 4, 1], rg [0, 1, 2, 4, 4, 0, 2, 3, 3, 1], rg [0, 1, 2, 0, 4, 4, 2, 3, 3, 1], rg [0, 1, 2, 0, 2, 4, 4, 3, 3, 1], rg [0, 1, 2, 0, 2, 4, 3, 3, 4, 1], rg [0, 1, 2, 0, 2, 3, 4, 4, 3, 1], rg [0, 1, 2, 0, 2, 3, 3, 4, 4, 1], rg [0, 1, 2, 0, 2, 3, 3, 1, 4, 4]])
theorem row_10_ok : Good m__with_chord m_least_form_k46 (.int 4) (.int 0) row_10 := ⟨by kernel_rfl, by kernel_rfl⟩
def row_11 : Row := (rg [0, 1, 2, 0, 2, 1, 3, 3], [rg [0, 4, 4, 1, 2, 0, 2, 1, 3, 3], rg [0, 1, 4, 4, 2, 0, 2, 1, 3, 3], rg [0, 1, 2, 4, 4, 0, 2, 1, 3, 3], rg [0, 1, 2, 0, 4, 4, 2, 1, 3, 3], rg [0, 1, 2, 0, 2, 4, 4, 1, 3, 3], rg [0, 1, 2, 0, 2, 1, 4, 4, 3, 3], rg [0, 1, 2, 0, 2, 1, 4, 3, 3, 4], rg [0, 1, 2, 0, 2, 1, 3, 4, 4, 3], rg [0, 1, 2, 0, 2, 1, 3, 3, 4, 4]], [rg [0, 2, 1, 3, 3, 0, 4, 4, 1, 2], rg [0, 1, 4, 4, 2, 0, 2, 1, 3, 3], rg [0, 1, 2, 4, 4, 0, 2, 1, 3, 3], rg [0, 1, 2, 0, 4, 4, 2, 1, 3, 3], rg [0, 1, 2, 0, 2, 4, 4, 1, 3, 3], rg [0, 1, 2, 0, 2, 1, 4, 4, 3, 3], rg [0, 1, 2, 0, 2, 1, 4, 3, 3, 4], rg [0, 1, 2, 0, 2, 1, 3, 4, 4, 3], rg [0, 1, 2, 0, 2, 1, 3, 3, 4, 4]])
theorem row_11_ok : Good m__with_chord m_least_form_k46 (.int 4) (.int 0) row_11 := ⟨by kernel_rfl, by kernel_rfl⟩
def rows : List Row := [row_0, row_1, row_2, row_3, row_4, row_5, row_6, row_7, row_8, row_9, row_10, row_11]
theorem rows_ok : AllOk m__with_chord m_least_form_k46 (.int 4) (.int 0) rows := show AllOk _ _ _ _ [row_0, row_1, row_2, row_3, row_4, row_5, row_6, row_7, row_8, row_9, row_10, row_11] from ⟨row_0_ok, ⟨row_1_ok, ⟨row_2_ok, ⟨row_3_ok, ⟨row_4_ok, ⟨row_5_ok, ⟨row_6_ok, ⟨row_7_ok, ⟨row_8_ok, ⟨row_9_ok, ⟨row_10_ok, ⟨row_11_ok, trivial⟩⟩⟩⟩⟩⟩⟩⟩⟩⟩⟩⟩
abbrev bodyR : S := sSet 1 (fLc2 (fSeq (fVar 1)) (gN 4) (bYes) (fSeq (fCall false m__with_chord (aCons (fVar 4) (aCons (fVar 3) (aCons (fBin dIx (fVar 2) (fVar 3)) (aNil)))))) (gN 5) (bYes) (fVar 5) [4, 5] [5])
abbrev E1 : Ev := [.val web, .own [rg [0, 0]], .own [.int 6, .int 1, .int 1, .int 0, .int 0], .no, .no, .no]
abbrev EE (xs : List D) (n : Int) : Ev := [.val web, .own xs, .own [.int 6, .int 1, .int 1, .int 0, .int 0], .val (.int n), .no, .no]
theorem last_gen {ps : List Row} (h : AllOk m__with_chord m_least_form_k46 (.int 4) (.int 0) ps) (ht : tot ps < 100000) : bodyR (EE (ps.map (·.1)) 4) = .ok (.nx, EE (rbs ps) 4) := by
  obtain ⟨x, y, e⟩ := wc_out (w := web) (R := .lst (ps.map (·.1))) (ms := [.int 6, .int 1, .int 1, .int 0, .int 0]) (n := 4) (m := .int 0) (by kernel_rfl) (ps := ps) (acc := []) (x := .no) (y := .no) h (by simpa using ht)
  have f : (fLc2 (fSeq (fVar 1)) (gN 4) (bYes) (fSeq (fCall false m__with_chord (aCons (fVar 4) (aCons (fVar 3) (aCons (fBin dIx (fVar 2) (fVar 3)) (aNil)))))) (gN 5) (bYes) (fVar 5) [4, 5] [5]) (EE (ps.map (·.1)) 4) = .ok (.new (rbs ps), [.val web, .val (.lst (ps.map (·.1))), .own [.int 6, .int 1, .int 1, .int 0, .int 0], .val (.int 4), .no, .no]) := by
    generalize ps.map (·.1) = R at e ⊢
    generalize rbs ps = B at e ⊢
    show (out2F (gN 4) bYes (fSeq (fCall false m__with_chord (aCons (fVar 4) (aCons (fVar 3) (aCons (fBin dIx (fVar 2) (fVar 3)) (aNil)))))) (gN 5) bYes (fVar 5) [4, 5] [5] R [] [.val web, .val (.lst R), .own [.int 6, .int 1, .int 1, .int 0, .int 0], .val (.int 4), .no, .no]).bind _ = _
    rw [e]
    rfl
  exact (set_ f).trans rfl
theorem rings_gen {R B : List D} (h3 : forF (gN 3) bodyR [.int 1, .int 2, .int 3] E1 = .ok (.nx, EE R 3)) (h4 : bodyR (EE R 4) = .ok (.nx, EE B 4)) : m_rings_begun [web] = .ok (.ls B, []) := by
  have h : b_rings_begun [.val web, .no, .no, .no, .no, .no] = .ok (.ret (.at_ 1), EE B 4) := by
    refine nx (e' := E1) (by kernel_rfl) (nx (e' := EE B 4) (for_ (ds := [.int 1, .int 2, .int 3] ++ [.int 4]) (e1 := E1) (by kernel_rfl) ?_) rfl)
    rw [for_split h3]
    exact fcons (e1 := EE R 4) (e2 := EE B 4) rfl h4 fnil
  exact fn1 (n := 6) (b := b_rings_begun) (E0 := [.val web, .no, .no, .no, .no, .no]) rfl h rfl
theorem forms_gen {RB FB : List D} {ks : List (List Int)} (hr : m_rings_begun [web] = .ok (.ls RB, [])) (hl : lfs m_least_form_k46 RB = some FB) (hn : RB.length ≤ 100000) (hk : lstOf (.lst FB) = some ks) (h1 : ks.length < 1000) (hf : fewB ks = true) (ha : ks.all (fun k => !k.isEmpty) = true) : okB (m_forms_of_k46 [web]) = true := by
  have f := tup_ok (srt_ok (forms_lc hr hl hn) hk h1 hf ha)
  have h : b_forms_of_k46 [.val web, .no] = .ok (.ret (.d (.tup ((srtT ks).map tD))), [.val web, .no]) := nx (e' := [.val web, .no]) (by kernel_rfl) (nx (e' := [.val web, .no]) (by kernel_rfl) ((ret_ f).trans rfl))
  exact okB_of (fn1 (n := 2) (b := b_forms_of_k46) (E0 := [.val web, .no]) rfl h rfl)
theorem three : forF (gN 3) bodyR [.int 1, .int 2, .int 3] E1 = .ok (.nx, EE (rows.map (·.1)) 3) := by kernel_rfl
def keys : List (List Int) := [[0, 1, 2, 0, 4, 4, 3, 3, 2, 1], [0, 1, 2, 0, 4, 3, 3, 4, 2, 1], [0, 1, 2, 0, 3, 4, 4, 3, 2, 1], [0, 1, 2, 0, 3, 3, 4, 4, 2, 1], [0, 1, 2, 0, 3, 3, 2, 4, 4, 1], [0, 1, 2, 0, 3, 3, 2, 1, 4, 4], [0, 1, 2, 3, 3, 0, 2, 1, 4, 4], [0, 1, 2, 3, 3, 0, 2, 4, 4, 1], [0, 1, 2, 3, 3, 0, 4, 4, 2, 1], [0, 1, 2, 0, 4, 4, 2, 3, 3, 1], [0, 1, 2, 0, 2, 4, 4, 3, 3, 1], [0, 1, 2, 0, 2, 4, 3, 3, 4, 1], [0, 1, 2, 0, 2, 3, 4, 4, 3, 1], [0, 1, 2, 0, 2, 3, 3, 4, 4, 1], [0, 1, 2, 0, 2, 3, 3, 1, 4, 4], [0, 1, 3, 3, 2, 0, 2, 1, 4, 4], [0, 1, 3, 3, 2, 0, 2, 4, 4, 1], [0, 1, 2, 4, 4, 0, 2, 3, 3, 1], [0, 1, 2, 0, 4, 4, 2, 1, 3, 3], [0, 1, 2, 0, 2, 4, 4, 1, 3, 3], [0, 1, 2, 0, 2, 1, 4, 4, 3, 3], [0, 1, 2, 0, 2, 1, 4, 3, 3, 4], [0, 1, 2, 0, 2, 1, 3, 4, 4, 3], [0, 1, 2, 0, 2, 1, 3, 3, 4, 4], [0, 2, 1, 3, 3, 0, 4, 4, 1, 2], [0, 1, 4, 4, 2, 0, 2, 1, 3, 3], [0, 1, 2, 4, 4, 0, 2, 1, 3, 3], [0, 1, 2, 4, 4, 0, 2, 1, 3, 3], [0, 1, 4, 4, 2, 0, 2, 1, 3, 3], [0, 2, 1, 3, 3, 0, 4, 4, 1, 2], [0, 1, 2, 0, 2, 1, 3, 3, 4, 4], [0, 1, 2, 0, 2, 1, 4, 3, 3, 4], [0, 1, 2, 0, 2, 1, 3, 4, 4, 3], [0, 1, 2, 0, 2, 1, 4, 4, 3, 3], [0, 1, 2, 0, 2, 4, 4, 1, 3, 3], [0, 1, 2, 0, 4, 4, 2, 1, 3, 3], [0, 1, 2, 4, 4, 0, 2, 3, 3, 1], [0, 1, 3, 3, 2, 0, 2, 4, 4, 1], [0, 1, 3, 3, 2, 0, 2, 1, 4, 4], [0, 1, 2, 0, 2, 3, 3, 1, 4, 4], [0, 1, 2, 0, 2, 3, 3, 4, 4, 1], [0, 1, 2, 0, 2, 4, 3, 3, 4, 1], [0, 1, 2, 0, 2, 3, 4, 4, 3, 1], [0, 1, 2, 0, 2, 4, 4, 3, 3, 1], [0, 1, 2, 0, 4, 4, 2, 3, 3, 1], [0, 1, 2, 3, 3, 0, 4, 4, 2, 1], [0, 1, 2, 3, 3, 0, 2, 4, 4, 1], [0, 1, 2, 3, 3, 0, 2, 1, 4, 4], [0, 1, 2, 0, 3, 3, 2, 1, 4, 4], [0, 1, 2, 0, 3, 3, 2, 4, 4, 1], [0, 1, 2, 0, 3, 3, 4, 4, 2, 1], [0, 1, 2, 0, 4, 3, 3, 4, 2, 1], [0, 1, 2, 0, 3, 4, 4, 3, 2, 1], [0, 1, 2, 0, 4, 4, 3, 3, 2, 1], [0, 1, 2, 0, 2, 1, 3, 3, 4, 4], [0, 1, 2, 0, 2, 1, 4, 3, 3, 4], [0, 1, 2, 0, 2, 1, 3, 4, 4, 3], [0, 1, 2, 0, 2, 1, 4, 4, 3, 3], [0, 1, 2, 0, 2, 4, 4, 1, 3, 3], [0, 1, 2, 0, 4, 4, 2, 1, 3, 3], [0, 1, 2, 4, 4, 0, 2, 1, 3, 3], [0, 1, 4, 4, 2, 0, 2, 1, 3, 3], [0, 2, 1, 3, 3, 0, 4, 4, 1, 2], [0, 1, 2, 0, 2, 3, 3, 1, 4, 4], [0, 1, 2, 0, 2, 3, 3, 4, 4, 1], [0, 1, 2, 0, 2, 4, 3, 3, 4, 1], [0, 1, 2, 0, 2, 3, 4, 4, 3, 1], [0, 1, 2, 0, 2, 4, 4, 3, 3, 1], [0, 1, 2, 0, 4, 4, 2, 3, 3, 1], [0, 1, 2, 4, 4, 0, 2, 3, 3, 1], [0, 1, 3, 3, 2, 0, 2, 4, 4, 1], [0, 1, 3, 3, 2, 0, 2, 1, 4, 4], [0, 1, 2, 0, 3, 3, 2, 1, 4, 4], [0, 1, 2, 0, 3, 3, 2, 4, 4, 1], [0, 1, 2, 0, 3, 3, 4, 4, 2, 1], [0, 1, 2, 0, 4, 3, 3, 4, 2, 1], [0, 1, 2, 0, 3, 4, 4, 3, 2, 1], [0, 1, 2, 0, 4, 4, 3, 3, 2, 1], [0, 1, 2, 3, 3, 0, 4, 4, 2, 1], [0, 1, 2, 3, 3, 0, 2, 4, 4, 1], [0, 1, 2, 3, 3, 0, 2, 1, 4, 4], [0, 1, 2, 3, 3, 0, 2, 1, 4, 4], [0, 1, 2, 3, 3, 0, 2, 4, 4, 1], [0, 1, 2, 3, 3, 0, 4, 4, 2, 1], [0, 1, 2, 0, 4, 4, 3, 3, 2, 1], [0, 1, 2, 0, 4, 3, 3, 4, 2, 1], [0, 1, 2, 0, 3, 4, 4, 3, 2, 1], [0, 1, 2, 0, 3, 3, 4, 4, 2, 1], [0, 1, 2, 0, 3, 3, 2, 4, 4, 1], [0, 1, 2, 0, 3, 3, 2, 1, 4, 4], [0, 1, 3, 3, 2, 0, 2, 1, 4, 4], [0, 1, 3, 3, 2, 0, 2, 4, 4, 1], [0, 1, 2, 4, 4, 0, 2, 3, 3, 1], [0, 1, 2, 0, 4, 4, 2, 3, 3, 1], [0, 1, 2, 0, 2, 4, 4, 3, 3, 1], [0, 1, 2, 0, 2, 4, 3, 3, 4, 1], [0, 1, 2, 0, 2, 3, 4, 4, 3, 1], [0, 1, 2, 0, 2, 3, 3, 4, 4, 1], [0, 1, 2, 0, 2, 3, 3, 1, 4, 4], [0, 2, 1, 3, 3, 0, 4, 4, 1, 2], [0, 1, 4, 4, 2, 0, 2, 1, 3, 3], [0, 1, 2, 4, 4, 0, 2, 1, 3, 3], [0, 1, 2, 0, 4, 4, 2, 1, 3, 3], [0, 1, 2, 0, 2, 4, 4, 1, 3, 3], [0, 1, 2, 0, 2, 1, 4, 4, 3, 3], [0, 1, 2, 0, 2, 1, 4, 3, 3, 4], [0, 1, 2, 0, 2, 1, 3, 4, 4, 3], [0, 1, 2, 0, 2, 1, 3, 3, 4, 4]]
theorem keys_ok : lstOf (.lst (fbs rows)) = some keys := by kernel_rfl
theorem few_ok : fewB keys = true := by kernel_rfl
theorem tot_ok : tot rows < 100000 := by decide +kernel
theorem len_ok : (rbs rows).length ≤ 100000 := by decide +kernel
theorem forms_ok : okB (m_forms_of_k46 [web]) = true := forms_gen (rings_gen three (last_gen rows_ok tot_ok)) (lfs_all rows_ok) len_ok keys_ok (by decide +kernel) few_ok (by decide +kernel)
theorem rings_of_ok : okB (m_rings_of [web]) = true := by
  obtain ⟨⟨q, l⟩, h⟩ := okB_is forms_ok
  have f := call1 h
  have hb : b_rings_of [.val web] = .ok (.ret q.r, [.val web]) := (ret_ f).trans rfl
  cases q with
  | d x => exact okB_of (fn1 (n := 1) (b := b_rings_of) (E0 := [.val web]) rfl hb rfl)
  | tp x => exact okB_of (fn1 (n := 1) (b := b_rings_of) (E0 := [.val web]) rfl hb rfl)
  | ls x => exact okB_of (fn1 (n := 1) (b := b_rings_of) (E0 := [.val web]) rfl hb rfl)
end FO
namespace ME_k46
open PySem PySem.Spec PyProof.Rows L2 TN PL PE
theorem bitsA : Builtin.Int.intBits (10 : Int) * (54 : Int) ≤ 2 ^ 27 := by decide +kernel
theorem bitsC : Builtin.Int.intBits (10 : Int) * (16 : Int) ≤ 2 ^ 27 := by decide +kernel
theorem bitsB : Builtin.Int.intBits (10 : Int) * (58 : Int) ≤ 2 ^ 27 := by decide +kernel
theorem powers : ∃ p p2 q r : Int, gPow 10 54 = some (.int p) ∧ gPow 10 58 = some (.int p2) ∧ gMulW p p2 = some (.int q) ∧ gPow 10 16 = some (.int r) ∧ 0 < q := by
  refine ⟨(10 : Int) ^ (54 : Int).toNat, (10 : Int) ^ (58 : Int).toNat, (10 : Int) ^ (54 : Int).toNat * (10 : Int) ^ (58 : Int).toNat, (10 : Int) ^ (16 : Int).toNat, ?_, ?_, ?_, ?_, by decide +kernel⟩
  · unfold gPow; rw [if_pos ⟨by decide, bitsA⟩]
  · unfold gPow; rw [if_pos ⟨by decide, bitsB⟩]
  · unfold gMulW; rw [if_pos ⟨by decide +kernel, by decide +kernel⟩]
  · unfold gPow; rw [if_pos ⟨by decide, bitsC⟩]
theorem pack_ok : PacksE m__law_jar := by
  intro ns i
  obtain ⟨p, p2, q, r, h1, h1b, h2, h3, h4⟩ := powers
  by_cases h : i < ns.length
  · have : atI ns (i : Int) = some ns[i] := atI_nat (List.getElem?_eq_getElem h)
    simp -implicitDefEqProofs [m__law_jar, b__law_jar, this, h, h1, h1b, h2, h3, h4, e_gmod, e_gmulM, e_gmulL, e_gmulR, Urn]
  · simp -implicitDefEqProofs [m__law_jar, b__law_jar, h, h1, h1b, h2, h3, h4, e_gmod, e_gmulM, e_gmulL, e_gmulR, Urn]
theorem ball_ok : Balls m__law_pull := by
  intro u hu n h0 h1
  obtain ⟨a, b, c, rfl⟩ := hu
  have q := Int.emod_nonneg a (show n ≠ 0 by omega)
  have q2 := Int.emod_lt_of_pos a h0
  by_cases ha : 0 < a
  · refine ⟨a % n, _, q, q2, ⟨a / n, b, c, rfl⟩, ?_⟩
    simp -implicitDefEqProofs [m__law_pull, b__law_pull, ha, e_gmod, h0, h1, e_gdiv, ixN]
  · simp -implicitDefEqProofs [m__law_pull, b__law_pull, ha, e_gmod, h0, h1, e_gdiv, e_gmulM, e_gmulL, e_gmulR, ixN]
    exact ⟨_, Int.emod_nonneg _ (by omega), Int.emod_lt_of_pos _ h0, ⟨a, b, c + 1, rfl⟩, rfl⟩
theorem f0 (v1 : D) (h_v1 : v1 = .non ∨ v1 = .int 0 ∨ v1 = .tup [] ∨ v1 = .tup [.int 0, .int 1] ∨ v1 = .tup [.int 0, .int 0, .int 1] ∨ v1 = .lst [.int 0, .int 0] ∨ v1 = .str "00" ∨ v1 = .tup [.int 0, .int 0, .int 0, .int 1] ∨ v1 = .tup [.int 1, .int 1] ∨ v1 = .tup [.int 0, .bl true, .int 0, .int 1] ∨ v1 = .dct ∨ v1 = .tup [.int 0, .int 0, .int 2, .int 2]) (v2 : D) : m_is_cut [v1, v2] = .exc 1 .non := by
  rcases h_v1 with rfl | rfl | rfl | rfl | rfl | rfl | rfl | rfl | rfl | rfl | rfl | rfl <;>
  kernel_rfl
theorem f1 (v2 : D) (h_v2 : v2 = .non ∨ v2 = .int 0 ∨ v2 = .tup [.int 0, .int 1, .int 2] ∨ v2 = .tup [.int 0, .int 1, .int 2, .int 4] ∨ v2 = .lst [.int 0, .int 0, .int 0, .int 0] ∨ v2 = .tup [.int 0, .int 0, .int 0, .int 5] ∨ v2 = .tup [.int (-1), .int 0, .int 0, .int 0] ∨ v2 = .tup [.int 1, .int 0, .int 1, .int 1] ∨ v2 = .tup [.int 0, .int 0, .bl true, .int 4] ∨ v2 = .str "0000") : okB (m_is_cut [.tup [.int 0, .int 1, .int 0, .int 1], v2]) = true := by
  rcases h_v2 with rfl | rfl | rfl | rfl | rfl | rfl | rfl | rfl | rfl | rfl <;>
  kernel_rfl
theorem f2 (v1 : D) (h_v1 : v1 = .non ∨ v1 = .int 0 ∨ v1 = .tup [] ∨ v1 = .tup [.int 0, .int 1] ∨ v1 = .tup [.int 0, .int 0, .int 1] ∨ v1 = .lst [.int 0, .int 0] ∨ v1 = .str "00" ∨ v1 = .tup [.int 0, .int 0, .int 0, .int 1] ∨ v1 = .tup [.int 1, .int 1] ∨ v1 = .tup [.int 0, .bl true, .int 0, .int 1] ∨ v1 = .dct ∨ v1 = .tup [.int 0, .int 0, .int 2, .int 2]) : m_cuts [v1] = .exc 1 .non := by
  rcases h_v1 with rfl | rfl | rfl | rfl | rfl | rfl | rfl | rfl | rfl | rfl | rfl | rfl <;>
  kernel_rfl
theorem f3 (v1 : D) (h_v1 : v1 = .non ∨ v1 = .int 0 ∨ v1 = .tup [] ∨ v1 = .tup [.int 0, .int 1] ∨ v1 = .tup [.int 0, .int 0, .int 1] ∨ v1 = .lst [.int 0, .int 0] ∨ v1 = .str "00" ∨ v1 = .tup [.int 0, .int 0, .int 0, .int 1] ∨ v1 = .tup [.int 1, .int 1] ∨ v1 = .tup [.int 0, .bl true, .int 0, .int 1] ∨ v1 = .dct ∨ v1 = .tup [.int 0, .int 0, .int 2, .int 2]) (v2 : D) : m_share_of [v1, v2] = .exc 1 .non := by
  rcases h_v1 with rfl | rfl | rfl | rfl | rfl | rfl | rfl | rfl | rfl | rfl | rfl | rfl <;>
  kernel_rfl
theorem f4 (v2 : D) (h_v2 : v2 = .non ∨ v2 = .int 0 ∨ v2 = .tup [.int 0, .int 1, .int 2] ∨ v2 = .tup [.int 0, .int 1, .int 2, .int 4] ∨ v2 = .lst [.int 0, .int 0, .int 0, .int 0] ∨ v2 = .tup [.int 0, .int 0, .int 0, .int 5] ∨ v2 = .tup [.int (-1), .int 0, .int 0, .int 0] ∨ v2 = .tup [.int 1, .int 0, .int 1, .int 1] ∨ v2 = .tup [.int 0, .int 0, .bl true, .int 4] ∨ v2 = .str "0000") : m_share_of [.tup [.int 0, .int 1, .int 0, .int 1], v2] = .exc 2 .non := by
  rcases h_v2 with rfl | rfl | rfl | rfl | rfl | rfl | rfl | rfl | rfl | rfl <;>
  kernel_rfl
theorem f5  : okB (m_share_of [.tup [.int 0, .int 1, .int 0, .int 1], .tup [.int 0, .int 4, .int 4, .int 4]]) = true := by
  kernel_rfl
theorem f6 (v1 : D) (h_v1 : v1 = .non ∨ v1 = .int 0 ∨ v1 = .tup [] ∨ v1 = .tup [.int 0, .int 1] ∨ v1 = .tup [.int 0, .int 0, .int 1] ∨ v1 = .lst [.int 0, .int 0] ∨ v1 = .str "00" ∨ v1 = .tup [.int 0, .int 0, .int 0, .int 1] ∨ v1 = .tup [.int 1, .int 1] ∨ v1 = .tup [.int 0, .bl true, .int 0, .int 1] ∨ v1 = .dct ∨ v1 = .tup [.int 0, .int 0, .int 2, .int 2]) (v2 : D) (v3 : D) : m_flipped [v1, v2, v3] = .exc 1 .non := by
  rcases h_v1 with rfl | rfl | rfl | rfl | rfl | rfl | rfl | rfl | rfl | rfl | rfl | rfl <;>
  kernel_rfl
theorem f7 (v2 : D) (h_v2 : v2 = .non ∨ v2 = .int 0 ∨ v2 = .tup [.int 0, .int 1, .int 2] ∨ v2 = .tup [.int 0, .int 1, .int 2, .int 4] ∨ v2 = .lst [.int 0, .int 0, .int 0, .int 0] ∨ v2 = .tup [.int 0, .int 0, .int 0, .int 5] ∨ v2 = .tup [.int (-1), .int 0, .int 0, .int 0] ∨ v2 = .tup [.int 1, .int 0, .int 1, .int 1] ∨ v2 = .tup [.int 0, .int 0, .bl true, .int 4] ∨ v2 = .str "0000") (v3 : D) : m_flipped [.tup [.int 0, .int 1, .int 0, .int 1], v2, v3] = .exc 2 .non := by
  rcases h_v2 with rfl | rfl | rfl | rfl | rfl | rfl | rfl | rfl | rfl | rfl <;>
  kernel_rfl
theorem f8 (v3 : D) (h_v3 : v3 = .non ∨ v3 = .str "" ∨ v3 = .str "Reverse" ∨ v3 = .int 0 ∨ v3 = .tup [.str "both"] ∨ v3 = .lst [.str "exchange"] ∨ v3 = .bl true) : m_flipped [.tup [.int 0, .int 1, .int 0, .int 1], .tup [.int 0, .int 1, .int 2, .int 3], v3] = .exc 2 .non := by
  rcases h_v3 with rfl | rfl | rfl | rfl | rfl | rfl | rfl <;>
  kernel_rfl
theorem f9  : okB (m_flipped [.tup [.int 0, .int 1, .int 0, .int 1], .tup [.int 0, .int 1, .int 2, .int 3], .str "both"]) = true := by
  kernel_rfl
theorem f10 (v4 : D) (h_v4 : v4 = .non ∨ v4 = .int 0 ∨ v4 = .tup [] ∨ v4 = .tup [.int 3, .tup []] ∨ v4 = .str "web" ∨ v4 = .dct ∨ v4 = .lst [.obj 0 [.int 1, .tup []]]) : m_rings_of [v4] = .exc 0 .non := by
  rcases h_v4 with rfl | rfl | rfl | rfl | rfl | rfl | rfl <;>
  kernel_rfl
theorem f11  : m_rings_of [.obj 0 [.int 6, .tup []]] = .exc 4 (.int 5) := by
  kernel_rfl
theorem f12 (v1 : D) (h_v1 : v1 = .non ∨ v1 = .int 0 ∨ v1 = .tup [] ∨ v1 = .tup [.int 0, .int 1] ∨ v1 = .tup [.int 0, .int 0, .int 1] ∨ v1 = .lst [.int 0, .int 0] ∨ v1 = .str "00" ∨ v1 = .tup [.int 0, .int 0, .int 0, .int 1] ∨ v1 = .tup [.int 1, .int 1] ∨ v1 = .tup [.int 0, .bl true, .int 0, .int 1] ∨ v1 = .dct ∨ v1 = .tup [.int 0, .int 0, .int 2, .int 2]) : m_flips_or_pair [v1, v1] = .exc 1 .non := by
  rcases h_v1 with rfl | rfl | rfl | rfl | rfl | rfl | rfl | rfl | rfl | rfl | rfl | rfl <;>
  kernel_rfl
theorem f13 (v1 : D) (h_v1 : v1 = .non ∨ v1 = .int 0 ∨ v1 = .tup [] ∨ v1 = .tup [.int 0, .int 1] ∨ v1 = .tup [.int 0, .int 0, .int 1] ∨ v1 = .lst [.int 0, .int 0] ∨ v1 = .str "00" ∨ v1 = .tup [.int 0, .int 0, .int 0, .int 1] ∨ v1 = .tup [.int 1, .int 1] ∨ v1 = .tup [.int 0, .bl true, .int 0, .int 1] ∨ v1 = .dct ∨ v1 = .tup [.int 0, .int 0, .int 2, .int 2]) : m_flips_or_pair [.tup [.int 0, .int 1, .int 0, .int 1], v1] = .exc 1 .non := by
  rcases h_v1 with rfl | rfl | rfl | rfl | rfl | rfl | rfl | rfl | rfl | rfl | rfl | rfl <;>
  kernel_rfl
theorem f14  : m_flips_or_pair [.tup [.int 0, .int 1, .int 0, .int 1], .tup [.int 0, .int 0, .int 1, .int 1, .int 2, .int 2]] = .exc 2 .non := by
  kernel_rfl
theorem f15  : m_flips_or_pair [.tup [.int 0, .int 0, .int 1, .int 1, .int 2, .int 2, .int 3, .int 3, .int 4, .int 4, .int 5, .int 5], .tup [.int 0, .int 1, .int 0, .int 1]] = .exc 2 .non := by
  kernel_rfl
theorem f16  : m_flips_or_pair [.tup [.int 0, .int 0, .int 1, .int 1, .int 2, .int 2, .int 3, .int 3, .int 4, .int 4, .int 5, .int 5], .tup [.int 0, .int 0, .int 1, .int 1, .int 2, .int 2, .int 3, .int 3, .int 4, .int 4, .int 5, .int 5]] = .exc 4 (.int 5) := by
  kernel_rfl
theorem f17  : okB (m_flips_or_pair [.tup [.int 0, .int 1, .int 0, .int 1], .tup [.int 0, .int 1, .int 0, .int 1]]) = true := by
  kernel_rfl
theorem f18 (v1 : D) (h_v1 : v1 = .non ∨ v1 = .int 0 ∨ v1 = .tup [] ∨ v1 = .tup [.int 0, .int 1] ∨ v1 = .tup [.int 0, .int 0, .int 1] ∨ v1 = .lst [.int 0, .int 0] ∨ v1 = .str "00" ∨ v1 = .tup [.int 0, .int 0, .int 0, .int 1] ∨ v1 = .tup [.int 1, .int 1] ∨ v1 = .tup [.int 0, .bl true, .int 0, .int 1] ∨ v1 = .dct ∨ v1 = .tup [.int 0, .int 0, .int 2, .int 2]) (v5 : D) : m_is_flips_or_pair [v1, v1, v5] = .exc 1 .non := by
  rcases h_v1 with rfl | rfl | rfl | rfl | rfl | rfl | rfl | rfl | rfl | rfl | rfl | rfl <;>
  kernel_rfl
theorem f19 (v1 : D) (h_v1 : v1 = .non ∨ v1 = .int 0 ∨ v1 = .tup [] ∨ v1 = .tup [.int 0, .int 1] ∨ v1 = .tup [.int 0, .int 0, .int 1] ∨ v1 = .lst [.int 0, .int 0] ∨ v1 = .str "00" ∨ v1 = .tup [.int 0, .int 0, .int 0, .int 1] ∨ v1 = .tup [.int 1, .int 1] ∨ v1 = .tup [.int 0, .bl true, .int 0, .int 1] ∨ v1 = .dct ∨ v1 = .tup [.int 0, .int 0, .int 2, .int 2]) (v5 : D) : m_is_flips_or_pair [.tup [.int 0, .int 1, .int 0, .int 1], v1, v5] = .exc 1 .non := by
  rcases h_v1 with rfl | rfl | rfl | rfl | rfl | rfl | rfl | rfl | rfl | rfl | rfl | rfl <;>
  kernel_rfl
theorem f20 (v5 : D) : m_is_flips_or_pair [.tup [.int 0, .int 1, .int 0, .int 1], .tup [.int 0, .int 0, .int 1, .int 1, .int 2, .int 2], v5] = .exc 2 .non := by
  kernel_rfl
theorem f21 (v5 : D) : m_is_flips_or_pair [.tup [.int 0, .int 0, .int 1, .int 1, .int 2, .int 2, .int 3, .int 3, .int 4, .int 4, .int 5, .int 5], .tup [.int 0, .int 1, .int 0, .int 1], v5] = .exc 2 .non := by
  kernel_rfl
theorem f22 (v5 : D) (h_v5 : v5 = .non ∨ v5 = .tup [] ∨ v5 = .tup [.str "flips"] ∨ v5 = .tup [.str "pair", .int 0] ∨ v5 = .int 3 ∨ v5 = .str "pair" ∨ v5 = .dct ∨ v5 = .tup [.str "flips", .int 0]) : m_is_flips_or_pair [.tup [.int 0, .int 0, .int 1, .int 1, .int 2, .int 2, .int 3, .int 3, .int 4, .int 4, .int 5, .int 5], .tup [.int 0, .int 0, .int 1, .int 1, .int 2, .int 2, .int 3, .int 3, .int 4, .int 4, .int 5, .int 5], v5] = .exc 4 (.int 5) := by
  rcases h_v5 with rfl | rfl | rfl | rfl | rfl | rfl | rfl | rfl <;>
  kernel_rfl
theorem f23 (v5 : D) (h_v5 : v5 = .non ∨ v5 = .tup [] ∨ v5 = .tup [.str "flips"] ∨ v5 = .tup [.str "pair", .int 0] ∨ v5 = .int 3 ∨ v5 = .str "pair" ∨ v5 = .dct ∨ v5 = .tup [.str "flips", .int 0]) : okB (m_is_flips_or_pair [.tup [.int 0, .int 1, .int 0, .int 1], .tup [.int 0, .int 1, .int 0, .int 1], v5]) = true := by
  rcases h_v5 with rfl | rfl | rfl | rfl | rfl | rfl | rfl | rfl <;>
  kernel_rfl
set_option maxHeartbeats 0 in
theorem right__law_right : RightE m__law_right_k46 := by
  intro u0 hu0
  obtain ⟨v1, u1, h_v1, hu1, ed1⟩ := taken_any ball_ok hu0 [.non, .int 0, .tup [], .tup [.int 0, .int 1], .tup [.int 0, .int 0, .int 1], .lst [.int 0, .int 0], .str "00", .tup [.int 0, .int 0, .int 0, .int 1], .tup [.int 1, .int 1], .tup [.int 0, .bl true, .int 0, .int 1], .dct, .tup [.int 0, .int 0, .int 2, .int 2]] (by decide) (by decide)
  simp only [List.mem_cons, List.not_mem_nil, or_false] at h_v1
  obtain ⟨v2, u2, h_v2, hu2, ed2⟩ := taken_any ball_ok hu1 [.non, .int 0, .tup [.int 0, .int 1, .int 2], .tup [.int 0, .int 1, .int 2, .int 4], .lst [.int 0, .int 0, .int 0, .int 0], .tup [.int 0, .int 0, .int 0, .int 5], .tup [.int (-1), .int 0, .int 0, .int 0], .tup [.int 1, .int 0, .int 1, .int 1], .tup [.int 0, .int 0, .bl true, .int 4], .str "0000"] (by decide) (by decide)
  simp only [List.mem_cons, List.not_mem_nil, or_false] at h_v2
  obtain ⟨v3, u3, h_v3, hu3, ed3⟩ := taken_any ball_ok hu2 [.non, .str "", .str "Reverse", .int 0, .tup [.str "both"], .lst [.str "exchange"], .bl true] (by decide) (by decide)
  simp only [List.mem_cons, List.not_mem_nil, or_false] at h_v3
  obtain ⟨v4, u4, h_v4, hu4, ed4⟩ := taken_any ball_ok hu3 [.non, .int 0, .tup [], .tup [.int 3, .tup []], .str "web", .dct, .lst [.obj 0 [.int 1, .tup []]]] (by decide) (by decide)
  simp only [List.mem_cons, List.not_mem_nil, or_false] at h_v4
  obtain ⟨v5, u5, h_v5, hu5, ed5⟩ := taken_any ball_ok hu4 [.non, .tup [], .tup [.str "flips"], .tup [.str "pair", .int 0], .int 3, .str "pair", .dct, .tup [.str "flips", .int 0]] (by decide) (by decide)
  simp only [List.mem_cons, List.not_mem_nil, or_false] at h_v5
  refine ⟨u5, hu5, fn_right (n := 12) ?_⟩
  refine nxL (e' := [.par u0, .own [.non, .int 0, .tup [], .tup [.int 0, .int 1], .tup [.int 0, .int 0, .int 1], .lst [.int 0, .int 0], .str "00", .tup [.int 0, .int 0, .int 0, .int 1], .tup [.int 1, .int 1], .tup [.int 0, .bl true, .int 0, .int 1], .dct, .tup [.int 0, .int 0, .int 2, .int 2]], .no, .no, .no, .no, .no, .no, .no, .no, .no, .no]) (by kernel_rfl) ?_
  refine nxL (e' := [.par u0, .own [.non, .int 0, .tup [], .tup [.int 0, .int 1], .tup [.int 0, .int 0, .int 1], .lst [.int 0, .int 0], .str "00", .tup [.int 0, .int 0, .int 0, .int 1], .tup [.int 1, .int 1], .tup [.int 0, .bl true, .int 0, .int 1], .dct, .tup [.int 0, .int 0, .int 2, .int 2]], .own [.non, .int 0, .tup [.int 0, .int 1, .int 2], .tup [.int 0, .int 1, .int 2, .int 4], .lst [.int 0, .int 0, .int 0, .int 0], .tup [.int 0, .int 0, .int 0, .int 5], .tup [.int (-1), .int 0, .int 0, .int 0], .tup [.int 1, .int 0, .int 1, .int 1], .tup [.int 0, .int 0, .bl true, .int 4]], .no, .no, .no, .no, .no, .no, .no, .no, .no]) (by kernel_rfl) ?_
  refine nxL (e' := [.par u2, .val v1, .val v2, .no, .no, .no, .no, .no, .no, .no, .no, .no]) (Eq.trans (par2 (a := .d v1) (e1 := [.par u1, .val (.lst [.non, .int 0, .tup [], .tup [.int 0, .int 1], .tup [.int 0, .int 0, .int 1], .lst [.int 0, .int 0], .str "00", .tup [.int 0, .int 0, .int 0, .int 1], .tup [.int 1, .int 1], .tup [.int 0, .bl true, .int 0, .int 1], .dct, .tup [.int 0, .int 0, .int 2, .int 2]]), .own [.non, .int 0, .tup [.int 0, .int 1, .int 2], .tup [.int 0, .int 1, .int 2, .int 4], .lst [.int 0, .int 0, .int 0, .int 0], .tup [.int 0, .int 0, .int 0, .int 5], .tup [.int (-1), .int 0, .int 0, .int 0], .tup [.int 1, .int 0, .int 1, .int 1], .tup [.int 0, .int 0, .bl true, .int 4]], .no, .no, .no, .no, .no, .no, .no, .no, .no]) (takeO (its := [.non, .int 0, .tup [], .tup [.int 0, .int 1], .tup [.int 0, .int 0, .int 1], .lst [.int 0, .int 0], .str "00", .tup [.int 0, .int 0, .int 0, .int 1], .tup [.int 1, .int 1], .tup [.int 0, .bl true, .int 0, .int 1], .dct, .tup [.int 0, .int 0, .int 2, .int 2]]) (e1 := [.par u0, .own [.non, .int 0, .tup [], .tup [.int 0, .int 1], .tup [.int 0, .int 0, .int 1], .lst [.int 0, .int 0], .str "00", .tup [.int 0, .int 0, .int 0, .int 1], .tup [.int 1, .int 1], .tup [.int 0, .bl true, .int 0, .int 1], .dct, .tup [.int 0, .int 0, .int 2, .int 2]], .own [.non, .int 0, .tup [.int 0, .int 1, .int 2], .tup [.int 0, .int 1, .int 2, .int 4], .lst [.int 0, .int 0, .int 0, .int 0], .tup [.int 0, .int 0, .int 0, .int 5], .tup [.int (-1), .int 0, .int 0, .int 0], .tup [.int 1, .int 0, .int 1, .int 1], .tup [.int 0, .int 0, .bl true, .int 4]], .no, .no, .no, .no, .no, .no, .no, .no, .no]) (e2 := [.par u0, .val (.lst [.non, .int 0, .tup [], .tup [.int 0, .int 1], .tup [.int 0, .int 0, .int 1], .lst [.int 0, .int 0], .str "00", .tup [.int 0, .int 0, .int 0, .int 1], .tup [.int 1, .int 1], .tup [.int 0, .bl true, .int 0, .int 1], .dct, .tup [.int 0, .int 0, .int 2, .int 2]]), .own [.non, .int 0, .tup [.int 0, .int 1, .int 2], .tup [.int 0, .int 1, .int 2, .int 4], .lst [.int 0, .int 0, .int 0, .int 0], .tup [.int 0, .int 0, .int 0, .int 5], .tup [.int (-1), .int 0, .int 0, .int 0], .tup [.int 1, .int 0, .int 1, .int 1], .tup [.int 0, .int 0, .bl true, .int 4]], .no, .no, .no, .no, .no, .no, .no, .no, .no]) (by rfl) (by rfl) (by kernel_rfl) (by rfl) ed1) (take (its := [.non, .int 0, .tup [.int 0, .int 1, .int 2], .tup [.int 0, .int 1, .int 2, .int 4], .lst [.int 0, .int 0, .int 0, .int 0], .tup [.int 0, .int 0, .int 0, .int 5], .tup [.int (-1), .int 0, .int 0, .int 0], .tup [.int 1, .int 0, .int 1, .int 1], .tup [.int 0, .int 0, .bl true, .int 4], .str "0000"]) (by rfl) (by kernel_rfl) ed2)) (by kernel_rfl)) ?_
  refine nxL (e' := [.par u3, .val v1, .val v2, .val v3, .no, .no, .no, .no, .no, .no, .no, .no]) (Eq.trans (set_ (take (its := [.non, .str "", .str "Reverse", .int 0, .tup [.str "both"], .lst [.str "exchange"], .bl true]) (by rfl) (by kernel_rfl) ed3)) (by kernel_rfl)) ?_
  refine nxL (e' := [.par u4, .val v1, .val v2, .val v3, .val v4, .no, .no, .no, .no, .no, .no, .no]) (Eq.trans (set_ (take (its := [.non, .int 0, .tup [], .tup [.int 3, .tup []], .str "web", .dct, .lst [.obj 0 [.int 1, .tup []]]]) (by rfl) (by kernel_rfl) ed4)) (by kernel_rfl)) ?_
  refine nxL (e' := [.par u4, .val v1, .val v2, .val v3, .val v4, .val (.tup [.int 0, .int 1, .int 0, .int 1]), .val (.tup [.int 0, .int 0, .int 1, .int 1, .int 2, .int 2]), .val (.tup [.int 0, .int 0, .int 1, .int 1, .int 2, .int 2, .int 3, .int 3, .int 4, .int 4, .int 5, .int 5]), .no, .no, .no, .no]) (by kernel_rfl) ?_
  refine nxL (e' := [.par u5, .val v1, .val v2, .val v3, .val v4, .val (.tup [.int 0, .int 1, .int 0, .int 1]), .val (.tup [.int 0, .int 0, .int 1, .int 1, .int 2, .int 2]), .val (.tup [.int 0, .int 0, .int 1, .int 1, .int 2, .int 2, .int 3, .int 3, .int 4, .int 4, .int 5, .int 5]), .val v5, .no, .no, .no]) (Eq.trans (set_ (take (its := [.non, .tup [], .tup [.str "flips"], .tup [.str "pair", .int 0], .int 3, .str "pair", .dct, .tup [.str "flips", .int 0]]) (by rfl) (by kernel_rfl) ed5)) (by kernel_rfl)) ?_
  refine nxL (e' := [.par u5, .val v1, .val v2, .val v3, .val v4, .val (.tup [.int 0, .int 1, .int 0, .int 1]), .val (.tup [.int 0, .int 0, .int 1, .int 1, .int 2, .int 2]), .val (.tup [.int 0, .int 0, .int 1, .int 1, .int 2, .int 2, .int 3, .int 3, .int 4, .int 4, .int 5, .int 5]), .val v5, .own [.str "ring"], .no, .no]) (Eq.trans (set_ (lst1 (met_exc (r := .str "ring") (fn_exc (ds := [v1, v2]) (rs := [.d v1, .d v2]) (e1 := [.par u5, .val v1, .val v2, .val v3, .val v4, .val (.tup [.int 0, .int 1, .int 0, .int 1]), .val (.tup [.int 0, .int 0, .int 1, .int 1, .int 2, .int 2]), .val (.tup [.int 0, .int 0, .int 1, .int 1, .int 2, .int 2, .int 3, .int 3, .int 4, .int 4, .int 5, .int 5]), .val v5, .no, .no, .no]) (e2 := [.par u5, .val v1, .val v2, .val v3, .val v4, .val (.tup [.int 0, .int 1, .int 0, .int 1]), .val (.tup [.int 0, .int 0, .int 1, .int 1, .int 2, .int 2]), .val (.tup [.int 0, .int 0, .int 1, .int 1, .int 2, .int 2, .int 3, .int 3, .int 4, .int 4, .int 5, .int 5]), .val v5, .no, .no, .no]) (by kernel_rfl) (by kernel_rfl) (by exact f0 v1 h_v1 v2)) rfl))) (by kernel_rfl)) ?_
  refine nxL (e' := [.par u5, .val v1, .val v2, .val v3, .val v4, .val (.tup [.int 0, .int 1, .int 0, .int 1]), .val (.tup [.int 0, .int 0, .int 1, .int 1, .int 2, .int 2]), .val (.tup [.int 0, .int 0, .int 1, .int 1, .int 2, .int 2, .int 3, .int 3, .int 4, .int 4, .int 5, .int 5]), .val v5, .own [.str "ring", .str "fine"], .no, .no]) (Eq.trans (app (met_ok (fn_ok (ds := [.tup [.int 0, .int 1, .int 0, .int 1], v2]) (rs := [.d (.tup [.int 0, .int 1, .int 0, .int 1]), .d v2]) (e1 := [.par u5, .val v1, .val v2, .val v3, .val v4, .val (.tup [.int 0, .int 1, .int 0, .int 1]), .val (.tup [.int 0, .int 0, .int 1, .int 1, .int 2, .int 2]), .val (.tup [.int 0, .int 0, .int 1, .int 1, .int 2, .int 2, .int 3, .int 3, .int 4, .int 4, .int 5, .int 5]), .val v5, .own [.str "ring"], .no, .no]) (e2 := [.par u5, .val v1, .val v2, .val v3, .val v4, .val (.tup [.int 0, .int 1, .int 0, .int 1]), .val (.tup [.int 0, .int 0, .int 1, .int 1, .int 2, .int 2]), .val (.tup [.int 0, .int 0, .int 1, .int 1, .int 2, .int 2, .int 3, .int 3, .int 4, .int 4, .int 5, .int 5]), .val v5, .own [.str "ring"], .no, .no]) (by kernel_rfl) (by kernel_rfl) (by exact f1 v2 h_v2)))) (by kernel_rfl)) ?_
  refine nxL (e' := [.par u5, .val v1, .val v2, .val v3, .val v4, .val (.tup [.int 0, .int 1, .int 0, .int 1]), .val (.tup [.int 0, .int 0, .int 1, .int 1, .int 2, .int 2]), .val (.tup [.int 0, .int 0, .int 1, .int 1, .int 2, .int 2, .int 3, .int 3, .int 4, .int 4, .int 5, .int 5]), .val v5, .own [.str "ring", .str "fine", .str "ring"], .no, .no]) (Eq.trans (app (met_exc (r := .str "ring") (fn_exc (ds := [v1]) (rs := [.d v1]) (e1 := [.par u5, .val v1, .val v2, .val v3, .val v4, .val (.tup [.int 0, .int 1, .int 0, .int 1]), .val (.tup [.int 0, .int 0, .int 1, .int 1, .int 2, .int 2]), .val (.tup [.int 0, .int 0, .int 1, .int 1, .int 2, .int 2, .int 3, .int 3, .int 4, .int 4, .int 5, .int 5]), .val v5, .own [.str "ring", .str "fine"], .no, .no]) (e2 := [.par u5, .val v1, .val v2, .val v3, .val v4, .val (.tup [.int 0, .int 1, .int 0, .int 1]), .val (.tup [.int 0, .int 0, .int 1, .int 1, .int 2, .int 2]), .val (.tup [.int 0, .int 0, .int 1, .int 1, .int 2, .int 2, .int 3, .int 3, .int 4, .int 4, .int 5, .int 5]), .val v5, .own [.str "ring", .str "fine"], .no, .no]) (by kernel_rfl) (by kernel_rfl) (by exact f2 v1 h_v1)) rfl)) (by kernel_rfl)) ?_
  refine nxL (e' := [.par u5, .val v1, .val v2, .val v3, .val v4, .val (.tup [.int 0, .int 1, .int 0, .int 1]), .val (.tup [.int 0, .int 0, .int 1, .int 1, .int 2, .int 2]), .val (.tup [.int 0, .int 0, .int 1, .int 1, .int 2, .int 2, .int 3, .int 3, .int 4, .int 4, .int 5, .int 5]), .val v5, .own [.str "ring", .str "fine", .str "ring", .str "ring"], .no, .no]) (Eq.trans (app (met_exc (r := .str "ring") (fn_exc (ds := [v1, v2]) (rs := [.d v1, .d v2]) (e1 := [.par u5, .val v1, .val v2, .val v3, .val v4, .val (.tup [.int 0, .int 1, .int 0, .int 1]), .val (.tup [.int 0, .int 0, .int 1, .int 1, .int 2, .int 2]), .val (.tup [.int 0, .int 0, .int 1, .int 1, .int 2, .int 2, .int 3, .int 3, .int 4, .int 4, .int 5, .int 5]), .val v5, .own [.str "ring", .str "fine", .str "ring"], .no, .no]) (e2 := [.par u5, .val v1, .val v2, .val v3, .val v4, .val (.tup [.int 0, .int 1, .int 0, .int 1]), .val (.tup [.int 0, .int 0, .int 1, .int 1, .int 2, .int 2]), .val (.tup [.int 0, .int 0, .int 1, .int 1, .int 2, .int 2, .int 3, .int 3, .int 4, .int 4, .int 5, .int 5]), .val v5, .own [.str "ring", .str "fine", .str "ring"], .no, .no]) (by kernel_rfl) (by kernel_rfl) (by exact f3 v1 h_v1 v2)) rfl)) (by kernel_rfl)) ?_
  refine nxL (e' := [.par u5, .val v1, .val v2, .val v3, .val v4, .val (.tup [.int 0, .int 1, .int 0, .int 1]), .val (.tup [.int 0, .int 0, .int 1, .int 1, .int 2, .int 2]), .val (.tup [.int 0, .int 0, .int 1, .int 1, .int 2, .int 2, .int 3, .int 3, .int 4, .int 4, .int 5, .int 5]), .val v5, .own [.str "ring", .str "fine", .str "ring", .str "ring", .str "operation"], .no, .no]) (Eq.trans (app (met_exc (r := .str "operation") (fn_exc (ds := [.tup [.int 0, .int 1, .int 0, .int 1], v2]) (rs := [.d (.tup [.int 0, .int 1, .int 0, .int 1]), .d v2]) (e1 := [.par u5, .val v1, .val v2, .val v3, .val v4, .val (.tup [.int 0, .int 1, .int 0, .int 1]), .val (.tup [.int 0, .int 0, .int 1, .int 1, .int 2, .int 2]), .val (.tup [.int 0, .int 0, .int 1, .int 1, .int 2, .int 2, .int 3, .int 3, .int 4, .int 4, .int 5, .int 5]), .val v5, .own [.str "ring", .str "fine", .str "ring", .str "ring"], .no, .no]) (e2 := [.par u5, .val v1, .val v2, .val v3, .val v4, .val (.tup [.int 0, .int 1, .int 0, .int 1]), .val (.tup [.int 0, .int 0, .int 1, .int 1, .int 2, .int 2]), .val (.tup [.int 0, .int 0, .int 1, .int 1, .int 2, .int 2, .int 3, .int 3, .int 4, .int 4, .int 5, .int 5]), .val v5, .own [.str "ring", .str "fine", .str "ring", .str "ring"], .no, .no]) (by kernel_rfl) (by kernel_rfl) (by exact f4 v2 h_v2)) rfl)) (by kernel_rfl)) ?_
  refine nxL (e' := [.par u5, .val v1, .val v2, .val v3, .val v4, .val (.tup [.int 0, .int 1, .int 0, .int 1]), .val (.tup [.int 0, .int 0, .int 1, .int 1, .int 2, .int 2]), .val (.tup [.int 0, .int 0, .int 1, .int 1, .int 2, .int 2, .int 3, .int 3, .int 4, .int 4, .int 5, .int 5]), .val v5, .own [.str "ring", .str "fine", .str "ring", .str "ring", .str "operation", .str "fine"], .no, .no]) (Eq.trans (app (met_ok (fn_ok (ds := [.tup [.int 0, .int 1, .int 0, .int 1], .tup [.int 0, .int 4, .int 4, .int 4]]) (rs := [.d (.tup [.int 0, .int 1, .int 0, .int 1]), .d (.tup [.int 0, .int 4, .int 4, .int 4])]) (e1 := [.par u5, .val v1, .val v2, .val v3, .val v4, .val (.tup [.int 0, .int 1, .int 0, .int 1]), .val (.tup [.int 0, .int 0, .int 1, .int 1, .int 2, .int 2]), .val (.tup [.int 0, .int 0, .int 1, .int 1, .int 2, .int 2, .int 3, .int 3, .int 4, .int 4, .int 5, .int 5]), .val v5, .own [.str "ring", .str "fine", .str "ring", .str "ring", .str "operation"], .no, .no]) (e2 := [.par u5, .val v1, .val v2, .val v3, .val v4, .val (.tup [.int 0, .int 1, .int 0, .int 1]), .val (.tup [.int 0, .int 0, .int 1, .int 1, .int 2, .int 2]), .val (.tup [.int 0, .int 0, .int 1, .int 1, .int 2, .int 2, .int 3, .int 3, .int 4, .int 4, .int 5, .int 5]), .val v5, .own [.str "ring", .str "fine", .str "ring", .str "ring", .str "operation"], .no, .no]) (by kernel_rfl) (by kernel_rfl) (by exact f5)))) (by kernel_rfl)) ?_
  refine nxL (e' := [.par u5, .val v1, .val v2, .val v3, .val v4, .val (.tup [.int 0, .int 1, .int 0, .int 1]), .val (.tup [.int 0, .int 0, .int 1, .int 1, .int 2, .int 2]), .val (.tup [.int 0, .int 0, .int 1, .int 1, .int 2, .int 2, .int 3, .int 3, .int 4, .int 4, .int 5, .int 5]), .val v5, .own [.str "ring", .str "fine", .str "ring", .str "ring", .str "operation", .str "fine"], .own [.str "ring", .str "fine", .str "ring", .str "ring", .str "operation", .str "fine"], .no]) (by kernel_rfl) ?_
  refine nxL (e' := [.par u5, .val v1, .val v2, .val v3, .val v4, .val (.tup [.int 0, .int 1, .int 0, .int 1]), .val (.tup [.int 0, .int 0, .int 1, .int 1, .int 2, .int 2]), .val (.tup [.int 0, .int 0, .int 1, .int 1, .int 2, .int 2, .int 3, .int 3, .int 4, .int 4, .int 5, .int 5]), .val v5, .own [.str "ring", .str "fine", .str "ring", .str "ring", .str "operation", .str "fine", .str "ring"], .own [.str "ring", .str "fine", .str "ring", .str "ring", .str "operation", .str "fine"], .no]) (Eq.trans (app (met_exc (r := .str "ring") (fn_exc (ds := [v1, v2, v3]) (rs := [.d v1, .d v2, .d v3]) (e1 := [.par u5, .val v1, .val v2, .val v3, .val v4, .val (.tup [.int 0, .int 1, .int 0, .int 1]), .val (.tup [.int 0, .int 0, .int 1, .int 1, .int 2, .int 2]), .val (.tup [.int 0, .int 0, .int 1, .int 1, .int 2, .int 2, .int 3, .int 3, .int 4, .int 4, .int 5, .int 5]), .val v5, .own [.str "ring", .str "fine", .str "ring", .str "ring", .str "operation", .str "fine"], .own [.str "ring", .str "fine", .str "ring", .str "ring", .str "operation", .str "fine"], .no]) (e2 := [.par u5, .val v1, .val v2, .val v3, .val v4, .val (.tup [.int 0, .int 1, .int 0, .int 1]), .val (.tup [.int 0, .int 0, .int 1, .int 1, .int 2, .int 2]), .val (.tup [.int 0, .int 0, .int 1, .int 1, .int 2, .int 2, .int 3, .int 3, .int 4, .int 4, .int 5, .int 5]), .val v5, .own [.str "ring", .str "fine", .str "ring", .str "ring", .str "operation", .str "fine"], .own [.str "ring", .str "fine", .str "ring", .str "ring", .str "operation", .str "fine"], .no]) (by kernel_rfl) (by kernel_rfl) (by exact f6 v1 h_v1 v2 v3)) rfl)) (by kernel_rfl)) ?_
  refine nxL (e' := [.par u5, .val v1, .val v2, .val v3, .val v4, .val (.tup [.int 0, .int 1, .int 0, .int 1]), .val (.tup [.int 0, .int 0, .int 1, .int 1, .int 2, .int 2]), .val (.tup [.int 0, .int 0, .int 1, .int 1, .int 2, .int 2, .int 3, .int 3, .int 4, .int 4, .int 5, .int 5]), .val v5, .own [.str "ring", .str "fine", .str "ring", .str "ring", .str "operation", .str "fine", .str "ring", .str "operation"], .own [.str "ring", .str "fine", .str "ring", .str "ring", .str "operation", .str "fine"], .no]) (Eq.trans (app (met_exc (r := .str "operation") (fn_exc (ds := [.tup [.int 0, .int 1, .int 0, .int 1], v2, v3]) (rs := [.d (.tup [.int 0, .int 1, .int 0, .int 1]), .d v2, .d v3]) (e1 := [.par u5, .val v1, .val v2, .val v3, .val v4, .val (.tup [.int 0, .int 1, .int 0, .int 1]), .val (.tup [.int 0, .int 0, .int 1, .int 1, .int 2, .int 2]), .val (.tup [.int 0, .int 0, .int 1, .int 1, .int 2, .int 2, .int 3, .int 3, .int 4, .int 4, .int 5, .int 5]), .val v5, .own [.str "ring", .str "fine", .str "ring", .str "ring", .str "operation", .str "fine", .str "ring"], .own [.str "ring", .str "fine", .str "ring", .str "ring", .str "operation", .str "fine"], .no]) (e2 := [.par u5, .val v1, .val v2, .val v3, .val v4, .val (.tup [.int 0, .int 1, .int 0, .int 1]), .val (.tup [.int 0, .int 0, .int 1, .int 1, .int 2, .int 2]), .val (.tup [.int 0, .int 0, .int 1, .int 1, .int 2, .int 2, .int 3, .int 3, .int 4, .int 4, .int 5, .int 5]), .val v5, .own [.str "ring", .str "fine", .str "ring", .str "ring", .str "operation", .str "fine", .str "ring"], .own [.str "ring", .str "fine", .str "ring", .str "ring", .str "operation", .str "fine"], .no]) (by kernel_rfl) (by kernel_rfl) (by exact f7 v2 h_v2 v3)) rfl)) (by kernel_rfl)) ?_
  refine nxL (e' := [.par u5, .val v1, .val v2, .val v3, .val v4, .val (.tup [.int 0, .int 1, .int 0, .int 1]), .val (.tup [.int 0, .int 0, .int 1, .int 1, .int 2, .int 2]), .val (.tup [.int 0, .int 0, .int 1, .int 1, .int 2, .int 2, .int 3, .int 3, .int 4, .int 4, .int 5, .int 5]), .val v5, .own [.str "ring", .str "fine", .str "ring", .str "ring", .str "operation", .str "fine", .str "ring", .str "operation", .str "operation"], .own [.str "ring", .str "fine", .str "ring", .str "ring", .str "operation", .str "fine"], .no]) (Eq.trans (app (met_exc (r := .str "operation") (fn_exc (ds := [.tup [.int 0, .int 1, .int 0, .int 1], .tup [.int 0, .int 1, .int 2, .int 3], v3]) (rs := [.d (.tup [.int 0, .int 1, .int 0, .int 1]), .d (.tup [.int 0, .int 1, .int 2, .int 3]), .d v3]) (e1 := [.par u5, .val v1, .val v2, .val v3, .val v4, .val (.tup [.int 0, .int 1, .int 0, .int 1]), .val (.tup [.int 0, .int 0, .int 1, .int 1, .int 2, .int 2]), .val (.tup [.int 0, .int 0, .int 1, .int 1, .int 2, .int 2, .int 3, .int 3, .int 4, .int 4, .int 5, .int 5]), .val v5, .own [.str "ring", .str "fine", .str "ring", .str "ring", .str "operation", .str "fine", .str "ring", .str "operation"], .own [.str "ring", .str "fine", .str "ring", .str "ring", .str "operation", .str "fine"], .no]) (e2 := [.par u5, .val v1, .val v2, .val v3, .val v4, .val (.tup [.int 0, .int 1, .int 0, .int 1]), .val (.tup [.int 0, .int 0, .int 1, .int 1, .int 2, .int 2]), .val (.tup [.int 0, .int 0, .int 1, .int 1, .int 2, .int 2, .int 3, .int 3, .int 4, .int 4, .int 5, .int 5]), .val v5, .own [.str "ring", .str "fine", .str "ring", .str "ring", .str "operation", .str "fine", .str "ring", .str "operation"], .own [.str "ring", .str "fine", .str "ring", .str "ring", .str "operation", .str "fine"], .no]) (by kernel_rfl) (by kernel_rfl) (by exact f8 v3 h_v3)) rfl)) (by kernel_rfl)) ?_
  refine nxL (e' := [.par u5, .val v1, .val v2, .val v3, .val v4, .val (.tup [.int 0, .int 1, .int 0, .int 1]), .val (.tup [.int 0, .int 0, .int 1, .int 1, .int 2, .int 2]), .val (.tup [.int 0, .int 0, .int 1, .int 1, .int 2, .int 2, .int 3, .int 3, .int 4, .int 4, .int 5, .int 5]), .val v5, .own [.str "ring", .str "fine", .str "ring", .str "ring", .str "operation", .str "fine", .str "ring", .str "operation", .str "operation", .str "fine"], .own [.str "ring", .str "fine", .str "ring", .str "ring", .str "operation", .str "fine"], .no]) (Eq.trans (app (met_ok (fn_ok (ds := [.tup [.int 0, .int 1, .int 0, .int 1], .tup [.int 0, .int 1, .int 2, .int 3], .str "both"]) (rs := [.d (.tup [.int 0, .int 1, .int 0, .int 1]), .d (.tup [.int 0, .int 1, .int 2, .int 3]), .d (.str "both")]) (e1 := [.par u5, .val v1, .val v2, .val v3, .val v4, .val (.tup [.int 0, .int 1, .int 0, .int 1]), .val (.tup [.int 0, .int 0, .int 1, .int 1, .int 2, .int 2]), .val (.tup [.int 0, .int 0, .int 1, .int 1, .int 2, .int 2, .int 3, .int 3, .int 4, .int 4, .int 5, .int 5]), .val v5, .own [.str "ring", .str "fine", .str "ring", .str "ring", .str "operation", .str "fine", .str "ring", .str "operation", .str "operation"], .own [.str "ring", .str "fine", .str "ring", .str "ring", .str "operation", .str "fine"], .no]) (e2 := [.par u5, .val v1, .val v2, .val v3, .val v4, .val (.tup [.int 0, .int 1, .int 0, .int 1]), .val (.tup [.int 0, .int 0, .int 1, .int 1, .int 2, .int 2]), .val (.tup [.int 0, .int 0, .int 1, .int 1, .int 2, .int 2, .int 3, .int 3, .int 4, .int 4, .int 5, .int 5]), .val v5, .own [.str "ring", .str "fine", .str "ring", .str "ring", .str "operation", .str "fine", .str "ring", .str "operation", .str "operation"], .own [.str "ring", .str "fine", .str "ring", .str "ring", .str "operation", .str "fine"], .no]) (by kernel_rfl) (by kernel_rfl) (by exact f9)))) (by kernel_rfl)) ?_
  refine nxL (e' := [.par u5, .val v1, .val v2, .val v3, .val v4, .val (.tup [.int 0, .int 1, .int 0, .int 1]), .val (.tup [.int 0, .int 0, .int 1, .int 1, .int 2, .int 2]), .val (.tup [.int 0, .int 0, .int 1, .int 1, .int 2, .int 2, .int 3, .int 3, .int 4, .int 4, .int 5, .int 5]), .val v5, .own [.str "ring", .str "fine", .str "ring", .str "ring", .str "operation", .str "fine", .str "ring", .str "operation", .str "operation", .str "fine", .str "web"], .own [.str "ring", .str "fine", .str "ring", .str "ring", .str "operation", .str "fine"], .no]) (Eq.trans (app (met_exc (r := .str "web") (fn_exc (ds := [v4]) (rs := [.d v4]) (e1 := [.par u5, .val v1, .val v2, .val v3, .val v4, .val (.tup [.int 0, .int 1, .int 0, .int 1]), .val (.tup [.int 0, .int 0, .int 1, .int 1, .int 2, .int 2]), .val (.tup [.int 0, .int 0, .int 1, .int 1, .int 2, .int 2, .int 3, .int 3, .int 4, .int 4, .int 5, .int 5]), .val v5, .own [.str "ring", .str "fine", .str "ring", .str "ring", .str "operation", .str "fine", .str "ring", .str "operation", .str "operation", .str "fine"], .own [.str "ring", .str "fine", .str "ring", .str "ring", .str "operation", .str "fine"], .no]) (e2 := [.par u5, .val v1, .val v2, .val v3, .val v4, .val (.tup [.int 0, .int 1, .int 0, .int 1]), .val (.tup [.int 0, .int 0, .int 1, .int 1, .int 2, .int 2]), .val (.tup [.int 0, .int 0, .int 1, .int 1, .int 2, .int 2, .int 3, .int 3, .int 4, .int 4, .int 5, .int 5]), .val v5, .own [.str "ring", .str "fine", .str "ring", .str "ring", .str "operation", .str "fine", .str "ring", .str "operation", .str "operation", .str "fine"], .own [.str "ring", .str "fine", .str "ring", .str "ring", .str "operation", .str "fine"], .no]) (by kernel_rfl) (by kernel_rfl) (by exact f10 v4 h_v4)) rfl)) (by kernel_rfl)) ?_
  refine nxL (e' := [.par u5, .val v1, .val v2, .val v3, .val v4, .val (.tup [.int 0, .int 1, .int 0, .int 1]), .val (.tup [.int 0, .int 0, .int 1, .int 1, .int 2, .int 2]), .val (.tup [.int 0, .int 0, .int 1, .int 1, .int 2, .int 2, .int 3, .int 3, .int 4, .int 4, .int 5, .int 5]), .val v5, .own [.str "ring", .str "fine", .str "ring", .str "ring", .str "operation", .str "fine", .str "ring", .str "operation", .str "operation", .str "fine", .str "web", .str "many 5"], .own [.str "ring", .str "fine", .str "ring", .str "ring", .str "operation", .str "fine"], .no]) (Eq.trans (app (met_exc (r := .str "many 5") (fn_exc (ds := [.obj 0 [.int 6, .tup []]]) (rs := [.d (.obj 0 [.int 6, .tup []])]) (e1 := [.par u5, .val v1, .val v2, .val v3, .val v4, .val (.tup [.int 0, .int 1, .int 0, .int 1]), .val (.tup [.int 0, .int 0, .int 1, .int 1, .int 2, .int 2]), .val (.tup [.int 0, .int 0, .int 1, .int 1, .int 2, .int 2, .int 3, .int 3, .int 4, .int 4, .int 5, .int 5]), .val v5, .own [.str "ring", .str "fine", .str "ring", .str "ring", .str "operation", .str "fine", .str "ring", .str "operation", .str "operation", .str "fine", .str "web"], .own [.str "ring", .str "fine", .str "ring", .str "ring", .str "operation", .str "fine"], .no]) (e2 := [.par u5, .val v1, .val v2, .val v3, .val v4, .val (.tup [.int 0, .int 1, .int 0, .int 1]), .val (.tup [.int 0, .int 0, .int 1, .int 1, .int 2, .int 2]), .val (.tup [.int 0, .int 0, .int 1, .int 1, .int 2, .int 2, .int 3, .int 3, .int 4, .int 4, .int 5, .int 5]), .val v5, .own [.str "ring", .str "fine", .str "ring", .str "ring", .str "operation", .str "fine", .str "ring", .str "operation", .str "operation", .str "fine", .str "web"], .own [.str "ring", .str "fine", .str "ring", .str "ring", .str "operation", .str "fine"], .no]) (by kernel_rfl) (by kernel_rfl) (by exact f11)) (by kernel_rfl))) (by kernel_rfl)) ?_
  refine nxL (e' := [.par u5, .val v1, .val v2, .val v3, .val v4, .val (.tup [.int 0, .int 1, .int 0, .int 1]), .val (.tup [.int 0, .int 0, .int 1, .int 1, .int 2, .int 2]), .val (.tup [.int 0, .int 0, .int 1, .int 1, .int 2, .int 2, .int 3, .int 3, .int 4, .int 4, .int 5, .int 5]), .val v5, .own [.str "ring", .str "fine", .str "ring", .str "ring", .str "operation", .str "fine", .str "ring", .str "operation", .str "operation", .str "fine", .str "web", .str "many 5"], .own [.str "ring", .str "fine", .str "ring", .str "ring", .str "operation", .str "fine", .str "ring", .str "operation", .str "operation", .str "fine", .str "web", .str "many 5"], .no]) (by kernel_rfl) ?_
  refine nxL (e' := [.par u5, .val v1, .val v2, .val v3, .val v4, .val (.tup [.int 0, .int 1, .int 0, .int 1]), .val (.tup [.int 0, .int 0, .int 1, .int 1, .int 2, .int 2]), .val (.tup [.int 0, .int 0, .int 1, .int 1, .int 2, .int 2, .int 3, .int 3, .int 4, .int 4, .int 5, .int 5]), .val v5, .own [.str "ring", .str "fine", .str "ring", .str "ring", .str "operation", .str "fine", .str "ring", .str "operation", .str "operation", .str "fine", .str "web", .str "many 5", .str "ring", .str "ring", .str "operation", .str "operation", .str "many 5", .str "fine", .str "ring", .str "ring", .str "operation", .str "operation", .str "many 5", .str "fine"], .own [.str "ring", .str "fine", .str "ring", .str "ring", .str "operation", .str "fine", .str "ring", .str "operation", .str "operation", .str "fine", .str "web", .str "many 5", .str "ring", .str "ring", .str "operation", .str "operation", .str "many 5", .str "fine", .str "ring", .str "ring", .str "operation", .str "operation", .str "many 5", .str "fine"], .clo 0]) (fconsC (e1 := [.par u5, .val v1, .val v2, .val v3, .val v4, .val (.tup [.int 0, .int 1, .int 0, .int 1]), .val (.tup [.int 0, .int 0, .int 1, .int 1, .int 2, .int 2]), .val (.tup [.int 0, .int 0, .int 1, .int 1, .int 2, .int 2, .int 3, .int 3, .int 4, .int 4, .int 5, .int 5]), .val v5, .own [.str "ring", .str "fine", .str "ring", .str "ring", .str "operation", .str "fine", .str "ring", .str "operation", .str "operation", .str "fine", .str "web", .str "many 5"], .own [.str "ring", .str "fine", .str "ring", .str "ring", .str "operation", .str "fine", .str "ring", .str "operation", .str "operation", .str "fine", .str "web", .str "many 5"], .val (.cls 1)]) (e2 := [.par u5, .val v1, .val v2, .val v3, .val v4, .val (.tup [.int 0, .int 1, .int 0, .int 1]), .val (.tup [.int 0, .int 0, .int 1, .int 1, .int 2, .int 2]), .val (.tup [.int 0, .int 0, .int 1, .int 1, .int 2, .int 2, .int 3, .int 3, .int 4, .int 4, .int 5, .int 5]), .val v5, .own [.str "ring", .str "fine", .str "ring", .str "ring", .str "operation", .str "fine", .str "ring", .str "operation", .str "operation", .str "fine", .str "web", .str "many 5", .str "ring", .str "ring", .str "operation", .str "operation", .str "many 5", .str "fine"], .own [.str "ring", .str "fine", .str "ring", .str "ring", .str "operation", .str "fine", .str "ring", .str "operation", .str "operation", .str "fine", .str "web", .str "many 5", .str "ring", .str "ring", .str "operation", .str "operation", .str "many 5", .str "fine"], .val (.cls 1)]) (Nat.lt_of_lt_of_eq (by decide : 11 < 12) rfl) (by rfl) (by
    refine nx (e' := [.par u5, .val v1, .val v2, .val v3, .val v4, .val (.tup [.int 0, .int 1, .int 0, .int 1]), .val (.tup [.int 0, .int 0, .int 1, .int 1, .int 2, .int 2]), .val (.tup [.int 0, .int 0, .int 1, .int 1, .int 2, .int 2, .int 3, .int 3, .int 4, .int 4, .int 5, .int 5]), .val v5, .own [.str "ring", .str "fine", .str "ring", .str "ring", .str "operation", .str "fine", .str "ring", .str "operation", .str "operation", .str "fine", .str "web", .str "many 5", .str "ring"], .own [.str "ring", .str "fine", .str "ring", .str "ring", .str "operation", .str "fine", .str "ring", .str "operation", .str "operation", .str "fine", .str "web", .str "many 5"], .val (.cls 1)]) (Eq.trans (app (met_exc (r := .str "ring") (bd_varC (by rfl) (by rfl) (fn_exc (ds := [v1, v1]) (rs := [.d v1, .d v1]) (e1 := [.par u5, .val v1, .val v2, .val v3, .val v4, .val (.tup [.int 0, .int 1, .int 0, .int 1]), .val (.tup [.int 0, .int 0, .int 1, .int 1, .int 2, .int 2]), .val (.tup [.int 0, .int 0, .int 1, .int 1, .int 2, .int 2, .int 3, .int 3, .int 4, .int 4, .int 5, .int 5]), .val v5, .own [.str "ring", .str "fine", .str "ring", .str "ring", .str "operation", .str "fine", .str "ring", .str "operation", .str "operation", .str "fine", .str "web", .str "many 5"], .own [.str "ring", .str "fine", .str "ring", .str "ring", .str "operation", .str "fine", .str "ring", .str "operation", .str "operation", .str "fine", .str "web", .str "many 5"], .val (.cls 1)]) (e2 := [.par u5, .val v1, .val v2, .val v3, .val v4, .val (.tup [.int 0, .int 1, .int 0, .int 1]), .val (.tup [.int 0, .int 0, .int 1, .int 1, .int 2, .int 2]), .val (.tup [.int 0, .int 0, .int 1, .int 1, .int 2, .int 2, .int 3, .int 3, .int 4, .int 4, .int 5, .int 5]), .val v5, .own [.str "ring", .str "fine", .str "ring", .str "ring", .str "operation", .str "fine", .str "ring", .str "operation", .str "operation", .str "fine", .str "web", .str "many 5"], .own [.str "ring", .str "fine", .str "ring", .str "ring", .str "operation", .str "fine", .str "ring", .str "operation", .str "operation", .str "fine", .str "web", .str "many 5"], .val (.cls 1)]) (by kernel_rfl) (by kernel_rfl) (by exact f12 v1 h_v1))) rfl)) (by kernel_rfl)) ?_
    refine nx (e' := [.par u5, .val v1, .val v2, .val v3, .val v4, .val (.tup [.int 0, .int 1, .int 0, .int 1]), .val (.tup [.int 0, .int 0, .int 1, .int 1, .int 2, .int 2]), .val (.tup [.int 0, .int 0, .int 1, .int 1, .int 2, .int 2, .int 3, .int 3, .int 4, .int 4, .int 5, .int 5]), .val v5, .own [.str "ring", .str "fine", .str "ring", .str "ring", .str "operation", .str "fine", .str "ring", .str "operation", .str "operation", .str "fine", .str "web", .str "many 5", .str "ring", .str "ring"], .own [.str "ring", .str "fine", .str "ring", .str "ring", .str "operation", .str "fine", .str "ring", .str "operation", .str "operation", .str "fine", .str "web", .str "many 5"], .val (.cls 1)]) (Eq.trans (app (met_exc (r := .str "ring") (bd_varC (by rfl) (by rfl) (fn_exc (ds := [.tup [.int 0, .int 1, .int 0, .int 1], v1]) (rs := [.d (.tup [.int 0, .int 1, .int 0, .int 1]), .d v1]) (e1 := [.par u5, .val v1, .val v2, .val v3, .val v4, .val (.tup [.int 0, .int 1, .int 0, .int 1]), .val (.tup [.int 0, .int 0, .int 1, .int 1, .int 2, .int 2]), .val (.tup [.int 0, .int 0, .int 1, .int 1, .int 2, .int 2, .int 3, .int 3, .int 4, .int 4, .int 5, .int 5]), .val v5, .own [.str "ring", .str "fine", .str "ring", .str "ring", .str "operation", .str "fine", .str "ring", .str "operation", .str "operation", .str "fine", .str "web", .str "many 5", .str "ring"], .own [.str "ring", .str "fine", .str "ring", .str "ring", .str "operation", .str "fine", .str "ring", .str "operation", .str "operation", .str "fine", .str "web", .str "many 5"], .val (.cls 1)]) (e2 := [.par u5, .val v1, .val v2, .val v3, .val v4, .val (.tup [.int 0, .int 1, .int 0, .int 1]), .val (.tup [.int 0, .int 0, .int 1, .int 1, .int 2, .int 2]), .val (.tup [.int 0, .int 0, .int 1, .int 1, .int 2, .int 2, .int 3, .int 3, .int 4, .int 4, .int 5, .int 5]), .val v5, .own [.str "ring", .str "fine", .str "ring", .str "ring", .str "operation", .str "fine", .str "ring", .str "operation", .str "operation", .str "fine", .str "web", .str "many 5", .str "ring"], .own [.str "ring", .str "fine", .str "ring", .str "ring", .str "operation", .str "fine", .str "ring", .str "operation", .str "operation", .str "fine", .str "web", .str "many 5"], .val (.cls 1)]) (by kernel_rfl) (by kernel_rfl) (by exact f13 v1 h_v1))) rfl)) (by kernel_rfl)) ?_
    refine nx (e' := [.par u5, .val v1, .val v2, .val v3, .val v4, .val (.tup [.int 0, .int 1, .int 0, .int 1]), .val (.tup [.int 0, .int 0, .int 1, .int 1, .int 2, .int 2]), .val (.tup [.int 0, .int 0, .int 1, .int 1, .int 2, .int 2, .int 3, .int 3, .int 4, .int 4, .int 5, .int 5]), .val v5, .own [.str "ring", .str "fine", .str "ring", .str "ring", .str "operation", .str "fine", .str "ring", .str "operation", .str "operation", .str "fine", .str "web", .str "many 5", .str "ring", .str "ring", .str "operation"], .own [.str "ring", .str "fine", .str "ring", .str "ring", .str "operation", .str "fine", .str "ring", .str "operation", .str "operation", .str "fine", .str "web", .str "many 5"], .val (.cls 1)]) (Eq.trans (app (met_exc (r := .str "operation") (bd_varC (by rfl) (by rfl) (fn_exc (ds := [.tup [.int 0, .int 1, .int 0, .int 1], .tup [.int 0, .int 0, .int 1, .int 1, .int 2, .int 2]]) (rs := [.d (.tup [.int 0, .int 1, .int 0, .int 1]), .d (.tup [.int 0, .int 0, .int 1, .int 1, .int 2, .int 2])]) (e1 := [.par u5, .val v1, .val v2, .val v3, .val v4, .val (.tup [.int 0, .int 1, .int 0, .int 1]), .val (.tup [.int 0, .int 0, .int 1, .int 1, .int 2, .int 2]), .val (.tup [.int 0, .int 0, .int 1, .int 1, .int 2, .int 2, .int 3, .int 3, .int 4, .int 4, .int 5, .int 5]), .val v5, .own [.str "ring", .str "fine", .str "ring", .str "ring", .str "operation", .str "fine", .str "ring", .str "operation", .str "operation", .str "fine", .str "web", .str "many 5", .str "ring", .str "ring"], .own [.str "ring", .str "fine", .str "ring", .str "ring", .str "operation", .str "fine", .str "ring", .str "operation", .str "operation", .str "fine", .str "web", .str "many 5"], .val (.cls 1)]) (e2 := [.par u5, .val v1, .val v2, .val v3, .val v4, .val (.tup [.int 0, .int 1, .int 0, .int 1]), .val (.tup [.int 0, .int 0, .int 1, .int 1, .int 2, .int 2]), .val (.tup [.int 0, .int 0, .int 1, .int 1, .int 2, .int 2, .int 3, .int 3, .int 4, .int 4, .int 5, .int 5]), .val v5, .own [.str "ring", .str "fine", .str "ring", .str "ring", .str "operation", .str "fine", .str "ring", .str "operation", .str "operation", .str "fine", .str "web", .str "many 5", .str "ring", .str "ring"], .own [.str "ring", .str "fine", .str "ring", .str "ring", .str "operation", .str "fine", .str "ring", .str "operation", .str "operation", .str "fine", .str "web", .str "many 5"], .val (.cls 1)]) (by kernel_rfl) (by kernel_rfl) (by exact f14))) rfl)) (by kernel_rfl)) ?_
    refine nx (e' := [.par u5, .val v1, .val v2, .val v3, .val v4, .val (.tup [.int 0, .int 1, .int 0, .int 1]), .val (.tup [.int 0, .int 0, .int 1, .int 1, .int 2, .int 2]), .val (.tup [.int 0, .int 0, .int 1, .int 1, .int 2, .int 2, .int 3, .int 3, .int 4, .int 4, .int 5, .int 5]), .val v5, .own [.str "ring", .str "fine", .str "ring", .str "ring", .str "operation", .str "fine", .str "ring", .str "operation", .str "operation", .str "fine", .str "web", .str "many 5", .str "ring", .str "ring", .str "operation", .str "operation"], .own [.str "ring", .str "fine", .str "ring", .str "ring", .str "operation", .str "fine", .str "ring", .str "operation", .str "operation", .str "fine", .str "web", .str "many 5"], .val (.cls 1)]) (Eq.trans (app (met_exc (r := .str "operation") (bd_varC (by rfl) (by rfl) (fn_exc (ds := [.tup [.int 0, .int 0, .int 1, .int 1, .int 2, .int 2, .int 3, .int 3, .int 4, .int 4, .int 5, .int 5], .tup [.int 0, .int 1, .int 0, .int 1]]) (rs := [.d (.tup [.int 0, .int 0, .int 1, .int 1, .int 2, .int 2, .int 3, .int 3, .int 4, .int 4, .int 5, .int 5]), .d (.tup [.int 0, .int 1, .int 0, .int 1])]) (e1 := [.par u5, .val v1, .val v2, .val v3, .val v4, .val (.tup [.int 0, .int 1, .int 0, .int 1]), .val (.tup [.int 0, .int 0, .int 1, .int 1, .int 2, .int 2]), .val (.tup [.int 0, .int 0, .int 1, .int 1, .int 2, .int 2, .int 3, .int 3, .int 4, .int 4, .int 5, .int 5]), .val v5, .own [.str "ring", .str "fine", .str "ring", .str "ring", .str "operation", .str "fine", .str "ring", .str "operation", .str "operation", .str "fine", .str "web", .str "many 5", .str "ring", .str "ring", .str "operation"], .own [.str "ring", .str "fine", .str "ring", .str "ring", .str "operation", .str "fine", .str "ring", .str "operation", .str "operation", .str "fine", .str "web", .str "many 5"], .val (.cls 1)]) (e2 := [.par u5, .val v1, .val v2, .val v3, .val v4, .val (.tup [.int 0, .int 1, .int 0, .int 1]), .val (.tup [.int 0, .int 0, .int 1, .int 1, .int 2, .int 2]), .val (.tup [.int 0, .int 0, .int 1, .int 1, .int 2, .int 2, .int 3, .int 3, .int 4, .int 4, .int 5, .int 5]), .val v5, .own [.str "ring", .str "fine", .str "ring", .str "ring", .str "operation", .str "fine", .str "ring", .str "operation", .str "operation", .str "fine", .str "web", .str "many 5", .str "ring", .str "ring", .str "operation"], .own [.str "ring", .str "fine", .str "ring", .str "ring", .str "operation", .str "fine", .str "ring", .str "operation", .str "operation", .str "fine", .str "web", .str "many 5"], .val (.cls 1)]) (by kernel_rfl) (by kernel_rfl) (by exact f15))) rfl)) (by kernel_rfl)) ?_
    refine nx (e' := [.par u5, .val v1, .val v2, .val v3, .val v4, .val (.tup [.int 0, .int 1, .int 0, .int 1]), .val (.tup [.int 0, .int 0, .int 1, .int 1, .int 2, .int 2]), .val (.tup [.int 0, .int 0, .int 1, .int 1, .int 2, .int 2, .int 3, .int 3, .int 4, .int 4, .int 5, .int 5]), .val v5, .own [.str "ring", .str "fine", .str "ring", .str "ring", .str "operation", .str "fine", .str "ring", .str "operation", .str "operation", .str "fine", .str "web", .str "many 5", .str "ring", .str "ring", .str "operation", .str "operation", .str "many 5"], .own [.str "ring", .str "fine", .str "ring", .str "ring", .str "operation", .str "fine", .str "ring", .str "operation", .str "operation", .str "fine", .str "web", .str "many 5"], .val (.cls 1)]) (Eq.trans (app (met_exc (r := .str "many 5") (bd_varC (by rfl) (by rfl) (fn_exc (ds := [.tup [.int 0, .int 0, .int 1, .int 1, .int 2, .int 2, .int 3, .int 3, .int 4, .int 4, .int 5, .int 5], .tup [.int 0, .int 0, .int 1, .int 1, .int 2, .int 2, .int 3, .int 3, .int 4, .int 4, .int 5, .int 5]]) (rs := [.d (.tup [.int 0, .int 0, .int 1, .int 1, .int 2, .int 2, .int 3, .int 3, .int 4, .int 4, .int 5, .int 5]), .d (.tup [.int 0, .int 0, .int 1, .int 1, .int 2, .int 2, .int 3, .int 3, .int 4, .int 4, .int 5, .int 5])]) (e1 := [.par u5, .val v1, .val v2, .val v3, .val v4, .val (.tup [.int 0, .int 1, .int 0, .int 1]), .val (.tup [.int 0, .int 0, .int 1, .int 1, .int 2, .int 2]), .val (.tup [.int 0, .int 0, .int 1, .int 1, .int 2, .int 2, .int 3, .int 3, .int 4, .int 4, .int 5, .int 5]), .val v5, .own [.str "ring", .str "fine", .str "ring", .str "ring", .str "operation", .str "fine", .str "ring", .str "operation", .str "operation", .str "fine", .str "web", .str "many 5", .str "ring", .str "ring", .str "operation", .str "operation"], .own [.str "ring", .str "fine", .str "ring", .str "ring", .str "operation", .str "fine", .str "ring", .str "operation", .str "operation", .str "fine", .str "web", .str "many 5"], .val (.cls 1)]) (e2 := [.par u5, .val v1, .val v2, .val v3, .val v4, .val (.tup [.int 0, .int 1, .int 0, .int 1]), .val (.tup [.int 0, .int 0, .int 1, .int 1, .int 2, .int 2]), .val (.tup [.int 0, .int 0, .int 1, .int 1, .int 2, .int 2, .int 3, .int 3, .int 4, .int 4, .int 5, .int 5]), .val v5, .own [.str "ring", .str "fine", .str "ring", .str "ring", .str "operation", .str "fine", .str "ring", .str "operation", .str "operation", .str "fine", .str "web", .str "many 5", .str "ring", .str "ring", .str "operation", .str "operation"], .own [.str "ring", .str "fine", .str "ring", .str "ring", .str "operation", .str "fine", .str "ring", .str "operation", .str "operation", .str "fine", .str "web", .str "many 5"], .val (.cls 1)]) (by kernel_rfl) (by kernel_rfl) (by exact f16))) (by kernel_rfl))) (by kernel_rfl)) ?_
    refine nx (e' := [.par u5, .val v1, .val v2, .val v3, .val v4, .val (.tup [.int 0, .int 1, .int 0, .int 1]), .val (.tup [.int 0, .int 0, .int 1, .int 1, .int 2, .int 2]), .val (.tup [.int 0, .int 0, .int 1, .int 1, .int 2, .int 2, .int 3, .int 3, .int 4, .int 4, .int 5, .int 5]), .val v5, .own [.str "ring", .str "fine", .str "ring", .str "ring", .str "operation", .str "fine", .str "ring", .str "operation", .str "operation", .str "fine", .str "web", .str "many 5", .str "ring", .str "ring", .str "operation", .str "operation", .str "many 5", .str "fine"], .own [.str "ring", .str "fine", .str "ring", .str "ring", .str "operation", .str "fine", .str "ring", .str "operation", .str "operation", .str "fine", .str "web", .str "many 5"], .val (.cls 1)]) (Eq.trans (app (met_ok (bd_varC (by rfl) (by rfl) (fn_ok (ds := [.tup [.int 0, .int 1, .int 0, .int 1], .tup [.int 0, .int 1, .int 0, .int 1]]) (rs := [.d (.tup [.int 0, .int 1, .int 0, .int 1]), .d (.tup [.int 0, .int 1, .int 0, .int 1])]) (e1 := [.par u5, .val v1, .val v2, .val v3, .val v4, .val (.tup [.int 0, .int 1, .int 0, .int 1]), .val (.tup [.int 0, .int 0, .int 1, .int 1, .int 2, .int 2]), .val (.tup [.int 0, .int 0, .int 1, .int 1, .int 2, .int 2, .int 3, .int 3, .int 4, .int 4, .int 5, .int 5]), .val v5, .own [.str "ring", .str "fine", .str "ring", .str "ring", .str "operation", .str "fine", .str "ring", .str "operation", .str "operation", .str "fine", .str "web", .str "many 5", .str "ring", .str "ring", .str "operation", .str "operation", .str "many 5"], .own [.str "ring", .str "fine", .str "ring", .str "ring", .str "operation", .str "fine", .str "ring", .str "operation", .str "operation", .str "fine", .str "web", .str "many 5"], .val (.cls 1)]) (e2 := [.par u5, .val v1, .val v2, .val v3, .val v4, .val (.tup [.int 0, .int 1, .int 0, .int 1]), .val (.tup [.int 0, .int 0, .int 1, .int 1, .int 2, .int 2]), .val (.tup [.int 0, .int 0, .int 1, .int 1, .int 2, .int 2, .int 3, .int 3, .int 4, .int 4, .int 5, .int 5]), .val v5, .own [.str "ring", .str "fine", .str "ring", .str "ring", .str "operation", .str "fine", .str "ring", .str "operation", .str "operation", .str "fine", .str "web", .str "many 5", .str "ring", .str "ring", .str "operation", .str "operation", .str "many 5"], .own [.str "ring", .str "fine", .str "ring", .str "ring", .str "operation", .str "fine", .str "ring", .str "operation", .str "operation", .str "fine", .str "web", .str "many 5"], .val (.cls 1)]) (by kernel_rfl) (by kernel_rfl) (by exact f17))))) (by kernel_rfl)) ?_
    exact (by kernel_rfl)) (fconsC (e1 := [.par u5, .val v1, .val v2, .val v3, .val v4, .val (.tup [.int 0, .int 1, .int 0, .int 1]), .val (.tup [.int 0, .int 0, .int 1, .int 1, .int 2, .int 2]), .val (.tup [.int 0, .int 0, .int 1, .int 1, .int 2, .int 2, .int 3, .int 3, .int 4, .int 4, .int 5, .int 5]), .val v5, .own [.str "ring", .str "fine", .str "ring", .str "ring", .str "operation", .str "fine", .str "ring", .str "operation", .str "operation", .str "fine", .str "web", .str "many 5", .str "ring", .str "ring", .str "operation", .str "operation", .str "many 5", .str "fine"], .own [.str "ring", .str "fine", .str "ring", .str "ring", .str "operation", .str "fine", .str "ring", .str "operation", .str "operation", .str "fine", .str "web", .str "many 5", .str "ring", .str "ring", .str "operation", .str "operation", .str "many 5", .str "fine"], .clo 0]) (e2 := [.par u5, .val v1, .val v2, .val v3, .val v4, .val (.tup [.int 0, .int 1, .int 0, .int 1]), .val (.tup [.int 0, .int 0, .int 1, .int 1, .int 2, .int 2]), .val (.tup [.int 0, .int 0, .int 1, .int 1, .int 2, .int 2, .int 3, .int 3, .int 4, .int 4, .int 5, .int 5]), .val v5, .own [.str "ring", .str "fine", .str "ring", .str "ring", .str "operation", .str "fine", .str "ring", .str "operation", .str "operation", .str "fine", .str "web", .str "many 5", .str "ring", .str "ring", .str "operation", .str "operation", .str "many 5", .str "fine", .str "ring", .str "ring", .str "operation", .str "operation", .str "many 5", .str "fine"], .own [.str "ring", .str "fine", .str "ring", .str "ring", .str "operation", .str "fine", .str "ring", .str "operation", .str "operation", .str "fine", .str "web", .str "many 5", .str "ring", .str "ring", .str "operation", .str "operation", .str "many 5", .str "fine", .str "ring", .str "ring", .str "operation", .str "operation", .str "many 5", .str "fine"], .clo 0]) (Nat.lt_of_lt_of_eq (by decide : 11 < 12) rfl) (by rfl) (by
    refine nx (e' := [.par u5, .val v1, .val v2, .val v3, .val v4, .val (.tup [.int 0, .int 1, .int 0, .int 1]), .val (.tup [.int 0, .int 0, .int 1, .int 1, .int 2, .int 2]), .val (.tup [.int 0, .int 0, .int 1, .int 1, .int 2, .int 2, .int 3, .int 3, .int 4, .int 4, .int 5, .int 5]), .val v5, .own [.str "ring", .str "fine", .str "ring", .str "ring", .str "operation", .str "fine", .str "ring", .str "operation", .str "operation", .str "fine", .str "web", .str "many 5", .str "ring", .str "ring", .str "operation", .str "operation", .str "many 5", .str "fine", .str "ring"], .own [.str "ring", .str "fine", .str "ring", .str "ring", .str "operation", .str "fine", .str "ring", .str "operation", .str "operation", .str "fine", .str "web", .str "many 5", .str "ring", .str "ring", .str "operation", .str "operation", .str "many 5", .str "fine"], .clo 0]) (Eq.trans (app (met_exc (r := .str "ring") (bd_clo (ds := [v1, v1]) (rs := [.d v1, .d v1]) (e1 := [.par u5, .val v1, .val v2, .val v3, .val v4, .val (.tup [.int 0, .int 1, .int 0, .int 1]), .val (.tup [.int 0, .int 0, .int 1, .int 1, .int 2, .int 2]), .val (.tup [.int 0, .int 0, .int 1, .int 1, .int 2, .int 2, .int 3, .int 3, .int 4, .int 4, .int 5, .int 5]), .val v5, .own [.str "ring", .str "fine", .str "ring", .str "ring", .str "operation", .str "fine", .str "ring", .str "operation", .str "operation", .str "fine", .str "web", .str "many 5", .str "ring", .str "ring", .str "operation", .str "operation", .str "many 5", .str "fine"], .own [.str "ring", .str "fine", .str "ring", .str "ring", .str "operation", .str "fine", .str "ring", .str "operation", .str "operation", .str "fine", .str "web", .str "many 5", .str "ring", .str "ring", .str "operation", .str "operation", .str "many 5", .str "fine"], .clo 0]) (e2 := [.par u5, .val v1, .val v2, .val v3, .val v4, .val (.tup [.int 0, .int 1, .int 0, .int 1]), .val (.tup [.int 0, .int 0, .int 1, .int 1, .int 2, .int 2]), .val (.tup [.int 0, .int 0, .int 1, .int 1, .int 2, .int 2, .int 3, .int 3, .int 4, .int 4, .int 5, .int 5]), .val v5, .own [.str "ring", .str "fine", .str "ring", .str "ring", .str "operation", .str "fine", .str "ring", .str "operation", .str "operation", .str "fine", .str "web", .str "many 5", .str "ring", .str "ring", .str "operation", .str "operation", .str "many 5", .str "fine"], .own [.str "ring", .str "fine", .str "ring", .str "ring", .str "operation", .str "fine", .str "ring", .str "operation", .str "operation", .str "fine", .str "web", .str "many 5", .str "ring", .str "ring", .str "operation", .str "operation", .str "many 5", .str "fine"], .clo 0]) (ec := [.val v1, .val v1, .val v5]) (by rfl) (by rfl) (by rfl) (by kernel_rfl) (by kernel_rfl) (by kernel_rfl) (fn_exc (ds := [v1, v1, v5]) (rs := [.d v1, .d v1, .d v5]) (e1 := [.val v1, .val v1, .val v5]) (e2 := [.val v1, .val v1, .val v5]) (by kernel_rfl) (by kernel_rfl) (by dsimp only; exact f18 v1 h_v1 v5))) rfl)) (by kernel_rfl)) ?_
    refine nx (e' := [.par u5, .val v1, .val v2, .val v3, .val v4, .val (.tup [.int 0, .int 1, .int 0, .int 1]), .val (.tup [.int 0, .int 0, .int 1, .int 1, .int 2, .int 2]), .val (.tup [.int 0, .int 0, .int 1, .int 1, .int 2, .int 2, .int 3, .int 3, .int 4, .int 4, .int 5, .int 5]), .val v5, .own [.str "ring", .str "fine", .str "ring", .str "ring", .str "operation", .str "fine", .str "ring", .str "operation", .str "operation", .str "fine", .str "web", .str "many 5", .str "ring", .str "ring", .str "operation", .str "operation", .str "many 5", .str "fine", .str "ring", .str "ring"], .own [.str "ring", .str "fine", .str "ring", .str "ring", .str "operation", .str "fine", .str "ring", .str "operation", .str "operation", .str "fine", .str "web", .str "many 5", .str "ring", .str "ring", .str "operation", .str "operation", .str "many 5", .str "fine"], .clo 0]) (Eq.trans (app (met_exc (r := .str "ring") (bd_clo (ds := [.tup [.int 0, .int 1, .int 0, .int 1], v1]) (rs := [.d (.tup [.int 0, .int 1, .int 0, .int 1]), .d v1]) (e1 := [.par u5, .val v1, .val v2, .val v3, .val v4, .val (.tup [.int 0, .int 1, .int 0, .int 1]), .val (.tup [.int 0, .int 0, .int 1, .int 1, .int 2, .int 2]), .val (.tup [.int 0, .int 0, .int 1, .int 1, .int 2, .int 2, .int 3, .int 3, .int 4, .int 4, .int 5, .int 5]), .val v5, .own [.str "ring", .str "fine", .str "ring", .str "ring", .str "operation", .str "fine", .str "ring", .str "operation", .str "operation", .str "fine", .str "web", .str "many 5", .str "ring", .str "ring", .str "operation", .str "operation", .str "many 5", .str "fine", .str "ring"], .own [.str "ring", .str "fine", .str "ring", .str "ring", .str "operation", .str "fine", .str "ring", .str "operation", .str "operation", .str "fine", .str "web", .str "many 5", .str "ring", .str "ring", .str "operation", .str "operation", .str "many 5", .str "fine"], .clo 0]) (e2 := [.par u5, .val v1, .val v2, .val v3, .val v4, .val (.tup [.int 0, .int 1, .int 0, .int 1]), .val (.tup [.int 0, .int 0, .int 1, .int 1, .int 2, .int 2]), .val (.tup [.int 0, .int 0, .int 1, .int 1, .int 2, .int 2, .int 3, .int 3, .int 4, .int 4, .int 5, .int 5]), .val v5, .own [.str "ring", .str "fine", .str "ring", .str "ring", .str "operation", .str "fine", .str "ring", .str "operation", .str "operation", .str "fine", .str "web", .str "many 5", .str "ring", .str "ring", .str "operation", .str "operation", .str "many 5", .str "fine", .str "ring"], .own [.str "ring", .str "fine", .str "ring", .str "ring", .str "operation", .str "fine", .str "ring", .str "operation", .str "operation", .str "fine", .str "web", .str "many 5", .str "ring", .str "ring", .str "operation", .str "operation", .str "many 5", .str "fine"], .clo 0]) (ec := [.val (.tup [.int 0, .int 1, .int 0, .int 1]), .val v1, .val v5]) (by rfl) (by rfl) (by rfl) (by kernel_rfl) (by kernel_rfl) (by kernel_rfl) (fn_exc (ds := [.tup [.int 0, .int 1, .int 0, .int 1], v1, v5]) (rs := [.d (.tup [.int 0, .int 1, .int 0, .int 1]), .d v1, .d v5]) (e1 := [.val (.tup [.int 0, .int 1, .int 0, .int 1]), .val v1, .val v5]) (e2 := [.val (.tup [.int 0, .int 1, .int 0, .int 1]), .val v1, .val v5]) (by kernel_rfl) (by kernel_rfl) (by dsimp only; exact f19 v1 h_v1 v5))) rfl)) (by kernel_rfl)) ?_
    refine nx (e' := [.par u5, .val v1, .val v2, .val v3, .val v4, .val (.tup [.int 0, .int 1, .int 0, .int 1]), .val (.tup [.int 0, .int 0, .int 1, .int 1, .int 2, .int 2]), .val (.tup [.int 0, .int 0, .int 1, .int 1, .int 2, .int 2, .int 3, .int 3, .int 4, .int 4, .int 5, .int 5]), .val v5, .own [.str "ring", .str "fine", .str "ring", .str "ring", .str "operation", .str "fine", .str "ring", .str "operation", .str "operation", .str "fine", .str "web", .str "many 5", .str "ring", .str "ring", .str "operation", .str "operation", .str "many 5", .str "fine", .str "ring", .str "ring", .str "operation"], .own [.str "ring", .str "fine", .str "ring", .str "ring", .str "operation", .str "fine", .str "ring", .str "operation", .str "operation", .str "fine", .str "web", .str "many 5", .str "ring", .str "ring", .str "operation", .str "operation", .str "many 5", .str "fine"], .clo 0]) (Eq.trans (app (met_exc (r := .str "operation") (bd_clo (ds := [.tup [.int 0, .int 1, .int 0, .int 1], .tup [.int 0, .int 0, .int 1, .int 1, .int 2, .int 2]]) (rs := [.d (.tup [.int 0, .int 1, .int 0, .int 1]), .d (.tup [.int 0, .int 0, .int 1, .int 1, .int 2, .int 2])]) (e1 := [.par u5, .val v1, .val v2, .val v3, .val v4, .val (.tup [.int 0, .int 1, .int 0, .int 1]), .val (.tup [.int 0, .int 0, .int 1, .int 1, .int 2, .int 2]), .val (.tup [.int 0, .int 0, .int 1, .int 1, .int 2, .int 2, .int 3, .int 3, .int 4, .int 4, .int 5, .int 5]), .val v5, .own [.str "ring", .str "fine", .str "ring", .str "ring", .str "operation", .str "fine", .str "ring", .str "operation", .str "operation", .str "fine", .str "web", .str "many 5", .str "ring", .str "ring", .str "operation", .str "operation", .str "many 5", .str "fine", .str "ring", .str "ring"], .own [.str "ring", .str "fine", .str "ring", .str "ring", .str "operation", .str "fine", .str "ring", .str "operation", .str "operation", .str "fine", .str "web", .str "many 5", .str "ring", .str "ring", .str "operation", .str "operation", .str "many 5", .str "fine"], .clo 0]) (e2 := [.par u5, .val v1, .val v2, .val v3, .val v4, .val (.tup [.int 0, .int 1, .int 0, .int 1]), .val (.tup [.int 0, .int 0, .int 1, .int 1, .int 2, .int 2]), .val (.tup [.int 0, .int 0, .int 1, .int 1, .int 2, .int 2, .int 3, .int 3, .int 4, .int 4, .int 5, .int 5]), .val v5, .own [.str "ring", .str "fine", .str "ring", .str "ring", .str "operation", .str "fine", .str "ring", .str "operation", .str "operation", .str "fine", .str "web", .str "many 5", .str "ring", .str "ring", .str "operation", .str "operation", .str "many 5", .str "fine", .str "ring", .str "ring"], .own [.str "ring", .str "fine", .str "ring", .str "ring", .str "operation", .str "fine", .str "ring", .str "operation", .str "operation", .str "fine", .str "web", .str "many 5", .str "ring", .str "ring", .str "operation", .str "operation", .str "many 5", .str "fine"], .clo 0]) (ec := [.val (.tup [.int 0, .int 1, .int 0, .int 1]), .val (.tup [.int 0, .int 0, .int 1, .int 1, .int 2, .int 2]), .val v5]) (by rfl) (by rfl) (by rfl) (by kernel_rfl) (by kernel_rfl) (by kernel_rfl) (fn_exc (ds := [.tup [.int 0, .int 1, .int 0, .int 1], .tup [.int 0, .int 0, .int 1, .int 1, .int 2, .int 2], v5]) (rs := [.d (.tup [.int 0, .int 1, .int 0, .int 1]), .d (.tup [.int 0, .int 0, .int 1, .int 1, .int 2, .int 2]), .d v5]) (e1 := [.val (.tup [.int 0, .int 1, .int 0, .int 1]), .val (.tup [.int 0, .int 0, .int 1, .int 1, .int 2, .int 2]), .val v5]) (e2 := [.val (.tup [.int 0, .int 1, .int 0, .int 1]), .val (.tup [.int 0, .int 0, .int 1, .int 1, .int 2, .int 2]), .val v5]) (by kernel_rfl) (by kernel_rfl) (by dsimp only; exact f20 v5))) rfl)) (by kernel_rfl)) ?_
    refine nx (e' := [.par u5, .val v1, .val v2, .val v3, .val v4, .val (.tup [.int 0, .int 1, .int 0, .int 1]), .val (.tup [.int 0, .int 0, .int 1, .int 1, .int 2, .int 2]), .val (.tup [.int 0, .int 0, .int 1, .int 1, .int 2, .int 2, .int 3, .int 3, .int 4, .int 4, .int 5, .int 5]), .val v5, .own [.str "ring", .str "fine", .str "ring", .str "ring", .str "operation", .str "fine", .str "ring", .str "operation", .str "operation", .str "fine", .str "web", .str "many 5", .str "ring", .str "ring", .str "operation", .str "operation", .str "many 5", .str "fine", .str "ring", .str "ring", .str "operation", .str "operation"], .own [.str "ring", .str "fine", .str "ring", .str "ring", .str "operation", .str "fine", .str "ring", .str "operation", .str "operation", .str "fine", .str "web", .str "many 5", .str "ring", .str "ring", .str "operation", .str "operation", .str "many 5", .str "fine"], .clo 0]) (Eq.trans (app (met_exc (r := .str "operation") (bd_clo (ds := [.tup [.int 0, .int 0, .int 1, .int 1, .int 2, .int 2, .int 3, .int 3, .int 4, .int 4, .int 5, .int 5], .tup [.int 0, .int 1, .int 0, .int 1]]) (rs := [.d (.tup [.int 0, .int 0, .int 1, .int 1, .int 2, .int 2, .int 3, .int 3, .int 4, .int 4, .int 5, .int 5]), .d (.tup [.int 0, .int 1, .int 0, .int 1])]) (e1 := [.par u5, .val v1, .val v2, .val v3, .val v4, .val (.tup [.int 0, .int 1, .int 0, .int 1]), .val (.tup [.int 0, .int 0, .int 1, .int 1, .int 2, .int 2]), .val (.tup [.int 0, .int 0, .int 1, .int 1, .int 2, .int 2, .int 3, .int 3, .int 4, .int 4, .int 5, .int 5]), .val v5, .own [.str "ring", .str "fine", .str "ring", .str "ring", .str "operation", .str "fine", .str "ring", .str "operation", .str "operation", .str "fine", .str "web", .str "many 5", .str "ring", .str "ring", .str "operation", .str "operation", .str "many 5", .str "fine", .str "ring", .str "ring", .str "operation"], .own [.str "ring", .str "fine", .str "ring", .str "ring", .str "operation", .str "fine", .str "ring", .str "operation", .str "operation", .str "fine", .str "web", .str "many 5", .str "ring", .str "ring", .str "operation", .str "operation", .str "many 5", .str "fine"], .clo 0]) (e2 := [.par u5, .val v1, .val v2, .val v3, .val v4, .val (.tup [.int 0, .int 1, .int 0, .int 1]), .val (.tup [.int 0, .int 0, .int 1, .int 1, .int 2, .int 2]), .val (.tup [.int 0, .int 0, .int 1, .int 1, .int 2, .int 2, .int 3, .int 3, .int 4, .int 4, .int 5, .int 5]), .val v5, .own [.str "ring", .str "fine", .str "ring", .str "ring", .str "operation", .str "fine", .str "ring", .str "operation", .str "operation", .str "fine", .str "web", .str "many 5", .str "ring", .str "ring", .str "operation", .str "operation", .str "many 5", .str "fine", .str "ring", .str "ring", .str "operation"], .own [.str "ring", .str "fine", .str "ring", .str "ring", .str "operation", .str "fine", .str "ring", .str "operation", .str "operation", .str "fine", .str "web", .str "many 5", .str "ring", .str "ring", .str "operation", .str "operation", .str "many 5", .str "fine"], .clo 0]) (ec := [.val (.tup [.int 0, .int 0, .int 1, .int 1, .int 2, .int 2, .int 3, .int 3, .int 4, .int 4, .int 5, .int 5]), .val (.tup [.int 0, .int 1, .int 0, .int 1]), .val v5]) (by rfl) (by rfl) (by rfl) (by kernel_rfl) (by kernel_rfl) (by kernel_rfl) (fn_exc (ds := [.tup [.int 0, .int 0, .int 1, .int 1, .int 2, .int 2, .int 3, .int 3, .int 4, .int 4, .int 5, .int 5], .tup [.int 0, .int 1, .int 0, .int 1], v5]) (rs := [.d (.tup [.int 0, .int 0, .int 1, .int 1, .int 2, .int 2, .int 3, .int 3, .int 4, .int 4, .int 5, .int 5]), .d (.tup [.int 0, .int 1, .int 0, .int 1]), .d v5]) (e1 := [.val (.tup [.int 0, .int 0, .int 1, .int 1, .int 2, .int 2, .int 3, .int 3, .int 4, .int 4, .int 5, .int 5]), .val (.tup [.int 0, .int 1, .int 0, .int 1]), .val v5]) (e2 := [.val (.tup [.int 0, .int 0, .int 1, .int 1, .int 2, .int 2, .int 3, .int 3, .int 4, .int 4, .int 5, .int 5]), .val (.tup [.int 0, .int 1, .int 0, .int 1]), .val v5]) (by kernel_rfl) (by kernel_rfl) (by dsimp only; exact f21 v5))) rfl)) (by kernel_rfl)) ?_
    refine nx (e' := [.par u5, .val v1, .val v2, .val v3, .val v4, .val (.tup [.int 0, .int 1, .int 0, .int 1]), .val (.tup [.int 0, .int 0, .int 1, .int 1, .int 2, .int 2]), .val (.tup [.int 0, .int 0, .int 1, .int 1, .int 2, .int 2, .int 3, .int 3, .int 4, .int 4, .int 5, .int 5]), .val v5, .own [.str "ring", .str "fine", .str "ring", .str "ring", .str "operation", .str "fine", .str "ring", .str "operation", .str "operation", .str "fine", .str "web", .str "many 5", .str "ring", .str "ring", .str "operation", .str "operation", .str "many 5", .str "fine", .str "ring", .str "ring", .str "operation", .str "operation", .str "many 5"], .own [.str "ring", .str "fine", .str "ring", .str "ring", .str "operation", .str "fine", .str "ring", .str "operation", .str "operation", .str "fine", .str "web", .str "many 5", .str "ring", .str "ring", .str "operation", .str "operation", .str "many 5", .str "fine"], .clo 0]) (Eq.trans (app (met_exc (r := .str "many 5") (bd_clo (ds := [.tup [.int 0, .int 0, .int 1, .int 1, .int 2, .int 2, .int 3, .int 3, .int 4, .int 4, .int 5, .int 5], .tup [.int 0, .int 0, .int 1, .int 1, .int 2, .int 2, .int 3, .int 3, .int 4, .int 4, .int 5, .int 5]]) (rs := [.d (.tup [.int 0, .int 0, .int 1, .int 1, .int 2, .int 2, .int 3, .int 3, .int 4, .int 4, .int 5, .int 5]), .d (.tup [.int 0, .int 0, .int 1, .int 1, .int 2, .int 2, .int 3, .int 3, .int 4, .int 4, .int 5, .int 5])]) (e1 := [.par u5, .val v1, .val v2, .val v3, .val v4, .val (.tup [.int 0, .int 1, .int 0, .int 1]), .val (.tup [.int 0, .int 0, .int 1, .int 1, .int 2, .int 2]), .val (.tup [.int 0, .int 0, .int 1, .int 1, .int 2, .int 2, .int 3, .int 3, .int 4, .int 4, .int 5, .int 5]), .val v5, .own [.str "ring", .str "fine", .str "ring", .str "ring", .str "operation", .str "fine", .str "ring", .str "operation", .str "operation", .str "fine", .str "web", .str "many 5", .str "ring", .str "ring", .str "operation", .str "operation", .str "many 5", .str "fine", .str "ring", .str "ring", .str "operation", .str "operation"], .own [.str "ring", .str "fine", .str "ring", .str "ring", .str "operation", .str "fine", .str "ring", .str "operation", .str "operation", .str "fine", .str "web", .str "many 5", .str "ring", .str "ring", .str "operation", .str "operation", .str "many 5", .str "fine"], .clo 0]) (e2 := [.par u5, .val v1, .val v2, .val v3, .val v4, .val (.tup [.int 0, .int 1, .int 0, .int 1]), .val (.tup [.int 0, .int 0, .int 1, .int 1, .int 2, .int 2]), .val (.tup [.int 0, .int 0, .int 1, .int 1, .int 2, .int 2, .int 3, .int 3, .int 4, .int 4, .int 5, .int 5]), .val v5, .own [.str "ring", .str "fine", .str "ring", .str "ring", .str "operation", .str "fine", .str "ring", .str "operation", .str "operation", .str "fine", .str "web", .str "many 5", .str "ring", .str "ring", .str "operation", .str "operation", .str "many 5", .str "fine", .str "ring", .str "ring", .str "operation", .str "operation"], .own [.str "ring", .str "fine", .str "ring", .str "ring", .str "operation", .str "fine", .str "ring", .str "operation", .str "operation", .str "fine", .str "web", .str "many 5", .str "ring", .str "ring", .str "operation", .str "operation", .str "many 5", .str "fine"], .clo 0]) (ec := [.val (.tup [.int 0, .int 0, .int 1, .int 1, .int 2, .int 2, .int 3, .int 3, .int 4, .int 4, .int 5, .int 5]), .val (.tup [.int 0, .int 0, .int 1, .int 1, .int 2, .int 2, .int 3, .int 3, .int 4, .int 4, .int 5, .int 5]), .val v5]) (by rfl) (by rfl) (by rfl) (by kernel_rfl) (by kernel_rfl) (by kernel_rfl) (fn_exc (ds := [.tup [.int 0, .int 0, .int 1, .int 1, .int 2, .int 2, .int 3, .int 3, .int 4, .int 4, .int 5, .int 5], .tup [.int 0, .int 0, .int 1, .int 1, .int 2, .int 2, .int 3, .int 3, .int 4, .int 4, .int 5, .int 5], v5]) (rs := [.d (.tup [.int 0, .int 0, .int 1, .int 1, .int 2, .int 2, .int 3, .int 3, .int 4, .int 4, .int 5, .int 5]), .d (.tup [.int 0, .int 0, .int 1, .int 1, .int 2, .int 2, .int 3, .int 3, .int 4, .int 4, .int 5, .int 5]), .d v5]) (e1 := [.val (.tup [.int 0, .int 0, .int 1, .int 1, .int 2, .int 2, .int 3, .int 3, .int 4, .int 4, .int 5, .int 5]), .val (.tup [.int 0, .int 0, .int 1, .int 1, .int 2, .int 2, .int 3, .int 3, .int 4, .int 4, .int 5, .int 5]), .val v5]) (e2 := [.val (.tup [.int 0, .int 0, .int 1, .int 1, .int 2, .int 2, .int 3, .int 3, .int 4, .int 4, .int 5, .int 5]), .val (.tup [.int 0, .int 0, .int 1, .int 1, .int 2, .int 2, .int 3, .int 3, .int 4, .int 4, .int 5, .int 5]), .val v5]) (by kernel_rfl) (by kernel_rfl) (by dsimp only; exact f22 v5 h_v5))) (by kernel_rfl))) (by kernel_rfl)) ?_
    refine nx (e' := [.par u5, .val v1, .val v2, .val v3, .val v4, .val (.tup [.int 0, .int 1, .int 0, .int 1]), .val (.tup [.int 0, .int 0, .int 1, .int 1, .int 2, .int 2]), .val (.tup [.int 0, .int 0, .int 1, .int 1, .int 2, .int 2, .int 3, .int 3, .int 4, .int 4, .int 5, .int 5]), .val v5, .own [.str "ring", .str "fine", .str "ring", .str "ring", .str "operation", .str "fine", .str "ring", .str "operation", .str "operation", .str "fine", .str "web", .str "many 5", .str "ring", .str "ring", .str "operation", .str "operation", .str "many 5", .str "fine", .str "ring", .str "ring", .str "operation", .str "operation", .str "many 5", .str "fine"], .own [.str "ring", .str "fine", .str "ring", .str "ring", .str "operation", .str "fine", .str "ring", .str "operation", .str "operation", .str "fine", .str "web", .str "many 5", .str "ring", .str "ring", .str "operation", .str "operation", .str "many 5", .str "fine"], .clo 0]) (Eq.trans (app (met_ok (bd_clo (ds := [.tup [.int 0, .int 1, .int 0, .int 1], .tup [.int 0, .int 1, .int 0, .int 1]]) (rs := [.d (.tup [.int 0, .int 1, .int 0, .int 1]), .d (.tup [.int 0, .int 1, .int 0, .int 1])]) (e1 := [.par u5, .val v1, .val v2, .val v3, .val v4, .val (.tup [.int 0, .int 1, .int 0, .int 1]), .val (.tup [.int 0, .int 0, .int 1, .int 1, .int 2, .int 2]), .val (.tup [.int 0, .int 0, .int 1, .int 1, .int 2, .int 2, .int 3, .int 3, .int 4, .int 4, .int 5, .int 5]), .val v5, .own [.str "ring", .str "fine", .str "ring", .str "ring", .str "operation", .str "fine", .str "ring", .str "operation", .str "operation", .str "fine", .str "web", .str "many 5", .str "ring", .str "ring", .str "operation", .str "operation", .str "many 5", .str "fine", .str "ring", .str "ring", .str "operation", .str "operation", .str "many 5"], .own [.str "ring", .str "fine", .str "ring", .str "ring", .str "operation", .str "fine", .str "ring", .str "operation", .str "operation", .str "fine", .str "web", .str "many 5", .str "ring", .str "ring", .str "operation", .str "operation", .str "many 5", .str "fine"], .clo 0]) (e2 := [.par u5, .val v1, .val v2, .val v3, .val v4, .val (.tup [.int 0, .int 1, .int 0, .int 1]), .val (.tup [.int 0, .int 0, .int 1, .int 1, .int 2, .int 2]), .val (.tup [.int 0, .int 0, .int 1, .int 1, .int 2, .int 2, .int 3, .int 3, .int 4, .int 4, .int 5, .int 5]), .val v5, .own [.str "ring", .str "fine", .str "ring", .str "ring", .str "operation", .str "fine", .str "ring", .str "operation", .str "operation", .str "fine", .str "web", .str "many 5", .str "ring", .str "ring", .str "operation", .str "operation", .str "many 5", .str "fine", .str "ring", .str "ring", .str "operation", .str "operation", .str "many 5"], .own [.str "ring", .str "fine", .str "ring", .str "ring", .str "operation", .str "fine", .str "ring", .str "operation", .str "operation", .str "fine", .str "web", .str "many 5", .str "ring", .str "ring", .str "operation", .str "operation", .str "many 5", .str "fine"], .clo 0]) (ec := [.val (.tup [.int 0, .int 1, .int 0, .int 1]), .val (.tup [.int 0, .int 1, .int 0, .int 1]), .val v5]) (by rfl) (by rfl) (by rfl) (by kernel_rfl) (by kernel_rfl) (by kernel_rfl) (fn_ok (ds := [.tup [.int 0, .int 1, .int 0, .int 1], .tup [.int 0, .int 1, .int 0, .int 1], v5]) (rs := [.d (.tup [.int 0, .int 1, .int 0, .int 1]), .d (.tup [.int 0, .int 1, .int 0, .int 1]), .d v5]) (e1 := [.val (.tup [.int 0, .int 1, .int 0, .int 1]), .val (.tup [.int 0, .int 1, .int 0, .int 1]), .val v5]) (e2 := [.val (.tup [.int 0, .int 1, .int 0, .int 1]), .val (.tup [.int 0, .int 1, .int 0, .int 1]), .val v5]) (by kernel_rfl) (by kernel_rfl) (by dsimp only; exact f23 v5 h_v5))))) (by kernel_rfl)) ?_
    exact (by kernel_rfl)) (fnilC))) ?_
  exact Eq.trans (congrArg lastB (retV (andV (e' := [.par u5, .val v1, .val v2, .val v3, .val v4, .val (.tup [.int 0, .int 1, .int 0, .int 1]), .val (.tup [.int 0, .int 0, .int 1, .int 1, .int 2, .int 2]), .val (.tup [.int 0, .int 0, .int 1, .int 1, .int 2, .int 2, .int 3, .int 3, .int 4, .int 4, .int 5, .int 5]), .val v5, .own [.str "ring", .str "fine", .str "ring", .str "ring", .str "operation", .str "fine", .str "ring", .str "operation", .str "operation", .str "fine", .str "web", .str "many 5", .str "ring", .str "ring", .str "operation", .str "operation", .str "many 5", .str "fine", .str "ring", .str "ring", .str "operation", .str "operation", .str "many 5", .str "fine"], .own [.str "ring", .str "fine", .str "ring", .str "ring", .str "operation", .str "fine", .str "ring", .str "operation", .str "operation", .str "fine", .str "web", .str "many 5", .str "ring", .str "ring", .str "operation", .str "operation", .str "many 5", .str "fine", .str "ring", .str "ring", .str "operation", .str "operation", .str "many 5", .str "fine"], .clo 0]) (e'' := [.par u5, .val v1, .val v2, .val v3, .val v4, .val (.tup [.int 0, .int 1, .int 0, .int 1]), .val (.tup [.int 0, .int 0, .int 1, .int 1, .int 2, .int 2]), .val (.tup [.int 0, .int 0, .int 1, .int 1, .int 2, .int 2, .int 3, .int 3, .int 4, .int 4, .int 5, .int 5]), .val v5, .own [.str "ring", .str "fine", .str "ring", .str "ring", .str "operation", .str "fine", .str "ring", .str "operation", .str "operation", .str "fine", .str "web", .str "many 5", .str "ring", .str "ring", .str "operation", .str "operation", .str "many 5", .str "fine", .str "ring", .str "ring", .str "operation", .str "operation", .str "many 5", .str "fine"], .own [.str "ring", .str "fine", .str "ring", .str "ring", .str "operation", .str "fine", .str "ring", .str "operation", .str "operation", .str "fine", .str "web", .str "many 5", .str "ring", .str "ring", .str "operation", .str "operation", .str "many 5", .str "fine", .str "ring", .str "ring", .str "operation", .str "operation", .str "many 5", .str "fine"], .clo 0]) (by kernel_rfl) (andV (e' := [.par u5, .val v1, .val v2, .val v3, .val v4, .val (.tup [.int 0, .int 1, .int 0, .int 1]), .val (.tup [.int 0, .int 0, .int 1, .int 1, .int 2, .int 2]), .val (.tup [.int 0, .int 0, .int 1, .int 1, .int 2, .int 2, .int 3, .int 3, .int 4, .int 4, .int 5, .int 5]), .val v5, .own [.str "ring", .str "fine", .str "ring", .str "ring", .str "operation", .str "fine", .str "ring", .str "operation", .str "operation", .str "fine", .str "web", .str "many 5", .str "ring", .str "ring", .str "operation", .str "operation", .str "many 5", .str "fine", .str "ring", .str "ring", .str "operation", .str "operation", .str "many 5", .str "fine"], .own [.str "ring", .str "fine", .str "ring", .str "ring", .str "operation", .str "fine", .str "ring", .str "operation", .str "operation", .str "fine", .str "web", .str "many 5", .str "ring", .str "ring", .str "operation", .str "operation", .str "many 5", .str "fine", .str "ring", .str "ring", .str "operation", .str "operation", .str "many 5", .str "fine"], .clo 0]) (e'' := [.par u5, .val v1, .val v2, .val v3, .val v4, .val (.tup [.int 0, .int 1, .int 0, .int 1]), .val (.tup [.int 0, .int 0, .int 1, .int 1, .int 2, .int 2]), .val (.tup [.int 0, .int 0, .int 1, .int 1, .int 2, .int 2, .int 3, .int 3, .int 4, .int 4, .int 5, .int 5]), .val v5, .own [.str "ring", .str "fine", .str "ring", .str "ring", .str "operation", .str "fine", .str "ring", .str "operation", .str "operation", .str "fine", .str "web", .str "many 5", .str "ring", .str "ring", .str "operation", .str "operation", .str "many 5", .str "fine", .str "ring", .str "ring", .str "operation", .str "operation", .str "many 5", .str "fine"], .own [.str "ring", .str "fine", .str "ring", .str "ring", .str "operation", .str "fine", .str "ring", .str "operation", .str "operation", .str "fine", .str "web", .str "many 5", .str "ring", .str "ring", .str "operation", .str "operation", .str "many 5", .str "fine", .str "ring", .str "ring", .str "operation", .str "operation", .str "many 5", .str "fine"], .clo 0]) (by rcases h_v2 with rfl | rfl | rfl | rfl | rfl | rfl | rfl | rfl | rfl | rfl <;> kernel_rfl) (by rcases h_v5 with rfl | rfl | rfl | rfl | rfl | rfl | rfl | rfl <;> kernel_rfl))))) (by rfl)
theorem f24  : m_flips_or_pair [.tup [.int 0, .int 0, .int 1, .int 1, .int 2, .int 2, .int 3, .int 3, .int 4, .int 4, .int 5, .int 5], .non] = .exc 1 .non := by
  kernel_rfl
theorem f25  : okB (m_flips_or_pair [.tup [.int 0, .int 1, .int 4, .int 0, .int 3, .int 4, .int 2, .int 3, .int 1, .int 2], .tup [.int 0, .int 1, .int 4, .int 0, .int 3, .int 4, .int 2, .int 3, .int 1, .int 2]]) = true := by
  kernel_rfl
theorem f26  : okB (m_rings_of [.obj 0 [.int 5, .tup [.tup [.int 0, .int 1], .tup [.int 0, .int 2]]]]) = true := by
  exact FO.rings_of_ok
theorem m_true : ∀ ns : List Int, ns.length ≤ 63 → m_law_k46 [.scr ns] = .ok (.d (.bl true), []) := by
  intro ns _
  obtain ⟨x, y, r, hr, e⟩ := headB pack_ok right__law_right right__law_right ns (c := 4) (by decide) .no .no (List.replicate 3 .no)
  have hl : r.length = 3 := hr
  match r, hl with
  | [r0, r1, r2], _ =>
    have q : b_law_k46 (.val (.scr ns) :: .no :: .no :: List.replicate 3 .no) = _ := nx e rfl
    have hx : lastB (b_law_k46 (.val (.scr ns) :: .no :: .no :: List.replicate 3 .no)) = some (.val (.scr ns)) := by
      rw [q]
      refine nxL (e' := [.val (.scr ns), x, y, .val (.tup [.int 0, .int 0, .int 1, .int 1, .int 2, .int 2, .int 3, .int 3, .int 4, .int 4, .int 5, .int 5]), .val (.tup [.int 0, .int 1, .int 4, .int 0, .int 3, .int 4, .int 2, .int 3, .int 1, .int 2]), r2]) (by kernel_rfl) ?_
      refine nxL (e' := [.val (.scr ns), x, y, .val (.tup [.int 0, .int 0, .int 1, .int 1, .int 2, .int 2, .int 3, .int 3, .int 4, .int 4, .int 5, .int 5]), .val (.tup [.int 0, .int 1, .int 4, .int 0, .int 3, .int 4, .int 2, .int 3, .int 1, .int 2]), .own [.str "ring"]]) (Eq.trans (set_ (lst1 (met_exc (r := .str "ring") (fn_exc (ds := [.tup [.int 0, .int 0, .int 1, .int 1, .int 2, .int 2, .int 3, .int 3, .int 4, .int 4, .int 5, .int 5], .non]) (rs := [.d (.tup [.int 0, .int 0, .int 1, .int 1, .int 2, .int 2, .int 3, .int 3, .int 4, .int 4, .int 5, .int 5]), .d .non]) (e1 := [.val (.scr ns), x, y, .val (.tup [.int 0, .int 0, .int 1, .int 1, .int 2, .int 2, .int 3, .int 3, .int 4, .int 4, .int 5, .int 5]), .val (.tup [.int 0, .int 1, .int 4, .int 0, .int 3, .int 4, .int 2, .int 3, .int 1, .int 2]), r2]) (e2 := [.val (.scr ns), x, y, .val (.tup [.int 0, .int 0, .int 1, .int 1, .int 2, .int 2, .int 3, .int 3, .int 4, .int 4, .int 5, .int 5]), .val (.tup [.int 0, .int 1, .int 4, .int 0, .int 3, .int 4, .int 2, .int 3, .int 1, .int 2]), r2]) (by kernel_rfl) (by kernel_rfl) (by exact f24)) rfl))) (by kernel_rfl)) ?_
      refine nxL (e' := [.val (.scr ns), x, y, .val (.tup [.int 0, .int 0, .int 1, .int 1, .int 2, .int 2, .int 3, .int 3, .int 4, .int 4, .int 5, .int 5]), .val (.tup [.int 0, .int 1, .int 4, .int 0, .int 3, .int 4, .int 2, .int 3, .int 1, .int 2]), .own [.str "ring", .str "fine"]]) (Eq.trans (app (met_ok (fn_ok (ds := [.tup [.int 0, .int 1, .int 4, .int 0, .int 3, .int 4, .int 2, .int 3, .int 1, .int 2], .tup [.int 0, .int 1, .int 4, .int 0, .int 3, .int 4, .int 2, .int 3, .int 1, .int 2]]) (rs := [.d (.tup [.int 0, .int 1, .int 4, .int 0, .int 3, .int 4, .int 2, .int 3, .int 1, .int 2]), .d (.tup [.int 0, .int 1, .int 4, .int 0, .int 3, .int 4, .int 2, .int 3, .int 1, .int 2])]) (e1 := [.val (.scr ns), x, y, .val (.tup [.int 0, .int 0, .int 1, .int 1, .int 2, .int 2, .int 3, .int 3, .int 4, .int 4, .int 5, .int 5]), .val (.tup [.int 0, .int 1, .int 4, .int 0, .int 3, .int 4, .int 2, .int 3, .int 1, .int 2]), .own [.str "ring"]]) (e2 := [.val (.scr ns), x, y, .val (.tup [.int 0, .int 0, .int 1, .int 1, .int 2, .int 2, .int 3, .int 3, .int 4, .int 4, .int 5, .int 5]), .val (.tup [.int 0, .int 1, .int 4, .int 0, .int 3, .int 4, .int 2, .int 3, .int 1, .int 2]), .own [.str "ring"]]) (by kernel_rfl) (by kernel_rfl) (by exact f25)))) (by kernel_rfl)) ?_
      refine nxL (e' := [.val (.scr ns), x, y, .val (.tup [.int 0, .int 0, .int 1, .int 1, .int 2, .int 2, .int 3, .int 3, .int 4, .int 4, .int 5, .int 5]), .val (.tup [.int 0, .int 1, .int 4, .int 0, .int 3, .int 4, .int 2, .int 3, .int 1, .int 2]), .own [.str "ring", .str "fine"]]) (Eq.trans (if_ (e' := [.val (.scr ns), x, y, .val (.tup [.int 0, .int 0, .int 1, .int 1, .int 2, .int 2, .int 3, .int 3, .int 4, .int 4, .int 5, .int 5]), .val (.tup [.int 0, .int 1, .int 4, .int 0, .int 3, .int 4, .int 2, .int 3, .int 1, .int 2]), .own [.str "ring", .str "fine"]]) (Eq.trans (or_ (e' := [.val (.scr ns), x, y, .val (.tup [.int 0, .int 0, .int 1, .int 1, .int 2, .int 2, .int 3, .int 3, .int 4, .int 4, .int 5, .int 5]), .val (.tup [.int 0, .int 1, .int 4, .int 0, .int 3, .int 4, .int 2, .int 3, .int 1, .int 2]), .own [.str "ring", .str "fine"]]) (by kernel_rfl)) (by kernel_rfl))) rfl) ?_
      exact (Eq.trans (congrArg lastB (ret_ (y := .ok (.d (.bl true), [.val (.scr ns), x, y, .val (.tup [.int 0, .int 0, .int 1, .int 1, .int 2, .int 2, .int 3, .int 3, .int 4, .int 4, .int 5, .int 5]), .val (.tup [.int 0, .int 1, .int 4, .int 0, .int 3, .int 4, .int 2, .int 3, .int 1, .int 2]), .own [.str "ring", .str "fine"]])) (Eq.trans (binL (met_ok (fn_ok (ds := [.obj 0 [.int 5, .tup [.tup [.int 0, .int 1], .tup [.int 0, .int 2]]]]) (rs := [.d (.obj 0 [.int 5, .tup [.tup [.int 0, .int 1], .tup [.int 0, .int 2]]])]) (e1 := [.val (.scr ns), x, y, .val (.tup [.int 0, .int 0, .int 1, .int 1, .int 2, .int 2, .int 3, .int 3, .int 4, .int 4, .int 5, .int 5]), .val (.tup [.int 0, .int 1, .int 4, .int 0, .int 3, .int 4, .int 2, .int 3, .int 1, .int 2]), .own [.str "ring", .str "fine"]]) (e2 := [.val (.scr ns), x, y, .val (.tup [.int 0, .int 0, .int 1, .int 1, .int 2, .int 2, .int 3, .int 3, .int 4, .int 4, .int 5, .int 5]), .val (.tup [.int 0, .int 1, .int 4, .int 0, .int 3, .int 4, .int 2, .int 3, .int 1, .int 2]), .own [.str "ring", .str "fine"]]) (by kernel_rfl) (by kernel_rfl) (by exact f26)))) (by kernel_rfl)))) (by rfl))
    obtain ⟨e2, h2, _⟩ := lastB_is hx
    show (b_law_k46 (.val (.scr ns) :: .no :: .no :: List.replicate 3 .no)).bind _ = _
    rw [h2]
    rfl
end ME_k46
namespace G_k46
open PySem PySem.Spec PyProof.Rows L2 TN PL
def topS (i : Nat) : Stmt := PySem.Challenge.pw_tiedanew_k46_errors_of_flips.main.body.getD i (.Pass ⟨0, 0, 0, 0⟩)
abbrev FLD : List Str := ["_knots", "_ties"]
structure Bt (mg : Str → Option Value) : Prop where
  b_all : mg "all" = none
  b_tuple : mg "tuple" = none
  b_min : mg "min" = none
  b_range : mg "range" = none
  b_sorted : mg "sorted" = none
  b_isinstance : mg "isinstance" = none
  b_int : mg "int" = none
  b_len : mg "len" = none
  b_max : mg "max" = none
  b_list : mg "list" = none
  b_bool : mg "bool" = none
  b_set : mg "set" = none
  b_abs : mg "abs" = none
  b_zip : mg "zip" = none
  b_repr : mg "repr" = none
  c_MOST_KNOTS : ∃ t, mg "MOST_KNOTS" = some (.int 10 t)
  c_MOST_LISTED : ∃ t, mg "MOST_LISTED" = some (.int 5 t)
  c_MOST_CHORDS : ∃ t, mg "MOST_CHORDS" = some (.int 5 t)
  c_MOST_FLIPS : ∃ t, mg "MOST_FLIPS" = some (.int 200 t)
abbrev s_Web_p_knots : Stmt := inCls (topS 15) 1
theorem sc_Web_p_knots : FnScope ["self"] ["self"] (defScope s_Web_p_knots) := ⟨rfl, rfl, rfl, by decide +kernel, rfl, by decide +kernel, by decide +kernel⟩
theorem k_Web_p_knots {P : Program} {w : World} {K : PySem.W.Frag} {mg : Str → Option Value} {base : Heap} {z : Z} {C p g : Addr} (W : ClB K mg z "Web" C FLD) {oc kV doc pm cdv ct : Value} {an od : Option Addr} {osl : Array (Option Value)} (hp : PropOf K C "knots" p g) (lk : K.lookup g = some ⟨oc, od, .func (PySem.W.fnOf "knots" "Web.knots" (defArgs s_Web_p_knots) (defBody s_Web_p_knots) (defScope s_Web_p_knots) .none kV doc pm an cdv ct), osl⟩) (hcd : PySem.W.codeIn K cdv "Web.knots" = true) : PrB P w K mg base C "knots" "_knots" :=
  ⟨p, g, _, hp, fn_getter lk hcd sc_Web_p_knots rfl rfl W.kit.cl (W.no _ (by decide)), .all fun us hl => match us, hl with | [_], _ => rfl⟩
abbrev s_Web_p_ties : Stmt := inCls (topS 15) 2
theorem sc_Web_p_ties : FnScope ["self"] ["self"] (defScope s_Web_p_ties) := ⟨rfl, rfl, rfl, by decide +kernel, rfl, by decide +kernel, by decide +kernel⟩
theorem k_Web_p_ties {P : Program} {w : World} {K : PySem.W.Frag} {mg : Str → Option Value} {base : Heap} {z : Z} {C p g : Addr} (W : ClB K mg z "Web" C FLD) {oc kV doc pm cdv ct : Value} {an od : Option Addr} {osl : Array (Option Value)} (hp : PropOf K C "ties" p g) (lk : K.lookup g = some ⟨oc, od, .func (PySem.W.fnOf "ties" "Web.ties" (defArgs s_Web_p_ties) (defBody s_Web_p_ties) (defScope s_Web_p_ties) .none kV doc pm an cdv ct), osl⟩) (hcd : PySem.W.codeIn K cdv "Web.ties" = true) : PrB P w K mg base C "ties" "_ties" :=
  ⟨p, g, _, hp, fn_getter lk hcd sc_Web_p_ties rfl rfl W.kit.cl (W.no _ (by decide)), .all fun us hl => match us, hl with | [_], _ => rfl⟩
abbrev s_is_whole : Stmt := topS 1
theorem sc_is_whole : FnScope ["value"] ["value"] (defScope s_is_whole) := ⟨rfl, rfl, rfl, by decide +kernel, rfl, by decide +kernel, by decide +kernel⟩
theorem k_is_whole {P : Program} {w : World} {K : PySem.W.Frag} {mg : Str → Option Value} {base : Heap} {z : Z} (hK : K = z.K) (B : Bt mg) {f : Addr} {fd : FuncData} (F : Fun K "is_whole" "is_whole" s_is_whole f fd) (hm : mg "is_whole" = some (.ref f)) : FnB P w K mg base z 1 "is_whole" ["value"] false m_is_whole := by
  refine ⟨f, fd, fn_ok (k := 0) F sc_is_whole hK (fun cdv A outer s H E G H' M o => ?_), hm, F.kp, F.binds (fun _ _ _ _ _ _ us hl => match us, hl with | [_], _ => rfl)⟩
  exact wss_one (ws_ret (we_and (we_bi (cd_isi o.K) B.b_isinstance (by first | exact PySem.boot_isinstance | decide +kernel) (wa_cons (we_var 0) (wa_cons (we_tyName B.b_int (by first | exact PySem.boot_int | decide +kernel)) (wa_nil)))) (we_one (we_not (we_bi (cd_isi o.K) B.b_isinstance (by first | exact PySem.boot_isinstance | decide +kernel) (wa_cons (we_var 0) (wa_cons (we_tyName B.b_bool (by first | exact PySem.boot_bool | decide +kernel)) (wa_nil))))))))
abbrev s_is_below : Stmt := topS 2
theorem sc_is_below : FnScope ["value", "limit"] ["value", "limit"] (defScope s_is_below) := ⟨rfl, rfl, rfl, by decide +kernel, rfl, by decide +kernel, by decide +kernel⟩
theorem k_is_below {P : Program} {w : World} {K : PySem.W.Frag} {mg : Str → Option Value} {base : Heap} {z : Z} (hK : K = z.K) (B : Bt mg) {f : Addr} {fd : FuncData} (F : Fun K "is_below" "is_below" s_is_below f fd) (hm : mg "is_below" = some (.ref f)) (h_is_whole : FnB P w K mg base z 1 "is_whole" ["value"] false m_is_whole) : FnB P w K mg base z 2 "is_below" ["value", "limit"] false m_is_below := by
  refine ⟨f, fd, fn_ok (k := 1) F sc_is_below hK (fun cdv A outer s H E G H' M o => ?_), hm, F.kp, F.binds (fun _ _ _ _ _ _ us hl => match us, hl with | [_, _], _ => rfl)⟩
  exact wss_one (ws_ret (we_and (we_fn (FnB_at h_is_whole G H' M) o (wa_cons (we_var 0) (wa_nil))) (we_one (we_chain od_le od_lt (we_int) (we_var 0) (we_var 1)))))
abbrev s_are_below : Stmt := topS 3
theorem sc_are_below : FnScope ["value", "limit", "each"] ["value", "limit"] (defScope s_are_below) := ⟨rfl, rfl, rfl, by decide +kernel, rfl, by decide +kernel, by decide +kernel⟩
theorem k_are_below {P : Program} {w : World} {K : PySem.W.Frag} {mg : Str → Option Value} {base : Heap} {z : Z} (hK : K = z.K) (B : Bt mg) {f : Addr} {fd : FuncData} (F : Fun K "are_below" "are_below" s_are_below f fd) (hm : mg "are_below" = some (.ref f)) (h_is_below : FnB P w K mg base z 2 "is_below" ["value", "limit"] false m_is_below) : FnB P w K mg base z 3 "are_below" ["value", "limit"] false m_are_below := by
  refine ⟨f, fd, fn_ok (k := 2) F sc_are_below hK (fun cdv A outer s H E G H' M o => ?_), hm, F.kp, F.binds (fun _ _ _ _ _ _ us hl => match us, hl with | [_, _], _ => rfl)⟩
  exact wss_one (ws_ret (we_and (we_bi (cd_isi o.K) B.b_isinstance (by first | exact PySem.boot_isinstance | decide +kernel) (wa_cons (we_var 0) (wa_cons (we_tyName B.b_tuple (by first | exact PySem.boot_tuple | decide +kernel)) (wa_nil)))) (we_one (we_bi (cd_all o.K o.calm) B.b_all (by first | exact PySem.boot_all | decide +kernel) (wa_cons (we_lc (own := [("each", 2)]) (is := [2]) o (blkOk_by (by first | (show blkC ["value", "limit", "each"] (defScope s_are_below) _ _ = true; decide +kernel) | kernel_rfl | with_unfolding_all rfl)) (wi_seq o.K (we_var 0)) (fun _ _ _ _ _ => wg_name (o.blk _ _ _ _ _).nd 2) (fun _ _ _ _ _ => wts_nil) (fun _ _ _ _ _ => we_fn (FnB_at h_is_below G H' M) (o.blk _ _ _ _ _) (wa_cons (we_var 2) (wa_cons (we_var 1) (wa_nil))))) (wa_nil))))))
abbrev s_is_ascending : Stmt := topS 4
theorem sc_is_ascending : FnScope ["value", "limit", "low", "high"] ["value", "limit"] (defScope s_is_ascending) := ⟨rfl, rfl, rfl, by decide +kernel, rfl, by decide +kernel, by decide +kernel⟩
theorem k_is_ascending {P : Program} {w : World} {K : PySem.W.Frag} {mg : Str → Option Value} {base : Heap} {z : Z} (hK : K = z.K) (B : Bt mg) {f : Addr} {fd : FuncData} (F : Fun K "is_ascending" "is_ascending" s_is_ascending f fd) (hm : mg "is_ascending" = some (.ref f)) (h_are_below : FnB P w K mg base z 3 "are_below" ["value", "limit"] false m_are_below) : FnB P w K mg base z 4 "is_ascending" ["value", "limit"] false m_is_ascending := by
  refine ⟨f, fd, fn_ok (k := 3) F sc_is_ascending hK (fun cdv A outer s H E G H' M o => ?_), hm, F.kp, F.binds (fun _ _ _ _ _ _ us hl => match us, hl with | [_, _], _ => rfl)⟩
  exact wss_cons (ws_if (wt_not (wt_tru o.K (we_fn (FnB_at h_are_below G H' M) o (wa_cons (we_var 0) (wa_cons (we_var 1) (wa_nil)))))) (wss_one (ws_ret (we_bl))) (wss_nil)) (wss_one (ws_ret (we_bi (cd_all o.K o.calm) B.b_all (by first | exact PySem.boot_all | decide +kernel) (wa_cons (we_lc (own := [("low", 2), ("high", 3)]) (is := [2, 3]) o (blkOk_by (by first | (show blkC ["value", "limit", "low", "high"] (defScope s_is_ascending) _ _ = true; decide +kernel) | kernel_rfl | with_unfolding_all rfl)) (wi_zip o.K B.b_zip (wa_cons (we_var 0) (wa_cons (we_slice (sld o.K) (we_var 0) (wo_some (we_int)) (wo_none)) (wa_nil)))) (fun _ _ _ _ _ => wg_tup (o.blk _ _ _ _ _).K (o.blk _ _ _ _ _).calm (wgs_cons (wg_name (o.blk _ _ _ _ _).nd 2) (wgs_cons (wg_name (o.blk _ _ _ _ _).nd 3) (wgs_nil)))) (fun _ _ _ _ _ => wts_nil) (fun _ _ _ _ _ => we_cmp (od_ltX (o.blk _ _ _ _ _)) (we_var 2) (we_var 3))) (wa_nil)))))
abbrev s_are_pairs : Stmt := topS 5
theorem sc_are_pairs : FnScope ["value", "limit", "low", "high", "pair"] ["value", "limit"] (defScope s_are_pairs) := ⟨rfl, rfl, rfl, by decide +kernel, rfl, by decide +kernel, by decide +kernel⟩
theorem k_are_pairs {P : Program} {w : World} {K : PySem.W.Frag} {mg : Str → Option Value} {base : Heap} {z : Z} (hK : K = z.K) (B : Bt mg) {f : Addr} {fd : FuncData} (F : Fun K "are_pairs" "are_pairs" s_are_pairs f fd) (hm : mg "are_pairs" = some (.ref f)) (h_is_ascending : FnB P w K mg base z 4 "is_ascending" ["value", "limit"] false m_is_ascending) : FnB P w K mg base z 5 "are_pairs" ["value", "limit"] false m_are_pairs := by
  refine ⟨f, fd, fn_ok (k := 4) F sc_are_pairs hK (fun cdv A outer s H E G H' M o => ?_), hm, F.kp, F.binds (fun _ _ _ _ _ _ us hl => match us, hl with | [_, _], _ => rfl)⟩
  exact wss_cons (ws_if (wt_not (wt_tru o.K (we_bi (cd_isi o.K) B.b_isinstance (by first | exact PySem.boot_isinstance | decide +kernel) (wa_cons (we_var 0) (wa_cons (we_tyName B.b_tuple (by first | exact PySem.boot_tuple | decide +kernel)) (wa_nil)))))) (wss_one (ws_ret (we_bl))) (wss_nil)) (wss_cons (ws_if (wt_not (wt_tru o.K (we_bi (cd_all o.K o.calm) B.b_all (by first | exact PySem.boot_all | decide +kernel) (wa_cons (we_lc (own := [("pair", 4)]) (is := [4]) o (blkOk_by (by first | (show blkC ["value", "limit", "low", "high", "pair"] (defScope s_are_pairs) _ _ = true; decide +kernel) | kernel_rfl | with_unfolding_all rfl)) (wi_seq o.K (we_var 0)) (fun _ _ _ _ _ => wg_name (o.blk _ _ _ _ _).nd 4) (fun _ _ _ _ _ => wts_nil) (fun _ _ _ _ _ => we_and (we_fn (FnB_at h_is_ascending G H' M) (o.blk _ _ _ _ _) (wa_cons (we_var 4) (wa_cons (we_var 1) (wa_nil)))) (we_one (we_cmp (od_eq (o.blk _ _ _ _ _)) (we_bi (cd_len (o.blk _ _ _ _ _).K) B.b_len (by first | exact PySem.boot_len | decide +kernel) (wa_cons (we_var 4) (wa_nil))) (we_int))))) (wa_nil))))) (wss_one (ws_ret (we_bl))) (wss_nil)) (wss_one (ws_ret (we_bi (cd_all o.K o.calm) B.b_all (by first | exact PySem.boot_all | decide +kernel) (wa_cons (we_lc (own := [("low", 2), ("high", 3)]) (is := [2, 3]) o (blkOk_by (by first | (show blkC ["value", "limit", "low", "high", "pair"] (defScope s_are_pairs) _ _ = true; decide +kernel) | kernel_rfl | with_unfolding_all rfl)) (wi_zip o.K B.b_zip (wa_cons (we_var 0) (wa_cons (we_slice (sld o.K) (we_var 0) (wo_some (we_int)) (wo_none)) (wa_nil)))) (fun _ _ _ _ _ => wg_tup (o.blk _ _ _ _ _).K (o.blk _ _ _ _ _).calm (wgs_cons (wg_name (o.blk _ _ _ _ _).nd 2) (wgs_cons (wg_name (o.blk _ _ _ _ _).nd 3) (wgs_nil)))) (fun _ _ _ _ _ => wts_nil) (fun _ _ _ _ _ => we_cmp (od_ltX (o.blk _ _ _ _ _)) (we_var 2) (we_var 3))) (wa_nil))))))
abbrev s_check_web : Stmt := topS 16
theorem sc_check_web : FnScope ["value"] ["value"] (defScope s_check_web) := ⟨rfl, rfl, rfl, by decide +kernel, rfl, by decide +kernel, by decide +kernel⟩
theorem k_check_web {P : Program} {w : World} {K : PySem.W.Frag} {mg : Str → Option Value} {base : Heap} {z : Z} (hK : K = z.K) (B : Bt mg) {C : Addr} (W : ClB K mg z "Web" C FLD) {f : Addr} {fd : FuncData} (F : Fun K "check_web" "check_web" s_check_web f fd) (hm : mg "check_web" = some (.ref f)) (x_InvalidWeb : ∃ D0, XcB K mg z 0 "InvalidWeb" D0) : FnB P w K mg base z 1 "check_web" ["value"] false m_check_web_k07 := by
  refine ⟨f, fd, fn_ok (k := 0) F sc_check_web hK (fun cdv A outer s H E G H' M o => ?_), hm, F.kp, F.binds (fun _ _ _ _ _ _ us hl => match us, hl with | [_], _ => rfl)⟩
  exact wss_one (ws_if (wt_not (wt_tru o.K (we_bi (cd_isiC o.K (W.at_ G H' M).hc (W.at_ G H' M).kit) B.b_isinstance (by first | exact PySem.boot_isinstance | decide +kernel) (wa_cons (we_var 0) (wa_cons (we_clsB (W.at_ G H' M)) (wa_nil)))))) (wss_one (ws_raiseM o (x_InvalidWeb.choose_spec.at_ G H' M))) (wss_nil))
abbrev s_masks_of : Stmt := topS 17
theorem sc_masks_of : FnScope ["web", "masks", "low", "high"] ["web"] (defScope s_masks_of) := ⟨rfl, rfl, rfl, by decide +kernel, rfl, by decide +kernel, by decide +kernel⟩
theorem k_masks_of {P : Program} {w : World} {K : PySem.W.Frag} {mg : Str → Option Value} {base : Heap} {z : Z} (hK : K = z.K) (B : Bt mg) {C : Addr} (W : ClB K mg z "Web" C FLD) (Pr_knots : PrB P w K mg base C "knots" "_knots") (Pr_ties : PrB P w K mg base C "ties" "_ties") {f : Addr} {fd : FuncData} (F : Fun K "masks_of" "masks_of" s_masks_of f fd) (hm : mg "masks_of" = some (.ref f)) : FnB P w K mg base z 3 "masks_of" ["web"] false m_masks_of := by
  refine ⟨f, fd, fn_ok (k := 2) F sc_masks_of hK (fun cdv A outer s H E G H' M o => ?_), hm, F.kp, F.binds (fun _ _ _ _ _ _ us hl => match us, hl with | [_], _ => rfl)⟩
  exact wss_cons (ws_set (i := 1) o (we_bin (od_mul o.K) (we_lst (wa_cons (we_int) (wa_nil))) (we_propB (we_var 0) o (W.at_ G H' M) Pr_knots atF0))) (wss_cons (ws_for (is := [2, 3]) o (wi_seq o.K (we_propB (we_var 0) o (W.at_ G H' M) Pr_ties (atF1 (by decide)))) (wg_tup o.K o.calm (wgs_cons (wg_name o.nd 2) (wgs_cons (wg_name o.nd 3) (wgs_nil)))) (wss_cons (ws_augS (i := 1) (pv 1) (we_var 2) (we_bin od_shl (we_int) (we_var 3)) ip_add) (wss_one (ws_augS (i := 1) (pv 1) (we_var 3) (we_bin od_shl (we_int) (we_var 2)) ip_add)))) (wss_one (ws_ret (we_var 1))))
abbrev s_is_ring : Stmt := topS 19
theorem sc_is_ring : FnScope ["value", "many", "name"] ["value"] (defScope s_is_ring) := ⟨rfl, rfl, rfl, by decide +kernel, rfl, by decide +kernel, by decide +kernel⟩
theorem k_is_ring {P : Program} {w : World} {K : PySem.W.Frag} {mg : Str → Option Value} {base : Heap} {z : Z} (hK : K = z.K) (B : Bt mg) {f : Addr} {fd : FuncData} (F : Fun K "is_ring" "is_ring" s_is_ring f fd) (hm : mg "is_ring" = some (.ref f)) (h_is_whole : FnB P w K mg base z 1 "is_whole" ["value"] false m_is_whole) : FnB P w K mg base z 2 "is_ring" ["value"] false m_is_ring := by
  obtain ⟨t_MOST_KNOTS, e_MOST_KNOTS⟩ := B.c_MOST_KNOTS
  refine ⟨f, fd, fn_ok (k := 1) F sc_is_ring hK (fun cdv A outer s H E G H' M o => ?_), hm, F.kp, F.binds (fun _ _ _ _ _ _ us hl => match us, hl with | [_], _ => rfl)⟩
  exact wss_cons (ws_if ((ww_or (wt_not (wt_tru o.K (we_bi (cd_isi o.K) B.b_isinstance (by first | exact PySem.boot_isinstance | decide +kernel) (wa_cons (we_var 0) (wa_cons (we_tyName B.b_tuple (by first | exact PySem.boot_tuple | decide +kernel)) (wa_nil)))))) (ww_or1 (wt_not (wt_tru o.K (we_bi (cd_all o.K o.calm) B.b_all (by first | exact PySem.boot_all | decide +kernel) (wa_cons (we_lc (own := [("name", 2)]) (is := [2]) o (blkOk_by (by first | (show blkC ["value", "many", "name"] (defScope s_is_ring) _ _ = true; decide +kernel) | kernel_rfl | with_unfolding_all rfl)) (wi_seq o.K (we_var 0)) (fun _ _ _ _ _ => wg_name (o.blk _ _ _ _ _).nd 2) (fun _ _ _ _ _ => wts_nil) (fun _ _ _ _ _ => we_fn (FnB_at h_is_whole G H' M) (o.blk _ _ _ _ _) (wa_cons (we_var 2) (wa_nil)))) (wa_nil))))))).pt) (wss_one (ws_ret (we_bl))) (wss_nil)) (wss_cons (ws_set (i := 1) o (we_bin od_div (we_bi (cd_len o.K) B.b_len (by first | exact PySem.boot_len | decide +kernel) (wa_cons (we_var 0) (wa_nil))) (we_int))) (wss_one (ws_ret (we_and (we_chain od_le od_le (we_int) (we_var 1) (we_glob (v := .int 10) e_MOST_KNOTS ⟨_, rfl⟩ (fun _ _ _ => .int _))) (we_one (we_cmp (od_eq o) (we_bi (cd_sortedX o) B.b_sorted (by first | exact PySem.boot_sorted | decide +kernel) (wa_cons (we_var 0) (wa_nil))) (we_bi (cd_sortedX o) B.b_sorted (by first | exact PySem.boot_sorted | decide +kernel) (wa_cons (we_bin (od_mul o.K) (we_listRg o.calm B.b_list B.b_range (we_var 1)) (we_int)) (wa_nil)))))))))
abbrev s_check_ring : Stmt := topS 20
theorem sc_check_ring : FnScope ["value"] ["value"] (defScope s_check_ring) := ⟨rfl, rfl, rfl, by decide +kernel, rfl, by decide +kernel, by decide +kernel⟩
theorem k_check_ring {P : Program} {w : World} {K : PySem.W.Frag} {mg : Str → Option Value} {base : Heap} {z : Z} (hK : K = z.K) (B : Bt mg) {f : Addr} {fd : FuncData} (F : Fun K "check_ring" "check_ring" s_check_ring f fd) (hm : mg "check_ring" = some (.ref f)) (h_is_ring : FnB P w K mg base z 2 "is_ring" ["value"] false m_is_ring) (x_InvalidRing : ∃ D0, XcB K mg z 1 "InvalidRing" D0) : FnB P w K mg base z 3 "check_ring" ["value"] false m_check_ring_k46 := by
  refine ⟨f, fd, fn_ok (k := 2) F sc_check_ring hK (fun cdv A outer s H E G H' M o => ?_), hm, F.kp, F.binds (fun _ _ _ _ _ _ us hl => match us, hl with | [_], _ => rfl)⟩
  exact wss_one (ws_if (wt_not (wt_tru o.K (we_fn (FnB_at h_is_ring G H' M) o (wa_cons (we_var 0) (wa_nil))))) (wss_one (ws_raiseM o (x_InvalidRing.choose_spec.at_ G H' M))) (wss_nil))
abbrev s__check_name : Stmt := topS 21
theorem sc__check_name : FnScope ["ring", "name"] ["ring", "name"] (defScope s__check_name) := ⟨rfl, rfl, rfl, by decide +kernel, rfl, by decide +kernel, by decide +kernel⟩
theorem k__check_name {P : Program} {w : World} {K : PySem.W.Frag} {mg : Str → Option Value} {base : Heap} {z : Z} (hK : K = z.K) (B : Bt mg) {f : Addr} {fd : FuncData} (F : Fun K "_check_name" "_check_name" s__check_name f fd) (hm : mg "_check_name" = some (.ref f)) (h_is_below : FnB P w K mg base z 2 "is_below" ["value", "limit"] false m_is_below) (x_InvalidNumber : ∃ D0, XvB P w K mg base z 3 "InvalidNumber" "given" D0) : FnB P w K mg base z 3 "_check_name" ["ring", "name"] false m__check_name_k46 := by
  refine ⟨f, fd, fn_ok (k := 2) F sc__check_name hK (fun cdv A outer s H E G H' M o => ?_), hm, F.kp, F.binds (fun _ _ _ _ _ _ us hl => match us, hl with | [_, _], _ => rfl)⟩
  exact wss_one (ws_if (wt_not (wt_tru o.K (we_fn (FnB_at h_is_below G H' M) o (wa_cons (we_var 1) (wa_cons (we_bin od_div (we_bi (cd_len o.K) B.b_len (by first | exact PySem.boot_len | decide +kernel) (wa_cons (we_var 0) (wa_nil))) (we_int)) (wa_nil)))))) (wss_one (ws_raiseV o (x_InvalidNumber.choose_spec.at_ G H' M) (we_var 1))) (wss_nil))
abbrev s__ends : Stmt := topS 22
theorem sc__ends : FnScope ["ring", "name", "first"] ["ring", "name"] (defScope s__ends) := ⟨rfl, rfl, rfl, by decide +kernel, rfl, by decide +kernel, by decide +kernel⟩
theorem k__ends {P : Program} {w : World} {K : PySem.W.Frag} {mg : Str → Option Value} {base : Heap} {z : Z} (hK : K = z.K) (B : Bt mg) {f : Addr} {fd : FuncData} (F : Fun K "_ends" "_ends" s__ends f fd) (hm : mg "_ends" = some (.ref f)) : FnB P w K mg base z 1 "_ends" ["ring", "name"] false m__ends := by
  refine ⟨f, fd, fn_ok (k := 0) F sc__ends hK (fun cdv A outer s H E G H' M o => ?_), hm, F.kp, F.binds (fun _ _ _ _ _ _ us hl => match us, hl with | [_, _], _ => rfl)⟩
  exact wss_cons (ws_set (i := 2) o (we_mtT o.K (md_idx o.K) PySem.F.slot_tuple_index PySem.F.type_tuple_index (we_var 0) (wa_cons (we_var 1) (wa_nil)))) (wss_one (ws_ret (we_tup (wa_cons (we_var 2) (wa_cons (we_mtT o.K (md_idx o.K) PySem.F.slot_tuple_index PySem.F.type_tuple_index (we_var 0) (wa_cons (we_var 1) (wa_cons (we_bin (od_add o.K) (we_var 2) (we_int)) (wa_nil)))) (wa_nil))))))
abbrev s_crossing : Stmt := topS 23
theorem sc_crossing : FnScope ["ring", "name", "first", "last", "between", "other"] ["ring", "name"] (defScope s_crossing) := ⟨rfl, rfl, rfl, by decide +kernel, rfl, by decide +kernel, by decide +kernel⟩
theorem k_crossing {P : Program} {w : World} {K : PySem.W.Frag} {mg : Str → Option Value} {base : Heap} {z : Z} (hK : K = z.K) (B : Bt mg) {f : Addr} {fd : FuncData} (F : Fun K "crossing" "crossing" s_crossing f fd) (hm : mg "crossing" = some (.ref f)) (h_check_ring : FnB P w K mg base z 3 "check_ring" ["value"] false m_check_ring_k46) (h__check_name : FnB P w K mg base z 3 "_check_name" ["ring", "name"] false m__check_name_k46) (h__ends : FnB P w K mg base z 1 "_ends" ["ring", "name"] false m__ends) : FnB P w K mg base z 4 "crossing" ["ring", "name"] false m_crossing_k46 := by
  refine ⟨f, fd, fn_ok (k := 3) F sc_crossing hK (fun cdv A outer s H E G H' M o => ?_), hm, F.kp, F.binds (fun _ _ _ _ _ _ us hl => match us, hl with | [_, _], _ => rfl)⟩
  exact wss_cons (ws_expr (we_fn (FnB_at h_check_ring G H' M) o (wa_cons (we_var 0) (wa_nil)))) (wss_cons (ws_expr (we_fn (FnB_at h__check_name G H' M) o (wa_cons (we_var 0) (wa_cons (we_var 1) (wa_nil))))) (wss_cons (ws_asg (is := [2, 3]) (ps_asg (we_fn (FnB_at h__ends G H' M) o (wa_cons (we_var 0) (wa_cons (we_var 1) (wa_nil)))) (wg_tup o.K o.calm (wgs_cons (wg_name o.nd 2) (wgs_cons (wg_name o.nd 3) (wgs_nil)))))) (wss_cons (ws_set (i := 4) o (we_slice (sld o.K) (we_var 0) (wo_some (we_bin (od_add o.K) (we_var 2) (we_int))) (wo_some (we_var 3)))) (wss_one (ws_ret (we_ty (cd_tuple o.K) B.b_tuple (by first | exact PySem.boot_tuple | decide +kernel) (wa_cons (we_lc (own := [("other", 5)]) (is := [5]) o (blkOk_by (by first | (show blkC ["ring", "name", "first", "last", "between", "other"] (defScope s_crossing) _ _ = true; decide +kernel) | kernel_rfl | with_unfolding_all rfl)) (wi_rng1 B.b_range (wa_cons (we_bin od_div (we_bi (cd_len o.K) B.b_len (by first | exact PySem.boot_len | decide +kernel) (wa_cons (we_var 0) (wa_nil))) (we_int)) (wa_nil))) (fun _ _ _ _ _ => wg_name (o.blk _ _ _ _ _).nd 5) (fun _ _ _ _ _ => wts_one (wt_cmp (od_eq (o.blk _ _ _ _ _)) (we_mtT (o.blk _ _ _ _ _).K (md_cnt (o.blk _ _ _ _ _).K) PySem.F.slot_tuple_count PySem.F.type_tuple_count (we_var 4) (wa_cons (we_var 5) (wa_nil))) (we_int))) (fun _ _ _ _ _ => we_var 5)) (wa_nil))))))))
abbrev s_Web : Stmt := inCls (topS 15) 0
theorem sc_Web : FnScope ["self", "knots", "ties"] ["self", "knots", "ties"] (defScope s_Web) := ⟨rfl, rfl, rfl, by decide +kernel, rfl, by decide +kernel, by decide +kernel⟩
theorem k_Web {P : Program} {w : World} {K : PySem.W.Frag} {mg : Str → Option Value} {base : Heap} {z : Z} (hK : K = z.K) (B : Bt mg) {C : Addr} (W : ClB K mg z "Web" C FLD) (mk : PySem.W.makesIn K C = true) (kc : PySem.W.keepIn K (.ref C) = true) {f : Addr} {fd : FuncData} (F : Fun K "__init__" "Web.__init__" s_Web f fd) (fi : PySem.W.findIn K (.ref C) "__init__" = some (some (.ref f))) (isf : PySem.W.isFn K (.ref f) = true) (h_are_pairs : FnB P w K mg base z 5 "are_pairs" ["value", "limit"] false m_are_pairs) (h_is_whole : FnB P w K mg base z 1 "is_whole" ["value"] false m_is_whole) (x_InvalidWeb : ∃ D0, XcB K mg z 0 "InvalidWeb" D0) : MkB P w K mg base z 6 C FLD ["self", "knots", "ties"] 2 m_Web_k26 := by
  obtain ⟨t_MOST_KNOTS, e_MOST_KNOTS⟩ := B.c_MOST_KNOTS
  refine ⟨f, fd, ⟨mk, fi, isf, kc⟩, init_okX (k := 5) (n := 0) (t := tSeq (sFld K (tVar 0) (tVar 1) "_knots") (sFld K (tVar 0) (tVar 2) "_ties")) F sc_Web hK W.kit.cl (W.no _ (by decide)) (W.no _ (by decide)) (by decide) (fun _ _ _ => rfl) (fun cdv A outer s H E G H' o => ?_), F.binds (fun _ _ _ _ _ _ us hl => match us, hl with | [_, _, _], _ => rfl)⟩
  exact wsx_cons ((ww_or (wt_not (wt_tru o.K (we_fn (FnB_at h_is_whole G H' none) o (wa_cons (we_var 1) (wa_nil))))) (ww_or1 (wt_not (wt_chain od_le od_le (we_int) (we_var 1) (we_glob (v := .int 10) e_MOST_KNOTS ⟨_, rfl⟩ (fun _ _ _ => .int _)))))).pt) (wss_one (ws_raiseM o (x_InvalidWeb.choose_spec.at_ G H' none))) (wsx_cons (wt_not (wt_tru o.K (we_fn (FnB_at h_are_pairs G H' none) o (wa_cons (we_var 2) (wa_cons (we_var 1) (wa_nil)))))) (wss_one (ws_raiseM o (x_InvalidWeb.choose_spec.at_ G H' none))) (wsx_nil (pss_cons (ps_fld (pv 0) (pv 1) rfl) (pss_one (ps_fld (pv 0) (pv 2) rfl)))))
abbrev s_web_of : Stmt := topS 24
theorem sc_web_of : FnScope ["ring", "many", "ties", "name", "other"] ["ring"] (defScope s_web_of) := ⟨rfl, rfl, rfl, by decide +kernel, rfl, by decide +kernel, by decide +kernel⟩
theorem k_web_of {P : Program} {w : World} {K : PySem.W.Frag} {mg : Str → Option Value} {base : Heap} {z : Z} (hK : K = z.K) (B : Bt mg) {C : Addr} (W : ClB K mg z "Web" C FLD) {f : Addr} {fd : FuncData} (F : Fun K "web_of" "web_of" s_web_of f fd) (hm : mg "web_of" = some (.ref f)) (h_check_ring : FnB P w K mg base z 3 "check_ring" ["value"] false m_check_ring_k46) (h_Web : MkB P w K mg base z 6 C FLD ["self", "knots", "ties"] 2 m_Web_k26) (h_crossing : FnB P w K mg base z 4 "crossing" ["ring", "name"] false m_crossing_k46) : FnB P w K mg base z 8 "web_of" ["ring"] false m_web_of_k46 := by
  refine ⟨f, fd, fn_ok (k := 7) F sc_web_of hK (fun cdv A outer s H E G H' M o => ?_), hm, F.kp, F.binds (fun _ _ _ _ _ _ us hl => match us, hl with | [_], _ => rfl)⟩
  exact wss_cons (ws_expr (we_fn (FnB_at h_check_ring G H' M) o (wa_cons (we_var 0) (wa_nil)))) (wss_cons (ws_set (i := 1) o (we_bin od_div (we_bi (cd_len o.K) B.b_len (by first | exact PySem.boot_len | decide +kernel) (wa_cons (we_var 0) (wa_nil))) (we_int))) (wss_cons (ws_setLc2 (own := [("name", 3), ("other", 4)]) (is := [3]) (is1 := [4]) (vs1 := [4]) o (blkOk_by (by first | (show blkC ["ring", "many", "ties", "name", "other"] (defScope s_web_of) _ _ = true; decide +kernel) | kernel_rfl | with_unfolding_all rfl)) (wi_rng1 B.b_range (wa_cons (we_var 1) (wa_nil))) (fun _ _ _ _ _ => wg_name (o.blk _ _ _ _ _).nd 3) (fun _ _ _ _ _ => wts_nil) (fun _ _ _ _ _ => wi_seq (o.blk _ _ _ _ _).K (we_fn (FnB_at h_crossing G H' M) (o.blk _ _ _ _ _) (wa_cons (we_var 0) (wa_cons (we_var 3) (wa_nil))))) (fun _ _ _ _ _ => wg_name (o.blk _ _ _ _ _).nd 4) (fun _ _ _ _ _ => wts_one (wt_cmp (od_ltX (o.blk _ _ _ _ _)) (we_var 3) (we_var 4))) (fun _ _ _ _ _ => we_tup (wa_cons (we_var 3) (wa_cons (we_var 4) (wa_nil))))) (wss_one (ws_ret (we_mkB o (W.at_ G H' M) (MkB_at h_Web G H' M) (wa_cons (we_var 1) (wa_cons (we_ty (cd_tuple o.K) B.b_tuple (by first | exact PySem.boot_tuple | decide +kernel) (wa_cons (we_var 2) (wa_nil))) (wa_nil))))))))
abbrev s_least_form : Stmt := topS 25
theorem sc_least_form : FnScope ["ring", "back", "like", "way", "by"] ["ring"] (defScope s_least_form) := ⟨rfl, rfl, rfl, by decide +kernel, rfl, by decide +kernel, by decide +kernel⟩
theorem k_least_form {P : Program} {w : World} {K : PySem.W.Frag} {mg : Str → Option Value} {base : Heap} {z : Z} (hK : K = z.K) (B : Bt mg) {f : Addr} {fd : FuncData} (F : Fun K "least_form" "least_form" s_least_form f fd) (hm : mg "least_form" = some (.ref f)) (h_check_ring : FnB P w K mg base z 3 "check_ring" ["value"] false m_check_ring_k46) : FnB P w K mg base z 4 "least_form" ["ring"] false m_least_form_k46 := by
  refine ⟨f, fd, fn_ok (k := 3) F sc_least_form hK (fun cdv A outer s H E G H' M o => ?_), hm, F.kp, F.binds (fun _ _ _ _ _ _ us hl => match us, hl with | [_], _ => rfl)⟩
  exact wss_cons (ws_expr (we_fn (FnB_at h_check_ring G H' M) o (wa_cons (we_var 0) (wa_nil)))) (wss_cons (ws_set (i := 1) o (we_back o.K (we_var 0))) (wss_cons (ws_setLc2 (own := [("way", 3), ("by", 4)]) (is := [3]) (is1 := [4]) (vs1 := [4]) o (blkOk_by (by first | (show blkC ["ring", "back", "like", "way", "by"] (defScope s_least_form) _ _ = true; decide +kernel) | kernel_rfl | with_unfolding_all rfl)) (wi_seq o.K (we_tup (wa_cons (we_var 0) (wa_cons (we_var 1) (wa_nil))))) (fun _ _ _ _ _ => wg_name (o.blk _ _ _ _ _).nd 3) (fun _ _ _ _ _ => wts_nil) (fun _ _ _ _ _ => wi_rng1 B.b_range (wa_cons (we_bi (cd_len (o.blk _ _ _ _ _).K) B.b_len (by first | exact PySem.boot_len | decide +kernel) (wa_cons (we_var 0) (wa_nil))) (wa_nil))) (fun _ _ _ _ _ => wg_name (o.blk _ _ _ _ _).nd 4) (fun _ _ _ _ _ => wts_nil) (fun _ _ _ _ _ => we_bin (od_add (o.blk _ _ _ _ _).K) (we_slice (sld (o.blk _ _ _ _ _).K) (we_var 3) (wo_some (we_var 4)) (wo_none)) (we_slice (sld (o.blk _ _ _ _ _).K) (we_var 3) (wo_none) (wo_some (we_var 4))))) (wss_one (ws_ret (we_bi (cd_minX o) B.b_min (by first | exact PySem.boot_min | decide +kernel) (wa_cons (we_var 2) (wa_nil)))))))
abbrev s__with_chord : Stmt := topS 27
theorem sc__with_chord : FnScope ["ring", "name", "mask", "found", "first", "last", "between", "other"] ["ring", "name", "mask"] (defScope s__with_chord) := ⟨rfl, rfl, rfl, by decide +kernel, rfl, by decide +kernel, by decide +kernel⟩
theorem k__with_chord {P : Program} {w : World} {K : PySem.W.Frag} {mg : Str → Option Value} {base : Heap} {z : Z} (hK : K = z.K) (B : Bt mg) {f : Addr} {fd : FuncData} (F : Fun K "_with_chord" "_with_chord" s__with_chord f fd) (hm : mg "_with_chord" = some (.ref f)) : FnB P w K mg base z 1 "_with_chord" ["ring", "name", "mask"] false m__with_chord := by
  refine ⟨f, fd, fn_ok (k := 0) F sc__with_chord hK (fun cdv A outer s H E G H' M o => ?_), hm, F.kp, F.binds (fun _ _ _ _ _ _ us hl => match us, hl with | [_, _, _], _ => rfl)⟩
  exact wss_cons (ws_set (i := 3) o (we_lst (wa_nil))) (wss_cons (ws_for (is := [4]) o (wi_rng2 B.b_range (wa_cons (we_int) (wa_cons (we_bin (od_add o.K) (we_bi (cd_len o.K) B.b_len (by first | exact PySem.boot_len | decide +kernel) (wa_cons (we_var 0) (wa_nil))) (we_int)) (wa_nil)))) (wg_name o.nd 4) (wss_one (ws_for (is := [5]) o (wi_rng2 B.b_range (wa_cons (we_var 4) (wa_cons (we_bin (od_add o.K) (we_bi (cd_len o.K) B.b_len (by first | exact PySem.boot_len | decide +kernel) (wa_cons (we_var 0) (wa_nil))) (we_int)) (wa_nil)))) (wg_name o.nd 5) (wss_cons (ws_set (i := 6) o (we_slice (sld o.K) (we_var 0) (wo_some (we_var 4)) (wo_some (we_var 5)))) (wss_one (ws_if (wt_tru o.K (we_bi (cd_all o.K o.calm) B.b_all (by first | exact PySem.boot_all | decide +kernel) (wa_cons (we_lc (own := [("other", 7)]) (is := [7]) o (blkOk_by (by first | (show blkC ["ring", "name", "mask", "found", "first", "last", "between", "other"] (defScope s__with_chord) _ _ = true; decide +kernel) | kernel_rfl | with_unfolding_all rfl)) (wi_rng1 B.b_range (wa_cons (we_var 1) (wa_nil))) (fun _ _ _ _ _ => wg_name (o.blk _ _ _ _ _).nd 7) (fun _ _ _ _ _ => wts_nil) (fun _ _ _ _ _ => we_cmp (od_eq (o.blk _ _ _ _ _)) (we_bin od_mod (we_mtT (o.blk _ _ _ _ _).K (md_cnt (o.blk _ _ _ _ _).K) PySem.F.slot_tuple_count PySem.F.type_tuple_count (we_var 6) (wa_cons (we_var 7) (wa_nil))) (we_int)) (we_bin od_and (we_bin od_shr (we_var 2) (we_var 7)) (we_int)))) (wa_nil)))) (wss_one (ws_expr (we_app o (pe_bm PySem.F.plainAttrs_list PySem.F.slot_list_append PySem.F.type_list_append mt_append (pv 3) (pa_cons (we_bin (od_add o.K) (we_bin (od_add o.K) (we_bin (od_add o.K) (we_bin (od_add o.K) (we_slice (sld o.K) (we_var 0) (wo_none) (wo_some (we_var 4))) (we_tup (wa_cons (we_var 1) (wa_nil)))) (we_var 6)) (we_tup (wa_cons (we_var 1) (wa_nil)))) (we_slice (sld o.K) (we_var 0) (wo_some (we_var 5)) (wo_none))) pa_nil))))) (wss_nil))))))) (wss_one (ws_ret (we_var 3))))
abbrev s_rings_begun : Stmt := topS 28
theorem sc_rings_begun : FnScope ["web", "rings", "masks", "name", "ring", "more"] ["web"] (defScope s_rings_begun) := ⟨rfl, rfl, rfl, by decide +kernel, rfl, by decide +kernel, by decide +kernel⟩
theorem k_rings_begun {P : Program} {w : World} {K : PySem.W.Frag} {mg : Str → Option Value} {base : Heap} {z : Z} (hK : K = z.K) (B : Bt mg) {C : Addr} (W : ClB K mg z "Web" C FLD) (Pr_knots : PrB P w K mg base C "knots" "_knots") {f : Addr} {fd : FuncData} (F : Fun K "rings_begun" "rings_begun" s_rings_begun f fd) (hm : mg "rings_begun" = some (.ref f)) (h_masks_of : FnB P w K mg base z 3 "masks_of" ["web"] false m_masks_of) (h__with_chord : FnB P w K mg base z 1 "_with_chord" ["ring", "name", "mask"] false m__with_chord) : FnB P w K mg base z 4 "rings_begun" ["web"] false m_rings_begun := by
  refine ⟨f, fd, fn_ok (k := 3) F sc_rings_begun hK (fun cdv A outer s H E G H' M o => ?_), hm, F.kp, F.binds (fun _ _ _ _ _ _ us hl => match us, hl with | [_], _ => rfl)⟩
  exact wss_cons (ws_parC o.calm (pg_name (i := 1) o.nd rfl (by first | exact .inl rfl | exact .inr rfl)) (pg_name (i := 2) o.nd rfl (by first | exact .inl rfl | exact .inr rfl)) (pa_cons (we_lst (wa_cons (we_tup (wa_cons (we_int) (wa_cons (we_int) (wa_nil)))) (wa_nil))) (pa_cons (we_fn (FnB_at h_masks_of G H' M) o (wa_cons (we_var 0) (wa_nil))) (pa_nil)))) (wss_cons (ws_for (is := [3]) o (wi_rng2 B.b_range (wa_cons (we_int) (wa_cons (we_propB (we_var 0) o (W.at_ G H' M) Pr_knots atF0) (wa_nil)))) (wg_name o.nd 3) (wss_one (ws_setLc2 (own := [("ring", 4), ("more", 5)]) (is := [4]) (is1 := [5]) (vs1 := [5]) o (blkOk_by (by first | (show blkC ["web", "rings", "masks", "name", "ring", "more"] (defScope s_rings_begun) _ _ = true; decide +kernel) | kernel_rfl | with_unfolding_all rfl)) (wi_seq o.K (we_var 1)) (fun _ _ _ _ _ => wg_name (o.blk _ _ _ _ _).nd 4) (fun _ _ _ _ _ => wts_nil) (fun _ _ _ _ _ => wi_seq (o.blk _ _ _ _ _).K (we_fn (FnB_at h__with_chord G H' M) (o.blk _ _ _ _ _) (wa_cons (we_var 4) (wa_cons (we_var 3) (wa_cons (we_ix (ixd (o.blk _ _ _ _ _).K) (we_var 2) (we_var 3)) (wa_nil)))))) (fun _ _ _ _ _ => wg_name (o.blk _ _ _ _ _).nd 5) (fun _ _ _ _ _ => wts_nil) (fun _ _ _ _ _ => we_var 5)))) (wss_one (ws_ret (we_var 1))))
abbrev s_forms_of : Stmt := topS 31
theorem sc_forms_of : FnScope ["web", "ring"] ["web"] (defScope s_forms_of) := ⟨rfl, rfl, rfl, by decide +kernel, rfl, by decide +kernel, by decide +kernel⟩
theorem k_forms_of {P : Program} {w : World} {K : PySem.W.Frag} {mg : Str → Option Value} {base : Heap} {z : Z} (hK : K = z.K) (B : Bt mg) {C : Addr} (W : ClB K mg z "Web" C FLD) (Pr_knots : PrB P w K mg base C "knots" "_knots") {f : Addr} {fd : FuncData} (F : Fun K "forms_of" "forms_of" s_forms_of f fd) (hm : mg "forms_of" = some (.ref f)) (h_check_web : FnB P w K mg base z 1 "check_web" ["value"] false m_check_web_k07) (h_least_form : FnB P w K mg base z 4 "least_form" ["ring"] false m_least_form_k46) (h_rings_begun : FnB P w K mg base z 4 "rings_begun" ["web"] false m_rings_begun) (x_TooMany : ∃ D0, XvB P w K mg base z 4 "TooMany" "limit" D0) : FnB P w K mg base z 5 "forms_of" ["web"] false m_forms_of_k46 := by
  obtain ⟨t_MOST_LISTED, e_MOST_LISTED⟩ := B.c_MOST_LISTED
  refine ⟨f, fd, fn_ok (k := 4) F sc_forms_of hK (fun cdv A outer s H E G H' M o => ?_), hm, F.kp, F.binds (fun _ _ _ _ _ _ us hl => match us, hl with | [_], _ => rfl)⟩
  exact wss_cons (ws_expr (we_fn (FnB_at h_check_web G H' M) o (wa_cons (we_var 0) (wa_nil)))) (wss_cons (ws_if (wt_cmp od_gt (we_propB (we_var 0) o (W.at_ G H' M) Pr_knots atF0) (we_glob (v := .int 5) e_MOST_LISTED ⟨_, rfl⟩ (fun _ _ _ => .int _))) (wss_one (ws_raiseV o (x_TooMany.choose_spec.at_ G H' M) (we_glob (v := .int 5) e_MOST_LISTED ⟨_, rfl⟩ (fun _ _ _ => .int _)))) (wss_nil)) (wss_one (ws_ret (we_ty (cd_tuple o.K) B.b_tuple (by first | exact PySem.boot_tuple | decide +kernel) (wa_cons (we_srtMany o (by have := (o).room.un; omega) (we_lc (own := [("ring", 1)]) (is := [1]) o (blkOk_by (by first | (show blkC ["web", "ring"] (defScope s_forms_of) _ _ = true; decide +kernel) | kernel_rfl | with_unfolding_all rfl)) (wi_seq o.K (we_fn (FnB_at h_rings_begun G H' M) o (wa_cons (we_var 0) (wa_nil)))) (fun _ _ _ _ _ => wg_name (o.blk _ _ _ _ _).nd 1) (fun _ _ _ _ _ => wts_nil) (fun _ _ _ _ _ => we_fn (FnB_at h_least_form G H' M) (o.blk _ _ _ _ _) (wa_cons (we_var 1) (wa_nil)))) B.b_sorted B.b_set) (wa_nil))))))
abbrev s__begun_ahead : Stmt := topS 36
theorem sc__begun_ahead : FnScope ["ring", "found", "name"] ["ring"] (defScope s__begun_ahead) := ⟨rfl, rfl, rfl, by decide +kernel, rfl, by decide +kernel, by decide +kernel⟩
theorem k__begun_ahead {P : Program} {w : World} {K : PySem.W.Frag} {mg : Str → Option Value} {base : Heap} {z : Z} (hK : K = z.K) (B : Bt mg) {f : Addr} {fd : FuncData} (F : Fun K "_begun_ahead" "_begun_ahead" s__begun_ahead f fd) (hm : mg "_begun_ahead" = some (.ref f)) : FnB P w K mg base z 1 "_begun_ahead" ["ring"] false m__begun_ahead := by
  refine ⟨f, fd, fn_ok (k := 0) F sc__begun_ahead hK (fun cdv A outer s H E G H' M o => ?_), hm, F.kp, F.binds (fun _ _ _ _ _ _ us hl => match us, hl with | [_], _ => rfl)⟩
  exact wss_cons (ws_set (i := 1) o (we_lst (wa_cons (we_int) (wa_nil)))) (wss_cons (ws_for (is := [2]) o (wi_seq o.K (we_var 0)) (wg_name o.nd 2) (wss_one (ws_expr (we_app o (pe_bm PySem.F.plainAttrs_list PySem.F.slot_list_append PySem.F.type_list_append mt_append (pv 1) (pa_cons (we_bin od_xor (we_ix (ixd o.K) (we_var 1) (we_un un_neg (we_int))) (we_bin od_shl (we_int) (we_var 2))) pa_nil)))))) (wss_one (ws_ret (we_var 1))))
abbrev s__is_cut : Stmt := topS 37
theorem sc__is_cut : FnScope ["ring", "value", "border", "a", "b", "c", "d"] ["ring", "value"] (defScope s__is_cut) := ⟨rfl, rfl, rfl, by decide +kernel, rfl, by decide +kernel, by decide +kernel⟩
theorem k__is_cut {P : Program} {w : World} {K : PySem.W.Frag} {mg : Str → Option Value} {base : Heap} {z : Z} (hK : K = z.K) (B : Bt mg) {f : Addr} {fd : FuncData} (F : Fun K "_is_cut" "_is_cut" s__is_cut f fd) (hm : mg "_is_cut" = some (.ref f)) (h__begun_ahead : FnB P w K mg base z 1 "_begun_ahead" ["ring"] false m__begun_ahead) (h_are_below : FnB P w K mg base z 3 "are_below" ["value", "limit"] false m_are_below) : FnB P w K mg base z 4 "_is_cut" ["ring", "value"] false m__is_cut := by
  refine ⟨f, fd, fn_ok (k := 3) F sc__is_cut hK (fun cdv A outer s H E G H' M o => ?_), hm, F.kp, F.binds (fun _ _ _ _ _ _ us hl => match us, hl with | [_, _], _ => rfl)⟩
  exact wss_cons (ws_if ((ww_or (wt_not (wt_tru o.K (we_fn (FnB_at h_are_below G H' M) o (wa_cons (we_var 1) (wa_cons (we_bin (od_add o.K) (we_bi (cd_len o.K) B.b_len (by first | exact PySem.boot_len | decide +kernel) (wa_cons (we_var 0) (wa_nil))) (we_int)) (wa_nil)))))) (ww_or (wt_cmp (od_ne o) (we_bi (cd_len o.K) B.b_len (by first | exact PySem.boot_len | decide +kernel) (wa_cons (we_var 1) (wa_nil))) (we_int)) (ww_or1 (wt_cmp (od_ne o) (we_ty (cd_list o.K) B.b_list (by first | exact PySem.boot_list | decide +kernel) (wa_cons (we_var 1) (wa_nil))) (we_bi (cd_sortedX o) B.b_sorted (by first | exact PySem.boot_sorted | decide +kernel) (wa_cons (we_var 1) (wa_nil))))))).pt) (wss_one (ws_ret (we_bl))) (wss_nil)) (wss_cons (ws_set (i := 2) o (we_fn (FnB_at h__begun_ahead G H' M) o (wa_cons (we_var 0) (wa_nil)))) (wss_cons (ws_asg (is := [3, 4, 5, 6]) (ps_asg (we_var 1) (wg_tup o.K o.calm (wgs_cons (wg_name o.nd 3) (wgs_cons (wg_name o.nd 4) (wgs_cons (wg_name o.nd 5) (wgs_cons (wg_name o.nd 6) (wgs_nil)))))))) (wss_one (ws_ret (we_cmp (od_eq o) (we_bin od_xor (we_bin od_xor (we_bin od_xor (we_ix (ixd o.K) (we_var 2) (we_var 3)) (we_ix (ixd o.K) (we_var 2) (we_var 4))) (we_ix (ixd o.K) (we_var 2) (we_var 5))) (we_ix (ixd o.K) (we_var 2) (we_var 6))) (we_int))))))
abbrev s_is_cut : Stmt := topS 38
theorem sc_is_cut : FnScope ["ring", "value"] ["ring", "value"] (defScope s_is_cut) := ⟨rfl, rfl, rfl, by decide +kernel, rfl, by decide +kernel, by decide +kernel⟩
theorem k_is_cut {P : Program} {w : World} {K : PySem.W.Frag} {mg : Str → Option Value} {base : Heap} {z : Z} (hK : K = z.K) (B : Bt mg) {f : Addr} {fd : FuncData} (F : Fun K "is_cut" "is_cut" s_is_cut f fd) (hm : mg "is_cut" = some (.ref f)) (h_check_ring : FnB P w K mg base z 3 "check_ring" ["value"] false m_check_ring_k46) (h__is_cut : FnB P w K mg base z 4 "_is_cut" ["ring", "value"] false m__is_cut) : FnB P w K mg base z 5 "is_cut" ["ring", "value"] false m_is_cut := by
  refine ⟨f, fd, fn_ok (k := 4) F sc_is_cut hK (fun cdv A outer s H E G H' M o => ?_), hm, F.kp, F.binds (fun _ _ _ _ _ _ us hl => match us, hl with | [_, _], _ => rfl)⟩
  exact wss_cons (ws_expr (we_fn (FnB_at h_check_ring G H' M) o (wa_cons (we_var 0) (wa_nil)))) (wss_one (ws_ret (we_fn (FnB_at h__is_cut G H' M) o (wa_cons (we_var 0) (wa_cons (we_var 1) (wa_nil))))))
abbrev s_cuts : Stmt := topS 40
theorem sc_cuts : FnScope ["ring"] ["ring"] (defScope s_cuts) := ⟨rfl, rfl, rfl, by decide +kernel, rfl, by decide +kernel, by decide +kernel⟩
theorem k_cuts {P : Program} {w : World} {K : PySem.W.Frag} {mg : Str → Option Value} {base : Heap} {z : Z} (hK : K = z.K) (B : Bt mg) {f : Addr} {fd : FuncData} (F : Fun K "cuts" "cuts" s_cuts f fd) (hm : mg "cuts" = some (.ref f)) (h_check_ring : FnB P w K mg base z 3 "check_ring" ["value"] false m_check_ring_k46) : FnB P w K mg base z 4 "cuts" ["ring"] false m_cuts := by
  refine ⟨f, fd, fn_ok (k := 3) F sc_cuts hK (fun cdv A outer s H E G H' M o => ?_), hm, F.kp, F.binds (fun _ _ _ _ _ _ us hl => match us, hl with | [_], _ => rfl)⟩
  exact wss_cons (ws_expr (we_fn (FnB_at h_check_ring G H' M) o (wa_cons (we_var 0) (wa_nil)))) (wss_one (ws_ret (we_ty (cd_tuple o.K) B.b_tuple (by first | exact PySem.boot_tuple | decide +kernel) (wa_cons (we_no) (wa_nil)))))
abbrev s__check_cut : Stmt := topS 41
theorem sc__check_cut : FnScope ["ring", "cut"] ["ring", "cut"] (defScope s__check_cut) := ⟨rfl, rfl, rfl, by decide +kernel, rfl, by decide +kernel, by decide +kernel⟩
theorem k__check_cut {P : Program} {w : World} {K : PySem.W.Frag} {mg : Str → Option Value} {base : Heap} {z : Z} (hK : K = z.K) (B : Bt mg) {f : Addr} {fd : FuncData} (F : Fun K "_check_cut" "_check_cut" s__check_cut f fd) (hm : mg "_check_cut" = some (.ref f)) (h_check_ring : FnB P w K mg base z 3 "check_ring" ["value"] false m_check_ring_k46) (h__is_cut : FnB P w K mg base z 4 "_is_cut" ["ring", "value"] false m__is_cut) (x_InvalidOperation : ∃ D0, XcB K mg z 2 "InvalidOperation" D0) : FnB P w K mg base z 5 "_check_cut" ["ring", "cut"] false m__check_cut := by
  refine ⟨f, fd, fn_ok (k := 4) F sc__check_cut hK (fun cdv A outer s H E G H' M o => ?_), hm, F.kp, F.binds (fun _ _ _ _ _ _ us hl => match us, hl with | [_, _], _ => rfl)⟩
  exact wss_cons (ws_expr (we_fn (FnB_at h_check_ring G H' M) o (wa_cons (we_var 0) (wa_nil)))) (wss_one (ws_if (wt_not (wt_tru o.K (we_fn (FnB_at h__is_cut G H' M) o (wa_cons (we_var 0) (wa_cons (we_var 1) (wa_nil)))))) (wss_one (ws_raiseM o (x_InvalidOperation.choose_spec.at_ G H' M))) (wss_nil)))
abbrev s_share_of : Stmt := topS 42
theorem sc_share_of : FnScope ["ring", "cut", "a", "b", "c", "d"] ["ring", "cut"] (defScope s_share_of) := ⟨rfl, rfl, rfl, by decide +kernel, rfl, by decide +kernel, by decide +kernel⟩
theorem k_share_of {P : Program} {w : World} {K : PySem.W.Frag} {mg : Str → Option Value} {base : Heap} {z : Z} (hK : K = z.K) (B : Bt mg) {f : Addr} {fd : FuncData} (F : Fun K "share_of" "share_of" s_share_of f fd) (hm : mg "share_of" = some (.ref f)) (h__check_cut : FnB P w K mg base z 5 "_check_cut" ["ring", "cut"] false m__check_cut) : FnB P w K mg base z 6 "share_of" ["ring", "cut"] false m_share_of := by
  refine ⟨f, fd, fn_ok (k := 5) F sc_share_of hK (fun cdv A outer s H E G H' M o => ?_), hm, F.kp, F.binds (fun _ _ _ _ _ _ us hl => match us, hl with | [_, _], _ => rfl)⟩
  exact wss_cons (ws_expr (we_fn (FnB_at h__check_cut G H' M) o (wa_cons (we_var 0) (wa_cons (we_var 1) (wa_nil))))) (wss_cons (ws_asg (is := [2, 3, 4, 5]) (ps_asg (we_var 1) (wg_tup o.K o.calm (wgs_cons (wg_name o.nd 2) (wgs_cons (wg_name o.nd 3) (wgs_cons (wg_name o.nd 4) (wgs_cons (wg_name o.nd 5) (wgs_nil)))))))) (wss_one (ws_ret (we_ty (cd_tuple o.K) B.b_tuple (by first | exact PySem.boot_tuple | decide +kernel) (wa_cons (we_srtSet o (we_bin (od_add o.K) (we_slice (sld o.K) (we_var 0) (wo_some (we_var 2)) (wo_some (we_var 3))) (we_slice (sld o.K) (we_var 0) (wo_some (we_var 4)) (wo_some (we_var 5)))) B.b_sorted B.b_set) (wa_nil))))))
abbrev s__flipped : Stmt := topS 43
theorem sc__flipped : FnScope ["ring", "cut", "word", "a", "b", "c", "d", "first", "second"] ["ring", "cut", "word"] (defScope s__flipped) := ⟨rfl, rfl, rfl, by decide +kernel, rfl, by decide +kernel, by decide +kernel⟩
theorem k__flipped {P : Program} {w : World} {K : PySem.W.Frag} {mg : Str → Option Value} {base : Heap} {z : Z} (hK : K = z.K) (B : Bt mg) {f : Addr} {fd : FuncData} (F : Fun K "_flipped" "_flipped" s__flipped f fd) (hm : mg "_flipped" = some (.ref f)) : FnB P w K mg base z 1 "_flipped" ["ring", "cut", "word"] false m__flipped := by
  refine ⟨f, fd, fn_ok (k := 0) F sc__flipped hK (fun cdv A outer s H E G H' M o => ?_), hm, F.kp, F.binds (fun _ _ _ _ _ _ us hl => match us, hl with | [_, _, _], _ => rfl)⟩
  exact wss_cons (ws_asg (is := [3, 4, 5, 6]) (ps_asg (we_var 1) (wg_tup o.K o.calm (wgs_cons (wg_name o.nd 3) (wgs_cons (wg_name o.nd 4) (wgs_cons (wg_name o.nd 5) (wgs_cons (wg_name o.nd 6) (wgs_nil)))))))) (wss_cons (ws_par (ps_par (i := 7) (j := 8) o.calm o.nd rfl rfl (by decide) rfl rfl (pa_cons (we_slice (sld o.K) (we_var 0) (wo_some (we_var 3)) (wo_some (we_var 4))) (pa_cons (we_slice (sld o.K) (we_var 0) (wo_some (we_var 5)) (wo_some (we_var 6))) pa_nil)) (by first | rfl | with_unfolding_all rfl | kernel_rfl))) (wss_cons (ws_if (wt_cmp (od_ne o) (we_var 2) (we_str)) (wss_one (ws_par (ps_par (i := 7) (j := 8) o.calm o.nd rfl rfl (by decide) rfl rfl (pa_cons (we_back o.K (we_var 7)) (pa_cons (we_back o.K (we_var 8)) pa_nil)) (by first | rfl | with_unfolding_all rfl | kernel_rfl)))) (wss_nil)) (wss_cons (ws_if (wt_cmp (od_ne o) (we_var 2) (we_str)) (wss_one (ws_par (ps_par (i := 7) (j := 8) o.calm o.nd rfl rfl (by decide) rfl rfl (pa_cons (we_var 8) (pa_cons (we_var 7) pa_nil)) (by first | rfl | with_unfolding_all rfl | kernel_rfl)))) (wss_nil)) (wss_one (ws_ret (we_bin (od_add o.K) (we_bin (od_add o.K) (we_bin (od_add o.K) (we_bin (od_add o.K) (we_slice (sld o.K) (we_var 0) (wo_none) (wo_some (we_var 3))) (we_var 7)) (we_slice (sld o.K) (we_var 0) (wo_some (we_var 4)) (wo_some (we_var 5)))) (we_var 8)) (we_slice (sld o.K) (we_var 0) (wo_some (we_var 6)) (wo_none))))))))
abbrev s_flipped : Stmt := topS 44
theorem sc_flipped : FnScope ["ring", "cut", "word"] ["ring", "cut", "word"] (defScope s_flipped) := ⟨rfl, rfl, rfl, by decide +kernel, rfl, by decide +kernel, by decide +kernel⟩
theorem k_flipped {P : Program} {w : World} {K : PySem.W.Frag} {mg : Str → Option Value} {base : Heap} {z : Z} (hK : K = z.K) (B : Bt mg) {f : Addr} {fd : FuncData} (F : Fun K "flipped" "flipped" s_flipped f fd) (hm : mg "flipped" = some (.ref f)) (h__check_cut : FnB P w K mg base z 5 "_check_cut" ["ring", "cut"] false m__check_cut) (h__flipped : FnB P w K mg base z 1 "_flipped" ["ring", "cut", "word"] false m__flipped) (x_InvalidOperation : ∃ D0, XcB K mg z 2 "InvalidOperation" D0) (k_WORDS : ∃ a, mg "WORDS" = some (.ref a) ∧ ConT K a ["reverse", "exchange", "both"]) : FnB P w K mg base z 6 "flipped" ["ring", "cut", "word"] false m_flipped := by
  refine ⟨f, fd, fn_ok (k := 5) F sc_flipped hK (fun cdv A outer s H E G H' M o => ?_), hm, F.kp, F.binds (fun _ _ _ _ _ _ us hl => match us, hl with | [_, _, _], _ => rfl)⟩
  exact wss_cons (ws_expr (we_fn (FnB_at h__check_cut G H' M) o (wa_cons (we_var 0) (wa_cons (we_var 1) (wa_nil))))) (wss_cons (ws_if (wt_cmp (od_notInE o) (we_var 2) (we_conT o.K k_WORDS.choose_spec.1 k_WORDS.choose_spec.2)) (wss_one (ws_raiseM o (x_InvalidOperation.choose_spec.at_ G H' M))) (wss_nil)) (wss_one (ws_ret (we_fn (FnB_at h__flipped G H' M) o (wa_cons (we_var 0) (wa_cons (we_var 1) (wa_cons (we_var 2) (wa_nil))))))))
abbrev s_rings_of : Stmt := topS 45
theorem sc_rings_of : FnScope ["web"] ["web"] (defScope s_rings_of) := ⟨rfl, rfl, rfl, by decide +kernel, rfl, by decide +kernel, by decide +kernel⟩
theorem k_rings_of {P : Program} {w : World} {K : PySem.W.Frag} {mg : Str → Option Value} {base : Heap} {z : Z} (hK : K = z.K) (B : Bt mg) {f : Addr} {fd : FuncData} (F : Fun K "rings_of" "rings_of" s_rings_of f fd) (hm : mg "rings_of" = some (.ref f)) (h_forms_of : FnB P w K mg base z 5 "forms_of" ["web"] false m_forms_of_k46) : FnB P w K mg base z 6 "rings_of" ["web"] false m_rings_of := by
  refine ⟨f, fd, fn_ok (k := 5) F sc_rings_of hK (fun cdv A outer s H E G H' M o => ?_), hm, F.kp, F.binds (fun _ _ _ _ _ _ us hl => match us, hl with | [_], _ => rfl)⟩
  exact wss_one (ws_ret (we_fn (FnB_at h_forms_of G H' M) o (wa_cons (we_var 0) (wa_nil))))
abbrev s__check_both : Stmt := topS 46
theorem sc__check_both : FnScope ["one", "other"] ["one", "other"] (defScope s__check_both) := ⟨rfl, rfl, rfl, by decide +kernel, rfl, by decide +kernel, by decide +kernel⟩
theorem k__check_both {P : Program} {w : World} {K : PySem.W.Frag} {mg : Str → Option Value} {base : Heap} {z : Z} (hK : K = z.K) (B : Bt mg) {f : Addr} {fd : FuncData} (F : Fun K "_check_both" "_check_both" s__check_both f fd) (hm : mg "_check_both" = some (.ref f)) (h_check_ring : FnB P w K mg base z 3 "check_ring" ["value"] false m_check_ring_k46) (x_InvalidOperation : ∃ D0, XcB K mg z 2 "InvalidOperation" D0) (x_TooMany : ∃ D0, XvB P w K mg base z 4 "TooMany" "limit" D0) : FnB P w K mg base z 4 "_check_both" ["one", "other"] false m__check_both := by
  obtain ⟨t_MOST_CHORDS, e_MOST_CHORDS⟩ := B.c_MOST_CHORDS
  refine ⟨f, fd, fn_ok (k := 3) F sc__check_both hK (fun cdv A outer s H E G H' M o => ?_), hm, F.kp, F.binds (fun _ _ _ _ _ _ us hl => match us, hl with | [_, _], _ => rfl)⟩
  exact wss_cons (ws_expr (we_fn (FnB_at h_check_ring G H' M) o (wa_cons (we_var 0) (wa_nil)))) (wss_cons (ws_expr (we_fn (FnB_at h_check_ring G H' M) o (wa_cons (we_var 1) (wa_nil)))) (wss_cons (ws_if (wt_cmp (od_ne o) (we_bi (cd_len o.K) B.b_len (by first | exact PySem.boot_len | decide +kernel) (wa_cons (we_var 0) (wa_nil))) (we_bi (cd_len o.K) B.b_len (by first | exact PySem.boot_len | decide +kernel) (wa_cons (we_var 1) (wa_nil)))) (wss_one (ws_raiseM o (x_InvalidOperation.choose_spec.at_ G H' M))) (wss_nil)) (wss_one (ws_if (wt_cmp od_gt (we_bi (cd_len o.K) B.b_len (by first | exact PySem.boot_len | decide +kernel) (wa_cons (we_var 0) (wa_nil))) (we_bin (od_mul o.K) (we_int) (we_glob (v := .int 5) e_MOST_CHORDS ⟨_, rfl⟩ (fun _ _ _ => .int _)))) (wss_one (ws_raiseV o (x_TooMany.choose_spec.at_ G H' M) (we_glob (v := .int 5) e_MOST_CHORDS ⟨_, rfl⟩ (fun _ _ _ => .int _)))) (wss_nil)))))
abbrev s__flips_between : Stmt := topS 48
theorem sc__flips_between : FnScope ["one", "other", "goal", "rows", "layer", "behind", "ring", "row", "more", "flip", "form"] ["one", "other"] (defScope s__flips_between) := ⟨rfl, rfl, rfl, by decide +kernel, rfl, by decide +kernel, by decide +kernel⟩
theorem k__flips_between {P : Program} {w : World} {K : PySem.W.Frag} {mg : Str → Option Value} {base : Heap} {z : Z} (hK : K = z.K) (B : Bt mg) {f : Addr} {fd : FuncData} (F : Fun K "_flips_between" "_flips_between" s__flips_between f fd) (hm : mg "_flips_between" = some (.ref f)) (h_least_form : FnB P w K mg base z 4 "least_form" ["ring"] false m_least_form_k46) : FnB P w K mg base z 5 "_flips_between" ["one", "other"] false m__flips_between := by
  refine ⟨f, fd, fn_okT (k := 4) F sc__flips_between hK (fun cdv A outer s H E G H' M o => ?_), hm, F.kp, F.binds (fun _ _ _ _ _ _ us hl => match us, hl with | [_, _], _ => rfl)⟩
  exact wss0_cons (ps0 (ws_set (i := 2) o (we_fn (FnB_at h_least_form G H' M) o (wa_cons (we_var 1) (wa_nil))))) (wk_body (i := 3) (j := 4) (g := 2) o (by have := (o).room.un; omega) (ps_par (i := 3) (j := 4) o.calm o.nd rfl rfl (by decide) rfl rfl (pa_cons (TK.pe_d1 (by have := (o).room.un; omega) (we_fn (FnB_at h_least_form G H' M) o (wa_cons (we_var 0) (wa_nil))) (we_tup (wa_nil))) (pa_cons (we_lst (wa_cons (we_tup (wa_cons (we_var 0) (wa_cons (we_tup (wa_nil)) (wa_nil)))) (wa_nil))) pa_nil)) (by first | rfl | with_unfolding_all rfl | kernel_rfl)) (pv 2) (pv 3) (pv 2) (pv 3) (fun _ _ => rfl))
abbrev s_flips_or_pair : Stmt := topS 49
theorem sc_flips_or_pair : FnScope ["one", "other", "unlike"] ["one", "other"] (defScope s_flips_or_pair) := ⟨rfl, rfl, rfl, by decide +kernel, rfl, by decide +kernel, by decide +kernel⟩
theorem k_flips_or_pair {P : Program} {w : World} {K : PySem.W.Frag} {mg : Str → Option Value} {base : Heap} {z : Z} (hK : K = z.K) (B : Bt mg) {C : Addr} (W : ClB K mg z "Web" C FLD) (Pr_ties : PrB P w K mg base C "ties" "_ties") {f : Addr} {fd : FuncData} (F : Fun K "flips_or_pair" "flips_or_pair" s_flips_or_pair f fd) (hm : mg "flips_or_pair" = some (.ref f)) (h__check_both : FnB P w K mg base z 4 "_check_both" ["one", "other"] false m__check_both) (h__flips_between : FnB P w K mg base z 5 "_flips_between" ["one", "other"] false m__flips_between) (h_web_of : FnB P w K mg base z 8 "web_of" ["ring"] false m_web_of_k46) : FnB P w K mg base z 9 "flips_or_pair" ["one", "other"] false m_flips_or_pair := by
  refine ⟨f, fd, fn_ok (k := 8) F sc_flips_or_pair hK (fun cdv A outer s H E G H' M o => ?_), hm, F.kp, F.binds (fun _ _ _ _ _ _ us hl => match us, hl with | [_, _], _ => rfl)⟩
  exact wss_cons (ws_expr (we_fn (FnB_at h__check_both G H' M) o (wa_cons (we_var 0) (wa_cons (we_var 1) (wa_nil))))) (wss_cons (ws_set (i := 2) o (we_setXor o (by have := (o).room.un; omega) (we_propB (we_fn (FnB_at h_web_of G H' M) o (wa_cons (we_var 0) (wa_nil))) o (W.at_ G H' M) Pr_ties (atF1 (by decide))) (we_propB (we_fn (FnB_at h_web_of G H' M) o (wa_cons (we_var 1) (wa_nil))) o (W.at_ G H' M) Pr_ties (atF1 (by decide))) B.b_sorted B.b_set)) (wss_cons (ws_if (wt_tru o.K (we_var 2)) (wss_one (ws_ret (we_bin (od_add o.K) (we_tup (wa_cons (we_str) (wa_nil))) (we_ix (ixd o.K) (we_var 2) (we_int))))) (wss_nil)) (wss_one (ws_ret (we_tup (wa_cons (we_str) (wa_cons (we_fn (FnB_at h__flips_between G H' M) o (wa_cons (we_var 0) (wa_cons (we_var 1) (wa_nil)))) (wa_nil))))))))
abbrev s__are_flips : Stmt := topS 50
theorem sc__are_flips : FnScope ["one", "other", "row", "ring", "flip"] ["one", "other", "row"] (defScope s__are_flips) := ⟨rfl, rfl, rfl, by decide +kernel, rfl, by decide +kernel, by decide +kernel⟩
theorem k__are_flips {P : Program} {w : World} {K : PySem.W.Frag} {mg : Str → Option Value} {base : Heap} {z : Z} (hK : K = z.K) (B : Bt mg) {f : Addr} {fd : FuncData} (F : Fun K "_are_flips" "_are_flips" s__are_flips f fd) (hm : mg "_are_flips" = some (.ref f)) (h__flipped : FnB P w K mg base z 1 "_flipped" ["ring", "cut", "word"] false m__flipped) (h_least_form : FnB P w K mg base z 4 "least_form" ["ring"] false m_least_form_k46) (h__is_cut : FnB P w K mg base z 4 "_is_cut" ["ring", "value"] false m__is_cut) (k_WORDS : ∃ a, mg "WORDS" = some (.ref a) ∧ ConT K a ["reverse", "exchange", "both"]) : FnB P w K mg base z 5 "_are_flips" ["one", "other", "row"] false m__are_flips := by
  obtain ⟨t_MOST_FLIPS, e_MOST_FLIPS⟩ := B.c_MOST_FLIPS
  refine ⟨f, fd, fn_ok (k := 4) F sc__are_flips hK (fun cdv A outer s H E G H' M o => ?_), hm, F.kp, F.binds (fun _ _ _ _ _ _ us hl => match us, hl with | [_, _, _], _ => rfl)⟩
  exact wss_cons (ws_if ((ww_or (wt_not (wt_tru o.K (we_bi (cd_isi o.K) B.b_isinstance (by first | exact PySem.boot_isinstance | decide +kernel) (wa_cons (we_var 2) (wa_cons (we_tyName B.b_tuple (by first | exact PySem.boot_tuple | decide +kernel)) (wa_nil)))))) (ww_or1 (wt_cmp od_gt (we_bi (cd_len o.K) B.b_len (by first | exact PySem.boot_len | decide +kernel) (wa_cons (we_var 2) (wa_nil))) (we_glob (v := .int 200) e_MOST_FLIPS ⟨_, rfl⟩ (fun _ _ _ => .int _))))).pt) (wss_one (ws_ret (we_bl))) (wss_nil)) (wss_cons (ws_set (i := 3) o (we_var 0)) (wss_cons (ws_for (is := [4]) o (wi_seq o.K (we_var 2)) (wg_name o.nd 4) (wss_cons (ws_if ((ww_or (wt_not (wt_tru o.K (we_bi (cd_isi o.K) B.b_isinstance (by first | exact PySem.boot_isinstance | decide +kernel) (wa_cons (we_var 4) (wa_cons (we_tyName B.b_tuple (by first | exact PySem.boot_tuple | decide +kernel)) (wa_nil)))))) (ww_or1 (wt_cmp (od_ne o) (we_bi (cd_len o.K) B.b_len (by first | exact PySem.boot_len | decide +kernel) (wa_cons (we_var 4) (wa_nil))) (we_int)))).pt) (wss_one (ws_ret (we_bl))) (wss_nil)) (wss_cons (ws_if ((ww_or (wt_not (wt_tru o.K (we_fn (FnB_at h__is_cut G H' M) o (wa_cons (we_var 3) (wa_cons (we_ix (ixd o.K) (we_var 4) (we_int)) (wa_nil)))))) (ww_or1 (wt_cmp (od_notInE o) (we_ix (ixd o.K) (we_var 4) (we_int)) (we_conT o.K k_WORDS.choose_spec.1 k_WORDS.choose_spec.2)))).pt) (wss_one (ws_ret (we_bl))) (wss_nil)) (wss_one (ws_set (i := 3) o (we_fn (FnB_at h__flipped G H' M) o (wa_cons (we_var 3) (wa_cons (we_ix (ixd o.K) (we_var 4) (we_int)) (wa_cons (we_ix (ixd o.K) (we_var 4) (we_int)) (wa_nil)))))))))) (wss_one (ws_ret (we_cmp (od_eq o) (we_fn (FnB_at h_least_form G H' M) o (wa_cons (we_var 3) (wa_nil))) (we_fn (FnB_at h_least_form G H' M) o (wa_cons (we_var 1) (wa_nil))))))))
abbrev s_is_flips_or_pair : Stmt := topS 51
theorem sc_is_flips_or_pair : FnScope ["one", "other", "value", "pair"] ["one", "other", "value"] (defScope s_is_flips_or_pair) := ⟨rfl, rfl, rfl, by decide +kernel, rfl, by decide +kernel, by decide +kernel⟩
theorem k_is_flips_or_pair {P : Program} {w : World} {K : PySem.W.Frag} {mg : Str → Option Value} {base : Heap} {z : Z} (hK : K = z.K) (B : Bt mg) {C : Addr} (W : ClB K mg z "Web" C FLD) (Pr_ties : PrB P w K mg base C "ties" "_ties") {f : Addr} {fd : FuncData} (F : Fun K "is_flips_or_pair" "is_flips_or_pair" s_is_flips_or_pair f fd) (hm : mg "is_flips_or_pair" = some (.ref f)) (h__check_both : FnB P w K mg base z 4 "_check_both" ["one", "other"] false m__check_both) (h__are_flips : FnB P w K mg base z 5 "_are_flips" ["one", "other", "row"] false m__are_flips) (h_is_ascending : FnB P w K mg base z 4 "is_ascending" ["value", "limit"] false m_is_ascending) (h_web_of : FnB P w K mg base z 8 "web_of" ["ring"] false m_web_of_k46) : FnB P w K mg base z 9 "is_flips_or_pair" ["one", "other", "value"] false m_is_flips_or_pair := by
  refine ⟨f, fd, fn_ok (k := 8) F sc_is_flips_or_pair hK (fun cdv A outer s H E G H' M o => ?_), hm, F.kp, F.binds (fun _ _ _ _ _ _ us hl => match us, hl with | [_, _, _], _ => rfl)⟩
  exact wss_cons (ws_expr (we_fn (FnB_at h__check_both G H' M) o (wa_cons (we_var 0) (wa_cons (we_var 1) (wa_nil))))) (wss_cons (ws_if ((ww_or (wt_not (wt_tru o.K (we_bi (cd_isi o.K) B.b_isinstance (by first | exact PySem.boot_isinstance | decide +kernel) (wa_cons (we_var 2) (wa_cons (we_tyName B.b_tuple (by first | exact PySem.boot_tuple | decide +kernel)) (wa_nil)))))) (ww_or1 (wt_cmp (od_notIn o) (we_bi (cd_len o.K) B.b_len (by first | exact PySem.boot_len | decide +kernel) (wa_cons (we_var 2) (wa_nil))) (we_tup (wa_cons (we_int) (wa_cons (we_int) (wa_nil))))))).pt) (wss_one (ws_ret (we_bl))) (wss_nil)) (wss_cons (ws_if (wt_cmp (od_eq o) (we_bi (cd_len o.K) B.b_len (by first | exact PySem.boot_len | decide +kernel) (wa_cons (we_var 2) (wa_nil))) (we_int)) (wss_one (ws_ret (we_and (we_cmp (od_eq o) (we_ix (ixd o.K) (we_var 2) (we_int)) (we_str)) (we_one (we_fn (FnB_at h__are_flips G H' M) o (wa_cons (we_var 0) (wa_cons (we_var 1) (wa_cons (we_ix (ixd o.K) (we_var 2) (we_int)) (wa_nil))))))))) (wss_nil)) (wss_cons (ws_set (i := 3) o (we_slice (sld o.K) (we_var 2) (wo_some (we_int)) (wo_none))) (wss_cons (ws_if ((ww_or (wt_cmp (od_ne o) (we_ix (ixd o.K) (we_var 2) (we_int)) (we_str)) (ww_or1 (wt_not (wt_tru o.K (we_fn (FnB_at h_is_ascending G H' M) o (wa_cons (we_var 3) (wa_cons (we_bin od_div (we_bi (cd_len o.K) B.b_len (by first | exact PySem.boot_len | decide +kernel) (wa_cons (we_var 0) (wa_nil))) (we_int)) (wa_nil)))))))).pt) (wss_one (ws_ret (we_bl))) (wss_nil)) (wss_one (ws_ret (we_cmp (od_ne o) (we_cmp (od_in o) (we_var 3) (we_propB (we_fn (FnB_at h_web_of G H' M) o (wa_cons (we_var 0) (wa_nil))) o (W.at_ G H' M) Pr_ties (atF1 (by decide)))) (we_cmp (od_in o) (we_var 3) (we_propB (we_fn (FnB_at h_web_of G H' M) o (wa_cons (we_var 1) (wa_nil))) o (W.at_ G H' M) Pr_ties (atF1 (by decide)))))))))))
abbrev s__law_jar : Stmt := topS 53
theorem sc__law_jar : FnScope ["script", "spot", "cell", "great"] ["script", "spot"] (defScope s__law_jar) := ⟨rfl, rfl, rfl, by decide +kernel, rfl, by decide +kernel, by decide +kernel⟩
theorem k__law_jar {P : Program} {w : World} {K : PySem.W.Frag} {mg : Str → Option Value} {base : Heap} {z : Z} (hK : K = z.K) (B : Bt mg) {f : Addr} {fd : FuncData} (F : Fun K "_law_jar" "_law_jar" s__law_jar f fd) (hm : mg "_law_jar" = some (.ref f)) : FnB P w K mg base z 1 "_law_jar" ["script", "spot"] false m__law_jar := by
  refine ⟨f, fd, fn_ok (k := 0) F sc__law_jar hK (fun cdv A outer s H E G H' M o => ?_), hm, F.kp, F.binds (fun _ _ _ _ _ _ us hl => match us, hl with | [_, _], _ => rfl)⟩
  exact wss_cons (ws_set (i := 2) o (we_if (wt_cmp od_lt (we_var 1) (we_bi (cd_len o.K) B.b_len (by first | exact PySem.boot_len | decide +kernel) (wa_cons (we_var 0) (wa_nil)))) (we_ty cd_int B.b_int (by first | exact PySem.boot_int | decide +kernel) (wa_cons (we_ix (ixd o.K) (we_var 0) (we_var 1)) (wa_nil))) (we_bin (od_add o.K) (we_bin (od_mul o.K) (we_int) (we_var 1)) (we_int)))) (wss_cons (ws_set (i := 3) o (we_bin od_mod (we_ty cd_int B.b_int (by first | exact PySem.boot_int | decide +kernel) (wa_cons (we_bi cd_abs B.b_abs (by first | exact PySem.boot_abs | decide +kernel) (wa_cons (we_var 2) (wa_nil))) (wa_nil))) (we_bin od_mulW (we_bin od_pow (we_int) (we_int)) (we_bin od_pow (we_int) (we_int))))) (wss_one (ws_ret (we_lst (wa_cons (we_bi (cd_maxX o) B.b_max (by first | exact PySem.boot_max | decide +kernel) (wa_cons (we_int) (wa_cons (we_bin od_sub (we_var 3) (we_bin od_pow (we_int) (we_int))) (wa_nil)))) (wa_cons (we_bin (od_add o.K) (we_bin (od_add o.K) (we_bin (od_add o.K) (we_bin (od_mul o.K) (we_bin od_mod (we_ty cd_int B.b_int (by first | exact PySem.boot_int | decide +kernel) (wa_cons (we_var 3) (wa_nil))) (we_int)) (we_int)) (we_bin (od_mul o.K) (we_int) (we_var 1))) (we_bin (od_mul o.K) (we_int) (we_ty cd_int B.b_int (by first | exact PySem.boot_int | decide +kernel) (wa_cons (we_cmp od_lt (we_var 2) (we_int)) (wa_nil))))) (we_int)) (wa_cons (we_int) (wa_nil))))))))
abbrev s__law_pull : Stmt := topS 54
theorem sc__law_pull : FnScope ["jar", "total", "found", "one", "two"] ["jar", "total"] (defScope s__law_pull) := ⟨rfl, rfl, rfl, by decide +kernel, rfl, by decide +kernel, by decide +kernel⟩
theorem k__law_pull {P : Program} {w : World} {K : PySem.W.Frag} {mg : Str → Option Value} {base : Heap} {z : Z} (hK : K = z.K) (B : Bt mg) {f : Addr} {fd : FuncData} (F : Fun K "_law_pull" "_law_pull" s__law_pull f fd) (hm : mg "_law_pull" = some (.ref f)) : FnB P w K mg base z 1 "_law_pull" ["jar", "total"] true m__law_pull := by
  refine ⟨f, fd, fn_ok (k := 0) F sc__law_pull hK (fun cdv A outer s H E G H' M o => ?_), hm, F.kp, F.binds (fun _ _ _ _ _ _ us hl => match us, hl with | [_, _], _ => rfl)⟩
  exact wss_cons (ws_if (wt_cmp od_gt (we_ix (ixd o.K) (we_var 0) (we_int)) (we_int)) (wss_cons (ws_set (i := 2) o (we_bin od_mod (we_ty cd_int B.b_int (by first | exact PySem.boot_int | decide +kernel) (wa_cons (we_ix (ixd o.K) (we_var 0) (we_int)) (wa_nil))) (we_var 1))) (wss_cons (ws_setIx (ps_asg (we_bin od_div (we_ix (ixd o.K) (we_var 0) (we_int)) (we_var 1)) (pg_sub (pv 0) (we_int) set_list))) (wss_one (ws_ret (we_var 2))))) (wss_nil)) (wss_cons (ws_setIx (ps_asg (we_bin (od_add o.K) (we_ix (ixd o.K) (we_var 0) (we_int)) (we_int)) (pg_sub (pv 0) (we_int) set_list))) (wss_cons (ws_set (i := 3) o (we_bin od_mod (we_ty cd_int B.b_int (by first | exact PySem.boot_int | decide +kernel) (wa_cons (we_bin (od_add o.K) (we_ix (ixd o.K) (we_var 0) (we_int)) (we_bin (od_mul o.K) (we_int) (we_ix (ixd o.K) (we_var 0) (we_int)))) (wa_nil))) (we_int))) (wss_cons (ws_set (i := 4) o (we_bin (od_add o.K) (we_bin (od_mul o.K) (we_bin od_mod (we_ty cd_int B.b_int (by first | exact PySem.boot_int | decide +kernel) (wa_cons (we_bin (od_add o.K) (we_bin (od_mul o.K) (we_var 3) (we_var 3)) (we_bin (od_mul o.K) (we_int) (we_ix (ixd o.K) (we_var 0) (we_int)))) (wa_nil))) (we_int)) (we_int)) (we_var 3))) (wss_one (ws_ret (we_bin od_mod (we_ty cd_int B.b_int (by first | exact PySem.boot_int | decide +kernel) (wa_cons (we_bin od_div (we_var 4) (we_int)) (wa_nil))) (we_var 1)))))))
abbrev s__law_pick : Stmt := topS 55
theorem sc__law_pick : FnScope ["jar", "items"] ["jar", "items"] (defScope s__law_pick) := ⟨rfl, rfl, rfl, by decide +kernel, rfl, by decide +kernel, by decide +kernel⟩
theorem k__law_pick {P : Program} {w : World} {K : PySem.W.Frag} {mg : Str → Option Value} {base : Heap} {z : Z} (hK : K = z.K) (B : Bt mg) {f : Addr} {fd : FuncData} (F : Fun K "_law_pick" "_law_pick" s__law_pick f fd) (hm : mg "_law_pick" = some (.ref f)) (h__law_pull : FnB P w K mg base z 1 "_law_pull" ["jar", "total"] true m__law_pull) : FnB P w K mg base z 2 "_law_pick" ["jar", "items"] true m__law_pick_k46 := by
  refine ⟨f, fd, fn_ok (k := 1) F sc__law_pick hK (fun cdv A outer s H E G H' M o => ?_), hm, F.kp, F.binds (fun _ _ _ _ _ _ us hl => match us, hl with | [_, _], _ => rfl)⟩
  exact wss_one (ws_ret (we_ix (ixd o.K) (we_var 1) (we_fn (FnB_at h__law_pull G H' M) o (wa_cons (we_var 0) (wa_cons (we_bi (cd_len o.K) B.b_len (by first | exact PySem.boot_len | decide +kernel) (wa_cons (we_var 1) (wa_nil))) (wa_nil))))))
abbrev s__law_met : Stmt := topS 57
theorem sc__law_met : FnScope ["call", "error"] ["call"] (defScope s__law_met) := ⟨rfl, rfl, rfl, by decide +kernel, rfl, by decide +kernel, by decide +kernel⟩
theorem k__law_met {P : Program} {w : World} {K : PySem.W.Frag} {mg : Str → Option Value} {base : Heap} {z : Z} (hK : K = z.K) (B : Bt mg) {g : Addr} {oc kV doc pm cdv ct : Value} {an od : Option Addr} {osl : Array (Option Value)} (lk : K.lookup g = some ⟨oc, od, .func (PySem.W.fnOf "_law_met" "_law_met" (defArgs s__law_met) (defBody s__law_met) (defScope s__law_met) .none kV doc pm an cdv ct), osl⟩) (hcd : PySem.W.codeIn K cdv "_law_met" = true) (kp : PySem.W.keepIn K (.ref g) = true) (hm : mg "_law_met" = some (.ref g)) (xa : Nat → Addr) (hx : ∀ c < 5, z.xc c = .ref (xa c)) (hmx : ∀ c < 5, ∀ q ∈ ([(1, .s "ring"), (0, .s "web"), (2, .s "operation"), (4, .sr "many " "limit")] : List (Nat × Kd)), PySem.W.exmOne K (.ref (xa c)) (.ref (xa q.1)) = some (c == q.1)) (nm_InvalidRing : mg "InvalidRing" = some (.ref (xa 1))) (nm_InvalidWeb : mg "InvalidWeb" = some (.ref (xa 0))) (nm_InvalidOperation : mg "InvalidOperation" = some (.ref (xa 2))) (nm_TooMany : mg "TooMany" = some (.ref (xa 4))) (xf_TooMany : XfC K (xa 4)) (no_TooMany : PySem.W.findIn K (.ref (xa 4)) "limit" = some none) (zn_TooMany : z.xn 4 = some "limit") : MetB P w K mg base z "_law_met" 5 [(1, .s "ring"), (0, .s "web"), (2, .s "operation"), (4, .sr "many " "limit")] (.str "fine") := by
  refine ⟨xa, g, _, _, _, kV, doc, pm, cdv, ct, oc, an, od, osl, ["call", "error"], "call", hm, kp, lk, hcd, (fun_mk (st := s__law_met) lk hcd kp).binds (fun _ _ _ _ _ _ us hl => match us, hl with | [_], _ => rfl), sc__law_met, rfl, by first | exact .inl rfl | exact .inr (.inl rfl), by decide, by decide, rfl, hx, by decide, hmx, ?_, fun X e1 e2 e3 e4 e5 gd hr q => ?_⟩
  · intro q hq
    simp only [List.mem_cons, List.not_mem_nil, or_false] at hq
    rcases hq with rfl | rfl | rfl | rfl <;> first | exact trivial | assumption
  · subst e1 e2 e3 e4 e5
    exact met_gives (cl := [(xa 1, .s "ring", none), (xa 0, .s "web", none), (xa 2, .s "operation", none), (xa 4, .sr "many " "limit", some 1)]) (by decide) (by intro q hq; simp only [List.mem_cons, List.not_mem_nil, or_false] at hq; rcases hq with rfl | rfl | rfl | rfl <;> (intro i hi; first | (cases hi; done) | (cases hi; decide))) (fun s H => hd_s (X := cxM X _ _ _ _ _ s H) (⟨rfl, by decide, .inl nm_InvalidRing⟩) (hd_s (X := cxM X _ _ _ _ _ s H) (⟨rfl, by decide, .inl nm_InvalidWeb⟩) (hd_s (X := cxM X _ _ _ _ _ s H) (⟨rfl, by decide, .inl nm_InvalidOperation⟩) (hd_sr (X := cxM X _ _ _ _ _ s H) (i := 1) (⟨rfl, by decide, .inl nm_TooMany⟩) xf_TooMany no_TooMany rfl rfl (.inl rfl) (by decide) (by decide) rfl B.b_repr gd (room_units hr) rfl rfl (.nil))))) (fun s H => fe_s) (fun f => rfl)
abbrev s__law_right : Stmt := topS 58
theorem sc__law_right : FnScope ["jar", "none", "odd", "word", "web", "ring", "more", "great", "value", "told", "due", "call"] ["jar"] (defScope s__law_right) := ⟨rfl, rfl, rfl, by decide +kernel, rfl, by decide +kernel, by decide +kernel⟩
def cv__law_right (cells : List (Str × Addr)) : Nat → Addr → Addr → HO
  | 0 => CloO (lamQ "_law_right" (defScope s__law_right)) (lamP (forElt (defBody s__law_right) 21 1)) (lamB (forElt (defBody s__law_right) 21 1)) (lamS (forElt (defBody s__law_right) 21 1)) (cloFrom cells (lamS (forElt (defBody s__law_right) 21 1)).names [])
  | _ => fun _ _ => .own 0
theorem k__law_right {P : Program} {w : World} {K : PySem.W.Frag} {mg : Str → Option Value} {base : Heap} {z : Z} (hK : K = z.K) (B : Bt mg) {C : Addr} (W : ClB K mg z "Web" C FLD) {f c P0 : Addr} {fd : FuncData} (F : FunC K "_law_right" "_law_right" s__law_right f fd c) (hm : mg "_law_right" = some (.ref f)) (tb : LamX.TabB base mg c P0) (hT : (P0, lamQ "_law_right" (defScope s__law_right)) ∈ z.Ts) (hu : ∀ p ∈ z.Ts, p.1 = P0 → p.2 = lamQ "_law_right" (defScope s__law_right)) (h__law_pick : FnB P w K mg base z 2 "_law_pick" ["jar", "items"] true m__law_pick_k46) (h__law_met : MetB P w K mg base z "_law_met" 5 [(1, .s "ring"), (0, .s "web"), (2, .s "operation"), (4, .sr "many " "limit")] (.str "fine")) (h_flips_or_pair : FnB P w K mg base z 9 "flips_or_pair" ["one", "other"] false m_flips_or_pair) (h_is_flips_or_pair : FnB P w K mg base z 9 "is_flips_or_pair" ["one", "other", "value"] false m_is_flips_or_pair) (h_is_cut : FnB P w K mg base z 5 "is_cut" ["ring", "value"] false m_is_cut) (h_Web : MkB P w K mg base z 6 C FLD ["self", "knots", "ties"] 2 m_Web_k26) (h_cuts : FnB P w K mg base z 4 "cuts" ["ring"] false m_cuts) (h_share_of : FnB P w K mg base z 6 "share_of" ["ring", "cut"] false m_share_of) (h_flipped : FnB P w K mg base z 6 "flipped" ["ring", "cut", "word"] false m_flipped) (h_rings_of : FnB P w K mg base z 6 "rings_of" ["web"] false m_rings_of) (v_flips_or_pair : FnV mg z 1 "flips_or_pair") : FnGB P w K mg base z 14 "_law_right" ["jar"] true m__law_right_k46 := by
  refine ⟨f, fd, fn_okC (k := 13) cv__law_right F sc__law_right hK tb hT hu (fun A outer s H E G H' M X hX o gd ml => ?_), hm, F.kp, F.fn.binds (fun _ _ _ _ _ _ us hl => match us, hl with | [_], _ => rfl)⟩
  replace h__law_pick := h__law_pick.cel (cv__law_right X.env.cells) (lamQ "_law_right" (defScope s__law_right))
  replace h__law_met := h__law_met.cel (cv__law_right X.env.cells) (lamQ "_law_right" (defScope s__law_right))
  replace h_flips_or_pair := h_flips_or_pair.cel (cv__law_right X.env.cells) (lamQ "_law_right" (defScope s__law_right))
  replace h_is_flips_or_pair := h_is_flips_or_pair.cel (cv__law_right X.env.cells) (lamQ "_law_right" (defScope s__law_right))
  replace h_is_cut := h_is_cut.cel (cv__law_right X.env.cells) (lamQ "_law_right" (defScope s__law_right))
  replace h_Web := h_Web.cel (cv__law_right X.env.cells) (lamQ "_law_right" (defScope s__law_right))
  replace h_cuts := h_cuts.cel (cv__law_right X.env.cells) (lamQ "_law_right" (defScope s__law_right))
  replace h_share_of := h_share_of.cel (cv__law_right X.env.cells) (lamQ "_law_right" (defScope s__law_right))
  replace h_flipped := h_flipped.cel (cv__law_right X.env.cells) (lamQ "_law_right" (defScope s__law_right))
  replace h_rings_of := h_rings_of.cel (cv__law_right X.env.cells) (lamQ "_law_right" (defScope s__law_right))
  replace v_flips_or_pair := v_flips_or_pair.cel (cv__law_right X.env.cells) (lamQ "_law_right" (defScope s__law_right))
  replace W := W.cel (cv__law_right X.env.cells) (lamQ "_law_right" (defScope s__law_right))
  subst hX
  obtain ⟨cM, PM, TBM, hcM, hTM, huM⟩ := ml.ex
  have cw := cwOf o ml (ct := ctL [⟨2, [8], m_is_flips_or_pair, aCons (fVar 0) (aCons (fVar 1) (aCons (fVar 2) (aNil)))⟩]) (j := 9) (by
    intro k c e
    rcases k with _ | _
    · cases e
      exact cloW_fn (e := (forElt (defBody s__law_right) 21 1)) (N := ["one", "other", "value"]) (ps := ["one", "other"]) (fr := ["value"]) (sc := defScope s__law_right) rfl rfl rfl rfl (by decide +kernel) rfl rfl (by decide +kernel) rfl (fun _ _ _ _ _ us hl => match us, hl with | [_, _], _ => rfl) (lenA_cons (lenA_cons (lenA_cons lenA_nil))) (FnB_at h_is_flips_or_pair G H' M).up rfl rfl (fun A outer s H W f c' z' => wa_cons (we_var 0) (wa_cons (we_var 1) (wa_cons (we_var 2) (wa_nil))))
    · cases e)
  exact wss0_cons (ps0 (ws_set (i := 1) o (we_lst (wa_cons (we_non) (wa_cons (we_int) (wa_cons (we_tup (wa_nil)) (wa_cons (we_tup (wa_cons (we_int) (wa_cons (we_int) (wa_nil)))) (wa_cons (we_tup (wa_cons (we_int) (wa_cons (we_int) (wa_cons (we_int) (wa_nil))))) (wa_cons (we_lst (wa_cons (we_int) (wa_cons (we_int) (wa_nil)))) (wa_cons (we_str) (wa_cons (we_tup (wa_cons (we_int) (wa_cons (we_int) (wa_cons (we_int) (wa_cons (we_int) (wa_nil)))))) (wa_cons (we_tup (wa_cons (we_int) (wa_cons (we_int) (wa_nil)))) (wa_cons (we_tup (wa_cons (we_int) (wa_cons (we_bl) (wa_cons (we_int) (wa_cons (we_int) (wa_nil)))))) (wa_cons (we_dct) (wa_cons (we_tup (wa_cons (we_int) (wa_cons (we_int) (wa_cons (we_int) (wa_cons (we_int) (wa_nil)))))) (wa_nil)))))))))))))))) (wss0_cons (ps0 (ws_set (i := 2) o (we_lst (wa_cons (we_non) (wa_cons (we_int) (wa_cons (we_tup (wa_cons (we_int) (wa_cons (we_int) (wa_cons (we_int) (wa_nil))))) (wa_cons (we_tup (wa_cons (we_int) (wa_cons (we_int) (wa_cons (we_int) (wa_cons (we_int) (wa_nil)))))) (wa_cons (we_lst (wa_cons (we_int) (wa_cons (we_int) (wa_cons (we_int) (wa_cons (we_int) (wa_nil)))))) (wa_cons (we_tup (wa_cons (we_int) (wa_cons (we_int) (wa_cons (we_int) (wa_cons (we_int) (wa_nil)))))) (wa_cons (we_tup (wa_cons (we_un un_neg (we_int)) (wa_cons (we_int) (wa_cons (we_int) (wa_cons (we_int) (wa_nil)))))) (wa_cons (we_tup (wa_cons (we_int) (wa_cons (we_int) (wa_cons (we_int) (wa_cons (we_int) (wa_nil)))))) (wa_cons (we_tup (wa_cons (we_int) (wa_cons (we_int) (wa_cons (we_bl) (wa_cons (we_int) (wa_nil)))))) (wa_nil))))))))))))) (wss0_cons (ps0 (ws_parC o.calm (pg_name (i := 1) o.nd rfl (by first | exact .inl rfl | exact .inr rfl)) (pg_name (i := 2) o.nd rfl (by first | exact .inl rfl | exact .inr rfl)) (pa_cons (we_fn (FnB_at h__law_pick G H' M) o (wa_cons (we_var 0) (wa_cons (we_var 1) (wa_nil)))) (pa_cons (we_fn (FnB_at h__law_pick G H' M) o (wa_cons (we_var 0) (wa_cons (we_bin (od_add o.K) (we_var 2) (we_lst (wa_cons (we_str) (wa_nil)))) (wa_nil)))) (pa_nil))))) (wss0_cons (ps0 (ws_set (i := 3) o (we_fn (FnB_at h__law_pick G H' M) o (wa_cons (we_var 0) (wa_cons (we_lst (wa_cons (we_non) (wa_cons (we_str) (wa_cons (we_str) (wa_cons (we_int) (wa_cons (we_tup (wa_cons (we_str) (wa_nil))) (wa_cons (we_lst (wa_cons (we_str) (wa_nil))) (wa_cons (we_bl) (wa_nil))))))))) (wa_nil)))))) (wss0_cons (ps0 (ws_set (i := 4) o (we_fn (FnB_at h__law_pick G H' M) o (wa_cons (we_var 0) (wa_cons (we_lst (wa_cons (we_non) (wa_cons (we_int) (wa_cons (we_tup (wa_nil)) (wa_cons (we_tup (wa_cons (we_int) (wa_cons (we_tup (wa_nil)) (wa_nil)))) (wa_cons (we_str) (wa_cons (we_dct) (wa_cons (we_lst (wa_cons (we_mkB o (W.at_ G H' M) (MkB_at h_Web G H' M) (wa_cons (we_int) (wa_cons (we_tup (wa_nil)) (wa_nil)))) (wa_nil))) (wa_nil))))))))) (wa_nil)))))) (wss0_cons (ps0 (ws_parC3 o.calm (pg_name (i := 5) o.nd rfl (by first | exact .inl rfl | exact .inr rfl)) (pg_name (i := 6) o.nd rfl (by first | exact .inl rfl | exact .inr rfl)) (pg_name (i := 7) o.nd rfl (by first | exact .inl rfl | exact .inr rfl)) (pa_cons (we_tup (wa_cons (we_int) (wa_cons (we_int) (wa_cons (we_int) (wa_cons (we_int) (wa_nil)))))) (pa_cons (we_tup (wa_cons (we_int) (wa_cons (we_int) (wa_cons (we_int) (wa_cons (we_int) (wa_cons (we_int) (wa_cons (we_int) (wa_nil)))))))) (pa_cons (we_tup (wa_cons (we_int) (wa_cons (we_int) (wa_cons (we_int) (wa_cons (we_int) (wa_cons (we_int) (wa_cons (we_int) (wa_cons (we_int) (wa_cons (we_int) (wa_cons (we_int) (wa_cons (we_int) (wa_cons (we_int) (wa_cons (we_int) (wa_nil)))))))))))))) (pa_nil)))))) (wss0_cons (ps0 (ws_set (i := 8) o (we_fn (FnB_at h__law_pick G H' M) o (wa_cons (we_var 0) (wa_cons (we_lst (wa_cons (we_non) (wa_cons (we_tup (wa_nil)) (wa_cons (we_tup (wa_cons (we_str) (wa_nil))) (wa_cons (we_tup (wa_cons (we_str) (wa_cons (we_int) (wa_nil)))) (wa_cons (we_int) (wa_cons (we_str) (wa_cons (we_dct) (wa_cons (we_tup (wa_cons (we_str) (wa_cons (we_int) (wa_nil)))) (wa_nil)))))))))) (wa_nil)))))) (wss0_cons (ps0 (ws_set (i := 9) o (we_lst (wa_cons (we_met (j := 5) (h__law_met.at_ G H' M) o gd ml (lamR_fn (lenA_cons (lenA_cons lenA_nil))) (fun A1 outer1 s1 H1 W1 f1 c1 hr => lb_fn (FnB_at h_is_cut G H' M).up hr (wa_cons (we_var 1) (wa_cons (we_var 2) (wa_nil))))) (wa_nil))))) (wss0_cons (ps0 (ws_expr (we_app o (pe_bm PySem.F.plainAttrs_list PySem.F.slot_list_append PySem.F.type_list_append mt_append (pv 9) (pa_cons (we_met (j := 5) (h__law_met.at_ G H' M) o gd ml (lamR_fn (lenA_cons (lenA_cons lenA_nil))) (fun A1 outer1 s1 H1 W1 f1 c1 hr => lb_fn (FnB_at h_is_cut G H' M).up hr (wa_cons (we_var 5) (wa_cons (we_var 2) (wa_nil))))) pa_nil))))) (wss0_cons (ps0 (ws_expr (we_app o (pe_bm PySem.F.plainAttrs_list PySem.F.slot_list_append PySem.F.type_list_append mt_append (pv 9) (pa_cons (we_met (j := 4) (h__law_met.at_ G H' M) o gd ml (lamR_fn (lenA_cons lenA_nil)) (fun A1 outer1 s1 H1 W1 f1 c1 hr => lb_fn (FnB_at h_cuts G H' M).up hr (wa_cons (we_var 1) (wa_nil)))) pa_nil))))) (wss0_cons (ps0 (ws_expr (we_app o (pe_bm PySem.F.plainAttrs_list PySem.F.slot_list_append PySem.F.type_list_append mt_append (pv 9) (pa_cons (we_met (j := 6) (h__law_met.at_ G H' M) o gd ml (lamR_fn (lenA_cons (lenA_cons lenA_nil))) (fun A1 outer1 s1 H1 W1 f1 c1 hr => lb_fn (FnB_at h_share_of G H' M).up hr (wa_cons (we_var 1) (wa_cons (we_var 2) (wa_nil))))) pa_nil))))) (wss0_cons (ps0 (ws_expr (we_app o (pe_bm PySem.F.plainAttrs_list PySem.F.slot_list_append PySem.F.type_list_append mt_append (pv 9) (pa_cons (we_met (j := 6) (h__law_met.at_ G H' M) o gd ml (lamR_fn (lenA_cons (lenA_cons lenA_nil))) (fun A1 outer1 s1 H1 W1 f1 c1 hr => lb_fn (FnB_at h_share_of G H' M).up hr (wa_cons (we_var 5) (wa_cons (we_var 2) (wa_nil))))) pa_nil))))) (wss0_cons (ps0 (ws_expr (we_app o (pe_bm PySem.F.plainAttrs_list PySem.F.slot_list_append PySem.F.type_list_append mt_append (pv 9) (pa_cons (we_met (j := 6) (h__law_met.at_ G H' M) o gd ml (lamR_fn (lenA_cons (lenA_cons lenA_nil))) (fun A1 outer1 s1 H1 W1 f1 c1 hr => lb_fn (FnB_at h_share_of G H' M).up hr (wa_cons (we_var 5) (wa_cons (we_tup (wa_cons (we_int) (wa_cons (we_int) (wa_cons (we_int) (wa_cons (we_int) (wa_nil)))))) (wa_nil))))) pa_nil))))) (wss0_cons (ps0 (ws_set (i := 10) o (we_lst (wa_cons (we_str) (wa_cons (we_str) (wa_cons (we_str) (wa_cons (we_str) (wa_cons (we_str) (wa_cons (we_str) (wa_nil)))))))))) (wss0_cons (ps0 (ws_expr (we_app o (pe_bm PySem.F.plainAttrs_list PySem.F.slot_list_append PySem.F.type_list_append mt_append (pv 9) (pa_cons (we_met (j := 6) (h__law_met.at_ G H' M) o gd ml (lamR_fn (lenA_cons (lenA_cons (lenA_cons lenA_nil)))) (fun A1 outer1 s1 H1 W1 f1 c1 hr => lb_fn (FnB_at h_flipped G H' M).up hr (wa_cons (we_var 1) (wa_cons (we_var 2) (wa_cons (we_var 3) (wa_nil)))))) pa_nil))))) (wss0_cons (ps0 (ws_expr (we_app o (pe_bm PySem.F.plainAttrs_list PySem.F.slot_list_append PySem.F.type_list_append mt_append (pv 9) (pa_cons (we_met (j := 6) (h__law_met.at_ G H' M) o gd ml (lamR_fn (lenA_cons (lenA_cons (lenA_cons lenA_nil)))) (fun A1 outer1 s1 H1 W1 f1 c1 hr => lb_fn (FnB_at h_flipped G H' M).up hr (wa_cons (we_var 5) (wa_cons (we_var 2) (wa_cons (we_var 3) (wa_nil)))))) pa_nil))))) (wss0_cons (ps0 (ws_expr (we_app o (pe_bm PySem.F.plainAttrs_list PySem.F.slot_list_append PySem.F.type_list_append mt_append (pv 9) (pa_cons (we_met (j := 6) (h__law_met.at_ G H' M) o gd ml (lamR_fn (lenA_cons (lenA_cons (lenA_cons lenA_nil)))) (fun A1 outer1 s1 H1 W1 f1 c1 hr => lb_fn (FnB_at h_flipped G H' M).up hr (wa_cons (we_var 5) (wa_cons (we_tup (wa_cons (we_int) (wa_cons (we_int) (wa_cons (we_int) (wa_cons (we_int) (wa_nil)))))) (wa_cons (we_var 3) (wa_nil)))))) pa_nil))))) (wss0_cons (ps0 (ws_expr (we_app o (pe_bm PySem.F.plainAttrs_list PySem.F.slot_list_append PySem.F.type_list_append mt_append (pv 9) (pa_cons (we_met (j := 6) (h__law_met.at_ G H' M) o gd ml (lamR_fn (lenA_cons (lenA_cons (lenA_cons lenA_nil)))) (fun A1 outer1 s1 H1 W1 f1 c1 hr => lb_fn (FnB_at h_flipped G H' M).up hr (wa_cons (we_var 5) (wa_cons (we_tup (wa_cons (we_int) (wa_cons (we_int) (wa_cons (we_int) (wa_cons (we_int) (wa_nil)))))) (wa_cons (we_str) (wa_nil)))))) pa_nil))))) (wss0_cons (ps0 (ws_expr (we_app o (pe_bm PySem.F.plainAttrs_list PySem.F.slot_list_append PySem.F.type_list_append mt_append (pv 9) (pa_cons (we_met (j := 6) (h__law_met.at_ G H' M) o gd ml (lamR_fn (lenA_cons lenA_nil)) (fun A1 outer1 s1 H1 W1 f1 c1 hr => lb_fn (FnB_at h_rings_of G H' M).up hr (wa_cons (we_var 4) (wa_nil)))) pa_nil))))) (wss0_cons (ps0 (ws_expr (we_app o (pe_bm PySem.F.plainAttrs_list PySem.F.slot_list_append PySem.F.type_list_append mt_append (pv 9) (pa_cons (we_met (j := 7) (h__law_met.at_ G H' M) o gd ml (lamR_fn (lenA_cons lenA_nil)) (fun A1 outer1 s1 H1 W1 f1 c1 hr => lb_fn (FnB_at h_rings_of G H' M).up hr (wa_cons (we_mkB (o.lam hr) (W.at_ G H' M) (MkB_at h_Web G H' M) (wa_cons (we_int) (wa_cons (we_tup (wa_nil)) (wa_nil)))) (wa_nil)))) pa_nil))))) (wss0_cons (ps0 (ws_set (i := 10) o (we_bin (od_add o.K) (we_var 10) (we_lst (wa_cons (we_str) (wa_cons (we_str) (wa_cons (we_str) (wa_cons (we_str) (wa_cons (we_str) (wa_cons (we_str) (wa_nil))))))))))) (wss0_cons (ws_forC (i := 11) o (pc_fn (E := E) (we_fun (v_flips_or_pair.at_ G H' M)) (pc_lam (k := 0) (pe_lamO ml.hq TBM hcM hTM huM rfl (NdefX.ndef_free (sc := defScope s__law_right) (fr := []) (by decide +kernel))) rfl hTM (pc_nil))) (pss0 (wss_cons (ws_expr (we_app o (pe_bm PySem.F.plainAttrs_list PySem.F.slot_list_append PySem.F.type_list_append mt_append (pv 9) (pa_cons (we_metC (j := 10) (h__law_met.at_ G H' M) o gd ml (lb_varC (j := 9) (tbB_cons (FnB_at h_flips_or_pair G H' M).up (v_flips_or_pair.at_ G H' M) rfl (tbB_nil)) cw 11 (fun A1 outer1 s1 H1 W1 f1 c1 => wa_cons (we_var 1) (wa_cons (we_var 1) (wa_nil))))) pa_nil)))) (wss_cons (ws_expr (we_app o (pe_bm PySem.F.plainAttrs_list PySem.F.slot_list_append PySem.F.type_list_append mt_append (pv 9) (pa_cons (we_metC (j := 10) (h__law_met.at_ G H' M) o gd ml (lb_varC (j := 9) (tbB_cons (FnB_at h_flips_or_pair G H' M).up (v_flips_or_pair.at_ G H' M) rfl (tbB_nil)) cw 11 (fun A1 outer1 s1 H1 W1 f1 c1 => wa_cons (we_var 5) (wa_cons (we_var 1) (wa_nil))))) pa_nil)))) (wss_cons (ws_expr (we_app o (pe_bm PySem.F.plainAttrs_list PySem.F.slot_list_append PySem.F.type_list_append mt_append (pv 9) (pa_cons (we_metC (j := 10) (h__law_met.at_ G H' M) o gd ml (lb_varC (j := 9) (tbB_cons (FnB_at h_flips_or_pair G H' M).up (v_flips_or_pair.at_ G H' M) rfl (tbB_nil)) cw 11 (fun A1 outer1 s1 H1 W1 f1 c1 => wa_cons (we_var 5) (wa_cons (we_var 6) (wa_nil))))) pa_nil)))) (wss_cons (ws_expr (we_app o (pe_bm PySem.F.plainAttrs_list PySem.F.slot_list_append PySem.F.type_list_append mt_append (pv 9) (pa_cons (we_metC (j := 10) (h__law_met.at_ G H' M) o gd ml (lb_varC (j := 9) (tbB_cons (FnB_at h_flips_or_pair G H' M).up (v_flips_or_pair.at_ G H' M) rfl (tbB_nil)) cw 11 (fun A1 outer1 s1 H1 W1 f1 c1 => wa_cons (we_var 7) (wa_cons (we_var 5) (wa_nil))))) pa_nil)))) (wss_cons (ws_expr (we_app o (pe_bm PySem.F.plainAttrs_list PySem.F.slot_list_append PySem.F.type_list_append mt_append (pv 9) (pa_cons (we_metC (j := 10) (h__law_met.at_ G H' M) o gd ml (lb_varC (j := 9) (tbB_cons (FnB_at h_flips_or_pair G H' M).up (v_flips_or_pair.at_ G H' M) rfl (tbB_nil)) cw 11 (fun A1 outer1 s1 H1 W1 f1 c1 => wa_cons (we_var 7) (wa_cons (we_var 7) (wa_nil))))) pa_nil)))) (wss_cons (ws_expr (we_app o (pe_bm PySem.F.plainAttrs_list PySem.F.slot_list_append PySem.F.type_list_append mt_append (pv 9) (pa_cons (we_metC (j := 10) (h__law_met.at_ G H' M) o gd ml (lb_varC (j := 9) (tbB_cons (FnB_at h_flips_or_pair G H' M).up (v_flips_or_pair.at_ G H' M) rfl (tbB_nil)) cw 11 (fun A1 outer1 s1 H1 W1 f1 c1 => wa_cons (we_var 5) (wa_cons (we_var 5) (wa_nil))))) pa_nil)))) (wss_one (ws_set (i := 10) o (we_bin (od_add o.K) (we_var 10) (we_lst (wa_cons (we_str) (wa_cons (we_str) (wa_cons (we_str) (wa_cons (we_str) (wa_cons (we_str) (wa_cons (we_str) (wa_nil))))))))))))))))))) (pss_one (ps0 (ws_ret (we_and (we_cmp (od_eq o) (we_var 9) (we_var 10)) (we_and (we_not (we_fn (FnB_at h_is_cut G H' M) o (wa_cons (we_var 5) (wa_cons (we_var 2) (wa_nil))))) (we_one (we_not (we_fn (FnB_at h_is_flips_or_pair G H' M) o (wa_cons (we_var 5) (wa_cons (we_var 5) (wa_cons (we_var 8) (wa_nil)))))))))))))))))))))))))))))))))
abbrev s_law : Stmt := topS 59
theorem sc_law : FnScope ["script", "spot", "jar", "great", "five", "told"] ["script"] (defScope s_law) := ⟨rfl, rfl, rfl, by decide +kernel, rfl, by decide +kernel, by decide +kernel⟩
theorem k_law {P : Program} {w : World} {K : PySem.W.Frag} {mg : Str → Option Value} {base : Heap} {z : Z} (hK : K = z.K) (B : Bt mg) {C : Addr} (W : ClB K mg z "Web" C FLD) {f c P0 : Addr} {fd : FuncData} (F : FunC K "law" "law" s_law f fd c) (hm : mg "law" = some (.ref f)) (tb : LamX.TabB base mg c P0) (hT : (P0, lamQ "law" (defScope s_law)) ∈ z.Ts) (hu : ∀ p ∈ z.Ts, p.1 = P0 → p.2 = lamQ "law" (defScope s_law)) (h__law_jar : FnB P w K mg base z 1 "_law_jar" ["script", "spot"] false m__law_jar) (h__law_met : MetB P w K mg base z "_law_met" 5 [(1, .s "ring"), (0, .s "web"), (2, .s "operation"), (4, .sr "many " "limit")] (.str "fine")) (h_is_cut : FnB P w K mg base z 5 "is_cut" ["ring", "value"] false m_is_cut) (h__law_right : FnGB P w K mg base z 14 "_law_right" ["jar"] true m__law_right_k46) (h_flips_or_pair : FnB P w K mg base z 9 "flips_or_pair" ["one", "other"] false m_flips_or_pair) (h_rings_of : FnB P w K mg base z 6 "rings_of" ["web"] false m_rings_of) (h_Web : MkB P w K mg base z 6 C FLD ["self", "knots", "ties"] 2 m_Web_k26) : FnG P w K mg base 19 f fd ["script"] (spF z false 1 m_law_k46) := by
  refine fn_okG (k := 18) F sc_law hK tb hT hu (fun A outer s H E G H' M o gd ml => ?_)
  exact wss_cons (ws_for (is := [1]) o (wi_rng1 B.b_range (wa_cons (we_bi (cd_maxX o) B.b_max (by first | exact PySem.boot_max | decide +kernel) (wa_cons (we_int) (wa_cons (we_bi (cd_minX o) B.b_min (by first | exact PySem.boot_min | decide +kernel) (wa_cons (we_int) (wa_cons (we_bi (cd_len o.K) B.b_len (by first | exact PySem.boot_len | decide +kernel) (wa_cons (we_var 0) (wa_nil))) (wa_nil)))) (wa_nil)))) (wa_nil))) (wg_name o.nd 1) (wss_cons (ws_set (i := 2) o (we_fn (FnB_at h__law_jar G H' M) o (wa_cons (we_var 0) (wa_cons (we_var 1) (wa_nil))))) (wss_one (ws_if ((ww_or (wt_not (wt_tru o.K (we_fnG (FnGB_at h__law_right G H' M) o gd (wa_cons (we_var 2) (wa_nil))))) (ww_or1 (wt_not (wt_tru o.K (we_fnG (FnGB_at h__law_right G H' M) o gd (wa_cons (we_var 2) (wa_nil))))))).pt) (wss_one (ws_ret (we_bl))) (wss_nil))))) (wss_cons (ws_parC o.calm (pg_name (i := 3) o.nd rfl (by first | exact .inl rfl | exact .inr rfl)) (pg_name (i := 4) o.nd rfl (by first | exact .inl rfl | exact .inr rfl)) (pa_cons (we_tup (wa_cons (we_int) (wa_cons (we_int) (wa_cons (we_int) (wa_cons (we_int) (wa_cons (we_int) (wa_cons (we_int) (wa_cons (we_int) (wa_cons (we_int) (wa_cons (we_int) (wa_cons (we_int) (wa_cons (we_int) (wa_cons (we_int) (wa_nil)))))))))))))) (pa_cons (we_tup (wa_cons (we_int) (wa_cons (we_int) (wa_cons (we_int) (wa_cons (we_int) (wa_cons (we_int) (wa_cons (we_int) (wa_cons (we_int) (wa_cons (we_int) (wa_cons (we_int) (wa_cons (we_int) (wa_nil)))))))))))) (pa_nil)))) (wss_cons (ws_set (i := 5) o (we_lst (wa_cons (we_met (j := 9) (h__law_met.at_ G H' M) o gd ml (lamR_fn (lenA_cons (lenA_cons lenA_nil))) (fun A1 outer1 s1 H1 W1 f1 c1 hr => lb_fn (FnB_at h_flips_or_pair G H' M).up hr (wa_cons (we_var 3) (wa_cons (we_non) (wa_nil))))) (wa_nil)))) (wss_cons (ws_expr (we_app o (pe_bm PySem.F.plainAttrs_list PySem.F.slot_list_append PySem.F.type_list_append mt_append (pv 5) (pa_cons (we_met (j := 9) (h__law_met.at_ G H' M) o gd ml (lamR_fn (lenA_cons (lenA_cons lenA_nil))) (fun A1 outer1 s1 H1 W1 f1 c1 hr => lb_fn (FnB_at h_flips_or_pair G H' M).up hr (wa_cons (we_var 4) (wa_cons (we_var 4) (wa_nil))))) pa_nil)))) (wss_cons (ws_if ((ww_or (wt_cmp (od_ne o) (we_var 5) (we_lst (wa_cons (we_str) (wa_cons (we_str) (wa_nil))))) (ww_or1 (wt_tru o.K (we_fn (FnB_at h_is_cut G H' M) o (wa_cons (we_tup (wa_cons (we_int) (wa_cons (we_int) (wa_cons (we_int) (wa_cons (we_int) (wa_nil)))))) (wa_cons (we_tup (wa_cons (we_int) (wa_cons (we_int) (wa_cons (we_bl) (wa_cons (we_int) (wa_nil)))))) (wa_nil))))))).pt) (wss_one (ws_ret (we_bl))) (wss_nil)) (wss_one (ws_ret (we_cmp (od_eq o) (we_met (j := 7) (h__law_met.at_ G H' M) o gd ml (lamR_fn (lenA_cons lenA_nil)) (fun A1 outer1 s1 H1 W1 f1 c1 hr => lb_fn (FnB_at h_rings_of G H' M).up hr (wa_cons (we_mkB (o.lam hr) (W.at_ G H' M) (MkB_at h_Web G H' M) (wa_cons (we_int) (wa_cons (we_tup (wa_cons (we_tup (wa_cons (we_int) (wa_cons (we_int) (wa_nil)))) (wa_cons (we_tup (wa_cons (we_int) (wa_cons (we_int) (wa_nil)))) (wa_nil)))) (wa_nil)))) (wa_nil)))) (we_str))))))))
abbrev s_X_InvalidNumber : Stmt := inCls (topS 11) 0
theorem sc_X_InvalidNumber : FnScope ["self", "given"] ["self", "given"] (defScope s_X_InvalidNumber) := ⟨rfl, rfl, rfl, by decide +kernel, rfl, by decide +kernel, by decide +kernel⟩
abbrev s_X_TooMany : Stmt := inCls (topS 12) 0
theorem sc_X_TooMany : FnScope ["self", "limit"] ["self", "limit"] (defScope s_X_TooMany) := ⟨rfl, rfl, rfl, by decide +kernel, rfl, by decide +kernel, by decide +kernel⟩
def clE (C : Addr) (fs : List Addr) : Cl := fun n => match n with
  | 0 => (C, FLD)
  | n + 1 => (fs.getD n 0, [])
def xnE : Nat → Option Str := fun n => match n with
  | 3 => some "given"
  | 4 => some "limit"
  | _ => none
def zz (K : PySem.W.Frag) (C : Addr) (fs xs : List Addr) (Ts : List (Addr × Str)) : Z := ⟨K, clE C fs, fun n => .ref (xs.getD n 0), xnE, fun _ => none, fun _ => none, none, Ts, fun _ _ _ => .own 0, ""⟩
theorem all_mk {w : World} {K : PySem.W.Frag} {h : Heap} {mg : Str → Option Value} {fa : Addr} {l : PySem.W.OpenLaw}
    {C : Addr}
    {pp_knots pg_knots : Addr} {pd_knots pn_knots : Option Addr} {ps_knots : Array (Option Value)} {po_knots pk_knots pq_knots pm_knots pc_knots pt_knots : Value}
    {pp_ties pg_ties : Addr} {pd_ties pn_ties : Option Addr} {ps_ties : Array (Option Value)} {po_ties pk_ties pq_ties pm_ties pc_ties pt_ties : Value}
    {e0 : Addr} {od0 an0 : Option Addr} {sl0 : Array (Option Value)} {oc0 kV0 dc0 pm0 ct0 : Value} {cd0 : Value}
    {e1 : Addr} {od1 an1 : Option Addr} {sl1 : Array (Option Value)} {oc1 kV1 dc1 pm1 ct1 : Value} {cd1 : Value}
    {e2 : Addr} {od2 an2 : Option Addr} {sl2 : Array (Option Value)} {oc2 kV2 dc2 pm2 ct2 : Value} {cd2 : Value}
    {e3 : Addr} {od3 an3 : Option Addr} {sl3 : Array (Option Value)} {oc3 kV3 dc3 pm3 ct3 : Value} {cd3 : Value}
    {e4 : Addr} {od4 an4 : Option Addr} {sl4 : Array (Option Value)} {oc4 kV4 dc4 pm4 ct4 : Value} {cd4 : Value}
    {e5 : Addr} {od5 an5 : Option Addr} {sl5 : Array (Option Value)} {oc5 kV5 dc5 pm5 ct5 : Value} {cd5 : Value}
    {e6 : Addr} {od6 an6 : Option Addr} {sl6 : Array (Option Value)} {oc6 kV6 dc6 pm6 ct6 : Value} {cd6 : Value}
    {e7 : Addr} {od7 an7 : Option Addr} {sl7 : Array (Option Value)} {oc7 kV7 dc7 pm7 ct7 : Value} {cd7 : Value}
    {e8 : Addr} {od8 an8 : Option Addr} {sl8 : Array (Option Value)} {oc8 kV8 dc8 pm8 ct8 : Value} {cd8 : Value}
    {e9 : Addr} {od9 an9 : Option Addr} {sl9 : Array (Option Value)} {oc9 kV9 dc9 pm9 ct9 : Value} {cd9 : Value}
    {e10 : Addr} {od10 an10 : Option Addr} {sl10 : Array (Option Value)} {oc10 kV10 dc10 pm10 ct10 : Value} {cd10 : Value}
    {e11 : Addr} {od11 an11 : Option Addr} {sl11 : Array (Option Value)} {oc11 kV11 dc11 pm11 ct11 : Value} {cd11 : Value}
    {e12 : Addr} {od12 an12 : Option Addr} {sl12 : Array (Option Value)} {oc12 kV12 dc12 pm12 ct12 : Value} {cd12 : Value}
    {e13 : Addr} {od13 an13 : Option Addr} {sl13 : Array (Option Value)} {oc13 kV13 dc13 pm13 ct13 : Value} {cd13 : Value}
    {e14 : Addr} {od14 an14 : Option Addr} {sl14 : Array (Option Value)} {oc14 kV14 dc14 pm14 ct14 : Value} {cd14 : Value}
    {e15 : Addr} {od15 an15 : Option Addr} {sl15 : Array (Option Value)} {oc15 kV15 dc15 pm15 ct15 : Value} {cd15 : Value}
    {e16 : Addr} {od16 an16 : Option Addr} {sl16 : Array (Option Value)} {oc16 kV16 dc16 pm16 ct16 : Value} {cd16 : Value}
    {e17 : Addr} {od17 an17 : Option Addr} {sl17 : Array (Option Value)} {oc17 kV17 dc17 pm17 ct17 : Value} {cd17 : Value}
    {e18 : Addr} {od18 an18 : Option Addr} {sl18 : Array (Option Value)} {oc18 kV18 dc18 pm18 ct18 : Value} {cd18 : Value}
    {e19 : Addr} {od19 an19 : Option Addr} {sl19 : Array (Option Value)} {oc19 kV19 dc19 pm19 ct19 : Value} {cd19 : Value}
    {e20 : Addr} {od20 an20 : Option Addr} {sl20 : Array (Option Value)} {oc20 kV20 dc20 pm20 ct20 : Value} {cd20 : Value}
    {e21 : Addr} {od21 an21 : Option Addr} {sl21 : Array (Option Value)} {oc21 kV21 dc21 pm21 ct21 : Value} {cd21 : Value}
    {e22 : Addr} {od22 an22 : Option Addr} {sl22 : Array (Option Value)} {oc22 kV22 dc22 pm22 ct22 : Value} {cd22 : Value}
    {e23 : Addr} {od23 an23 : Option Addr} {sl23 : Array (Option Value)} {oc23 kV23 dc23 pm23 ct23 : Value} {cd23 : Value}
    {e24 : Addr} {od24 an24 : Option Addr} {sl24 : Array (Option Value)} {oc24 kV24 dc24 pm24 ct24 : Value} {cd24 : Value}
    {e25 : Addr} {od25 an25 : Option Addr} {sl25 : Array (Option Value)} {oc25 kV25 dc25 pm25 ct25 : Value} {cd25 : Value}
    {e26 : Addr} {od26 an26 : Option Addr} {sl26 : Array (Option Value)} {oc26 kV26 dc26 pm26 ct26 : Value} {cd26 : Value}
    {e27 : Addr} {od27 an27 : Option Addr} {sl27 : Array (Option Value)} {oc27 kV27 dc27 pm27 ct27 : Value} {cd27 : Value}
    {e28 : Addr} {od28 an28 : Option Addr} {sl28 : Array (Option Value)} {oc28 kV28 dc28 pm28 ct28 : Value} {cd28 : Value}
    {e29 : Addr} {od29 an29 : Option Addr} {sl29 : Array (Option Value)} {oc29 kV29 dc29 pm29 ct29 : Value} {cd29 : Value}
    {e30 : Addr} {od30 an30 : Option Addr} {sl30 : Array (Option Value)} {oc30 kV30 dc30 pm30 ct30 : Value} {cd30 : Value}
    {e31 : Addr} {od31 an31 : Option Addr} {sl31 : Array (Option Value)} {oc31 kV31 dc31 pm31 ct31 : Value} {cd31 : Value}
    {e32 : Addr} {od32 an32 : Option Addr} {sl32 : Array (Option Value)} {oc32 kV32 dc32 pm32 ct32 : Value} {cd32 : Value}
    {e33 : Addr} {od33 an33 : Option Addr} {sl33 : Array (Option Value)} {oc33 kV33 dc33 pm33 ct33 : Value} {cd33 : Value}
    {e34 : Addr} {od34 an34 : Option Addr} {sl34 : Array (Option Value)} {oc34 kV34 dc34 pm34 ct34 : Value} {cd34 : Value}
    {e35 : Addr} {od35 an35 : Option Addr} {sl35 : Array (Option Value)} {oc35 kV35 dc35 pm35 ct35 : Value} {cd35 : Value}
    {e36 : Addr} {od36 an36 : Option Addr} {sl36 : Array (Option Value)} {oc36 kV36 dc36 pm36 ct36 : Value} {cc36 PP36 : Addr}
    {e37 : Addr} {od37 an37 : Option Addr} {sl37 : Array (Option Value)} {oc37 kV37 dc37 pm37 ct37 : Value} {cc37 PP37 : Addr}
    {tk_MOST_KNOTS : Tok}
    {tk_MOST_LISTED : Tok}
    {tk_MOST_CHORDS : Tok}
    {tk_MOST_FLIPS : Tok}
    {a_WORDS : Addr} {n_WORDS : Nat} {sl_WORDS : Array (Option Value)} {tk_WORDS_0 : Tok} {tk_WORDS_1 : Tok} {tk_WORDS_2 : Tok}
    {x0 : Addr}
    {x1 : Addr}
    {x2 : Addr}
    {x3 : Addr}
    {fi3 N3 : Addr} {nm3 qq3 : Str} {bs3 sb3 : List Value} {sn3 : List Str} {ab3 : Bool} {co3 : Option Bool} {dd3 io3 in3 : Option Addr} {k03 k13 k23 k33 k53 : Option Value} {is3 : Array (Option Value)} {ic3 ik3 id3 ip3 iq3 it3 : Value}
    {x4 : Addr}
    {fi4 N4 : Addr} {nm4 qq4 : Str} {bs4 sb4 : List Value} {sn4 : List Str} {ab4 : Bool} {co4 : Option Bool} {dd4 io4 in4 : Option Addr} {k04 k14 k24 k34 k54 : Option Value} {is4 : Array (Option Value)} {ic4 ik4 id4 ip4 iq4 it4 : Value}
    (mt : ∀ ns : List Int, ns.length ≤ 63 → m_law_k46 [.scr ns] = .ok (.d (.bl true), [])) (X : K.In h) (G : h.Ns mainGlobals mg) (hfa : mg "law" = some (.ref fa))
    (cC : PySem.W.nsIn K mainGlobals "Web" = some (some (.ref C))) (pg : PySem.W.plainGet K C Str.empty = true) (hd : PySem.W.hasDictIn K C = true) (po : PySem.W.plainOver K C = true) (sa : PySem.W.findIn K (.ref C) "__setattr__" = some (some (.builtin "object.__setattr__"))) (mk : PySem.W.makesIn K C = true) (kc : PySem.W.keepIn K (.ref C) = true)
    (ha : PySem.W.findIn K (.ref C) "__class__" = some (some (.builtin "object.__class__"))) (hn : PySem.W.specialIn K (.builtin "object.__class__") "__get__" = some (some (.builtin "getset_descriptor.__get__"))) (htk : PySem.W.takesIn K (.builtin "object.__class__") = some true) (hmr : PySem.W.mroIn K C (.type "object") = some true) (ne : PySem.W.findIn K (.ref C) "__ne__" = some (some (.builtin "object.__ne__")))
    (sx_int : PySem.W.subIn K (.ref C) (.type "int") = some false)
    (sx_bool : PySem.W.subIn K (.ref C) (.type "bool") = some false)
    (sx_str : PySem.W.subIn K (.ref C) (.type "str") = some false)
    (sx_tuple : PySem.W.subIn K (.ref C) (.type "tuple") = some false)
    (sx_list : PySem.W.subIn K (.ref C) (.type "list") = some false)
    (sx_dict : PySem.W.subIn K (.ref C) (.type "dict") = some false)
    (icl : PySem.W.isClsIn K C = true) (tyc : PySem.W.typeIn K (.ref C) = some (.type "type"))
    (nf__knots : PySem.W.findIn K (.ref C) "_knots" = some none)
    (nf__ties : PySem.W.findIn K (.ref C) "_ties" = some none)
    (at_knots : PySem.W.findIn K (.ref C) "knots" = some (some (.ref pp_knots))) (ge_knots : PySem.W.specialIn K (.ref pp_knots) "__get__" = some (some (.builtin "property.__get__"))) (ta_knots : PySem.W.takesIn K (.ref pp_knots) = some true) (re_knots : ∃ rest, PySem.W.recIn K pp_knots "property" = some (.ref pg_knots :: rest)) (lp_knots : K.lookup pg_knots = some ⟨po_knots, pd_knots, .func (PySem.W.fnOf "knots" "Web.knots" (defArgs s_Web_p_knots) (defBody s_Web_p_knots) (defScope s_Web_p_knots) .none pk_knots pq_knots pm_knots pn_knots pc_knots pt_knots), ps_knots⟩) (yp_knots : PySem.W.codeIn K pc_knots "Web.knots" = true)
    (at_ties : PySem.W.findIn K (.ref C) "ties" = some (some (.ref pp_ties))) (ge_ties : PySem.W.specialIn K (.ref pp_ties) "__get__" = some (some (.builtin "property.__get__"))) (ta_ties : PySem.W.takesIn K (.ref pp_ties) = some true) (re_ties : ∃ rest, PySem.W.recIn K pp_ties "property" = some (.ref pg_ties :: rest)) (lp_ties : K.lookup pg_ties = some ⟨po_ties, pd_ties, .func (PySem.W.fnOf "ties" "Web.ties" (defArgs s_Web_p_ties) (defBody s_Web_p_ties) (defScope s_Web_p_ties) .none pk_ties pq_ties pm_ties pn_ties pc_ties pt_ties), ps_ties⟩) (yp_ties : PySem.W.codeIn K pc_ties "Web.ties" = true)
    (a_is_whole : PySem.W.nsIn K mainGlobals "is_whole" = some (some (.ref e0))) (l_is_whole : K.lookup e0 = some ⟨oc0, od0, .func (PySem.W.fnOf "is_whole" "is_whole" (defArgs s_is_whole) (defBody s_is_whole) (defScope s_is_whole) .none kV0 dc0 pm0 an0 cd0 ct0), sl0⟩) (y_is_whole : PySem.W.codeIn K cd0 "is_whole" = true) (w_is_whole : PySem.W.keepIn K (.ref e0) = true)
    (a_is_below : PySem.W.nsIn K mainGlobals "is_below" = some (some (.ref e1))) (l_is_below : K.lookup e1 = some ⟨oc1, od1, .func (PySem.W.fnOf "is_below" "is_below" (defArgs s_is_below) (defBody s_is_below) (defScope s_is_below) .none kV1 dc1 pm1 an1 cd1 ct1), sl1⟩) (y_is_below : PySem.W.codeIn K cd1 "is_below" = true) (w_is_below : PySem.W.keepIn K (.ref e1) = true)
    (a_are_below : PySem.W.nsIn K mainGlobals "are_below" = some (some (.ref e2))) (l_are_below : K.lookup e2 = some ⟨oc2, od2, .func (PySem.W.fnOf "are_below" "are_below" (defArgs s_are_below) (defBody s_are_below) (defScope s_are_below) .none kV2 dc2 pm2 an2 cd2 ct2), sl2⟩) (y_are_below : PySem.W.codeIn K cd2 "are_below" = true) (w_are_below : PySem.W.keepIn K (.ref e2) = true)
    (a_is_ascending : PySem.W.nsIn K mainGlobals "is_ascending" = some (some (.ref e3))) (l_is_ascending : K.lookup e3 = some ⟨oc3, od3, .func (PySem.W.fnOf "is_ascending" "is_ascending" (defArgs s_is_ascending) (defBody s_is_ascending) (defScope s_is_ascending) .none kV3 dc3 pm3 an3 cd3 ct3), sl3⟩) (y_is_ascending : PySem.W.codeIn K cd3 "is_ascending" = true) (w_is_ascending : PySem.W.keepIn K (.ref e3) = true)
    (a_are_pairs : PySem.W.nsIn K mainGlobals "are_pairs" = some (some (.ref e4))) (l_are_pairs : K.lookup e4 = some ⟨oc4, od4, .func (PySem.W.fnOf "are_pairs" "are_pairs" (defArgs s_are_pairs) (defBody s_are_pairs) (defScope s_are_pairs) .none kV4 dc4 pm4 an4 cd4 ct4), sl4⟩) (y_are_pairs : PySem.W.codeIn K cd4 "are_pairs" = true) (w_are_pairs : PySem.W.keepIn K (.ref e4) = true)
    (a_check_web : PySem.W.nsIn K mainGlobals "check_web" = some (some (.ref e5))) (l_check_web : K.lookup e5 = some ⟨oc5, od5, .func (PySem.W.fnOf "check_web" "check_web" (defArgs s_check_web) (defBody s_check_web) (defScope s_check_web) .none kV5 dc5 pm5 an5 cd5 ct5), sl5⟩) (y_check_web : PySem.W.codeIn K cd5 "check_web" = true) (w_check_web : PySem.W.keepIn K (.ref e5) = true)
    (a_masks_of : PySem.W.nsIn K mainGlobals "masks_of" = some (some (.ref e6))) (l_masks_of : K.lookup e6 = some ⟨oc6, od6, .func (PySem.W.fnOf "masks_of" "masks_of" (defArgs s_masks_of) (defBody s_masks_of) (defScope s_masks_of) .none kV6 dc6 pm6 an6 cd6 ct6), sl6⟩) (y_masks_of : PySem.W.codeIn K cd6 "masks_of" = true) (w_masks_of : PySem.W.keepIn K (.ref e6) = true)
    (a_is_ring : PySem.W.nsIn K mainGlobals "is_ring" = some (some (.ref e7))) (l_is_ring : K.lookup e7 = some ⟨oc7, od7, .func (PySem.W.fnOf "is_ring" "is_ring" (defArgs s_is_ring) (defBody s_is_ring) (defScope s_is_ring) .none kV7 dc7 pm7 an7 cd7 ct7), sl7⟩) (y_is_ring : PySem.W.codeIn K cd7 "is_ring" = true) (w_is_ring : PySem.W.keepIn K (.ref e7) = true)
    (a_check_ring : PySem.W.nsIn K mainGlobals "check_ring" = some (some (.ref e8))) (l_check_ring : K.lookup e8 = some ⟨oc8, od8, .func (PySem.W.fnOf "check_ring" "check_ring" (defArgs s_check_ring) (defBody s_check_ring) (defScope s_check_ring) .none kV8 dc8 pm8 an8 cd8 ct8), sl8⟩) (y_check_ring : PySem.W.codeIn K cd8 "check_ring" = true) (w_check_ring : PySem.W.keepIn K (.ref e8) = true)
    (a__check_name : PySem.W.nsIn K mainGlobals "_check_name" = some (some (.ref e9))) (l__check_name : K.lookup e9 = some ⟨oc9, od9, .func (PySem.W.fnOf "_check_name" "_check_name" (defArgs s__check_name) (defBody s__check_name) (defScope s__check_name) .none kV9 dc9 pm9 an9 cd9 ct9), sl9⟩) (y__check_name : PySem.W.codeIn K cd9 "_check_name" = true) (w__check_name : PySem.W.keepIn K (.ref e9) = true)
    (a__ends : PySem.W.nsIn K mainGlobals "_ends" = some (some (.ref e10))) (l__ends : K.lookup e10 = some ⟨oc10, od10, .func (PySem.W.fnOf "_ends" "_ends" (defArgs s__ends) (defBody s__ends) (defScope s__ends) .none kV10 dc10 pm10 an10 cd10 ct10), sl10⟩) (y__ends : PySem.W.codeIn K cd10 "_ends" = true) (w__ends : PySem.W.keepIn K (.ref e10) = true)
    (a_crossing : PySem.W.nsIn K mainGlobals "crossing" = some (some (.ref e11))) (l_crossing : K.lookup e11 = some ⟨oc11, od11, .func (PySem.W.fnOf "crossing" "crossing" (defArgs s_crossing) (defBody s_crossing) (defScope s_crossing) .none kV11 dc11 pm11 an11 cd11 ct11), sl11⟩) (y_crossing : PySem.W.codeIn K cd11 "crossing" = true) (w_crossing : PySem.W.keepIn K (.ref e11) = true)
    (a_Web : PySem.W.findIn K (.ref C) "__init__" = some (some (.ref e12))) (i_Web : PySem.W.isFn K (.ref e12) = true) (l_Web : K.lookup e12 = some ⟨oc12, od12, .func (PySem.W.fnOf "__init__" "Web.__init__" (defArgs s_Web) (defBody s_Web) (defScope s_Web) .none kV12 dc12 pm12 an12 cd12 ct12), sl12⟩) (y_Web : PySem.W.codeIn K cd12 "Web.__init__" = true) (w_Web : PySem.W.keepIn K (.ref e12) = true)
    (a_web_of : PySem.W.nsIn K mainGlobals "web_of" = some (some (.ref e13))) (l_web_of : K.lookup e13 = some ⟨oc13, od13, .func (PySem.W.fnOf "web_of" "web_of" (defArgs s_web_of) (defBody s_web_of) (defScope s_web_of) .none kV13 dc13 pm13 an13 cd13 ct13), sl13⟩) (y_web_of : PySem.W.codeIn K cd13 "web_of" = true) (w_web_of : PySem.W.keepIn K (.ref e13) = true)
    (a_least_form : PySem.W.nsIn K mainGlobals "least_form" = some (some (.ref e14))) (l_least_form : K.lookup e14 = some ⟨oc14, od14, .func (PySem.W.fnOf "least_form" "least_form" (defArgs s_least_form) (defBody s_least_form) (defScope s_least_form) .none kV14 dc14 pm14 an14 cd14 ct14), sl14⟩) (y_least_form : PySem.W.codeIn K cd14 "least_form" = true) (w_least_form : PySem.W.keepIn K (.ref e14) = true)
    (a__with_chord : PySem.W.nsIn K mainGlobals "_with_chord" = some (some (.ref e15))) (l__with_chord : K.lookup e15 = some ⟨oc15, od15, .func (PySem.W.fnOf "_with_chord" "_with_chord" (defArgs s__with_chord) (defBody s__with_chord) (defScope s__with_chord) .none kV15 dc15 pm15 an15 cd15 ct15), sl15⟩) (y__with_chord : PySem.W.codeIn K cd15 "_with_chord" = true) (w__with_chord : PySem.W.keepIn K (.ref e15) = true)
    (a_rings_begun : PySem.W.nsIn K mainGlobals "rings_begun" = some (some (.ref e16))) (l_rings_begun : K.lookup e16 = some ⟨oc16, od16, .func (PySem.W.fnOf "rings_begun" "rings_begun" (defArgs s_rings_begun) (defBody s_rings_begun) (defScope s_rings_begun) .none kV16 dc16 pm16 an16 cd16 ct16), sl16⟩) (y_rings_begun : PySem.W.codeIn K cd16 "rings_begun" = true) (w_rings_begun : PySem.W.keepIn K (.ref e16) = true)
    (a_forms_of : PySem.W.nsIn K mainGlobals "forms_of" = some (some (.ref e17))) (l_forms_of : K.lookup e17 = some ⟨oc17, od17, .func (PySem.W.fnOf "forms_of" "forms_of" (defArgs s_forms_of) (defBody s_forms_of) (defScope s_forms_of) .none kV17 dc17 pm17 an17 cd17 ct17), sl17⟩) (y_forms_of : PySem.W.codeIn K cd17 "forms_of" = true) (w_forms_of : PySem.W.keepIn K (.ref e17) = true)
    (a__begun_ahead : PySem.W.nsIn K mainGlobals "_begun_ahead" = some (some (.ref e18))) (l__begun_ahead : K.lookup e18 = some ⟨oc18, od18, .func (PySem.W.fnOf "_begun_ahead" "_begun_ahead" (defArgs s__begun_ahead) (defBody s__begun_ahead) (defScope s__begun_ahead) .none kV18 dc18 pm18 an18 cd18 ct18), sl18⟩) (y__begun_ahead : PySem.W.codeIn K cd18 "_begun_ahead" = true) (w__begun_ahead : PySem.W.keepIn K (.ref e18) = true)
    (a__is_cut : PySem.W.nsIn K mainGlobals "_is_cut" = some (some (.ref e19))) (l__is_cut : K.lookup e19 = some ⟨oc19, od19, .func (PySem.W.fnOf "_is_cut" "_is_cut" (defArgs s__is_cut) (defBody s__is_cut) (defScope s__is_cut) .none kV19 dc19 pm19 an19 cd19 ct19), sl19⟩) (y__is_cut : PySem.W.codeIn K cd19 "_is_cut" = true) (w__is_cut : PySem.W.keepIn K (.ref e19) = true)
    (a_is_cut : PySem.W.nsIn K mainGlobals "is_cut" = some (some (.ref e20))) (l_is_cut : K.lookup e20 = some ⟨oc20, od20, .func (PySem.W.fnOf "is_cut" "is_cut" (defArgs s_is_cut) (defBody s_is_cut) (defScope s_is_cut) .none kV20 dc20 pm20 an20 cd20 ct20), sl20⟩) (y_is_cut : PySem.W.codeIn K cd20 "is_cut" = true) (w_is_cut : PySem.W.keepIn K (.ref e20) = true)
    (a_cuts : PySem.W.nsIn K mainGlobals "cuts" = some (some (.ref e21))) (l_cuts : K.lookup e21 = some ⟨oc21, od21, .func (PySem.W.fnOf "cuts" "cuts" (defArgs s_cuts) (defBody s_cuts) (defScope s_cuts) .none kV21 dc21 pm21 an21 cd21 ct21), sl21⟩) (y_cuts : PySem.W.codeIn K cd21 "cuts" = true) (w_cuts : PySem.W.keepIn K (.ref e21) = true)
    (a__check_cut : PySem.W.nsIn K mainGlobals "_check_cut" = some (some (.ref e22))) (l__check_cut : K.lookup e22 = some ⟨oc22, od22, .func (PySem.W.fnOf "_check_cut" "_check_cut" (defArgs s__check_cut) (defBody s__check_cut) (defScope s__check_cut) .none kV22 dc22 pm22 an22 cd22 ct22), sl22⟩) (y__check_cut : PySem.W.codeIn K cd22 "_check_cut" = true) (w__check_cut : PySem.W.keepIn K (.ref e22) = true)
    (a_share_of : PySem.W.nsIn K mainGlobals "share_of" = some (some (.ref e23))) (l_share_of : K.lookup e23 = some ⟨oc23, od23, .func (PySem.W.fnOf "share_of" "share_of" (defArgs s_share_of) (defBody s_share_of) (defScope s_share_of) .none kV23 dc23 pm23 an23 cd23 ct23), sl23⟩) (y_share_of : PySem.W.codeIn K cd23 "share_of" = true) (w_share_of : PySem.W.keepIn K (.ref e23) = true)
    (a__flipped : PySem.W.nsIn K mainGlobals "_flipped" = some (some (.ref e24))) (l__flipped : K.lookup e24 = some ⟨oc24, od24, .func (PySem.W.fnOf "_flipped" "_flipped" (defArgs s__flipped) (defBody s__flipped) (defScope s__flipped) .none kV24 dc24 pm24 an24 cd24 ct24), sl24⟩) (y__flipped : PySem.W.codeIn K cd24 "_flipped" = true) (w__flipped : PySem.W.keepIn K (.ref e24) = true)
    (a_flipped : PySem.W.nsIn K mainGlobals "flipped" = some (some (.ref e25))) (l_flipped : K.lookup e25 = some ⟨oc25, od25, .func (PySem.W.fnOf "flipped" "flipped" (defArgs s_flipped) (defBody s_flipped) (defScope s_flipped) .none kV25 dc25 pm25 an25 cd25 ct25), sl25⟩) (y_flipped : PySem.W.codeIn K cd25 "flipped" = true) (w_flipped : PySem.W.keepIn K (.ref e25) = true)
    (a_rings_of : PySem.W.nsIn K mainGlobals "rings_of" = some (some (.ref e26))) (l_rings_of : K.lookup e26 = some ⟨oc26, od26, .func (PySem.W.fnOf "rings_of" "rings_of" (defArgs s_rings_of) (defBody s_rings_of) (defScope s_rings_of) .none kV26 dc26 pm26 an26 cd26 ct26), sl26⟩) (y_rings_of : PySem.W.codeIn K cd26 "rings_of" = true) (w_rings_of : PySem.W.keepIn K (.ref e26) = true)
    (a__check_both : PySem.W.nsIn K mainGlobals "_check_both" = some (some (.ref e27))) (l__check_both : K.lookup e27 = some ⟨oc27, od27, .func (PySem.W.fnOf "_check_both" "_check_both" (defArgs s__check_both) (defBody s__check_both) (defScope s__check_both) .none kV27 dc27 pm27 an27 cd27 ct27), sl27⟩) (y__check_both : PySem.W.codeIn K cd27 "_check_both" = true) (w__check_both : PySem.W.keepIn K (.ref e27) = true)
    (a__flips_between : PySem.W.nsIn K mainGlobals "_flips_between" = some (some (.ref e28))) (l__flips_between : K.lookup e28 = some ⟨oc28, od28, .func (PySem.W.fnOf "_flips_between" "_flips_between" (defArgs s__flips_between) (defBody s__flips_between) (defScope s__flips_between) .none kV28 dc28 pm28 an28 cd28 ct28), sl28⟩) (y__flips_between : PySem.W.codeIn K cd28 "_flips_between" = true) (w__flips_between : PySem.W.keepIn K (.ref e28) = true)
    (a_flips_or_pair : PySem.W.nsIn K mainGlobals "flips_or_pair" = some (some (.ref e29))) (l_flips_or_pair : K.lookup e29 = some ⟨oc29, od29, .func (PySem.W.fnOf "flips_or_pair" "flips_or_pair" (defArgs s_flips_or_pair) (defBody s_flips_or_pair) (defScope s_flips_or_pair) .none kV29 dc29 pm29 an29 cd29 ct29), sl29⟩) (y_flips_or_pair : PySem.W.codeIn K cd29 "flips_or_pair" = true) (w_flips_or_pair : PySem.W.keepIn K (.ref e29) = true)
    (a__are_flips : PySem.W.nsIn K mainGlobals "_are_flips" = some (some (.ref e30))) (l__are_flips : K.lookup e30 = some ⟨oc30, od30, .func (PySem.W.fnOf "_are_flips" "_are_flips" (defArgs s__are_flips) (defBody s__are_flips) (defScope s__are_flips) .none kV30 dc30 pm30 an30 cd30 ct30), sl30⟩) (y__are_flips : PySem.W.codeIn K cd30 "_are_flips" = true) (w__are_flips : PySem.W.keepIn K (.ref e30) = true)
    (a_is_flips_or_pair : PySem.W.nsIn K mainGlobals "is_flips_or_pair" = some (some (.ref e31))) (l_is_flips_or_pair : K.lookup e31 = some ⟨oc31, od31, .func (PySem.W.fnOf "is_flips_or_pair" "is_flips_or_pair" (defArgs s_is_flips_or_pair) (defBody s_is_flips_or_pair) (defScope s_is_flips_or_pair) .none kV31 dc31 pm31 an31 cd31 ct31), sl31⟩) (y_is_flips_or_pair : PySem.W.codeIn K cd31 "is_flips_or_pair" = true) (w_is_flips_or_pair : PySem.W.keepIn K (.ref e31) = true)
    (a__law_jar : PySem.W.nsIn K mainGlobals "_law_jar" = some (some (.ref e32))) (l__law_jar : K.lookup e32 = some ⟨oc32, od32, .func (PySem.W.fnOf "_law_jar" "_law_jar" (defArgs s__law_jar) (defBody s__law_jar) (defScope s__law_jar) .none kV32 dc32 pm32 an32 cd32 ct32), sl32⟩) (y__law_jar : PySem.W.codeIn K cd32 "_law_jar" = true) (w__law_jar : PySem.W.keepIn K (.ref e32) = true)
    (a__law_pull : PySem.W.nsIn K mainGlobals "_law_pull" = some (some (.ref e33))) (l__law_pull : K.lookup e33 = some ⟨oc33, od33, .func (PySem.W.fnOf "_law_pull" "_law_pull" (defArgs s__law_pull) (defBody s__law_pull) (defScope s__law_pull) .none kV33 dc33 pm33 an33 cd33 ct33), sl33⟩) (y__law_pull : PySem.W.codeIn K cd33 "_law_pull" = true) (w__law_pull : PySem.W.keepIn K (.ref e33) = true)
    (a__law_pick : PySem.W.nsIn K mainGlobals "_law_pick" = some (some (.ref e34))) (l__law_pick : K.lookup e34 = some ⟨oc34, od34, .func (PySem.W.fnOf "_law_pick" "_law_pick" (defArgs s__law_pick) (defBody s__law_pick) (defScope s__law_pick) .none kV34 dc34 pm34 an34 cd34 ct34), sl34⟩) (y__law_pick : PySem.W.codeIn K cd34 "_law_pick" = true) (w__law_pick : PySem.W.keepIn K (.ref e34) = true)
    (a__law_met : PySem.W.nsIn K mainGlobals "_law_met" = some (some (.ref e35))) (l__law_met : K.lookup e35 = some ⟨oc35, od35, .func (PySem.W.fnOf "_law_met" "_law_met" (defArgs s__law_met) (defBody s__law_met) (defScope s__law_met) .none kV35 dc35 pm35 an35 cd35 ct35), sl35⟩) (y__law_met : PySem.W.codeIn K cd35 "_law_met" = true) (w__law_met : PySem.W.keepIn K (.ref e35) = true)
    (a__law_right : PySem.W.nsIn K mainGlobals "_law_right" = some (some (.ref e36))) (l__law_right : K.lookup e36 = some ⟨oc36, od36, .func (PySem.W.fnOf "_law_right" "_law_right" (defArgs s__law_right) (defBody s__law_right) (defScope s__law_right) .none kV36 dc36 pm36 an36 (.ref cc36) ct36), sl36⟩) (y__law_right : PySem.W.codeIn K (.ref cc36) "_law_right" = true) (w__law_right : PySem.W.keepIn K (.ref e36) = true)
    (ti__law_right : PySem.W.tabIn K "_law_right" = some (cc36, PP36)) (hc__law_right : PySem.W.codeHdIn K cc36 PP36 = true) (nt__law_right : K.lookup PP36 = none) (te__law_right : h.get? PP36 = some { cls := .none, data := .fields #[] })
    (a_law : PySem.W.nsIn K mainGlobals "law" = some (some (.ref e37))) (l_law : K.lookup e37 = some ⟨oc37, od37, .func (PySem.W.fnOf "law" "law" (defArgs s_law) (defBody s_law) (defScope s_law) .none kV37 dc37 pm37 an37 (.ref cc37) ct37), sl37⟩) (y_law : PySem.W.codeIn K (.ref cc37) "law" = true) (w_law : PySem.W.keepIn K (.ref e37) = true)
    (ti_law : PySem.W.tabIn K "law" = some (cc37, PP37)) (hc_law : PySem.W.codeHdIn K cc37 PP37 = true) (nt_law : K.lookup PP37 = none) (te_law : h.get? PP37 = some { cls := .none, data := .fields #[] })
    (z_all : PySem.W.nsIn K mainGlobals "all" = some none)
    (z_tuple : PySem.W.nsIn K mainGlobals "tuple" = some none)
    (z_min : PySem.W.nsIn K mainGlobals "min" = some none)
    (z_range : PySem.W.nsIn K mainGlobals "range" = some none)
    (z_sorted : PySem.W.nsIn K mainGlobals "sorted" = some none)
    (z_isinstance : PySem.W.nsIn K mainGlobals "isinstance" = some none)
    (z_int : PySem.W.nsIn K mainGlobals "int" = some none)
    (z_len : PySem.W.nsIn K mainGlobals "len" = some none)
    (z_max : PySem.W.nsIn K mainGlobals "max" = some none)
    (z_list : PySem.W.nsIn K mainGlobals "list" = some none)
    (z_bool : PySem.W.nsIn K mainGlobals "bool" = some none)
    (z_set : PySem.W.nsIn K mainGlobals "set" = some none)
    (z_abs : PySem.W.nsIn K mainGlobals "abs" = some none)
    (z_zip : PySem.W.nsIn K mainGlobals "zip" = some none)
    (z_repr : PySem.W.nsIn K mainGlobals "repr" = some none)
    (q_MOST_KNOTS : PySem.W.nsIn K mainGlobals "MOST_KNOTS" = some (some (.int 10 tk_MOST_KNOTS)))
    (q_MOST_LISTED : PySem.W.nsIn K mainGlobals "MOST_LISTED" = some (some (.int 5 tk_MOST_LISTED)))
    (q_MOST_CHORDS : PySem.W.nsIn K mainGlobals "MOST_CHORDS" = some (some (.int 5 tk_MOST_CHORDS)))
    (q_MOST_FLIPS : PySem.W.nsIn K mainGlobals "MOST_FLIPS" = some (some (.int 200 tk_MOST_FLIPS)))
    (q_WORDS : PySem.W.nsIn K mainGlobals "WORDS" = some (some (.ref a_WORDS))) (l_WORDS : K.lookup a_WORDS = some ⟨.type "tuple", none, .seq #[.str "reverse" tk_WORDS_0, .str "exchange" tk_WORDS_1, .str "both" tk_WORDS_2] n_WORDS, sl_WORDS⟩)
    (gx_InvalidWeb : PySem.W.nsIn K mainGlobals "InvalidWeb" = some (some (.ref x0))) (bx_InvalidWeb : PySem.W.subIn K (.ref x0) (.type "BaseException") = some true) (tx_InvalidWeb : PySem.W.typeIn K (.ref x0) = some (.type "type")) (kx_InvalidWeb : PySem.W.keepIn K (.ref x0) = true)
    (dx_InvalidWeb : PySem.W.hasDictIn K x0 = true)
    (ex_InvalidWeb : PySem.W.excIn K x0 [.type "ValueError", .type "Exception", .type "BaseException", .type "object"] "ValueError.__new__" = true)
    (gx_InvalidRing : PySem.W.nsIn K mainGlobals "InvalidRing" = some (some (.ref x1))) (bx_InvalidRing : PySem.W.subIn K (.ref x1) (.type "BaseException") = some true) (tx_InvalidRing : PySem.W.typeIn K (.ref x1) = some (.type "type")) (kx_InvalidRing : PySem.W.keepIn K (.ref x1) = true)
    (dx_InvalidRing : PySem.W.hasDictIn K x1 = true)
    (ex_InvalidRing : PySem.W.excIn K x1 [.type "ValueError", .type "Exception", .type "BaseException", .type "object"] "ValueError.__new__" = true)
    (gx_InvalidOperation : PySem.W.nsIn K mainGlobals "InvalidOperation" = some (some (.ref x2))) (bx_InvalidOperation : PySem.W.subIn K (.ref x2) (.type "BaseException") = some true) (tx_InvalidOperation : PySem.W.typeIn K (.ref x2) = some (.type "type")) (kx_InvalidOperation : PySem.W.keepIn K (.ref x2) = true)
    (dx_InvalidOperation : PySem.W.hasDictIn K x2 = true)
    (ex_InvalidOperation : PySem.W.excIn K x2 [.type "ValueError", .type "Exception", .type "BaseException", .type "object"] "ValueError.__new__" = true)
    (gx_InvalidNumber : PySem.W.nsIn K mainGlobals "InvalidNumber" = some (some (.ref x3))) (bx_InvalidNumber : PySem.W.subIn K (.ref x3) (.type "BaseException") = some true) (tx_InvalidNumber : PySem.W.typeIn K (.ref x3) = some (.type "type")) (kx_InvalidNumber : PySem.W.keepIn K (.ref x3) = true)
    (nx_InvalidNumber : PySem.W.findIn K (.ref x3) "given" = some none)
    (lx_InvalidNumber : K.lookup x3 = some (excClassObj nm3 qq3 x3 N3 bs3 [.type "IndexError", .type "LookupError", .type "Exception", .type "BaseException", .type "object"] true sn3 sb3 ab3 co3 dd3 k03 k13 k23 k33 k53 "IndexError.__new__")) (sx2_InvalidNumber : PySem.W.findIn K (.ref x3) "__setattr__" = some (some (.builtin "object.__setattr__"))) (ix_InvalidNumber : PySem.W.findIn K (.ref x3) "__init__" = some (some (.ref fi3))) (fx_InvalidNumber : PySem.W.typeIn K (.ref fi3) = some (.type "function"))
    (lf_InvalidNumber : K.lookup fi3 = some ⟨ic3, io3, .func (PySem.W.fnOf "__init__" "InvalidNumber.__init__" (defArgs s_X_InvalidNumber) (defBody s_X_InvalidNumber) (defScope s_X_InvalidNumber) .none ik3 id3 ip3 in3 iq3 it3), is3⟩) (yf_InvalidNumber : PySem.W.codeIn K iq3 "InvalidNumber.__init__" = true) (wf_InvalidNumber : PySem.W.keepIn K (.ref fi3) = true)
    (gx_TooMany : PySem.W.nsIn K mainGlobals "TooMany" = some (some (.ref x4))) (bx_TooMany : PySem.W.subIn K (.ref x4) (.type "BaseException") = some true) (tx_TooMany : PySem.W.typeIn K (.ref x4) = some (.type "type")) (kx_TooMany : PySem.W.keepIn K (.ref x4) = true)
    (dx_TooMany : PySem.W.hasDictIn K x4 = true)
    (g1_TooMany : PySem.W.findIn K (.ref x4) "__getattribute__" = some (some (.builtin "BaseException.__getattribute__"))) (g2_TooMany : PySem.W.findIn K (.ref x4) "__getattr__" = some none)
    (nx_TooMany : PySem.W.findIn K (.ref x4) "limit" = some none)
    (lx_TooMany : K.lookup x4 = some (excClassObj nm4 qq4 x4 N4 bs4 [.type "OverflowError", .type "ArithmeticError", .type "Exception", .type "BaseException", .type "object"] true sn4 sb4 ab4 co4 dd4 k04 k14 k24 k34 k54 "OverflowError.__new__")) (sx2_TooMany : PySem.W.findIn K (.ref x4) "__setattr__" = some (some (.builtin "object.__setattr__"))) (ix_TooMany : PySem.W.findIn K (.ref x4) "__init__" = some (some (.ref fi4))) (fx_TooMany : PySem.W.typeIn K (.ref fi4) = some (.type "function"))
    (lf_TooMany : K.lookup fi4 = some ⟨ic4, io4, .func (PySem.W.fnOf "__init__" "TooMany.__init__" (defArgs s_X_TooMany) (defBody s_X_TooMany) (defScope s_X_TooMany) .none ik4 id4 ip4 in4 iq4 it4), is4⟩) (yf_TooMany : PySem.W.codeIn K iq4 "TooMany.__init__" = true) (wf_TooMany : PySem.W.keepIn K (.ref fi4) = true)
    (sp_InvalidWeb_InvalidRing : PySem.W.subIn K (.ref x0) (.ref x1) = some false)
    (sp_InvalidWeb_InvalidWeb : PySem.W.subIn K (.ref x0) (.ref x0) = some true)
    (sp_InvalidWeb_InvalidOperation : PySem.W.subIn K (.ref x0) (.ref x2) = some false)
    (sp_InvalidWeb_TooMany : PySem.W.subIn K (.ref x0) (.ref x4) = some false)
    (sp_InvalidRing_InvalidRing : PySem.W.subIn K (.ref x1) (.ref x1) = some true)
    (sp_InvalidRing_InvalidWeb : PySem.W.subIn K (.ref x1) (.ref x0) = some false)
    (sp_InvalidRing_InvalidOperation : PySem.W.subIn K (.ref x1) (.ref x2) = some false)
    (sp_InvalidRing_TooMany : PySem.W.subIn K (.ref x1) (.ref x4) = some false)
    (sp_InvalidOperation_InvalidRing : PySem.W.subIn K (.ref x2) (.ref x1) = some false)
    (sp_InvalidOperation_InvalidWeb : PySem.W.subIn K (.ref x2) (.ref x0) = some false)
    (sp_InvalidOperation_InvalidOperation : PySem.W.subIn K (.ref x2) (.ref x2) = some true)
    (sp_InvalidOperation_TooMany : PySem.W.subIn K (.ref x2) (.ref x4) = some false)
    (sp_InvalidNumber_InvalidRing : PySem.W.subIn K (.ref x3) (.ref x1) = some false)
    (sp_InvalidNumber_InvalidWeb : PySem.W.subIn K (.ref x3) (.ref x0) = some false)
    (sp_InvalidNumber_InvalidOperation : PySem.W.subIn K (.ref x3) (.ref x2) = some false)
    (sp_InvalidNumber_TooMany : PySem.W.subIn K (.ref x3) (.ref x4) = some false)
    (sp_TooMany_InvalidRing : PySem.W.subIn K (.ref x4) (.ref x1) = some false)
    (sp_TooMany_InvalidWeb : PySem.W.subIn K (.ref x4) (.ref x0) = some false)
    (sp_TooMany_InvalidOperation : PySem.W.subIn K (.ref x4) (.ref x2) = some false)
    (sp_TooMany_TooMany : PySem.W.subIn K (.ref x4) (.ref x4) = some true) (pne_36_37 : PP36 ≠ PP37) :
    LawG l w K 19 63 "script" mg fa h := by
  have e := hfa.symm.trans (PySem.W.mg_of X G a_law)
  cases e
  have B : Bt mg := ⟨PySem.W.mg_none_of X G z_all, PySem.W.mg_none_of X G z_tuple, PySem.W.mg_none_of X G z_min, PySem.W.mg_none_of X G z_range, PySem.W.mg_none_of X G z_sorted, PySem.W.mg_none_of X G z_isinstance, PySem.W.mg_none_of X G z_int, PySem.W.mg_none_of X G z_len, PySem.W.mg_none_of X G z_max, PySem.W.mg_none_of X G z_list, PySem.W.mg_none_of X G z_bool, PySem.W.mg_none_of X G z_set, PySem.W.mg_none_of X G z_abs, PySem.W.mg_none_of X G z_zip, PySem.W.mg_none_of X G z_repr, ⟨_, PySem.W.mg_of X G q_MOST_KNOTS⟩, ⟨_, PySem.W.mg_of X G q_MOST_LISTED⟩, ⟨_, PySem.W.mg_of X G q_MOST_CHORDS⟩, ⟨_, PySem.W.mg_of X G q_MOST_FLIPS⟩⟩
  refine ⟨PySem.W.fnOf "law" "law" (defArgs s_law) (defBody s_law) (defScope s_law) .none kV37 dc37 pm37 an37 (.ref cc37) ct37, [(cc36, PP36), (cc37, PP37)], spTopT K [(PP36, lamQ "_law_right" (defScope s__law_right)), (PP37, lamQ "law" (defScope s_law))], ?_, ?_, ?_, fun s v => .of_eq rfl, ?_, fun base Kb Gb tabs => ?_⟩
  · intro p hp; simp only [List.mem_cons, List.not_mem_nil, or_false] at hp; rcases hp with rfl | rfl
    · exact te__law_right
    · exact te_law
  · intro p hp; simp only [List.mem_cons, List.not_mem_nil, or_false] at hp; rcases hp with rfl | rfl
    · exact nt__law_right
    · exact nt_law
  · intro p hp; simp only [List.mem_cons, List.not_mem_nil, or_false] at hp; rcases hp with rfl | rfl
    · exact PySem.W.codeHd_of_K X hc__law_right
    · exact PySem.W.codeHd_of_K X hc_law
  · refine fun H a ns hl hH hS => ⟨a, ns, rfl, hS, fun p hp => ?_, hl, fun _ => rfl⟩
    simp only [List.mem_cons, List.not_mem_nil, or_false] at hp; rcases hp with rfl | rfl
    · exact LamX.TabS.nil (hH (cc36, PP36) (by simp))
    · exact LamX.TabS.nil (hH (cc37, PP37) (by simp))
  have zK : (zz K C [e29] [x0, x1, x2, x3, x4] [(PP36, lamQ "_law_right" (defScope s__law_right)), (PP37, lamQ "law" (defScope s_law))]).K = K := rfl
  have W : ClB K mg (zz K C [e29] [x0, x1, x2, x3, x4] [(PP36, lamQ "_law_right" (defScope s__law_right)), (PP37, lamQ "law" (defScope s_law))]) "Web" C FLD := ⟨rfl, PySem.W.mg_of X G cC, ⟨⟨pg, hd, po, sa⟩, ha, hn, htk, hmr, fun T h => kit_x h (by simp only [List.mem_cons, List.not_mem_nil, or_false] at h; rcases h with rfl | rfl | rfl | rfl | rfl | rfl <;> assumption), fun t h => kit_y h icl tyc⟩, by intro f h; simp only [FLD, List.mem_cons, List.not_mem_nil, or_false] at h; rcases h with rfl | rfl <;> assumption, ne⟩
  have Pr_knots := k_Web_p_knots (P := l.prog) (w := w) (base := base) W ⟨at_knots, ge_knots, ta_knots, re_knots⟩ lp_knots yp_knots
  have Pr_ties := k_Web_p_ties (P := l.prog) (w := w) (base := base) W ⟨at_ties, ge_ties, ta_ties, re_ties⟩ lp_ties yp_ties
  have x_InvalidWeb : ∃ D0, XcB K mg (zz K C [e29] [x0, x1, x2, x3, x4] [(PP36, lamQ "_law_right" (defScope s__law_right)), (PP37, lamQ "law" (defScope s_law))]) 0 "InvalidWeb" D0 := ⟨x0, rfl, rfl, PySem.W.mg_of X G gx_InvalidWeb, kx_InvalidWeb, ex_InvalidWeb, bx_InvalidWeb, tx_InvalidWeb⟩
  have x_InvalidRing : ∃ D0, XcB K mg (zz K C [e29] [x0, x1, x2, x3, x4] [(PP36, lamQ "_law_right" (defScope s__law_right)), (PP37, lamQ "law" (defScope s_law))]) 1 "InvalidRing" D0 := ⟨x1, rfl, rfl, PySem.W.mg_of X G gx_InvalidRing, kx_InvalidRing, ex_InvalidRing, bx_InvalidRing, tx_InvalidRing⟩
  have x_InvalidNumber : ∃ D0, XvB l.prog w K mg base (zz K C [e29] [x0, x1, x2, x3, x4] [(PP36, lamQ "_law_right" (defScope s__law_right)), (PP37, lamQ "law" (defScope s_law))]) 3 "InvalidNumber" "given" D0 := by
    have T : XvC K x3 "IndexError" "IndexError.__new__" "IndexError.__init__" [.type "IndexError", .type "LookupError", .type "Exception", .type "BaseException", .type "object"] := ⟨F.excBase_IndexError, F.store_IndexError, ⟨_, _, _, _, _, _, _, _, _, _, _, _, _, _, lx_InvalidNumber⟩, by decide +kernel, sx2_InvalidNumber, bx_InvalidNumber, tx_InvalidNumber, kx_InvalidNumber⟩
    exact ⟨x3, rfl, rfl, PySem.W.mg_of X G gx_InvalidNumber, _, _, _, _, fi3, _, _, T, ix_InvalidNumber, fx_InvalidNumber, xv_init (fun_mk (st := s_X_InvalidNumber) lf_InvalidNumber yf_InvalidNumber wf_InvalidNumber) sc_X_InvalidNumber T nx_InvalidNumber rfl (.inl rfl) (.inl rfl), (fun_mk (st := s_X_InvalidNumber) lf_InvalidNumber yf_InvalidNumber wf_InvalidNumber).binds fun _ _ _ _ _ _ us hl => match us, hl with | [_, _], _ => rfl⟩
  have x_TooMany : ∃ D0, XvB l.prog w K mg base (zz K C [e29] [x0, x1, x2, x3, x4] [(PP36, lamQ "_law_right" (defScope s__law_right)), (PP37, lamQ "law" (defScope s_law))]) 4 "TooMany" "limit" D0 := by
    have T : XvC K x4 "OverflowError" "OverflowError.__new__" "OverflowError.__init__" [.type "OverflowError", .type "ArithmeticError", .type "Exception", .type "BaseException", .type "object"] := ⟨F.excBase_OverflowError, F.store_OverflowError, ⟨_, _, _, _, _, _, _, _, _, _, _, _, _, _, lx_TooMany⟩, by decide +kernel, sx2_TooMany, bx_TooMany, tx_TooMany, kx_TooMany⟩
    exact ⟨x4, rfl, rfl, PySem.W.mg_of X G gx_TooMany, _, _, _, _, fi4, _, _, T, ix_TooMany, fx_TooMany, xv_init (fun_mk (st := s_X_TooMany) lf_TooMany yf_TooMany wf_TooMany) sc_X_TooMany T nx_TooMany rfl (.inl rfl) (.inl rfl), (fun_mk (st := s_X_TooMany) lf_TooMany yf_TooMany wf_TooMany).binds fun _ _ _ _ _ _ us hl => match us, hl with | [_, _], _ => rfl⟩
  have x_InvalidOperation : ∃ D0, XcB K mg (zz K C [e29] [x0, x1, x2, x3, x4] [(PP36, lamQ "_law_right" (defScope s__law_right)), (PP37, lamQ "law" (defScope s_law))]) 2 "InvalidOperation" D0 := ⟨x2, rfl, rfl, PySem.W.mg_of X G gx_InvalidOperation, kx_InvalidOperation, ex_InvalidOperation, bx_InvalidOperation, tx_InvalidOperation⟩
  have k_WORDS : ∃ a, mg "WORDS" = some (.ref a) ∧ ConT K a ["reverse", "exchange", "both"] := ⟨a_WORDS, PySem.W.mg_of X G q_WORDS, _, _, _, ⟨l_WORDS, rfl⟩, rfl, rfl, (show (3 : Nat) ≤ sizeLine from (by rw [sizeLine_eq]; decide)), .cons ⟨_, rfl⟩ (.cons ⟨_, rfl⟩ (.cons ⟨_, rfl⟩ (.nil)))⟩
  have v_flips_or_pair : FnV mg (zz K C [e29] [x0, x1, x2, x3, x4] [(PP36, lamQ "_law_right" (defScope s__law_right)), (PP37, lamQ "law" (defScope s_law))]) 1 "flips_or_pair" := ⟨e29, PySem.W.mg_of X G a_flips_or_pair, rfl⟩
  have h_is_whole := k_is_whole (P := l.prog) (w := w) (K := K) (base := base) (z := (zz K C [e29] [x0, x1, x2, x3, x4] [(PP36, lamQ "_law_right" (defScope s__law_right)), (PP37, lamQ "law" (defScope s_law))])) rfl B (fun_mk (st := s_is_whole) l_is_whole y_is_whole w_is_whole) (PySem.W.mg_of X G a_is_whole) 
  have h_is_below := k_is_below (P := l.prog) (w := w) (K := K) (base := base) (z := (zz K C [e29] [x0, x1, x2, x3, x4] [(PP36, lamQ "_law_right" (defScope s__law_right)), (PP37, lamQ "law" (defScope s_law))])) rfl B (fun_mk (st := s_is_below) l_is_below y_is_below w_is_below) (PySem.W.mg_of X G a_is_below) h_is_whole
  have h_are_below := k_are_below (P := l.prog) (w := w) (K := K) (base := base) (z := (zz K C [e29] [x0, x1, x2, x3, x4] [(PP36, lamQ "_law_right" (defScope s__law_right)), (PP37, lamQ "law" (defScope s_law))])) rfl B (fun_mk (st := s_are_below) l_are_below y_are_below w_are_below) (PySem.W.mg_of X G a_are_below) h_is_below
  have h_is_ascending := k_is_ascending (P := l.prog) (w := w) (K := K) (base := base) (z := (zz K C [e29] [x0, x1, x2, x3, x4] [(PP36, lamQ "_law_right" (defScope s__law_right)), (PP37, lamQ "law" (defScope s_law))])) rfl B (fun_mk (st := s_is_ascending) l_is_ascending y_is_ascending w_is_ascending) (PySem.W.mg_of X G a_is_ascending) h_are_below
  have h_are_pairs := k_are_pairs (P := l.prog) (w := w) (K := K) (base := base) (z := (zz K C [e29] [x0, x1, x2, x3, x4] [(PP36, lamQ "_law_right" (defScope s__law_right)), (PP37, lamQ "law" (defScope s_law))])) rfl B (fun_mk (st := s_are_pairs) l_are_pairs y_are_pairs w_are_pairs) (PySem.W.mg_of X G a_are_pairs) h_is_ascending
  have h_check_web := k_check_web (P := l.prog) (w := w) (K := K) (base := base) (z := (zz K C [e29] [x0, x1, x2, x3, x4] [(PP36, lamQ "_law_right" (defScope s__law_right)), (PP37, lamQ "law" (defScope s_law))])) rfl B W (fun_mk (st := s_check_web) l_check_web y_check_web w_check_web) (PySem.W.mg_of X G a_check_web)  x_InvalidWeb
  have h_masks_of := k_masks_of (P := l.prog) (w := w) (K := K) (base := base) (z := (zz K C [e29] [x0, x1, x2, x3, x4] [(PP36, lamQ "_law_right" (defScope s__law_right)), (PP37, lamQ "law" (defScope s_law))])) rfl B W Pr_knots Pr_ties (fun_mk (st := s_masks_of) l_masks_of y_masks_of w_masks_of) (PySem.W.mg_of X G a_masks_of) 
  have h_is_ring := k_is_ring (P := l.prog) (w := w) (K := K) (base := base) (z := (zz K C [e29] [x0, x1, x2, x3, x4] [(PP36, lamQ "_law_right" (defScope s__law_right)), (PP37, lamQ "law" (defScope s_law))])) rfl B (fun_mk (st := s_is_ring) l_is_ring y_is_ring w_is_ring) (PySem.W.mg_of X G a_is_ring) h_is_whole
  have h_check_ring := k_check_ring (P := l.prog) (w := w) (K := K) (base := base) (z := (zz K C [e29] [x0, x1, x2, x3, x4] [(PP36, lamQ "_law_right" (defScope s__law_right)), (PP37, lamQ "law" (defScope s_law))])) rfl B (fun_mk (st := s_check_ring) l_check_ring y_check_ring w_check_ring) (PySem.W.mg_of X G a_check_ring) h_is_ring x_InvalidRing
  have h__check_name := k__check_name (P := l.prog) (w := w) (K := K) (base := base) (z := (zz K C [e29] [x0, x1, x2, x3, x4] [(PP36, lamQ "_law_right" (defScope s__law_right)), (PP37, lamQ "law" (defScope s_law))])) rfl B (fun_mk (st := s__check_name) l__check_name y__check_name w__check_name) (PySem.W.mg_of X G a__check_name) h_is_below x_InvalidNumber
  have h__ends := k__ends (P := l.prog) (w := w) (K := K) (base := base) (z := (zz K C [e29] [x0, x1, x2, x3, x4] [(PP36, lamQ "_law_right" (defScope s__law_right)), (PP37, lamQ "law" (defScope s_law))])) rfl B (fun_mk (st := s__ends) l__ends y__ends w__ends) (PySem.W.mg_of X G a__ends) 
  have h_crossing := k_crossing (P := l.prog) (w := w) (K := K) (base := base) (z := (zz K C [e29] [x0, x1, x2, x3, x4] [(PP36, lamQ "_law_right" (defScope s__law_right)), (PP37, lamQ "law" (defScope s_law))])) rfl B (fun_mk (st := s_crossing) l_crossing y_crossing w_crossing) (PySem.W.mg_of X G a_crossing) h_check_ring h__check_name h__ends
  have h_Web := k_Web (P := l.prog) (w := w) (K := K) (base := base) (z := (zz K C [e29] [x0, x1, x2, x3, x4] [(PP36, lamQ "_law_right" (defScope s__law_right)), (PP37, lamQ "law" (defScope s_law))])) rfl B W mk kc (fun_mk (st := s_Web) l_Web y_Web w_Web) a_Web i_Web h_are_pairs h_is_whole x_InvalidWeb
  have h_web_of := k_web_of (P := l.prog) (w := w) (K := K) (base := base) (z := (zz K C [e29] [x0, x1, x2, x3, x4] [(PP36, lamQ "_law_right" (defScope s__law_right)), (PP37, lamQ "law" (defScope s_law))])) rfl B W (fun_mk (st := s_web_of) l_web_of y_web_of w_web_of) (PySem.W.mg_of X G a_web_of) h_check_ring h_Web h_crossing
  have h_least_form := k_least_form (P := l.prog) (w := w) (K := K) (base := base) (z := (zz K C [e29] [x0, x1, x2, x3, x4] [(PP36, lamQ "_law_right" (defScope s__law_right)), (PP37, lamQ "law" (defScope s_law))])) rfl B (fun_mk (st := s_least_form) l_least_form y_least_form w_least_form) (PySem.W.mg_of X G a_least_form) h_check_ring
  have h__with_chord := k__with_chord (P := l.prog) (w := w) (K := K) (base := base) (z := (zz K C [e29] [x0, x1, x2, x3, x4] [(PP36, lamQ "_law_right" (defScope s__law_right)), (PP37, lamQ "law" (defScope s_law))])) rfl B (fun_mk (st := s__with_chord) l__with_chord y__with_chord w__with_chord) (PySem.W.mg_of X G a__with_chord) 
  have h_rings_begun := k_rings_begun (P := l.prog) (w := w) (K := K) (base := base) (z := (zz K C [e29] [x0, x1, x2, x3, x4] [(PP36, lamQ "_law_right" (defScope s__law_right)), (PP37, lamQ "law" (defScope s_law))])) rfl B W Pr_knots (fun_mk (st := s_rings_begun) l_rings_begun y_rings_begun w_rings_begun) (PySem.W.mg_of X G a_rings_begun) h_masks_of h__with_chord
  have h_forms_of := k_forms_of (P := l.prog) (w := w) (K := K) (base := base) (z := (zz K C [e29] [x0, x1, x2, x3, x4] [(PP36, lamQ "_law_right" (defScope s__law_right)), (PP37, lamQ "law" (defScope s_law))])) rfl B W Pr_knots (fun_mk (st := s_forms_of) l_forms_of y_forms_of w_forms_of) (PySem.W.mg_of X G a_forms_of) h_check_web h_least_form h_rings_begun x_TooMany
  have h__begun_ahead := k__begun_ahead (P := l.prog) (w := w) (K := K) (base := base) (z := (zz K C [e29] [x0, x1, x2, x3, x4] [(PP36, lamQ "_law_right" (defScope s__law_right)), (PP37, lamQ "law" (defScope s_law))])) rfl B (fun_mk (st := s__begun_ahead) l__begun_ahead y__begun_ahead w__begun_ahead) (PySem.W.mg_of X G a__begun_ahead) 
  have h__is_cut := k__is_cut (P := l.prog) (w := w) (K := K) (base := base) (z := (zz K C [e29] [x0, x1, x2, x3, x4] [(PP36, lamQ "_law_right" (defScope s__law_right)), (PP37, lamQ "law" (defScope s_law))])) rfl B (fun_mk (st := s__is_cut) l__is_cut y__is_cut w__is_cut) (PySem.W.mg_of X G a__is_cut) h__begun_ahead h_are_below
  have h_is_cut := k_is_cut (P := l.prog) (w := w) (K := K) (base := base) (z := (zz K C [e29] [x0, x1, x2, x3, x4] [(PP36, lamQ "_law_right" (defScope s__law_right)), (PP37, lamQ "law" (defScope s_law))])) rfl B (fun_mk (st := s_is_cut) l_is_cut y_is_cut w_is_cut) (PySem.W.mg_of X G a_is_cut) h_check_ring h__is_cut
  have h_cuts := k_cuts (P := l.prog) (w := w) (K := K) (base := base) (z := (zz K C [e29] [x0, x1, x2, x3, x4] [(PP36, lamQ "_law_right" (defScope s__law_right)), (PP37, lamQ "law" (defScope s_law))])) rfl B (fun_mk (st := s_cuts) l_cuts y_cuts w_cuts) (PySem.W.mg_of X G a_cuts) h_check_ring
  have h__check_cut := k__check_cut (P := l.prog) (w := w) (K := K) (base := base) (z := (zz K C [e29] [x0, x1, x2, x3, x4] [(PP36, lamQ "_law_right" (defScope s__law_right)), (PP37, lamQ "law" (defScope s_law))])) rfl B (fun_mk (st := s__check_cut) l__check_cut y__check_cut w__check_cut) (PySem.W.mg_of X G a__check_cut) h_check_ring h__is_cut x_InvalidOperation
  have h_share_of := k_share_of (P := l.prog) (w := w) (K := K) (base := base) (z := (zz K C [e29] [x0, x1, x2, x3, x4] [(PP36, lamQ "_law_right" (defScope s__law_right)), (PP37, lamQ "law" (defScope s_law))])) rfl B (fun_mk (st := s_share_of) l_share_of y_share_of w_share_of) (PySem.W.mg_of X G a_share_of) h__check_cut
  have h__flipped := k__flipped (P := l.prog) (w := w) (K := K) (base := base) (z := (zz K C [e29] [x0, x1, x2, x3, x4] [(PP36, lamQ "_law_right" (defScope s__law_right)), (PP37, lamQ "law" (defScope s_law))])) rfl B (fun_mk (st := s__flipped) l__flipped y__flipped w__flipped) (PySem.W.mg_of X G a__flipped) 
  have h_flipped := k_flipped (P := l.prog) (w := w) (K := K) (base := base) (z := (zz K C [e29] [x0, x1, x2, x3, x4] [(PP36, lamQ "_law_right" (defScope s__law_right)), (PP37, lamQ "law" (defScope s_law))])) rfl B (fun_mk (st := s_flipped) l_flipped y_flipped w_flipped) (PySem.W.mg_of X G a_flipped) h__check_cut h__flipped x_InvalidOperation k_WORDS
  have h_rings_of := k_rings_of (P := l.prog) (w := w) (K := K) (base := base) (z := (zz K C [e29] [x0, x1, x2, x3, x4] [(PP36, lamQ "_law_right" (defScope s__law_right)), (PP37, lamQ "law" (defScope s_law))])) rfl B (fun_mk (st := s_rings_of) l_rings_of y_rings_of w_rings_of) (PySem.W.mg_of X G a_rings_of) h_forms_of
  have h__check_both := k__check_both (P := l.prog) (w := w) (K := K) (base := base) (z := (zz K C [e29] [x0, x1, x2, x3, x4] [(PP36, lamQ "_law_right" (defScope s__law_right)), (PP37, lamQ "law" (defScope s_law))])) rfl B (fun_mk (st := s__check_both) l__check_both y__check_both w__check_both) (PySem.W.mg_of X G a__check_both) h_check_ring x_InvalidOperation x_TooMany
  have h__flips_between := k__flips_between (P := l.prog) (w := w) (K := K) (base := base) (z := (zz K C [e29] [x0, x1, x2, x3, x4] [(PP36, lamQ "_law_right" (defScope s__law_right)), (PP37, lamQ "law" (defScope s_law))])) rfl B (fun_mk (st := s__flips_between) l__flips_between y__flips_between w__flips_between) (PySem.W.mg_of X G a__flips_between) h_least_form
  have h_flips_or_pair := k_flips_or_pair (P := l.prog) (w := w) (K := K) (base := base) (z := (zz K C [e29] [x0, x1, x2, x3, x4] [(PP36, lamQ "_law_right" (defScope s__law_right)), (PP37, lamQ "law" (defScope s_law))])) rfl B W Pr_ties (fun_mk (st := s_flips_or_pair) l_flips_or_pair y_flips_or_pair w_flips_or_pair) (PySem.W.mg_of X G a_flips_or_pair) h__check_both h__flips_between h_web_of
  have h__are_flips := k__are_flips (P := l.prog) (w := w) (K := K) (base := base) (z := (zz K C [e29] [x0, x1, x2, x3, x4] [(PP36, lamQ "_law_right" (defScope s__law_right)), (PP37, lamQ "law" (defScope s_law))])) rfl B (fun_mk (st := s__are_flips) l__are_flips y__are_flips w__are_flips) (PySem.W.mg_of X G a__are_flips) h__flipped h_least_form h__is_cut k_WORDS
  have h_is_flips_or_pair := k_is_flips_or_pair (P := l.prog) (w := w) (K := K) (base := base) (z := (zz K C [e29] [x0, x1, x2, x3, x4] [(PP36, lamQ "_law_right" (defScope s__law_right)), (PP37, lamQ "law" (defScope s_law))])) rfl B W Pr_ties (fun_mk (st := s_is_flips_or_pair) l_is_flips_or_pair y_is_flips_or_pair w_is_flips_or_pair) (PySem.W.mg_of X G a_is_flips_or_pair) h__check_both h__are_flips h_is_ascending h_web_of
  have h__law_jar := k__law_jar (P := l.prog) (w := w) (K := K) (base := base) (z := (zz K C [e29] [x0, x1, x2, x3, x4] [(PP36, lamQ "_law_right" (defScope s__law_right)), (PP37, lamQ "law" (defScope s_law))])) rfl B (fun_mk (st := s__law_jar) l__law_jar y__law_jar w__law_jar) (PySem.W.mg_of X G a__law_jar) 
  have h__law_pull := k__law_pull (P := l.prog) (w := w) (K := K) (base := base) (z := (zz K C [e29] [x0, x1, x2, x3, x4] [(PP36, lamQ "_law_right" (defScope s__law_right)), (PP37, lamQ "law" (defScope s_law))])) rfl B (fun_mk (st := s__law_pull) l__law_pull y__law_pull w__law_pull) (PySem.W.mg_of X G a__law_pull) 
  have h__law_pick := k__law_pick (P := l.prog) (w := w) (K := K) (base := base) (z := (zz K C [e29] [x0, x1, x2, x3, x4] [(PP36, lamQ "_law_right" (defScope s__law_right)), (PP37, lamQ "law" (defScope s_law))])) rfl B (fun_mk (st := s__law_pick) l__law_pick y__law_pick w__law_pick) (PySem.W.mg_of X G a__law_pick) h__law_pull
  have h__law_met : MetB l.prog w K mg base (zz K C [e29] [x0, x1, x2, x3, x4] [(PP36, lamQ "_law_right" (defScope s__law_right)), (PP37, lamQ "law" (defScope s_law))]) "_law_met" 5 [(1, .s "ring"), (0, .s "web"), (2, .s "operation"), (4, .sr "many " "limit")] (.str "fine") := by
    refine k__law_met (K := K) rfl B l__law_met y__law_met w__law_met (PySem.W.mg_of X G a__law_met) (fun n => [x0, x1, x2, x3, x4].getD n 0) (fun c _ => rfl) ?_ (PySem.W.mg_of X G gx_InvalidRing) (PySem.W.mg_of X G gx_InvalidWeb) (PySem.W.mg_of X G gx_InvalidOperation) (PySem.W.mg_of X G gx_TooMany) ⟨g1_TooMany, g2_TooMany, bx_TooMany, dx_TooMany⟩ nx_TooMany rfl
    intro c hc q hq
    simp only [List.mem_cons, List.not_mem_nil, or_false] at hq
    rcases hq with rfl | rfl | rfl | rfl
    · match c, hc with
      | 0, _ => exact exm_pair bx_InvalidRing dx_InvalidRing tx_InvalidRing sp_InvalidWeb_InvalidRing
      | 1, _ => exact exm_pair bx_InvalidRing dx_InvalidRing tx_InvalidRing sp_InvalidRing_InvalidRing
      | 2, _ => exact exm_pair bx_InvalidRing dx_InvalidRing tx_InvalidRing sp_InvalidOperation_InvalidRing
      | 3, _ => exact exm_pair bx_InvalidRing dx_InvalidRing tx_InvalidRing sp_InvalidNumber_InvalidRing
      | 4, _ => exact exm_pair bx_InvalidRing dx_InvalidRing tx_InvalidRing sp_TooMany_InvalidRing
      | n + 5, hc => omega
    · match c, hc with
      | 0, _ => exact exm_pair bx_InvalidWeb dx_InvalidWeb tx_InvalidWeb sp_InvalidWeb_InvalidWeb
      | 1, _ => exact exm_pair bx_InvalidWeb dx_InvalidWeb tx_InvalidWeb sp_InvalidRing_InvalidWeb
      | 2, _ => exact exm_pair bx_InvalidWeb dx_InvalidWeb tx_InvalidWeb sp_InvalidOperation_InvalidWeb
      | 3, _ => exact exm_pair bx_InvalidWeb dx_InvalidWeb tx_InvalidWeb sp_InvalidNumber_InvalidWeb
      | 4, _ => exact exm_pair bx_InvalidWeb dx_InvalidWeb tx_InvalidWeb sp_TooMany_InvalidWeb
      | n + 5, hc => omega
    · match c, hc with
      | 0, _ => exact exm_pair bx_InvalidOperation dx_InvalidOperation tx_InvalidOperation sp_InvalidWeb_InvalidOperation
      | 1, _ => exact exm_pair bx_InvalidOperation dx_InvalidOperation tx_InvalidOperation sp_InvalidRing_InvalidOperation
      | 2, _ => exact exm_pair bx_InvalidOperation dx_InvalidOperation tx_InvalidOperation sp_InvalidOperation_InvalidOperation
      | 3, _ => exact exm_pair bx_InvalidOperation dx_InvalidOperation tx_InvalidOperation sp_InvalidNumber_InvalidOperation
      | 4, _ => exact exm_pair bx_InvalidOperation dx_InvalidOperation tx_InvalidOperation sp_TooMany_InvalidOperation
      | n + 5, hc => omega
    · match c, hc with
      | 0, _ => exact exm_pair bx_TooMany dx_TooMany tx_TooMany sp_InvalidWeb_TooMany
      | 1, _ => exact exm_pair bx_TooMany dx_TooMany tx_TooMany sp_InvalidRing_TooMany
      | 2, _ => exact exm_pair bx_TooMany dx_TooMany tx_TooMany sp_InvalidOperation_TooMany
      | 3, _ => exact exm_pair bx_TooMany dx_TooMany tx_TooMany sp_InvalidNumber_TooMany
      | 4, _ => exact exm_pair bx_TooMany dx_TooMany tx_TooMany sp_TooMany_TooMany
      | n + 5, hc => omega
  have hu__law_right : ∀ p ∈ (zz K C [e29] [x0, x1, x2, x3, x4] [(PP36, lamQ "_law_right" (defScope s__law_right)), (PP37, lamQ "law" (defScope s_law))]).Ts, p.1 = PP36 → p.2 = lamQ "_law_right" (defScope s__law_right) := by
    intro p hp e
    simp only [zz, List.mem_cons, List.not_mem_nil, or_false] at hp
    rcases hp with rfl | rfl
    · exact rfl
    · exact absurd e.symm pne_36_37
  have h__law_right := k__law_right (P := l.prog) (w := w) (K := K) (base := base) (z := (zz K C [e29] [x0, x1, x2, x3, x4] [(PP36, lamQ "_law_right" (defScope s__law_right)), (PP37, lamQ "law" (defScope s_law))])) rfl B W (c := cc36) (P0 := PP36) ⟨⟨_, _, _, _, _, _, _, _, rfl, l__law_right, y__law_right⟩, w__law_right⟩ (PySem.W.mg_of X G a__law_right) (tabs (cc36, PP36) (by simp)) (by show _ ∈ [(PP36, lamQ "_law_right" (defScope s__law_right)), (PP37, lamQ "law" (defScope s_law))]; simp) hu__law_right h__law_pick h__law_met h_flips_or_pair h_is_flips_or_pair h_is_cut h_Web h_cuts h_share_of h_flipped h_rings_of v_flips_or_pair
  have hu_law : ∀ p ∈ (zz K C [e29] [x0, x1, x2, x3, x4] [(PP36, lamQ "_law_right" (defScope s__law_right)), (PP37, lamQ "law" (defScope s_law))]).Ts, p.1 = PP37 → p.2 = lamQ "law" (defScope s_law) := by
    intro p hp e
    simp only [zz, List.mem_cons, List.not_mem_nil, or_false] at hp
    rcases hp with rfl | rfl
    · exact absurd e pne_36_37
    · exact rfl
  have h_law := k_law (P := l.prog) (w := w) (K := K) (base := base) (z := (zz K C [e29] [x0, x1, x2, x3, x4] [(PP36, lamQ "_law_right" (defScope s__law_right)), (PP37, lamQ "law" (defScope s_law))])) rfl B W (c := cc37) (P0 := PP37) ⟨⟨_, _, _, _, _, _, _, _, rfl, l_law, y_law⟩, w_law⟩ (PySem.W.mg_of X G a_law) (tabs (cc37, PP37) (by simp)) (by show _ ∈ [(PP36, lamQ "_law_right" (defScope s__law_right)), (PP37, lamQ "law" (defScope s_law))]; simp) hu_law h__law_jar h__law_met h_is_cut h__law_right h_flips_or_pair h_rings_of h_Web
  exact h_law.imp fun vs H Q E q => top_ofT (z := (zz K C [e29] [x0, x1, x2, x3, x4] [(PP36, lamQ "_law_right" (defScope s__law_right)), (PP37, lamQ "law" (defScope s_law))])) rfl mt q
end G_k46
open PySem PySem.W PyProof.Rows
set_option maxHeartbeats 0 in
theorem PySem.Challenge.cw_tiedanew_k46_errors_of_flips_holds : PySem.Challenge.rw_tiedanew_k46_errors_of_flips.Holds := by
  w_on; o_law; k_head; (case hw => w_witness2)
  k_fill
  refine TN.walk_g (l := PySem.Challenge.rw_tiedanew_k46_errors_of_flips) (n := 63) (k := 19) (x := "script") rfl (by decide) rfl ⟨rfl, by decide, by decide⟩ ?F
  case F =>
    intro w mg fa h Y G hmg
    have KX := PySem.W.km_in_of Y
    refine ⟨_, KX, ?G⟩
    case G =>
      refine' G_k46.all_mk ME_k46.m_true KX G hmg ?cC ?pg ?hd ?po ?sa ?mk ?kc ?ha ?hn ?htk ?hmr ?ne ?sx_int ?sx_bool ?sx_str ?sx_tuple ?sx_list ?sx_dict ?icl ?tyc ?nf__knots ?nf__ties ?at_knots ?ge_knots ?ta_knots ?re_knots ?lp_knots ?yp_knots ?at_ties ?ge_ties ?ta_ties ?re_ties ?lp_ties ?yp_ties ?a_is_whole ?l_is_whole ?y_is_whole ?w_is_whole ?a_is_below ?l_is_below ?y_is_below ?w_is_below ?a_are_below ?l_are_below ?y_are_below ?w_are_below ?a_is_ascending ?l_is_ascending ?y_is_ascending ?w_is_ascending ?a_are_pairs ?l_are_pairs ?y_are_pairs ?w_are_pairs ?a_check_web ?l_check_web ?y_check_web ?w_check_web ?a_masks_of ?l_masks_of ?y_masks_of ?w_masks_of ?a_is_ring ?l_is_ring ?y_is_ring ?w_is_ring ?a_check_ring ?l_check_ring ?y_check_ring ?w_check_ring ?a__check_name ?l__check_name ?y__check_name ?w__check_name ?a__ends ?l__ends ?y__ends ?w__ends ?a_crossing ?l_crossing ?y_crossing ?w_crossing ?a_Web ?i_Web ?l_Web ?y_Web ?w_Web ?a_web_of ?l_web_of ?y_web_of ?w_web_of ?a_least_form ?l_least_form ?y_least_form ?w_least_form ?a__with_chord ?l__with_chord ?y__with_chord ?w__with_chord ?a_rings_begun ?l_rings_begun ?y_rings_begun ?w_rings_begun ?a_forms_of ?l_forms_of ?y_forms_of ?w_forms_of ?a__begun_ahead ?l__begun_ahead ?y__begun_ahead ?w__begun_ahead ?a__is_cut ?l__is_cut ?y__is_cut ?w__is_cut ?a_is_cut ?l_is_cut ?y_is_cut ?w_is_cut ?a_cuts ?l_cuts ?y_cuts ?w_cuts ?a__check_cut ?l__check_cut ?y__check_cut ?w__check_cut ?a_share_of ?l_share_of ?y_share_of ?w_share_of ?a__flipped ?l__flipped ?y__flipped ?w__flipped ?a_flipped ?l_flipped ?y_flipped ?w_flipped ?a_rings_of ?l_rings_of ?y_rings_of ?w_rings_of ?a__check_both ?l__check_both ?y__check_both ?w__check_both ?a__flips_between ?l__flips_between ?y__flips_between ?w__flips_between ?a_flips_or_pair ?l_flips_or_pair ?y_flips_or_pair ?w_flips_or_pair ?a__are_flips ?l__are_flips ?y__are_flips ?w__are_flips ?a_is_flips_or_pair ?l_is_flips_or_pair ?y_is_flips_or_pair ?w_is_flips_or_pair ?a__law_jar ?l__law_jar ?y__law_jar ?w__law_jar ?a__law_pull ?l__law_pull ?y__law_pull ?w__law_pull ?a__law_pick ?l__law_pick ?y__law_pick ?w__law_pick ?a__law_met ?l__law_met ?y__law_met ?w__law_met ?a__law_right ?l__law_right ?y__law_right ?w__law_right ?ti__law_right ?hc__law_right ?nt__law_right ?te__law_right ?a_law ?l_law ?y_law ?w_law ?ti_law ?hc_law ?nt_law ?te_law ?z_all ?z_tuple ?z_min ?z_range ?z_sorted ?z_isinstance ?z_int ?z_len ?z_max ?z_list ?z_bool ?z_set ?z_abs ?z_zip ?z_repr ?q_MOST_KNOTS ?q_MOST_LISTED ?q_MOST_CHORDS ?q_MOST_FLIPS ?q_WORDS ?l_WORDS ?gx_InvalidWeb ?bx_InvalidWeb ?tx_InvalidWeb ?kx_InvalidWeb ?dx_InvalidWeb ?ex_InvalidWeb ?gx_InvalidRing ?bx_InvalidRing ?tx_InvalidRing ?kx_InvalidRing ?dx_InvalidRing ?ex_InvalidRing ?gx_InvalidOperation ?bx_InvalidOperation ?tx_InvalidOperation ?kx_InvalidOperation ?dx_InvalidOperation ?ex_InvalidOperation ?gx_InvalidNumber ?bx_InvalidNumber ?tx_InvalidNumber ?kx_InvalidNumber ?nx_InvalidNumber ?lx_InvalidNumber ?sx2_InvalidNumber ?ix_InvalidNumber ?fx_InvalidNumber ?lf_InvalidNumber ?yf_InvalidNumber ?wf_InvalidNumber ?gx_TooMany ?bx_TooMany ?tx_TooMany ?kx_TooMany ?dx_TooMany ?g1_TooMany ?g2_TooMany ?nx_TooMany ?lx_TooMany ?sx2_TooMany ?ix_TooMany ?fx_TooMany ?lf_TooMany ?yf_TooMany ?wf_TooMany ?sp_InvalidWeb_InvalidRing ?sp_InvalidWeb_InvalidWeb ?sp_InvalidWeb_InvalidOperation ?sp_InvalidWeb_TooMany ?sp_InvalidRing_InvalidRing ?sp_InvalidRing_InvalidWeb ?sp_InvalidRing_InvalidOperation ?sp_InvalidRing_TooMany ?sp_InvalidOperation_InvalidRing ?sp_InvalidOperation_InvalidWeb ?sp_InvalidOperation_InvalidOperation ?sp_InvalidOperation_TooMany ?sp_InvalidNumber_InvalidRing ?sp_InvalidNumber_InvalidWeb ?sp_InvalidNumber_InvalidOperation ?sp_InvalidNumber_TooMany ?sp_TooMany_InvalidRing ?sp_TooMany_InvalidWeb ?sp_TooMany_InvalidOperation ?sp_TooMany_TooMany ?pne_36_37
      (case cC => k_is); (case pg => k_is); (case hd => k_is); (case po => k_is); (case sa => k_is); (case mk => k_is); (case kc => k_is); (case ha => k_is); (case hn => k_is); (case htk => k_is); (case hmr => k_is); (case ne => k_is); (case sx_int => k_is); (case sx_bool => k_is); (case sx_str => k_is); (case sx_tuple => k_is); (case sx_list => k_is); (case sx_dict => k_is); (case icl => k_is); (case tyc => k_is); (case nf__knots => k_is); (case nf__ties => k_is); (case at_knots => k_is); (case ge_knots => k_is); (case ta_knots => k_is); (case re_knots => exact ⟨_, by k_is⟩); (case lp_knots => k_is); (case yp_knots => k_is); (case at_ties => k_is); (case ge_ties => k_is); (case ta_ties => k_is); (case re_ties => exact ⟨_, by k_is⟩); (case lp_ties => k_is); (case yp_ties => k_is); (case a_is_whole => k_is); (case l_is_whole => k_is); (case y_is_whole => k_is); (case w_is_whole => k_is); (case a_is_below => k_is); (case l_is_below => k_is); (case y_is_below => k_is); (case w_is_below => k_is); (case a_are_below => k_is); (case l_are_below => k_is); (case y_are_below => k_is); (case w_are_below => k_is); (case a_is_ascending => k_is); (case l_is_ascending => k_is); (case y_is_ascending => k_is); (case w_is_ascending => k_is); (case a_are_pairs => k_is); (case l_are_pairs => k_is); (case y_are_pairs => k_is); (case w_are_pairs => k_is); (case a_check_web => k_is); (case l_check_web => k_is); (case y_check_web => k_is); (case w_check_web => k_is); (case a_masks_of => k_is); (case l_masks_of => k_is); (case y_masks_of => k_is); (case w_masks_of => k_is); (case a_is_ring => k_is); (case l_is_ring => k_is); (case y_is_ring => k_is); (case w_is_ring => k_is); (case a_check_ring => k_is); (case l_check_ring => k_is); (case y_check_ring => k_is); (case w_check_ring => k_is); (case a__check_name => k_is); (case l__check_name => k_is); (case y__check_name => k_is); (case w__check_name => k_is); (case a__ends => k_is); (case l__ends => k_is); (case y__ends => k_is); (case w__ends => k_is); (case a_crossing => k_is); (case l_crossing => k_is); (case y_crossing => k_is); (case w_crossing => k_is); (case a_Web => k_is); (case i_Web => k_is); (case l_Web => k_is); (case y_Web => k_is); (case w_Web => k_is); (case a_web_of => k_is); (case l_web_of => k_is); (case y_web_of => k_is); (case w_web_of => k_is); (case a_least_form => k_is); (case l_least_form => k_is); (case y_least_form => k_is); (case w_least_form => k_is); (case a__with_chord => k_is); (case l__with_chord => k_is); (case y__with_chord => k_is); (case w__with_chord => k_is); (case a_rings_begun => k_is); (case l_rings_begun => k_is); (case y_rings_begun => k_is); (case w_rings_begun => k_is); (case a_forms_of => k_is); (case l_forms_of => k_is); (case y_forms_of => k_is); (case w_forms_of => k_is); (case a__begun_ahead => k_is); (case l__begun_ahead => k_is); (case y__begun_ahead => k_is); (case w__begun_ahead => k_is); (case a__is_cut => k_is); (case l__is_cut => k_is); (case y__is_cut => k_is); (case w__is_cut => k_is); (case a_is_cut => k_is); (case l_is_cut => k_is); (case y_is_cut => k_is); (case w_is_cut => k_is); (case a_cuts => k_is); (case l_cuts => k_is); (case y_cuts => k_is); (case w_cuts => k_is); (case a__check_cut => k_is); (case l__check_cut => k_is); (case y__check_cut => k_is); (case w__check_cut => k_is); (case a_share_of => k_is); (case l_share_of => k_is); (case y_share_of => k_is); (case w_share_of => k_is); (case a__flipped => k_is); (case l__flipped => k_is); (case y__flipped => k_is); (case w__flipped => k_is); (case a_flipped => k_is); (case l_flipped => k_is); (case y_flipped => k_is); (case w_flipped => k_is); (case a_rings_of => k_is); (case l_rings_of => k_is); (case y_rings_of => k_is); (case w_rings_of => k_is); (case a__check_both => k_is); (case l__check_both => k_is); (case y__check_both => k_is); (case w__check_both => k_is); (case a__flips_between => k_is); (case l__flips_between => k_is); (case y__flips_between => k_is); (case w__flips_between => k_is); (case a_flips_or_pair => k_is); (case l_flips_or_pair => k_is); (case y_flips_or_pair => k_is); (case w_flips_or_pair => k_is); (case a__are_flips => k_is); (case l__are_flips => k_is); (case y__are_flips => k_is); (case w__are_flips => k_is); (case a_is_flips_or_pair => k_is); (case l_is_flips_or_pair => k_is); (case y_is_flips_or_pair => k_is); (case w_is_flips_or_pair => k_is); (case a__law_jar => k_is); (case l__law_jar => k_is); (case y__law_jar => k_is); (case w__law_jar => k_is); (case a__law_pull => k_is); (case l__law_pull => k_is); (case y__law_pull => k_is); (case w__law_pull => k_is); (case a__law_pick => k_is); (case l__law_pick => k_is); (case y__law_pick => k_is); (case w__law_pick => k_is); (case a__law_met => k_is); (case l__law_met => k_is); (case y__law_met => k_is); (case w__law_met => k_is); (case a__law_right => k_is); (case l__law_right => k_is); (case y__law_right => k_is); (case w__law_right => k_is); (case a_law => k_is); (case l_law => k_is); (case y_law => k_is); (case w_law => k_is); (case z_all => k_is); (case z_tuple => k_is); (case z_min => k_is); (case z_range => k_is); (case z_sorted => k_is); (case z_isinstance => k_is); (case z_int => k_is); (case z_len => k_is); (case z_max => k_is); (case z_list => k_is); (case z_bool => k_is); (case z_set => k_is); (case z_abs => k_is); (case z_zip => k_is); (case z_repr => k_is); (case q_MOST_KNOTS => k_is); (case q_MOST_LISTED => k_is); (case q_MOST_CHORDS => k_is); (case q_MOST_FLIPS => k_is); (case q_WORDS => k_is); (case l_WORDS => k_is); (case gx_InvalidWeb => k_is); (case bx_InvalidWeb => k_is); (case tx_InvalidWeb => k_is); (case kx_InvalidWeb => k_is); (case dx_InvalidWeb => k_is); (case ex_InvalidWeb => first | k_is | kernel_rfl); (case gx_InvalidRing => k_is); (case bx_InvalidRing => k_is); (case tx_InvalidRing => k_is); (case kx_InvalidRing => k_is); (case dx_InvalidRing => k_is); (case ex_InvalidRing => first | k_is | kernel_rfl); (case gx_InvalidOperation => k_is); (case bx_InvalidOperation => k_is); (case tx_InvalidOperation => k_is); (case kx_InvalidOperation => k_is); (case dx_InvalidOperation => k_is); (case ex_InvalidOperation => first | k_is | kernel_rfl); (case gx_InvalidNumber => k_is); (case bx_InvalidNumber => k_is); (case tx_InvalidNumber => k_is); (case kx_InvalidNumber => k_is); (case nx_InvalidNumber => k_is); (case lx_InvalidNumber => k_is); (case sx2_InvalidNumber => k_is); (case ix_InvalidNumber => k_is); (case fx_InvalidNumber => k_is); (case lf_InvalidNumber => k_is); (case yf_InvalidNumber => k_is); (case wf_InvalidNumber => k_is); (case gx_TooMany => k_is); (case bx_TooMany => k_is); (case tx_TooMany => k_is); (case kx_TooMany => k_is); (case dx_TooMany => k_is); (case g1_TooMany => k_is); (case g2_TooMany => k_is); (case nx_TooMany => k_is); (case lx_TooMany => k_is); (case sx2_TooMany => k_is); (case ix_TooMany => k_is); (case fx_TooMany => k_is); (case lf_TooMany => k_is); (case yf_TooMany => k_is); (case wf_TooMany => k_is); (case sp_InvalidWeb_InvalidRing => k_is); (case sp_InvalidWeb_InvalidWeb => k_is); (case sp_InvalidWeb_InvalidOperation => k_is); (case sp_InvalidWeb_TooMany => k_is); (case sp_InvalidRing_InvalidRing => k_is); (case sp_InvalidRing_InvalidWeb => k_is); (case sp_InvalidRing_InvalidOperation => k_is); (case sp_InvalidRing_TooMany => k_is); (case sp_InvalidOperation_InvalidRing => k_is); (case sp_InvalidOperation_InvalidWeb => k_is); (case sp_InvalidOperation_InvalidOperation => k_is); (case sp_InvalidOperation_TooMany => k_is); (case sp_InvalidNumber_InvalidRing => k_is); (case sp_InvalidNumber_InvalidWeb => k_is); (case sp_InvalidNumber_InvalidOperation => k_is); (case sp_InvalidNumber_TooMany => k_is); (case sp_TooMany_InvalidRing => k_is); (case sp_TooMany_InvalidWeb => k_is); (case sp_TooMany_InvalidOperation => k_is); (case sp_TooMany_TooMany => k_is); (case ti__law_right => exact rfl); (case ti_law => exact rfl); (case hc__law_right => kernel_rfl); (case nt__law_right => first | rfl | kernel_rfl); (case te__law_right => exact PySem.W.km_tabs_of Y _ (by k_mem)); (case hc_law => kernel_rfl); (case nt_law => first | rfl | kernel_rfl); (case te_law => exact PySem.W.km_tabs_of Y _ (by k_mem)); (case pne_36_37 => decide)
