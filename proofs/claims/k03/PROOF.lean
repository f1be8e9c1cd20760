import PyProof.Rows.All
import Wide.All
import OpenK.AllK
import Wide.FinOn
import HandS.ForMost
import HandS.ExcCtx
import HandS.CallSlots
import HandS.Wide
import HandS.WideBits
import HandS.Deep
import HandS.IsInst
import HandS.TupAny
import HandS.TupMul
import HandS.Style
import HandS.ReCall
import HandS.Strs
import HandS.More
import HandS.Ends
import HandS.Dict
import KE.DataFind
import HandS.Head0
import HandS.Head1
import HandS.Head2
import HandS.HeadEnd
import HandS.HeadHook1
import HandS.HeadHook2
import HandS.HeadHook3
import HandS.HeadHook4
import KE.KExcIs
import KE.KMathG
import PyProof.TupleOfStr
import HandS.Replace
import HandS.FStr
import PyProof.Rows.StrRev
import HandS.Set
import HandS.SortInts
import PyProof.Rows.SortKeyStr
import KE.DataMinMax
import HandS.Iter
import HandS.Zip
import HandS.TupSets
import PyProof.SeqIndex
import KE.DatumIndex
import HandS.HotCalls
import HandS.GenList
import PySem.Challenge.RW_frontback_k03_errors_of_rows
set_option Elab.async false
set_option linter.all false
set_option maxRecDepth 100000
/-! FWT: tuples whose object is known (no dict of its own), so that its methods may be called -/
namespace FB
open PySem PySem.Spec L2
abbrev tObj (its : List Value) : Obj := { cls := .type "tuple", data := .seq its.toArray }
def NoD (K : PySem.W.Frag) (F : Hp) (a : Addr) : Prop := (∃ its u, F a = some (.frz (tObj its) u)) ∨ ∃ o, K.lookup a = some o ∧ o.dict = none
def NewT (H : Hp) (xs : List V) (Q : VK) : Prop := ∀ p its, H p = none → Q (.ref p) (upd H p (.frz (tObj its) (.tup xs)))
section
variable {X : Cx} {pins : List (Addr × Obj)} {σ : St} {H : Hp} {s : Shared} {xs : List V} {its : List Value} {Q : VK}
theorem ep_newT {tk : Nat} (I : Inv X pins σ H s) (r : Vals xs its) (z : xs.length ≤ sizeLine) (q : NewT H xs Q) : EP X pins σ Q (.ref s.heap.objs.size) { s with heap := s.heap.push (tObj its), toks := tk } :=
  ⟨.ref s.heap.objs.size, _, I.laid (o := .frz (tObj its) (.tup xs)) (fun b ob e => Heap.get?_push_of_some _ e) (Nat.le_refl _) (show ObjOk X.prog X.w _ _ _ (.frz (tObj its) (.tup xs)) from ⟨Heap.get?_push_size _ rfl, z, its, r, PyProof.Rows.IsTup.new _ _⟩), rfl, q _ its (I.hok.fresh (Nat.le_refl _))⟩
/-- (a, b, ..) -/
def tTupN (t : TA) : TE := fun σ H Q => t σ H fun xs H1 => xs.length ≤ sizeLine ∧ NewT H1 xs Q
theorem pe_tupN {es : List Expr} {t : TA} {pos : Pos} {x1} (h : PA X es t) : PE X (.Tuple es x1 pos) (tTupN t) := ⟨fun pins s σ H Q I hq =>
  wpAny_Tuple_spliced (thn (h.run pos pins s σ H _ I hq) fun us s1 ⟨xs, H1, I1, r, z, q⟩ => ⟨by rw [← r.length]; exact z, ep_newT I1 r z q⟩)⟩
/-- t + u -/
def rCatN (K : PySem.W.Frag) : R2 := fun x y H Q => ∃ a b xs ys, x = .ref a ∧ y = .ref b ∧ SqT K H a xs ∧ SqT K H b ys ∧ xs.length + ys.length ≤ sizeLine ∧ (xs = [] → Q (.ref b) H) ∧ (xs ≠ [] → ys = [] → Q (.ref a) H) ∧ (xs ≠ [] → ys ≠ [] → NewT H (xs ++ ys) Q)
theorem op_catN : OpR X (binaryOp .Add) (rCatN X.K) := by
  intro pins s σ H x y v u Q I rx ry h
  obtain ⟨a, b, xs, ys, rfl, rfl, ha, hb, hz, q0, q1, q2⟩ := h
  cases rx; cases ry
  obtain ⟨its, r1, p1, _⟩ := I.tuple ha
  obtain ⟨its2, r2, p2, _⟩ := I.tuple hb
  by_cases hx : xs = []
  · subst hx
    cases r1
    exact cat_tup0 p1 p2 ⟨.ref b, H, I, rfl, q0 rfl⟩
  · exact HT.cat_tup p1 p2 (fun z => hx (r1.nil_iff.mp z)) (fun z => ⟨.ref a, H, I, rfl, q1 hx (r2.nil_iff.mp z)⟩) (fun z => ep_newT (tk := s.toks) I (r1.append r2) (by rw [List.length_append]; exact hz) (q2 hx fun w => z (r2.nil_iff.mpr w))) (by rw [← r1.length, ← r2.length]; exact hz)
/-- t[lo:hi] -/
def rSlN (K : PySem.W.Frag) : V → Option Int → Option Int → Hp → VK → Prop := fun x lo hi H Q => ∃ a xs, x = .ref a ∧ SqT K H a xs ∧
  (HT.sIx xs.length 0 lo = 0 ∧ HT.sIx xs.length xs.length hi = xs.length → Q (.ref a) H) ∧ (¬ (HT.sIx xs.length 0 lo = 0 ∧ HT.sIx xs.length xs.length hi = xs.length) → NewT H (cutV xs lo hi) Q)
theorem sl_tupN : SlR X (rSlN X.K) := by
  intro pins s σ H x v vl vu lo hi sl Q I rx hs pl pu h
  obtain ⟨a, xs, rfl, hx, q1, q2⟩ := h
  cases rx
  obtain ⟨its, r, ht, hz⟩ := I.tuple hx
  have hlen : its.toArray.size = xs.length := List.size_toArray.trans r.length.symm
  refine ⟨"tuple", _, PyProof.Rows.slot_tuple_getitem.lookup, ht.typeIs, ?_⟩
  by_cases hw : HT.sIx xs.length 0 lo = 0 ∧ HT.sIx xs.length xs.length hi = xs.length
  · exact getItem_tuple_whole ht hs pl pu (by rwa [hlen]) ⟨.ref a, H, I, rfl, q1 hw⟩
  · refine HT.getItem_tuple_cut ht hs pl pu (by rwa [hlen]) ?_ (by rwa [hlen])
    rw [hlen]
    exact ep_newT (tk := s.toks) I ((r.drop (HT.sIx xs.length 0 lo)).take (HT.sIx xs.length xs.length hi - HT.sIx xs.length 0 lo)) (Nat.le_trans (cutV_length xs lo hi) hz) (q2 hw)
/-- tuple(xs) -/
def rTupN (K : PySem.W.Frag) : List V → Hp → VK → Prop := fun xs H Q => ∃ p ys, xs = [.ref p] ∧ ((SqL K H p ys ∧ NewT H ys Q) ∨ (SqT K H p ys ∧ Q (.ref p) H))
theorem call_tupleN : CallR X (.type "tuple") (rTupN X.K) := by
  intro pins s σ H xs us Q I r h
  obtain ⟨p, ys, rfl, h⟩ := h
  obtain ⟨u, rfl, rx⟩ := vals1 r
  cases rx
  rcases h with ⟨hq, q⟩ | ⟨hq, q⟩
  · obtain ⟨its, r2, pl, hz⟩ := I.list hq
    have hlen := r2.length
    exact call_tuple_list pl.isList (fun h' kp => ep_newT (s := { s with heap := h' }) (tk := s.toks) (I.kept (t' := s.toks) kp) r2 hz q) (by simp only [List.size_toArray] <;> omega)
  · obtain ⟨its, r2, pl, hz⟩ := I.tuple hq
    exact call_tuple_same pl ⟨.ref p, H, I, rfl, q⟩
theorem ty_tup : TyOk X "tuple" fun x H => ∃ a xs, x = .ref a ∧ SqT X.K H a xs ∧ NoD X.K H a := by
  intro pins σ H s x v I r ty
  obtain ⟨a, xs, rfl, ht, nd⟩ := ty
  cases r
  obtain ⟨its, _, p1, _⟩ := I.tuple ht
  refine ⟨p1.typeIs, fun b e => ?_⟩
  cases e
  rcases nd with ⟨its2, u, e⟩ | ⟨o, e, d⟩
  · obtain ⟨e1, _⟩ := I.hok _ _ e
    exact ⟨_, e1, rfl⟩
  · exact ⟨o, I.kIn a o e, d⟩
theorem ty_lst : TyOk X "list" fun x H => ∃ a xs, x = .ref a ∧ SqL X.K H a xs := by
  intro pins σ H s x v I r ty
  obtain ⟨a, xs, rfl, ht⟩ := ty
  exact tyV_is I r (.inl ⟨rfl, xs, ht⟩)
theorem ty_str : TyOk X "str" fun x H => ∃ z, x = .str z := by
  intro pins σ H s x v I r ty
  obtain ⟨z, rfl⟩ := ty
  exact tyV_is (T := "str") (H := H) I r rfl
end
end FB
namespace FBT
open PySem PySem.Spec PyProof.Rows
theorem rmul_listW (a : Int) (t : Tok) (l : Addr) (items : Array Value) (n : Nat) (dd : Option Addr) (sl : Array (Option Value)) :
    Meets (Builtin.«int.__rmul__» ⟨[.int a t, .ref l], []⟩) (fun _ R s => s.heap.get? l = some { cls := .type "list", dict := dd, data := .seq items n, slots := sl } ∧ R (.ok (.ret Value.notImplemented)) s) :=
  .of_wp fun prog w A R s h => by obtain ⟨hp, g, d, tk, os⟩ := s; obtain ⟨hl, h⟩ := h; wp_walk using wpAny_loadPart' hl; exact ⟨_, rfl, h⟩
theorem mul_listW (l : Addr) (items : Array Value) (n : Nat) (dd : Option Addr) (sl : Array (Option Value)) (x : Int) (u : Tok) (hc0 : ¬(!Builtin.List.listFitsIndex x) = true) (hc1 : ¬items.size * x.toNat > (2 ^ 63 - 1) / 8) (hc2 : ¬Builtin.List.listTooLong (items.size * x.toNat) = true) :
    Meets (Builtin.«list.__mul__» ⟨[.ref l, .int x u], []⟩) (fun _ R s => s.heap.get? l = some { cls := .type "list", dict := dd, data := .seq items n, slots := sl } ∧ R (.ok (.ret (Value.ref s.heap.objs.size))) { s with heap := s.heap.push { cls := Value.type "list", data := Data.seq (List.foldl (fun x1 x2 => x1 ++ x2) #[] (List.replicate (if items.isEmpty = true then 0 else x.toNat) items)) }, toks := s.toks }) :=
  .of_wp fun prog w A R s h => by
    obtain ⟨hp, g, d, tk, os⟩ := s; obtain ⟨hl, h⟩ := h
    have hsz := AutoListH.joined_fits hc2
    have f1 := AutoSeq1.idx_int
    wp_walk using wpAny_loadPart' hl
    repeat (first | (refine wpAny_ite_false (decide_eq_false hc0) ?_; wp_walk using wpAny_loadPart' hl) | (refine wpAny_ite_false (decide_eq_false hc1) ?_; wp_walk using wpAny_loadPart' hl) | (refine wpAny_ite_false (decide_eq_false hc2) ?_; wp_walk using wpAny_loadPart' hl) | (refine wpAny_ite_false (decide_eq_false (Nat.not_lt.mpr hsz)) ?_; wp_walk using wpAny_loadPart' hl))
    exact ⟨_, rfl, h⟩
end FBT
/-! FB: what a piece of the program evaluates to, over data (PyData), with the lists that a def builds itself kept apart. -/
namespace FB
open PySem PySem.Spec L2

abbrev D := PyData
def kD : Key → D
  | .inl i => .int i
  | .inr x => .str x

/-! ### an exception object, as a value -/
def ErO (C a : Addr) : HO := .ext fun h => ∃ ox, PySem.W.InstAt h a ox C none
/-- the word of an exception of the class e among data (no data of a program are these) -/
@[reducible] def excD (e : Str) : D := .dict [(.none, .str e)]
def isExc : D → Bool
  | .dict ((.none, _) :: _) => true
  | .dict ((.bool _, _) :: _) => true
  | _ => false
/-- the word of a pair that zip gives (for a target of two names alone) -/
@[reducible] def zpD (x y : D) : D := .dict [(.bool true, x), (.bool false, y)]

/-! ### a value stands for data -/
mutual
inductive DR (K : PySem.W.Frag) (F : Hp) : V → D → Prop
  | non : DR K F .non .none
  | bl (b : Bool) : DR K F (.bl b) (.bool b)
  | int (i : Int) : DR K F (.int i) (.int i)
  | str (x : Str) : DR K F (.str x) (.str x)
  | lst {a : Addr} {xs : List V} {ds : List D} : SqL K F a xs → DRs K F xs ds → DR K F (.ref a) (.list ds)
  | tup {a : Addr} {xs : List V} {ds : List D} : SqT K F a xs → NoD K F a → DRs K F xs ds → DR K F (.ref a) (.tuple ds)
  | dic {a : Addr} {kvs : List (Key × V)} {ks : List D} {ds : List D} : F a = some (.dK kvs) → ks = kvs.map (fun p => kD p.1) → DRs K F (kvs.map (·.2)) ds → DR K F (.ref a) (.dict (ks.zip ds))
  | exc {a C : Addr} {e : Str} : PySem.W.nsIn K mainGlobals e = some (some (.ref C)) → F a = some (ErO C a) → DR K F (.ref a) (excD e)
  | zp {a : Addr} {x y : V} {d e : D} : F a = some (.tup [x, y]) → DR K F x d → DR K F y e → DR K F (.ref a) (zpD d e)
inductive DRs (K : PySem.W.Frag) (F : Hp) : List V → List D → Prop
  | nil : DRs K F [] []
  | cons {v : V} {vs : List V} {d : D} {ds : List D} : DR K F v d → DRs K F vs ds → DRs K F (v :: vs) (d :: ds)
end
theorem seqT {K : PySem.W.Frag} {H H' : Hp} {a : Addr} {xs : List V} (e : Same H H') (h : SqT K H a xs) : SqT K H' a xs := by
  rcases h with (h | ⟨o, h⟩) | h
  · exact .inl (.inl (e _ _ h))
  · exact .inl (.inr ⟨o, e _ _ h⟩)
  · exact .inr h
theorem noD {K : PySem.W.Frag} {H H' : Hp} {a : Addr} (e : Same H H') (h : NoD K H a) : NoD K H' a := h.imp (fun ⟨its, u, q⟩ => ⟨its, u, e _ _ q⟩) id
theorem rdS {H H' : Hp} {a : Addr} {u : HO} (e : Same H H') (h : Rd H a u) : Rd H' a u := by
  rcases h with h | ⟨o, h⟩
  · exact .inl (e _ _ h)
  · exact .inr ⟨o, e _ _ h⟩
theorem seqL {K : PySem.W.Frag} {H H' : Hp} {a : Addr} {xs : List V} (e : Same H H') (h : SqL K H a xs) : SqL K H' a xs := h.imp (rdS e) id
mutual
theorem DR.mono {K : PySem.W.Frag} {F F' : Hp} (e : Same F F') : ∀ {v : V} {d : D}, DR K F v d → DR K F' v d
  | _, _, .non => .non
  | _, _, .bl b => .bl b
  | _, _, .int i => .int i
  | _, _, .str x => .str x
  | _, _, .lst h t => .lst (seqL e h) (DRs.mono e t)
  | _, _, .tup h n t => .tup (seqT e h) (noD e n) (DRs.mono e t)
  | _, _, .dic h q t => .dic (e _ _ h) q (DRs.mono e t)
  | _, _, .exc h q => .exc h (e _ _ q)
  | _, _, .zp h p q => .zp (e _ _ h) (DR.mono e p) (DR.mono e q)
theorem DRs.mono {K : PySem.W.Frag} {F F' : Hp} (e : Same F F') : ∀ {vs : List V} {ds : List D}, DRs K F vs ds → DRs K F' vs ds
  | _, _, .nil => .nil
  | _, _, .cons h t => .cons (DR.mono e h) (DRs.mono e t)
end
section
variable {K : PySem.W.Frag} {F F' : Hp} {vs ws : List V} {ds es : List D} {v : V} {d : D}
theorem DRs.length : ∀ {vs : List V} {ds : List D}, DRs K F vs ds → vs.length = ds.length
  | _, _, .nil => rfl
  | _, _, .cons _ t => congrArg (· + 1) (DRs.length t)
theorem DRs.append : ∀ {vs ws : List V} {ds es : List D}, DRs K F vs ds → DRs K F ws es → DRs K F (vs ++ ws) (ds ++ es)
  | _, _, _, _, .nil, s => s
  | _, _, _, _, .cons h t, s => .cons h (DRs.append t s)
theorem DRs.one (h : DR K F v d) : DRs K F [v] [d] := .cons h .nil
theorem DRs.get : ∀ {vs : List V} {ds : List D} {i : Nat} {d : D}, DRs K F vs ds → ds[i]? = some d → ∃ v, vs[i]? = some v ∧ DR K F v d
  | _, _, _, _, .nil, e => by simp at e
  | _, _, 0, _, .cons h t, e => by
    simp at e
    subst e
    exact ⟨_, rfl, h⟩
  | _, _, i + 1, _, .cons h t, e => by
    obtain ⟨v, h1, h2⟩ := DRs.get (i := i) t (by simpa using e)
    exact ⟨v, by simpa using h1, h2⟩
theorem DRs.take : ∀ {vs : List V} {ds : List D} (n : Nat), DRs K F vs ds → DRs K F (vs.take n) (ds.take n)
  | _, _, 0, _ => .nil
  | _, _, n + 1, .nil => .nil
  | _, _, n + 1, .cons h t => .cons h (DRs.take n t)
theorem DRs.drop : ∀ {vs : List V} {ds : List D} (n : Nat), DRs K F vs ds → DRs K F (vs.drop n) (ds.drop n)
  | _, _, 0, h => h
  | _, _, n + 1, .nil => .nil
  | _, _, n + 1, .cons h t => DRs.drop n t
theorem DRs.rev : ∀ {vs : List V} {ds : List D}, DRs K F vs ds → DRs K F vs.reverse ds.reverse
  | _, _, .nil => .nil
  | _, _, .cons h t => by
    rw [List.reverse_cons, List.reverse_cons]
    exact (DRs.rev t).append (.one h)
theorem DRs.set : ∀ {vs : List V} {ds : List D} (i : Nat), DRs K F vs ds → DR K F v d → DRs K F (vs.set i v) (ds.set i d)
  | _, _, _, .nil, _ => .nil
  | _, _, 0, .cons h t, r => .cons r t
  | _, _, i + 1, .cons h t, r => .cons h (DRs.set i t r)
theorem DRs.erase : ∀ {vs : List V} {ds : List D} (i : Nat), DRs K F vs ds → DRs K F (vs.eraseIdx i) (ds.eraseIdx i)
  | _, _, _, .nil => .nil
  | _, _, 0, .cons h t => t
  | _, _, i + 1, .cons h t => .cons h (DRs.erase i t)
end

/-! ### the state of a def -/
/-- a slot: nothing, data that is shared, a list of one's own, a list that the caller lends -/
inductive Slot where
  | no | sh (d : D) | ol (xs : List D) | io (xs : List D)
abbrev Rho := List Slot
/-- a value on the way: data, the list in a slot, a new list -/
inductive Vl where
  | d (d : D) | sl (i : Nat) | nw (xs : List D)
inductive Out (α : Type) where
  | bad | ok (a : α) (ρ : Rho) | exc (e : Str) (ρ : Rho)
def Out.bind {α β : Type} (x : Out α) (f : α → Rho → Out β) : Out β := match x with
  | .bad => .bad
  | .ok a ρ => f a ρ
  | .exc e ρ => .exc e ρ
@[simp] theorem Out.bind_ok {α β : Type} {a : α} {ρ : Rho} {f : α → Rho → Out β} : (Out.ok a ρ).bind f = f a ρ := rfl
@[simp] theorem Out.bind_bad {α β : Type} {f : α → Rho → Out β} : (Out.bad : Out α).bind f = .bad := rfl
@[simp] theorem Out.bind_exc {α β : Type} {e : Str} {ρ : Rho} {f : α → Rho → Out β} : (Out.exc e ρ : Out α).bind f = .exc e ρ := rfl
abbrev ME := Rho → Out Vl
abbrev MB := Rho → Out Bool
abbrev MA := Rho → Out (List Vl)
def own (ρ : Rho) (i : Nat) : Prop := ∃ xs, ρ[i]? = some (.ol xs) ∨ ρ[i]? = some (.io xs)
/-- the frame: the heap at the entry (and what others hold), what was shared then, the lent lists -/
structure Fm where
  H0 : Hp
  F0 : Hp
  io : Nat → Option Addr
structure Rel (K : PySem.W.Frag) (C : Fm) (F : Hp) (ρ : Rho) (σ : St) (H : Hp) : Prop where
  len : ρ.length = σ.length
  sub : Same F H
  f0 : Same C.F0 F
  fz : ∀ b, C.H0 b ≠ none → F b = C.F0 b
  fr : ∀ b o, C.H0 b = some o → (∀ i, C.io i ≠ some b) → H b = some o
  dom : ∀ b, C.H0 b ≠ none → H b ≠ none
  sh : ∀ (i : Nat) d, ρ[i]? = some (.sh d) → ∃ v, σ[i]? = some (some v) ∧ DR K F v d
  ol : ∀ (i : Nat) xs, ρ[i]? = some (.ol xs) → ∃ a vs, σ[i]? = some (some (.ref a)) ∧ C.H0 a = none ∧ F a = none ∧ H a = some (.lst vs) ∧ DRs K F vs xs
  io : ∀ (i : Nat) xs, ρ[i]? = some (.io xs) → ∃ a vs, C.io i = some a ∧ σ[i]? = some (some (.ref a)) ∧ F a = none ∧ H a = some (.lst vs) ∧ DRs K F vs xs
  ios : ∀ (i : Nat) a, C.io i = some a → ∃ xs, ρ[i]? = some (.io xs)
  inj : ∀ (i j : Nat) a, own ρ i → own ρ j → σ[i]? = some (some (.ref a)) → σ[j]? = some (some (.ref a)) → i = j
def VR (K : PySem.W.Frag) (C : Fm) (F H : Hp) (ρ : Rho) (σ : St) (v : V) : Vl → Prop
  | .d d => DR K F v d
  | .sl i => σ[i]? = some (some v)
  | .nw xs => ∃ a vs, v = .ref a ∧ C.H0 a = none ∧ F a = none ∧ H a = some (.lst vs) ∧ DRs K F vs xs ∧ ∀ j, own ρ j → σ[j]? ≠ some (some (.ref a))
/-- read on the spot -/
inductive DT (K : PySem.W.Frag) (F H : Hp) : V → D → Prop
  | dr {v : V} {d : D} : DR K F v d → DT K F H v d
  | cell {a : Addr} {vs : List V} {xs : List D} : H a = some (.lst vs) → DRs K F vs xs → DT K F H (.ref a) (.list xs)
def Slot.data : Option Slot → Option D
  | some (.ol xs) => some (.list xs)
  | some (.io xs) => some (.list xs)
  | some (.sh d) => some d
  | _ => none
def res (ρ : Rho) : Vl → Option D
  | .d d => some d
  | .nw xs => some (.list xs)
  | .sl i => Slot.data ρ[i]?
def hold : Vl → Vl
  | .nw xs => .d (.list xs)
  | u => u

section
variable {K : PySem.W.Frag} {C : Fm} {F F' : Hp} {ρ ρ' : Rho} {σ : St} {H H' : Hp} {v : V} {u : Vl} {d : D} {p : Addr} {o : HO}
theorem Rel.fnone (R : Rel K C F ρ σ H) (h : H p = none) : F p = none := R.sub.free h
theorem Rel.hnone (R : Rel K C F ρ σ H) (h : H p = none) : C.H0 p = none := by
  cases q : C.H0 p with
  | none => rfl
  | some o => exact absurd h (R.dom p (by rw [q]; simp))
theorem same_new {H : Hp} {p : Addr} {o : HO} (h : H p = none) : Same H (upd H p o) := fun b x e => by
  rw [upd_ne (ne_of_none e h)]
  exact e
theorem Rel.ownAt (R : Rel K C F ρ σ H) {i : Nat} (h : own ρ i) : ∃ a vs xs, σ[i]? = some (some (.ref a)) ∧ F a = none ∧ H a = some (.lst vs) ∧ DRs K F vs xs ∧ (ρ[i]? = some (.ol xs) ∨ ρ[i]? = some (.io xs)) := by
  obtain ⟨xs, h | h⟩ := h
  · obtain ⟨a, vs, h1, _, h2, h3, h4⟩ := R.ol i xs h
    exact ⟨a, vs, xs, h1, h2, h3, h4, .inl h⟩
  · obtain ⟨a, vs, _, h1, h2, h3, h4⟩ := R.io i xs h
    exact ⟨a, vs, xs, h1, h2, h3, h4, .inr h⟩
/-- a new object, not shared -/
theorem Rel.alloc (R : Rel K C F ρ σ H) (h : H p = none) : Rel K C F ρ σ (upd H p o) where
  len := R.len
  sub := R.sub.trans (same_new h)
  f0 := R.f0
  fz := R.fz
  fr := fun b x e n => same_new h b x (R.fr b x e n)
  dom := fun b e z => by
    have q := R.dom b e
    cases w : H b with
    | none => exact q w
    | some x => rw [same_new h b x w] at z; cases z
  sh := R.sh
  ol := fun i xs e => by
    obtain ⟨a, vs, h1, h2, h3, h4, h5⟩ := R.ol i xs e
    exact ⟨a, vs, h1, h2, h3, same_new h _ _ h4, h5⟩
  io := fun i xs e => by
    obtain ⟨a, vs, h1, h2, h3, h4, h5⟩ := R.io i xs e
    exact ⟨a, vs, h1, h2, h3, same_new h _ _ h4, h5⟩
  ios := R.ios
  inj := R.inj
/-- a cell that nobody owns becomes shared -/
theorem Rel.share (R : Rel K C F ρ σ H) (h0 : C.H0 p = none) (hf : F p = none) (hp : H p = some o) (hn : ∀ j, own ρ j → σ[j]? ≠ some (some (.ref p))) : Rel K C (upd F p o) ρ σ H where
  len := R.len
  sub := fun b x e => by
    by_cases z : b = p
    · subst z
      rw [upd_same] at e
      cases e
      exact hp
    · rw [upd_ne z] at e
      exact R.sub b x e
  f0 := R.f0.trans (same_new hf)
  fz := fun b e => by
    have z : b ≠ p := fun z => by subst z; exact e h0
    rw [upd_ne z]
    exact R.fz b e
  fr := R.fr
  dom := R.dom
  sh := fun i d e => by
    obtain ⟨v, h1, h2⟩ := R.sh i d e
    exact ⟨v, h1, h2.mono (same_new hf)⟩
  ol := fun i xs e => by
    obtain ⟨a, vs, h1, h2, h3, h4, h5⟩ := R.ol i xs e
    have z : a ≠ p := fun z => by subst z; exact hn i ⟨xs, .inl e⟩ h1
    exact ⟨a, vs, h1, h2, by rw [upd_ne z]; exact h3, h4, h5.mono (same_new hf)⟩
  io := fun i xs e => by
    obtain ⟨a, vs, h1, h1', h3, h4, h5⟩ := R.io i xs e
    have z : a ≠ p := fun z => by subst z; exact hn i ⟨xs, .inr e⟩ h1'
    exact ⟨a, vs, h1, h1', by rw [upd_ne z]; exact h3, h4, h5.mono (same_new hf)⟩
  ios := R.ios
  inj := R.inj
theorem Rel.ownNe (R : Rel K C F ρ σ H) (h : H p = none) : ∀ j, own ρ j → σ[j]? ≠ some (some (.ref p)) := fun j hj e => by
  obtain ⟨a, vs, xs, h1, _, h3, _⟩ := R.ownAt hj
  rw [e] at h1
  cases h1
  rw [h] at h3
  cases h3
/-- a new object, shared at once -/
theorem Rel.allocS (R : Rel K C F ρ σ H) (h : H p = none) : Rel K C (upd F p o) ρ σ (upd H p o) :=
  (R.alloc h).share (R.hnone h) (R.fnone h) upd_same (R.ownNe h)
/-- a new list -/
theorem VR.fresh (R : Rel K C F ρ σ H) (h : H p = none) {vs : List V} {xs : List D} (r : DRs K F vs xs) : VR K C F (upd H p (.lst vs)) ρ σ (.ref p) (.nw xs) :=
  ⟨p, vs, rfl, R.hnone h, R.fnone h, upd_same, r, R.ownNe h⟩
theorem VR.hold (R : Rel K C F ρ σ H) (h : VR K C F H ρ σ v u) : ∃ F', Same F F' ∧ Rel K C F' ρ σ H ∧ VR K C F' H ρ σ v (hold u) := by
  cases u with
  | d d => exact ⟨F, Same.refl F, R, h⟩
  | sl i => exact ⟨F, Same.refl F, R, h⟩
  | nw xs =>
    obtain ⟨a, vs, rfl, h0, hf, ha, r, hn⟩ := h
    exact ⟨_, same_new hf, R.share h0 hf ha hn, .lst (.inl (.inl upd_same)) (r.mono (same_new hf))⟩
/-- is it held, then it stays -/
theorem VR.held (s : Same F F') (h : VR K C F H ρ σ v (FB.hold u)) : VR K C F' H' ρ' σ v (FB.hold u) := by
  cases u with
  | d d => exact DR.mono s h
  | sl i => exact h
  | nw xs => exact DR.mono (K := K) (d := .list xs) s h
theorem VR.res (R : Rel K C F ρ σ H) (h : VR K C F H ρ σ v u) (e : FB.res ρ u = some d) : DT K F H v d := by
  cases u with
  | d d' => cases e; exact .dr h
  | nw xs =>
    cases e
    obtain ⟨a, vs, rfl, _, _, ha, r, _⟩ := h
    exact .cell ha r
  | sl i =>
    have h : σ[i]? = some (some v) := h
    have e : Slot.data ρ[i]? = some d := e
    cases q : ρ[i]? with
    | none => rw [q] at e; cases e
    | some w =>
      rw [q] at e
      cases w with
      | no => cases e
      | sh d' =>
        cases e
        obtain ⟨w, h1, h2⟩ := R.sh i d q
        rw [h1] at h
        cases h
        exact .dr h2
      | ol xs =>
        cases e
        obtain ⟨a, vs, h1, _, _, h4, h5⟩ := R.ol i xs q
        rw [h1] at h
        cases h
        exact .cell h4 h5
      | io xs =>
        cases e
        obtain ⟨a, vs, _, h1, _, h4, h5⟩ := R.io i xs q
        rw [h1] at h
        cases h
        exact .cell h4 h5
end
end FB
namespace FB
open PySem PySem.Spec L2

inductive Fl where
  | nx | bk | ct | rt (u : Vl)
abbrev MS := Rho → Out Fl

def Post {α β : Type} (K : PySem.W.Frag) (mg : Str → Option Value) (W : WX) (C : Fm) (F : Hp) (σ : St) (rel : Hp → Hp → Rho → β → α → Prop) (o : Out α) (Q : β → Hp → Prop) : Prop := match o with
  | .bad => False
  | .ok u ρ => ∀ v F' H', Same F F' → Rel K C F' ρ σ H' → rel F' H' ρ v u → Q v H'
  | .exc e ρ => ∀ cls F' H', Same F F' → Rel K C F' ρ σ H' → mg e = some cls → W cls none σ H'
def tG {α β : Type} (K : PySem.W.Frag) (mg : Str → Option Value) (W : WX) (rel : Fm → St → Hp → Hp → Rho → β → α → Prop) (f : Rho → Out α) : St → Hp → (β → Hp → Prop) → Prop := fun σ H Q =>
  ∃ C F ρ, Rel K C F ρ σ H ∧ Post K mg W C F σ (rel C σ) (f ρ) Q
def relE (K : PySem.W.Frag) (C : Fm) (σ : St) : Hp → Hp → Rho → V → Vl → Prop := fun F H ρ v u => VR K C F H ρ σ v u
def relB (_ : Fm) (_ : St) : Hp → Hp → Rho → Bool → Bool → Prop := fun _ _ _ v u => v = u
inductive VRs (K : PySem.W.Frag) (C : Fm) (F H : Hp) (ρ : Rho) (σ : St) : List V → List Vl → Prop
  | nil : VRs K C F H ρ σ [] []
  | cons {v : V} {vs : List V} {u : Vl} {us : List Vl} : VR K C F H ρ σ v (hold u) → VRs K C F H ρ σ vs us → VRs K C F H ρ σ (v :: vs) (hold u :: us)
def relA (K : PySem.W.Frag) (C : Fm) (σ : St) : Hp → Hp → Rho → List V → List Vl → Prop := fun F H ρ v u => VRs K C F H ρ σ v u
section
variable {α β γ δ : Type} {K : PySem.W.Frag} {mg : Str → Option Value} {W : WX} {C : Fm} {F F1 : Hp} {σ : St} {rel1 : Hp → Hp → Rho → β → α → Prop} {rel2 : Hp → Hp → Rho → δ → γ → Prop} {o : Out α} {k : α → Rho → Out γ} {Q1 : β → Hp → Prop} {Q2 : δ → Hp → Prop}
theorem Post.mono (s : Same F F1) (h : Post K mg W C F σ rel1 o Q1) : Post K mg W C F1 σ rel1 o Q1 := by
  cases o with
  | bad => exact h
  | ok u ρ => exact fun v F' H' s' R r => h v F' H' (s.trans s') R r
  | exc e ρ => exact fun cls F' H' s' R r => h cls F' H' (s.trans s') R r
theorem Post.bind (h : Post K mg W C F σ rel2 (o.bind k) Q2)
    (hk : ∀ u ρ1 x F1 H1, Same F F1 → Rel K C F1 ρ1 σ H1 → rel1 F1 H1 ρ1 x u → Post K mg W C F1 σ rel2 (k u ρ1) Q2 → Q1 x H1) : Post K mg W C F σ rel1 o Q1 := by
  cases o with
  | bad => exact h
  | ok u ρ =>
    have h : Post K mg W C F σ rel2 (k u ρ) Q2 := h
    exact fun v F' H' s R r => hk u ρ v F' H' s R r (h.mono s)
  | exc e ρ => exact h
end

/-- the judgements: an expression, a test, an argument list -/
def SE (X : Cx) (W : WX) (e : Expr) (f : ME) : Prop := PE X e (tG X.K X.mg W (relE X.K) f)
def ST (X : Cx) (W : WX) (e : Expr) (f : MB) : Prop := PT X e (tG X.K X.mg W relB f)
def SW (X : Cx) (W : WX) (e : Expr) (f : MB) : Prop := PW X e (tG X.K X.mg W relB f)
def SA (X : Cx) (W : WX) (es : List Expr) (f : MA) : Prop := PA X es (tG X.K X.mg W (relA X.K) f)
theorem PE.imp {X : Cx} {e : Expr} {t t' : TE} (h : PE X e t) (i : ∀ σ H Q, t' σ H Q → t σ H Q) : PE X e t' := ⟨fun pins s σ H Q I q => h.run pins s σ H Q I (i σ H Q q)⟩
theorem PT.imp {X : Cx} {e : Expr} {t t' : TT} (h : PT X e t) (i : ∀ σ H Q, t' σ H Q → t σ H Q) : PT X e t' := ⟨fun pins s σ H Q I q => h.run pins s σ H Q I (i σ H Q q)⟩
theorem PW.imp {X : Cx} {e : Expr} {t t' : TT} (h : PW X e t) (i : ∀ σ H Q, t' σ H Q → t σ H Q) : PW X e t' := ⟨fun wh pins s σ H Q I q => h.run wh pins s σ H Q I (i σ H Q q)⟩
theorem PA.imp {X : Cx} {es : List Expr} {t t' : TA} (h : PA X es t) (i : ∀ σ H Q, t' σ H Q → t σ H Q) : PA X es t' := ⟨fun pos pins s σ H Q I q => h.run pos pins s σ H Q I (i σ H Q q)⟩
theorem PS.imp {X : Cx} {e : Stmt} {t t' : TS} (h : PS X e t) (i : ∀ D σ H, t' D σ H → t D σ H) : PS X e t' := ⟨fun pins s σ H Q I q => h.run pins s σ H Q I (i Q σ H q)⟩
theorem PSs.imp {X : Cx} {e : List Stmt} {t t' : TS} (h : PSs X e t) (i : ∀ D σ H, t' D σ H → t D σ H) : PSs X e t' := ⟨fun pins s σ H Q I q => h.run pins s σ H Q I (i Q σ H q)⟩

/-! ### names, constants -/
def eVar (i : Nat) : ME := fun ρ => match ρ[i]? with
  | some (.sh d) => .ok (.d d) ρ
  | some (.ol _) => .ok (.sl i) ρ
  | some (.io _) => .ok (.sl i) ρ
  | _ => .bad
def eC (d : D) : ME := fun ρ => .ok (.d d) ρ
section
variable {X : Cx} {W : WX} {pos : Pos}
theorem se_var {i : Nat} {x : Str} (hN : X.N[i]? = some x := by rfl) (hv : Vis X.env.scope x := by first | exact Or.inl rfl | exact Or.inr (Or.inl rfl) | exact Or.inr (Or.inr rfl)) (hd : (x == ("__debug__" : Str)) = false := by decide) (hcd : (x == ("__classdict__" : Str)) = false := by decide) :
    SE X W (.Name x pos) (eVar i) := PE.imp (pe_var hN hv hd hcd) (by
  rintro σ H Q ⟨C, F, ρ, R, h⟩
  unfold eVar at h
  cases q : ρ[i]? with
  | none => rw [q] at h; exact h.elim
  | some w =>
    rw [q] at h
    cases w with
    | no => exact h.elim
    | sh d =>
      obtain ⟨v, h1, h2⟩ := R.sh i d q
      exact ⟨v, h1, h v F H (Same.refl F) R h2⟩
    | ol xs =>
      obtain ⟨a, vs, h1, _⟩ := R.ol i xs q
      exact ⟨_, h1, h _ F H (Same.refl F) R h1⟩
    | io xs =>
      obtain ⟨a, vs, _, h1, _⟩ := R.io i xs q
      exact ⟨_, h1, h _ F H (Same.refl F) R h1⟩)
theorem imp_c {v : V} {d : D} (r : ∀ F, DR X.K F v d) {σ : St} {H : Hp} {Q : VK} (h : tG X.K X.mg W (relE X.K) (eC d) σ H Q) : tC v σ H Q := by
  obtain ⟨C, F, ρ, R, h⟩ := h
  exact h v F H (Same.refl F) R (r F)
theorem se_int {i : Int} {j} : SE X W (.Constant (.int i) j pos) (eC (.int i)) := PE.imp pe_int fun _ _ _ h => imp_c (fun _ => .int i) h
theorem se_bl {b : Bool} {j} : SE X W (.Constant (.bool b) j pos) (eC (.bool b)) := PE.imp pe_bl fun _ _ _ h => imp_c (fun _ => .bl b) h
theorem se_non {j} : SE X W (.Constant .none j pos) (eC .none) := PE.imp pe_non fun _ _ _ h => imp_c (fun _ => .non) h
theorem se_str {x : Str} {j} : SE X W (.Constant (.str x) j pos) (eC (.str x)) := PE.imp pe_str fun _ _ _ h => imp_c (fun _ => .str x) h
/-- a module's constant -/
theorem se_glob {x : Str} {v : V} {u : Value} {d : D} (hm : X.mg x = some u) (r : RelV v u) (hd : ∀ F, DR X.K F v d) (hg : Gl X x := by rfl) (hdb : (x == ("__debug__" : Str)) = false := by decide) : SE X W (.Name x pos) (eC d) :=
  PE.imp (pe_glob hg hm r hdb) fun _ _ _ h => imp_c hd h
end

/-! ### two operands -/
def fin2 (g : D → D → Option Vl) (u w : Vl) (ρ : Rho) : Out Vl := match res ρ u, res ρ w with
  | some x, some y => match g x y with
    | some z => .ok z ρ
    | none => .bad
  | _, _ => .bad
def eOp (g : D → D → Option Vl) (a b : ME) : ME := fun ρ => (a ρ).bind fun u ρ1 => (b ρ1).bind fun w ρ2 => fin2 g (hold u) (hold w) ρ2
def OpD (K : PySem.W.Frag) (r : R2) (g : D → D → Option Vl) : Prop := ∀ (C : Fm) (F : Hp) (ρ : Rho) (σ : St) (H : Hp) (x y : V) (d e : D) (z : Vl) (Q : VK), Rel K C F ρ σ H → DT K F H x d → DT K F H y e → g d e = some z →
  (∀ v F' H', Same F F' → Rel K C F' ρ σ H' → VR K C F' H' ρ σ v z → Q v H') → r x y H Q
section
variable {X : Cx} {W : WX} {pos : Pos} {a b : Expr} {fa fb : ME}
theorem Post.fin2 {K : PySem.W.Frag} {mg : Str → Option Value} {C : Fm} {F : Hp} {σ : St} {ρ : Rho} {H : Hp} {Q : VK} {r : R2} {g : D → D → Option Vl} {x y : V} {u w : Vl} (hg : OpD K r g) (R : Rel K C F ρ σ H) (hx : VR K C F H ρ σ x u) (hy : VR K C F H ρ σ y w)
    (h : Post K mg W C F σ (relE K C σ) (FB.fin2 g u w ρ) Q) : r x y H Q := by
  unfold FB.fin2 at h
  cases q1 : res ρ u with
  | none => rw [q1] at h; exact h.elim
  | some d =>
    cases q2 : res ρ w with
    | none => rw [q1, q2] at h; exact h.elim
    | some e =>
      rw [q1, q2] at h
      cases q3 : g d e with
      | none => simp only [q3] at h; exact h.elim
      | some z =>
        simp only [q3] at h
        exact hg C F ρ σ H x y d e z Q R (hx.res R q1) (hy.res R q2) q3 h
theorem imp_op {r : R2} {g : D → D → Option Vl} (hg : OpD X.K r g) {σ : St} {H : Hp} {Q : VK} (h : tG X.K X.mg W (relE X.K) (eOp g fa fb) σ H Q) :
    tOp r (tG X.K X.mg W (relE X.K) fa) (tG X.K X.mg W (relE X.K) fb) σ H Q := by
  obtain ⟨C, F, ρ, R, h⟩ := h
  refine ⟨C, F, ρ, R, Post.bind h fun u ρ1 x F1 H1 s1 R1 r1 h1 => ?_⟩
  obtain ⟨F2, s2, R2', r2⟩ := VR.hold R1 r1
  refine ⟨C, F2, ρ1, R2', Post.bind (h1.mono s2) fun w ρ2 y F3 H3 s3 R3 r3 h3 => ?_⟩
  obtain ⟨F4, s4, R4, r4⟩ := VR.hold R3 r3
  exact Post.fin2 hg R4 (VR.held (s3.trans s4) r2) r4 (h3.mono s4)
theorem se_op {op : Operator} {r : R2} {g : D → D → Option Vl} (ho : OpR X (binaryOp op) r) (hg : OpD X.K r g) (ha : SE X W a fa) (hb : SE X W b fb) : SE X W (.BinOp a op b pos) (eOp g fa fb) :=
  PE.imp (pe_op ho ha hb) fun _ _ _ h => imp_op hg h
theorem se_cmp {op : CmpOp} {r : R2} {g : D → D → Option Vl} (ho : OpR X (compareOp op) r) (hg : OpD X.K r g) (ha : SE X W a fa) (hb : SE X W b fb) (hm : behindInMarks op b = false := by first | exact nobehind _ (by decide) (by decide) | rfl) :
    SE X W (.Compare a [op] [b] pos) (eOp g fa fb) := PE.imp (pe_cmpR ho ha hb hm) fun _ _ _ h => imp_op hg h
theorem se_ix {r : R2} {g : D → D → Option Vl} (ho : IxR X r) (hg : OpD X.K r g) (ha : SE X W a fa) (hb : SE X W b fb) (hs : PlainIx b := by exact fun _ _ => rfl) : SE X W (.Subscript a b pos) (eOp g fa fb) :=
  PE.imp (pe_ix ho ha hb hs) fun _ _ _ h => imp_op hg h
end
/-! ### tests -/
def Vl.isB : Vl → Option Bool
  | .d (.bool b) => some b
  | _ => none
/-- an expression's bool -/
def bE (a : ME) : MB := fun ρ => (a ρ).bind fun u ρ1 => match u.isB with
  | some b => .ok b ρ1
  | none => .bad
def bNot (a : MB) : MB := fun ρ => (a ρ).bind fun b ρ1 => .ok (!b) ρ1
def bAnd (a b : MB) : MB := fun ρ => (a ρ).bind fun c ρ1 => if c then b ρ1 else .ok false ρ1
def bOr (a b : MB) : MB := fun ρ => (a ρ).bind fun c ρ1 => if c then .ok true ρ1 else b ρ1
/-- a test's bool as a value -/
def eB (a : MB) : ME := fun ρ => (a ρ).bind fun b ρ1 => .ok (.d (.bool b)) ρ1
def eIf (c : MB) (a b : ME) : ME := fun ρ => (c ρ).bind fun t ρ1 => if t then a ρ1 else b ρ1
section
variable {X : Cx} {W : WX} {pos : Pos} {a b c e : Expr} {fa fb : ME} {ga gb gc : MB} {rest : List Expr}
theorem isB_of {K : PySem.W.Frag} {C : Fm} {F H : Hp} {ρ : Rho} {σ : St} {v : V} {u : Vl} {k : Bool} (h : VR K C F H ρ σ v u) (e : u.isB = some k) : v = .bl k := by
  cases u with
  | d d =>
    cases d <;> try cases e
    cases h
    rfl
  | sl i => cases e
  | nw xs => cases e
theorem Post.bE {K : PySem.W.Frag} {mg : Str → Option Value} {C : Fm} {F : Hp} {σ : St} {ρ : Rho} {Q : Bool → Hp → Prop} (h : Post K mg W C F σ (relB C σ) (FB.bE fa ρ) Q) :
    Post K mg W C F σ (relE K C σ) (fa ρ) fun x H1 => ∃ k, x = .bl k ∧ Q k H1 := by
  refine Post.bind h fun u ρ1 x F1 H1 s1 R1 r1 h1 => ?_
  cases q : u.isB with
  | none => simp only [q] at h1; exact h1.elim
  | some k =>
    simp only [q] at h1
    exact ⟨k, isB_of r1 q, h1 k F1 H1 (Same.refl F1) R1 rfl⟩
theorem st_val (h : SE X W e fa) (he : ∀ whole, isTrue e X.env whole = (do let v ← whole; standAt e.pos; holding [v] (truthy v)) := by intro _; rfl) : ST X W e (bE fa) :=
  PT.imp (pt_val h he) fun _ _ _ ⟨C, F, ρ, R, h⟩ => ⟨C, F, ρ, R, Post.bE h⟩
theorem st_cmp {op : CmpOp} {r : R2} {g : D → D → Option Vl} (ho : OpR X (compareOp op) r) (hg : OpD X.K r g) (ha : SE X W a fa) (hb : SE X W b fb) (hm : behindInMarks op b = false := by first | exact nobehind _ (by decide) (by decide) | rfl) :
    ST X W (.Compare a [op] [b] pos) (bE (eOp g fa fb)) := PT.imp (pt_cmpR ho ha hb hm) fun _ _ _ ⟨C, F, ρ, R, h⟩ => imp_op hg ⟨C, F, ρ, R, Post.bE h⟩
theorem st_not (ha : ST X W a ga) : ST X W (.UnaryOp .Not a pos) (bNot ga) := PT.imp (pt_not ha) fun _ _ _ ⟨C, F, ρ, R, h⟩ =>
  ⟨C, F, ρ, R, Post.bind h fun u ρ1 x F1 H1 s1 R1 r1 h1 => by
    cases r1
    exact h1 _ F1 H1 (Same.refl F1) R1 rfl⟩
theorem sw_and1 (ha : ST X W a ga) : SW X W (.BoolOp .And [a] pos) ga := pw_and1 ha
theorem sw_or1 (ha : ST X W a ga) : SW X W (.BoolOp .Or [a] pos) ga := pw_or1 ha
theorem sw_and (ha : ST X W a ga) (hb : SW X W (.BoolOp .And (b :: rest) pos) gb) : SW X W (.BoolOp .And (a :: b :: rest) pos) (bAnd ga gb) := PW.imp (pw_and ha hb) fun _ _ _ ⟨C, F, ρ, R, h⟩ =>
  ⟨C, F, ρ, R, Post.bind h fun u ρ1 x F1 H1 s1 R1 r1 h1 => by
    cases r1
    cases u with
    | true => exact ⟨C, F1, ρ1, R1, h1⟩
    | false => exact h1 _ F1 H1 (Same.refl F1) R1 rfl⟩
theorem sw_or (ha : ST X W a ga) (hb : SW X W (.BoolOp .Or (b :: rest) pos) gb) : SW X W (.BoolOp .Or (a :: b :: rest) pos) (bOr ga gb) := PW.imp (pw_or ha hb) fun _ _ _ ⟨C, F, ρ, R, h⟩ =>
  ⟨C, F, ρ, R, Post.bind h fun u ρ1 x F1 H1 s1 R1 r1 h1 => by
    cases r1
    cases u with
    | true => exact h1 _ F1 H1 (Same.refl F1) R1 rfl
    | false => exact ⟨C, F1, ρ1, R1, h1⟩⟩
theorem st_w (h : SW X W e ga) : ST X W e ga := PW.pt h
/-- a and b, a or b as values: the left a bool -/
def eAnd (a b : ME) : ME := fun ρ => (bE a ρ).bind fun c ρ1 => if c then b ρ1 else .ok (.d (.bool false)) ρ1
def eOr (a b : ME) : ME := fun ρ => (bE a ρ).bind fun c ρ1 => if c then .ok (.d (.bool true)) ρ1 else b ρ1
def eNot (a : ME) : ME := fun ρ => (bE a ρ).bind fun c ρ1 => .ok (.d (.bool !c)) ρ1
theorem bE_bind {α : Type} {f : ME} {k : Bool → Rho → Out α} {ρ : Rho} : (bE f ρ).bind k = (f ρ).bind fun u ρ1 => match u.isB with
    | some b => k b ρ1
    | none => .bad := by
  unfold bE
  cases f ρ with
  | bad => rfl
  | exc e ρ => rfl
  | ok u ρ1 =>
    show ((match u.isB with | some b => Out.ok b ρ1 | none => .bad).bind k) = _
    cases q : u.isB <;> simp [q]
theorem se_one {op} (h : SE X W a fa) : SE X W (.BoolOp op [a] pos) fa := pe_one h
theorem se_and (ha : SE X W a fa) (hb : SE X W (.BoolOp .And (b :: rest) pos) fb) : SE X W (.BoolOp .And (a :: b :: rest) pos) (eAnd fa fb) := PE.imp (pe_and ha hb) fun _ _ _ ⟨C, F, ρ, R, h⟩ => by
  unfold eAnd at h
  rw [bE_bind] at h
  refine ⟨C, F, ρ, R, Post.bind h fun u ρ1 x F1 H1 s1 R1 r1 h1 => ?_⟩
  cases q : u.isB with
  | none => simp only [q] at h1; exact h1.elim
  | some k =>
    simp only [q] at h1
    refine ⟨k, isB_of r1 q, ?_⟩
    cases k with
    | true => exact ⟨C, F1, ρ1, R1, h1⟩
    | false => exact h1 _ F1 H1 (Same.refl F1) R1 (.bl false)
theorem se_or (ha : SE X W a fa) (hb : SE X W (.BoolOp .Or (b :: rest) pos) fb) : SE X W (.BoolOp .Or (a :: b :: rest) pos) (eOr fa fb) := PE.imp (pe_or ha hb) fun _ _ _ ⟨C, F, ρ, R, h⟩ => by
  unfold eOr at h
  rw [bE_bind] at h
  refine ⟨C, F, ρ, R, Post.bind h fun u ρ1 x F1 H1 s1 R1 r1 h1 => ?_⟩
  cases q : u.isB with
  | none => simp only [q] at h1; exact h1.elim
  | some k =>
    simp only [q] at h1
    refine ⟨k, isB_of r1 q, ?_⟩
    cases k with
    | true => exact h1 _ F1 H1 (Same.refl F1) R1 (.bl true)
    | false => exact ⟨C, F1, ρ1, R1, h1⟩
theorem se_not (ha : SE X W a fa) : SE X W (.UnaryOp .Not a pos) (eNot fa) := PE.imp (pe_not ha) fun _ _ _ ⟨C, F, ρ, R, h⟩ => by
  unfold eNot at h
  rw [bE_bind] at h
  refine ⟨C, F, ρ, R, Post.bind h fun u ρ1 x F1 H1 s1 R1 r1 h1 => ?_⟩
  cases q : u.isB with
  | none => simp only [q] at h1; exact h1.elim
  | some k =>
    simp only [q] at h1
    exact ⟨k, isB_of r1 q, h1 _ F1 H1 (Same.refl F1) R1 (.bl _)⟩
theorem se_if (hc : ST X W c gc) (ha : SE X W a fa) (hb : SE X W b fb) : SE X W (.IfExp c a b pos) (eIf gc fa fb) := PE.imp (pe_ifExp hc ha hb) fun _ _ _ ⟨C, F, ρ, R, h⟩ =>
  ⟨C, F, ρ, R, Post.bind h fun u ρ1 x F1 H1 s1 R1 r1 h1 => by
    cases r1
    cases u with
    | true => exact ⟨C, F1, ρ1, R1, h1⟩
    | false => exact ⟨C, F1, ρ1, R1, h1⟩⟩
end
/-- a op b op' c -/
def eChain (g g' : D → D → Option Vl) (a b c : ME) : ME := fun ρ => (a ρ).bind fun u ρ1 => (b ρ1).bind fun w ρ2 => (fin2 g (hold u) (hold w) ρ2).bind fun t ρ3 => match t.isB with
  | some true => (c ρ3).bind fun z ρ4 => fin2 g' (hold w) (hold z) ρ4
  | some false => .ok (.d (.bool false)) ρ3
  | none => .bad
section
variable {X : Cx} {W : WX} {pos : Pos} {a b c : Expr} {fa fb fc : ME}
theorem imp_chain {r r' : R2} {g g' : D → D → Option Vl} (hg : OpD X.K r g) (hg' : OpD X.K r' g') {σ : St} {H : Hp} {Q : VK} (h : tG X.K X.mg W (relE X.K) (eChain g g' fa fb fc) σ H Q) :
    tChain r r' (tG X.K X.mg W (relE X.K) fa) (tG X.K X.mg W (relE X.K) fb) (tG X.K X.mg W (relE X.K) fc) σ H Q := by
  obtain ⟨C, F, ρ, R, h⟩ := h
  refine ⟨C, F, ρ, R, Post.bind h fun u ρ1 x F1 H1 s1 R1 r1 h1 => ?_⟩
  obtain ⟨F2, s2, R2', r2⟩ := VR.hold R1 r1
  refine ⟨C, F2, ρ1, R2', Post.bind (h1.mono s2) fun w ρ2 y F3 H3 s3 R3 r3 h3 => ?_⟩
  obtain ⟨F4, s4, R4, r4⟩ := VR.hold R3 r3
  refine Post.fin2 hg R4 (VR.held (s3.trans s4) r2) r4 (Post.bind (rel1 := relE X.K C σ) (h3.mono s4) fun t ρ5 z F5 H5 s5 R5 r5 h5 => ?_)
  cases q : t.isB with
  | none => simp only [q] at h5; exact h5.elim
  | some k =>
    refine ⟨k, isB_of r5 q, ?_⟩
    cases k with
    | false =>
      simp only [q] at h5
      exact h5 _ F5 H5 (Same.refl F5) R5 (.bl false)
    | true =>
      simp only [q] at h5
      refine ⟨C, F5, ρ5, R5, Post.bind h5 fun z2 ρ6 w2 F6 H6 s6 R6 r6 h6 => ?_⟩
      obtain ⟨F7, s7, R7, r7⟩ := VR.hold R6 r6
      exact Post.fin2 hg' R7 (VR.held ((s5.trans s6).trans s7) r4) r7 (h6.mono s7)
theorem se_chain {op op' : CmpOp} {r r' : R2} {g g' : D → D → Option Vl} (ho : OpR X (compareOp op) r) (ho' : OpR X (compareOp op') r') (hg : OpD X.K r g) (hg' : OpD X.K r' g') (ha : SE X W a fa) (hb : SE X W b fb) (hc : SE X W c fc)
    (hm : lastMarks [op, op'] [b, c] = false := by with_unfolding_all rfl) :
    SE X W (.Compare a [op, op'] [b, c] pos) (eChain g g' fa fb fc) := PE.imp (pe_chain ho ho' ha hb hc hm) fun _ _ _ h => imp_chain hg hg' h
theorem st_chain {op op' : CmpOp} {r r' : R2} {g g' : D → D → Option Vl} (ho : OpR X (compareOp op) r) (ho' : OpR X (compareOp op') r') (hg : OpD X.K r g) (hg' : OpD X.K r' g') (ha : SE X W a fa) (hb : SE X W b fb) (hc : SE X W c fc)
    (hm : lastMarks [op, op'] [b, c] = false := by with_unfolding_all rfl) :
    ST X W (.Compare a [op, op'] [b, c] pos) (bE (eChain g g' fa fb fc)) := PT.imp (pt_chain ho ho' ha hb hc hm) fun _ _ _ ⟨C, F, ρ, R, h⟩ => imp_chain hg hg' ⟨C, F, ρ, R, Post.bE h⟩
end
end FB
namespace FB
open PySem PySem.Spec L2

/-! ### arguments -/
def aNil : MA := fun ρ => .ok [] ρ
def aCons (e : ME) (r : MA) : MA := fun ρ => (e ρ).bind fun u ρ1 => (r ρ1).bind fun us ρ2 => .ok (hold u :: us) ρ2
section
variable {X : Cx} {W : WX} {pos : Pos} {e : Expr} {es : List Expr} {f : ME} {fs : MA}
theorem sa_nil : SA X W [] aNil := PA.imp pa_nil fun σ H Q ⟨C, F, ρ, R, h⟩ => h [] F H (Same.refl F) R .nil
theorem sa_cons (he : SE X W e f) (hr : SA X W es fs) (hs : starEach (e :: es) X.env = (false, eval e X.env) :: starEach es X.env := by rfl) : SA X W (e :: es) (aCons f fs) :=
  PA.imp (pa_cons he hr hs) fun σ H Q ⟨C, F, ρ, R, h⟩ => ⟨C, F, ρ, R, Post.bind h fun u ρ1 x F1 H1 s1 R1 r1 h1 => by
    obtain ⟨F2, s2, R2, r2⟩ := VR.hold R1 r1
    refine ⟨C, F2, ρ1, R2, Post.bind (h1.mono s2) fun us ρ2 xs F3 H3 s3 R3 r3 h3 => ?_⟩
    exact h3 _ F3 H3 (Same.refl F3) R3 (.cons (VR.held s3 r2) r3)⟩
end
/-- data of an argument that is kept: what is one's own becomes shared -/
def keep (u : Vl) (ρ : Rho) : Option (D × Rho) := match u with
  | .d d => some (d, ρ)
  | .nw xs => some (.list xs, ρ)
  | .sl i => match ρ[i]? with
    | some (.sh d) => some (d, ρ)
    | some (.ol xs) => some (.list xs, ρ.set i (.sh (.list xs)))
    | _ => none
def keeps : List Vl → Rho → Option (List D × Rho)
  | [], ρ => some ([], ρ)
  | u :: us, ρ => match keep u ρ with
    | none => none
    | some (d, ρ1) => match keeps us ρ1 with
      | none => none
      | some (ds, ρ2) => some (d :: ds, ρ2)
section
variable {K : PySem.W.Frag} {C : Fm} {F F' : Hp} {ρ ρ' : Rho} {σ : St} {H H' : Hp} {v : V} {u : Vl} {d : D}
theorem get_set_ne {ρ : Rho} {i j : Nat} {w : Slot} (h : i ≠ j) : (ρ.set i w)[j]? = ρ[j]? := List.getElem?_set_ne h
theorem Rel.toSh (R : Rel K C F ρ σ H) {i : Nat} {xs : List D} (e : ρ[i]? = some (.ol xs)) :
    ∃ F' a, Same F F' ∧ Rel K C F' (ρ.set i (.sh (.list xs))) σ H ∧ σ[i]? = some (some (.ref a)) ∧ DR K F' (.ref a) (.list xs) := by
  obtain ⟨a, vs, h1, h0, hf, ha, r⟩ := R.ol i xs e
  have hi : i < ρ.length := (List.getElem?_eq_some_iff.mp e).1
  have hs := same_new (o := HO.lst vs) hf
  have hd : DR K (upd F a (.lst vs)) (.ref a) (.list xs) := .lst (.inl (.inl upd_same)) (r.mono hs)
  have own' : ∀ j, own (ρ.set i (.sh (.list xs))) j → j ≠ i ∧ own ρ j := fun j ⟨ys, q⟩ => by
    by_cases z : j = i
    · subst z
      rw [List.getElem?_set_self hi] at q
      rcases q with q | q <;> cases q
    · rw [List.getElem?_set_ne (Ne.symm z)] at q
      exact ⟨z, ys, q⟩
  have ne : ∀ j, own (ρ.set i (.sh (.list xs))) j → ∀ b, σ[j]? = some (some (.ref b)) → b ≠ a := fun j hj b hb z => by
    subst z
    exact (own' j hj).1 (R.inj j i b (own' j hj).2 ⟨xs, .inl e⟩ hb h1)
  refine ⟨_, a, hs, ⟨by rw [List.length_set]; exact R.len, ?_, R.f0.trans hs, ?_, R.fr, R.dom, ?_, ?_, ?_, ?_, ?_⟩, h1, hd⟩
  · intro b x q
    by_cases z : b = a
    · subst z
      rw [upd_same] at q
      cases q
      exact ha
    · rw [upd_ne z] at q
      exact R.sub b x q
  · intro b q
    have z : b ≠ a := fun z => by subst z; exact q h0
    rw [upd_ne z]
    exact R.fz b q
  · intro j d q
    by_cases z : j = i
    · subst z
      rw [List.getElem?_set_self hi] at q
      cases q
      exact ⟨_, h1, hd⟩
    · rw [List.getElem?_set_ne (Ne.symm z)] at q
      obtain ⟨w, q1, q2⟩ := R.sh j d q
      exact ⟨w, q1, q2.mono hs⟩
  · intro j ys q
    have z : j ≠ i := (own' j ⟨ys, .inl q⟩).1
    have hj := ne j ⟨ys, .inl q⟩
    rw [List.getElem?_set_ne (Ne.symm z)] at q
    obtain ⟨b, ws, q1, q2, q3, q4, q5⟩ := R.ol j ys q
    exact ⟨b, ws, q1, q2, by rw [upd_ne (hj b q1)]; exact q3, q4, q5.mono hs⟩
  · intro j ys q
    have z : j ≠ i := (own' j ⟨ys, .inr q⟩).1
    have hj := ne j ⟨ys, .inr q⟩
    rw [List.getElem?_set_ne (Ne.symm z)] at q
    obtain ⟨b, ws, q1, q2, q3, q4, q5⟩ := R.io j ys q
    exact ⟨b, ws, q1, q2, by rw [upd_ne (hj b q2)]; exact q3, q4, q5.mono hs⟩
  · intro j b q
    obtain ⟨ys, w⟩ := R.ios j b q
    have z : i ≠ j := fun z => by subst z; rw [e] at w; cases w
    exact ⟨ys, by rw [List.getElem?_set_ne z]; exact w⟩
  · exact fun j k b h1 h2 => R.inj j k b (own' j h1).2 (own' k h2).2
theorem VR.keep (R : Rel K C F ρ σ H) (h : VR K C F H ρ σ v u) (e : FB.keep u ρ = some (d, ρ')) : ∃ F', Same F F' ∧ Rel K C F' ρ' σ H ∧ DR K F' v d := by
  cases u with
  | d d' =>
    cases e
    exact ⟨F, Same.refl F, R, h⟩
  | nw xs =>
    cases e
    obtain ⟨F', s, R', r⟩ := VR.hold R h
    exact ⟨F', s, R', r⟩
  | sl i =>
    have h : σ[i]? = some (some v) := h
    unfold FB.keep at e
    cases q : ρ[i]? with
    | none => simp only [q] at e; cases e
    | some w =>
      cases w with
      | no => simp only [q] at e; cases e
      | io xs => simp only [q] at e; cases e
      | sh d' =>
        simp only [q] at e
        cases e
        obtain ⟨w, h1, h2⟩ := R.sh i d q
        rw [h1] at h
        cases h
        exact ⟨F, Same.refl F, R, h2⟩
      | ol xs =>
        simp only [q] at e
        cases e
        obtain ⟨F', a, s, R', h1, r⟩ := R.toSh q
        rw [h1] at h
        cases h
        exact ⟨F', s, R', r⟩
/-- a held value stays through keep -/
theorem VR.heldK (s : Same F F') (h : VR K C F H ρ σ v (FB.hold u)) : VR K C F' H' ρ' σ v (FB.hold u) := VR.held s h
theorem VRs.heldK {vs : List V} {us : List Vl} (s : Same F F') (h : VRs K C F H ρ σ vs us) : VRs K C F' H' ρ' σ vs us := by
  induction h with
  | nil => exact .nil
  | cons h t ih => exact .cons (VR.held s h) ih
theorem VRs.keeps : ∀ {us : List Vl} {vs : List V} {F : Hp} {ρ ρ' : Rho} {ds : List D}, Rel K C F ρ σ H → VRs K C F H ρ σ vs us → FB.keeps us ρ = some (ds, ρ') → ∃ F', Same F F' ∧ Rel K C F' ρ' σ H ∧ DRs K F' vs ds
  | [], _, F, _, _, _, R, h, e => by
    cases h
    cases e
    exact ⟨F, Same.refl F, R, .nil⟩
  | u :: us, _, F, ρ, ρ', ds, R, h, e => by
    cases h with
    | @cons v vs u0 us0 h t =>
      unfold FB.keeps at e
      cases q : FB.keep (hold u0) ρ with
      | none => simp only [q] at e; cases e
      | some p =>
        obtain ⟨d, ρ1⟩ := p
        simp only [q] at e
        cases q2 : FB.keeps us ρ1 with
        | none => simp only [q2] at e; cases e
        | some p2 =>
          obtain ⟨ds', ρ2⟩ := p2
          simp only [q2] at e
          cases e
          obtain ⟨F1, s1, R1, r1⟩ := VR.keep R h q
          obtain ⟨F2, s2, R2, r2⟩ := VRs.keeps R1 (t.heldK s1) q2
          exact ⟨F2, s1.trans s2, R2, .cons (r1.mono s2) r2⟩
end
/-! ### displays -/
def eTup (a : MA) : ME := fun ρ => (a ρ).bind fun us ρ1 => match keeps us ρ1 with
  | some (ds, ρ2) => if ds.length ≤ 1000 then .ok (.d (.tuple ds)) ρ2 else .bad
  | none => .bad
def eLst (a : MA) : ME := fun ρ => (a ρ).bind fun us ρ1 => match keeps us ρ1 with
  | some (ds, ρ2) => if ds.length ≤ 1000 then .ok (.nw ds) ρ2 else .bad
  | none => .bad
theorem le_size {n : Nat} (h : n ≤ 1000) : n ≤ sizeLine := Nat.le_trans h (by decide)
section
variable {X : Cx} {W : WX} {pos : Pos} {es : List Expr} {fs : MA}
theorem se_tup {x1} (h : SA X W es fs) : SE X W (.Tuple es x1 pos) (eTup fs) := PE.imp (pe_tupN h) fun σ H Q ⟨C, F, ρ, R, h⟩ => ⟨C, F, ρ, R, Post.bind h fun us ρ1 xs F1 H1 s1 R1 r1 h1 => by
  cases q : keeps us ρ1 with
  | none => simp only [q] at h1; exact h1.elim
  | some p =>
    obtain ⟨ds, ρ2⟩ := p
    simp only [q] at h1
    obtain ⟨F2, s2, R2, r2⟩ := VRs.keeps R1 r1 q
    by_cases hl : ds.length ≤ 1000
    · rw [if_pos hl] at h1
      refine ⟨le_size (by rw [r2.length]; exact hl), fun p its hp => h1 _ _ _ (s2.trans (same_new (R2.fnone hp))) (R2.allocS hp) (.tup (.inl (.inr ⟨_, upd_same⟩)) (.inl ⟨_, _, upd_same⟩) (r2.mono (same_new (R2.fnone hp))))⟩
    · rw [if_neg hl] at h1
      exact h1.elim⟩
theorem se_lst (h : SA X W es fs) : SE X W (.List es pos) (eLst fs) := PE.imp (pe_lst h) fun σ H Q ⟨C, F, ρ, R, h⟩ => ⟨C, F, ρ, R, Post.bind h fun us ρ1 xs F1 H1 s1 R1 r1 h1 => by
  cases q : keeps us ρ1 with
  | none => simp only [q] at h1; exact h1.elim
  | some p =>
    obtain ⟨ds, ρ2⟩ := p
    simp only [q] at h1
    obtain ⟨F2, s2, R2, r2⟩ := VRs.keeps R1 r1 q
    by_cases hl : ds.length ≤ 1000
    · rw [if_pos hl] at h1
      refine ⟨le_size (by rw [r2.length]; exact hl), fun p hp => h1 _ _ _ s2 (R2.alloc hp) (VR.fresh R2 hp r2)⟩
    · rw [if_neg hl] at h1
      exact h1.elim⟩
end
/-! ### built-in calls by values: the arguments read on the spot -/
inductive DTs (K : PySem.W.Frag) (F H : Hp) : List V → List D → Prop
  | nil : DTs K F H [] []
  | cons {v : V} {vs : List V} {d : D} {ds : List D} : DT K F H v d → DTs K F H vs ds → DTs K F H (v :: vs) (d :: ds)
def ress (ρ : Rho) : List Vl → Option (List D)
  | [] => some []
  | u :: us => match res ρ u, ress ρ us with
    | some d, some ds => some (d :: ds)
    | _, _ => none
theorem VRs.ress {K : PySem.W.Frag} {C : Fm} {F : Hp} {ρ : Rho} {σ : St} {H : Hp} (R : Rel K C F ρ σ H) : ∀ {us : List Vl} {vs : List V} {ds : List D}, VRs K C F H ρ σ vs us → FB.ress ρ us = some ds → DTs K F H vs ds
  | [], _, _, h, e => by
    cases h
    cases e
    exact .nil
  | u :: us, _, ds, h, e => by
    cases h with
    | @cons v vs u0 us0 h t =>
      unfold FB.ress at e
      cases q1 : FB.res ρ (hold u0) with
      | none => simp only [q1] at e; cases e
      | some d =>
        cases q2 : FB.ress ρ us with
        | none => simp only [q1, q2] at e; cases e
        | some ds' =>
          simp only [q1, q2] at e
          cases e
          exact .cons (h.res R q1) (VRs.ress R t q2)
def CallD (K : PySem.W.Frag) (r : List V → Hp → VK → Prop) (g : List D → Option Vl) : Prop := ∀ (C : Fm) (F : Hp) (ρ : Rho) (σ : St) (H : Hp) (xs : List V) (ds : List D) (z : Vl) (Q : VK), Rel K C F ρ σ H → DTs K F H xs ds → g ds = some z →
  (∀ v F' H', Same F F' → Rel K C F' ρ σ H' → VR K C F' H' ρ σ v z → Q v H') → r xs H Q
def fin (g : List D → Option Vl) (us : List Vl) (ρ : Rho) : Out Vl := match ress ρ us with
  | some ds => match g ds with
    | some z => .ok z ρ
    | none => .bad
  | none => .bad
def eBlt (g : List D → Option Vl) (a : MA) : ME := fun ρ => (a ρ).bind fun us ρ1 => fin g us ρ1
section
variable {X : Cx} {W : WX} {pos p : Pos} {x : Str} {e : Expr} {es : List Expr} {fs : MA} {id T : String} {r : List V → Hp → VK → Prop} {g : List D → Option Vl}
theorem Post.fin {K : PySem.W.Frag} {mg : Str → Option Value} {C : Fm} {F : Hp} {σ : St} {ρ : Rho} {H : Hp} {Q : VK} {xs : List V} {us : List Vl} (hg : CallD K r g) (R : Rel K C F ρ σ H) (hx : VRs K C F H ρ σ xs us)
    (h : Post K mg W C F σ (relE K C σ) (FB.fin g us ρ) Q) : r xs H Q := by
  unfold FB.fin at h
  cases q1 : ress ρ us with
  | none => rw [q1] at h; exact h.elim
  | some ds =>
    rw [q1] at h
    cases q2 : g ds with
    | none => simp only [q2] at h; exact h.elim
    | some z =>
      simp only [q2] at h
      exact hg C F ρ σ H xs ds z Q R (hx.ress R q1) q2 h
theorem imp_blt (hg : CallD X.K r g) {σ : St} {H : Hp} {Q : VK} (h : tG X.K X.mg W (relE X.K) (eBlt g fs) σ H Q) : tCB r (tG X.K X.mg W (relA X.K) fs) σ H Q := by
  obtain ⟨C, F, ρ, R, h⟩ := h
  exact ⟨C, F, ρ, R, Post.bind h fun us ρ1 xs F1 H1 s1 R1 r1 h1 => Post.fin hg R1 r1 h1⟩
theorem se_blt (hc : CallR X (.builtin id) r) (hg : CallD X.K r g) (hm : X.mg x = none) (hv : bootBuiltins x = some (.builtin id)) (ha : SA X W (e :: es) fs) (hgl : Gl X x := by rfl) (hn : x ≠ "__name__" := by decide) (hdb : (x == ("__debug__" : Str)) = false := by decide)
    (he : starEach (e :: es) X.env = (false, eval e X.env) :: starEach es X.env := by rfl) (hpl : (backTo pos (starEach es X.env)).any (·.1) = false := by rfl) : SE X W (.Call (.Name x p) (e :: es) [] pos) (eBlt g fs) :=
  PE.imp (pe_callB hc hgl hm hv ha hn hdb he hpl) fun _ _ _ h => imp_blt hg h
theorem se_ty (hc : CallR X (.type T) r) (hg : CallD X.K r g) (hm : X.mg x = none) (hv : bootBuiltins x = some (.type T)) (ha : SA X W (e :: es) fs) (hgl : Gl X x := by rfl) (hn : x ≠ "__name__" := by decide) (hdb : (x == ("__debug__" : Str)) = false := by decide)
    (he : starEach (e :: es) X.env = (false, eval e X.env) :: starEach es X.env := by rfl) (hpl : (backTo pos (starEach es X.env)).any (·.1) = false := by rfl) : SE X W (.Call (.Name x p) (e :: es) [] pos) (eBlt g fs) :=
  PE.imp (pe_callTy hc hgl hm hv ha hn hdb he hpl) fun _ _ _ h => imp_blt hg h
end
/-! ### slices -/
def MO := Rho → Out (Option Int)
def oNone : MO := fun ρ => .ok none ρ
def oSome (a : ME) : MO := fun ρ => (a ρ).bind fun u ρ1 => match u with
  | .d (.int i) => .ok (some i) ρ1
  | _ => .bad
def relO (_ : Fm) (_ : St) : Hp → Hp → Rho → Option Int → Option Int → Prop := fun _ _ _ v u => v = u
def SO (X : Cx) (W : WX) (e : Option Expr) (f : MO) : Prop := PO X e (tG X.K X.mg W relO f)
def SlD (K : PySem.W.Frag) (r : V → Option Int → Option Int → Hp → VK → Prop) (g : D → Option Int → Option Int → Option Vl) : Prop := ∀ (C : Fm) (F : Hp) (ρ : Rho) (σ : St) (H : Hp) (x : V) (d : D) (lo hi : Option Int) (z : Vl) (Q : VK), Rel K C F ρ σ H →
  DT K F H x d → g d lo hi = some z → (∀ v F' H', Same F F' → Rel K C F' ρ σ H' → VR K C F' H' ρ σ v z → Q v H') → r x lo hi H Q
def eSl (g : D → Option Int → Option Int → Option Vl) (a : ME) (l h : MO) : ME := fun ρ => (a ρ).bind fun u ρ1 => (l ρ1).bind fun lo ρ2 => (h ρ2).bind fun hi ρ3 => match res ρ3 (hold u) with
  | some d => match g d lo hi with
    | some z => .ok z ρ3
    | none => .bad
  | none => .bad
section
variable {X : Cx} {W : WX} {pos p2 : Pos} {e : Expr} {lo hi : Option Expr} {f : ME} {fl fh : MO} {r : V → Option Int → Option Int → Hp → VK → Prop} {g : D → Option Int → Option Int → Option Vl}
theorem PO.imp {X : Cx} {e : Option Expr} {t t' : TO} (h : PO X e t) (i : ∀ σ H Q, t' σ H Q → t σ H Q) : PO X e t' := ⟨fun pins s σ H Q I q => h.run pins s σ H Q I (i σ H Q q)⟩
theorem so_none : SO X W none oNone := PO.imp po_none fun σ H Q ⟨C, F, ρ, R, h⟩ => h none F H (Same.refl F) R rfl
theorem so_some (h : SE X W e f) : SO X W (some e) (oSome f) := PO.imp (po_some h) fun σ H Q ⟨C, F, ρ, R, h⟩ => ⟨C, F, ρ, R, Post.bind h fun u ρ1 x F1 H1 s1 R1 r1 h1 => by
  cases u with
  | d d =>
    cases d <;> try exact h1.elim
    rename_i i
    cases r1
    exact ⟨i, rfl, h1 _ F1 H1 (Same.refl F1) R1 rfl⟩
  | sl i => exact h1.elim
  | nw xs => exact h1.elim⟩
theorem se_slice (ho : SlR X r) (hg : SlD X.K r g) (ha : SE X W e f) (hl : SO X W lo fl) (hh : SO X W hi fh) : SE X W (.Subscript e (.Slice lo hi none p2) pos) (eSl g f fl fh) :=
  PE.imp (pe_slice ho ha hl hh) fun σ H Q ⟨C, F, ρ, R, h⟩ => ⟨C, F, ρ, R, Post.bind h fun u ρ1 x F1 H1 s1 R1 r1 h1 => by
    obtain ⟨F2, s2, R2, r2⟩ := VR.hold R1 r1
    refine ⟨C, F2, ρ1, R2, Post.bind (h1.mono s2) fun l ρ3 l' F3 H3 s3 R3 r3 h3 => ?_⟩
    cases r3
    refine ⟨C, F3, ρ3, R3, Post.bind h3 fun k ρ4 k' F4 H4 s4 R4 r4 h4 => ?_⟩
    cases r4
    have r5 : VR X.K C F4 H4 ρ4 σ x (hold u) := VR.held (s3.trans s4) r2
    cases q : res ρ4 (hold u) with
    | none => simp only [q] at h4; exact h4.elim
    | some d =>
      simp only [q] at h4
      cases q2 : g d l k with
      | none => simp only [q2] at h4; exact h4.elim
      | some z =>
        simp only [q2] at h4
        exact hg C F4 ρ4 σ H4 x d l k z Q R4 (r5.res R4 q) q2 h4⟩
end
end FB
namespace FB
open PySem PySem.Spec L2

/-! ### statements -/
def PostS (K : PySem.W.Frag) (mg : Str → Option Value) (W : WX) (C : Fm) (F : Hp) (o : Out Fl) (D : Ends) : Prop := match o with
  | .bad => False
  | .ok .nx ρ => ∀ F' σ' H', Same F F' → Rel K C F' ρ σ' H' → D.nx σ' H'
  | .ok .bk ρ => ∀ F' σ' H', Same F F' → Rel K C F' ρ σ' H' → D.bk σ' H'
  | .ok .ct ρ => ∀ F' σ' H', Same F F' → Rel K C F' ρ σ' H' → D.ct σ' H'
  | .ok (.rt u) ρ => ∀ v F' σ' H', Same F F' → Rel K C F' ρ σ' H' → VR K C F' H' ρ σ' v u → D.rt v H'
  | .exc e ρ => ∀ cls F' σ' H', Same F F' → Rel K C F' ρ σ' H' → mg e = some cls → W cls none σ' H'
def tS (K : PySem.W.Frag) (mg : Str → Option Value) (W : WX) (g : MS) : TS := fun D σ H => ∃ C F ρ, Rel K C F ρ σ H ∧ PostS K mg W C F (g ρ) D
def SS (X : Cx) (W : WX) (s : Stmt) (g : MS) : Prop := PS X s (tS X.K X.mg W g)
def SSs (X : Cx) (W : WX) (s : List Stmt) (g : MS) : Prop := PSs X s (tS X.K X.mg W g)
section
variable {α β : Type} {K : PySem.W.Frag} {mg : Str → Option Value} {W : WX} {C : Fm} {F F1 : Hp} {σ : St} {o : Out α} {D : Ends}
theorem PostS.mono {o : Out Fl} (s : Same F F1) (h : PostS K mg W C F o D) : PostS K mg W C F1 o D := by
  cases o with
  | bad => exact h
  | exc e ρ => exact fun cls F' σ' H' s' R r => h cls F' σ' H' (s.trans s') R r
  | ok f ρ => cases f with
    | nx => exact fun F' σ' H' s' R => h F' σ' H' (s.trans s') R
    | bk => exact fun F' σ' H' s' R => h F' σ' H' (s.trans s') R
    | ct => exact fun F' σ' H' s' R => h F' σ' H' (s.trans s') R
    | rt u => exact fun v F' σ' H' s' R r => h v F' σ' H' (s.trans s') R r
/-- an expression ahead of what follows in a statement -/
theorem PostS.bindE {rel1 : Hp → Hp → Rho → β → α → Prop} {k : α → Rho → Out Fl} {Q1 : β → Hp → Prop} (h : PostS K mg W C F (o.bind k) D)
    (hk : ∀ u ρ1 x F1 H1, Same F F1 → Rel K C F1 ρ1 σ H1 → rel1 F1 H1 ρ1 x u → PostS K mg W C F1 (k u ρ1) D → Q1 x H1) : Post K mg W C F σ rel1 o Q1 := by
  cases o with
  | bad => exact h
  | ok u ρ =>
    have h : PostS K mg W C F (k u ρ) D := h
    exact fun v F' H' s R r => hk u ρ v F' H' s R r (h.mono s)
  | exc e ρ => exact fun cls F' H' s R r => h cls F' σ H' s R r
end
def gNx : MS := fun ρ => .ok .nx ρ
def gBk : MS := fun ρ => .ok .bk ρ
def gCt : MS := fun ρ => .ok .ct ρ
def gSeq (a b : MS) : MS := fun ρ => (a ρ).bind fun f ρ1 => match f with
  | .nx => b ρ1
  | f => .ok f ρ1
/-- a value that leaves the def: a list of one's own goes along -/
def retv (u : Vl) (ρ : Rho) : Option (Vl × Rho) := match u with
  | .d d => some (.d d, ρ)
  | .nw xs => some (.nw xs, ρ)
  | .sl i => match ρ[i]? with
    | some (.sh d) => some (.d d, ρ)
    | some (.ol xs) => some (.nw xs, ρ.set i .no)
    | _ => none
def gRet (e : ME) : MS := fun ρ => (e ρ).bind fun u ρ1 => match retv u ρ1 with
  | some (w, ρ2) => .ok (.rt w) ρ2
  | none => .bad
def gDrop (e : ME) : MS := fun ρ => (e ρ).bind fun _ ρ1 => .ok .nx ρ1
def gIf (c : MB) (a b : MS) : MS := fun ρ => (c ρ).bind fun t ρ1 => if t then a ρ1 else b ρ1
def isIo (ρ : Rho) (i : Nat) : Bool := match ρ[i]? with
  | some (.io _) => true
  | _ => false
/-- x = a value: a new list is one's own -/
def setV (i : Nat) (u : Vl) (ρ : Rho) : Option Rho := if isIo ρ i then none else match u with
  | .nw xs => some (ρ.set i (.ol xs))
  | u => match keep u ρ with
    | some (d, ρ1) => some (ρ1.set i (.sh d))
    | none => none
def gSet (i : Nat) (e : ME) : MS := fun ρ => (e ρ).bind fun u ρ1 => match setV i u ρ1 with
  | some ρ2 => .ok .nx ρ2
  | none => .bad
section
variable {K : PySem.W.Frag} {C : Fm} {F F' : Hp} {ρ ρ' : Rho} {σ : St} {H H' : Hp} {v : V} {u : Vl} {d : D} {i : Nat}
theorem Rel.setSh (R : Rel K C F ρ σ H) (hio : isIo ρ i = false) (r : DR K F v d) : Rel K C F (ρ.set i (.sh d)) (σ.set i (some v)) H := by
  have own' : ∀ j, own (ρ.set i (.sh d)) j → j ≠ i ∧ own ρ j := fun j ⟨ys, q⟩ => by
    by_cases z : j = i
    · subst z
      by_cases hj : j < ρ.length
      · rw [List.getElem?_set_self hj] at q
        rcases q with q | q <;> cases q
      · rw [List.getElem?_eq_none (by simpa using hj)] at q
        rcases q with q | q <;> cases q
    · rw [List.getElem?_set_ne (Ne.symm z)] at q
      exact ⟨z, ys, q⟩
  refine ⟨by rw [List.length_set, List.length_set]; exact R.len, R.sub, R.f0, R.fz, R.fr, R.dom, fun j e q => ?_, fun j ys q => ?_, fun j ys q => ?_, fun j a q => ?_, fun j k a h1 h2 e1 e2 => ?_⟩
  · by_cases z : j = i
    · subst z
      have hj : j < ρ.length := by
        have := (List.getElem?_eq_some_iff.mp q).1
        simpa using this
      rw [List.getElem?_set_self hj] at q
      cases q
      exact ⟨v, List.getElem?_set_self (by rw [← R.len]; exact hj), r⟩
    · rw [List.getElem?_set_ne (Ne.symm z)] at q ⊢
      exact R.sh j e q
  · have z := (own' j ⟨ys, .inl q⟩).1
    rw [List.getElem?_set_ne (Ne.symm z)] at q ⊢
    exact R.ol j ys q
  · have z := (own' j ⟨ys, .inr q⟩).1
    rw [List.getElem?_set_ne (Ne.symm z)] at q ⊢
    exact R.io j ys q
  · obtain ⟨ys, w⟩ := R.ios j a q
    have z : i ≠ j := fun z => by subst z; unfold isIo at hio; rw [w] at hio; cases hio
    exact ⟨ys, by rw [List.getElem?_set_ne z]; exact w⟩
  · have z1 := own' j h1
    have z2 := own' k h2
    rw [List.getElem?_set_ne (Ne.symm z1.1)] at e1
    rw [List.getElem?_set_ne (Ne.symm z2.1)] at e2
    exact R.inj j k a z1.2 z2.2 e1 e2
theorem Rel.setNo (R : Rel K C F ρ σ H) (hio : isIo ρ i = false) (x : Option V) : Rel K C F (ρ.set i .no) (σ.set i x) H := by
  have own' : ∀ j, own (ρ.set i .no) j → j ≠ i ∧ own ρ j := fun j ⟨ys, q⟩ => by
    by_cases z : j = i
    · subst z
      by_cases hj : j < ρ.length
      · rw [List.getElem?_set_self hj] at q
        rcases q with q | q <;> cases q
      · rw [List.getElem?_eq_none (by simpa using hj)] at q
        rcases q with q | q <;> cases q
    · rw [List.getElem?_set_ne (Ne.symm z)] at q
      exact ⟨z, ys, q⟩
  refine ⟨by rw [List.length_set, List.length_set]; exact R.len, R.sub, R.f0, R.fz, R.fr, R.dom, fun j e q => ?_, fun j ys q => ?_, fun j ys q => ?_, fun j a q => ?_, fun j k a h1 h2 e1 e2 => ?_⟩
  · by_cases z : j = i
    · subst z
      have hj : j < ρ.length := by
        have := (List.getElem?_eq_some_iff.mp q).1
        simpa using this
      rw [List.getElem?_set_self hj] at q
      cases q
    · rw [List.getElem?_set_ne (Ne.symm z)] at q ⊢
      exact R.sh j e q
  · have z := (own' j ⟨ys, .inl q⟩).1
    rw [List.getElem?_set_ne (Ne.symm z)] at q ⊢
    exact R.ol j ys q
  · have z := (own' j ⟨ys, .inr q⟩).1
    rw [List.getElem?_set_ne (Ne.symm z)] at q ⊢
    exact R.io j ys q
  · obtain ⟨ys, w⟩ := R.ios j a q
    have z : i ≠ j := fun z => by subst z; unfold isIo at hio; rw [w] at hio; cases hio
    exact ⟨ys, by rw [List.getElem?_set_ne z]; exact w⟩
  · have z1 := own' j h1
    have z2 := own' k h2
    rw [List.getElem?_set_ne (Ne.symm z1.1)] at e1
    rw [List.getElem?_set_ne (Ne.symm z2.1)] at e2
    exact R.inj j k a z1.2 z2.2 e1 e2
/-- a slot forgotten, the name's value left -/
theorem Rel.forget (R : Rel K C F ρ σ H) (hio : isIo ρ i = false) : Rel K C F (ρ.set i .no) σ H := by
  have own' : ∀ j, own (ρ.set i .no) j → j ≠ i ∧ own ρ j := fun j ⟨ys, q⟩ => by
    by_cases z : j = i
    · subst z
      by_cases hj : j < ρ.length
      · rw [List.getElem?_set_self hj] at q
        rcases q with q | q <;> cases q
      · rw [List.getElem?_eq_none (by simpa using hj)] at q
        rcases q with q | q <;> cases q
    · rw [List.getElem?_set_ne (Ne.symm z)] at q
      exact ⟨z, ys, q⟩
  refine ⟨by rw [List.length_set]; exact R.len, R.sub, R.f0, R.fz, R.fr, R.dom, fun j e q => ?_, fun j ys q => ?_, fun j ys q => ?_, fun j a q => ?_, fun j k a h1 h2 e1 e2 => ?_⟩
  · by_cases z : j = i
    · subst z
      have hj : j < ρ.length := by
        have := (List.getElem?_eq_some_iff.mp q).1
        simpa using this
      rw [List.getElem?_set_self hj] at q
      cases q
    · rw [List.getElem?_set_ne (Ne.symm z)] at q
      exact R.sh j e q
  · have z := (own' j ⟨ys, .inl q⟩).1
    rw [List.getElem?_set_ne (Ne.symm z)] at q
    exact R.ol j ys q
  · have z := (own' j ⟨ys, .inr q⟩).1
    rw [List.getElem?_set_ne (Ne.symm z)] at q
    exact R.io j ys q
  · obtain ⟨ys, w⟩ := R.ios j a q
    have z : i ≠ j := fun z => by subst z; unfold isIo at hio; rw [w] at hio; cases hio
    exact ⟨ys, by rw [List.getElem?_set_ne z]; exact w⟩
  · have z1 := own' j h1
    have z2 := own' k h2
    exact R.inj j k a z1.2 z2.2 e1 e2
theorem Rel.setOl (R : Rel K C F ρ σ H) (hio : isIo ρ i = false) {xs : List D} (r : VR K C F H ρ σ v (.nw xs)) : Rel K C F (ρ.set i (.ol xs)) (σ.set i (some v)) H := by
  obtain ⟨a, vs, rfl, h0, hf, ha, hr, hn⟩ := r
  have own' : ∀ j, own (ρ.set i (.ol xs)) j → j ≠ i → own ρ j := fun j ⟨ys, q⟩ z => by
    rw [List.getElem?_set_ne (Ne.symm z)] at q
    exact ⟨ys, q⟩
  refine ⟨by rw [List.length_set, List.length_set]; exact R.len, R.sub, R.f0, R.fz, R.fr, R.dom, fun j e q => ?_, fun j ys q => ?_, fun j ys q => ?_, fun j a q => ?_, fun j k b h1 h2 e1 e2 => ?_⟩
  · by_cases z : j = i
    · subst z
      have hj : j < ρ.length := by
        have := (List.getElem?_eq_some_iff.mp q).1
        simpa using this
      rw [List.getElem?_set_self hj] at q
      cases q
    · rw [List.getElem?_set_ne (Ne.symm z)] at q ⊢
      exact R.sh j e q
  · by_cases z : j = i
    · subst z
      have hj : j < ρ.length := by
        have := (List.getElem?_eq_some_iff.mp q).1
        simpa using this
      rw [List.getElem?_set_self hj] at q
      cases q
      exact ⟨a, vs, List.getElem?_set_self (by rw [← R.len]; exact hj), h0, hf, ha, hr⟩
    · rw [List.getElem?_set_ne (Ne.symm z)] at q ⊢
      exact R.ol j ys q
  · by_cases z : j = i
    · subst z
      have hj : j < ρ.length := by
        have := (List.getElem?_eq_some_iff.mp q).1
        simpa using this
      rw [List.getElem?_set_self hj] at q
      cases q
    · rw [List.getElem?_set_ne (Ne.symm z)] at q ⊢
      exact R.io j ys q
  · obtain ⟨ys, w⟩ := R.ios j a q
    have z : i ≠ j := fun z => by subst z; unfold isIo at hio; rw [w] at hio; cases hio
    exact ⟨ys, by rw [List.getElem?_set_ne z]; exact w⟩
  · by_cases z1 : j = i
    · by_cases z2 : k = i
      · rw [z1, z2]
      · subst z1
        rw [List.getElem?_set_ne (Ne.symm z2)] at e2
        have hj : j < σ.length := by
          have := (List.getElem?_eq_some_iff.mp e1).1
          simpa using this
        rw [List.getElem?_set_self hj] at e1
        cases e1
        exact absurd e2 (hn k (own' k h2 z2))
    · by_cases z2 : k = i
      · subst z2
        rw [List.getElem?_set_ne (Ne.symm z1)] at e1
        have hj : k < σ.length := by
          have := (List.getElem?_eq_some_iff.mp e2).1
          simpa using this
        rw [List.getElem?_set_self hj] at e2
        cases e2
        exact absurd e1 (hn j (own' j h1 z1))
      · rw [List.getElem?_set_ne (Ne.symm z1)] at e1
        rw [List.getElem?_set_ne (Ne.symm z2)] at e2
        exact R.inj j k b (own' j h1 z1) (own' k h2 z2) e1 e2
theorem isIo_set {ρ : Rho} {i j : Nat} {w : Slot} (h : isIo ρ i = false) (hw : ∀ xs, w ≠ .io xs) : isIo (ρ.set j w) i = false := by
  unfold isIo at h ⊢
  by_cases z : j = i
  · subst z
    by_cases hj : j < ρ.length
    · rw [List.getElem?_set_self hj]
      cases w with
      | io xs => exact absurd rfl (hw xs)
      | _ => rfl
    · rw [List.getElem?_eq_none (by simpa using hj)]
  · rw [List.getElem?_set_ne z]
    exact h
theorem keep_isIo {ρ ρ' : Rho} {i : Nat} {u : Vl} {d : D} (h : isIo ρ i = false) (e : keep u ρ = some (d, ρ')) : isIo ρ' i = false := by
  cases u with
  | d d' => cases e; exact h
  | nw xs => cases e; exact h
  | sl j =>
    unfold FB.keep at e
    cases q : ρ[j]? with
    | none => simp only [q] at e; cases e
    | some w =>
      cases w with
      | no => simp only [q] at e; cases e
      | io xs => simp only [q] at e; cases e
      | sh d' => simp only [q] at e; cases e; exact h
      | ol xs => simp only [q] at e; cases e; exact isIo_set h fun _ z => by cases z
theorem VR.setV (R : Rel K C F ρ σ H) (h : VR K C F H ρ σ v u) (e : FB.setV i u ρ = some ρ') : ∃ F', Same F F' ∧ Rel K C F' ρ' (σ.set i (some v)) H := by
  unfold FB.setV at e
  cases hio : isIo ρ i with
  | true => rw [hio] at e; cases e
  | false =>
    rw [hio] at e
    cases u with
    | nw xs => cases e; exact ⟨F, Same.refl F, R.setOl hio h⟩
    | d d =>
      cases e
      exact ⟨F, Same.refl F, R.setSh hio h⟩
    | sl j =>
      cases q : FB.keep (.sl j) ρ with
      | none => simp only [q] at e; cases e
      | some p =>
        obtain ⟨d, ρ1⟩ := p
        simp only [q] at e
        cases e
        obtain ⟨F', s, R', r⟩ := VR.keep R h q
        exact ⟨F', s, R'.setSh (keep_isIo hio q) r⟩
theorem VR.retv {w : Vl} (R : Rel K C F ρ σ H) (h : VR K C F H ρ σ v u) (e : FB.retv u ρ = some (w, ρ')) : Rel K C F ρ' σ H ∧ VR K C F H ρ' σ v w := by
  cases u with
  | d d => cases e; exact ⟨R, h⟩
  | nw xs => cases e; exact ⟨R, h⟩
  | sl i =>
    have h : σ[i]? = some (some v) := h
    unfold FB.retv at e
    cases q : ρ[i]? with
    | none => simp only [q] at e; cases e
    | some w =>
      cases w with
      | no => simp only [q] at e; cases e
      | io xs => simp only [q] at e; cases e
      | sh d' =>
        simp only [q] at e
        cases e
        obtain ⟨w, h1, h2⟩ := R.sh i d' q
        rw [h1] at h
        cases h
        exact ⟨R, h2⟩
      | ol xs =>
        simp only [q] at e
        cases e
        have hio : isIo ρ i = false := by unfold isIo; rw [q]
        obtain ⟨a, vs, h1, h0, hf, ha, r⟩ := R.ol i xs q
        rw [h1] at h
        cases h
        refine ⟨R.forget hio, a, vs, rfl, h0, hf, ha, r, fun j ⟨ys, hj⟩ e2 => ?_⟩
        by_cases z : j = i
        · subst z
          rw [List.getElem?_set_self (List.getElem?_eq_some_iff.mp q).1] at hj
          rcases hj with hj | hj <;> cases hj
        · rw [List.getElem?_set_ne (Ne.symm z)] at hj
          exact z (R.inj j i a ⟨ys, hj⟩ ⟨xs, .inl q⟩ e2 h1)
end
section
variable {X : Cx} {W : WX} {pos pos' : Pos} {st : Stmt} {rest a b : List Stmt} {e c : Expr} {f : ME} {g g' : MS} {gc : MB}
theorem sss_nil : SSs X W [] gNx := PSs.imp pss_nil fun D σ H ⟨C, F, ρ, R, h⟩ => h F σ H (Same.refl F) R
theorem imp_seq {D : Ends} {σ : St} {H : Hp} (h : tS X.K X.mg W (gSeq g g') D σ H) : tSeq (tS X.K X.mg W g) (tS X.K X.mg W g') D σ H := by
  obtain ⟨C, F, ρ, R, h⟩ := h
  refine ⟨C, F, ρ, R, ?_⟩
  unfold gSeq at h
  cases q : g ρ with
  | bad => rw [q] at h; exact h.elim
  | exc e ρ1 => rw [q] at h; exact h
  | ok fl ρ1 =>
    rw [q] at h
    cases fl with
    | nx => exact fun F' σ' H' s R' => ⟨C, F', ρ1, R', PostS.mono (o := g' ρ1) s h⟩
    | bk => exact h
    | ct => exact h
    | rt u => exact h
theorem sss_cons (h1 : SS X W st g) (h2 : SSs X W rest g') : SSs X W (st :: rest) (gSeq g g') := PSs.imp (pss_cons h1 h2) fun _ _ _ h => imp_seq h
theorem sss_one (h1 : SS X W st g) : SSs X W [st] g := PSs.imp (pss_one h1) fun _ _ _ h => h
theorem ss_pass : SS X W (.Pass pos) gNx := PS.imp ps_pass fun D σ H ⟨C, F, ρ, R, h⟩ => h F σ H (Same.refl F) R
theorem ss_break : SS X W (.Break pos) gBk := PS.imp ps_break fun D σ H ⟨C, F, ρ, R, h⟩ => h F σ H (Same.refl F) R
theorem ss_continue : SS X W (.Continue pos) gCt := PS.imp ps_continue fun D σ H ⟨C, F, ρ, R, h⟩ => h F σ H (Same.refl F) R
theorem ss_doc {x j p q} : SS X W (.Expr (.Constant (.str x) j p) q) gNx := PS.imp ps_doc fun D σ H ⟨C, F, ρ, R, h⟩ => h F σ H (Same.refl F) R
theorem ss_ret (he : SE X W e f) : SS X W (.Return (some e) pos) (gRet f) := PS.imp (ps_ret he) fun D σ H ⟨C, F, ρ, R, h⟩ => ⟨C, F, ρ, R, PostS.bindE h fun u ρ1 x F1 H1 s1 R1 r1 h1 => by
  cases q : retv u ρ1 with
  | none => simp only [q] at h1; exact h1.elim
  | some p =>
    obtain ⟨w, ρ2⟩ := p
    simp only [q] at h1
    obtain ⟨R2, r2⟩ := VR.retv R1 r1 q
    exact h1 x F1 σ H1 (Same.refl F1) R2 r2⟩
theorem ss_expr (he : SE X W e f) (hs : swapsWith e none pos.line X.env = pure false := by rfl) : SS X W (.Expr e pos) (gDrop f) := PS.imp (ps_expr he hs) fun D σ H ⟨C, F, ρ, R, h⟩ =>
  ⟨C, F, ρ, R, PostS.bindE h fun u ρ1 x F1 H1 s1 R1 r1 h1 => h1 F1 σ H1 (Same.refl F1) R1⟩
theorem ss_if (hc : ST X W c gc) (ha : SSs X W a g) (hb : SSs X W b g') : SS X W (.If c a b pos) (gIf gc g g') := PS.imp (ps_if hc ha hb) fun D σ H ⟨C, F, ρ, R, h⟩ => ⟨C, F, ρ, R, PostS.bindE h fun u ρ1 x F1 H1 s1 R1 r1 h1 => by
  cases r1
  cases u with
  | true => exact ⟨C, F1, ρ1, R1, h1⟩
  | false => exact ⟨C, F1, ρ1, R1, h1⟩⟩
theorem imp_set {i : Nat} {D : Ends} {σ : St} {H : Hp} (h : tS X.K X.mg W (gSet i f) D σ H) : tAsg (tG X.K X.mg W (relE X.K) f) (gName i) D σ H := by
  obtain ⟨C, F, ρ, R, h⟩ := h
  refine ⟨C, F, ρ, R, PostS.bindE h fun u ρ1 x F1 H1 s1 R1 r1 h1 => ?_⟩
  cases q : setV i u ρ1 with
  | none => simp only [q] at h1; exact h1.elim
  | some ρ2 =>
    simp only [q] at h1
    obtain ⟨F2, s2, R2⟩ := VR.setV R1 r1 q
    exact h1 F2 _ H1 s2 R2
theorem ss_set {i : Nat} {x : Str} (hN : X.N.Nodup) (hi : X.N[i]? = some x) (hx : Loc X.env.scope x) (he : SE X W e f) (hs : swapsWith e (some (.Name x pos')) pos.line X.env = pure false := by rfl) (hf : X.fn x = true ∨ X.env.scope.names.lookup x = some .local := by first | exact .inl rfl | exact .inr rfl | assumption) :
    SS X W (.Assign [.Name x pos'] e pos) (gSet i f) := PS.imp (ps_set hN hi hx he hs hf) fun _ _ _ h => imp_set h
end
end FB
namespace FB
open PySem PySem.Spec L2

/-! ### what a def promises -/
def PostF (K : PySem.W.Frag) (mg : Str → Option Value) (C : Fm) (o : Out Vl) (Q : VK) (E : XK) : Prop := match o with
  | .bad => False
  | .ok u ρ => ∀ v F' σ' H', Rel K C F' ρ σ' H' → VR K C F' H' ρ σ' v u → Q v H'
  | .exc e ρ => ∀ cls F' σ' H', Rel K C F' ρ σ' H' → mg e = some cls → E cls none H'
def spOf (K : PySem.W.Frag) (mg : Str → Option Value) (G : List Slot → Out Vl) (n : Nat) : Sp := fun vs H Q E =>
  vs.length = n ∧ ∃ C ρ, C.H0 = H ∧ Rel K C C.F0 ρ (vs.map some) H ∧ PostF K mg C (G ρ) Q E
/-- a body, from the arguments -/
def funG (N : Nat) (g : MS) : List Slot → Out Vl := fun args => match g (args ++ List.replicate (N - args.length) .no) with
  | .ok .nx ρ => .ok (.d .none) ρ
  | .ok (.rt u) ρ => .ok u ρ
  | .ok _ _ => .bad
  | .bad => .bad
  | .exc e ρ => .exc e ρ
section
variable {K : PySem.W.Frag} {C : Fm} {F F' : Hp} {ρ ρ' : Rho} {σ σ' : St} {H H' : Hp}
theorem get_pad {α : Type} {l : List α} {n i : Nat} {z x : α} (h : (l ++ List.replicate n z)[i]? = some x) : l[i]? = some x ∨ x = z := by
  by_cases hi : i < l.length
  · rw [List.getElem?_append_left hi] at h
    exact .inl h
  · rw [List.getElem?_append_right (by omega), List.getElem?_replicate] at h
    split at h
    · cases h
      exact .inr rfl
    · cases h
theorem get_padL {α : Type} {l : List α} {n i : Nat} {z x : α} (h : l[i]? = some x) : (l ++ List.replicate n z)[i]? = some x := by
  rw [List.getElem?_append_left (List.getElem?_eq_some_iff.mp h).1]
  exact h
theorem Rel.pad (R : Rel K C F ρ σ H) (n : Nat) : Rel K C F (ρ ++ List.replicate n .no) (σ ++ List.replicate n none) H := by
  have own' : ∀ j, own (ρ ++ List.replicate n .no) j → own ρ j := fun j ⟨ys, q⟩ => by
    rcases q with q | q
    · rcases get_pad q with q | q
      · exact ⟨ys, .inl q⟩
      · cases q
    · rcases get_pad q with q | q
      · exact ⟨ys, .inr q⟩
      · cases q
  refine ⟨by rw [List.length_append, List.length_append, R.len, List.length_replicate, List.length_replicate], R.sub, R.f0, R.fz, R.fr, R.dom, fun j e q => ?_, fun j ys q => ?_, fun j ys q => ?_, fun j a q => ?_, fun j k a h1 h2 e1 e2 => ?_⟩
  · rcases get_pad q with q | q
    · obtain ⟨v, h1, h2⟩ := R.sh j e q
      exact ⟨v, get_padL h1, h2⟩
    · cases q
  · rcases get_pad q with q | q
    · obtain ⟨a, vs, h1, h2⟩ := R.ol j ys q
      exact ⟨a, vs, get_padL h1, h2⟩
    · cases q
  · rcases get_pad q with q | q
    · obtain ⟨a, vs, h0, h1, h2⟩ := R.io j ys q
      exact ⟨a, vs, h0, get_padL h1, h2⟩
    · cases q
  · obtain ⟨ys, w⟩ := R.ios j a q
    exact ⟨ys, get_padL w⟩
  · have e1' : σ[j]? = some (some (.ref a)) := by
      rcases get_pad e1 with q | q
      · exact q
      · cases q
    have e2' : σ[k]? = some (some (.ref a)) := by
      rcases get_pad e2 with q | q
      · exact q
      · cases q
    exact R.inj j k a (own' j h1) (own' k h2) e1' e2'
theorem map_some_get {α : Type} {l : List α} {i : Nat} {x : Option α} (h : (l.map some)[i]? = some x) : ∃ y, x = some y ∧ l[i]? = some y := by
  rw [List.getElem?_map] at h
  cases q : l[i]? with
  | none => rw [q] at h; cases h
  | some y => rw [q] at h; cases h; exact ⟨y, rfl, rfl⟩
/-- into a def, all arguments shared -/
theorem Rel.enter0 (R : Rel K C F ρ σ H) {vs : List V} {ds : List D} (r : DRs K F vs ds) : Rel K ⟨H, F, fun _ => none⟩ F (ds.map .sh) (vs.map some) H where
  len := by rw [List.length_map, List.length_map, r.length]
  sub := R.sub
  f0 := Same.refl F
  fz := fun _ _ => rfl
  fr := fun _ _ e _ => e
  dom := fun _ e => e
  sh := fun i d e => by
    rw [List.getElem?_map] at e
    cases q : ds[i]? with
    | none => rw [q] at e; cases e
    | some d' =>
      rw [q] at e
      cases e
      obtain ⟨v, h1, h2⟩ := r.get q
      exact ⟨v, by rw [List.getElem?_map, h1]; rfl, h2⟩
  ol := fun i xs e => by
    rw [List.getElem?_map] at e
    cases q : ds[i]? <;> rw [q] at e <;> cases e
  io := fun i xs e => by
    rw [List.getElem?_map] at e
    cases q : ds[i]? <;> rw [q] at e <;> cases e
  ios := fun _ _ e => by cases e
  inj := fun i j a h => by
    obtain ⟨xs, e | e⟩ := h <;> rw [List.getElem?_map] at e <;> cases q : ds[i]? <;> rw [q] at e <;> cases e
theorem Rel.back0 (R : Rel K C F ρ σ H) (R' : Rel K ⟨H, F, fun _ => none⟩ F' ρ' σ' H') : Same F F' ∧ Rel K C F' ρ σ H' := by
  have hF : ∀ b, H b ≠ none → F' b = F b := R'.fz
  have hH : ∀ b o, H b = some o → H' b = some o := fun b o e => R'.fr b o e fun i => by intro z; cases z
  have hs : Same F F' := R'.f0
  refine ⟨hs, R.len, R'.sub, R.f0.trans hs, fun b e => (hF b (R.dom b e)).trans (R.fz b e), fun b o e n => hH b o (R.fr b o e n), fun b e => R'.dom b (R.dom b e), fun i d e => ?_, fun i xs e => ?_, fun i xs e => ?_, R.ios, R.inj⟩
  · obtain ⟨v, h1, h2⟩ := R.sh i d e
    exact ⟨v, h1, h2.mono hs⟩
  · obtain ⟨a, vs, h1, h2, h3, h4, h5⟩ := R.ol i xs e
    exact ⟨a, vs, h1, h2, (hF a (by rw [h4]; simp)).trans h3, hH a _ h4, h5.mono hs⟩
  · obtain ⟨a, vs, h1, h2, h3, h4, h5⟩ := R.io i xs e
    exact ⟨a, vs, h1, h2, (hF a (by rw [h4]; simp)).trans h3, hH a _ h4, h5.mono hs⟩
/-- the contents of a list of one's own -/
def ownL (ρ : Rho) (i : Nat) : Option (List D) := match ρ[i]? with
  | some (.ol xs) => some xs
  | some (.io xs) => some xs
  | _ => none
def putR (ρ : Rho) (i : Nat) (ys : List D) : Rho := match ρ[i]? with
  | some (.ol _) => ρ.set i (.ol ys)
  | some (.io _) => ρ.set i (.io ys)
  | _ => ρ
theorem ownL_own {i : Nat} {xs : List D} (h : ownL ρ i = some xs) : ρ[i]? = some (.ol xs) ∨ ρ[i]? = some (.io xs) := by
  unfold ownL at h
  cases q : ρ[i]? with
  | none => simp only [q] at h; cases h
  | some w => cases w with
    | no => simp only [q] at h; cases h
    | sh d => simp only [q] at h; cases h
    | ol ys => simp only [q] at h; cases h; exact .inl rfl
    | io ys => simp only [q] at h; cases h; exact .inr rfl
/-- an own list's cell is written (anything else kept) -/
theorem Rel.put (R : Rel K C F ρ σ H) {i : Nat} {xs ys : List D} {a : Addr} {vs' : List V} (e : ownL ρ i = some xs) (ha : σ[i]? = some (some (.ref a))) (hs : Same F F') (hsub : Same F' H') (hF : ∀ b, H b ≠ none → F' b = F b) (hH : ∀ b o, H b = some o → b ≠ a → H' b = some o)
    (hd : ∀ b, H b ≠ none → H' b ≠ none) (hn : H' a = some (.lst vs')) (r : DRs K F' vs' ys) : Rel K C F' (putR ρ i ys) σ H' := by
  have hi : i < ρ.length := by
    rcases ownL_own e with q | q <;> exact (List.getElem?_eq_some_iff.mp q).1
  have hput : ∃ w, putR ρ i ys = ρ.set i w ∧ ((ρ[i]? = some (.ol xs) ∧ w = .ol ys) ∨ (ρ[i]? = some (.io xs) ∧ w = .io ys)) := by
    rcases ownL_own e with q | q
    · exact ⟨.ol ys, by unfold putR; rw [q], .inl ⟨q, rfl⟩⟩
    · exact ⟨.io ys, by unfold putR; rw [q], .inr ⟨q, rfl⟩⟩
  obtain ⟨w, e1, hw⟩ := hput
  rw [e1]
  have ownI : own ρ i := ⟨xs, hw.imp (fun q => q.1) fun q => q.1⟩
  have own' : ∀ j, own (ρ.set i w) j → own ρ j := fun j ⟨zs, q⟩ => by
    by_cases z : j = i
    · subst z
      exact ownI
    · rw [List.getElem?_set_ne (Ne.symm z)] at q
      exact ⟨zs, q⟩
  have ne : ∀ j b, j ≠ i → own ρ j → σ[j]? = some (some (.ref b)) → b ≠ a := fun j b z hj hb q => by
    subst q
    exact z (R.inj j i b hj ownI hb ha)
  refine ⟨by rw [List.length_set]; exact R.len, hsub, R.f0.trans hs, fun b q => (hF b (R.dom b q)).trans (R.fz b q), fun b o q n => ?_, fun b q => hd b (R.dom b q), fun j d q => ?_, fun j zs q => ?_, fun j zs q => ?_, fun j b q => ?_, fun j k b h1 h2 => R.inj j k b (own' j h1) (own' k h2)⟩
  · refine hH b o (R.fr b o q n) fun z => ?_
    subst z
    rcases hw with ⟨q2, _⟩ | ⟨q2, _⟩
    · obtain ⟨a', vs, h1, h2, _⟩ := R.ol i xs q2
      rw [ha] at h1
      cases h1
      rw [h2] at q
      cases q
    · obtain ⟨a', vs, h0, h1, _⟩ := R.io i xs q2
      rw [ha] at h1
      cases h1
      exact n i h0
  · by_cases z : j = i
    · subst z
      rw [List.getElem?_set_self hi] at q
      rcases hw with ⟨_, h2⟩ | ⟨_, h2⟩ <;> rw [h2] at q <;> cases q
    · rw [List.getElem?_set_ne (Ne.symm z)] at q
      obtain ⟨v, h1, h2⟩ := R.sh j d q
      exact ⟨v, h1, h2.mono hs⟩
  · by_cases z : j = i
    · subst z
      rw [List.getElem?_set_self hi] at q
      rcases hw with ⟨q2, h2⟩ | ⟨_, h2⟩
      · rw [h2] at q
        cases q
        obtain ⟨a', vs, h1, h2, h3, h4, _⟩ := R.ol j xs q2
        rw [ha] at h1
        cases h1
        exact ⟨a, vs', ha, h2, (hF a (by rw [h4]; simp)).trans h3, hn, r⟩
      · rw [h2] at q
        cases q
    · rw [List.getElem?_set_ne (Ne.symm z)] at q
      obtain ⟨b, vs, h1, h2, h3, h4, h5⟩ := R.ol j zs q
      exact ⟨b, vs, h1, h2, (hF b (by rw [h4]; simp)).trans h3, hH b _ h4 (ne j b z ⟨zs, .inl q⟩ h1), h5.mono hs⟩
  · by_cases z : j = i
    · subst z
      rw [List.getElem?_set_self hi] at q
      rcases hw with ⟨_, h2⟩ | ⟨q2, h2⟩
      · rw [h2] at q
        cases q
      · rw [h2] at q
        cases q
        obtain ⟨a', vs, h0, h1, h3, h4, _⟩ := R.io j xs q2
        rw [ha] at h1
        cases h1
        exact ⟨a, vs', h0, ha, (hF a (by rw [h4]; simp)).trans h3, hn, r⟩
    · rw [List.getElem?_set_ne (Ne.symm z)] at q
      obtain ⟨b, vs, h0, h1, h3, h4, h5⟩ := R.io j zs q
      exact ⟨b, vs, h0, h1, (hF b (by rw [h4]; simp)).trans h3, hH b _ h4 (ne j b z ⟨zs, .inr q⟩ h1), h5.mono hs⟩
  · obtain ⟨zs, q2⟩ := R.ios j b q
    by_cases z : j = i
    · subst z
      rcases hw with ⟨q3, _⟩ | ⟨q3, h3⟩
      · rw [q3] at q2
        cases q2
      · exact ⟨ys, by rw [List.getElem?_set_self hi, h3]⟩
    · exact ⟨zs, by rw [List.getElem?_set_ne (Ne.symm z)]; exact q2⟩
def io1 (a : Addr) : Nat → Option Addr := fun j => if j = 0 then some a else none
theorem Rel.enter1 (R : Rel K C F ρ σ H) {i : Nat} {xs : List D} {a : Addr} (e : ownL ρ i = some xs) (ha : σ[i]? = some (some (.ref a))) {vs : List V} {ds : List D} (r : DRs K F vs ds) :
    Rel K ⟨H, F, io1 a⟩ F (.io xs :: ds.map .sh) ((V.ref a :: vs).map some) H := by
  have hc : ∃ ws, F a = none ∧ H a = some (.lst ws) ∧ DRs K F ws xs := by
    rcases ownL_own e with q | q
    · obtain ⟨a', ws, h1, _, h3, h4, h5⟩ := R.ol i xs q
      rw [ha] at h1
      cases h1
      exact ⟨ws, h3, h4, h5⟩
    · obtain ⟨a', ws, _, h1, h3, h4, h5⟩ := R.io i xs q
      rw [ha] at h1
      cases h1
      exact ⟨ws, h3, h4, h5⟩
  obtain ⟨ws, h3, h4, h5⟩ := hc
  have no : ∀ (j : Nat) (s : Slot), (Slot.io xs :: ds.map .sh)[j + 1]? = some s → ∃ d, s = .sh d ∧ ds[j]? = some d := fun j s q => by
    rw [List.getElem?_cons_succ, List.getElem?_map] at q
    cases w : ds[j]? with
    | none => rw [w] at q; cases q
    | some d => rw [w] at q; cases q; exact ⟨d, rfl, rfl⟩
  have own0 : ∀ j, own (Slot.io xs :: ds.map .sh) j → j = 0 := fun j ⟨ys, q⟩ => by
    cases j with
    | zero => rfl
    | succ j =>
      rcases q with q | q
      · obtain ⟨d, z, _⟩ := no j _ q
        cases z
      · obtain ⟨d, z, _⟩ := no j _ q
        cases z
  refine ⟨by simp [r.length], R.sub, Same.refl F, fun _ _ => rfl, fun _ _ e _ => e, fun _ e => e, fun j d q => ?_, fun j ys q => ?_, fun j ys q => ?_, fun j b q => ?_, fun j k b h1 h2 _ _ => (own0 j h1).trans (own0 k h2).symm⟩
  · cases j with
    | zero => cases q
    | succ j =>
      obtain ⟨d', z, h⟩ := no j _ q
      cases z
      obtain ⟨v, h1, h2⟩ := r.get h
      exact ⟨v, by rw [List.map_cons, List.getElem?_cons_succ, List.getElem?_map, h1]; rfl, h2⟩
  · cases j with
    | zero => cases q
    | succ j =>
      obtain ⟨d', z, h⟩ := no j _ q
      cases z
  · cases j with
    | zero =>
      cases q
      exact ⟨a, ws, rfl, rfl, h3, h4, h5⟩
    | succ j =>
      obtain ⟨d', z, h⟩ := no j _ q
      cases z
  · have q : (if j = 0 then some a else none) = some b := q
    by_cases z : j = 0
    · subst z
      exact ⟨xs, rfl⟩
    · rw [if_neg z] at q
      cases q
theorem Rel.back1 (R : Rel K C F ρ σ H) {i : Nat} {xs ys : List D} {a : Addr} (e : ownL ρ i = some xs) (ha : σ[i]? = some (some (.ref a))) (R' : Rel K ⟨H, F, io1 a⟩ F' ρ' σ' H') (q : ρ'[0]? = some (.io ys)) :
    Same F F' ∧ Rel K C F' (putR ρ i ys) σ H' := by
  obtain ⟨a', vs', h0, h1, h3, h4, h5⟩ := R'.io 0 ys q
  have : a = a' := by
    have h0 : io1 a 0 = some a' := h0
    unfold io1 at h0
    rw [if_pos rfl] at h0
    exact Option.some.inj h0
  subst this
  refine ⟨R'.f0, R.put e ha R'.f0 R'.sub R'.fz (fun b o hb z => R'.fr b o hb fun j w => ?_) R'.dom h4 h5⟩
  have w : (if j = 0 then some a else none) = some b := w
  by_cases zj : j = 0
  · rw [if_pos zj] at w
    cases w
    exact z rfl
  · rw [if_neg zj] at w
    cases w
/-- what comes back -/
theorem VR.back (R : Rel K C F ρ σ H) {io : Nat → Option Addr} {v : V} {u : Vl} (h : VR K ⟨H, F, io⟩ F' H' ρ' σ' v u) (hu : ∀ i, u ≠ .sl i) {ρ2 : Rho} (ho : ∀ j, own ρ2 j → own ρ j) : VR K C F' H' ρ2 σ v u := by
  cases u with
  | d d => exact h
  | sl i => exact absurd rfl (hu i)
  | nw xs =>
    obtain ⟨b, vs, rfl, h0, hf, hb, r, _⟩ := h
    have h0 : H b = none := h0
    refine ⟨b, vs, rfl, R.hnone h0, hf, hb, r, fun j hj e => ?_⟩
    exact R.ownNe h0 j (ho j hj) e
theorem putR_own {i : Nat} {ys : List D} : ∀ j, own (putR ρ i ys) j → own ρ j := fun j ⟨zs, q⟩ => by
  unfold putR at q
  cases w : ρ[i]? with
  | none => rw [w] at q; exact ⟨zs, q⟩
  | some s =>
    rw [w] at q
    cases s with
    | no => exact ⟨zs, q⟩
    | sh d => exact ⟨zs, q⟩
    | ol xs =>
      by_cases z : j = i
      · subst z
        exact ⟨xs, .inl w⟩
      · simp only [List.getElem?_set_ne (Ne.symm z)] at q
        exact ⟨zs, q⟩
    | io xs =>
      by_cases z : j = i
      · subst z
        exact ⟨xs, .inr w⟩
      · simp only [List.getElem?_set_ne (Ne.symm z)] at q
        exact ⟨zs, q⟩
end
/-! ### a def's promise where no repr is under way -/
structure FnG (P : Program) (w : World) (K : PySem.W.Frag) (mg : Str → Option Value) (base : Heap) (k : Nat) (f : Addr) (fd : FuncData) (ps : List Str) (sp : Sp) : Prop where
  len : ∀ vs H Q E, sp vs H Q E → vs.length = ps.length
  run : ∀ (A : Around) (outer : List Env) (s : Shared) (H : Hp) (args : Args) (us : List Value) (vs : List V) (Q : VK) (E : XK), Room k A → A.guards = some [] → Env0 P w K mg base A outer s H → BindsTo s fd args (ps.zip us) → Vals vs us →
    sp vs H Q E → codeAny (model P w) A (.call (.ref f) args) (CR (L2N.CX P w) outer P w H s Q E) s
theorem FnG.mono {P : Program} {w : World} {K : PySem.W.Frag} {mg : Str → Option Value} {base : Heap} {j k : Nat} {f : Addr} {fd : FuncData} {ps : List Str} {sp : Sp} (F : FnG P w K mg base j f fd ps sp) (h : j ≤ k) : FnG P w K mg base k f fd ps sp :=
  ⟨F.len, fun A outer s H args us vs Q E hr => F.run A outer s H args us vs Q E (hr.mono h)⟩
section
variable {X : Cx} {k : Nat} {f : Addr} {fd : FuncData} {ps : List Str} {sp : Sp} {dvs : List V} {ds : List Value} {E : St → XK} {x : Str} {p pos : Pos} {e : Expr} {es : List Expr} {t : TA}
theorem runG {pins : List (Addr × Obj)} {σ : St} {H : Hp} {s : Shared} {Q : VK} {us : List Value} {vs : List V} (F : FnG X.prog X.w X.K X.mg X.base k f fd ps sp) (hr : Room k X.A) (hgd : X.A.guards = some []) (hb : Binds X.K fd ps ds) (hd : Vals dvs ds)
    (hx : PassesAt (L2N.CX X.prog X.w) X σ (E σ)) (I : Inv X pins σ H s) (r : Vals vs us) (h : sp (vs ++ dvs) H Q (E σ)) : wpAny (model X.prog X.w) X.A (call (.ref f) us) (EP X pins σ Q) X.xe s := by
  have ra := r.append hd
  have la : (us ++ ds).length = ps.length := ra.length.symm.trans (F.len _ _ _ _ h)
  have go := F.run X.A X.stack s H ⟨us, []⟩ (us ++ ds) (vs ++ dvs) Q (E σ) hr hgd I.env0 (hb s us I.kIn la) ra h
  refine wpAny_call (codeAny_mono go fun r s' z => ?_)
  match r, z with
  | .error e, z => exact hx pins H s e s' I z
  | .ok (.ret u), z => exact I.after z
theorem pe_callG (F : FnG X.prog X.w X.K X.mg X.base k f fd ps sp) (hr : Room k X.A) (hgd : X.A.guards = some []) (hg : Gl X x) (hm : X.mg x = some (.ref f)) (hk : PySem.W.keepIn X.K (.ref f) = true) (hb : Binds X.K fd ps ds) (hd : Vals dvs ds)
    (hx : ∀ σ, PassesAt (L2N.CX X.prog X.w) X σ (E σ)) (ha : PA X (e :: es) t) (hdb : (x == ("__debug__" : Str)) = false) (he : starEach (e :: es) X.env = (false, eval e X.env) :: starEach es X.env) (hpl : (backTo pos (starEach es X.env)).any (·.1) = false) :
    PE X (.Call (.Name x p) (e :: es) [] pos) (tCallSD sp dvs E t) := ⟨fun pins s σ H Q I h =>
  wpAny_Call_Name_kw (ld_glob I hg hm (PySem.W.callWith_K (h₀ := X.base) I.ok.mod.kin hk (thn (ha.run pos pins s σ H _ I h) fun us s1 ⟨vs, H1, I1, r, q⟩ => ⟨I1.kIn, runG F hr hgd hb hd (hx σ) I1 r q⟩) he hpl) hdb)⟩
theorem pe_callG0 (F : FnG X.prog X.w X.K X.mg X.base k f fd ps sp) (hr : Room k X.A) (hgd : X.A.guards = some []) (hg : Gl X x) (hm : X.mg x = some (.ref f)) (hk : PySem.W.keepIn X.K (.ref f) = true) (hb : Binds X.K fd ps ds) (hd : Vals dvs ds)
    (hx : ∀ σ, PassesAt (L2N.CX X.prog X.w) X σ (E σ)) (hdb : (x == ("__debug__" : Str)) = false) : PE X (.Call (.Name x p) [] [] pos) (tCallSD sp dvs E tNil) := ⟨fun pins s σ H Q I h =>
  wpAny_Call_Name_kw (ld_glob I hg hm (PySem.W.callWith_K0 I.kIn hk (runG (us := []) (vs := []) F hr hgd hb hd (hx σ) I .nil h)) hdb)⟩
end
section
variable {P : Program} {w : World} {K : PySem.W.Frag} {mg : Str → Option Value} {base : Heap}
open PyProof.Rows (envOfC)
/-- a def of the text keeps its promise, by its body -/
theorem fn_ofG {x qual : Str} {st : Stmt} {f : Addr} {fd : FuncData} {N ps : List Str} {k : Nat} {sp : Sp} (F : Fun K x qual st f fd) (S : FnScope N ps (defScope st)) (len : ∀ vs H Q E, sp vs H Q E → vs.length = ps.length)
    (hbody : ∀ (cdv : Value) (A : Around) (outer : List Env) (s : Shared) (H : Hp) (vs : List V) (Q : VK) (E : XK), Room k (A.deeper (envOfC qual (defScope st) s.heap.objs.size f cdv)) → A.guards = some [] → sp vs H Q E →
      ∃ t, PSs (cxOf (L2N.CX P w) P w K mg base N qual (defScope st) f cdv A outer s H E) (defBody st) t ∧ t { nx := fun _ H' => Q .non H', rt := Q } (L2.start N vs) H) : FnG P w K mg base (k + 1) f fd ps sp := by
  obtain ⟨oc, od, kV, doc, pm, an, cdv, ct, osl, ef, lk, hcd⟩ := F.ex
  subst ef
  refine ⟨len, fun A outer s H args us vs Q E hr hgd e0 hb r hsp => ?_⟩
  have KX : K.In s.heap := e0.mod.kin.keeps fun b o z => (e0.bs b o z).1
  have lim : s.heap.NoLimit := e0.mod.nolimit.keeps fun b o z => (e0.bs b o z).1
  have kinds : ∀ y ∈ ps.zip us, (defScope st).names.lookup y.1 = some .local ∨ ((defScope st).names.lookup y.1 = some .cell ∧ ((PySem.cellsFrom (s.heap.objs.size + 1) (defScope st).names []).lookup y.1).isSome = true) := fun y hy =>
    (S.par y.1 (List.of_mem_zip hy).1).imp id fun q => ⟨q, PySem.W.cellsFrom_some _ _ _ (.inl q)⟩
  refine PySem.codeAny_call_function hr.depth (KX _ _ lk) rfl S.co S.gen rfl (PySem.W.codeRec_of KX hcd) (hb _ _ _ _ (PySem.wpAny_newFunctionEnv_cells S.kind kinds fun env he s1 x => ?_))
  subst he
  refine ⟨lim.keeps x.toInCall.keep, PySem.codeAny_func ?_⟩
  obtain ⟨t, ht, hq⟩ := hbody cdv A outer s H vs Q E (hr.deeper _) hgd hsp
  have I := inv_start (CX := L2N.CX P w) (P := P) (E := E) S hr.hd e0 (len _ _ _ _ hsp) r x
  refine wpAny_mono (ht.run [] s1 (L2.start N vs) H _ I hq) (fun fl s' hs => ?_) fun _ _ z => z
  match fl, hs with
  | .ret u, ⟨v, σ', H', J, rv, q⟩ => exact ⟨v, H', J.os, J.bare, J.base, J.hok, rv, q⟩
  | .next, ⟨σ', H', J, q⟩ => exact ⟨.non, H', J.os, J.bare, J.base, J.hok, rfl, q⟩
  | .brk, ⟨_, _, _, q⟩ => exact q.elim
  | .cont, ⟨_, _, _, q⟩ => exact q.elim
end
/-! ### the call of a def -/
theorem VRs.length {K : PySem.W.Frag} {C : Fm} {F H : Hp} {ρ : Rho} {σ : St} : ∀ {vs : List V} {us : List Vl}, VRs K C F H ρ σ vs us → vs.length = us.length
  | _, _, .nil => rfl
  | _, _, .cons _ t => congrArg (· + 1) (VRs.length t)
def backOut (o : Out Vl) (ρ : Rho) : Out Vl := match o with
  | .bad => .bad
  | .ok u _ => match u with
    | .sl _ => .bad
    | .d d => .ok (.d d) ρ
    | .nw xs => .ok (.nw xs) ρ
  | .exc e _ => .exc e ρ
def eCall (G : List Slot → Out Vl) (a : MA) : ME := fun ρ => (a ρ).bind fun us ρ1 => match keeps us ρ1 with
  | none => .bad
  | some (ds, ρ2) => backOut (G (ds.map .sh)) ρ2
def io0 (ρ : Rho) : Option (List D) := match ρ with
  | .io ys :: _ => some ys
  | _ => none
theorem io0_get {ρ : Rho} {ys : List D} (h : io0 ρ = some ys) : ρ[0]? = some (.io ys) := by
  unfold io0 at h
  split at h
  · cases h
    rfl
  · cases h
def backIo (o : Out Vl) (ρ : Rho) (i : Nat) : Out Vl := match o with
  | .bad => .bad
  | .ok u ρ' => match io0 ρ' with
    | some ys => match u with
      | .sl _ => .bad
      | .d d => .ok (.d d) (putR ρ i ys)
      | .nw xs => .ok (.nw xs) (putR ρ i ys)
    | none => .bad
  | .exc e ρ' => match io0 ρ' with
    | some ys => .exc e (putR ρ i ys)
    | none => .bad
def eCallIo (G : List Slot → Out Vl) (a : MA) : ME := fun ρ => (a ρ).bind fun us ρ1 => match us with
  | .sl i :: us' => match keeps us' ρ1 with
    | none => .bad
    | some (ds, ρ2) => match ownL ρ2 i with
      | none => .bad
      | some xs => backIo (G (.io xs :: ds.map .sh)) ρ2 i
  | _ => .bad
theorem passAt {X : Cx} {W : WX} (tk : L2N.Takes X W) : ∀ σ, PassesAt (L2N.CX X.prog X.w) X σ (fun cls d H' => W cls d σ H') := fun σ pins H s e s' I c => tk e s' (L2N.XE.of_call I (fun _ _ _ h => h) c)
theorem passN {X : Cx} : Passes (L2N.CX X.prog X.w) X (fun _ _ _ => False) := fun _ _ _ _ _ _ _ h => by
  obtain ⟨_, _, _, _, _, _, _, _, _, _, _, _, z⟩ := h
  exact z.elim
theorem takesN {X : Cx} : L2N.Takes X (fun _ _ _ _ => False) := fun _ _ x => by
  obtain ⟨_, _, _, _, _, _, _, _, _, _, _, _, _, _, _, _, z⟩ := x
  exact z.elim
section
variable {X : Cx} {W : WX} {k : Nat} {f : Addr} {fd : FuncData} {ps : List Str} {x : Str} {p pos : Pos} {e : Expr} {es : List Expr} {fs : MA} {G : List Slot → Out Vl} {n : Nat}
theorem imp_call {σ : St} {H : Hp} {Q : VK} (h : tG X.K X.mg W (relE X.K) (eCall G fs) σ H Q) (hl : ∀ us ρ, ∀ C F H (vs : List V), VRs X.K C F H ρ σ vs us → fs ρ = .bad ∨ True) (hn : ∀ ρ us ρ1, fs ρ = .ok us ρ1 → us.length = n) :
    tCallSD (spOf X.K X.mg G n) [] (fun σ cls d H' => W cls d σ H') (tG X.K X.mg W (relA X.K) fs) σ H Q := by
  obtain ⟨C, F, ρ, R, h⟩ := h
  refine ⟨C, F, ρ, R, ?_⟩
  unfold eCall at h
  cases q0 : fs ρ with
  | bad => rw [q0] at h; exact h
  | exc e ρ1 => rw [q0] at h; exact h
  | ok us ρ1 =>
    rw [q0] at h
    intro xs F1 H1 s1 R1 r1
    have h1 : Post X.K X.mg W C F σ (relE X.K C σ) (match keeps us ρ1 with
      | none => .bad
      | some (ds, ρ2) => backOut (G (ds.map .sh)) ρ2) Q := h
    cases q : keeps us ρ1 with
    | none => rw [q] at h1; exact h1.elim
    | some p =>
      obtain ⟨ds, ρ2⟩ := p
      rw [q] at h1
      obtain ⟨F2, s2, R2, r2⟩ := VRs.keeps R1 r1 q
      have hlen : xs.length = us.length := VRs.length r1
      refine ⟨by rw [List.append_nil, hlen]; exact hn ρ us ρ1 q0, ⟨H1, F2, fun _ => none⟩, ds.map .sh, rfl, by rw [List.append_nil]; exact R2.enter0 r2, ?_⟩
      have h1 : Post X.K X.mg W C F σ (relE X.K C σ) (backOut (G (ds.map .sh)) ρ2) Q := h1
      unfold PostF
      cases q2 : G (ds.map .sh) with
      | bad => rw [q2] at h1; exact h1.elim
      | ok u ρ' =>
        rw [q2] at h1
        intro v F' σ' H' R' r'
        obtain ⟨s3, R3⟩ := R2.back0 R'
        cases u with
        | sl i => exact h1.elim
        | d d => exact h1 v F' H' ((s1.trans s2).trans s3) R3 r'
        | nw ys => exact h1 v F' H' ((s1.trans s2).trans s3) R3 (VR.back (u := .nw ys) R2 r' (fun _ z => by cases z) fun _ z => z)
      | exc e ρ' =>
        rw [q2] at h1
        intro cls F' σ' H' R' hm
        obtain ⟨s3, R3⟩ := R2.back0 R'
        exact h1 cls F' H' ((s1.trans s2).trans s3) R3 hm
theorem imp_callIo {σ : St} {H : Hp} {Q : VK} (h : tG X.K X.mg W (relE X.K) (eCallIo G fs) σ H Q) (hn : ∀ ρ us ρ1, fs ρ = .ok us ρ1 → us.length = n) :
    tCallSD (spOf X.K X.mg G n) [] (fun σ cls d H' => W cls d σ H') (tG X.K X.mg W (relA X.K) fs) σ H Q := by
  obtain ⟨C, F, ρ, R, h⟩ := h
  refine ⟨C, F, ρ, R, ?_⟩
  unfold eCallIo at h
  cases q0 : fs ρ with
  | bad => rw [q0] at h; exact h
  | exc e ρ1 => rw [q0] at h; exact h
  | ok us ρ1 =>
    rw [q0] at h
    intro xs F1 H1 s1 R1 r1
    have hlen : xs.length = us.length := VRs.length r1
    rw [Out.bind_ok] at h
    have hnn := hn ρ us ρ1 q0
    clear q0
    cases r1 with
    | nil => exact h.elim
    | @cons v vs u0 us0 hv ht =>
      cases q1 : hold u0 with
      | d d => rw [q1] at h; exact h.elim
      | nw ys => rw [q1] at h; exact h.elim
      | sl i =>
        rw [q1] at h hv
        have hv : σ[i]? = some (some v) := hv
        have h1 : Post X.K X.mg W C F σ (relE X.K C σ) (match keeps us0 ρ1 with
          | none => .bad
          | some (ds, ρ2) => match ownL ρ2 i with
            | none => .bad
            | some xs => backIo (G (.io xs :: ds.map .sh)) ρ2 i) Q := h
        cases q : keeps us0 ρ1 with
        | none => rw [q] at h1; exact h1.elim
        | some p =>
          obtain ⟨ds, ρ2⟩ := p
          rw [q] at h1
          obtain ⟨F2, s2, R2, r2⟩ := VRs.keeps R1 ht q
          cases q3 : ownL ρ2 i with
          | none => simp only [q3] at h1; exact h1.elim
          | some ys =>
            simp only [q3] at h1
            obtain ⟨a, rfl⟩ : ∃ a, v = .ref a := by
              rcases ownL_own q3 with w | w
              · obtain ⟨a, vs, h1, _⟩ := R2.ol i ys w
                rw [hv] at h1
                cases h1
                exact ⟨a, rfl⟩
              · obtain ⟨a, vs, _, h1, _⟩ := R2.io i ys w
                rw [hv] at h1
                cases h1
                exact ⟨a, rfl⟩
            refine ⟨by rw [List.append_nil, hlen]; exact hnn, ⟨H1, F2, io1 a⟩, .io ys :: ds.map .sh, rfl, by rw [List.append_nil]; exact R2.enter1 q3 hv r2, ?_⟩
            unfold PostF
            cases q2 : G (.io ys :: ds.map .sh) with
            | bad => rw [q2] at h1; exact h1.elim
            | ok u ρ' =>
              rw [q2] at h1
              intro v F' σ' H' R' r'
              unfold backIo at h1
              cases q4 : io0 ρ' with
              | none => simp only [q4] at h1; exact h1.elim
              | some zs =>
                  simp only [q4] at h1
                  obtain ⟨s3, R3⟩ := R2.back1 q3 hv R' (io0_get q4)
                  cases u with
                  | sl i => exact h1.elim
                  | d d => exact h1 v F' H' ((s1.trans s2).trans s3) R3 r'
                  | nw ws => exact h1 v F' H' ((s1.trans s2).trans s3) R3 (VR.back (u := .nw ws) R2 r' (fun _ z => by cases z) putR_own)
            | exc e ρ' =>
              rw [q2] at h1
              intro cls F' σ' H' R' hm
              unfold backIo at h1
              cases q4 : io0 ρ' with
              | none => simp only [q4] at h1; exact h1.elim
              | some zs =>
                  simp only [q4] at h1
                  obtain ⟨s3, R3⟩ := R2.back1 q3 hv R' (io0_get q4)
                  exact h1 cls F' H' ((s1.trans s2).trans s3) R3 hm
theorem aCons_len {f : ME} {fs : MA} {n : Nat} (h : ∀ ρ us ρ1, fs ρ = .ok us ρ1 → us.length = n) : ∀ ρ us ρ1, aCons f fs ρ = .ok us ρ1 → us.length = n + 1 := fun ρ us ρ1 e => by
  unfold aCons at e
  cases q : f ρ with
  | bad => rw [q] at e; cases e
  | exc e' ρ' => rw [q] at e; cases e
  | ok u ρ' =>
    rw [q, Out.bind_ok] at e
    cases q2 : fs ρ' with
    | bad => rw [q2] at e; cases e
    | exc e' ρ' => rw [q2] at e; cases e
    | ok us' ρ'' =>
      rw [q2, Out.bind_ok] at e
      cases e
      rw [List.length_cons, h _ _ _ q2]
theorem aNil_len : ∀ ρ us ρ1, aNil ρ = .ok us ρ1 → us.length = 0 := fun ρ us ρ1 e => by cases e; rfl
theorem se_call (F : FnG X.prog X.w X.K X.mg X.base k f fd ps (spOf X.K X.mg G n)) (hr : Room k X.A) (hgd : X.A.guards = some []) (hm : X.mg x = some (.ref f)) (hk : PySem.W.keepIn X.K (.ref f) = true) (hb : Binds X.K fd ps []) (tk : L2N.Takes X W)
    (ha : SA X W (e :: es) fs) (hn : ∀ ρ us ρ1, fs ρ = .ok us ρ1 → us.length = n) (hg : Gl X x := by rfl) (hdb : (x == ("__debug__" : Str)) = false := by decide) (he : starEach (e :: es) X.env = (false, eval e X.env) :: starEach es X.env := by rfl) (hpl : (backTo pos (starEach es X.env)).any (·.1) = false := by rfl) :
    SE X W (.Call (.Name x p) (e :: es) [] pos) (eCall G fs) :=
  PE.imp (pe_callG F hr hgd hg hm hk hb .nil (passAt tk) ha hdb he hpl) fun _ _ _ h => imp_call h (fun _ _ _ _ _ _ _ => .inr trivial) hn
theorem se_callIo (F : FnG X.prog X.w X.K X.mg X.base k f fd ps (spOf X.K X.mg G n)) (hr : Room k X.A) (hgd : X.A.guards = some []) (hm : X.mg x = some (.ref f)) (hk : PySem.W.keepIn X.K (.ref f) = true) (hb : Binds X.K fd ps []) (tk : L2N.Takes X W)
    (ha : SA X W (e :: es) fs) (hn : ∀ ρ us ρ1, fs ρ = .ok us ρ1 → us.length = n) (hg : Gl X x := by rfl) (hdb : (x == ("__debug__" : Str)) = false := by decide) (he : starEach (e :: es) X.env = (false, eval e X.env) :: starEach es X.env := by rfl) (hpl : (backTo pos (starEach es X.env)).any (·.1) = false := by rfl) :
    SE X W (.Call (.Name x p) (e :: es) [] pos) (eCallIo G fs) :=
  PE.imp (pe_callG F hr hgd hg hm hk hb .nil (passAt tk) ha hdb he hpl) fun _ _ _ h => imp_callIo h hn
/-- f(), nothing raised -/
def eCall0 (G : List Slot → Out Vl) : ME := fun ρ => match G [] with
  | .ok (.d d) _ => .ok (.d d) ρ
  | .ok (.nw xs) _ => .ok (.nw xs) ρ
  | _ => .bad
theorem se_call0 (F : FnG X.prog X.w X.K X.mg X.base k f fd [] (spOf X.K X.mg G 0)) (hr : Room k X.A) (hgd : X.A.guards = some []) (hm : X.mg x = some (.ref f)) (hk : PySem.W.keepIn X.K (.ref f) = true) (hb : Binds X.K fd [] [])
    (hg : Gl X x := by rfl) (hdb : (x == ("__debug__" : Str)) = false := by decide) : SE X W (.Call (.Name x p) [] [] pos) (eCall0 G) :=
  PE.imp (pe_callG0 F hr hgd hg hm hk hb .nil (fun σ => passAt takesN σ) hdb) fun σ H Q ⟨C, F, ρ, R, h⟩ => by
    have h : Post X.K X.mg W C F σ (relE X.K C σ) (eCall0 G ρ) Q := h
    refine ⟨rfl, ⟨H, F, fun _ => none⟩, [], rfl, R.enter0 (vs := []) (ds := []) .nil, ?_⟩
    unfold eCall0 at h
    unfold PostF
    cases q2 : G [] with
    | bad => rw [q2] at h; exact h.elim
    | exc e ρ' => rw [q2] at h; exact h.elim
    | ok u ρ' =>
      rw [q2] at h
      intro v F' σ' H' R' r'
      obtain ⟨s3, R3⟩ := R.back0 R'
      cases u with
      | sl i => exact h.elim
      | d d => exact h v F' H' s3 R3 r'
      | nw ys => exact h v F' H' s3 R3 (VR.back (u := .nw ys) R r' (fun _ z => by cases z) fun _ z => z)
end
/-! ### a def keeps its promise -/
section
variable {P : Program} {w : World} {K : PySem.W.Frag} {mg : Str → Option Value} {base : Heap}
theorem fn_sem {x qual : Str} {st : Stmt} {f : Addr} {fd : FuncData} {N ps : List Str} {k n : Nat} {g : MS} (F : Fun K x qual st f fd) (S : FnScope N ps (defScope st)) (hn : ps.length = n)
    (hbody : ∀ (cdv : Value) (A : Around) (outer : List Env) (s : Shared) (H : Hp) (E : XK), Room k (A.deeper (PyProof.Rows.envOfC qual (defScope st) s.heap.objs.size f cdv)) → A.guards = some [] →
      L2N.Takes (cxOf (L2N.CX P w) P w K mg base N qual (defScope st) f cdv A outer s H E) (fun cls d _ H' => E cls d H') →
      SSs (cxOf (L2N.CX P w) P w K mg base N qual (defScope st) f cdv A outer s H E) (fun cls d _ H' => E cls d H') (defBody st) g) :
    FnG P w K mg base (k + 1) f fd ps (spOf K mg (funG N.length g) n) := by
  refine fn_ofG F S (fun vs H Q E h => h.1.trans hn.symm) fun cdv A outer s H vs Q E hr hgd hsp => ?_
  obtain ⟨hl, C, ρ, hH, R, hp⟩ := hsp
  refine ⟨_, hbody cdv A outer s H E hr hgd (L2N.takes_of rfl rfl rfl rfl), ?_⟩
  have hlen : ρ.length = vs.length := by rw [R.len, List.length_map]
  refine ⟨C, C.F0, ρ ++ List.replicate (N.length - ρ.length) .no, ?_, ?_⟩
  · have R2 := R.pad (N.length - ρ.length)
    unfold L2.start
    rw [← hlen]
    exact R2
  · unfold funG at hp
    cases q : g (ρ ++ List.replicate (N.length - ρ.length) .no) with
    | bad => rw [q] at hp; exact hp.elim
    | exc e ρ' =>
      rw [q] at hp
      exact fun cls F' σ' H' _ R' hm => hp cls F' σ' H' R' hm
    | ok fl ρ' =>
      rw [q] at hp
      cases fl with
      | nx => exact fun F' σ' H' _ R' => hp .non F' σ' H' R' .non
      | bk => exact hp.elim
      | ct => exact hp.elim
      | rt u => exact fun v F' σ' H' _ R' r' => hp v F' σ' H' R' r'
end
end FB
namespace FB
open PySem PySem.Spec L2

theorem PG.imp {X : Cx} {e : Expr} {t t' : TG} (h : PG X e t) (i : ∀ v σ H Q, t' v σ H Q → t v σ H Q) : PG X e t' := ⟨fun pins s σ H v u Q I r q => h.run pins s σ H v u Q I r (i v σ H Q q)⟩
theorem PGs.imp {X : Cx} {e : List Expr} {t t' : TGs} (h : PGs X e t) (i : ∀ v σ H Q, t' v σ H Q → t v σ H Q) : PGs X e t' := ⟨fun pins s σ H v u Q I r q => h.run pins s σ H v u Q I r (i v σ H Q q)⟩
theorem PI.imp {X : Cx} {tg e : Expr} {t t' : TI} (h : PI X tg e t) (i : ∀ σ H R, t' σ H R → t σ H R) : PI X tg e t' := ⟨fun pins s σ H R I q => h.run pins s σ H R I (i σ H R q)⟩
theorem PTs.imp {X : Cx} {e : List Expr} {t t' : TT} (h : PTs X e t) (i : ∀ σ H R, t' σ H R → t σ H R) : PTs X e t' := ⟨fun pins s σ H R I q => h.run pins s σ H R I (i σ H R q)⟩

/-! ### targets -/
abbrev Bd := D → Rho → Option Rho
abbrev Bds := List D → Rho → Option Rho
/-- the slots that a target may write -/
def tgG (K : PySem.W.Frag) (is : List Nat) (b : Bd) : TG := fun v σ H Q => ∃ C F ρ d, Rel K C F ρ σ H ∧ DR K F v d ∧ match b d ρ with
  | none => False
  | some ρ' => ∀ σ', (∀ i, i ∉ is → σ'[i]? = σ[i]?) → σ'.length = σ.length → Rel K C F ρ' σ' H → Q σ' H
def tgGs (K : PySem.W.Frag) (is : List Nat) (b : Bds) : TGs := fun vs σ H Q => ∃ C F ρ ds, Rel K C F ρ σ H ∧ DRs K F vs ds ∧ match b ds ρ with
  | none => False
  | some ρ' => ∀ σ', (∀ i, i ∉ is → σ'[i]? = σ[i]?) → σ'.length = σ.length → Rel K C F ρ' σ' H → Q σ' H
def SG (X : Cx) (tg : Expr) (is : List Nat) (b : Bd) : Prop := PG X tg (tgG X.K is b)
def SGs (X : Cx) (tg : List Expr) (is : List Nat) (b : Bds) : Prop := PGs X tg (tgGs X.K is b)
def bName (i : Nat) : Bd := fun d ρ => if isIo ρ i then none else some (ρ.set i (.sh d))
def bNil : Bds := fun ds ρ => match ds with
  | [] => some ρ
  | _ => none
def bCons (b : Bd) (r : Bds) : Bds := fun ds ρ => match ds with
  | [] => none
  | d :: ds => match b d ρ with
    | none => none
    | some ρ1 => r ds ρ1
def bTup (n : Nat) (r : Bds) : Bd := fun d ρ => match d with
  | .tuple ds => if ds.length = n then r ds ρ else none
  | .dict [(.bool true, x), (.bool false, y)] => if n = 2 then r [x, y] ρ else none
  | _ => none
theorem bTup_zp {n : Nat} {r : Bds} {x y : D} {ρ : Rho} : bTup n r (zpD x y) ρ = if n = 2 then r [x, y] ρ else none := rfl
theorem bTup_dic {n : Nat} {r : Bds} {kvs : List (Key × V)} {ds : List D} {ρ : Rho} : bTup n r (.dict ((kvs.map fun p => kD p.1).zip ds)) ρ = none := by
  cases kvs with
  | nil => rfl
  | cons p q =>
    cases ds with
    | nil => rfl
    | cons d0 r0 =>
      obtain ⟨k, v⟩ := p
      cases k <;> rfl
section
variable {X : Cx} {pos : Pos}
theorem sg_name {i : Nat} {x : Str} (hN : X.N.Nodup) (hi : X.N[i]? = some x) (hx : Loc X.env.scope x) (hf : X.fn x = true ∨ X.env.scope.names.lookup x = some .local := by first | exact .inl rfl | exact .inr rfl | assumption) : SG X (.Name x pos) [i] (bName i) :=
  PG.imp (pg_name hN hi hx hf) fun v σ H Q ⟨C, F, ρ, d, R, r, h⟩ => by
    unfold bName at h
    cases hio : isIo ρ i with
    | true => simp only [hio] at h; exact h.elim
    | false =>
      simp only [hio] at h
      exact h _ (fun j hj => List.getElem?_set_ne (fun z => hj (by simp [z]))) (List.length_set ..) (R.setSh hio r)
theorem sgs_nil : SGs X [] [] bNil := PGs.imp pgs_nil fun vs σ H Q ⟨C, F, ρ, ds, R, r, h⟩ => by
  cases r with
  | nil => exact ⟨rfl, h σ (fun _ _ => rfl) rfl R⟩
  | cons _ _ => exact h.elim
theorem sgs_cons {e : Expr} {es : List Expr} {is js : List Nat} {b : Bd} {bs : Bds} (h1 : SG X e is b) (h2 : SGs X es js bs)
    (hs : (assignEach (e :: es) X.env).map (·.2) = assign e X.env :: (assignEach es X.env).map (·.2) := by rfl) : SGs X (e :: es) (is ++ js) (bCons b bs) :=
  PGs.imp (pgs_cons h1 h2 hs) fun vs σ H Q ⟨C, F, ρ, ds, R, r, h⟩ => by
    cases r with
    | nil => exact h.elim
    | @cons v vs d ds hv ht =>
      refine ⟨v, vs, rfl, C, F, ρ, d, R, hv, ?_⟩
      unfold bCons at h
      cases q : b d ρ with
      | none => simp only [q] at h
      | some ρ1 =>
        simp only [q] at h
        intro σ1 e1 l1 R1
        refine ⟨C, F, ρ1, ds, R1, ht, ?_⟩
        cases q2 : bs ds ρ1 with
        | none => simp only [q2] at h
        | some ρ2 =>
          simp only [q2] at h
          intro σ2 e2 l2 R2
          exact h σ2 (fun i hi => by
            rw [List.mem_append, not_or] at hi
            rw [e2 i hi.2, e1 i hi.1]) (l2.trans l1) R2
theorem sg_tup {es : List Expr} {k : Nat} {is : List Nat} {b : Bds} {n : Nat} (hc : X.calm = true) (h : SGs X es is b)
    (hn : (assignEach es X.env).length = n := by rfl) (hst : (assignEach es X.env).findIdx? (·.1) = none := by rfl) : SG X (.Tuple es k pos) is (bTup n b) :=
  PG.imp (pg_tup hc h hn hst) fun v σ H Q ⟨C, F, ρ, d, R, r, h⟩ => by
    cases r with
    | @tup a vs ds hs _ hd =>
      unfold bTup at h
      by_cases hl : ds.length = n
      · simp only [if_pos hl] at h
        exact ⟨a, vs, rfl, seqT R.sub hs, hd.length.trans hl, C, F, ρ, ds, R, hd, h⟩
      · simp only [if_neg hl] at h
    | @zp a v1 v2 d1 d2 ha h1 h2 =>
      rw [bTup_zp] at h
      by_cases hl : n = 2
      · simp only [if_pos hl] at h
        exact ⟨a, [v1, v2], rfl, .inl (.inl (R.sub _ _ ha)), hl.symm, C, F, ρ, [d1, d2], R, .cons h1 (.cons h2 .nil), h⟩
      · simp only [if_neg hl] at h
    | @dic a kvs ks ds ha he hd =>
      subst he
      rw [bTup_dic] at h
      exact h.elim
    | _ => exact h.elim
end
/-! ### target = e -/
def gAsg (e : ME) (b : Bd) : MS := fun ρ => (e ρ).bind fun u ρ1 => match keep u ρ1 with
  | none => .bad
  | some (d, ρ2) => match b d ρ2 with
    | none => .bad
    | some ρ3 => .ok .nx ρ3
/-- a, b = x, y -/
def setU (i : Nat) (u : Vl) (ρ : Rho) : Option Rho := if isIo ρ i then none else match u with
  | .nw xs => some (ρ.set i (.ol xs))
  | .d d => some (ρ.set i (.sh d))
  | .sl _ => none
def gPar (i j : Nat) (a b : ME) : MS := fun ρ => (a ρ).bind fun u ρ1 => (b ρ1).bind fun w ρ2 => match setU i u ρ2 with
  | none => .bad
  | some ρ3 => match setU j w ρ3 with
    | none => .bad
    | some ρ4 => .ok .nx ρ4
section
variable {K : PySem.W.Frag} {C : Fm} {F F' : Hp} {ρ ρ' : Rho} {σ : St} {H H' : Hp} {v : V} {u : Vl} {d : D} {p : Addr} {vs : List V}
/-- a cell on the way is guarded -/
def Fm.guard (C : Fm) (p : Addr) (vs : List V) : Fm := { C with H0 := upd C.H0 p (.lst vs) }
theorem Rel.guard (R : Rel K C F ρ σ H) (h0 : C.H0 p = none) (hf : F p = none) (hp : H p = some (.lst vs)) (hn : ∀ j, own ρ j → σ[j]? ≠ some (some (.ref p))) : Rel K (C.guard p vs) F ρ σ H where
  len := R.len
  sub := R.sub
  f0 := R.f0
  fz := fun b e => by
    by_cases z : b = p
    · subst z
      have : C.F0 b = none := by
        cases q : C.F0 b with
        | none => rfl
        | some o => rw [R.f0 b o q] at hf; cases hf
      show F b = C.F0 b
      rw [hf, this]
    · have e : upd C.H0 p (.lst vs) b ≠ none := e
      rw [upd_ne z] at e
      exact R.fz b e
  fr := fun b o e n => by
    have e : upd C.H0 p (.lst vs) b = some o := e
    by_cases z : b = p
    · subst z
      rw [upd_same] at e
      cases e
      exact hp
    · rw [upd_ne z] at e
      exact R.fr b o e n
  dom := fun b e => by
    have e : upd C.H0 p (.lst vs) b ≠ none := e
    by_cases z : b = p
    · subst z
      rw [hp]
      simp
    · rw [upd_ne z] at e
      exact R.dom b e
  sh := R.sh
  ol := fun i xs e => by
    obtain ⟨a, ws, h1, h2, h3⟩ := R.ol i xs e
    have z : a ≠ p := fun z => by subst z; exact hn i ⟨xs, .inl e⟩ h1
    exact ⟨a, ws, h1, by show upd C.H0 p (.lst vs) a = none; rw [upd_ne z]; exact h2, h3⟩
  io := R.io
  ios := R.ios
  inj := R.inj
theorem Rel.unguard (R : Rel K (C.guard p vs) F ρ σ H) (h0 : C.H0 p = none) : Rel K C F ρ σ H where
  len := R.len
  sub := R.sub
  f0 := R.f0
  fz := fun b e => R.fz b (by
    show upd C.H0 p (.lst vs) b ≠ none
    by_cases z : b = p
    · subst z; rw [h0] at e; exact absurd rfl e
    · rw [upd_ne z]; exact e)
  fr := fun b o e n => R.fr b o (by
    show upd C.H0 p (.lst vs) b = some o
    by_cases z : b = p
    · subst z; rw [h0] at e; cases e
    · rw [upd_ne z]; exact e) n
  dom := fun b e => R.dom b (by
    show upd C.H0 p (.lst vs) b ≠ none
    by_cases z : b = p
    · subst z; rw [h0] at e; exact absurd rfl e
    · rw [upd_ne z]; exact e)
  sh := R.sh
  ol := fun i xs e => by
    obtain ⟨a, ws, h1, h2, h3⟩ := R.ol i xs e
    have h2 : upd C.H0 p (.lst vs) a = none := h2
    refine ⟨a, ws, h1, ?_, h3⟩
    by_cases z : a = p
    · subst z; exact h0
    · rw [upd_ne z] at h2; exact h2
  io := R.io
  ios := R.ios
  inj := R.inj
/-- what the guard says -/
theorem Rel.guarded (R : Rel K (C.guard p vs) F ρ σ H) (hio : ∀ i, C.io i ≠ some p) (hF : C.F0 p = none) : H p = some (.lst vs) ∧ F p = none ∧ ∀ j, own ρ j → σ[j]? ≠ some (some (.ref p)) := by
  have h1 : (C.guard p vs).H0 p = some (.lst vs) := upd_same
  have hf : F p = none := (R.fz p (by rw [h1]; simp)).trans hF
  refine ⟨R.fr p _ h1 hio, hf, fun j ⟨xs, hj⟩ e => ?_⟩
  rcases hj with hj | hj
  · obtain ⟨a, ws, q1, q2, _⟩ := R.ol j xs hj
    rw [e] at q1
    cases q1
    rw [h1] at q2
    cases q2
  · obtain ⟨a, ws, q0, q1, _⟩ := R.io j xs hj
    rw [e] at q1
    cases q1
    exact hio j q0
theorem Rel.f0none (R : Rel K C F ρ σ H) (hf : F p = none) : C.F0 p = none := R.f0.free hf
end
section
variable {X : Cx} {W : WX} {pos px py pt pt2 : Pos} {tg e a b : Expr} {f fa fb : ME} {bd : Bd} {is : List Nat}
theorem ss_asg (he : SE X W e f) (hg : SG X tg is bd) (hs : swapsWithSole [tg] e pos.line X.env = pure false := by rfl) (hw : swappedStores [tg] e X.env = pure none := by rfl)
    (h1 : (assignEach [tg] X.env).map (·.2) = [assign tg X.env] := by rfl) : SS X W (.Assign [tg] e pos) (gAsg f bd) := PS.imp (ps_asg he hg hs hw h1) fun D σ H ⟨C, F, ρ, R, h⟩ =>
  ⟨C, F, ρ, R, PostS.bindE h fun u ρ1 x F1 H1 s1 R1 r1 h1 => by
    cases q : keep u ρ1 with
    | none => simp only [q] at h1; exact h1.elim
    | some p =>
      obtain ⟨d, ρ2⟩ := p
      simp only [q] at h1
      obtain ⟨F2, s2, R2, r2⟩ := VR.keep R1 r1 q
      refine ⟨C, F2, ρ2, d, R2, r2, ?_⟩
      cases q2 : bd d ρ2 with
      | none => simp only [q2] at h1; exact h1.elim
      | some ρ3 =>
        simp only [q2] at h1
        exact fun σ' _ _ R3 => h1 F2 σ' H1 s2 R3⟩
theorem VR.setU {K : PySem.W.Frag} {C : Fm} {F : Hp} {ρ ρ' : Rho} {σ : St} {H : Hp} {v : V} {u : Vl} {i : Nat} (R : Rel K C F ρ σ H) (h : VR K C F H ρ σ v u) (e : FB.setU i u ρ = some ρ') : Rel K C F ρ' (σ.set i (some v)) H := by
  unfold FB.setU at e
  cases hio : isIo ρ i with
  | true => rw [hio] at e; cases e
  | false =>
    rw [hio] at e
    cases u with
    | nw xs => cases e; exact R.setOl hio h
    | d d => cases e; exact R.setSh hio h
    | sl j => cases e
theorem setU_own {ρ ρ' : Rho} {u : Vl} {i j : Nat} (e : setU i u ρ = some ρ') (h : own ρ' j) (z : j ≠ i) : own ρ j := by
  obtain ⟨ys, h⟩ := h
  unfold setU at e
  cases hio : isIo ρ i with
  | true => rw [hio] at e; cases e
  | false =>
    rw [hio] at e
    cases u with
    | nw xs => cases e; rw [List.getElem?_set_ne (Ne.symm z)] at h; exact ⟨ys, h⟩
    | d d => cases e; rw [List.getElem?_set_ne (Ne.symm z)] at h; exact ⟨ys, h⟩
    | sl k => cases e
theorem Post.guard {α β : Type} {K : PySem.W.Frag} {mg : Str → Option Value} {C : Fm} {F : Hp} {σ : St} {p : Addr} {vs : List V} {rel : Hp → Hp → Rho → β → α → Prop} {rel' : Hp → Hp → Rho → β → α → Prop} {o : Out α} {Q Q' : β → Hp → Prop} (h0 : C.H0 p = none)
    (h : Post K mg W C F σ rel o Q)
    (hQ : ∀ u ρ v F' H', o = .ok u ρ → Same F F' → Rel K (C.guard p vs) F' ρ σ H' → rel' F' H' ρ v u → (rel F' H' ρ v u → Q v H') → Q' v H') : Post K mg W (C.guard p vs) F σ rel' o Q' := by
  cases o with
  | bad => exact h
  | ok u ρ => exact fun v F' H' s R r => hQ u ρ v F' H' rfl s R r fun r' => h v F' H' s (R.unguard h0) r'
  | exc e ρ => exact fun cls F' H' s R hm => h cls F' H' s (R.unguard h0) hm
theorem ss_par {i j : Nat} {x y : Str} {kt k2} (hc : X.calm = true) (hN : X.N.Nodup) (hi : X.N[i]? = some x) (hj : X.N[j]? = some y) (hij : i ≠ j) (hx : X.env.scope.names.lookup x = some .local) (hy : X.env.scope.names.lookup y = some .local) (ha : SE X W a fa) (hb : SE X W b fb)
    (hs : starEach (a :: [b]) X.env = (false, eval a X.env) :: starEach [b] X.env := by rfl) (hs2 : starEach (b :: []) X.env = (false, eval b X.env) :: starEach [] X.env := by rfl)
    (hw : swappedStores [.Tuple [.Name x px, .Name y py] kt pt] (.Tuple [a, b] k2 pt2) X.env = pure (some [x, y]) := by rfl)
    (hs3 : swapsWithSole [.Tuple [.Name x px, .Name y py] kt pt] (.Tuple [a, b] k2 pt2) pos.line X.env = pure false := by rfl) : SS X W (.Assign [.Tuple [.Name x px, .Name y py] kt pt] (.Tuple [a, b] k2 pt2) pos) (gPar i j fa fb) := by
  refine PS.imp (ps_par hc hN hi hj hij hx hy (pa_cons ha (pa_cons hb pa_nil hs2) hs) hw hs3) fun D σ H ⟨C, F, ρ, R, h⟩ => ?_
  refine ⟨C, F, ρ, R, PostS.bindE h fun u ρ1 v F1 H1 s1 R1 r1 h1 => ?_⟩
  have last : ∀ w ρ2 z F2 H2, Rel X.K C F2 ρ2 σ H2 → VR X.K C F2 H2 ρ2 σ v u → VR X.K C F2 H2 ρ2 σ z w → (∀ xs ys, u = .nw xs → w = .nw ys → v ≠ z) → PostS X.K X.mg W C F2 (match setU i u ρ2 with
      | none => .bad
      | some ρ3 => match setU j w ρ3 with
        | none => .bad
        | some ρ4 => .ok .nx ρ4) D → ∃ v1 w1, [v, z] = [v1, w1] ∧ D.nx ((σ.set i (some v1)).set j (some w1)) H2 := by
    intro w ρ2 z F2 H2 R2 ru rw' hne h2
    refine ⟨v, z, rfl, ?_⟩
    cases q : setU i u ρ2 with
    | none => simp only [q] at h2; exact h2.elim
    | some ρ3 =>
      simp only [q] at h2
      have R3 := VR.setU R2 ru q
      cases q2 : setU j w ρ3 with
      | none => simp only [q2] at h2; exact h2.elim
      | some ρ4 =>
        simp only [q2] at h2
        have rw3 : VR X.K C F2 H2 ρ3 (σ.set i (some v)) z w := by
          cases w with
          | d d => exact rw'
          | sl k =>
            unfold setU at q2
            cases hio : isIo ρ3 j <;> rw [hio] at q2 <;> cases q2
          | nw ys =>
            obtain ⟨b, ws, rfl, h0, hf, hb, hr, hn⟩ := rw'
            refine ⟨b, ws, rfl, h0, hf, hb, hr, fun k hk e => ?_⟩
            by_cases z : k = i
            · subst z
              have hk2 : k < σ.length := by
                have := (List.getElem?_eq_some_iff.mp e).1
                simpa using this
              rw [List.getElem?_set_self hk2] at e
              cases e
              cases u with
              | nw xs => exact hne xs ys rfl rfl rfl
              | d d =>
                obtain ⟨zs, hk⟩ := hk
                unfold setU at q
                cases hio : isIo ρ2 k with
                | true => rw [hio] at q; cases q
                | false =>
                  rw [hio] at q
                  cases q
                  rw [List.getElem?_set_self (by rw [R2.len]; exact hk2)] at hk
                  rcases hk with hk | hk <;> cases hk
              | sl l =>
                unfold setU at q
                cases hio : isIo ρ2 k <;> rw [hio] at q <;> cases q
            · rw [List.getElem?_set_ne (Ne.symm z)] at e
              exact hn k (setU_own q hk z) e
        exact h2 F2 _ H2 (Same.refl F2) (VR.setU R3 rw3 q2)
  cases u with
  | sl k =>
    refine ⟨C, F1, ρ1, R1, PostS.bindE h1 fun w ρ2 z F2 H2 s2 R2 r2 h2 => ?_⟩
    exfalso
    unfold setU at h2
    cases hio : isIo ρ2 i <;> simp only [hio] at h2 <;> exact h2
  | d d =>
    refine ⟨C, F1, ρ1, R1, PostS.bindE h1 fun w ρ2 z F2 H2 s2 R2 r2 h2 => ?_⟩
    exact last w ρ2 z F2 H2 R2 (DR.mono s2 r1) r2 (fun _ _ e => by cases e) h2
  | nw xs =>
    obtain ⟨p, vs, rfl, h0, hf, hp, hr, hn⟩ := r1
    have hF := R1.f0none hf
    have hio : ∀ i, C.io i ≠ some p := fun k e => by
      obtain ⟨ys, q⟩ := R1.ios k p e
      obtain ⟨a', _, q0, q1, _⟩ := R1.io k ys q
      rw [e] at q0
      cases q0
      exact hn k ⟨ys, .inr q⟩ q1
    refine ⟨C.guard p vs, F1, ρ1, R1.guard h0 hf hp hn, ?_⟩
    have h2 : Post X.K X.mg W C F1 σ (relE X.K C σ) (fb ρ1) (fun z H2 => ∀ w ρ2 F2, Same F1 F2 → Rel X.K C F2 ρ2 σ H2 → VR X.K C F2 H2 ρ2 σ z w → fb ρ1 = .ok w ρ2 → True) := by
      cases q : fb ρ1 with
      | bad => rw [q] at h1; exact h1.elim
      | ok u ρ => exact fun _ _ _ _ _ _ _ _ _ _ _ _ _ => trivial
      | exc e ρ => rw [q] at h1; exact fun cls F' H' s R hm => h1 cls F' σ H' s R hm
    cases q : fb ρ1 with
    | bad => rw [q] at h1; exact h1.elim
    | exc e ρ => rw [q] at h1; exact fun cls F' H' s R hm => h1 cls F' σ H' s (R.unguard h0) hm
    | ok w ρ2 =>
      rw [q] at h1
      intro z F2 H2 s2 R2 r2
      obtain ⟨g1, g2, g3⟩ := R2.guarded hio hF
      have R2' := R2.unguard h0
      refine last w ρ2 z F2 H2 R2' ⟨p, vs, rfl, h0, g2, g1, hr.mono s2, g3⟩ ?_ ?_ (PostS.mono s2 h1)
      · cases w with
        | d d => exact r2
        | sl k => exact r2
        | nw ys =>
          obtain ⟨b, ws, rfl, k0, kf, kb, kr, kn⟩ := r2
          have k0 : upd C.H0 p (.lst vs) b = none := k0
          refine ⟨b, ws, rfl, ?_, kf, kb, kr, kn⟩
          by_cases z : b = p
          · subst z; exact h0
          · rw [upd_ne z] at k0; exact k0
      · intro xs' ys e1 e2
        subst e2
        obtain ⟨b, ws, rfl, k0, _⟩ := r2
        have k0 : upd C.H0 p (.lst vs) b = none := k0
        intro e
        cases e
        rw [upd_same] at k0
        cases k0
end
end FB
namespace FB
open PySem PySem.Spec L2

/-! ### what is walked -/
structure ItOk (K : PySem.W.Frag) (J : It) (F1 : Hp) (ds : List D) : Prop where
  stop : ∀ i H, Same F1 H → i = ds.length → J.stop i H
  go : ∀ i H, Same F1 H → i < ds.length → J.go i H
  yld : ∀ i H x H', Same F1 H → J.yld i H x H' → ∀ d, ds[i]? = some d → (H' = H ∧ ∀ F, Same F1 F → DR K F x d) ∨ ∃ p o, H p = none ∧ H' = upd H p o ∧ ∀ F, Same F1 F → F p = none → DR K (upd F p o) x d
abbrev MI := Rho → Out (List D)
def relI (K : PySem.W.Frag) (_ : Fm) (_ : St) : Hp → Hp → Rho → It → List D → Prop := fun F _ _ J ds => ItOk K J F ds
def SI (X : Cx) (W : WX) (tg e : Expr) (f : MI) : Prop := PI X tg e (tG X.K X.mg W (relI X.K) f)
def seqOf : D → Option (List D)
  | .list xs => some xs
  | .tuple xs => some xs
  | _ => none
def isL : D → Bool
  | .list _ => true
  | _ => false
/-- over a list | a tuple -/
def iL (e : ME) : MI := fun ρ => (e ρ).bind fun u ρ1 => match keep u ρ1 with
  | some (.list xs, ρ2) => .ok xs ρ2
  | _ => .bad
def iT (e : ME) : MI := fun ρ => (e ρ).bind fun u ρ1 => match u with
  | .d (.tuple xs) => .ok xs ρ1
  | _ => .bad
def chars (x : Str) : List D := x.cps.toList.map fun c => .str ⟨#[c]⟩
def iS (e : ME) : MI := fun ρ => (e ρ).bind fun u ρ1 => match u with
  | .d (.str x) => .ok (chars x) ρ1
  | _ => .bad
def intsD (lo : Int) (n : Nat) : List D := (List.range n).map fun i => .int (lo + (i : Nat))
def iR1 (a : MA) : MI := fun ρ => (a ρ).bind fun us ρ1 => match us with
  | [.d (.int j)] => if -100000 ≤ j ∧ j ≤ 100000 then .ok (intsD 0 j.toNat) ρ1 else .bad
  | _ => .bad
def iR2 (a : MA) : MI := fun ρ => (a ρ).bind fun us ρ1 => match us with
  | [.d (.int i), .d (.int j)] => if -100000 ≤ i ∧ i ≤ 100000 ∧ -100000 ≤ j ∧ j ≤ 100000 then .ok (intsD i (j - i).toNat) ρ1 else .bad
  | _ => .bad
section
variable {X : Cx} {W : WX} {tg e : Expr} {f : ME} {fs : MA}
theorem itOk_list {K : PySem.W.Frag} {F1 : Hp} {a : Addr} {vs : List V} {ds : List D} (h' : SqL K F1 a vs) (r : DRs K F1 vs ds) : ItOk K (Itl K a) F1 ds where
  stop := fun i H s e => ⟨vs, s.seq h', by rw [r.length, e]; exact Nat.le_refl _⟩
  go := fun i H s hi => by
    rw [← r.length] at hi
    exact ⟨vs, vs[i], s.seq h', List.getElem?_eq_getElem hi⟩
  yld := fun i H x H' s y d e => by
    obtain ⟨v, h1, h2⟩ := r.get e
    have := y.2 vs (s.seq h')
    rw [h1] at this
    cases this
    exact .inl ⟨y.1, fun F sF => h2.mono sF⟩
theorem si_list (h : SE X W e f) : SI X W tg e (iL f) := PI.imp (pi_list h) fun σ H Q ⟨C, F, ρ, R, h⟩ => ⟨C, F, ρ, R, Post.bind h fun u ρ1 x F1 H1 s1 R1 r1 h1 => by
  cases q : keep u ρ1 with
  | none => simp only [q] at h1; exact h1.elim
  | some p =>
    obtain ⟨d, ρ2⟩ := p
    obtain ⟨F2, s2, R2, r2⟩ := VR.keep R1 r1 q
    cases d with
    | list xs =>
      simp only [q] at h1
      cases r2 with
      | @lst a vs _ hs hd => exact ⟨a, rfl, ⟨vs, R2.sub.seq hs⟩, h1 _ F2 H1 s2 R2 (itOk_list hs hd)⟩
    | _ => simp only [q] at h1; exact h1.elim⟩
theorem itOk_tup {K : PySem.W.Frag} {F1 : Hp} {a : Addr} {vs : List V} {ds : List D} (h : SqT K F1 a vs) (r : DRs K F1 vs ds) : ItOk K (Itt K a) F1 ds where
  stop := fun i H s e => ⟨vs, seqT s h, by rw [r.length, e]; exact Nat.le_refl _⟩
  go := fun i H s hi => by
    rw [← r.length] at hi
    exact ⟨vs, vs[i], seqT s h, List.getElem?_eq_getElem hi⟩
  yld := fun i H x H' s y d e => by
    obtain ⟨v, h1, h2⟩ := r.get e
    have := y.2 vs (seqT s h)
    rw [h1] at this
    cases this
    exact .inl ⟨y.1, fun F sF => h2.mono sF⟩
theorem si_tup (h : SE X W e f) : SI X W tg e (iT f) := PI.imp (pi_tup h) fun σ H Q ⟨C, F, ρ, R, h⟩ => ⟨C, F, ρ, R, Post.bind h fun u ρ1 x F1 H1 s1 R1 r1 h1 => by
  cases u with
  | sl i => exact h1.elim
  | nw xs => exact h1.elim
  | d d =>
    cases r1 with
    | @tup a vs xs hs _ hd => exact ⟨a, rfl, ⟨vs, seqT R1.sub hs⟩, h1 _ F1 H1 (Same.refl F1) R1 (itOk_tup hs hd)⟩
    | _ => exact h1.elim⟩
theorem itOk_str {K : PySem.W.Frag} {F1 : Hp} {x : Str} : ItOk K (Its x) F1 (chars x) where
  stop := fun i H s e => by
    have e : i = (x.cps.toList.map fun c => PyData.str ⟨#[c]⟩).length := e
    rw [List.length_map, Array.length_toList] at e
    exact Nat.le_of_eq e.symm
  go := fun i H s e => by
    have e : i < (x.cps.toList.map fun c => PyData.str ⟨#[c]⟩).length := e
    rw [List.length_map, Array.length_toList] at e
    exact e
  yld := fun i H v H' s y d e => by
    obtain ⟨e1, c, e2, e3⟩ := y
    have e : (x.cps.toList.map fun c => PyData.str ⟨#[c]⟩)[i]? = some d := e
    rw [List.getElem?_map, Array.getElem?_toList, e2] at e
    cases e
    subst e3
    exact .inl ⟨e1, fun F _ => .str _⟩
theorem si_str (h : SE X W e f) : SI X W tg e (iS f) := PI.imp (pi_str h) fun σ H Q ⟨C, F, ρ, R, h⟩ => ⟨C, F, ρ, R, Post.bind h fun u ρ1 x F1 H1 s1 R1 r1 h1 => by
  cases u with
  | sl i => exact h1.elim
  | nw xs => exact h1.elim
  | d d =>
    cases r1 with
    | str z => exact ⟨z, rfl, h1 _ F1 H1 (Same.refl F1) R1 itOk_str⟩
    | _ => exact h1.elim⟩
theorem itOk_rng {K : PySem.W.Frag} {F1 : Hp} {lo : Int} {n : Nat} : ItOk K (Itr lo n) F1 (intsD lo n) where
  stop := fun i H s e => by
    have e : i = ((List.range n).map fun i => PyData.int (lo + (i : Nat))).length := e
    rw [List.length_map, List.length_range] at e
    exact Nat.le_of_eq e.symm
  go := fun i H s e => by
    have e : i < ((List.range n).map fun i => PyData.int (lo + (i : Nat))).length := e
    rw [List.length_map, List.length_range] at e
    exact e
  yld := fun i H v H' s y d e => by
    obtain ⟨e1, e2⟩ := y
    have e : ((List.range n).map fun i => PyData.int (lo + (i : Nat)))[i]? = some d := e
    rw [List.getElem?_map] at e
    cases q : (List.range n)[i]? with
    | none => rw [q] at e; cases e
    | some j =>
      rw [q] at e
      cases e
      have : j = i := by
        have h2 := List.getElem?_eq_some_iff.mp q
        obtain ⟨h3, h4⟩ := h2
        rw [List.getElem_range] at h4
        exact h4.symm
      subst this
      subst e2
      exact .inl ⟨e1, fun F _ => .int _⟩
theorem DR.intOf {K : PySem.W.Frag} {F : Hp} {v : V} {i : Int} (h : DR K F v (.int i)) : v = .int i := by cases h; rfl
theorem VRs.uncons {K : PySem.W.Frag} {C : Fm} {F H : Hp} {ρ : Rho} {σ : St} {xs : List V} {u : Vl} {us : List Vl} (r : VRs K C F H ρ σ xs (u :: us)) (hu : hold u = u) : ∃ v vs, xs = v :: vs ∧ VR K C F H ρ σ v u ∧ VRs K C F H ρ σ vs us := by
  generalize hz : u :: us = z at r
  cases r with
  | nil => cases hz
  | @cons v vs u' us' h t =>
    obtain ⟨e1, e2⟩ := List.cons.inj hz
    rw [← e1] at h
    rw [← e2] at t
    exact ⟨v, vs, rfl, h, t⟩
theorem si_r1 {a : Expr} {p pos : Pos} (hm : X.mg "range" = none) (ha : SA X W [a] fs) (hg : Gl X "range" := by rfl) (hs : starEach [a] X.env = [(false, eval a X.env)] := by rfl) : SI X W tg (.Call (.Name "range" p) [a] [] pos) (iR1 fs) :=
  PI.imp (pi_range1 hg hm ha hs) fun σ H Q ⟨C, F, ρ, R, h⟩ => ⟨C, F, ρ, R, Post.bind h fun us ρ1 xs F1 H1 s1 R1 r1 h1 => by
    have r1 : VRs X.K C F1 H1 ρ1 σ xs us := r1
    match us, r1, h1 with
    | [.d (.int j)], r1, h1 =>
      obtain ⟨v, vs, rfl, hv, ht⟩ := VRs.uncons r1 rfl
      cases ht
      have hv : DR X.K F1 v (.int j) := hv
      have e := hv.intOf
      subst e
      have h1 : Post X.K X.mg W C F1 σ (relI X.K C σ) (if -100000 ≤ j ∧ j ≤ 100000 then .ok (intsD 0 j.toNat) ρ1 else .bad) Q := h1
      by_cases hj : -100000 ≤ j ∧ j ≤ 100000
      · rw [if_pos hj] at h1
        exact ⟨j, rfl, by omega, by omega, h1 _ F1 H1 (Same.refl F1) R1 itOk_rng⟩
      · rw [if_neg hj] at h1
        exact h1.elim⟩
theorem si_r2 {a b : Expr} {p pos : Pos} (hm : X.mg "range" = none) (ha : SA X W [a, b] fs) (hg : Gl X "range" := by rfl) (hs : starEach [a, b] X.env = [(false, eval a X.env), (false, eval b X.env)] := by rfl) (hs2 : starEach [b] X.env = [(false, eval b X.env)] := by rfl) :
    SI X W tg (.Call (.Name "range" p) [a, b] [] pos) (iR2 fs) :=
  PI.imp (pi_range2 hg hm ha hs hs2) fun σ H Q ⟨C, F, ρ, R, h⟩ => ⟨C, F, ρ, R, Post.bind h fun us ρ1 xs F1 H1 s1 R1 r1 h1 => by
    have r1 : VRs X.K C F1 H1 ρ1 σ xs us := r1
    match us, r1, h1 with
    | [.d (.int i), .d (.int j)], r1, h1 =>
      obtain ⟨v, vs, rfl, hv, ht⟩ := VRs.uncons r1 rfl
      obtain ⟨w, ws, rfl, hw, ht2⟩ := VRs.uncons ht rfl
      cases ht2
      have hv : DR X.K F1 v (.int i) := hv
      have hw : DR X.K F1 w (.int j) := hw
      have e := hv.intOf
      have e2 := hw.intOf
      subst e
      subst e2
      have h1 : Post X.K X.mg W C F1 σ (relI X.K C σ) (if -100000 ≤ i ∧ i ≤ 100000 ∧ -100000 ≤ j ∧ j ≤ 100000 then .ok (intsD i (j - i).toNat) ρ1 else .bad) Q := h1
      by_cases hj : -100000 ≤ i ∧ i ≤ 100000 ∧ -100000 ≤ j ∧ j ≤ 100000
      · rw [if_pos hj] at h1
        exact ⟨i, j, rfl, by omega, h1 _ F1 H1 (Same.refl F1) R1 itOk_rng⟩
      · rw [if_neg hj] at h1
        exact h1.elim⟩
end
/-! ### for -/
def forG (b : Bd) (g : MS) : List D → MS
  | [], ρ => .ok .nx ρ
  | d :: r, ρ => match b d ρ with
    | none => .bad
    | some ρ1 => (g ρ1).bind fun f ρ2 => match f with
      | .nx => forG b g r ρ2
      | .ct => forG b g r ρ2
      | .bk => .ok .nx ρ2
      | .rt u => .ok (.rt u) ρ2
def gFor (it : MI) (b : Bd) (g : MS) : MS := fun ρ => (it ρ).bind fun ds ρ1 => forG b g ds ρ1
section
variable {X : Cx} {W : WX} {pos : Pos} {tg iter : Expr} {body : List Stmt} {it : MI} {bd : Bd} {is : List Nat} {g : MS}
theorem Rel.step {K : PySem.W.Frag} {C : Fm} {F : Hp} {ρ : Rho} {σ : St} {H H' : Hp} {x : V} {d : D} {F1 : Hp} (R : Rel K C F ρ σ H) (s : Same F1 F)
    (h : (H' = H ∧ ∀ F, Same F1 F → DR K F x d) ∨ ∃ p o, H p = none ∧ H' = upd H p o ∧ ∀ F, Same F1 F → F p = none → DR K (upd F p o) x d) : ∃ F', Same F F' ∧ Rel K C F' ρ σ H' ∧ DR K F' x d := by
  rcases h with ⟨rfl, h⟩ | ⟨p, o, hp, rfl, h⟩
  · exact ⟨F, Same.refl F, R, h F s⟩
  · exact ⟨_, same_new (R.fnone hp), R.allocS hp, h F s (R.fnone hp)⟩
theorem ss_for (hp : PassesOwn (model X.prog X.w) X.A X.env X.xe) (hc : X.calm = true) (hi : SI X W tg iter it) (hg : SG X tg is bd) (hb : SSs X W body g)
    (hs : ∀ x, foldedSetIterable iter X.env x = pure x := by intro _; rfl) : SS X W (.For tg iter body [] pos) (gFor it bd g) := PS.imp (ps_for hp hc hi hg hb hs) fun D σ H ⟨C, F, ρ, R, h⟩ =>
  ⟨C, F, ρ, R, PostS.bindE h fun ds ρ1 J F1 H1 s1 R1 r1 h1 => by
    have I : ItOk X.K J F1 ds := r1
    refine ⟨fun i m σ H => m = ds.length - i ∧ i ≤ ds.length ∧ ∃ F ρ, Same F1 F ∧ Rel X.K C F ρ σ H ∧ PostS X.K X.mg W C F (forG bd g (ds.drop i) ρ) D, ⟨ds.length, by simp, Nat.zero_le _, F1, ρ1, Same.refl F1, R1, h1⟩, ?_⟩
    rintro i m σ H ⟨rfl, hi, F2, ρ2, s2, R2, h2⟩
    by_cases hlt : i < ds.length
    · have e : ds[i]? = some ds[i] := List.getElem?_eq_getElem hlt
      have ed : ds.drop i = ds[i] :: ds.drop (i + 1) := List.drop_eq_getElem_cons hlt
      rw [ed] at h2
      refine .inr ⟨I.go i H (s2.trans R2.sub) hlt, fun σ' H' => ∃ F ρ, Same F1 F ∧ Rel X.K C F ρ σ' H' ∧ PostS X.K X.mg W C F (forG bd g (ds.drop (i + 1)) ρ) D, fun σ' H' ⟨F, ρ, a, b, c⟩ => ⟨ds.length - (i + 1), by omega, rfl, hlt, F, ρ, a, b, c⟩, fun x H' y => ?_⟩
      obtain ⟨F3, s3, R3, r3⟩ := R2.step s2 (I.yld i H x H' (s2.trans R2.sub) y _ e)
      unfold forG at h2
      refine ⟨C, F3, ρ2, ds[i], R3, r3, ?_⟩
      cases q : bd ds[i] ρ2 with
      | none => simp only [q] at h2; exact h2.elim
      | some ρ3 =>
        simp only [q] at h2
        intro σ' _ _ R4
        refine ⟨C, F3, ρ3, R4, ?_⟩
        have h2 := h2.mono s3
        cases q2 : g ρ3 with
        | bad => rw [q2] at h2; exact h2.elim
        | exc e' ρ' => rw [q2] at h2; exact h2
        | ok fl ρ4 =>
          rw [q2, Out.bind_ok] at h2
          cases fl with
          | nx => exact fun F5 σ5 H5 s5 R5 => ⟨F5, ρ4, (s2.trans s3).trans s5, R5, h2.mono s5⟩
          | ct => exact fun F5 σ5 H5 s5 R5 => ⟨F5, ρ4, (s2.trans s3).trans s5, R5, h2.mono s5⟩
          | bk => exact h2
          | rt u => exact h2
    · have e : i = ds.length := by omega
      have ed : ds.drop i = [] := List.drop_eq_nil_of_le (by omega)
      rw [ed] at h2
      exact .inl ⟨I.stop i H (s2.trans R2.sub) e, h2 F2 σ H (Same.refl F2) R2⟩⟩
end
/-! ### while -/
def whileG (c : MB) (g : MS) : Nat → MS
  | 0, _ => .bad
  | n + 1, ρ => (c ρ).bind fun t ρ1 => if t then (g ρ1).bind fun f ρ2 => match f with
      | .nx => whileG c g n ρ2
      | .ct => whileG c g n ρ2
      | .bk => .ok .nx ρ2
      | .rt u => .ok (.rt u) ρ2
    else .ok .nx ρ1
section
variable {X : Cx} {W : WX} {pos : Pos} {c : Expr} {body : List Stmt} {gc : MB} {g : MS}
theorem ss_while (n : Nat) (hp : PassesOwn (model X.prog X.w) X.A X.env X.xe) (hc : ST X W c gc) (hb : SSs X W body g) : SS X W (.While c body [] pos) (whileG gc g n) := PS.imp (ps_while hp hc hb) fun D σ H ⟨C, F, ρ, R, h⟩ => by
  refine ⟨fun m σ H => ∃ F ρ, Rel X.K C F ρ σ H ∧ PostS X.K X.mg W C F (whileG gc g m ρ) D, ⟨n, F, ρ, R, h⟩, fun m σ H ⟨F, ρ, R, h⟩ => ?_⟩
  cases m with
  | zero => exact h.elim
  | succ m =>
    unfold whileG at h
    refine ⟨C, F, ρ, R, PostS.bindE h fun t ρ1 b F1 H1 s1 R1 r1 h1 => ?_⟩
    cases r1
    cases t with
    | false =>
      exact h1 F1 σ H1 (Same.refl F1) R1
    | true =>
      refine ⟨fun σ' H' => ∃ F ρ, Rel X.K C F ρ σ' H' ∧ PostS X.K X.mg W C F (whileG gc g m ρ) D, fun σ' H' ⟨F, ρ, a, b⟩ => ⟨m, Nat.lt_succ_self m, F, ρ, a, b⟩, C, F1, ρ1, R1, ?_⟩
      have h1 : PostS X.K X.mg W C F1 ((g ρ1).bind fun f ρ2 => match f with
        | .nx => whileG gc g m ρ2
        | .ct => whileG gc g m ρ2
        | .bk => .ok .nx ρ2
        | .rt u => .ok (.rt u) ρ2) D := h1
      cases q2 : g ρ1 with
      | bad => rw [q2] at h1; exact h1.elim
      | exc e' ρ' => rw [q2] at h1; exact h1
      | ok fl ρ4 =>
        rw [q2, Out.bind_ok] at h1
        cases fl with
        | nx => exact fun F5 σ5 H5 s5 R5 => ⟨F5, ρ4, R5, h1.mono s5⟩
        | ct => exact fun F5 σ5 H5 s5 R5 => ⟨F5, ρ4, R5, h1.mono s5⟩
        | bk => exact h1
        | rt u => exact h1
end
end FB
namespace FB
open PySem PySem.Spec L2

/-! ### [elt for target in iter if ..] -/
def wipeR (ρ : Rho) : List Nat → Rho
  | [] => ρ
  | v :: vs => (wipeR ρ vs).set v .no
/-- the outer values of the names back -/
def restR (ρ0 : Rho) : List Nat → Rho → Rho
  | [], ρ => ρ
  | v :: vs, ρ => restR ρ0 vs (ρ.set v (ρ0.getD v .no))
def plainAt (ρ : Rho) (i : Nat) : Bool := match ρ[i]? with
  | some .no => true
  | some (.sh _) => true
  | _ => false
/-- one turn: what comes out of elt, or nothing -/
def lcTurn (b : Bd) (c : MB) (e : ME) (vs : List Nat) (d : D) (ρ : Rho) : Out (Option D) := match b d ρ with
  | none => .bad
  | some ρ1 => (c ρ1).bind fun t ρ2 => if t then (e ρ2).bind fun u ρ3 => match keep u ρ3 with
      | none => .bad
      | some (x, ρ4) => .ok (some x) (wipeR ρ4 vs)
    else .ok none (wipeR ρ2 vs)
def lcG (b : Bd) (c : MB) (e : ME) (vs : List Nat) : List D → List D → Rho → Out (List D)
  | [], acc, ρ => .ok acc ρ
  | d :: r, acc, ρ => match lcTurn b c e vs d ρ with
    | .ok none ρ1 => lcG b c e vs r acc ρ1
    | .ok (some x) ρ1 => lcG b c e vs r (acc ++ [x]) ρ1
    | _ => .bad
def eLc (it : MI) (b : Bd) (c : MB) (e : ME) (vs : List Nat) : ME := fun ρ => (it ρ).bind fun ds ρ1 => if vs.all (plainAt ρ1) && decide (ds.length ≤ 5000) then match lcG b c e vs ds [] (wipeR ρ1 vs) with
    | .ok acc ρ2 => .ok (.nw acc) (restR ρ1 vs ρ2)
    | _ => .bad
  else .bad
def bYes : MB := fun ρ => .ok true ρ
def STs (X : Cx) (W : WX) (ifs : List Expr) (f : MB) : Prop := PTs X ifs (tG X.K X.mg W relB f)
theorem sts_nil {X : Cx} {W : WX} : STs X W [] bYes := PTs.imp pts_nil fun σ H Q ⟨C, F, ρ, R, h⟩ => h true F H (Same.refl F) R rfl
theorem sts_one {X : Cx} {W : WX} {c : Expr} {f : MB} (h : ST X W c f) : STs X W [c] f := pts_one h
section
variable {K : PySem.W.Frag} {C : Fm} {F F' : Hp} {ρ ρ' : Rho} {σ : St} {H H' : Hp}
theorem plain_io {i : Nat} (h : plainAt ρ i = true) : isIo ρ i = false := by
  unfold plainAt at h
  unfold isIo
  cases q : ρ[i]? with
  | none => rfl
  | some w => cases w with
    | io xs => rw [q] at h; cases h
    | _ => rfl
theorem wipeR_isIo {i : Nat} (h : isIo ρ i = false) : ∀ vs, isIo (wipeR ρ vs) i = false
  | [] => h
  | v :: vs => isIo_set (wipeR_isIo h vs) fun _ z => by cases z
theorem Rel.wipe (R : Rel K C F ρ σ H) : ∀ vs : List Nat, (∀ v ∈ vs, isIo ρ v = false) → Rel K C F (wipeR ρ vs) (L2.wipe σ vs) H
  | [], _ => R
  | v :: vs, h => (Rel.wipe R vs fun w hw => h w (List.mem_cons_of_mem _ hw)).setNo (wipeR_isIo (h v List.mem_cons_self) vs) none
theorem wipe_get {σ : St} {i : Nat} : ∀ {vs : List Nat}, i ∉ vs → (L2.wipe σ vs)[i]? = σ[i]?
  | [], _ => rfl
  | v :: vs, h => by
    unfold L2.wipe
    rw [List.mem_cons, not_or] at h
    rw [List.getElem?_set_ne (Ne.symm h.1)]
    exact wipe_get h.2
theorem set_eq_self {α : Type} {l : List α} {i : Nat} {x : α} (h : l[i]? = some x) : l.set i x = l := by
  obtain ⟨h1, h2⟩ := List.getElem?_eq_some_iff.mp h
  rw [← h2]
  exact List.set_getElem_self h1
/-- the outer values back, under names that were wiped -/
theorem Rel.restore {ρ0 : Rho} {H0 : Hp} (R0 : Rel K C F ρ0 σ H0) (s : Same F F') : ∀ (vs : List Nat) (ρ : Rho), vs.Nodup → (∀ v ∈ vs, plainAt ρ0 v = true) → (∀ v ∈ vs, isIo ρ v = false) → Rel K C F' ρ (L2.wipe σ vs) H → Rel K C F' (restR ρ0 vs ρ) σ H
  | [], ρ, _, _, _, R => R
  | v :: vs, ρ, nd, hp, hio, R => by
    unfold restR
    have nd := List.nodup_cons.mp nd
    have hv : plainAt ρ0 v = true := hp v List.mem_cons_self
    have hi : isIo ρ v = false := hio v List.mem_cons_self
    have key : ∃ x : Option V, ∃ w, ρ0.getD v .no = w ∧ (∀ xs, w ≠ .io xs) ∧ σ[v]? = some x ∧ Rel K C F' (ρ.set v w) ((L2.wipe σ (v :: vs)).set v x) H := by
      unfold plainAt at hv
      cases q : ρ0[v]? with
      | none => rw [q] at hv; cases hv
      | some w =>
        have hlt : v < σ.length := by
          rw [← R0.len]
          exact (List.getElem?_eq_some_iff.mp q).1
        have e0 : ρ0.getD v .no = w := by
          rw [List.getD_eq_getElem?_getD, q]
          rfl
        cases w with
        | no => exact ⟨σ[v], .no, e0, fun _ z => (by cases z), List.getElem?_eq_getElem hlt, R.setNo hi _⟩
        | sh d =>
          obtain ⟨x, h1, h2⟩ := R0.sh v d q
          exact ⟨some x, .sh d, e0, fun _ z => (by cases z), h1, R.setSh hi (h2.mono s)⟩
        | ol xs => rw [q] at hv; cases hv
        | io xs => rw [q] at hv; cases hv
    obtain ⟨x, w, e0, hw, e1, R1⟩ := key
    rw [e0]
    have e2 : (L2.wipe σ (v :: vs)).set v x = L2.wipe σ vs := by
      show ((L2.wipe σ vs).set v none).set v x = _
      rw [List.set_set]
      exact set_eq_self (by rw [wipe_get nd.1]; exact e1)
    rw [e2] at R1
    exact Rel.restore R0 s vs _ nd.2 (fun u hu => hp u (List.mem_cons_of_mem _ hu)) (fun u hu => isIo_set (hio u (List.mem_cons_of_mem _ hu)) hw) R1
theorem wipe_same {σ σ' : St} : ∀ (vs : List Nat), (∀ i, i ∉ vs → σ'[i]? = σ[i]?) → σ'.length = σ.length → L2.wipe σ' vs = L2.wipe σ vs := fun vs h hl => by
  have key : ∀ (vs ws : List Nat) (i : Nat), (∀ v ∈ vs, v ∈ ws) → i ∈ vs → ∀ (τ : St), τ.length = σ.length → (L2.wipe τ vs)[i]? = if i < σ.length then some none else none := by
    intro vs
    induction vs with
    | nil => intro ws i _ hi; cases hi
    | cons v vs ih =>
      intro ws i hs hi τ hτ
      unfold L2.wipe
      by_cases z : v = i
      · subst z
        by_cases hlt : v < σ.length
        · rw [if_pos hlt, List.getElem?_set_self (by rw [L2.wipe_length, hτ]; exact hlt)]
        · rw [if_neg hlt, List.getElem?_eq_none (by rw [List.length_set, L2.wipe_length, hτ]; omega)]
      · rw [List.getElem?_set_ne z]
        exact ih ws i (fun u hu => hs u (List.mem_cons_of_mem _ hu)) ((List.mem_cons.mp hi).resolve_left fun e => z e.symm) τ hτ
  refine List.ext_getElem? fun i => ?_
  by_cases hi : i ∈ vs
  · rw [key vs vs i (fun _ h => h) hi σ' hl, key vs vs i (fun _ h => h) hi σ rfl]
  · rw [wipe_get hi, wipe_get hi]
    exact h i hi
theorem wipe_idem {σ : St} {vs : List Nat} : L2.wipe (L2.wipe σ vs) vs = L2.wipe σ vs := wipe_same vs (fun i hi => wipe_get hi) (L2.wipe_length σ vs)
/-- a lent list stands nowhere else -/
theorem Rel.noIo (R : Rel K C F ρ σ H) {i : Nat} (h : isIo ρ i = false) : C.io i = none := by
  cases q : C.io i with
  | none => rfl
  | some a =>
    obtain ⟨xs, w⟩ := R.ios i a q
    unfold isIo at h
    rw [w] at h
    cases h
theorem Rel.ioNo (R : Rel K C F ρ σ H) {i : Nat} (h : C.io i = none) : isIo ρ i = false := by
  unfold isIo
  cases q : ρ[i]? with
  | none => rfl
  | some w => cases w with
    | io xs =>
      obtain ⟨a, _, h0, _⟩ := R.io i xs q
      rw [h] at h0
      cases h0
    | _ => rfl
end
theorem le5 {n : Nat} (h : n < 5000) : n < sizeLine := Nat.lt_of_lt_of_le h (by decide)
section
variable {X : Cx} {W W' : WX} {pos : Pos} {elt tg iter : Expr} {ifs : List Expr} {scope : Scope} {own : List (Str × Nat)} {it : MI} {bd : Bd} {is : List Nat} {gc : MB} {fe : ME}
abbrev WN : WX := fun _ _ _ _ => False
theorem lcTurn_ok {K : PySem.W.Frag} {mg : Str → Option Value} {C : Fm} {F : Hp} {ρ : Rho} {σ0 : St} {H : Hp} {x : V} {d : D} {vs : List Nat} {o : Option D} {ρ' : Rho} {Qn : Hp → Prop} {p : Addr} {acc : List V} {accD : List D}
    (R : Rel K (C.guard p acc) F ρ (L2.wipe σ0 vs) H) (hv : ∀ v ∈ vs, C.io v = none) (hsub : ∀ i ∈ is, i ∈ vs) (hio : ∀ i, C.io i ≠ some p) (hF : C.F0 p = none) (h0 : C.H0 p = none) (ha : DRs K F acc accD) (hx : DR K F x d) (hz : acc.length < 5000)
    (e : lcTurn bd gc fe vs d ρ = .ok o ρ')
    (hN : ∀ F' H', Same F F' → Rel K (C.guard p acc) F' ρ' (L2.wipe σ0 vs) H' → o = none → Qn H')
    (hS : ∀ F' H' y v, Same F F' → o = some y → DR K F' v y → Rel K (C.guard p (acc ++ [v])) F' ρ' (L2.wipe σ0 vs) (upd H' p (.lst (acc ++ [v]))) → Qn (upd H' p (.lst (acc ++ [v])))) :
    tgG K is bd x (L2.wipe σ0 vs) H fun σ2 H2 => L2.wipe σ2 vs = L2.wipe σ0 vs ∧ tG K mg WN relB gc σ2 H2 fun b H3 =>
      if b = true then tG K mg WN (relE K) fe σ2 H3 fun y H4 => ∃ acc, H4 p = some (.lst acc) ∧ acc.length < sizeLine ∧ Qn (upd H4 p (.lst (acc ++ [y]))) else Qn H3 := by
  unfold lcTurn at e
  refine ⟨C.guard p acc, F, ρ, d, R, hx, ?_⟩
  cases q : bd d ρ with
  | none => simp only [q] at e; cases e
  | some ρ1 =>
    simp only [q] at e
    intro σ2 e2 l2 R2
    have hw : L2.wipe σ2 vs = L2.wipe σ0 vs := (wipe_same vs (fun i hi => e2 i fun z => hi (hsub i z)) l2).trans wipe_idem
    refine ⟨hw, C.guard p acc, F, ρ1, R2, ?_⟩
    have wR : ∀ {F' ρ4 H' a}, Rel K (C.guard p a) F' ρ4 σ2 H' → Rel K (C.guard p a) F' (wipeR ρ4 vs) (L2.wipe σ0 vs) H' := fun {F' ρ4 H' a} R4 => by
      have := R4.wipe vs fun v hv' => R4.ioNo (show (C.guard p a).io v = none from hv v hv')
      rw [hw] at this
      exact this
    cases q1 : gc ρ1 with
    | bad => rw [q1] at e; cases e
    | exc x ρ2 => rw [q1] at e; cases e
    | ok t ρ2 =>
      rw [q1, Out.bind_ok] at e
      intro b F3 H3 s3 R3 hb
      cases hb
      cases t with
      | false =>
        have e : Out.ok none (wipeR ρ2 vs) = Out.ok o ρ' := e
        cases e
        exact hN F3 H3 s3 (wR R3) rfl
      | true =>
        have e : ((fe ρ2).bind fun u ρ3 => match keep u ρ3 with
          | none => .bad
          | some (x, ρ4) => .ok (some x) (wipeR ρ4 vs)) = Out.ok o ρ' := e
        refine ⟨C.guard p acc, F3, ρ2, R3, ?_⟩
        cases q2 : fe ρ2 with
        | bad => rw [q2] at e; cases e
        | exc x ρ3 => rw [q2] at e; cases e
        | ok u ρ3 =>
          rw [q2, Out.bind_ok] at e
          intro y F4 H4 s4 R4 r4
          cases q3 : keep u ρ3 with
          | none => simp only [q3] at e; cases e
          | some pr =>
            obtain ⟨z, ρ4⟩ := pr
            simp only [q3] at e
            cases e
            obtain ⟨F5, s5, R5, r5⟩ := VR.keep R4 r4 q3
            obtain ⟨g1, g2, g3⟩ := R5.guarded hio hF
            refine ⟨acc, g1, le5 hz, ?_⟩
            have R6 : Rel K C F5 ρ4 σ2 H4 := R5.unguard h0
            have R7 : Rel K C F5 ρ4 σ2 (upd H4 p (.lst (acc ++ [y]))) := by
              refine ⟨R6.len, fun b o hb => ?_, R6.f0, R6.fz, fun b o hb n => ?_, fun b hb => ?_, R6.sh, fun i xs hi => ?_, fun i xs hi => ?_, R6.ios, R6.inj⟩
              · have z : b ≠ p := fun z => by subst z; rw [g2] at hb; cases hb
                rw [upd_ne z]
                exact R6.sub b o hb
              · have z : b ≠ p := fun z => by subst z; rw [h0] at hb; cases hb
                rw [upd_ne z]
                exact R6.fr b o hb n
              · by_cases z : b = p
                · subst z; rw [upd_same]; simp
                · rw [upd_ne z]; exact R6.dom b hb
              · obtain ⟨a, ws, h1, h2, h3, h4, h5⟩ := R6.ol i xs hi
                have z : a ≠ p := fun z => by subst z; exact g3 i ⟨xs, .inl hi⟩ h1
                exact ⟨a, ws, h1, h2, h3, by rw [upd_ne z]; exact h4, h5⟩
              · obtain ⟨a, ws, h1, h2, h3, h4, h5⟩ := R6.io i xs hi
                have z : a ≠ p := fun z => by subst z; exact g3 i ⟨xs, .inr hi⟩ h2
                exact ⟨a, ws, h1, h2, h3, by rw [upd_ne z]; exact h4, h5⟩
            have R8 := R7.guard (p := p) (vs := acc ++ [y]) h0 g2 upd_same g3
            exact hS F5 H4 z y ((s3.trans s4).trans s5) rfl r5 (wR R8)
theorem imp_lc (hsub : ∀ i ∈ is, i ∈ own.map (·.2)) (hnd : (own.map (·.2)).Nodup) {σ : St} {H : Hp} {Q : VK} (h : tG X.K X.mg W (relE X.K) (eLc it bd gc fe (own.map (·.2))) σ H Q) :
    tLc (tG X.K X.mg W (relI X.K) it) (tgG X.K is bd) (tG X.K X.mg WN relB gc) (tG X.K X.mg WN (relE X.K) fe) (own.map (·.2)) σ H Q := by
  obtain ⟨C, F, ρ, R, h⟩ := h
  exact ⟨C, F, ρ, R, Post.bind h fun ds ρ1 J F1 H1 s1 R1 r1 h1 => by
    have I : ItOk X.K J F1 ds := r1
    generalize hvs : own.map (·.2) = vs at h1 hsub hnd ⊢
    cases hp : (vs.all (plainAt ρ1) && decide (ds.length ≤ 5000)) with
    | false =>
      have h1 : Post X.K X.mg W C F1 σ (relE X.K C σ) (if (vs.all (plainAt ρ1) && decide (ds.length ≤ 5000)) = true then _ else .bad) Q := h1
      rw [hp] at h1
      exact h1.elim
    | true =>
      have h1 : Post X.K X.mg W C F1 σ (relE X.K C σ) (if (vs.all (plainAt ρ1) && decide (ds.length ≤ 5000)) = true then (match lcG bd gc fe vs ds [] (wipeR ρ1 vs) with
        | .ok acc ρ2 => .ok (.nw acc) (restR ρ1 vs ρ2)
        | _ => .bad) else .bad) Q := h1
      rw [hp, if_pos rfl] at h1
      obtain ⟨hpl, hlen⟩ := Bool.and_eq_true_iff.mp hp
      have hlen := of_decide_eq_true hlen
      have hpl : ∀ v ∈ vs, plainAt ρ1 v = true := fun v hv => List.all_eq_true.mp hpl v hv
      have hiov : ∀ v ∈ vs, C.io v = none := fun v hv => R1.noIo (plain_io (hpl v hv))
      intro p hpn
      have h0 : C.H0 p = none := R1.hnone hpn
      have hf : F1 p = none := R1.fnone hpn
      have hF : C.F0 p = none := R1.f0none hf
      have hio : ∀ i, C.io i ≠ some p := fun k e => by
        obtain ⟨ys, q⟩ := R1.ios k p e
        obtain ⟨a', ws, q0, q1, _, q4, _⟩ := R1.io k ys q
        rw [e] at q0
        cases q0
        rw [hpn] at q4
        cases q4
      cases q : lcG bd gc fe vs ds [] (wipeR ρ1 vs) with
      | bad => rw [q] at h1; exact h1.elim
      | exc e ρ' => rw [q] at h1; exact h1.elim
      | ok res ρ2 =>
        rw [q] at h1
        have Rw : Rel X.K (C.guard p []) F1 (wipeR ρ1 vs) (L2.wipe σ vs) (upd H1 p (.lst [])) := by
          have Ra := ((R1.alloc (p := p) (o := .lst []) hpn)).guard (vs := []) h0 hf upd_same (R1.ownNe hpn)
          exact Ra.wipe vs fun v hv => plain_io (hpl v hv)
        refine ⟨fun i m H => m = ds.length - i ∧ i ≤ ds.length ∧ ∃ F ρ acc accD, Same F1 F ∧ Rel X.K (C.guard p acc) F ρ (L2.wipe σ vs) H ∧ DRs X.K F acc accD ∧ accD.length ≤ i ∧ lcG bd gc fe vs (ds.drop i) accD ρ = .ok res ρ2,
          ⟨ds.length, by simp, Nat.zero_le _, F1, wipeR ρ1 vs, [], [], Same.refl F1, Rw, .nil, Nat.zero_le _, q⟩, ?_⟩
        rintro i m H ⟨rfl, hil, F2, ρ3, acc, accD, s2, R2, ra, hla, q2⟩
        by_cases hlt : i < ds.length
        · have e : ds[i]? = some ds[i] := List.getElem?_eq_getElem hlt
          have ed : ds.drop i = ds[i] :: ds.drop (i + 1) := List.drop_eq_getElem_cons hlt
          rw [ed] at q2
          unfold lcG at q2
          refine .inr ⟨I.go i H (s2.trans R2.sub) hlt, fun H' => ∃ F ρ acc accD, Same F1 F ∧ Rel X.K (C.guard p acc) F ρ (L2.wipe σ vs) H' ∧ DRs X.K F acc accD ∧ accD.length ≤ i + 1 ∧ lcG bd gc fe vs (ds.drop (i + 1)) accD ρ = .ok res ρ2,
            fun H' ⟨F, ρ, acc, accD, a, b, c, d, e⟩ => ⟨ds.length - (i + 1), by omega, rfl, hlt, F, ρ, acc, accD, a, b, c, d, e⟩, fun x H' y => ?_⟩
          obtain ⟨F3, s3, R3, r3⟩ := R2.step s2 (I.yld i H x H' (s2.trans R2.sub) y _ e)
          cases q3 : lcTurn bd gc fe vs ds[i] ρ3 with
          | bad => rw [q3] at q2; cases q2
          | exc e ρ' => rw [q3] at q2; cases q2
          | ok o ρ4 =>
            have hacc : acc.length < 5000 := by
              rw [ra.length]
              omega
            refine lcTurn_ok (mg := X.mg) R3 hiov hsub hio hF h0 (ra.mono s3) r3 hacc q3 (fun F' H' s R ho => ?_) (fun F' H' y v s ho ry R => ?_)
            · subst ho
              rw [q3] at q2
              exact ⟨F', ρ4, acc, accD, (s2.trans s3).trans s, R, (ra.mono s3).mono s, Nat.le_succ_of_le hla, q2⟩
            · subst ho
              rw [q3] at q2
              exact ⟨F', ρ4, acc ++ [v], accD ++ [y], (s2.trans s3).trans s, R, ((ra.mono s3).mono s).append (.one ry), by rw [List.length_append]; exact Nat.succ_le_succ hla, q2⟩
        · have e : i = ds.length := by omega
          have ed : ds.drop i = [] := List.drop_eq_nil_of_le (by omega)
          rw [ed] at q2
          cases q2
          refine .inl ⟨I.stop i H (s2.trans R2.sub) e, ?_⟩
          obtain ⟨g1, g2, g3⟩ := R2.guarded hio hF
          have hio2 : ∀ v ∈ vs, isIo ρ2 v = false := fun v hv => R2.ioNo (show (C.guard p acc).io v = none from hiov v hv)
          have R4 : Rel X.K C F2 (restR ρ1 vs ρ2) σ H := R1.restore s2 vs ρ2 hnd hpl hio2 (R2.unguard h0)
          refine h1 (.ref p) F2 H s2 R4 ⟨p, acc, rfl, h0, g2, g1, ra, fun j hj ej => ?_⟩
          obtain ⟨a, ws, xs, k1, k2, k3, k4, k5⟩ := R4.ownAt hj
          rw [ej] at k1
          cases k1
          by_cases hjv : j ∈ vs
          · -- a wiped slot is plain
            have key : ∀ (vs : List Nat) (ρ : Rho), vs.Nodup → j ∈ vs → (restR ρ1 vs ρ).length = ρ.length ∧ (j < ρ.length → (restR ρ1 vs ρ)[j]? = some (ρ1.getD j .no)) := by
              intro vs
              induction vs with
              | nil => intro ρ _ hj; cases hj
              | cons v vs ih =>
                intro ρ nd hj
                have nd := List.nodup_cons.mp nd
                have lenR : ∀ (vs : List Nat) (ρ : Rho), (restR ρ1 vs ρ).length = ρ.length := by
                  intro vs
                  induction vs with
                  | nil => intro ρ; rfl
                  | cons v vs ih => intro ρ; unfold restR; rw [ih, List.length_set]
                have outR : ∀ (vs : List Nat) (ρ : Rho), j ∉ vs → (restR ρ1 vs ρ)[j]? = ρ[j]? := by
                  intro vs
                  induction vs with
                  | nil => intro ρ _; rfl
                  | cons v vs ih =>
                    intro ρ hn
                    rw [List.mem_cons, not_or] at hn
                    unfold restR
                    rw [ih _ hn.2, List.getElem?_set_ne (Ne.symm hn.1)]
                refine ⟨lenR _ _, fun hlt => ?_⟩
                unfold restR
                rcases List.mem_cons.mp hj with z | z
                · subst z
                  rw [outR _ _ nd.1, List.getElem?_set_self hlt]
                · exact (ih _ nd.2 z).2 (by rw [List.length_set]; exact hlt)
            have hlen2 : (restR ρ1 vs ρ2).length = σ.length := R4.len
            have k6 := key vs ρ2 hnd hjv
            have hjl : j < ρ2.length := by
              rw [← k6.1, hlen2]
              exact (List.getElem?_eq_some_iff.mp ej).1
            have k7 := k6.2 hjl
            have k8 := hpl j hjv
            unfold plainAt at k8
            rw [List.getD_eq_getElem?_getD] at k7
            cases w : ρ1[j]? with
            | none => rw [w] at k8; cases k8
            | some t =>
              rw [w] at k7 k8
              cases t with
              | no => rcases k5 with k5 | k5 <;> rw [k7] at k5 <;> cases k5
              | sh d => rcases k5 with k5 | k5 <;> rw [k7] at k5 <;> cases k5
              | ol zs => cases k8
              | io zs => cases k8
          · have outR : ∀ (vs : List Nat) (ρ : Rho), j ∉ vs → (restR ρ1 vs ρ)[j]? = ρ[j]? := by
              intro vs
              induction vs with
              | nil => intro ρ _; rfl
              | cons v vs ih =>
                intro ρ hn
                rw [List.mem_cons, not_or] at hn
                unfold restR
                rw [ih _ hn.2, List.getElem?_set_ne (Ne.symm hn.1)]
            refine g3 j ?_ (by rw [wipe_get hjv]; exact ej)
            rw [outR vs ρ2 hjv] at k5
            exact ⟨xs, k5⟩⟩
theorem se_lc (hc : X.calm = true) (hN : X.N.Nodup) (ok : BlkOk X.N X.env.scope scope own) (hi : SI X W tg iter it)
    (hg : ∀ (s : Shared) (H : Hp) (C : Addr) (cl : List (Str × Addr)) (fp : List Addr), SG (X.blk s H scope (compEnvC scope cl C X.env) fp) tg is bd) (ht : ∀ (s : Shared) (H : Hp) (C : Addr) (cl : List (Str × Addr)) (fp : List Addr), STs (X.blk s H scope (compEnvC scope cl C X.env) fp) WN ifs gc)
    (he : ∀ (s : Shared) (H : Hp) (C : Addr) (cl : List (Str × Addr)) (fp : List Addr), SE (X.blk s H scope (compEnvC scope cl C X.env) fp) WN elt fe) (hsub : ∀ i ∈ is, i ∈ own.map (·.2) := by decide) (hnd : (own.map (·.2)).Nodup := by decide)
    (hs : ∀ x, foldedSetIterable iter X.env x = pure x := by intro _; rfl) : SE X W (.ListComp elt [⟨tg, iter, ifs, 0⟩] scope pos) (eLc it bd gc fe (own.map (·.2))) :=
  PE.imp (pe_lc (g := tgG X.K is bd) (tt := tG X.K X.mg WN relB gc) (te := tG X.K X.mg WN (relE X.K) fe) hc hN hi ok hg ht he hs) fun σ H Q h => imp_lc hsub hnd h
theorem ss_setLc {i : Nat} {y : Str} {py spos : Pos} (hc : X.calm = true) (hN : X.N.Nodup) (hy : X.N[i]? = some y) (hyl : X.env.scope.names.lookup y = some .local) (hk : X.env.scope.kind = .function) (hl : (py.line == pos.line) = true)
    (hfr : (scope.names.any fun (n, k) => n == y && (k == .local || k == .cell)) = false) (ok : BlkOk X.N X.env.scope scope own) (hi : SI X W tg iter it)
    (hg : ∀ (s : Shared) (H : Hp) (C : Addr) (cl : List (Str × Addr)) (fp : List Addr), SG (X.blk s H scope (compEnvC scope cl C X.env) fp) tg is bd) (ht : ∀ (s : Shared) (H : Hp) (C : Addr) (cl : List (Str × Addr)) (fp : List Addr), STs (X.blk s H scope (compEnvC scope cl C X.env) fp) WN ifs gc)
    (he : ∀ (s : Shared) (H : Hp) (C : Addr) (cl : List (Str × Addr)) (fp : List Addr), SE (X.blk s H scope (compEnvC scope cl C X.env) fp) WN elt fe) (hsub : ∀ i ∈ is, i ∈ own.map (·.2) := by decide) (hnd : (own.map (·.2)).Nodup := by decide)
    (hs : ∀ x, foldedSetIterable iter X.env x = pure x := by intro _; rfl) : SS X W (.Assign [.Name y py] (.ListComp elt [⟨tg, iter, ifs, 0⟩] scope pos) spos) (gSet i (eLc it bd gc fe (own.map (·.2)))) :=
  PS.imp (ps_setLc (i := i) (g := tgG X.K is bd) (tt := tG X.K X.mg WN relB gc) (te := tG X.K X.mg WN (relE X.K) fe) hc hN hy hyl (sw_true hk hyl hl hfr) hi ok hg ht he hs) fun D σ H h => imp_lc hsub hnd (imp_set h)
end
end FB
namespace FB
open PySem PySem.Spec L2

/-! ### data read by the library's Reads -/
mutual
theorem DR.dp {K : PySem.W.Frag} {F : Hp} : ∀ {v : V} {d : D}, DR K F v d → d.canLay0 = true → Dp K F v d
  | _, _, .non, _ => .non
  | _, _, .bl b, _ => .bl b
  | _, _, .int i, _ => .int i
  | _, _, .str x, _ => .str x
  | _, _, .lst h t, c => .lst h (DRs.dp t (by simpa [PyData.canLay0] using c))
  | _, _, .tup h _ t, c => .tup h (DRs.dp t (by simpa [PyData.canLay0] using c))
  | _, _, .dic _ _ _, c => by simp [PyData.canLay0] at c
theorem DRs.dp {K : PySem.W.Frag} {F : Hp} : ∀ {vs : List V} {ds : List D}, DRs K F vs ds → PyData.canLayAll0 ds = true → DpAll K F vs ds
  | _, _, .nil, _ => .nil
  | _, _, .cons h t, c => by
    rw [PyData.canLayAll0, Bool.and_eq_true] at c
    exact .cons (DR.dp h c.1) (DRs.dp t c.2)
end
section
variable {K : PySem.W.Frag} {C : Fm} {F F' : Hp} {ρ : Rho} {σ : St} {H : Hp} {v : V} {d : D}
theorem DT.dp (R : Rel K C F ρ σ H) (h : DT K F H v d) (c : d.canLay0 = true) : Dp K H v d := by
  cases h with
  | dr h => exact (h.mono R.sub).dp c
  | cell ha r => exact .lst (.inl (.inl ha)) ((r.mono R.sub).dp (by simpa [PyData.canLay0] using c))
/-- a list on the spot: its cell in H, its items -/
theorem DT.list {xs : List D} (R : Rel K C F ρ σ H) (h : DT K F H v (.list xs)) : ∃ a vs, v = .ref a ∧ SqL K H a vs ∧ DRs K F vs xs := by
  cases h with
  | dr h =>
    cases h with
    | lst h1 h2 => exact ⟨_, _, rfl, seqL R.sub h1, h2⟩
  | cell ha r => exact ⟨_, _, rfl, .inl (.inl ha), r⟩
theorem DT.tuple {xs : List D} (R : Rel K C F ρ σ H) (h : DT K F H v (.tuple xs)) : ∃ a vs, v = .ref a ∧ SqT K H a vs ∧ DRs K F vs xs ∧ DR K F v (.tuple xs) := by
  cases h with
  | dr h =>
    have h' := h
    cases h with
    | tup h1 _ h2 => exact ⟨_, _, rfl, seqT R.sub h1, h2, h'⟩
theorem DT.intE {i : Int} (h : DT K F H v (.int i)) : v = .int i := by
  cases h with
  | dr h => exact h.intOf
theorem DT.strE {x : Str} (h : DT K F H v (.str x)) : v = .str x := by
  cases h with
  | dr h => cases h; rfl
theorem DT.boolE {b : Bool} (h : DT K F H v (.bool b)) : v = .bl b := by
  cases h with
  | dr h => cases h; rfl
theorem DT.nonE (h : DT K F H v .none) : v = .non := by
  cases h with
  | dr h => cases h; rfl
end
/-! ### arithmetic -/
def rCatR (K : PySem.W.Frag) : R2 := fun x y H Q => ∃ l b xs zs, x = .ref l ∧ y = .ref b ∧ SqL K H l xs ∧ SqL K H b zs ∧ xs.length + zs.length ≤ sizeLine ∧ ∀ p, H p = none → Q (.ref p) (upd H p (.lst (xs ++ zs)))
theorem op_catR {X : Cx} : OpR X (binaryOp .Add) (rCatR X.K) := by
  intro pins s σ H x y v u Q I rx ry h
  obtain ⟨l, b, xs, zs, rfl, rfl, hH, hB, hz, q⟩ := h
  cases rx; cases ry
  obtain ⟨its, r, ⟨⟨c1, d1, t1, sl1⟩, n, e, k1, k2, k3⟩, z⟩ := I.list hH
  obtain ⟨its2, r2, ⟨⟨c2, d2, t2, sl2⟩, n2, e2, j1, j2, j3⟩, z2⟩ := I.list hB
  simp only at k1 k2 k3 j1 j2 j3
  subst k1 k2 k3 j1 j2 j3
  have hl := r.length; have hl2 := r2.length
  refine concat_meets ⟨_, e, rfl⟩ ⟨_, e2, rfl⟩ noFill_list_add seq_list_add PySem.F.slot_list_add PySem.F.entry_list_add (PySem.F.args_list_add_2 _ _) (PyProof.Rows.list_addW l b its.toArray its2.toArray n n2 none none sl1 sl2 (by rw [List.size_toArray, List.size_toArray]; omega)) ⟨e, e2, ?_⟩
  have ea : its.toArray ++ its2.toArray = (its ++ its2).toArray := by simp
  rw [ea]
  exact ⟨.ref _, _, I.lnew (t' := s.toks) (r.append r2) (by rw [List.length_append]; omega), rfl, q _ I.fresh⟩
def gAdd : D → D → Option Vl
  | .int i, .int j => some (.d (.int (i + j)))
  | .str x, .str y => if x.length + y.length ≤ 16000000 then some (.d (.str (x ++ y))) else none
  | .list xs, .list ys => if xs.length + ys.length ≤ 1000 then some (.nw (xs ++ ys)) else none
  | .tuple xs, .tuple ys => if xs.length + ys.length ≤ 1000 then some (.d (.tuple (xs ++ ys))) else none
  | _, _ => none
def rAddAll (K : PySem.W.Frag) : R2 := fun x y H Q => (((rI0 fun i j => .int (i + j)) x y H Q ∨ ∃ i j, x = .str i ∧ y = .str j ∧ i.length + j.length ≤ sizeLine ∧ Q (.str (i ++ j)) H) ∨ rCatR K x y H Q) ∨ rCatN K x y H Q
theorem op_addAll {X : Cx} : OpR X (binaryOp .Add) (rAddAll X.K) := ((op_add.or op_add_str).or op_catR).or op_catN
theorem big16 {n : Nat} (h : n ≤ 16000000) : n ≤ sizeLine := Nat.le_trans h (by decide)
theorem od_add {K : PySem.W.Frag} : OpD K (rAddAll K) gAdd := by
  intro C F ρ σ H x y d e z Q R hx hy hg k
  match d, e, hg with
  | .int i, .int j, hg =>
    cases hg
    exact .inl (.inl (.inl ⟨i, j, hx.intE, hy.intE, k _ F H (Same.refl F) R (.int _)⟩))
  | .str a, .str b, hg =>
    simp only [gAdd] at hg
    by_cases hl : a.length + b.length ≤ 16000000
    · rw [if_pos hl] at hg
      cases hg
      exact .inl (.inl (.inr ⟨a, b, hx.strE, hy.strE, big16 hl, k _ F H (Same.refl F) R (.str _)⟩))
    · rw [if_neg hl] at hg
      cases hg
  | .list xs, .list ys, hg =>
    simp only [gAdd] at hg
    by_cases hl : xs.length + ys.length ≤ 1000
    · rw [if_pos hl] at hg
      cases hg
      obtain ⟨a, vs, rfl, h1, h2⟩ := hx.list R
      obtain ⟨b, ws, rfl, h3, h4⟩ := hy.list R
      exact .inl (.inr ⟨a, b, vs, ws, rfl, rfl, h1, h3, by rw [h2.length, h4.length]; exact le_size hl, fun p hp => k _ F _ (Same.refl F) (R.alloc hp) (VR.fresh R hp (h2.append h4))⟩)
    · rw [if_neg hl] at hg
      cases hg
  | .tuple xs, .tuple ys, hg =>
    simp only [gAdd] at hg
    by_cases hl : xs.length + ys.length ≤ 1000
    · rw [if_pos hl] at hg
      cases hg
      obtain ⟨a, vs, rfl, h1, h2, h2'⟩ := hx.tuple R
      obtain ⟨b, ws, rfl, h3, h4, h4'⟩ := hy.tuple R
      refine .inr ⟨a, b, vs, ws, rfl, rfl, h1, h3, by rw [h2.length, h4.length]; exact le_size hl, fun e => ?_, fun _ e => ?_, fun _ _ p its hp => ?_⟩
      · subst e
        cases h2
        exact k _ F H (Same.refl F) R h4'
      · subst e
        cases h4
        refine k _ F H (Same.refl F) R ?_
        rw [List.append_nil]
        exact h2'
      · have s := same_new (o := HO.frz (tObj its) (.tup (vs ++ ws))) (R.fnone hp)
        exact k _ _ _ s (R.allocS hp) (.tup (.inl (.inr ⟨_, upd_same⟩)) (.inl ⟨_, _, upd_same⟩) ((h2.append h4).mono s))
    · rw [if_neg hl] at hg
      cases hg
/-- two ints in, data out -/
def gI (c : Int → Int → Bool) (g : Int → Int → D) : D → D → Option Vl
  | .int i, .int j => if c i j then some (.d (g i j)) else none
  | _, _ => none
theorem od_I {K : PySem.W.Frag} {Cn : Int → Int → Prop} {c : Int → Int → Bool} {g : Int → Int → D} {gv : Int → Int → V} (hc : ∀ i j, c i j = true → Cn i j) (hg : ∀ F i j, DR K F (gv i j) (g i j)) : OpD K (rI Cn gv) (gI c g) := by
  intro C F ρ σ H x y d e z Q R hx hy hgz k
  match d, e, hgz with
  | .int i, .int j, hgz =>
    simp only [gI] at hgz
    by_cases h : c i j = true
    · rw [if_pos h] at hgz
      cases hgz
      exact ⟨i, j, hx.intE, hy.intE, hc i j h, k _ F H (Same.refl F) R (hg F i j)⟩
    · rw [if_neg h] at hgz
      cases hgz
theorem od_I0 {K : PySem.W.Frag} {g : Int → Int → D} {gv : Int → Int → V} (hg : ∀ F i j, DR K F (gv i j) (g i j)) : OpD K (rI0 gv) (gI (fun _ _ => true) g) := by
  intro C F ρ σ H x y d e z Q R hx hy hgz k
  match d, e, hgz with
  | .int i, .int j, hgz =>
    cases hgz
    exact ⟨i, j, hx.intE, hy.intE, k _ F H (Same.refl F) R (hg F i j)⟩
def gSub : D → D → Option Vl := gI (fun _ _ => true) fun i j => .int (i - j)
theorem od_sub {K : PySem.W.Frag} : OpD K (rI0 fun i j => .int (i - j)) gSub := od_I0 fun _ _ _ => .int _
def gFdiv : D → D → Option Vl := gI (fun i j => decide (0 < j) && decide (j.natAbs.log2 < 9000)) fun i j => .int (i / j)
theorem od_fdiv {K : PySem.W.Frag} : OpD K (rI CDivW fun i j => .int (i / j)) gFdiv := od_I (fun i j h => by
  obtain ⟨h1, h2⟩ := Bool.and_eq_true_iff.mp h
  exact ⟨of_decide_eq_true h1, of_decide_eq_true h2⟩) fun _ _ _ => .int _
def gMod : D → D → Option Vl := gI (fun _ j => decide (0 < j)) fun i j => .int (i % j)
theorem od_mod {K : PySem.W.Frag} : OpD K (rI (fun _ j => 0 < j) fun i j => .int (i % j)) gMod := od_I (fun _ _ h => of_decide_eq_true h) fun _ _ _ => .int _
def gPow : D → D → Option Vl := gI (fun i j => decide (0 ≤ j) && decide (j ≤ 1000000) && decide (i.natAbs < 2 ^ 64)) fun i j => .int (i ^ j.toNat)
theorem od_pow {K : PySem.W.Frag} : OpD K (rI CPow fun i j => .int (i ^ j.toNat)) gPow := od_I (fun i j h => by
  obtain ⟨h, h3⟩ := Bool.and_eq_true_iff.mp h
  obtain ⟨h1, h2⟩ := Bool.and_eq_true_iff.mp h
  exact ⟨of_decide_eq_true h1, of_decide_eq_true h2, of_decide_eq_true h3⟩) fun _ _ _ => .int _
def gShl : D → D → Option Vl := gI (fun i j => decide (0 ≤ j) && decide (j ≤ 1000000) && decide (i.natAbs < 2 ^ 64)) fun i j => .int (i * 2 ^ j.toNat)
theorem od_shl {K : PySem.W.Frag} : OpD K (rI CPow fun i j => .int (i * 2 ^ j.toNat)) gShl := od_I (fun i j h => by
  obtain ⟨h, h3⟩ := Bool.and_eq_true_iff.mp h
  obtain ⟨h1, h2⟩ := Bool.and_eq_true_iff.mp h
  exact ⟨of_decide_eq_true h1, of_decide_eq_true h2, of_decide_eq_true h3⟩) fun _ _ _ => .int _
def gLt : D → D → Option Vl := gI (fun _ _ => true) fun i j => .bool (decide (i < j))
theorem od_lt {K : PySem.W.Frag} : OpD K (rI0 fun i j => .bl (decide (i < j))) gLt := od_I0 fun _ _ _ => .bl _
def gLe : D → D → Option Vl := gI (fun _ _ => true) fun i j => .bool (decide (i ≤ j))
theorem od_le {K : PySem.W.Frag} : OpD K (rI0 fun i j => .bl (decide (i ≤ j))) gLe := od_I0 fun _ _ _ => .bl _
def gGt : D → D → Option Vl := gI (fun _ _ => true) fun i j => .bool (decide (j < i))
theorem od_gt {K : PySem.W.Frag} : OpD K (rI0 fun i j => .bl (decide (j < i))) gGt := od_I0 fun _ _ _ => .bl _
def gGe : D → D → Option Vl := gI (fun _ _ => true) fun i j => .bool (decide (j ≤ i))
theorem od_ge {K : PySem.W.Frag} : OpD K (rI0 fun i j => .bl (decide (j ≤ i))) gGe := od_I0 fun _ _ _ => .bl _
/-- *: ints, a list times an int, a text times an int -/
def gMul : D → D → Option Vl := gI (fun i j => decide (i.natAbs.log2 + j.natAbs.log2 < 1000000)) fun i j => .int (i * j)
theorem od_mul {K : PySem.W.Frag} : OpD K (rI CMulW fun i j => .int (i * j)) gMul := od_I (fun i j h => of_decide_eq_true (p := i.natAbs.log2 + j.natAbs.log2 < 1000000) h) fun _ _ _ => .int _
/-! ### ==, in, is -/
def gEq : D → D → Option Vl := fun d e => if SeqAt.shaped d && SeqAt.shaped e then some (.d (.bool (PyData.eqv d e))) else match d, e with
  | .str a, .str b => some (.d (.bool ((a == b))))
  | _, _ => none
def rEqS (K : PySem.W.Frag) : R2 := fun x y H Q => rEqD K x y H Q ∨ rEq x y H Q
theorem op_eqS {X : Cx} (hu : X.A.units + 64 < cLine) : OpR X (compareOp .Eq) (rEqS X.K) := (op_eqD hu).or op_eq
theorem od_eq {K : PySem.W.Frag} : OpD K (rEqS K) gEq := by
  intro C F ρ σ H x y d e z Q R hx hy hg k
  unfold gEq at hg
  by_cases h : (SeqAt.shaped d && SeqAt.shaped e) = true
  · rw [if_pos h] at hg
    cases hg
    obtain ⟨h1, h2⟩ := Bool.and_eq_true_iff.mp h
    exact .inl ⟨d, e, hx.dp R (SeqAt.canLay_of_shaped h1), hy.dp R (SeqAt.canLay_of_shaped h2), h1, h2, k _ F H (Same.refl F) R (.bl _)⟩
  · rw [if_neg h] at hg
    cases d with
    | str a =>
      cases e with
      | str b =>
        cases hg
        have e1 := hx.strE; have e2 := hy.strE
        subst e1 e2
        refine .inr ⟨rfl, ?_⟩
        rw [dec_str]
        exact k _ F H (Same.refl F) R (.bl _)
      | _ => cases hg
    | _ => cases hg
def gNe : D → D → Option Vl := fun d e => if SeqAt.shaped d && SeqAt.shaped e then some (.d (.bool (!PyData.eqv d e))) else match d, e with
  | .str a, .str b => some (.d (.bool (!(a == b))))
  | _, _ => none
def rNeS (K : PySem.W.Frag) : R2 := fun x y H Q => rNeD K x y H Q ∨ rNe x y H Q
theorem op_neS {X : Cx} (hu : X.A.units + 64 < cLine) : OpR X (compareOp .NotEq) (rNeS X.K) := (op_neD hu).or op_ne
theorem od_ne {K : PySem.W.Frag} : OpD K (rNeS K) gNe := by
  intro C F ρ σ H x y d e z Q R hx hy hg k
  unfold gNe at hg
  by_cases h : (SeqAt.shaped d && SeqAt.shaped e) = true
  · rw [if_pos h] at hg
    cases hg
    obtain ⟨h1, h2⟩ := Bool.and_eq_true_iff.mp h
    exact .inl ⟨d, e, hx.dp R (SeqAt.canLay_of_shaped h1), hy.dp R (SeqAt.canLay_of_shaped h2), h1, h2, k _ F H (Same.refl F) R (.bl _)⟩
  · rw [if_neg h] at hg
    cases d with
    | str a =>
      cases e with
      | str b =>
        cases hg
        have e1 := hx.strE; have e2 := hy.strE
        subst e1 e2
        refine .inr ⟨rfl, ?_⟩
        rw [dec_str]
        exact k _ F H (Same.refl F) R (.bl _)
      | _ => cases hg
    | _ => cases hg
def rInTD (K : PySem.W.Frag) : R2 := fun x y H Q => ∃ d ds, Dp K H x d ∧ Dp K H y (.tuple ds) ∧ SeqAt.shaped d = true ∧ SeqAt.shaped (.tuple ds) = true ∧ Q (.bl (ds.any fun z => PyData.eqv z d)) H
def rNotInTD (K : PySem.W.Frag) : R2 := fun x y H Q => ∃ d ds, Dp K H x d ∧ Dp K H y (.tuple ds) ∧ SeqAt.shaped d = true ∧ SeqAt.shaped (.tuple ds) = true ∧ Q (.bl (!ds.any fun z => PyData.eqv z d)) H
theorem room65 {n m : Nat} {d : D} {A : Around} (sd : SeqAt.shaped d = true) (hu : A.units + 65 < cLine) : A.units + 1 + min n d.depth < cLine := by
  have h1 := SeqAt.depth_of_shaped sd
  have h2 : min n d.depth ≤ d.depth := Nat.min_le_right _ _
  omega
theorem op_inTD {X : Cx} (hu : X.A.units + 65 < cLine) : OpR X (compareOp .In) (rInTD X.K) := by
  intro pins s σ H x y v u Q I rx ry h
  obtain ⟨d, ds, hd, he, sd, se, q⟩ := h
  obtain ⟨as, r1⟩ := Dp.reads I d x v hd rx
  obtain ⟨bs, r2⟩ := Dp.reads I (.tuple ds) y u he ry
  exact SeqAt.in_tuple_reads r2 r1 (SeqAt.canLay_of_shaped se) (SeqAt.canLay_of_shaped sd) (room65 (m := 0) sd hu) ⟨.bl _, H, I, rfl, q⟩
theorem op_notInTD {X : Cx} (hu : X.A.units + 65 < cLine) : OpR X (compareOp .NotIn) (rNotInTD X.K) := by
  intro pins s σ H x y v u Q I rx ry h
  obtain ⟨d, ds, hd, he, sd, se, q⟩ := h
  obtain ⟨as, r1⟩ := Dp.reads I d x v hd rx
  obtain ⟨bs, r2⟩ := Dp.reads I (.tuple ds) y u he ry
  exact SeqAt.notIn_tuple_reads r2 r1 (SeqAt.canLay_of_shaped se) (SeqAt.canLay_of_shaped sd) (room65 (m := 0) sd hu) ⟨.bl _, H, I, rfl, q⟩
def inD (neg : Bool) : D → D → Option D
  | d, .list ds => if SeqAt.shaped d && SeqAt.shaped (.list ds) then some (.bool (neg != ds.any fun z => PyData.eqv z d)) else none
  | d, .tuple ds => if SeqAt.shaped d && SeqAt.shaped (.tuple ds) then some (.bool (neg != ds.any fun z => PyData.eqv z d)) else none
  | .str x, .str z => if x.cps.size = 1 then some (.bool (neg != decide (x.cps.getD 0 0 ∈ z.cps.toList))) else none
  | _, _ => none
def gIn : D → D → Option Vl := fun d e => (inD false d e).map .d
def gNotIn : D → D → Option Vl := fun d e => (inD true d e).map .d
def rInAll (K : PySem.W.Frag) : R2 := fun x y H Q => (rInD K x y H Q ∨ rInTD K x y H Q) ∨ ∃ (c : Nat) (z : Str), x = .str ⟨#[c]⟩ ∧ y = .str z ∧ Q (.bl (decide (c ∈ z.cps.toList))) H
def rNotInAll (K : PySem.W.Frag) : R2 := fun x y H Q => (rNotInD K x y H Q ∨ rNotInTD K x y H Q) ∨ ∃ (c : Nat) (z : Str), x = .str ⟨#[c]⟩ ∧ y = .str z ∧ Q (.bl (!decide (c ∈ z.cps.toList))) H
theorem op_inAll {X : Cx} (hu : X.A.units + 65 < cLine) : OpR X (compareOp .In) (rInAll X.K) := ((op_inD hu).or (op_inTD hu)).or op_in_sign
theorem op_notInAll {X : Cx} (hu : X.A.units + 65 < cLine) : OpR X (compareOp .NotIn) (rNotInAll X.K) := ((op_notInD hu).or (op_notInTD hu)).or op_notIn_sign
theorem str1 {x : Str} (h : x.cps.size = 1) : x = ⟨#[x.cps.getD 0 0]⟩ := by
  obtain ⟨⟨l⟩⟩ := x
  match l, h with
  | [c], _ => rfl
theorem dr_f {K : PySem.W.Frag} {F : Hp} (b : Bool) : DR K F (.bl b) (.bool (false != b)) := by
  rw [Bool.false_bne]
  exact .bl b
theorem dr_t {K : PySem.W.Frag} {F : Hp} (b : Bool) : DR K F (.bl !b) (.bool (true != b)) := by
  rw [Bool.true_bne]
  exact .bl _
theorem od_in {K : PySem.W.Frag} : OpD K (rInAll K) gIn := by
  intro C F ρ σ H x y d e z Q R hx hy hg k
  unfold gIn inD at hg
  split at hg
  · rename_i ds
    by_cases h : (SeqAt.shaped d && SeqAt.shaped (.list ds)) = true
    · rw [if_pos h] at hg
      cases hg
      obtain ⟨h1, h2⟩ := Bool.and_eq_true_iff.mp h
      exact .inl (.inl ⟨d, ds, hx.dp R (SeqAt.canLay_of_shaped h1), hy.dp R (SeqAt.canLay_of_shaped h2), h1, h2, k _ F H (Same.refl F) R (dr_f _)⟩)
    · rw [if_neg h] at hg
      cases hg
  · rename_i ds
    by_cases h : (SeqAt.shaped d && SeqAt.shaped (.tuple ds)) = true
    · rw [if_pos h] at hg
      cases hg
      obtain ⟨h1, h2⟩ := Bool.and_eq_true_iff.mp h
      exact .inl (.inr ⟨d, ds, hx.dp R (SeqAt.canLay_of_shaped h1), hy.dp R (SeqAt.canLay_of_shaped h2), h1, h2, k _ F H (Same.refl F) R (dr_f _)⟩)
    · rw [if_neg h] at hg
      cases hg
  · rename_i a b
    by_cases h : a.cps.size = 1
    · rw [if_pos h] at hg
      cases hg
      refine .inr ⟨a.cps.getD 0 0, b, hx.strE.trans (congrArg V.str (str1 h)), hy.strE, k _ F H (Same.refl F) R (dr_f _)⟩
    · rw [if_neg h] at hg
      cases hg
  · cases hg
theorem od_notIn {K : PySem.W.Frag} : OpD K (rNotInAll K) gNotIn := by
  intro C F ρ σ H x y d e z Q R hx hy hg k
  unfold gNotIn inD at hg
  split at hg
  · rename_i ds
    by_cases h : (SeqAt.shaped d && SeqAt.shaped (.list ds)) = true
    · rw [if_pos h] at hg
      cases hg
      obtain ⟨h1, h2⟩ := Bool.and_eq_true_iff.mp h
      exact .inl (.inl ⟨d, ds, hx.dp R (SeqAt.canLay_of_shaped h1), hy.dp R (SeqAt.canLay_of_shaped h2), h1, h2, k _ F H (Same.refl F) R (dr_t _)⟩)
    · rw [if_neg h] at hg
      cases hg
  · rename_i ds
    by_cases h : (SeqAt.shaped d && SeqAt.shaped (.tuple ds)) = true
    · rw [if_pos h] at hg
      cases hg
      obtain ⟨h1, h2⟩ := Bool.and_eq_true_iff.mp h
      exact .inl (.inr ⟨d, ds, hx.dp R (SeqAt.canLay_of_shaped h1), hy.dp R (SeqAt.canLay_of_shaped h2), h1, h2, k _ F H (Same.refl F) R (dr_t _)⟩)
    · rw [if_neg h] at hg
      cases hg
  · rename_i a b
    by_cases h : a.cps.size = 1
    · rw [if_pos h] at hg
      cases hg
      refine .inr ⟨a.cps.getD 0 0, b, hx.strE.trans (congrArg V.str (str1 h)), hy.strE, k _ F H (Same.refl F) R (dr_t _)⟩
    · rw [if_neg h] at hg
      cases hg
  · cases hg
/-- is None, is not None -/
def D.isNone : D → Bool
  | .none => true
  | _ => false
def gIsN : D → D → Option Vl
  | d, .none => some (.d (.bool (D.isNone d)))
  | _, _ => none
def gNotN : D → D → Option Vl
  | d, .none => some (.d (.bool (!D.isNone d)))
  | _, _ => none
theorem isNone_iff {K : PySem.W.Frag} {F H : Hp} {v : V} {d : D} (h : DT K F H v d) : decide (v = .non) = D.isNone d := by
  cases h with
  | dr h => cases h <;> simp [D.isNone]
  | cell _ _ => simp [D.isNone]
theorem od_isN {K : PySem.W.Frag} : OpD K (fun x y H Q => y = .non ∧ Q (.bl (decide (x = .non))) H) gIsN := by
  intro C F ρ σ H x y d e z Q R hx hy hg k
  cases e <;> try cases hg
  refine ⟨hy.nonE, ?_⟩
  rw [isNone_iff hx]
  exact k _ F H (Same.refl F) R (.bl _)
theorem od_notN {K : PySem.W.Frag} : OpD K (fun x y H Q => y = .non ∧ Q (.bl (!decide (x = .non))) H) gNotN := by
  intro C F ρ σ H x y d e z Q R hx hy hg k
  cases e <;> try cases hg
  refine ⟨hy.nonE, ?_⟩
  rw [isNone_iff hx]
  exact k _ F H (Same.refl F) R (.bl _)
end FB
namespace FB
open PySem PySem.Spec L2

/-! ### subscripts, slices -/
def gIx : D → D → Option Vl
  | .list ds, .int i => (atI ds i).map .d
  | .tuple ds, .int i => (atI ds i).map .d
  | .str z, .int i => if z.length ≤ 16000000 then (atI z.cps.toList i).map fun c => .d (.str ⟨#[c]⟩) else none
  | _, _ => none
theorem DRs.atI {K : PySem.W.Frag} {F : Hp} {vs : List V} {ds : List D} {i : Int} {d : D} (r : DRs K F vs ds) (e : L2.atI ds i = some d) : ∃ v, L2.atI vs i = some v ∧ DR K F v d := by
  unfold L2.atI at e ⊢
  rw [r.length]
  cases q : ixN ds.length i with
  | none => rw [q] at e; cases e
  | some j =>
    rw [q] at e
    obtain ⟨v, h1, h2⟩ := r.get (i := j) e
    exact ⟨v, h1, h2⟩
theorem od_ix {K : PySem.W.Frag} : OpD K (rIx K) gIx := by
  intro C F ρ σ H x y d e z Q R hx hy hg k
  match d, e, hg with
  | .list ds, .int i, hg =>
    simp only [gIx, Option.map_eq_some_iff] at hg
    obtain ⟨c, e, rfl⟩ := hg
    obtain ⟨a, vs, rfl, h1, h2⟩ := hx.list R
    obtain ⟨v, h3, h4⟩ := h2.atI e
    exact .inl ⟨a, vs, i, v, rfl, hy.intE, h1, h3, k _ F H (Same.refl F) R h4⟩
  | .tuple ds, .int i, hg =>
    simp only [gIx, Option.map_eq_some_iff] at hg
    obtain ⟨c, e, rfl⟩ := hg
    obtain ⟨a, vs, rfl, h1, h2, _⟩ := hx.tuple R
    obtain ⟨v, h3, h4⟩ := h2.atI e
    exact .inr (.inl ⟨a, vs, i, v, rfl, hy.intE, h1, h3, k _ F H (Same.refl F) R h4⟩)
  | .str s, .int i, hg =>
    simp only [gIx] at hg
    by_cases hl : s.length ≤ 16000000
    · rw [if_pos hl, Option.map_eq_some_iff] at hg
      obtain ⟨c, e, rfl⟩ := hg
      exact .inr (.inr ⟨s, i, c, hx.strE, hy.intE, big16 hl, e, k _ F H (Same.refl F) R (.str _)⟩)
    · rw [if_neg hl] at hg
      cases hg
def cutD {α : Type} (xs : List α) (lo hi : Option Int) : List α := (xs.drop (HT.sIx xs.length 0 lo)).take (HT.sIx xs.length xs.length hi - HT.sIx xs.length 0 lo)
theorem DRs.cut {K : PySem.W.Frag} {F : Hp} {vs : List V} {ds : List D} {lo hi : Option Int} (r : DRs K F vs ds) : DRs K F (cutV vs lo hi) (cutD ds lo hi) := by
  unfold cutV cutD
  rw [r.length]
  exact (r.drop _).take _
def gSlc : D → Option Int → Option Int → Option Vl
  | .list ds, lo, hi => some (.nw (cutD ds lo hi))
  | .tuple ds, lo, hi => some (.d (.tuple (cutD ds lo hi)))
  | .str z, lo, hi => if z.length ≤ 16000000 then some (.d (.str (cutS z lo hi))) else none
  | _, _, _ => none
def rSlAll (K : PySem.W.Frag) : V → Option Int → Option Int → Hp → VK → Prop := fun x lo hi H Q => (rSlL K x lo hi H Q ∨ rSlN K x lo hi H Q) ∨ rSlS x lo hi H Q
theorem sl_all {X : Cx} : SlR X (rSlAll X.K) := (sl_list.or sl_tupN).or sl_str
theorem sd_all {K : PySem.W.Frag} : SlD K (rSlAll K) gSlc := by
  intro C F ρ σ H x d lo hi z Q R hx hg k
  match d, hg with
  | .list ds, hg =>
    cases hg
    obtain ⟨a, vs, rfl, h1, h2⟩ := hx.list R
    exact .inl (.inl ⟨a, vs, rfl, h1, fun p hp => k _ F _ (Same.refl F) (R.alloc hp) (VR.fresh R hp h2.cut)⟩)
  | .tuple ds, hg =>
    cases hg
    obtain ⟨a, vs, rfl, h1, h2, h3⟩ := hx.tuple R
    refine .inl (.inr ⟨a, vs, rfl, h1, fun ⟨e1, e2⟩ => ?_, fun _ p its hp => ?_⟩)
    · refine k _ F H (Same.refl F) R ?_
      have e : cutD ds lo hi = ds := by
        unfold cutD
        rw [h2.length] at e1 e2
        rw [e1, e2, List.drop_zero, Nat.sub_zero, List.take_length]
      rw [e]
      exact h3
    · have s := same_new (o := HO.frz (tObj its) (.tup (cutV vs lo hi))) (R.fnone hp)
      exact k _ _ _ s (R.allocS hp) (.tup (.inl (.inr ⟨_, upd_same⟩)) (.inl ⟨_, _, upd_same⟩) (h2.cut.mono s))
  | .str s, hg =>
    simp only [gSlc] at hg
    by_cases hl : s.length ≤ 16000000
    · rw [if_pos hl] at hg
      cases hg
      exact .inr ⟨s, hx.strE, big16 hl, k _ F H (Same.refl F) R (.str _)⟩
    · rw [if_neg hl] at hg
      cases hg
/-! ### built-ins -/
def gLen : List D → Option Vl
  | [.list ds] => some (.d (.int ds.length))
  | [.tuple ds] => some (.d (.int ds.length))
  | [.str z] => if z.length ≤ 16000000 then some (.d (.int z.length)) else none
  | _ => none
def rLenAll (K : PySem.W.Frag) : List V → Hp → VK → Prop := fun xs H Q => (∃ p ys, xs = [.ref p] ∧ (SqL K H p ys ∨ SqT K H p ys) ∧ Q (.int ys.length) H) ∨ ∃ z, xs = [.str z] ∧ z.length ≤ sizeLine ∧ Q (.int z.length) H
theorem call_lenAll {X : Cx} : CallR X (.builtin "len") (rLenAll X.K) := call_len_seq.or call_len_str
theorem DTs.one {K : PySem.W.Frag} {F H : Hp} {vs : List V} {d : D} (h : DTs K F H vs [d]) : ∃ v, vs = [v] ∧ DT K F H v d := by
  cases h with
  | cons h t =>
    cases t
    exact ⟨_, rfl, h⟩
theorem DTs.two {K : PySem.W.Frag} {F H : Hp} {vs : List V} {d e : D} (h : DTs K F H vs [d, e]) : ∃ v w, vs = [v, w] ∧ DT K F H v d ∧ DT K F H w e := by
  cases h with
  | cons h t =>
    obtain ⟨w, rfl, h2⟩ := t.one
    exact ⟨_, w, rfl, h, h2⟩
theorem cd_len {K : PySem.W.Frag} : CallD K (rLenAll K) gLen := by
  intro C F ρ σ H xs ds z Q R hx hg k
  match ds, hx, hg with
  | [.list ds], hx, hg =>
    cases hg
    obtain ⟨v, rfl, h⟩ := hx.one
    obtain ⟨a, vs, rfl, h1, h2⟩ := h.list R
    refine .inl ⟨a, vs, rfl, .inl h1, ?_⟩
    rw [h2.length]
    exact k _ F H (Same.refl F) R (.int _)
  | [.tuple ds], hx, hg =>
    cases hg
    obtain ⟨v, rfl, h⟩ := hx.one
    obtain ⟨a, vs, rfl, h1, h2, _⟩ := h.tuple R
    refine .inl ⟨a, vs, rfl, .inr h1, ?_⟩
    rw [h2.length]
    exact k _ F H (Same.refl F) R (.int _)
  | [.str s], hx, hg =>
    simp only [gLen] at hg
    by_cases hl : s.length ≤ 16000000
    · rw [if_pos hl] at hg
      cases hg
      obtain ⟨v, rfl, h⟩ := hx.one
      have e := h.strE
      subst e
      exact .inr ⟨s, rfl, big16 hl, k _ F H (Same.refl F) R (.int _)⟩
    · rw [if_neg hl] at hg
      cases hg
def gInt : List D → Option Vl
  | [.int i] => some (.d (.int i))
  | [.bool b] => some (.d (.int (if b then 1 else 0)))
  | _ => none
theorem cd_int {K : PySem.W.Frag} : CallD K (fun xs H Q => (∃ i, xs = [.int i] ∧ Q (.int i) H) ∨ ∃ k, xs = [.bl k] ∧ Q (.int (if k then 1 else 0)) H) gInt := by
  intro C F ρ σ H xs ds z Q R hx hg k
  match ds, hx, hg with
  | [.int i], hx, hg =>
    cases hg
    obtain ⟨v, rfl, h⟩ := hx.one
    have e := h.intE
    subst e
    exact .inl ⟨i, rfl, k _ F H (Same.refl F) R (.int _)⟩
  | [.bool b], hx, hg =>
    cases hg
    obtain ⟨v, rfl, h⟩ := hx.one
    have e := h.boolE
    subst e
    exact .inr ⟨b, rfl, k _ F H (Same.refl F) R (.int _)⟩
def gList : List D → Option Vl
  | [.list ds] => some (.nw ds)
  | [.tuple ds] => some (.nw ds)
  | _ => none
theorem cd_list {K : PySem.W.Frag} : CallD K (fun xs H Q => ∃ p ys, xs = [.ref p] ∧ (SqL K H p ys ∨ SqT K H p ys) ∧ ∀ l, H l = none → Q (.ref l) (upd H l (.lst ys))) gList := by
  intro C F ρ σ H xs ds z Q R hx hg k
  match ds, hx, hg with
  | [.list ds], hx, hg =>
    cases hg
    obtain ⟨v, rfl, h⟩ := hx.one
    obtain ⟨a, vs, rfl, h1, h2⟩ := h.list R
    exact ⟨a, vs, rfl, .inl h1, fun p hp => k _ F _ (Same.refl F) (R.alloc hp) (VR.fresh R hp h2)⟩
  | [.tuple ds], hx, hg =>
    cases hg
    obtain ⟨v, rfl, h⟩ := hx.one
    obtain ⟨a, vs, rfl, h1, h2, _⟩ := h.tuple R
    exact ⟨a, vs, rfl, .inr h1, fun p hp => k _ F _ (Same.refl F) (R.alloc hp) (VR.fresh R hp h2)⟩
def gTuple : List D → Option Vl
  | [.list ds] => some (.d (.tuple ds))
  | [.tuple ds] => some (.d (.tuple ds))
  | _ => none
theorem cd_tuple {K : PySem.W.Frag} : CallD K (rTupN K) gTuple := by
  intro C F ρ σ H xs ds z Q R hx hg k
  match ds, hx, hg with
  | [.list ds], hx, hg =>
    cases hg
    obtain ⟨v, rfl, h⟩ := hx.one
    obtain ⟨a, vs, rfl, h1, h2⟩ := h.list R
    refine ⟨a, vs, rfl, .inl ⟨h1, fun p its hp => ?_⟩⟩
    have s := same_new (o := HO.frz (tObj its) (.tup vs)) (R.fnone hp)
    exact k _ _ _ s (R.allocS hp) (.tup (.inl (.inr ⟨_, upd_same⟩)) (.inl ⟨_, _, upd_same⟩) (h2.mono s))
  | [.tuple ds], hx, hg =>
    cases hg
    obtain ⟨v, rfl, h⟩ := hx.one
    obtain ⟨a, vs, rfl, h1, h2, h3⟩ := h.tuple R
    exact ⟨a, vs, rfl, .inr ⟨h1, k _ F H (Same.refl F) R h3⟩⟩
def gMax2 : List D → Option Vl
  | [.int i, .int j] => some (.d (.int (if j > i then j else i)))
  | _ => none
theorem cd_max2 {K : PySem.W.Frag} : CallD K (fun xs H Q => ∃ i j, xs = [.int i, .int j] ∧ Q (.int (if j > i then j else i)) H) gMax2 := by
  intro C F ρ σ H xs ds z Q R hx hg k
  match ds, hx, hg with
  | [.int i, .int j], hx, hg =>
    cases hg
    obtain ⟨v, w, rfl, h1, h2⟩ := hx.two
    rw [h1.intE, h2.intE]
    exact ⟨i, j, rfl, k _ F H (Same.refl F) R (.int _)⟩
def gMin2 : List D → Option Vl
  | [.int i, .int j] => some (.d (.int (if j < i then j else i)))
  | _ => none
theorem cd_min2 {K : PySem.W.Frag} : CallD K (fun xs H Q => ∃ i j, xs = [.int i, .int j] ∧ Q (.int (if j < i then j else i)) H) gMin2 := by
  intro C F ρ σ H xs ds z Q R hx hg k
  match ds, hx, hg with
  | [.int i, .int j], hx, hg =>
    cases hg
    obtain ⟨v, w, rfl, h1, h2⟩ := hx.two
    rw [h1.intE, h2.intE]
    exact ⟨i, j, rfl, k _ F H (Same.refl F) R (.int _)⟩
def boolsOf : List D → Option (List Bool)
  | [] => some []
  | .bool b :: r => (boolsOf r).map (b :: ·)
  | _ => none
def intsOf : List D → Option (List Int)
  | [] => some []
  | .int b :: r => (intsOf r).map (b :: ·)
  | _ => none
theorem DRs.bools {K : PySem.W.Frag} {F : Hp} : ∀ {vs : List V} {ds : List D} {bs : List Bool}, DRs K F vs ds → boolsOf ds = some bs → vs = bs.map V.bl
  | _, _, _, .nil, e => by
    cases e
    rfl
  | _, .bool b :: r, _, .cons h t, e => by
    simp only [boolsOf, Option.map_eq_some_iff] at e
    obtain ⟨bs, e, rfl⟩ := e
    cases h
    rw [List.map_cons, DRs.bools t e]
  | _, .none :: _, _, .cons _ _, e => by cases e
  | _, .int _ :: _, _, .cons _ _, e => by cases e
  | _, .str _ :: _, _, .cons _ _, e => by cases e
  | _, .list _ :: _, _, .cons _ _, e => by cases e
  | _, .tuple _ :: _, _, .cons _ _, e => by cases e
  | _, .dict _ :: _, _, .cons _ _, e => by cases e
theorem DRs.ints {K : PySem.W.Frag} {F : Hp} : ∀ {vs : List V} {ds : List D} {bs : List Int}, DRs K F vs ds → intsOf ds = some bs → vs = bs.map V.int
  | _, _, _, .nil, e => by
    cases e
    rfl
  | _, .int b :: r, _, .cons h t, e => by
    simp only [intsOf, Option.map_eq_some_iff] at e
    obtain ⟨bs, e, rfl⟩ := e
    rw [h.intOf, List.map_cons, DRs.ints t e]
  | _, .none :: _, _, .cons _ _, e => by cases e
  | _, .bool _ :: _, _, .cons _ _, e => by cases e
  | _, .str _ :: _, _, .cons _ _, e => by cases e
  | _, .list _ :: _, _, .cons _ _, e => by cases e
  | _, .tuple _ :: _, _, .cons _ _, e => by cases e
  | _, .dict _ :: _, _, .cons _ _, e => by cases e
def gAll : List D → Option Vl
  | [.list ds] => (boolsOf ds).map fun bs => .d (.bool (bs.all id))
  | _ => none
theorem cd_all {K : PySem.W.Frag} : CallD K (rAll K) gAll := by
  intro C F ρ σ H xs ds z Q R hx hg k
  match ds, hx, hg with
  | [.list ds], hx, hg =>
    simp only [gAll, Option.map_eq_some_iff] at hg
    obtain ⟨bs, e, rfl⟩ := hg
    obtain ⟨v, rfl, h⟩ := hx.one
    obtain ⟨a, vs, rfl, h1, h2⟩ := h.list R
    have e2 := h2.bools e
    subst e2
    exact ⟨a, bs, rfl, h1, k _ F H (Same.refl F) R (.bl _)⟩
def gAny : List D → Option Vl
  | [.list ds] => (boolsOf ds).map fun bs => .d (.bool (bs.any id))
  | _ => none
theorem cd_any {K : PySem.W.Frag} : CallD K (rAny K) gAny := by
  intro C F ρ σ H xs ds z Q R hx hg k
  match ds, hx, hg with
  | [.list ds], hx, hg =>
    simp only [gAny, Option.map_eq_some_iff] at hg
    obtain ⟨bs, e, rfl⟩ := hg
    obtain ⟨v, rfl, h⟩ := hx.one
    obtain ⟨a, vs, rfl, h1, h2⟩ := h.list R
    have e2 := h2.bools e
    subst e2
    exact ⟨a, bs, rfl, h1, k _ F H (Same.refl F) R (.bl _)⟩
def gSum : List D → Option Vl
  | [.list ds] => (intsOf ds).map fun bs => .d (.int bs.sum)
  | _ => none
theorem cd_sum {K : PySem.W.Frag} : CallD K (rSum K) gSum := by
  intro C F ρ σ H xs ds z Q R hx hg k
  match ds, hx, hg with
  | [.list ds], hx, hg =>
    simp only [gSum, Option.map_eq_some_iff] at hg
    obtain ⟨bs, e, rfl⟩ := hg
    obtain ⟨v, rfl, h⟩ := hx.one
    obtain ⟨a, vs, rfl, h1, h2⟩ := h.list R
    have e2 := h2.ints e
    subst e2
    exact ⟨a, bs, rfl, h1, k _ F H (Same.refl F) R (.int _)⟩
/-! ### isinstance(x, T), T a built-in type -/
def tyD : D → String
  | .none => "NoneType"
  | .bool _ => "bool"
  | .int _ => "int"
  | .str _ => "str"
  | .list _ => "list"
  | .tuple _ => "tuple"
  | .dict _ => "dict"
theorem DR.ty {K : PySem.W.Frag} {F H : Hp} (s : Same F H) {v : V} {d : D} (h : DR K F v d) (ne : isExc d = false) : TyX K H v (.type (tyD d)) := by
  cases h with
  | non => exact .base .non
  | bl b => exact .base (.bl b)
  | int i => exact .base (.int i)
  | str x => exact .base (.str x)
  | lst h t =>
    rcases seqL s h with (h | ⟨o, h⟩) | ⟨o, its, n, h1, h2, _⟩
    · exact .base (.lst h)
    · exact .base (.frz h)
    · exact .kList h1 h2
  | tup h _ t =>
    rcases seqT s h with (h | ⟨o, h⟩) | ⟨o, its, n, h1, h2, _⟩
    · exact .base (.tup h)
    · exact .fTuple h
    · exact .kTuple h1 h2
  | dic h e t => exact .base (.dK (s _ _ h))
  | exc h e => cases ne
  | zp h1 h2 h3 => cases ne
theorem DT.ty {K : PySem.W.Frag} {C : Fm} {F : Hp} {ρ : Rho} {σ : St} {H : Hp} {v : V} {d : D} (R : Rel K C F ρ σ H) (h : DT K F H v d) (ne : isExc d = false) : TyX K H v (.type (tyD d)) := by
  cases h with
  | dr h => exact h.ty R.sub ne
  | cell ha r => exact .base (.lst ha)
def isiD (T : String) (t : String) : Bool := t == T || (t == "bool" && T == "int")
def eIsi (T : String) (a : ME) : ME := fun ρ => (a ρ).bind fun u ρ1 => match res ρ1 (hold u) with
  | some d => if isExc d = false then .ok (.d (.bool (isiD T (tyD d)))) ρ1 else .bad
  | none => .bad
def Kits (T : String) : Prop := ∀ (K : PySem.W.Frag) (d : D), PySem.W.kitOne K (.type (tyD d)) (.type T) = some (isiD T (tyD d))
theorem kits_str : Kits "str" := fun K d => by cases d <;> rfl
theorem kits_tuple : Kits "tuple" := fun K d => by cases d <;> rfl
theorem kits_list : Kits "list" := fun K d => by cases d <;> rfl
theorem kits_int : Kits "int" := fun K d => by cases d <;> rfl
theorem kits_bool : Kits "bool" := fun K d => by cases d <;> rfl
section
variable {X : Cx} {W : WX} {pos p p2 : Pos} {a : Expr} {f : ME} {x : Str} {T : String}
theorem se_isi (kt : Kits T) (hm : X.mg "isinstance" = none) (hmT : X.mg x = none) (hv : bootBuiltins x = some (.type T)) (ha : SE X W a f) (hg : Gl X "isinstance" := by rfl) (hgT : Gl X x := by rfl) (hn : x ≠ "__name__" := by decide) (hd : (x == ("__debug__" : Str)) = false := by decide)
    (h1 : starEach [a, .Name x p2] X.env = (false, eval a X.env) :: starEach [.Name x p2] X.env := by rfl) (h2 : starEach [.Name x p2] X.env = (false, eval (.Name x p2) X.env) :: starEach [] X.env := by rfl) (hpl : (backTo pos (starEach [.Name x p2] X.env)).any (·.1) = false := by rfl) :
    SE X W (.Call (.Name "isinstance" p) [a, .Name x p2] [] pos) (eIsi T f) :=
  PE.imp (pe_callB call_isi hg hm PyProof.Rows.boot_isinstance (pa_cons ha (pa_cons (pe_bltn (v := .ty T) hgT hmT hv rfl hn hd) pa_nil h2) h1) (by decide) (by decide) h1 hpl) fun σ H Q ⟨C, F, ρ, R, h⟩ =>
    ⟨C, F, ρ, R, Post.bind h fun u ρ1 v F1 H1 s1 R1 r1 h1 => by
      obtain ⟨F2, s2, R2, r2⟩ := VR.hold R1 r1
      have h1 := h1.mono s2
      cases q : res ρ1 (hold u) with
      | none => simp only [q] at h1; exact h1.elim
      | some d =>
        simp only [q] at h1
        by_cases ne : isExc d = false
        case neg => rw [if_neg ne] at h1; exact h1.elim
        rw [if_pos ne] at h1
        exact ⟨v, .ty T, .type (tyD d), .type T, _, rfl, .ty T, (r2.res R2 q).ty R2 ne, kt X.K d, h1 _ F2 H1 (Same.refl F2) R2 (.bl _)⟩⟩
end
end FB
namespace FB
open PySem PySem.Spec L2

/-! ### what changes a list of one's own -/
def eMut (g : List D → List D → Option (D × List D)) (i : Nat) (a : MA) : ME := fun ρ => match ownL ρ i with
  | none => .bad
  | some _ => (a ρ).bind fun us ρ1 => match keeps us ρ1 with
    | none => .bad
    | some (ds, ρ2) => match ownL ρ2 i with
      | none => .bad
      | some xs => match g xs ds with
        | none => .bad
        | some (z, ys) => .ok (.d z) (putR ρ2 i ys)
def MutD (K : PySem.W.Frag) (r : V → List V → Hp → VK → Prop) (g : List D → List D → Option (D × List D)) : Prop := ∀ (F H : Hp) (a : Addr) (vs ws : List V) (xs ds ys : List D) (z : D) (Q : VK), H a = some (.lst vs) → DRs K F vs xs → DRs K F ws ds → g xs ds = some (z, ys) →
  (∀ v vs', DR K F v z → DRs K F vs' ys → Q v (upd H a (.lst vs'))) → r (.ref a) ws H Q
theorem Rel.write {K : PySem.W.Frag} {C : Fm} {F : Hp} {ρ : Rho} {σ : St} {H : Hp} {i : Nat} {xs ys : List D} {a : Addr} {vs' : List V} (R : Rel K C F ρ σ H) (e : ownL ρ i = some xs) (ha : σ[i]? = some (some (.ref a))) (hf : F a = none) (r : DRs K F vs' ys) : Rel K C F (putR ρ i ys) σ (upd H a (.lst vs')) :=
  R.put e ha (Same.refl F) (fun b o q => by
    have z : b ≠ a := fun z => by subst z; rw [hf] at q; cases q
    rw [upd_ne z]
    exact R.sub b o q) (fun _ _ => rfl) (fun b o q z => by rw [upd_ne z]; exact q) (fun b q => by
    by_cases z : b = a
    · subst z; rw [upd_same]; simp
    · rw [upd_ne z]; exact q) upd_same r
theorem Rel.ownAt' {K : PySem.W.Frag} {C : Fm} {F : Hp} {ρ : Rho} {σ : St} {H : Hp} {i : Nat} {xs : List D} (R : Rel K C F ρ σ H) (e : ownL ρ i = some xs) : ∃ a vs, σ[i]? = some (some (.ref a)) ∧ F a = none ∧ H a = some (.lst vs) ∧ DRs K F vs xs := by
  rcases ownL_own e with q | q
  · obtain ⟨a, vs, h1, _, h2, h3, h4⟩ := R.ol i xs q
    exact ⟨a, vs, h1, h2, h3, h4⟩
  · obtain ⟨a, vs, _, h1, h2, h3, h4⟩ := R.io i xs q
    exact ⟨a, vs, h1, h2, h3, h4⟩
section
variable {X : Cx} {W : WX} {pos apos cpos np : Pos} {e : Expr} {es : List Expr} {fs : MA} {x name : Str} {id : String} {r : V → List V → Hp → VK → Prop} {g : List D → List D → Option (D × List D)} {i : Nat}
theorem imp_mut (hg : MutD X.K r g) {σ : St} {H : Hp} {Q : VK} (h : tG X.K X.mg W (relE X.K) (eMut g i fs) σ H Q) : tBM X.K "list" r (tVar i) (tG X.K X.mg W (relA X.K) fs) σ H Q := by
  obtain ⟨C, F, ρ, R, h⟩ := h
  unfold eMut at h
  cases q0 : ownL ρ i with
  | none => simp only [q0] at h; exact h.elim
  | some xs0 =>
    simp only [q0] at h
    obtain ⟨a, vs, h1, h2, h3, h4⟩ := R.ownAt' q0
    refine ⟨.ref a, h1, .inl ⟨rfl, vs, .inl (.inl h3)⟩, C, F, ρ, R, Post.bind h fun us ρ1 ws F1 H1 s1 R1 r1 h1' => ?_⟩
    cases q : keeps us ρ1 with
    | none => simp only [q] at h1'; exact h1'.elim
    | some p =>
      obtain ⟨ds, ρ2⟩ := p
      simp only [q] at h1'
      obtain ⟨F2, s2, R2, r2⟩ := VRs.keeps R1 r1 q
      cases q2 : ownL ρ2 i with
      | none => simp only [q2] at h1'; exact h1'.elim
      | some xs =>
        simp only [q2] at h1'
        obtain ⟨a', vs', k1, k2, k3, k4⟩ := R2.ownAt' q2
        rw [h1] at k1
        cases k1
        cases q3 : g xs ds with
        | none => simp only [q3] at h1'; exact h1'.elim
        | some p =>
          obtain ⟨z, ys⟩ := p
          simp only [q3] at h1'
          exact hg F2 H1 a vs' ws xs ds ys z Q k3 k4 r2 q3 fun v vs'' rv rvs => h1' v F2 _ s2 (R2.write q2 h1 k2 rvs) rv
theorem se_mut (slot : PySem.Slot "list" name id) (hty : typeOf (.builtin id) = pure (.type "method_descriptor")) (hm : MtM X id r) (hg : MutD X.K r g) (ha : SA X W (e :: es) fs)
    (hN : X.N[i]? = some x := by rfl) (hv : Vis X.env.scope x := by first | exact Or.inl rfl | exact Or.inr (Or.inl rfl) | exact Or.inr (Or.inr rfl)) (hd : (x == ("__debug__" : Str)) = false := by decide) (hcd : (x == ("__classdict__" : Str)) = false := by decide)
    (hbase : attributeBase (.Name x np) name X.env (eval (.Name x np) X.env) = eval (.Name x np) X.env := by rfl)
    (hfew : ((backTo cpos (starEach (e :: es) X.env)).all (fun x => !x.1) && (backToKw cpos (keywordEach [] X.env)).all (fun x => x.1.isSome)
      && decide ((e :: es).length + ([] : List Keyword).length + (if ([] : List Keyword).isEmpty then 0 else 1) < 30)) = true := by rfl)
    (hline : (apos.endLine == cpos.line) = true := by rfl) (hs : starEach (e :: es) X.env = (false, eval e X.env) :: starEach es X.env := by rfl) (hplain : (backTo cpos (starEach es X.env)).any (·.1) = false := by rfl) :
    SE X W (.Call (.Attribute (.Name x np) name apos) (e :: es) [] cpos) (eMut g i fs) :=
  PE.imp (pe_bm PySem.F.plainAttrs_list slot hty hm (pe_var hN hv hd hcd) ha hbase hfew hline hs hplain) fun _ _ _ h => imp_mut hg h
end
def mAppend : List D → List D → Option (D × List D)
  | xs, [d] => if xs.length < 5000 then some (.none, xs ++ [d]) else none
  | _, _ => none
theorem DRs.single {K : PySem.W.Frag} {F : Hp} {vs : List V} {d : D} (h : DRs K F vs [d]) : ∃ v, vs = [v] ∧ DR K F v d := by
  cases h with
  | cons h t =>
    cases t
    exact ⟨_, rfl, h⟩
theorem md_append {K : PySem.W.Frag} : MutD K rAppend mAppend := by
  intro F H a vs ws xs ds ys z Q ha r rw' hg k
  match ds, rw', hg with
  | [d], rw', hg =>
    simp only [mAppend] at hg
    by_cases hl : xs.length < 5000
    · rw [if_pos hl] at hg
      cases hg
      obtain ⟨v, rfl, h⟩ := rw'.single
      exact ⟨a, vs, v, rfl, rfl, ha, le5 (by rw [r.length]; exact hl), k _ _ .non (r.append (.one h))⟩
    · rw [if_neg hl] at hg
      cases hg
def mPopAt : List D → List D → Option (D × List D)
  | xs, [.int i] => match ixN xs.length i with
    | none => none
    | some j => match xs[j]? with
      | none => none
      | some d => some (d, xs.eraseIdx j)
  | _, _ => none
theorem md_popAt {K : PySem.W.Frag} : ∀ {F H : Hp} {a : Addr} {vs ws : List V} {xs ds ys : List D} {z : D} {Q : VK}, vs.length ≤ sizeLine → H a = some (.lst vs) → DRs K F vs xs → DRs K F ws ds → mPopAt xs ds = some (z, ys) →
  (∀ v vs', DR K F v z → DRs K F vs' ys → Q v (upd H a (.lst vs'))) → rPopAt (.ref a) ws H Q := by
  intro F H a vs ws xs ds ys z Q hz ha r rw' hg k
  match ds, rw', hg with
  | [.int i], rw', hg =>
    simp only [mPopAt] at hg
    obtain ⟨v, rfl, h⟩ := rw'.single
    have e := h.intOf
    subst e
    cases q : ixN xs.length i with
    | none => simp only [q] at hg; cases hg
    | some j =>
      simp only [q] at hg
      cases q2 : xs[j]? with
      | none => simp only [q2] at hg; cases hg
      | some d =>
        simp only [q2] at hg
        cases hg
        obtain ⟨v, h1, h2⟩ := r.get q2
        obtain ⟨e1, e2, e3, e4⟩ := ixN_seq q
        have hs := sizeLine_eq
        have hl := r.length
        refine ⟨a, vs, i, j, v, rfl, rfl, ha, by omega, by omega, by rw [r.length]; exact e1, h1, k _ _ h2 (r.erase j)⟩
theorem od_popAt {K : PySem.W.Frag} : MutD K (fun x ws H Q => ∀ l vs, x = .ref l → H l = some (.lst vs) → vs.length ≤ sizeLine → rPopAt x ws H Q) mPopAt := by
  intro F H a vs ws xs ds ys z Q ha r rw' hg k l vs' el hl hz
  cases el
  rw [ha] at hl
  cases hl
  exact md_popAt hz ha r rw' hg k
theorem mt_popAtG {X : Cx} : MtM X "list.pop" (fun x ws H Q => (∃ l vs, x = .ref l ∧ H l = some (.lst vs)) ∧ ∀ l vs, x = .ref l → H l = some (.lst vs) → vs.length ≤ sizeLine → rPopAt x ws H Q) := by
  intro pins s σ H x xs v us Q I rx rxs h
  obtain ⟨⟨l, vs, rfl, hl⟩, h⟩ := h
  exact mt_popAt pins s σ H _ xs v us Q I rx rxs (h l vs rfl hl (I.hok l _ hl).1)
theorem md_popAtG {K : PySem.W.Frag} : MutD K (fun x ws H Q => (∃ l vs, x = .ref l ∧ H l = some (.lst vs)) ∧ ∀ l vs, x = .ref l → H l = some (.lst vs) → vs.length ≤ sizeLine → rPopAt x ws H Q) mPopAt :=
  fun F H a vs ws xs ds ys z Q ha r rw' hg k => ⟨⟨a, vs, rfl, ha⟩, od_popAt F H a vs ws xs ds ys z Q ha r rw' hg k⟩
/-! ### x[i] = e -/
def gStore (i : Nat) (e ix : ME) : MS := fun ρ => (e ρ).bind fun u ρ1 => match keep u ρ1 with
  | none => .bad
  | some (d, ρ2) => match ownL ρ2 i with
    | none => .bad
    | some _ => (ix ρ2).bind fun w ρ3 => match w, ownL ρ3 i with
      | .d (.int j), some xs => match ixN xs.length j with
        | none => .bad
        | some k => .ok .nx (putR ρ3 i (xs.set k d))
      | _, _ => .bad
section
variable {X : Cx} {W : WX} {pos np tp : Pos} {e j : Expr} {fe fi : ME} {x : Str} {i : Nat}
theorem ss_store (he : SE X W e fe) (hi : SE X W j fi)
    (hN : X.N[i]? = some x := by rfl) (hv : Vis X.env.scope x := by first | exact Or.inl rfl | exact Or.inr (Or.inl rfl) | exact Or.inr (Or.inr rfl)) (hd : (x == ("__debug__" : Str)) = false := by decide) (hcd : (x == ("__classdict__" : Str)) = false := by decide)
    (ha : ∀ v, assign (.Subscript (.Name x np) j tp) X.env v = (do
      let ov ← holding [v] (eval (.Name x np) X.env)
      let iv ← holding [v, ov] (eval j X.env)
      standAt tp
      holding [v, ov, iv] (setItem ov iv v)
      release [v, ov, iv] []) := by intro _; rfl)
    (hs : swapsWithSole [.Subscript (.Name x np) j tp] e pos.line X.env = pure false := by rfl) (hw : swappedStores [.Subscript (.Name x np) j tp] e X.env = pure none := by rfl)
    (h1 : (assignEach [.Subscript (.Name x np) j tp] X.env).map (·.2) = [assign (.Subscript (.Name x np) j tp) X.env] := by rfl) :
    SS X W (.Assign [.Subscript (.Name x np) j tp] e pos) (gStore i fe fi) := PS.imp (ps_asg he (pg_sub (pe_var hN hv hd hcd) hi set_list ha) hs hw h1) fun D σ H ⟨C, F, ρ, R, h⟩ =>
  ⟨C, F, ρ, R, PostS.bindE h fun u ρ1 v F1 H1 s1 R1 r1 h1 => by
    cases q : keep u ρ1 with
    | none => simp only [q] at h1; exact h1.elim
    | some p =>
      obtain ⟨d, ρ2⟩ := p
      simp only [q] at h1
      obtain ⟨F2, s2, R2, r2⟩ := VR.keep R1 r1 q
      cases q0 : ownL ρ2 i with
      | none => simp only [q0] at h1; exact h1.elim
      | some xs0 =>
        simp only [q0] at h1
        obtain ⟨a, vs, e1, e2, e3, e4⟩ := R2.ownAt' q0
        refine ⟨.ref a, e1, C, F2, ρ2, R2, PostS.bindE (h1.mono s2) fun w ρ3 y F3 H3 s3 R3 r3 h3 => ?_⟩
        match w, r3, h3 with
        | .d (.int j), r3, h3 =>
          have r3 : DR X.K F3 y (.int j) := r3
          have ey := r3.intOf
          subst ey
          cases q2 : ownL ρ3 i with
          | none => simp only [q2] at h3; exact h3.elim
          | some xs =>
            simp only [q2] at h3
            cases q3 : ixN xs.length j with
            | none => simp only [q3] at h3; exact h3.elim
            | some k =>
              simp only [q3] at h3
              obtain ⟨a', vs', k1, k2, k3, k4⟩ := R3.ownAt' q2
              rw [e1] at k1
              cases k1
              exact ⟨a, vs', j, k, rfl, rfl, k3, by rw [k4.length]; exact q3, h3 F3 _ _ (Same.refl F3) (R3.write q2 e1 k2 (k4.set k (r2.mono s3)))⟩⟩
end
/-! ### what is never reached -/
def gBad : MS := fun _ => .bad
theorem ss_bad {X : Cx} {W : WX} {st : Stmt} : SS X W st gBad := PS.imp ps_never fun _ _ _ ⟨_, _, _, _, h⟩ => h
/-! ### truth of any value -/
def truD : D → Option Bool
  | .list xs => some (!xs.isEmpty)
  | .tuple xs => some (!xs.isEmpty)
  | .bool b => some b
  | .int i => some (i != 0)
  | .none => some false
  | _ => none
def bT (a : ME) : MB := fun ρ => (a ρ).bind fun u ρ1 => match res ρ1 (hold u) with
  | some d => match truD d with
    | some b => .ok b ρ1
    | none => .bad
  | none => .bad
theorem DRs.empty {K : PySem.W.Frag} {F : Hp} {vs : List V} {ds : List D} (r : DRs K F vs ds) : vs.isEmpty = ds.isEmpty := by
  cases r <;> rfl
theorem st_tru {X : Cx} {W : WX} {a : Expr} {f : ME} (ha : SE X W a f) (he : ∀ whole, isTrue a X.env whole = (do let v ← whole; standAt a.pos; holding [v] (truthy v)) := by intro _; rfl) : ST X W a (bT f) :=
  PT.imp (pt_truth ha he) fun σ H Q ⟨C, F, ρ, R, h⟩ => ⟨C, F, ρ, R, Post.bind h fun u ρ1 v F1 H1 s1 R1 r1 h1 => by
    obtain ⟨F2, s2, R2, r2⟩ := VR.hold R1 r1
    have h1 := h1.mono s2
    cases q : res ρ1 (hold u) with
    | none => simp only [q] at h1; exact h1.elim
    | some d =>
      simp only [q] at h1
      cases q2 : truD d with
      | none => simp only [q2] at h1; exact h1.elim
      | some b =>
        simp only [q2] at h1
        refine ⟨b, ?_, h1 b F2 H1 (Same.refl F2) R2 rfl⟩
        have r3 := r2.res R2 q
        match d, r3, q2 with
        | .list xs, r3, q2 =>
          obtain ⟨a, vs, rfl, k1, k2⟩ := r3.list R2
          cases q2
          exact .inl ⟨vs, k1, by rw [k2.empty]⟩
        | .tuple xs, r3, q2 =>
          obtain ⟨a, vs, rfl, k1, k2, _⟩ := r3.tuple R2
          cases q2
          exact .inr (.inl ⟨vs, k1, by rw [k2.empty]⟩)
        | .bool c, r3, q2 =>
          cases q2
          rw [r3.boolE]
          rfl
        | .int c, r3, q2 =>
          cases q2
          rw [r3.intE]
          rfl
        | .none, r3, q2 =>
          cases q2
          rw [r3.nonE]
          rfl⟩
end FB
/-! sets made of lists and tuples of keys of one kind; how many they are -/
namespace FBS
open PySem PySem.Spec

/-- the keys met, each once -/
def nub {κ : Type} [DecidableEq κ] (l : List κ) : List κ := l.foldl (fun acc k => if k ∈ acc then acc else acc ++ [k]) []
section
variable {κ : Type} [DecidableEq κ]
theorem nub_snoc (l : List κ) (k : κ) : nub (l ++ [k]) = if k ∈ nub l then nub l else nub l ++ [k] := by
  unfold nub
  rw [List.foldl_append]
  rfl
theorem snocInd {κ : Type} {M : List κ → Prop} (h0 : M []) (hs : ∀ l k, M l → M (l ++ [k])) (l : List κ) : M l := by
  have key : ∀ l : List κ, M l.reverse := fun l => by
    induction l with
    | nil => exact h0
    | cons k l ih =>
      rw [List.reverse_cons]
      exact hs _ k ih
  have := key l.reverse
  rw [List.reverse_reverse] at this
  exact this
theorem mem_nub (l : List κ) : ∀ (x : κ), x ∈ nub l ↔ x ∈ l := by
  refine snocInd (M := fun l => ∀ x : κ, x ∈ nub l ↔ x ∈ l) ?_ ?_ l
  · intro x; exact Iff.rfl
  · intro l k ih x
    rw [nub_snoc]
    by_cases hk : k ∈ nub l
    · rw [if_pos hk, ih x, List.mem_append, List.mem_singleton]
      exact ⟨.inl, fun h => h.elim id fun e => by rw [e]; exact (ih k).mp hk⟩
    · rw [if_neg hk, List.mem_append, List.mem_append, ih x]
theorem nub_length_le (l : List κ) : (nub l).length ≤ l.length := by
  refine snocInd (M := fun l : List κ => (nub l).length ≤ l.length) ?_ ?_ l
  · exact Nat.le_refl _
  · intro l k ih
    rw [nub_snoc, List.length_append, List.length_singleton]
    by_cases hk : k ∈ nub l
    · rw [if_pos hk]; omega
    · rw [if_neg hk, List.length_append, List.length_singleton]; omega
end
/-- the set at S holds just the keys of pre -/
def Holds {prog : Program} {w : World} {κ : Type} [DecidableEq κ] (knd : KeyKind prog w κ) (h : Heap) (S : Addr) (pre : List κ) : Prop := h.SetOf knd S (fun k => decide (k ∈ pre)) (nub pre).length
section
variable {prog : Program} {w : World} {κ : Type} [DecidableEq κ] {knd : KeyKind prog w κ}
theorem Holds.snoc {h : Heap} {S : Addr} {pre : List κ} {k : κ} (x : h.SetOf knd S (fun y => decide (y ∈ pre) || decide (y = k)) (if decide (k ∈ pre) = true then (nub pre).length else (nub pre).length + 1)) : Holds knd h S (pre ++ [k]) := by
  have e1 : (fun y => decide (y ∈ pre) || decide (y = k)) = fun y => decide (y ∈ pre ++ [k]) := by
    funext y
    rw [Bool.eq_iff_iff]
    simp
  have e2 : (if decide (k ∈ pre) = true then (nub pre).length else (nub pre).length + 1) = (nub (pre ++ [k])).length := by
    rw [nub_snoc]
    by_cases hk : k ∈ pre
    · rw [if_pos (by simpa using hk), if_pos ((mem_nub pre k).mpr hk)]
    · rw [if_neg (by simpa using hk), if_neg fun z => hk ((mem_nub pre k).mp z), List.length_append, List.length_singleton]
  rw [e1, e2] at x
  exact x
theorem Holds.keep {h h' : Heap} {S : Addr} {pre : List κ} (x : Holds knd h S pre) (k : ∀ o, h.get? S = some o → h'.get? S = some o) : Holds knd h' S pre := by
  obtain ⟨o, es, ep, tb, ho, r⟩ := x
  exact ⟨o, es, ep, tb, k o ho, r⟩
variable {A : Around} {R : Result → Shared → Prop} {I : Addr} {fp wr : List Addr} {G : Array GenState → Array GenState → Prop} {n : Nat} {P : Nat → Value → Prop} {St : Nat → Shared → Prop}
/-- the loop that fills a set from an iterator -/
theorem fill (W : WalksS prog w A.in1 I fp wr G n P St) (S : Addr) (nS : S ∉ fp) (ks : List κ) (hn : ks.length = n) (hP : ∀ i v, P i v → ∃ k, ks[i]? = some k ∧ knd.is k v = true ∧ v.scannable = true) (room : n + 1 < scanBound)
    (hv : ∀ i v, P i v → ∀ (s : Shared) (Q : Unit → Shared → Prop), True) :
    ∀ (m i : Nat) (s : Shared), n - i = m → i ≤ n → St i s → Holds knd s.heap S (ks.take i) → (∀ s', Moved (S :: wr) G s s' → Holds knd s'.heap S ks → R (.ok (.ret .none)) s') →
      codeAny (model prog w) A (.builtin "set.update.loop" ⟨[.ref S, .ref I], []⟩) R s := by
  have offW : S ∉ wr := fun z => nS (W.sub _ z)
  have inW : ∀ b ∈ wr, b ∈ S :: wr := fun b z => List.mem_cons_of_mem _ z
  intro m
  induction m with
  | zero =>
    intro i s em hi st hS out
    have ei : i = n := by omega
    rw [ei] at st hS
    refine codeAny_builtin PyProof.Rows.F.entry_set_update_loop ?_
    rw [Around.under_plainId PyProof.Rows.F.plain_set_update_loop _]
    refine wpAny_bind (W.done s _ _ st fun s' mv => wpAny_pure (out s' (mv.mono inW) ?_))
    have hS : Holds knd s.heap S ks := by
      rw [← hn, List.take_length] at hS
      exact hS
    exact hS.keep fun o ho => mv.heap S o offW ho
  | succ m ih =>
    intro i s em hi st hS out
    have lt : i < n := by omega
    refine codeAny_builtin PyProof.Rows.F.entry_set_update_loop ?_
    rw [Around.under_plainId PyProof.Rows.F.plain_set_update_loop _]
    refine wpAny_bind (W.item i s _ _ lt st fun v s' pv st' mv => ?_)
    obtain ⟨k, ek, isk, sck⟩ := hP i v pv
    have hS' : Holds knd s'.heap S (ks.take i) := hS.keep fun o ho => mv.heap S o offW ho
    have tk : ks.take (i + 1) = ks.take i ++ [k] := by
      rw [List.take_add_one, ek]
      rfl
    have few : (nub (ks.take i)).length + 1 < scanBound := by
      have z1 := nub_length_le (ks.take i)
      have z2 : (ks.take i).length ≤ i := by
        rw [List.length_take]
        exact Nat.min_le_left _ _
      omega
    refine wpAny_bind (wpAny_holding ?_)
    unfold setAdd
    refine wpAny_holding (wpAny_bind (knd.pyHash (k := k) isk ?_))
    refine wpAny_setAddHashed_of (knd := knd) (s := { s' with toks := s'.toks + 1 }) isk sck hS' few fun h' sb hS2 => ?_
    have hS3 : Holds knd h' S (ks.take (i + 1)) := by
      rw [tk]
      exact Holds.snoc hS2
    have away : ∀ b, b ≠ S → ∀ o, s'.heap.get? b = some o → h'.get? b = some o := fun b z o e => (sb.2 b z).trans e
    refine wpAny_pure ⟨plainId_quiet PyProof.Rows.F.plain_set_update_loop _, ih (i + 1) _ (by omega) lt ?_ hS3 fun s'' mv' hS4 => out s'' ?_ hS4⟩
    · exact W.frame _ s' _ _ st' (Nat.le_succ _) fun b hb o e => away b (fun z => nS (z ▸ hb)) o e
    · exact Moved.trans W.gtrans ((mv.mono inW).then_heap (Nat.le_succ _) fun b o hb e => away b (fun z => hb (z ▸ List.mem_cons_self)) o e) mv'
end
end FBS
namespace FBS
open PySem PySem.Spec

/-- an array's values carry the keys of a list -/
def Carry {prog : Program} {w : World} {κ : Type} [DecidableEq κ] (knd : KeyKind prog w κ) (items : Array Value) (ks : List κ) : Prop := ks.length = items.size ∧ ∀ (i : Nat) (v : Value), items[i]? = some v → ∃ k, ks[i]? = some k ∧ knd.is k v = true ∧ v.scannable = true
section
variable {prog : Program} {w : World} {κ : Type} [DecidableEq κ] {knd : KeyKind prog w κ} {A : Around} {E : Value → Shared → Prop} {s : Shared}
abbrev emptySet (led : Bool) : Obj := { cls := .type "set", dict := none, data := .set #[] 0 (.fresh 0 0 led) }
theorem fresh_holds {h : Heap} {S : Addr} {led : Bool} (ho : h.get? S = some (emptySet led)) : Holds knd h S [] :=
  have q := (PyProof.Rows.setObjOf_fresh (knd := knd) led).setOf ho (by unfold scanBound; omega)
  have e : (fun _ : κ => false) = fun k => decide (k ∈ ([] : List κ)) := by funext k; simp
  by
    unfold Holds
    rw [← e]
    exact q
set_option maxHeartbeats 3200000 in
theorem set_list {l : Addr} {items : Array Value} {ks : List κ} {Q : Value → Shared → Prop} (hh : A.handled = none) (hl : s.heap.IsList l items) (hk : Carry knd items ks) (room : items.size + 1 < scanBound)
    (h : ∀ (h' : Heap) (tk : Nat), Holds knd h' s.heap.objs.size ks → (∀ b o, s.heap.get? b = some o → h'.get? b = some o) → Q (.ref s.heap.objs.size) { s with heap := h', toks := tk }) :
    wpAny (model prog w) A (call (.type "set") [.ref l]) Q E s := by
  obtain ⟨_, _, m1⟩ := PySem.F.called_set.mro
  have m2 := PySem.F.called_set.made
  have m3 := PySem.F.called_set.sub
  have m4 := PySem.F.called_set.notType
  have m5 := PySem.F.called_set.canCreate
  have m6 := PySem.F.typeCall_set_1 (.ref l)
  refine wpAny_call (codeAny_of_tree (wpAny_pure ⟨Code.quiet_builtin _ (by decide +kernel), codeAny_builtin PySem.F.entry_type_call ?_⟩))
  rw [Around.under_plain (weight_type_call_type "set" [.ref l] []) rfl]
  repeat (any_goals (first | assumption | wp_step))
  refine codeAny_mono (code_set_new_1 (.ref l) (E := E) (Q₁ := fun ob s₁ => ∃ led : Bool, ob = .ref s.heap.objs.size ∧ s₁ = { s with heap := s.heap.push (emptySet led) }) fun led => ⟨led, rfl, rfl⟩) fun r s₁ made => ?_
  cases r with
  | error _ => exact made
  | ok fl => cases fl with
    | next => exact made.elim
    | brk => exact made.elim
    | cont => exact made.elim
    | ret ob =>
      obtain ⟨led, rfl, rfl⟩ := made
      have at1 : (s.heap.push (emptySet led)).get? s.heap.objs.size = some (emptySet led) := Heap.get?_push_size _ rfl
      have ty1 : Shared.TypeIs { s with heap := s.heap.push (emptySet led) } (.ref s.heap.objs.size) "set" := ⟨_, at1, rfl⟩
      have i1 := PySem.F.called_set.init.lookup
      have i2 := PySem.F.called_set.init.bind (.ref s.heap.objs.size)
      repeat (any_goals (first | assumption | wp_step))
      refine codeAny_mono (codeAny_call_builtin (R := wants (fun r s₂ => r = .none ∧ ∃ h' tk, s₂ = { s with heap := h', toks := tk } ∧ Holds knd h' s.heap.objs.size ks ∧ ∀ b o, s.heap.get? b = some o → h'.get? b = some o) E)
        PySem.F.called_set.init.plain PySem.F.entry_set_init (check_set_init_1 ty1 ?_)) fun r₂ s₂ done => ?_
      · obtain ⟨⟨_, od, _, osl⟩, hol, hcl, nl, hdl⟩ := hl
        simp only at hcl hdl
        subst hcl hdl
        have at2 : (s.heap.push (emptySet led)).get? l = some { cls := .type "list", dict := od, data := .seq items nl, slots := osl } := Heap.get?_push_of_some _ hol
        have hl1 : (s.heap.push (emptySet led)).IsList l items := ⟨_, at2, rfl, nl, rfl⟩
        have j1 := PySem.F.sub_list_set
        have j2 := PySem.F.sub_list_frozenset
        have j3 : (Value.type "list" == Value.type "dict") = false := by decide
        unfold Builtin.«set.__init__» noKeywords Builtin.Frozenset.updateFrom
        generalize hPI : pyIter = PI
        wp_walk
        subst hPI
        refine wpAny_pyIter_list hl1 (wpAny_bind (wpAny_runValue ?_))
        have lt1 := Heap.lt_size hol
        have sz : (s.heap.push (emptySet led)).objs.size = s.heap.objs.size + 1 := Heap.size_push _ _
        have hh3 : A.in1.in1.in1.handled = none := by simp [hh]
        have W := (Walks.list (prog := prog) (w := w) hh3 (s.heap.push (emptySet led)).objs.size l (by rw [sz]; exact Nat.ne_of_lt (Nat.lt_succ_of_lt lt1)) items).toS
        refine fill (knd := knd) W s.heap.objs.size ?off ks hk.1 (fun i v e => hk.2 i v e) room (fun _ _ _ _ _ => trivial) (items.size - 0) 0 _ (by omega) (Nat.zero_le _) ⟨⟨_, Heap.get?_push_size _ rfl, rfl, rfl⟩, hl1.push _⟩ ?h0 ?fin
        case off =>
          rw [sz]
          intro z
          rcases List.mem_cons.mp z with z | z
          · exact Nat.ne_of_lt (Nat.lt_succ_self _) z
          · exact Nat.ne_of_gt lt1 (List.mem_singleton.mp z)
        case h0 => exact fresh_holds (Heap.get?_push_of_some _ at1)
        case fin =>
          rintro ⟨h', g', d', tk', os'⟩ mv hS
          obtain rfl : g' = s.gens := mv.gens
          obtain rfl : d' = s.drawn := mv.drawn
          obtain rfl : os' = s.os := mv.os
          refine wpAny_pure (wpAny_pure ⟨rfl, h', tk', rfl, hS, fun b o e => ?_⟩)
          have lb := Heap.lt_size e
          refine mv.heap b o ?_ (Heap.get?_push_of_some _ (Heap.get?_push_of_some _ e))
          rw [sz]
          intro z
          rcases List.mem_cons.mp z with z | z
          · exact Nat.ne_of_lt lb z
          · exact Nat.ne_of_lt (Nat.lt_succ_of_lt lb) (List.mem_singleton.mp z)
      · cases r₂ with
        | error _ => exact done
        | ok fl₂ => cases fl₂ with
          | ret r =>
            obtain ⟨rfl, h', tk, rfl, hS, kept⟩ := done
            repeat (any_goals (first | assumption | wp_step))
            exact h _ _ hS kept
          | next => exact done.elim
          | brk => exact done.elim
          | cont => exact done.elim
set_option maxHeartbeats 3200000 in
theorem set_tuple {l : Addr} {items : Array Value} {ks : List κ} {Q : Value → Shared → Prop} (hh : A.handled = none) (hl : s.heap.IsTuple l items) (hk : Carry knd items ks) (room : items.size + 1 < scanBound)
    (h : ∀ (h' : Heap) (tk : Nat), Holds knd h' s.heap.objs.size ks → (∀ b o, s.heap.get? b = some o → h'.get? b = some o) → Q (.ref s.heap.objs.size) { s with heap := h', toks := tk }) :
    wpAny (model prog w) A (call (.type "set") [.ref l]) Q E s := by
  obtain ⟨_, _, m1⟩ := PySem.F.called_set.mro
  have m2 := PySem.F.called_set.made
  have m3 := PySem.F.called_set.sub
  have m4 := PySem.F.called_set.notType
  have m5 := PySem.F.called_set.canCreate
  have m6 := PySem.F.typeCall_set_1 (.ref l)
  refine wpAny_call (codeAny_of_tree (wpAny_pure ⟨Code.quiet_builtin _ (by decide +kernel), codeAny_builtin PySem.F.entry_type_call ?_⟩))
  rw [Around.under_plain (weight_type_call_type "set" [.ref l] []) rfl]
  repeat (any_goals (first | assumption | wp_step))
  refine codeAny_mono (code_set_new_1 (.ref l) (E := E) (Q₁ := fun ob s₁ => ∃ led : Bool, ob = .ref s.heap.objs.size ∧ s₁ = { s with heap := s.heap.push (emptySet led) }) fun led => ⟨led, rfl, rfl⟩) fun r s₁ made => ?_
  cases r with
  | error _ => exact made
  | ok fl => cases fl with
    | next => exact made.elim
    | brk => exact made.elim
    | cont => exact made.elim
    | ret ob =>
      obtain ⟨led, rfl, rfl⟩ := made
      have at1 : (s.heap.push (emptySet led)).get? s.heap.objs.size = some (emptySet led) := Heap.get?_push_size _ rfl
      have ty1 : Shared.TypeIs { s with heap := s.heap.push (emptySet led) } (.ref s.heap.objs.size) "set" := ⟨_, at1, rfl⟩
      have i1 := PySem.F.called_set.init.lookup
      have i2 := PySem.F.called_set.init.bind (.ref s.heap.objs.size)
      repeat (any_goals (first | assumption | wp_step))
      refine codeAny_mono (codeAny_call_builtin (R := wants (fun r s₂ => r = .none ∧ ∃ h' tk, s₂ = { s with heap := h', toks := tk } ∧ Holds knd h' s.heap.objs.size ks ∧ ∀ b o, s.heap.get? b = some o → h'.get? b = some o) E)
        PySem.F.called_set.init.plain PySem.F.entry_set_init (check_set_init_1 ty1 ?_)) fun r₂ s₂ done => ?_
      · obtain ⟨⟨_, od, _, osl⟩, hol, hcl, nl, hdl⟩ := hl
        simp only at hcl hdl
        subst hcl hdl
        have at2 : (s.heap.push (emptySet led)).get? l = some { cls := .type "tuple", dict := od, data := .seq items nl, slots := osl } := Heap.get?_push_of_some _ hol
        have hl1 : (s.heap.push (emptySet led)).IsTuple l items := ⟨_, at2, rfl, nl, rfl⟩
        have j1 := PySem.F.sub_tuple_set
        have j2 := PySem.F.sub_tuple_frozenset
        have j3 : (Value.type "tuple" == Value.type "dict") = false := by decide
        unfold Builtin.«set.__init__» noKeywords Builtin.Frozenset.updateFrom
        generalize hPI : pyIter = PI
        wp_walk
        subst hPI
        refine wpAny_pyIter_tuple hl1 (wpAny_bind (wpAny_runValue ?_))
        have lt1 := Heap.lt_size hol
        have sz : (s.heap.push (emptySet led)).objs.size = s.heap.objs.size + 1 := Heap.size_push _ _
        have hh3 : A.in1.in1.in1.handled = none := by simp [hh]
        have W := (Walks.tuple (prog := prog) (w := w) hh3 (s.heap.push (emptySet led)).objs.size l (by rw [sz]; exact Nat.ne_of_lt (Nat.lt_succ_of_lt lt1)) items).toS
        refine fill (knd := knd) W s.heap.objs.size ?off ks hk.1 (fun i v e => hk.2 i v e) room (fun _ _ _ _ _ => trivial) (items.size - 0) 0 _ (by omega) (Nat.zero_le _) ⟨⟨_, Heap.get?_push_size _ rfl, rfl, rfl⟩, hl1.push _⟩ ?h0 ?fin
        case off =>
          rw [sz]
          intro z
          rcases List.mem_cons.mp z with z | z
          · exact Nat.ne_of_lt (Nat.lt_succ_self _) z
          · exact Nat.ne_of_gt lt1 (List.mem_singleton.mp z)
        case h0 => exact fresh_holds (Heap.get?_push_of_some _ at1)
        case fin =>
          rintro ⟨h', g', d', tk', os'⟩ mv hS
          obtain rfl : g' = s.gens := mv.gens
          obtain rfl : d' = s.drawn := mv.drawn
          obtain rfl : os' = s.os := mv.os
          refine wpAny_pure (wpAny_pure ⟨rfl, h', tk', rfl, hS, fun b o e => ?_⟩)
          have lb := Heap.lt_size e
          refine mv.heap b o ?_ (Heap.get?_push_of_some _ (Heap.get?_push_of_some _ e))
          rw [sz]
          intro z
          rcases List.mem_cons.mp z with z | z
          · exact Nat.ne_of_lt lb z
          · exact Nat.ne_of_lt (Nat.lt_succ_of_lt lb) (List.mem_singleton.mp z)
      · cases r₂ with
        | error _ => exact done
        | ok fl₂ => cases fl₂ with
          | ret r =>
            obtain ⟨rfl, h', tk, rfl, hS, kept⟩ := done
            repeat (any_goals (first | assumption | wp_step))
            exact h _ _ hS kept
          | next => exact done.elim
          | brk => exact done.elim
          | cont => exact done.elim
end
end FBS
namespace FB
open PySem PySem.Spec L2

/-! ### len(set(e)), e a list or tuple of texts and ints -/
def keysOf : List D → Option (List Key)
  | [] => some []
  | .int i :: r => (keysOf r).map (.inl i :: ·)
  | .str x :: r => (keysOf r).map (.inr x :: ·)
  | _ => none
theorem DRs.keys {K : PySem.W.Frag} {F : Hp} : ∀ {vs : List V} {ds : List D} {ks : List Key}, DRs K F vs ds → keysOf ds = some ks → vs = ks.map kV
  | _, _, _, .nil, e => by
    cases e
    rfl
  | _, .int b :: r, _, .cons h t, e => by
    simp only [keysOf, Option.map_eq_some_iff] at e
    obtain ⟨bs, e, rfl⟩ := e
    rw [h.intOf, List.map_cons, DRs.keys t e]
    rfl
  | _, .str b :: r, _, .cons h t, e => by
    simp only [keysOf, Option.map_eq_some_iff] at e
    obtain ⟨bs, e, rfl⟩ := e
    cases h
    rw [List.map_cons, DRs.keys t e]
    rfl
  | _, .none :: _, _, .cons _ _, e => by cases e
  | _, .bool _ :: _, _, .cons _ _, e => by cases e
  | _, .list _ :: _, _, .cons _ _, e => by cases e
  | _, .tuple _ :: _, _, .cons _ _, e => by cases e
  | _, .dict _ :: _, _, .cons _ _, e => by cases e
theorem carry_keys {prog : Program} {w : World} : ∀ {ks : List Key} {its : List Value}, Vals (ks.map kV) its → FBS.Carry (mixKind prog w) its.toArray ks := fun {ks its} r => by
  refine ⟨by rw [List.size_toArray, ← r.length, List.length_map], fun i v e => ?_⟩
  have e : its[i]? = some v := by simpa using e
  have key : ∀ {ks : List Key} {its : List Value} {i : Nat} {v : Value}, Vals (ks.map kV) its → its[i]? = some v → ∃ k, ks[i]? = some k ∧ keyIs k v = true ∧ v.scannable = true := by
    intro ks
    induction ks with
    | nil =>
      intro its i v r e
      cases r
      cases e
    | cons k ks ih =>
      intro its i v r e
      cases r with
      | cons h t =>
        cases i with
        | zero =>
          cases e
          cases k with
          | inl j =>
            obtain ⟨t, rfl⟩ := h
            exact ⟨.inl j, rfl, keyIs_int j t, rfl⟩
          | inr x =>
            obtain ⟨t, rfl⟩ := h
            exact ⟨.inr x, rfl, keyIs_str x t, rfl⟩
        | succ i => exact ih t e
  exact key r e
def tLS (K : PySem.W.Frag) (ta : TE) : TE := fun σ H Q => ta σ H fun x H1 => ∃ l, ∃ ks : List Key, x = .ref l ∧ (SqL K H1 l (ks.map kV) ∨ SqT K H1 l (ks.map kV)) ∧ ks.length ≤ 1000 ∧ Q (.int (FBS.nub ks).length) H1
section
variable {X : Cx} {W : WX} {a : Expr} {ta : TE} {f : ME} {p p2 q pos : Pos}
theorem few_scan {n : Nat} (h : n ≤ 1000) : n + 1 < scanBound := by
  unfold scanBound
  omega
theorem pe_LS (hc : X.calm = true) (hm : X.mg "len" = none) (hm2 : X.mg "set" = none) (ha : PE X a ta) (hg : Gl X "len") (hg2 : Gl X "set") (na : starEach [a] X.env = (false, eval a X.env) :: starEach [] X.env) :
    PE X (.Call (.Name "len" p) [.Call (.Name "set" p2) [a] [] q] [] pos) (tLS X.K ta) := by
  refine ⟨fun pins s σ H Q I h => ?_⟩
  refine PyProof.Rows.Call_ (ld_blt I hg hm boot_len (PyProof.Rows.callWith_builtin1 (PyProof.Rows.args_cons ?_ rfl) rfl rfl))
  refine PyProof.Rows.Call_ (ld_blt I hg2 hm2 PyProof.Rows.boot_set (PyProof.Rows.callWith_type1 (PyProof.Rows.args_cons (thn (ha.run pins s σ H _ I h) fun v s1 ⟨x, H1, I1, r1, q1⟩ => PyProof.Rows.args_nil ?_) na) na rfl))
  obtain ⟨l, ks, rfl, hq, hl, q1⟩ := q1
  cases r1
  have last : ∀ (h' : Heap) (tk : Nat), FBS.Holds (mixKind X.prog X.w) h' s1.heap.objs.size ks → (∀ b o, s1.heap.get? b = some o → h'.get? b = some o) →
      wpAny (model X.prog X.w) X.A (spliced (backTo pos (starEach [] X.env))) (fun vs s₂ => wpAny (model X.prog X.w) X.A (call (.builtin "len") (Value.ref s1.heap.objs.size :: vs)) (EP X pins σ Q) X.xe s₂) X.xe { s1 with heap := h', toks := tk } := fun h' tk hS kept => by
    obtain ⟨o, es, ep, t, ho, hex, hd, _, _, _, hf, hn⟩ := hS
    have le := FBS.nub_length_le ks
    refine PyProof.Rows.args_nil (call_len_set ho hex hd hf (by rw [hn]; omega) ?_)
    have I2 : Inv X pins σ H1 { s1 with heap := h', toks := tk } := I1.kept kept
    exact ⟨.int (FBS.nub ks).length, H1, I2.tok _, ⟨_, by rw [hn]⟩, q1⟩
  rcases hq with hq | hq
  · obtain ⟨its, r, pl, _⟩ := I1.list hq
    exact FBS.set_list (I1.ok.hd hc) pl.isList (carry_keys r) (few_scan (by rw [List.size_toArray, ← r.length, List.length_map]; exact hl)) last
  · obtain ⟨its, r, pl, _⟩ := I1.tuple hq
    exact FBS.set_tuple (I1.ok.hd hc) pl (carry_keys r) (few_scan (by rw [List.size_toArray, ← r.length, List.length_map]; exact hl)) last
/-- the items of a list or a tuple -/
def itemsD : D → Option (List D)
  | .list xs => some xs
  | .tuple xs => some xs
  | _ => none
def lenSetD (d : D) : Option Int := match itemsD d with
  | none => none
  | some xs => match keysOf xs with
    | none => none
    | some ks => if ks.length ≤ 1000 then some (FBS.nub ks).length else none
def eLenSet (a : ME) : ME := fun ρ => (a ρ).bind fun u ρ1 => match res ρ1 (hold u) with
  | none => .bad
  | some d => match lenSetD d with
    | none => .bad
    | some n => .ok (.d (.int n)) ρ1
theorem se_lenSet (hc : X.calm = true) (hm : X.mg "len" = none) (hm2 : X.mg "set" = none) (ha : SE X W a f) (hg : Gl X "len" := by rfl) (hg2 : Gl X "set" := by rfl) (na : starEach [a] X.env = (false, eval a X.env) :: starEach [] X.env := by rfl) :
    SE X W (.Call (.Name "len" p) [.Call (.Name "set" p2) [a] [] q] [] pos) (eLenSet f) :=
  PE.imp (pe_LS hc hm hm2 ha hg hg2 na) fun σ H Q ⟨C, F, ρ, R, h⟩ => ⟨C, F, ρ, R, Post.bind h fun u ρ1 x F1 H1 s1 R1 r1 h1 => by
    obtain ⟨F2, s2, R2, r2⟩ := VR.hold R1 r1
    have h1 := h1.mono s2
    cases q1 : res ρ1 (hold u) with
    | none => simp only [q1] at h1; exact h1.elim
    | some d =>
      simp only [q1] at h1
      have r3 := r2.res R2 q1
      cases q2 : lenSetD d with
      | none => simp only [q2] at h1; exact h1.elim
      | some n =>
        simp only [q2] at h1
        have fin := h1 (.int n) F2 H1 (Same.refl F2) R2 (.int n)
        unfold lenSetD at q2
        match d, r3, q2 with
        | .list xs, r3, q2 =>
          simp only [itemsD] at q2
          cases q3 : keysOf xs with
          | none => simp only [q3] at q2; cases q2
          | some ks =>
            simp only [q3] at q2
            obtain ⟨a, vs, rfl, k1, k2⟩ := r3.list R2
            by_cases hl : ks.length ≤ 1000
            · rw [if_pos hl] at q2
              cases q2
              have e := k2.keys q3
              subst e
              exact ⟨a, ks, rfl, .inl k1, hl, fin⟩
            · rw [if_neg hl] at q2
              cases q2
        | .tuple xs, r3, q2 =>
          simp only [itemsD] at q2
          cases q3 : keysOf xs with
          | none => simp only [q3] at q2; cases q2
          | some ks =>
            simp only [q3] at q2
            obtain ⟨a, vs, rfl, k1, k2, _⟩ := r3.tuple R2
            by_cases hl : ks.length ≤ 1000
            · rw [if_pos hl] at q2
              cases q2
              have e := k2.keys q3
              subst e
              exact ⟨a, ks, rfl, .inr k1, hl, fin⟩
            · rw [if_neg hl] at q2
              cases q2⟩
end
end FB
namespace FB
open PySem PySem.Spec L2

/-! ### short words for the terms of a program -/
theorem r64 {k : Nat} {A : Around} (hr : Room k A) : A.units + 64 < cLine := hr.units
theorem r65 {k : Nat} {A : Around} (hr : Room k A) : A.units + 65 < cLine := by
  have := hr.un
  omega
def bltNames : List Str := ["len", "set", "isinstance", "str", "tuple", "list", "int", "bool", "range", "max", "min", "all", "any", "sum", "zip", "sorted", "enumerate", "dict"]
/-- the built-in names stand for themselves -/
def Blts (mg : Str → Option Value) : Prop := ∀ x ∈ bltNames, mg x = none
/-- a def that may be called -/
def Cl (P : Program) (w : World) (K : PySem.W.Frag) (mg : Str → Option Value) (base : Heap) (k : Nat) (x : Str) (ps : List Str) (G : List Slot → Out Vl) : Prop :=
  ∃ f fd, FnG P w K mg base k f fd ps (spOf K mg G ps.length) ∧ PySem.W.keepIn K (.ref f) = true ∧ Binds K fd ps [] ∧ mg x = some (.ref f)
section
variable {X : Cx} {W : WX} {pos p : Pos} {k j n : Nat} {ps : List Str} {x : Str} {e : Expr} {es : List Expr} {fs : MA} {G : List Slot → Out Vl} {f : ME}
theorem se_callC (c : Cl X.prog X.w X.K X.mg X.base k x ps G) (hr : Room k X.A) (hgd : X.A.guards = some []) (tk : L2N.Takes X W) (ha : SA X W (e :: es) fs) (hn : ∀ ρ us ρ1, fs ρ = .ok us ρ1 → us.length = ps.length) (hg : Gl X x := by rfl) (hdb : (x == ("__debug__" : Str)) = false := by decide)
    (he : starEach (e :: es) X.env = (false, eval e X.env) :: starEach es X.env := by rfl) (hpl : (backTo pos (starEach es X.env)).any (·.1) = false := by rfl) : SE X W (.Call (.Name x p) (e :: es) [] pos) (eCall G fs) := by
  obtain ⟨f, fd, F, hk, hb, hm⟩ := c
  exact se_call F hr hgd hm hk hb tk ha hn hg hdb he hpl
theorem se_callIoC (c : Cl X.prog X.w X.K X.mg X.base k x ps G) (hr : Room k X.A) (hgd : X.A.guards = some []) (tk : L2N.Takes X W) (ha : SA X W (e :: es) fs) (hn : ∀ ρ us ρ1, fs ρ = .ok us ρ1 → us.length = ps.length) (hg : Gl X x := by rfl) (hdb : (x == ("__debug__" : Str)) = false := by decide)
    (he : starEach (e :: es) X.env = (false, eval e X.env) :: starEach es X.env := by rfl) (hpl : (backTo pos (starEach es X.env)).any (·.1) = false := by rfl) : SE X W (.Call (.Name x p) (e :: es) [] pos) (eCallIo G fs) := by
  obtain ⟨f, fd, F, hk, hb, hm⟩ := c
  exact se_callIo F hr hgd hm hk hb tk ha hn hg hdb he hpl
theorem se_callC0 (c : Cl X.prog X.w X.K X.mg X.base k x [] G) (hr : Room k X.A) (hgd : X.A.guards = some []) (hg : Gl X x := by rfl) (hdb : (x == ("__debug__" : Str)) = false := by decide) : SE X W (.Call (.Name x p) [] [] pos) (eCall0 G) := by
  obtain ⟨f, fd, F, hk, hb, hm⟩ := c
  exact se_call0 F hr hgd hm hk hb hg hdb
theorem se_constS {y : Str} (h : ∃ t, X.mg x = some (.str y t)) (hg : Gl X x := by rfl) (hdb : (x == ("__debug__" : Str)) = false := by decide) : SE X W (.Name x pos) (eC (.str y)) := by
  obtain ⟨t, h⟩ := h
  exact se_glob (v := .str y) h ⟨t, rfl⟩ (fun _ => .str y) hg hdb
theorem se_constI {y : Int} (h : ∃ t, X.mg x = some (.int y t)) (hg : Gl X x := by rfl) (hdb : (x == ("__debug__" : Str)) = false := by decide) : SE X W (.Name x pos) (eC (.int y)) := by
  obtain ⟨t, h⟩ := h
  exact se_glob (v := .int y) h ⟨t, rfl⟩ (fun _ => .int y) hg hdb
/-- -e -/
def eNeg (a : ME) : ME := fun ρ => (a ρ).bind fun u ρ1 => match u with
  | .d (.int i) => .ok (.d (.int (-i))) ρ1
  | _ => .bad
theorem se_neg {a : Expr} (ha : SE X W a f) : SE X W (.UnaryOp .USub a pos) (eNeg f) := PE.imp (pe_un un_neg ha) fun σ H Q ⟨C, F, ρ, R, h⟩ => ⟨C, F, ρ, R, Post.bind h fun u ρ1 v F1 H1 s1 R1 r1 h1 => by
  match u, r1, h1 with
  | .d (.int i), r1, h1 =>
    have r1 : DR X.K F1 v (.int i) := r1
    exact ⟨i, r1.intOf, h1 _ F1 H1 (Same.refl F1) R1 (.int _)⟩⟩
end
/-- a block's names, asked at once -/
def blkB (N : List Str) (sc scope : Scope) (own : List (Str × Nat)) : Bool :=
  decide (scope.kind = .function) && scope.names.all (fun y => decide (scope.names.lookup y.1 = some y.2)) && own.all (fun p => decide (N[p.2]? = some p.1)) &&
  scope.names.all (fun y => !decide (y.2 = .free) || decide (sc.names.lookup y.1 = some .cell) || decide (sc.names.lookup y.1 = some .free)) &&
  scope.names.all (fun y => !(decide (y.2 = .local) || decide (y.2 = .cell)) || decide (y.1 ∈ own.map (·.1)) || !decide (y.1 ∈ N))
theorem blk_ok {N : List Str} {sc scope : Scope} {own : List (Str × Nat)} (h : blkB N sc scope own = true) : BlkOk N sc scope own := by
  unfold blkB at h
  simp only [Bool.and_eq_true, List.all_eq_true, decide_eq_true_eq, Bool.or_eq_true, Bool.not_eq_true', decide_eq_false_iff_not] at h
  obtain ⟨⟨⟨⟨h1, h2⟩, h3⟩, h4⟩, h5⟩ := h
  refine ⟨h1, h2, h3, fun y hy e => ?_, fun y hy e => ?_⟩
  · rcases h4 y hy with (z | z) | z
    · exact absurd e z
    · exact .inl z
    · exact .inr z
  · rcases h5 y hy with (z | z) | z
    · rcases e with e | e
      · rw [e] at z; simp at z
      · rw [e] at z; simp at z
    · exact .inl z
    · exact .inr z
end FB
namespace FB
open PySem PySem.Spec L2

/-! ### repetition -/
/-- a list, read on the spot or frozen, times an int that is not negative -/
def rRepRd (K : PySem.W.Frag) : R2 := fun x y H Q => ∃ l k vs, x = .ref l ∧ y = .int k ∧ SqL K H l vs ∧ 0 ≤ k ∧ k ≤ 1000 ∧ vs.length ≤ 1000 ∧ ∀ p, H p = none → Q (.ref p) (upd H p (.lst (List.replicate k.toNat vs).flatten))
theorem fold_flat (its : List Value) (m : Nat) : List.foldl (fun x1 x2 => x1 ++ x2) #[] (List.replicate m its.toArray) = (List.replicate m its).flatten.toArray := by
  have := foldl_rep its m []
  rwa [List.nil_append] at this
theorem rep_len {α : Type} (m : Nat) (l : List α) : (List.replicate m l).flatten.length = m * l.length := PyProof.Rows.lm_len_rep_flat ..
theorem op_repR {X : Cx} : OpR X (binaryOp .Mult) (rRepRd X.K) := by
  intro pins s σ H x y v u Q I rx ry h
  obtain ⟨l, k, vs, rfl, rfl, hH, h1, h2, hz, q⟩ := h
  cases rx
  obtain ⟨t, rfl⟩ := ry
  obtain ⟨its, r, ⟨⟨c1, d1, t1, sl1⟩, n, e, k1, k2, k3⟩, z⟩ := I.list hH
  simp only at k1 k2 k3
  subst k1 k2 k3
  have hl := r.length
  have bnd : its.toArray.size * k.toNat ≤ 1000000 := by
    rw [List.size_toArray, ← hl]
    exact Nat.mul_le_mul hz (show k.toNat ≤ 1000 by omega)
  have hlen : its.toArray.size * k.toNat ≤ sizeLine := Nat.le_trans bnd (by decide)
  have hcap : ¬ its.toArray.size * k.toNat > (2 ^ 63 - 1) / 8 := by
    have : 1000000 ≤ (2 ^ 63 - 1) / 8 := by decide
    omega
  have hfit : ¬ (!Builtin.List.listFitsIndex k) = true := by
    rw [fitsIndex_both (by omega) (by omega)]
    decide
  have hlong : ¬ Builtin.List.listTooLong (its.toArray.size * k.toNat) = true := by
    rw [notLongL hlen]
    decide
  have hnew : List.foldl (fun x1 x2 => x1 ++ x2) #[] (List.replicate (if its.toArray.isEmpty = true then 0 else k.toNat) its.toArray) = (List.replicate k.toNat its).flatten.toArray := by
    rw [fold_flat]
    cases its with
    | nil => simp
    | cons a r' => simp
  refine wpAny_binaryOp_repeat_ref (T := "list") (U := "int") (by decide) ⟨_, e, rfl⟩ (fun s' => typeIs_int s' k t) noFill_list_mul F.fills_int_mul F.slot_int_rmul repeat_list F.slot_int_index.lookup ?_
  refine call_meets F.slot_int_rmul (typeIs_int s k t) F.entry_int_rmul (F.args_int_rmul_2 _ _) (FBT.rmul_listW k t l its.toArray n none sl1) ⟨e, rfl, ⟨_, e, rfl⟩, ?_⟩
  refine call_meets F.slot_list_mul ⟨_, e, rfl⟩ F.entry_list_mul (F.args_list_mul_2 _ _) (FBT.mul_listW l its.toArray n none sl1 k t hfit hcap hlong) ⟨e, ?_⟩
  rw [hnew]
  refine ⟨.ref _, _, I.lnew (t' := s.toks) (r.rep k.toNat) ?_, rfl, q _ I.fresh⟩
  rw [rep_len, Nat.mul_comm, hl]
  simpa using hlen
/-- a text, not empty, times an int from 2 on -/
def repS (x : Str) (n : Int) : Str := ⟨(List.replicate n.toNat x.cps.toList).flatten.toArray⟩
theorem foldA {α : Type} (a : Array α) : ∀ (m : Nat) (acc : Array α), (List.replicate m a).foldl (· ++ ·) acc = acc ++ (List.replicate m a.toList).flatten.toArray
  | 0, acc => by simp
  | m + 1, acc => by
    rw [List.replicate_succ, List.foldl_cons, foldA a m, List.replicate_succ, List.flatten_cons]
    apply Array.ext'
    simp
theorem repS_eq (x : Str) (n : Int) : (⟨(List.replicate n.toNat x.cps).foldl (· ++ ·) #[]⟩ : Str) = repS x n := by
  rw [foldA]
  unfold repS
  congr 1
  apply Array.ext'
  simp
theorem repS_length (x : Str) (n : Int) : (repS x n).length = n.toNat * x.length := by
  show (List.replicate n.toNat x.cps.toList).flatten.toArray.size = n.toNat * x.cps.size
  rw [List.size_toArray, rep_len, Array.length_toList]
def rMulS : R2 := fun x y H Q => ∃ a k, x = .str a ∧ y = .int k ∧ 2 ≤ k ∧ k ≤ 1000 ∧ 1 ≤ a.length ∧ a.length ≤ 1000 ∧ Q (.str (repS a k)) H
theorem op_mulS {X : Cx} : OpR X (binaryOp .Mult) rMulS := by
  intro pins s σ H x y v u Q I rx ry h
  obtain ⟨a, k, rfl, rfl, h1, h2, h3, h4, q⟩ := h
  obtain ⟨t, rfl⟩ := rx
  obtain ⟨t2, rfl⟩ := ry
  have hm : a.length * k.toNat ≤ 1000000 := Nat.mul_le_mul h4 (show k.toNat ≤ 1000 by omega)
  have hno : (k == 1 || a.length == 0) = false := by
    have e1 : (k == 1) = false := beq_eq_false_iff_ne.mpr (by omega)
    have e2 : (a.length == 0) = false := beq_eq_false_iff_ne.mpr (by omega)
    rw [e1, e2]
    rfl
  have hk : ¬ k < 1 := by omega
  have hlong : Builtin.Str.tooLong (a.length * k.toNat) = false := by
    unfold Builtin.Str.tooLong
    refine decide_eq_false ?_
    have : 1000000 ≤ sizeLine := by decide
    omega
  refine PySem.P.mul_str (by rw [decide_eq_false (by omega), decide_eq_false (by omega)]; rfl) (fun _ _ => ?_) (fun _ _ => hlong) ?_
  · have hq : (1000 : Int) ≤ (2 ^ 63 - 1) / k := by
      refine Int.le_ediv_of_mul_le (by omega) ?_
      omega
    omega
  · rw [if_neg hk, if_neg (by rw [hno]; decide)]
    rw [repS_eq]
    refine ⟨?_, .str _, H, I.tok _, ⟨_, rfl⟩, q⟩
    rw [repS_length, Nat.mul_comm]
    exact Nat.le_trans hm (by decide)
theorem DRs.rep {K : PySem.W.Frag} {F : Hp} {vs : List V} {ds : List D} (r : DRs K F vs ds) : ∀ m : Nat, DRs K F (List.replicate m vs).flatten (List.replicate m ds).flatten
  | 0 => .nil
  | m + 1 => by
    rw [List.replicate_succ, List.flatten_cons, List.replicate_succ, List.flatten_cons]
    exact r.append (DRs.rep r m)
def gMulA : D → D → Option Vl
  | .int i, .int j => if decide (i.natAbs.log2 + j.natAbs.log2 < 1000000) then some (.d (.int (i * j))) else none
  | .list xs, .int k => if decide (0 ≤ k) && decide (k ≤ 1000) && decide (xs.length ≤ 1000) then some (.nw (List.replicate k.toNat xs).flatten) else none
  | .str a, .int k => if decide (2 ≤ k) && decide (k ≤ 1000) && decide (1 ≤ a.length) && decide (a.length ≤ 1000) then some (.d (.str (repS a k))) else none
  | _, _ => none
def rMulAll (K : PySem.W.Frag) : R2 := fun x y H Q => ((rI CMulW fun i j => .int (i * j)) x y H Q ∨ rRepRd K x y H Q) ∨ rMulS x y H Q
theorem op_mulAll {X : Cx} : OpR X (binaryOp .Mult) (rMulAll X.K) := (op_mulW.or op_repR).or op_mulS
theorem od_mulA {K : PySem.W.Frag} : OpD K (rMulAll K) gMulA := by
  intro C F ρ σ H x y d e z Q R hx hy hg k
  match d, e, hg with
  | .int i, .int j, hg =>
    simp only [gMulA] at hg
    by_cases hl : decide (i.natAbs.log2 + j.natAbs.log2 < 1000000) = true
    · rw [if_pos hl] at hg
      cases hg
      exact .inl (.inl ⟨i, j, hx.intE, hy.intE, of_decide_eq_true (p := i.natAbs.log2 + j.natAbs.log2 < 1000000) hl, k _ F H (Same.refl F) R (.int _)⟩)
    · rw [if_neg hl] at hg
      cases hg
  | .list xs, .int m, hg =>
    simp only [gMulA] at hg
    by_cases hl : (decide (0 ≤ m) && decide (m ≤ 1000) && decide (xs.length ≤ 1000)) = true
    · rw [if_pos hl] at hg
      cases hg
      simp only [Bool.and_eq_true, decide_eq_true_eq] at hl
      obtain ⟨a, vs, rfl, h1, h2⟩ := hx.list R
      exact .inl (.inr ⟨a, m, vs, rfl, hy.intE, h1, hl.1.1, hl.1.2, by rw [h2.length]; exact hl.2, fun p hp => k _ F _ (Same.refl F) (R.alloc hp) (VR.fresh R hp (h2.rep _))⟩)
    · rw [if_neg hl] at hg
      cases hg
  | .str a, .int m, hg =>
    simp only [gMulA] at hg
    by_cases hl : (decide (2 ≤ m) && decide (m ≤ 1000) && decide (1 ≤ a.length) && decide (a.length ≤ 1000)) = true
    · rw [if_pos hl] at hg
      cases hg
      simp only [Bool.and_eq_true, decide_eq_true_eq] at hl
      exact .inr ⟨a, m, hx.strE, hy.intE, hl.1.1.1, hl.1.1.2, hl.1.2, hl.2, k _ F H (Same.refl F) R (.str _)⟩
    · rw [if_neg hl] at hg
      cases hg

/-! ### is of bools and None -/
def gIsA : D → D → Option Vl
  | d, .none => some (.d (.bool (D.isNone d)))
  | .bool a, .bool b => some (.d (.bool (decide (a = b))))
  | _, _ => none
def rIsAll : R2 := fun x y H Q => (y = .non ∧ Q (.bl (decide (x = .non))) H) ∨ rIsB x y H Q
theorem op_isAll {X : Cx} : OpR X (compareOp .Is) rIsAll := op_isN.or op_isBl
theorem od_isA {K : PySem.W.Frag} : OpD K rIsAll gIsA := by
  intro C F ρ σ H x y d e z Q R hx hy hg k
  cases e with
  | none =>
    have e2 : z = .d (.bool (D.isNone d)) := by
      cases d <;> (simp only [gIsA] at hg; cases hg; rfl)
    subst e2
    refine .inl ⟨hy.nonE, k _ F H (Same.refl F) R ?_⟩
    rw [isNone_iff hx]
    exact .bl _
  | bool b =>
    cases d with
    | bool a =>
      simp only [gIsA] at hg
      cases hg
      exact .inr ⟨a, b, hx.boolE, hy.boolE, k _ F H (Same.refl F) R (.bl _)⟩
    | _ => simp only [gIsA] at hg; cases hg
  | _ => cases d <;> (simp only [gIsA] at hg; cases hg)

/-! ### {} -/
def eDict0 : ME := fun ρ => .ok (.d (.dict [])) ρ
theorem se_dict0 {X : Cx} {W : WX} {pos : Pos} : SE X W (.Dict [] [] pos) eDict0 := PE.imp pe_dnewK fun σ H Q ⟨C, F, ρ, R, h⟩ p hp =>
  h _ (upd F p (.dK [])) _ (same_new (R.fnone hp)) (R.allocS hp) (show DR X.K (upd F p (.dK [])) (.ref p) (.dict []) from .dic (kvs := []) (ks := []) upd_same rfl .nil)
end FB
namespace FBT
open PySem HT PyProof.Rows
section
variable {prog : Program} {w : World} {A : Around} {E : Value → Shared → Prop} {s : Shared}
theorem rev_bounds (n : Nat) : Builtin.Slice.sliceAdjust none none (-1) (n : Int) = ((n : Int) - 1, -1) := by
  unfold Builtin.Slice.sliceAdjust
  simp
theorem rev_places (n : Nat) : Builtin.Slice.slicePlaces ((n : Int) - 1) (-1) (-1) = n := by
  unfold Builtin.Slice.slicePlaces
  rw [if_neg (by omega)]
  split
  · rw [show ((n : Int) - 1 - -1 - 1) / (- -1) + 1 = (n : Int) from by
      rw [show (- -1 : Int) = 1 from rfl, Int.ediv_one]
      omega]
    rfl
  · have : n = 0 := by omega
    subst this
    rfl
theorem rev_pick (xs : Array Value) : ((List.range xs.size).filterMap fun (m : Nat) => xs[(((xs.size : Nat) : Int) - 1 + (m : Int) * -1).toNat]?).toArray = xs.toList.reverse.toArray := by
  have e1 : (List.range xs.size).filterMap (fun (m : Nat) => xs[(((xs.size : Nat) : Int) - 1 + (m : Int) * -1).toNat]?) = ((List.range xs.size).map fun k => xs.size - 1 - k).filterMap (xs[·]?) := by
    rw [List.filterMap_map]
    congr 1
    funext m
    show xs[(((xs.size : Nat) : Int) - 1 + (m : Int) * -1).toNat]? = xs[xs.size - 1 - m]?
    congr 1
    omega
  rw [e1, PySem.W.krv_range, List.filterMap_reverse, PySem.W.krv_all]
theorem sliceApplied_rev {sl : Addr} {t : Tok} {n : Nat} {Q : Int × Int × Nat → Shared → Prop} (hs : s.heap.IsSliceOf sl .none .none (.int (-1) t)) (h : Q ((n : Int) - 1, -1, n) s) : wpAny (model prog w) A (Builtin.Slice.sliceApplied (.ref sl) (pure (n : Int))) Q E s := by
  obtain ⟨ob, hob, hcl, hda⟩ := hs
  unfold Builtin.Slice.sliceApplied Builtin.Slice.sliceFields
  refine wpAny_bind (wpAny_bind (wpAny_field hob hda (x := .none) rfl (wpAny_bind (wpAny_field hob hda (x := .none) rfl (wpAny_bind (wpAny_field hob hda (x := .int (-1) t) rfl (wpAny_pure ?_)))))))
  refine wpAny_bind (slicePart_int ?_)
  show wpAny _ _ (if ((-1 : Int) == 0) = true then _ else _) _ _ s
  rw [if_neg (by decide)]
  refine wpAny_bind (slicePart_none (wpAny_bind (slicePart_none (wpAny_bind (wpAny_pure ?_)))))
  show wpAny _ _ (match Builtin.Slice.sliceAdjust none none (-1) (n : Int) with | (a, b) => pure (a, (-1 : Int), Builtin.Slice.slicePlaces a b (-1))) _ _ s
  rw [rev_bounds]
  show wpAny _ _ (pure ((n : Int) - 1, (-1 : Int), Builtin.Slice.slicePlaces ((n : Int) - 1) (-1) (-1))) _ _ s
  rw [rev_places]
  exact wpAny_pure h
theorem getItem_tuple_rev {t sl : Addr} {items : Array Value} {tk : Tok} {Q : Value → Shared → Prop} (ht : IsTup s.heap t items) (hs : s.heap.IsSliceOf sl .none .none (.int (-1) tk)) (hsz : items.size ≤ sizeLine)
    (h : Q (.ref s.heap.objs.size) { s with heap := s.heap.push { cls := .type "tuple", data := .seq items.toList.reverse.toArray } }) : wpAny (model prog w) A (getItem (.ref t) (.ref sl)) Q E s := by
  have hfit : sizeOk (.seq items.toList.reverse.toArray) := by
    show items.toList.reverse.toArray.size ≤ sizeLine
    rw [List.size_toArray, List.length_reverse, Array.length_toList]
    exact hsz
  obtain ⟨ob, hob, hcl, hda⟩ := id hs
  have hTs : s.TypeIs (.ref sl) "slice" := ⟨ob, hob, hcl⟩; unfold getItem
  try with_reducible refine wpAny_holding ?_
  first | refine wpAny_bind (wpAny_pure ?_) | skip
  refine wpAny_bind (wpAny_sequenceKey ht.typeIs (by decide) (wpAny_bind (wpAny_callSpecial?_slot (name := Str.ofString "__getitem__") ht.typeIs PyProof.Rows.slot_tuple_getitem (wpAny_call_entry PyProof.Rows.slot_tuple_getitem ht.typeIs entry_tuple_getitem ?_ (args_tuple_getitem _ _)))))
  show wpAny _ _ (Builtin.Tuple.tupleItemsOf (.ref t) >>= _) _ _ s; refine wpAny_bind (tupleItemsOf_ ht (wpAny_bind (wpAny_typeOf hTs ?_))); rw [if_pos (by decide)]
  refine wpAny_bind (sliceApplied_rev hs ?_)
  have hno : ¬ ((((items.size : Nat) : Int) - 1 == 0 && (-1 : Int) == 1 && items.size == items.size) = true) := by
    simp
  show wpAny _ _ (if ((((items.size : Nat) : Int) - 1 == 0 && (-1 : Int) == 1 && items.size == items.size) = true) then _ else _) _ _ s
  rw [if_neg hno, rev_pick]
  first | exact wpAny_bind (m := Builtin.Tuple.tupleExact _) (wpAny_newObj_type (wpAny_pure ⟨_, rfl, wpAny_pure h⟩) hfit) | exact wpAny_bind (m := Builtin.Tuple.tupleExact _) (wpAny_newObj_type (wpAny_bind (wpAny_pure (wpAny_pure ⟨_, rfl, wpAny_pure h⟩))) hfit) | exact wpAny_bind (wpAny_bind (m := Builtin.Tuple.tupleExact _) (wpAny_newObj_type (wpAny_pure (wpAny_pure ⟨_, rfl, wpAny_pure h⟩)) hfit)) | exact wpAny_bind (wpAny_bind (m := Builtin.Tuple.tupleExact _) (wpAny_newObj_type (wpAny_pure ⟨_, rfl, wpAny_pure h⟩) hfit))
end
end FBT
namespace FB
open PySem PySem.Spec L2
/-- e[::-1] of a list or a tuple -/
def tRev (K : PySem.W.Frag) (te : TE) : TE := fun σ H Q => te σ H fun x H1 => ∃ a xs, x = .ref a ∧ ((SqL K H1 a xs ∧ ∀ p, H1 p = none → Q (.ref p) (upd H1 p (.lst xs.reverse))) ∨ (SqT K H1 a xs ∧ NewT H1 xs.reverse Q))
theorem pe_rev {X : Cx} {e : Expr} {te : TE} {k : Nat} {p1 p2 p3 pos : Pos} (he : PE X e te) : PE X (.Subscript e (.Slice none none (some (.UnaryOp .USub (.Constant (.int 1) k p1) p2)) p3) pos) (tRev X.K te) := by
  refine ⟨fun pins s σ H Q I h => PyProof.Rows.Subscript_ (thn (he.run pins s σ H _ I h) fun v s1 ⟨x, H1, I1, r1, a, xs, ex, q⟩ => ?_)⟩
  subst ex
  cases r1
  have hst : PO X (some (.UnaryOp .USub (.Constant (.int 1) k p1) p2)) (tPart (tUn (rU fun i => .int (-i)) (tC (.int 1)))) := po_some (pe_un un_neg pe_int)
  refine wpAny_Slice (thn (po_none.run pins s1 σ H1 (fun o H2 => o = none ∧ H2 = H1) I1 ⟨rfl, rfl⟩) fun vl s2 ⟨l, H2, I2, pl, el, e2⟩ => ?_); subst el e2
  refine thn (po_none.run pins s2 σ H2 (fun o H3 => o = none ∧ H3 = H2) I2 ⟨rfl, rfl⟩) fun vu s3 ⟨u, H3, I3, pu, eu, e3⟩ => ?_; subst eu e3
  refine thn (hst.run pins s3 σ H3 (fun o H4 => o = some (-1) ∧ H4 = H3) I3 ⟨1, rfl, -1, rfl, rfl, rfl⟩) fun vs s4 ⟨o, H4, I4, ps, eo, e4⟩ => ?_; subst eo e4
  have I5 : Inv X pins σ H4 { s4 with heap := s4.heap.push { cls := .type "slice", data := .fields #[vl, vu, vs] } } := I4.kept (t' := s4.toks) fun b ob q => Heap.get?_push_of_some _ q
  show wpAny (model X.prog X.w) X.A (PyProof.Rows.subscriptTail e (.Slice none none (some (.UnaryOp .USub (.Constant (.int 1) k p1) p2)) p3) (.ref a) (.ref s4.heap.objs.size)) (EP X pins σ Q) X.xe { s4 with heap := s4.heap.push { cls := .type "slice", data := .fields #[vl, vu, vs] } }
  cases pl
  cases pu
  cases ps
  rcases q with ⟨hx, q⟩ | ⟨hx, q⟩
  · obtain ⟨its, r, ht, hz⟩ := I5.list hx
    have hlen := r.length
    refine PyProof.Rows.tail_any (ops := [.ref a, .ref s4.heap.objs.size]) ht.isList.typeIs (PySem.slot_list_getitem.lookup) (wpAny_getItem_list_slice ht.isList (Heap.IsSliceOf.new _ .none .none _) .none .none (.int (-1) _) (by decide) ?_ (by rw [List.size_toArray]; omega)) (by with_unfolding_all rfl)
    rw [PySem.W.krv_pick]
    exact ⟨.ref _, _, I5.laid (t' := s4.toks) (o := .lst xs.reverse) (fun b ob q => Heap.get?_push_of_some _ q) (Nat.le_refl _) ⟨by rw [List.length_reverse]; exact hz, _, 0, r.reverse, Heap.get?_push_size _ rfl⟩, rfl, q _ (I5.hok.fresh (Nat.le_refl _))⟩
  · obtain ⟨its, r, ht, hz⟩ := I5.tuple hx
    have hlen := r.length
    refine PyProof.Rows.tail_any (ops := [.ref a, .ref s4.heap.objs.size]) ht.typeIs (PyProof.Rows.slot_tuple_getitem.lookup) (FBT.getItem_tuple_rev ht (Heap.IsSliceOf.new _ .none .none _) (by rw [List.size_toArray]; omega) ?_) (by with_unfolding_all rfl)
    exact ep_newT (tk := s4.toks) I5 r.reverse (by rw [List.length_reverse]; omega) q
def revD : D → Option Vl
  | .list ds => some (.nw ds.reverse)
  | .tuple ds => some (.d (.tuple ds.reverse))
  | _ => none
def eRev (a : ME) : ME := fun ρ => (a ρ).bind fun u ρ1 => match res ρ1 (hold u) with
  | some d => match revD d with
    | some z => .ok z ρ1
    | none => .bad
  | none => .bad
theorem se_rev {X : Cx} {W : WX} {e : Expr} {f : ME} {k : Nat} {p1 p2 p3 pos : Pos} (he : SE X W e f) : SE X W (.Subscript e (.Slice none none (some (.UnaryOp .USub (.Constant (.int 1) k p1) p2)) p3) pos) (eRev f) :=
  PE.imp (pe_rev he) fun σ H Q ⟨C, F, ρ, R, h⟩ => ⟨C, F, ρ, R, Post.bind h fun u ρ1 v F1 H1 s1 R1 r1 h1 => by
    obtain ⟨F2, s2, R2, r2⟩ := VR.hold R1 r1
    cases q : res ρ1 (hold u) with
    | none => simp only [q] at h1; exact h1.elim
    | some d =>
      simp only [q] at h1
      have t := r2.res R2 q
      match d, h1, t with
      | .list ds, h1, t =>
        obtain ⟨a, vs, rfl, h3, h4⟩ := t.list R2
        exact ⟨a, vs, rfl, .inl ⟨h3, fun p hp => h1 _ F2 _ s2 (R2.alloc hp) (VR.fresh R2 hp h4.rev)⟩⟩
      | .tuple ds, h1, t =>
        obtain ⟨a, vs, rfl, h3, h4, h5⟩ := t.tuple R2
        refine ⟨a, vs, rfl, .inr ⟨h3, fun p its hp => ?_⟩⟩
        have s := same_new (o := HO.frz (tObj its) (.tup vs.reverse)) (R2.fnone hp)
        exact h1 _ _ _ (s2.trans s) (R2.allocS hp) (show DR X.K _ _ (.tuple ds.reverse) from .tup (.inl (.inr ⟨_, upd_same⟩)) (.inl ⟨_, _, upd_same⟩) (h4.rev.mono s))⟩
end FB
/-! str() of data; a dict in it is empty and is not sys.modules -/
namespace FBR
open PySem PySem.Spec
mutual
inductive RW (h : Heap) : Value → PyData → Prop
  | non : RW h .none .none
  | bl (b : Bool) : RW h (.bool b) (.bool b)
  | int (i : Int) (t : Tok) : RW h (.int i t) (.int i)
  | str (x : Str) (t : Tok) : RW h (.str x t) (.str x)
  | lst {a : Addr} {o : Obj} {vs : List Value} {n : Nat} {xs : List PyData} : h.get? a = some o → o.cls = .type "list" → o.data = .seq vs.toArray n → RWs h vs xs → RW h (.ref a) (.list xs)
  | tup {a : Addr} {o : Obj} {vs : List Value} {n : Nat} {xs : List PyData} : h.get? a = some o → o.cls = .type "tuple" → o.data = .seq vs.toArray n → RWs h vs xs → RW h (.ref a) (.tuple xs)
  | dic {a : Addr} {o : Obj} {es : Array DictEntry} {n : Nat} : h.get? a = some o → o.cls = .type "dict" → o.data = .dict es n → es.toList = [] → (a == sysModules) = false → RW h (.ref a) (.dict [])
inductive RWs (h : Heap) : List Value → List PyData → Prop
  | nil : RWs h [] []
  | cons {v : Value} {vs : List Value} {d : PyData} {ds : List PyData} : RW h v d → RWs h vs ds → RWs h (v :: vs) (d :: ds)
end
section
variable {prog : Program} {w : World} {h : Heap}
mutual
theorem RW.reads : ∀ {v : Value} {d : PyData}, RW h v d → ∃ as, Reads h v d as
  | _, _, .non => ⟨_, .none⟩
  | _, _, .bl b => ⟨_, .bool b⟩
  | _, _, .int i t => ⟨_, .int i t⟩
  | _, _, .str x t => ⟨_, .str x t⟩
  | _, _, .lst h1 h2 h3 hs => let ⟨_, r⟩ := RWs.reads hs; ⟨_, .list h1 h2 h3 (by simpa using r)⟩
  | _, _, .tup h1 h2 h3 hs => let ⟨_, r⟩ := RWs.reads hs; ⟨_, .tuple h1 h2 h3 (by simpa using r)⟩
  | _, _, .dic h1 h2 h3 e _ => ⟨_, .dict h1 h2 h3 (by rw [e]; exact .nil) (by rw [e]; exact .nil)⟩
theorem RWs.reads : ∀ {vs : List Value} {ds : List PyData}, RWs h vs ds → ∃ as, ReadsAll h vs ds as
  | _, _, .nil => ⟨_, .nil⟩
  | _, _, .cons r rs => let ⟨_, a⟩ := RW.reads r; let ⟨_, b⟩ := RWs.reads rs; ⟨_, .cons a b⟩
end
theorem far {a : Addr} {v : Value} {d : PyData} {n : Nat} {bs : List Addr} (r : RW h (.ref a) d) (hn : n < d.depth) (hb : ReadAtMost h n bs) : a ∉ bs :=
  let ⟨_, q⟩ := r.reads; not_mem_of_deeper q hn hb
theorem grow {a : Addr} {d : PyData} {n : Nat} {bs : List Addr} (r : RW h (.ref a) d) (hn : n ≤ d.depth) (hb : ReadAtMost h n bs) : ReadAtMost h d.depth (a :: bs) :=
  let ⟨_, q⟩ := r.reads; ReadAtMost.cons q hn hb
theorem dict0_text : dictText [] = PyData.shown (.dict []) := by simp only [PyData.shown, PyData.shownKv]
theorem len_dict0 : (PyData.shown (.dict [])).length ≤ sizeLine := by simp only [PyData.shown, PyData.shownKv]; decide +kernel
mutual
theorem RW.reprK : ∀ {v : Value} {d : PyData}, RW h v d → d.showable = true → d.shown.length ≤ sizeLine → ∃ bs, ReadAtMost h d.depth bs ∧ ReprK prog w bs h d.depth v d.shown
  | _, _, .non, _, _ => ⟨[], (fun _ x => nomatch x), by simp only [PyData.shown]; exact .of_is .none _ _ _⟩
  | _, _, .bl b, _, _ => ⟨[], (fun _ x => nomatch x), by simp only [PyData.shown]; exact .of_is (.bool b) _ _ _⟩
  | _, _, .int i t, sh, _ => ⟨[], (fun _ x => nomatch x), by simp only [PyData.shown]; exact .of_is (.int t (by simpa [PyData.showable] using sh)) _ _ _⟩
  | _, _, .str x t, _, z => ⟨[], (fun _ x => nomatch x), by simp only [PyData.shown]; exact .of_is (.str x t (by simpa only [PyData.shown] using z)) _ _ _⟩
  | _, _, .lst (a := a) (vs := vs) (xs := xs) h1 h2 h3 hs, sh, z => by
    have z2 : (listText (PyData.shownAll xs)).length ≤ sizeLine := by simpa only [PyData.shown] using z
    obtain ⟨bs, b1, k1⟩ := RWs.reprK hs (by simpa [PyData.showable] using sh) fun t m => Nat.le_trans (listText_mem_le m) z2
    have me : RW h (.ref a) (.list xs) := .lst h1 h2 h3 hs
    have dp : PyData.depthAll xs < (PyData.list xs).depth := by simp only [PyData.depth]; omega
    refine ⟨a :: bs, grow me (Nat.le_of_lt dp) b1, ?_⟩
    simp only [PyData.depth, PyData.shown]
    match vs, xs, hs, k1, h3, dp with
    | [], _, .nil, _, h3, _ => simp only [PyData.shownAll, listText_nil]; exact ReprK.listEmpty h1 h2 h3
    | x :: l, _, hs, k1, h3, dp => exact ReprK.list h1 h2 h3 (far (v := .none) me dp b1) (by simpa using k1.length_eq) fun i y e => k1.item i y (by simpa using e)
  | _, _, .tup (a := a) (vs := vs) (xs := xs) h1 h2 h3 hs, sh, z => by
    have z2 : (tupleText (PyData.shownAll xs)).length ≤ sizeLine := by simpa only [PyData.shown] using z
    obtain ⟨bs, b1, k1⟩ := RWs.reprK hs (by simpa [PyData.showable] using sh) fun t m => Nat.le_trans (tupleText_mem_le m) z2
    have me : RW h (.ref a) (.tuple xs) := .tup h1 h2 h3 hs
    have dp : PyData.depthAll xs < (PyData.tuple xs).depth := by simp only [PyData.depth]; omega
    refine ⟨a :: bs, grow me (Nat.le_of_lt dp) b1, ?_⟩
    simp only [PyData.depth, PyData.shown]
    exact ReprK.tuple h1 h2 h3 (far (v := .none) me dp b1) (by simpa using k1)
  | _, _, .dic (a := a) h1 h2 h3 e ns, _, _ => by
    have me : RW h (.ref a) (.dict []) := .dic h1 h2 h3 e ns
    refine ⟨[a], grow (n := 0) me (Nat.zero_le _) (fun _ x => nomatch x), ?_⟩
    rw [← dict0_text]
    have q := ReprK.dict (prog := prog) (w := w) (as := []) (d := 0) (ps := []) h1 h2 h3 ns (fun x => nomatch x) (by rw [e]; exact .nil)
    simpa only [PyData.depth, PyData.depthKv] using q
theorem RWs.reprK : ∀ {vs : List Value} {ds : List PyData}, RWs h vs ds → PyData.showableAll ds = true → (∀ t ∈ PyData.shownAll ds, t.length ≤ sizeLine) → ∃ bs, ReadAtMost h (PyData.depthAll ds) bs ∧ ReprAllK prog w bs h (PyData.depthAll ds) vs (PyData.shownAll ds)
  | _, _, .nil, _, _ => ⟨[], (fun _ x => nomatch x), by simp only [PyData.shownAll]; exact .nil⟩
  | _, _, .cons (d := d) (ds := ds) r rs, sh, z => by
    have s2 : d.showable = true ∧ PyData.showableAll ds = true := by simpa [PyData.showableAll] using sh
    obtain ⟨b1, m1, k1⟩ := RW.reprK r s2.1 (z _ (by simp only [PyData.shownAll]; exact List.mem_cons_self ..))
    obtain ⟨b2, m2, k2⟩ := RWs.reprK rs s2.2 fun t m => z t (by simp only [PyData.shownAll]; exact List.mem_cons_of_mem _ m)
    refine ⟨b1 ++ b2, ?_, ?_⟩
    · simp only [PyData.depthAll]
      exact (m1.mono (Nat.le_max_left ..)).append (m2.mono (Nat.le_max_right ..))
    · simp only [PyData.depthAll, PyData.shownAll]
      exact .cons ((k1.more fun b m => List.mem_append_left _ m).level_le (Nat.le_max_left ..)) (k2.more_le (fun b m => List.mem_append_right _ m) (Nat.le_max_right ..))
end
theorem RW.shows {a : Addr} {d : PyData} (r : RW h (.ref a) d) (sh : d.showable = true) (z : d.shown.length ≤ sizeLine) : ∃ T idr, ShowsBy prog w h a d T idr := by
  cases r with
  | @lst _ o vs n xs h1 h2 h3 hs =>
    have z2 : (listText (PyData.shownAll xs)).length ≤ sizeLine := by simpa only [PyData.shown] using z
    obtain ⟨bs, b1, k1⟩ := RWs.reprK (prog := prog) (w := w) hs (by simpa [PyData.showable] using sh) fun t m => Nat.le_trans (listText_mem_le m) z2
    have me : RW h (.ref a) (.list xs) := .lst h1 h2 h3 hs
    have dp : PyData.depthAll xs < (PyData.list xs).depth := by simp only [PyData.depth]; omega
    refine ⟨"list", _, F.slot_list_repr.toG, F.slot_list_str, F.slot_list_format, fun s k0 => ⟨o, k0 _ _ h1, h2⟩, fun A E s Q hg hu k0 hQ => ?_⟩
    simp only [PyData.depth] at hu
    simp only [PyData.shown] at hQ
    match vs, xs, hs, k1, h3, dp, hQ with
    | [], _, .nil, _, h3, _, hQ =>
      simp only [PyData.shownAll, listText_nil] at hQ
      exact call_list_repr_empty ⟨o, k0 _ _ h1, h2⟩ (k0 _ _ h1) h3 (hQ s.heap _ _ fun _ _ e => e)
    | x :: l, _, hs, k1, h3, dp, hQ =>
      exact call_list_reprK h1 h2 h3 (far (v := .none) me dp b1) (by simpa using k1.length_eq) (fun i y e => k1.item i y (by simpa using e)) hg (fun b _ => Clear.nil b) hu k0 hQ z2
  | @tup _ o vs n xs h1 h2 h3 hs =>
    have z2 : (tupleText (PyData.shownAll xs)).length ≤ sizeLine := by simpa only [PyData.shown] using z
    obtain ⟨bs, b1, k1⟩ := RWs.reprK (prog := prog) (w := w) hs (by simpa [PyData.showable] using sh) fun t m => Nat.le_trans (tupleText_mem_le m) z2
    have me : RW h (.ref a) (.tuple xs) := .tup h1 h2 h3 hs
    have dp : PyData.depthAll xs < (PyData.tuple xs).depth := by simp only [PyData.depth]; omega
    refine ⟨"tuple", _, F.slot_tuple_repr, F.slot_tuple_str, F.slot_tuple_format, fun s k0 => ⟨o, k0 _ _ h1, h2⟩, fun A E s Q hg hu k0 hQ => ?_⟩
    simp only [PyData.depth] at hu
    simp only [PyData.shown] at hQ
    exact call_tuple_reprK h1 h2 h3 (far (v := .none) me dp b1) (by simpa using k1) hg (fun b _ => Clear.nil b) hu k0 hQ z2
  | @dic _ o es n h1 h2 h3 e ns =>
    refine ⟨"dict", _, F.slot_dict_repr, F.slot_dict_str, F.slot_dict_format, fun s k0 => ⟨o, k0 _ _ h1, h2⟩, fun A E s Q hg hu k0 hQ => ?_⟩
    rw [← dict0_text] at hQ
    exact call_dict_reprK (as := []) (d := 0) (ps := []) h1 h2 h3 ns (fun x => nomatch x) (by rw [e]; exact .nil) hg (fun b _ => Clear.nil b) (by simpa only [PyData.depth, PyData.depthKv] using hu) k0 hQ (by rw [dict0_text]; exact len_dict0)
theorem str_RW {A : Around} {E : Value → Shared → Prop} {s : Shared} {Q : Value → Shared → Prop} {a : Addr} {d : PyData} (r : RW s.heap (.ref a) d) (sh : d.showable = true) (z : d.shown.length ≤ sizeLine) (hg : A.guards = some []) (hu : A.units + (d.depth + 3) < cLine)
    (hQ : ∀ h' u tk, (∀ b o, s.heap.get? b = some o → h'.get? b = some o) → Q (.str d.shown u) { s with heap := h', toks := tk }) : wpAny (model prog w) A (call (.type "str") [.ref a]) Q E s := by
  refine callType_new F.called_str (by decide) (F.typeCall_str_1 _) (F.newCall_str_1 _) (fun obj => F.args_object_init_2 obj _) F.entry_str_new (meets_str_new (S := fun A' R s' => A'.guards = some [] ∧ A'.units + (d.depth + 2) < cLine ∧ RW s'.heap (.ref a) d ∧ ∀ h' u tk, (∀ b o, s'.heap.get? b = some o → h'.get? b = some o) → R (.ok (.ret (.str d.shown u))) { s' with heap := h', toks := tk }) fun prog' w' A' R s' x => ?_) ⟨hg, by show A.units + 1 + (d.depth + 2) < cLine; omega, r, fun h' u tk hk => ⟨typeIs_str _ _ _, hQ h' u tk hk⟩⟩
  obtain ⟨x1, x2, x3, x4⟩ := x
  obtain ⟨T, idr, S⟩ := x3.shows (prog := prog') (w := w') sh z
  exact wpAny_strOf_slot rfl (by show A'.units + 1 + 1 < cLine; omega) (S.typeIs s' fun _ _ e => e) S.slotStr S.slotRepr (S.call A'.in1.in1 _ s' _ x1 (by show A'.units + 1 + 1 + d.depth < cLine; omega) (fun _ _ e => e) fun h' u tk hk => ⟨_, _, rfl, x4 h' u tk hk⟩)
end
end FBR
namespace FB
open PySem PySem.Spec L2
/-! ### str(data) -/
mutual
/-- a dict in it is empty -/
def tame : D → Bool
  | .dict kvs => kvs.isEmpty
  | .list xs => tames xs
  | .tuple xs => tames xs
  | _ => true
def tames : List D → Bool
  | [] => true
  | x :: xs => tame x && tames xs
end
section
variable {X : Cx} {pins : List (Addr × Obj)} {σ : St} {H : Hp} {s : Shared}
theorem dic_ok {P : Program} {w : World} {H : Hp} {h : Heap} {a : Addr} (x : ObjOk P w H h a (.dK [])) : ∃ (o : Obj) (es : Array DictEntry) (n : Nat), h.get? a = some o ∧ o.cls = .type "dict" ∧ o.data = .dict es n ∧ es.toList = [] ∧ (a == sysModules) = false := by
  obtain ⟨_, ns, vs, kv, o, es, ep, ho, hx, hd, _, ps, _⟩ := x
  have e : vs = [] := by
    cases kv
    rfl
  subst e
  refine ⟨o, es, ep, ho, hx.1, hd, ?_, ns⟩
  cases q : es.toList with
  | nil => rfl
  | cons a b =>
    rw [q] at ps
    cases ps
mutual
theorem DR.rw (I : Inv X pins σ H s) : ∀ {v : V} {d : D} {u : Value}, DR X.K H v d → RelV v u → tame d = true → FBR.RW s.heap u d
  | _, _, _, .non, r, _ => by cases r; exact .non
  | _, _, _, .bl b, r, _ => by cases r; exact .bl b
  | _, _, _, .int i, r, _ => by obtain ⟨t, rfl⟩ := r; exact .int i t
  | _, _, _, .str x, r, _ => by obtain ⟨t, rfl⟩ := r; exact .str x t
  | _, _, _, .lst h1 h2, r, tm => by
    cases r
    obtain ⟨its, rv, ⟨o, n, ho, hc, _, hd⟩, _⟩ := I.list h1
    exact .lst ho hc hd (DRs.rw I h2 rv (by simpa [tame] using tm))
  | _, _, _, .tup h1 _ h2, r, tm => by
    cases r
    obtain ⟨its, rv, ⟨o, ho, hc, n, hd⟩, _⟩ := I.tuple h1
    exact .tup ho hc hd (DRs.rw I h2 rv (by simpa [tame] using tm))
  | _, _, _, .dic (kvs := kvs) (ks := ks) (ds := ds) h1 h2 h3, r, tm => by
    cases r
    cases kvs with
    | nil =>
      obtain ⟨o, es, n, a1, a2, a3, a4, a5⟩ := dic_ok (I.hok _ _ h1)
      cases h3
      subst h2
      exact .dic a1 a2 a3 a4 a5
    | cons p kvs =>
      subst h2
      cases h3
      simp [tame] at tm
theorem DRs.rw (I : Inv X pins σ H s) : ∀ {vs : List V} {ds : List D} {us : List Value}, DRs X.K H vs ds → Vals vs us → tames ds = true → FBR.RWs s.heap us ds
  | _, _, _, .nil, r, _ => by cases r; exact .nil
  | _, _, _, .cons h1 h2, r, tm => by
    cases r with
    | cons r1 r2 =>
      rw [tames, Bool.and_eq_true] at tm
      exact .cons (DR.rw I h1 r1 tm.1) (DRs.rw I h2 r2 tm.2)
end
end
def strText : D → Str
  | .str x => x
  | d => d.shown
def strOk (d : D) : Bool := tame d && d.showable && decide (d.depth ≤ 60) && decide (d.shown.length ≤ 16000000)
def rStr (K : PySem.W.Frag) : List V → Hp → VK → Prop := fun xs H Q => ∃ x d, xs = [x] ∧ DR K H x d ∧ strOk d = true ∧ Q (.str (strText d)) H
theorem call_strD {X : Cx} (hgd : X.A.guards = some []) (hu : X.A.units + 64 < cLine) : CallR X (.type "str") (rStr X.K) := by
  intro pins s σ H xs us Q I r h
  obtain ⟨x, d, rfl, hd, hk, q⟩ := h
  obtain ⟨u, rfl, r1⟩ := vals1 r
  unfold strOk at hk
  simp only [Bool.and_eq_true, decide_eq_true_eq] at hk
  obtain ⟨⟨⟨tm, sh⟩, dp⟩, z⟩ := hk
  have z2 := big16 z
  have rw1 := hd.rw I r1 tm
  cases rw1 with
  | non =>
    refine PySem.P.str_of_none ⟨.str _, H, I.tok _, ⟨_, rfl⟩, ?_⟩
    simpa only [strText, PyData.shown] using q
  | bl b =>
    refine PySem.P.str_of_bool ⟨.str _, H, I.tok _, ⟨_, rfl⟩, ?_⟩
    simpa only [strText, PyData.shown] using q
  | int i t =>
    refine PySem.P.str_of_int (by simpa [PyData.showable] using sh) ⟨.str _, H, I.tok _, ⟨_, rfl⟩, ?_⟩
    simpa only [strText, PyData.shown] using q
  | str y t => exact PySem.P.str_of_str ⟨.str y, H, I, ⟨_, rfl⟩, q⟩
  | lst a1 a2 a3 a4 => exact FBR.str_RW (.lst a1 a2 a3 a4) sh z2 hgd (by omega) fun h' u tk hk => ⟨.str _, H, I.kept hk, ⟨_, rfl⟩, q⟩
  | tup a1 a2 a3 a4 => exact FBR.str_RW (.tup a1 a2 a3 a4) sh z2 hgd (by omega) fun h' u tk hk => ⟨.str _, H, I.kept hk, ⟨_, rfl⟩, q⟩
  | dic a1 a2 a3 a4 a5 => exact FBR.str_RW (.dic a1 a2 a3 a4 a5) sh z2 hgd (by omega) fun h' u tk hk => ⟨.str _, H, I.kept hk, ⟨_, rfl⟩, q⟩
def gStr : List D → Option Vl
  | [d] => if strOk d then some (.d (.str (strText d))) else none
  | _ => none
theorem DT.toH {K : PySem.W.Frag} {C : Fm} {F : Hp} {ρ : Rho} {σ : St} {H : Hp} {v : V} {d : D} (R : Rel K C F ρ σ H) (h : DT K F H v d) : DR K H v d := by
  cases h with
  | dr h => exact h.mono R.sub
  | cell h1 h2 => exact .lst (.inl (.inl h1)) (h2.mono R.sub)
theorem cd_str {K : PySem.W.Frag} : CallD K (rStr K) gStr := by
  intro C F ρ σ H xs ds z Q R hx hg k
  match ds, hx, hg with
  | [d], hx, hg =>
    obtain ⟨v, rfl, h⟩ := hx.one
    simp only [gStr] at hg
    by_cases hl : strOk d = true
    · rw [if_pos hl] at hg
      cases hg
      exact ⟨v, d, rfl, h.toH R, hl, k _ F H (Same.refl F) R (.str _)⟩
    · rw [if_neg hl] at hg
      cases hg
end FB
namespace FB
open PySem PySem.Spec L2
/-! ### methods of built-in types -/
def MethD (K : PySem.W.Frag) (r : V → List V → Hp → VK → Prop) (g : D → List D → Option Vl) : Prop := ∀ (C : Fm) (F : Hp) (ρ : Rho) (σ : St) (H : Hp) (x : V) (xs : List V) (d : D) (ds : List D) (z : Vl) (Q : VK), Rel K C F ρ σ H → DT K F H x d → DTs K F H xs ds → g d ds = some z →
  (∀ v F' H', Same F F' → Rel K C F' ρ σ H' → VR K C F' H' ρ σ v z → Q v H') → r x xs H Q
def finM (g : D → List D → Option Vl) (u : Vl) (us : List Vl) (ρ : Rho) : Out Vl := match res ρ u, ress ρ us with
  | some d, some ds => match g d ds with
    | some z => .ok z ρ
    | none => .bad
  | _, _ => .bad
def eMeth (T : String) (g : D → List D → Option Vl) (o : ME) (a : MA) : ME := fun ρ => (o ρ).bind fun u ρ1 => match res ρ1 (hold u) with
  | some d => if tyD d = T then (a ρ1).bind fun us ρ2 => finM g (hold u) us ρ2 else .bad
  | none => .bad
/-- what pe_mG wants of the receiver, by the type's name -/
def tyM (K : PySem.W.Frag) (T : String) (x : V) (H : Hp) : Prop := (T = "tuple" ∧ ∃ a xs, x = .ref a ∧ SqT K H a xs ∧ NoD K H a) ∨ (T = "list" ∧ ∃ a xs, x = .ref a ∧ SqL K H a xs) ∨ (T = "str" ∧ ∃ z, x = .str z)
theorem tyM_ok {X : Cx} {T : String} : TyOk X T (tyM X.K T) := by
  intro pins σ H s x v I r ty
  rcases ty with ⟨rfl, h⟩ | ⟨rfl, h⟩ | ⟨rfl, h⟩
  · exact ty_tup pins σ H s x v I r h
  · exact ty_lst pins σ H s x v I r h
  · exact ty_str pins σ H s x v I r h
theorem DT.tyM {K : PySem.W.Frag} {C : Fm} {F : Hp} {ρ : Rho} {σ : St} {H : Hp} {v : V} {d : D} {T : String} (R : Rel K C F ρ σ H) (h : DT K F H v d) (e : tyD d = T) (hT : T = "tuple" ∨ T = "list" ∨ T = "str") : tyM K T v H := by
  subst e
  cases d with
  | tuple ds =>
    cases h with
    | dr h =>
      cases h with
      | tup h1 h2 h3 => exact .inl ⟨rfl, _, _, rfl, seqT R.sub h1, noD R.sub h2⟩
  | list ds =>
    obtain ⟨a, vs, rfl, h1, _⟩ := h.list R
    exact .inr (.inl ⟨rfl, a, vs, rfl, h1⟩)
  | str z => exact .inr (.inr ⟨rfl, z, h.strE⟩)
  | none => rcases hT with e | e | e <;> exact absurd e (by decide)
  | bool b => rcases hT with e | e | e <;> exact absurd e (by show ¬ "bool" = _; decide)
  | int i => rcases hT with e | e | e <;> exact absurd e (by show ¬ "int" = _; decide)
  | dict kvs => rcases hT with e | e | e <;> exact absurd e (by show ¬ "dict" = _; decide)
section
variable {X : Cx} {W : WX} {o e : Expr} {es : List Expr} {fo : ME} {fs : MA} {name : Str} {apos cpos : Pos} {T id : String} {r : V → List V → Hp → VK → Prop} {g : D → List D → Option Vl}
theorem Post.finM {K : PySem.W.Frag} {mg : Str → Option Value} {C : Fm} {F : Hp} {σ : St} {ρ : Rho} {H : Hp} {Q : VK} {x : V} {xs : List V} {u : Vl} {us : List Vl} (hg : MethD K r g) (R : Rel K C F ρ σ H) (hx : VR K C F H ρ σ x u) (hxs : VRs K C F H ρ σ xs us)
    (h : Post K mg W C F σ (relE K C σ) (FB.finM g u us ρ) Q) : r x xs H Q := by
  unfold FB.finM at h
  cases q1 : res ρ u with
  | none => rw [q1] at h; exact h.elim
  | some d =>
    cases q2 : ress ρ us with
    | none => rw [q1, q2] at h; exact h.elim
    | some ds =>
      rw [q1, q2] at h
      cases q3 : g d ds with
      | none => simp only [q3] at h; exact h.elim
      | some z =>
        simp only [q3] at h
        exact hg C F ρ σ H x xs d ds z Q R (hx.res R q1) (hxs.ress R q2) q3 h
theorem se_meth (pa : PlainAttrs T) (slot : PySem.Slot T name id) (hty : typeOf (.builtin id) = pure (.type "method_descriptor")) (hT : T = "tuple" ∨ T = "list" ∨ T = "str") (hm : MtR X id r) (hg : MethD X.K r g) (ho : SE X W o fo) (ha : SA X W (e :: es) fs)
    (hbase : attributeBase o name X.env (eval o X.env) = eval o X.env := by rfl)
    (hfew : ((backTo cpos (starEach (e :: es) X.env)).all (fun x => !x.1) && (backToKw cpos (keywordEach [] X.env)).all (fun x => x.1.isSome) && decide ((e :: es).length + ([] : List Keyword).length + (if ([] : List Keyword).isEmpty then 0 else 1) < 30)) = true := by rfl)
    (hline : (apos.endLine == cpos.line) = true := by rfl) (hs : starEach (e :: es) X.env = (false, eval e X.env) :: starEach es X.env := by rfl) (hplain : (backTo cpos (starEach es X.env)).any (·.1) = false := by rfl) :
    SE X W (.Call (.Attribute o name apos) (e :: es) [] cpos) (eMeth T g fo fs) :=
  PE.imp (pe_mG tyM_ok pa slot hty hm ho ha hbase hfew hline hs hplain) fun σ H Q ⟨C, F, ρ, R, h⟩ => ⟨C, F, ρ, R, Post.bind h fun u ρ1 x F1 H1 s1 R1 r1 h1 => by
    obtain ⟨F2, s2, R2, r2⟩ := VR.hold R1 r1
    cases q : res ρ1 (hold u) with
    | none => simp only [q] at h1; exact h1.elim
    | some d =>
      simp only [q] at h1
      by_cases hd : tyD d = T
      · rw [if_pos hd] at h1
        refine ⟨(r2.res R2 q).tyM R2 hd hT, C, F2, ρ1, R2, Post.bind (h1.mono s2) fun us ρ2 xs F3 H3 s3 R3 r3 h3 => ?_⟩
        exact Post.finM hg R3 (VR.held s3 r2) r3 h3
      · rw [if_neg hd] at h1
        exact h1.elim⟩
theorem se_meth0 (pa : PlainAttrs T) (slot : PySem.Slot T name id) (hty : typeOf (.builtin id) = pure (.type "method_descriptor")) (hT : T = "tuple" ∨ T = "list" ∨ T = "str") (hm : MtR X id r) (hg : MethD X.K r g) (ho : SE X W o fo)
    (hbase : attributeBase o name X.env (eval o X.env) = eval o X.env := by rfl) (hline : (apos.endLine == cpos.line) = true := by rfl) :
    SE X W (.Call (.Attribute o name apos) [] [] cpos) (eMeth T g fo aNil) :=
  PE.imp (pe_mG0 tyM_ok pa slot hty hm ho hbase hline) fun σ H Q ⟨C, F, ρ, R, h⟩ => ⟨C, F, ρ, R, Post.bind h fun u ρ1 x F1 H1 s1 R1 r1 h1 => by
    obtain ⟨F2, s2, R2, r2⟩ := VR.hold R1 r1
    cases q : res ρ1 (hold u) with
    | none => simp only [q] at h1; exact h1.elim
    | some d =>
      simp only [q] at h1
      by_cases hd : tyD d = T
      · rw [if_pos hd] at h1
        exact ⟨(r2.res R2 q).tyM R2 hd hT, Post.finM hg R2 r2 .nil (h1.mono s2)⟩
      · rw [if_neg hd] at h1
        exact h1.elim⟩
end
/-! ### the methods -/
def strsOf : List D → Option (List Str)
  | [] => some []
  | .str x :: r => (strsOf r).map (x :: ·)
  | _ :: _ => none
theorem DRs.strs {K : PySem.W.Frag} {F : Hp} : ∀ {vs : List V} {ds : List D} {ys : List Str}, DRs K F vs ds → strsOf ds = some ys → vs = ys.map V.str
  | _, _, _, .nil, e => by cases e; rfl
  | _, .str x :: r, _, .cons h t, e => by
    simp only [strsOf, Option.map_eq_some_iff] at e
    obtain ⟨ys, e, rfl⟩ := e
    cases h
    rw [DRs.strs t e]
    rfl
  | _, .none :: r, _, _, e => by cases e
  | _, .bool _ :: r, _, _, e => by cases e
  | _, .int _ :: r, _, _, e => by cases e
  | _, .list _ :: r, _, _, e => by cases e
  | _, .tuple _ :: r, _, _, e => by cases e
  | _, .dict _ :: r, _, _, e => by cases e
/-- sep.join(texts) -/
def gJoin : D → List D → Option Vl
  | .str a, [.list ds] => match strsOf ds with
    | some ys => if (ys.map (·.length)).sum + ys.length * a.length ≤ 16000000 then some (.d (.str (Txt.join a ys))) else none
    | none => none
  | _, _ => none
theorem md_join {K : PySem.W.Frag} : MethD K (fun x xs H Q => ∃ a p, ∃ ys : List Str, x = .str a ∧ xs = [.ref p] ∧ (SqL K H p (ys.map V.str) ∨ SqT K H p (ys.map V.str)) ∧ (ys.map (·.length)).sum + ys.length * a.length ≤ 16777216 ∧ Q (.str (Txt.join a ys)) H) gJoin := by
  intro C F ρ σ H x xs d ds z Q R hx hxs hg k
  match d, ds, hx, hxs, hg with
  | .str a, [.list ds], hx, hxs, hg =>
    simp only [gJoin] at hg
    cases q : strsOf ds with
    | none => rw [q] at hg; cases hg
    | some ys =>
      rw [q] at hg
      by_cases hl : (ys.map (·.length)).sum + ys.length * a.length ≤ 16000000
      · simp only [if_pos hl] at hg
        cases hg
        obtain ⟨v, rfl, h⟩ := hxs.one
        obtain ⟨p, vs, rfl, h1, h2⟩ := h.list R
        have e := h2.strs q
        subst e
        exact ⟨a, p, ys, hx.strE, rfl, .inl h1, by omega, k _ F H (Same.refl F) R (.str _)⟩
      · simp only [if_neg hl] at hg
        cases hg
/-- upper() -/
def gUpper : D → List D → Option Vl
  | .str a, [] => if a.length ≤ 5000000 then some (.d (.str (Txt.upper a))) else none
  | _, _ => none
theorem md_upper {K : PySem.W.Frag} : MethD K (fun x xs H Q => ∃ a, x = .str a ∧ xs = [] ∧ a.length ≤ 5592405 ∧ Q (.str (Txt.upper a)) H) gUpper := by
  intro C F ρ σ H x xs d ds z Q R hx hxs hg k
  match d, ds, hx, hxs, hg with
  | .str a, [], hx, hxs, hg =>
    simp only [gUpper] at hg
    by_cases hl : a.length ≤ 5000000
    · rw [if_pos hl] at hg
      cases hg
      cases hxs
      exact ⟨a, hx.strE, rfl, by omega, k _ F H (Same.refl F) R (.str _)⟩
    · rw [if_neg hl] at hg
      cases hg
/-- t.count(x) -/
def rCntT (K : PySem.W.Frag) : V → List V → Hp → VK → Prop := fun x xs H Q => ∃ y d ds, xs = [y] ∧ Dp K H x (.tuple ds) ∧ Dp K H y d ∧ SeqAt.shaped (.tuple ds) = true ∧ SeqAt.shaped d = true ∧ Q (.int ((ds.countP fun z => PyData.eqv z d : Nat) : Int)) H
theorem mt_cntT {X : Cx} (hu : X.A.units + 65 < cLine) : MtR X "tuple.count" (rCntT X.K) := by
  intro pins s σ H x xs v us Q I rx rxs h
  obtain ⟨y, d, ds, rfl, hl, hy, sl, sd, q⟩ := h
  obtain ⟨uy, rfl, ry⟩ := vals1 rxs
  obtain ⟨bs, r1⟩ := Dp.reads I d y uy hy ry
  have hpl : PyData.canLayAll0 ds = true := SeqAt.canLay_of_shaped sl
  cases hl with
  | tup hs ha =>
    cases rx
    obtain ⟨its, rv, ⟨ob, ho, hc, n, hd⟩, hz⟩ := I.tuple hs
    obtain ⟨as, h4⟩ := Dp.readsAll I ds _ its ha rv
    refine SeqAt.count_tuple_data (vs := its.toArray) ⟨ob, ho, hc, n, hd⟩ (by simpa using h4) r1 (PyData.plainAll_of_canLay0 ds hpl) (PyData.plain_of_canLay0 d (SeqAt.canLay_of_shaped sd)) (room65 (m := 0) sd hu) ⟨.int _, H, I.tok _, ⟨_, rfl⟩, q⟩
def gCount : D → List D → Option Vl
  | .tuple ds, [d] => if SeqAt.shaped (.tuple ds) && SeqAt.shaped d then some (.d (.int ((ds.countP fun z => PyData.eqv z d : Nat) : Int))) else none
  | _, _ => none
theorem md_cntT {K : PySem.W.Frag} : MethD K (rCntT K) gCount := by
  intro C F ρ σ H x xs d ds z Q R hx hxs hg k
  match d, ds, hx, hxs, hg with
  | .tuple ds, [e], hx, hxs, hg =>
    simp only [gCount] at hg
    by_cases hl : (SeqAt.shaped (.tuple ds) && SeqAt.shaped e) = true
    · rw [if_pos hl] at hg
      cases hg
      obtain ⟨v, rfl, h⟩ := hxs.one
      rw [Bool.and_eq_true] at hl
      exact ⟨v, e, ds, rfl, hx.dp R (SeqAt.canLay_of_shaped hl.1), h.dp R (SeqAt.canLay_of_shaped hl.2), hl.1, hl.2, k _ F H (Same.refl F) R (.int _)⟩
    · rw [if_neg hl] at hg
      cases hg
/-- t.index(x), texts -/
def gIndexT : D → List D → Option Vl
  | .tuple ds, [.str z] => match strsOf ds with
    | some ys => if z ∈ ys then some (.d (.int (ys.idxOf z : Nat))) else none
    | none => none
  | _, _ => none
theorem md_idxT {K : PySem.W.Frag} : MethD K (fun x xs H Q => ∃ p, ∃ ys : List Str, ∃ z j, x = .ref p ∧ xs = [.str z] ∧ SqT K H p (ys.map V.str) ∧ ys[j]? = some z ∧ (∀ m, m < j → ys[m]? ≠ some z) ∧ Q (.int (j : Nat)) H) gIndexT := by
  intro C F ρ σ H x xs d ds z Q R hx hxs hg k
  match d, ds, hx, hxs, hg with
  | .tuple ds, [.str w], hx, hxs, hg =>
    simp only [gIndexT] at hg
    cases q : strsOf ds with
    | none => rw [q] at hg; cases hg
    | some ys =>
      rw [q] at hg
      by_cases hl : w ∈ ys
      · simp only [if_pos hl] at hg
        cases hg
        obtain ⟨v, rfl, h⟩ := hxs.one
        have e := h.strE
        subst e
        obtain ⟨p, vs, rfl, h1, h2, _⟩ := hx.tuple R
        have e := h2.strs q
        subst e
        refine ⟨p, ys, w, ys.idxOf w, rfl, rfl, h1, ?_, fun m hm e => ?_, k _ F H (Same.refl F) R (.int _)⟩
        · have hi : ys.idxOf w < ys.length := List.idxOf_lt_length_of_mem hl
          rw [List.getElem?_eq_getElem hi, List.getElem_idxOf]
        · have hi : m < ys.length := Nat.lt_trans hm (List.idxOf_lt_length_of_mem hl)
          rw [List.getElem?_eq_getElem hi] at e
          have := List.not_of_lt_findIdx (p := (· == w)) (xs := ys) (i := m) hm
          simp at this
          exact this (Option.some.inj e)
      · simp only [if_neg hl] at hg
        cases hg
end FB
namespace FB
open PySem PySem.Spec L2
/-! ### what is walked: a list, a tuple or a text, as the data says -/
def itemsA : D → Option (List D)
  | .list ds => some ds
  | .tuple ds => some ds
  | .str z => some (chars z)
  | _ => none
def iA (e : ME) : MI := fun ρ => (e ρ).bind fun u ρ1 => match keep u ρ1 with
  | some (d, ρ2) => match itemsA d with
    | some ds => .ok ds ρ2
    | none => .bad
  | none => .bad
def tAny (K : PySem.W.Frag) (te : TE) : TI := fun σ H R => te σ H fun x H1 => (∃ a, x = .ref a ∧ (∃ xs, SqL K H1 a xs) ∧ R (Itl K a) H1) ∨ (∃ a, x = .ref a ∧ (∃ xs, SqT K H1 a xs) ∧ R (Itt K a) H1) ∨ ∃ z, x = .str z ∧ R (Its z) H1
theorem pi_any {X : Cx} {tg e : Expr} {te : TE} (he : PE X e te) : PI X tg e (tAny X.K te) := by
  refine ⟨fun pins s σ H R I h => thn (he.run pins s σ H _ I h) fun v s1 ⟨y, H1, I1, r1, q⟩ => ?_⟩
  rcases q with ⟨a, ex, ⟨xs, hq⟩, q⟩ | ⟨a, ex, ⟨xs, hq⟩, q⟩ | ⟨z, ex, q⟩
  · subst ex
    cases r1
    obtain ⟨its, _, p, _⟩ := I1.list hq
    exact wpAny_pyIter_list p.isList (pi_one (tk := s1.toks) I1 _ (turn_list a _) ⟨_, Heap.get?_push_size _ rfl, rfl, rfl⟩ q)
  · subst ex
    cases r1
    obtain ⟨its, _, p, _⟩ := I1.tuple hq
    exact wpAny_pyIter_tuple (show s1.heap.IsTuple a its.toArray from p) (pi_one (tk := s1.toks) I1 _ (turn_tuple a _) ⟨_, Heap.get?_push_size _ rfl, rfl, rfl⟩ q)
  · subst ex
    obtain ⟨t, rfl⟩ := r1
    cases ha : z.cps.all (· < 128) with
    | false => exact wpAny_pyIter_wide ha (pi_one (tk := s1.toks) I1 _ (turn_str _ z t "str_iterator" (.inr rfl)) ⟨_, Heap.get?_push_size _ rfl, rfl, rfl⟩ q)
    | true => exact wpAny_pyIter_ascii ha (pi_one (tk := s1.toks) I1 _ (turn_str _ z t "str_ascii_iterator" (.inl rfl)) ⟨_, Heap.get?_push_size _ rfl, rfl, rfl⟩ q)
theorem si_any {X : Cx} {W : WX} {tg e : Expr} {f : ME} (h : SE X W e f) : SI X W tg e (iA f) := PI.imp (pi_any h) fun σ H Q ⟨C, F, ρ, R, h⟩ => ⟨C, F, ρ, R, Post.bind h fun u ρ1 x F1 H1 s1 R1 r1 h1 => by
  cases q : keep u ρ1 with
  | none => simp only [q] at h1; exact h1.elim
  | some p =>
    obtain ⟨d, ρ2⟩ := p
    obtain ⟨F2, s2, R2, r2⟩ := VR.keep R1 r1 q
    simp only [q] at h1
    cases d with
    | list xs =>
      cases r2 with
      | @lst a vs _ hs hd => exact .inl ⟨a, rfl, ⟨vs, R2.sub.seq hs⟩, h1 _ F2 H1 s2 R2 (itOk_list hs hd)⟩
    | tuple xs =>
      cases r2 with
      | @tup a vs _ hs _ hd => exact .inr (.inl ⟨a, rfl, ⟨vs, seqT R2.sub hs⟩, h1 _ F2 H1 s2 R2 (itOk_tup hs hd)⟩)
    | str z =>
      cases r2
      exact .inr (.inr ⟨z, rfl, h1 _ F2 H1 s2 R2 itOk_str⟩)
    | _ => simp only [itemsA] at h1; exact h1.elim⟩

/-! ### a table of the module: texts to data -/
def Tab (K : PySem.W.Frag) (w : World) (mg : Str → Option Value) (x : Str) (kvs : List (Str × D)) : Prop :=
  ∃ d es n, mg x = some (.ref d) ∧ KDict K w d es n ∧ (∀ z dv, kvs.lookup z = some dv → ∃ u v, PySem.W.nsIn K d z = some (some u) ∧ RelV v u ∧ ∀ F, DR K F v dv) ∧ ∀ z, kvs.lookup z = none → PySem.W.nsIn K d z = some none
def eInK (neg : Bool) (kvs : List (Str × D)) (a : ME) : ME := fun ρ => (a ρ).bind fun u ρ1 => match res ρ1 (hold u) with
  | some (.str z) => .ok (.d (.bool (neg != (kvs.lookup z).isSome))) ρ1
  | _ => .bad
def eIxK (kvs : List (Str × D)) (a : ME) : ME := fun ρ => (a ρ).bind fun u ρ1 => match res ρ1 (hold u) with
  | some (.str z) => match kvs.lookup z with
    | some d => .ok (.d d) ρ1
    | none => .bad
  | _ => .bad
section
variable {X : Cx} {W : WX} {x : Str} {kvs : List (Str × D)} {a : Expr} {f : ME} {p pos : Pos}
theorem tab_ns {K : PySem.W.Frag} {w : World} {mg : Str → Option Value} {d : Addr} {z : Str} (h1 : ∀ z dv, kvs.lookup z = some dv → ∃ u v, PySem.W.nsIn K d z = some (some u) ∧ RelV v u ∧ ∀ F, DR K F v dv) (h2 : ∀ z, kvs.lookup z = none → PySem.W.nsIn K d z = some none) :
    ∃ r, PySem.W.nsIn K d z = some r ∧ r.isSome = (kvs.lookup z).isSome := by
  cases q : kvs.lookup z with
  | none => exact ⟨none, h2 z q, rfl⟩
  | some dv =>
    obtain ⟨u, v, e, _⟩ := h1 z dv q
    exact ⟨some u, e, rfl⟩
theorem imp_inK {d : Addr} {neg : Bool} {σ : St} {H : Hp} {Q : VK} (hn : ∀ z, ∃ r, PySem.W.nsIn X.K d z = some r ∧ r.isSome = (kvs.lookup z).isSome) (h : tG X.K X.mg W (relE X.K) (eInK neg kvs f) σ H Q) :
    tOp (fun x y H Q => ∃ (z : Str) (r : Option Value), x = .str z ∧ y = .ref d ∧ PySem.W.nsIn X.K d z = some r ∧ Q (.bl (neg != r.isSome)) H) (tG X.K X.mg W (relE X.K) f) (tC (.ref d)) σ H Q := by
  obtain ⟨C, F, ρ, R, h⟩ := h
  refine ⟨C, F, ρ, R, Post.bind h fun u ρ1 x F1 H1 s1 R1 r1 h1 => ?_⟩
  obtain ⟨F2, s2, R2, r2⟩ := VR.hold R1 r1
  cases q : res ρ1 (hold u) with
  | none => simp only [q] at h1; exact h1.elim
  | some e =>
    cases e with
    | str z =>
      simp only [q] at h1
      obtain ⟨r, e1, e2⟩ := hn z
      refine ⟨z, r, (r2.res R2 q).strE, rfl, e1, ?_⟩
      rw [e2]
      exact h1 _ F2 H1 s2 R2 (.bl _)
    | _ => simp only [q] at h1; exact h1.elim
theorem op_inN {d : Addr} {es : Array DictEntry} {n : Nat} (D : KDict X.K X.w d es n) : OpR X (compareOp .In) (fun x y H Q => ∃ (z : Str) (r : Option Value), x = .str z ∧ y = .ref d ∧ PySem.W.nsIn X.K d z = some r ∧ Q (.bl (false != r.isSome)) H) := by
  intro pins s σ H x y v u Q I rx ry ⟨z, r, a1, a2, a3, q⟩
  exact op_in_kd D pins s σ H x y v u Q I rx ry ⟨z, r, a1, a2, a3, by simpa using q⟩
theorem op_notInN {d : Addr} {es : Array DictEntry} {n : Nat} (D : KDict X.K X.w d es n) : OpR X (compareOp .NotIn) (fun x y H Q => ∃ (z : Str) (r : Option Value), x = .str z ∧ y = .ref d ∧ PySem.W.nsIn X.K d z = some r ∧ Q (.bl (true != r.isSome)) H) := by
  intro pins s σ H x y v u Q I rx ry ⟨z, r, a1, a2, a3, q⟩
  exact op_notIn_kd D pins s σ H x y v u Q I rx ry ⟨z, r, a1, a2, a3, by simpa using q⟩
theorem se_inK (t : Tab X.K X.w X.mg x kvs) (ha : SE X W a f) (hg : Gl X x := by rfl) (hdb : (x == ("__debug__" : Str)) = false := by decide) (hm : behindInMarks .In (.Name x p) = false := by first | exact nobehind _ (by decide) (by decide) | rfl) :
    SE X W (.Compare a [.In] [.Name x p] pos) (eInK false kvs f) := by
  obtain ⟨d, es, n, e, D, h1, h2⟩ := t
  exact PE.imp (pe_cmpR (op_inN D) ha (pe_glob hg e (show RelV (.ref d) (.ref d) from rfl) hdb) hm) fun _ _ _ h => imp_inK (fun z => tab_ns (w := X.w) (mg := X.mg) h1 h2) h
theorem se_notInK (t : Tab X.K X.w X.mg x kvs) (ha : SE X W a f) (hg : Gl X x := by rfl) (hdb : (x == ("__debug__" : Str)) = false := by decide) (hm : behindInMarks .NotIn (.Name x p) = false := by first | exact nobehind _ (by decide) (by decide) | rfl) :
    SE X W (.Compare a [.NotIn] [.Name x p] pos) (eInK true kvs f) := by
  obtain ⟨d, es, n, e, D, h1, h2⟩ := t
  exact PE.imp (pe_cmpR (op_notInN D) ha (pe_glob hg e (show RelV (.ref d) (.ref d) from rfl) hdb) hm) fun _ _ _ h => imp_inK (fun z => tab_ns (w := X.w) (mg := X.mg) h1 h2) h
theorem st_inK (t : Tab X.K X.w X.mg x kvs) (ha : SE X W a f) (hg : Gl X x := by rfl) (hdb : (x == ("__debug__" : Str)) = false := by decide) (hm : behindInMarks .In (.Name x p) = false := by first | exact nobehind _ (by decide) (by decide) | rfl) :
    ST X W (.Compare a [.In] [.Name x p] pos) (bE (eInK false kvs f)) := by
  obtain ⟨d, es, n, e, D, h1, h2⟩ := t
  exact PT.imp (pt_cmpR (op_inN D) ha (pe_glob hg e (show RelV (.ref d) (.ref d) from rfl) hdb) hm) fun _ _ _ ⟨C, F, ρ, R, h⟩ => imp_inK (fun z => tab_ns (w := X.w) (mg := X.mg) h1 h2) ⟨C, F, ρ, R, Post.bE h⟩
theorem st_notInK (t : Tab X.K X.w X.mg x kvs) (ha : SE X W a f) (hg : Gl X x := by rfl) (hdb : (x == ("__debug__" : Str)) = false := by decide) (hm : behindInMarks .NotIn (.Name x p) = false := by first | exact nobehind _ (by decide) (by decide) | rfl) :
    ST X W (.Compare a [.NotIn] [.Name x p] pos) (bE (eInK true kvs f)) := by
  obtain ⟨d, es, n, e, D, h1, h2⟩ := t
  exact PT.imp (pt_cmpR (op_notInN D) ha (pe_glob hg e (show RelV (.ref d) (.ref d) from rfl) hdb) hm) fun _ _ _ ⟨C, F, ρ, R, h⟩ => imp_inK (fun z => tab_ns (w := X.w) (mg := X.mg) h1 h2) ⟨C, F, ρ, R, Post.bE h⟩
theorem imp_ixK {d : Addr} {es : Array DictEntry} {n : Nat} {σ : St} {H : Hp} {Q : VK} (D : KDict X.K X.w d es n) (h1 : ∀ z dv, kvs.lookup z = some dv → ∃ u v, PySem.W.nsIn X.K d z = some (some u) ∧ RelV v u ∧ ∀ F, DR X.K F v dv) (h : tG X.K X.mg W (relE X.K) (eIxK kvs f) σ H Q) :
    tOp (rIxD X.K X.w) (tC (.ref d)) (tG X.K X.mg W (relE X.K) f) σ H Q := by
  obtain ⟨C, F, ρ, R, h⟩ := h
  refine ⟨C, F, ρ, R, Post.bind h fun u ρ1 x F1 H1 s1 R1 r1 h2 => ?_⟩
  obtain ⟨F2, s2, R2, r2⟩ := VR.hold R1 r1
  cases q : res ρ1 (hold u) with
  | none => simp only [q] at h2; exact h2.elim
  | some e =>
    cases e with
    | str z =>
      simp only [q] at h2
      cases q2 : kvs.lookup z with
      | none => simp only [q2] at h2; exact h2.elim
      | some dv =>
        simp only [q2] at h2
        obtain ⟨u0, v0, e1, e2, e3⟩ := h1 z dv q2
        exact ⟨d, z, v0, rfl, (r2.res R2 q).strE, ⟨es, n, u0, D.at_, D.lit, e1, e2⟩, h2 _ F2 H1 s2 R2 (e3 F2)⟩
    | _ => simp only [q] at h2; exact h2.elim
theorem se_ixK (t : Tab X.K X.w X.mg x kvs) (ha : SE X W a f) (hg : Gl X x := by rfl) (hdb : (x == ("__debug__" : Str)) = false := by decide) (hs : PlainIx a := by exact fun _ _ => rfl) : SE X W (.Subscript (.Name x p) a pos) (eIxK kvs f) := by
  obtain ⟨d, es, n, e, D, h1, h2⟩ := t
  exact PE.imp (pe_ix ix_kdict (pe_glob hg e (show RelV (.ref d) (.ref d) from rfl) hdb) ha hs) fun _ _ _ h => imp_ixK D h1 h
end
end FB
namespace FB
open PySem PySem.Spec L2
open PyProof.Rows (IntsAre AllBare)
/-! ### the end of a law -/
abbrev scriptO (vs : List Value) : Obj := { cls := .type "list", data := .seq vs.toArray }
/-- what is tracked at the call of the law: the script, if it is none of the module's own objects -/
def H0of (K : PySem.W.Frag) (a : Addr) (vs : List Value) (ns : List Int) : Hp := fun b => if b = a ∧ K.lookup a = none then some (.frz (scriptO vs) (.lst (ns.map V.int))) else none
section
variable {K : PySem.W.Frag} {a b : Addr} {vs : List Value} {ns : List Int} {u : HO}
theorem h0_some (h : H0of K a vs ns b = some u) : b = a ∧ K.lookup a = none ∧ u = .frz (scriptO vs) (.lst (ns.map V.int)) := by
  unfold H0of at h
  by_cases c : b = a ∧ K.lookup a = none
  · rw [if_pos c] at h; cases h; exact ⟨c.1, c.2, rfl⟩
  · rw [if_neg c] at h; cases h
theorem h0_none (h : b ≠ a ∨ K.lookup a ≠ none) : H0of K a vs ns b = none := by
  unfold H0of
  exact if_neg fun c => h.elim (fun x => x c.1) fun x => x c.2
theorem ints_vals : ∀ {vs : List Value} {ns : List Int}, IntsAre vs ns → Vals (ns.map V.int) vs
  | _, _, .nil => .nil
  | _, _, .cons n t h => .cons ⟨t, rfl⟩ (ints_vals h)
theorem ints_drs {F : Hp} : ∀ ns : List Int, DRs K F (ns.map V.int) (ns.map PyData.int)
  | [] => .nil
  | n :: ns => .cons (.int n) (ints_drs ns)
theorem law_callG {P : Program} {w : World} {mg mb : Str → Option Value} {k : Nat} {fa : Addr} {fd : FuncData} {x : Str} {s₁ : Shared} {G : List Slot → Out Vl}
    (KX : K.In s₁.heap) (hns : s₁.heap.Ns mainGlobals mg) (hb : s₁.heap.Ns builtinsNs mb) (hbb : ∀ x : Str, x ≠ "__name__" → mb x = bootBuiltins x) (hlim : s₁.heap.NoLimit) (hg : s₁.gens = #[])
    (ha : s₁.heap.get? a = some (scriptO vs)) (hi : IntsAre vs ns) (hl : ns.length ≤ sizeLine) (hr : Room k callerA)
    (F : ∀ base : Heap, K.In base → base.Ns mainGlobals mg → FnG P w K mg base k fa fd [x] (spOf K mg G 1)) (hbind : ∀ (s : Shared) (u : Value), BindsTo s fd ⟨[u], []⟩ [(x, u)])
    (hG : ∃ ρ, G [.sh (.list (ns.map PyData.int))] = .ok (.d (.bool true)) ρ) :
    codeAny (model P w) callerA (.call (.ref fa) ⟨[.ref a], []⟩) (fun r s' => r = .ok (.ret (.bool true)) ∧ OldK s₁.heap s'.heap ∧ s'.os = s₁.os ∧ AllBare s'.gens) s₁ := by
  obtain ⟨ρ', hG⟩ := hG
  have rv := ints_vals hi
  have lenV := hi.length
  obtain ⟨H, hH⟩ : ∃ H, H = H0of K a vs ns := ⟨_, rfl⟩
  have hS : SqL K H a (ns.map V.int) := by
    subst hH
    cases q : K.lookup a with
    | none => exact .inl (.inr ⟨scriptO vs, if_pos ⟨rfl, q⟩⟩)
    | some o =>
      have e := KX a o q
      rw [ha] at e; cases e
      exact .inr ⟨_, vs.toArray, _, q, rfl, rfl, rfl, by rw [List.size_toArray, lenV]; exact hl, by simpa using rv⟩
  have hok : HOk P w H s₁.heap := fun b u e => by
    subst hH
    obtain ⟨rfl, _, rfl⟩ := h0_some e
    exact ⟨ha, by rw [List.length_map]; exact hl, vs, _, rv, ha⟩
  have dictFree : ∀ {b : Addr} {o : Obj} {es : Array DictEntry} {ep : Nat}, s₁.heap.get? b = some o → o.data = .dict es ep → H b = none := fun {b o es ep} e d => by
    subst hH
    refine h0_none (.inl fun z => ?_)
    subst z
    rw [ha] at e; cases e
    cases d
  have hid : ∀ {b : Addr} {o : Obj}, s₁.heap.get? b = some o → H b = none → (hidT s₁.heap H).get? b = some o := fun e n => hidT_get e n
  have nsK : ∀ {b : Addr} {m : Str → Option Value}, s₁.heap.Ns b m → (hidT s₁.heap H).Ns b m := fun {b m} ⟨o, es, ep, e, d, r⟩ => ⟨o, es, ep, hid e (dictFree e d), d, r⟩
  have hKb : K.In (hidT s₁.heap H) := fun b o e => hid (KX b o e) (by
    subst hH
    refine h0_none ?_
    by_cases z : b = a
    · subst z; exact .inr (by rw [e]; simp)
    · exact .inl z)
  have hM : Mod K mg (hidT s₁.heap H) := ⟨hKb, nsK hns, ⟨mb, nsK hb, hbb⟩, let ⟨mc, m1, m2⟩ := hlim; ⟨mc, nsK m1, m2⟩⟩
  have e0 : Env0 P w K mg (hidT s₁.heap H) callerA [] s₁ H := ⟨rfl, hM, fun b o e => of_hidT e, Nat.le_of_eq (hidT_size _ _), trivial, fun b hb => (by simp [frs] at hb), hok, .of_eq hg⟩
  have sp : spOf K mg G 1 [.ref a] H (fun v _ => v = .bl true) fun _ _ _ => False := by
    refine ⟨rfl, ⟨H, H, fun _ => none⟩, [.sh (.list (ns.map PyData.int))], rfl, ⟨rfl, Same.refl H, Same.refl H, fun _ _ => rfl, fun _ _ e _ => e, fun _ e => e, fun i d e => ?_, fun i ys e => ?_, fun i ys e => ?_, fun i b e => ?_, fun i j b o1 _ _ _ => ?_⟩, ?_⟩
    · cases i with
      | zero =>
        cases e
        exact ⟨.ref a, rfl, .lst hS (ints_drs ns)⟩
      | succ i => cases e
    · cases i <;> cases e
    · cases i <;> cases e
    · cases e
    · obtain ⟨ys, e⟩ := o1
      cases i <;> rcases e with e | e <;> cases e
    · rw [hG]
      intro v F' σ' H' R' r
      have r : DR K F' v (.bool true) := r
      cases r
      rfl
  refine codeAny_mono ((F _ hKb (nsK hns)).run callerA [] s₁ H ⟨[.ref a], []⟩ [.ref a] [.ref a] _ _ hr rfl e0 (hbind s₁ (.ref a)) (.cons rfl .nil) sp) fun r s' h => ?_
  match r, h with
  | .error e, h =>
    obtain ⟨_, _, _, _, _, _, _, _, _, _, _, _, z⟩ := h
    exact z.elim
  | .ok (.ret u), h =>
    obtain ⟨v, H', os, bare, un, hok2, ru, q⟩ := h
    have q : v = .bl true := q
    subst q
    obtain rfl : u = Value.bool true := ru
    refine ⟨rfl, OldK.of_keep fun b o e => ?_, os, bare⟩
    cases q : H b with
    | none => exact un.keep b o e q (by simp [frs]) (by simp)
    | some u =>
      have q2 := q
      rw [hH] at q2
      obtain ⟨rfl, _, rfl⟩ := h0_some q2
      obtain ⟨e1, _⟩ := hok b _ q
      obtain ⟨e2, _⟩ := hok2 b _ (un.frzs b _ _ q)
      rw [e] at e1; cases e1
      exact e2
end
theorem walk_G {l : PySem.W.OpenLaw} {n k : Nat} {q : Program} {loose : List Str} {XP : (Str → Option Value) → Heap → Prop} {YP : World → Heap → Prop} {d : DefRec} {K : Params → PySem.W.Frag} {G : List Slot → Out Vl} {x : Str}
    (hn : l.most = some n) (hn2 : n ≤ sizeLine) (hdf : d.params.defaults = []) (hr : Room k callerA) (hY : ∀ (w : World) (h : Heap), YP w h → (K w.params).In h)
    (F : ∀ (w : World) (mg : Str → Option Value) (fa : Addr) (h : Heap), (K w.params).In h → h.Ns mainGlobals mg → mg d.name = some (.ref fa) →
      ∃ fd : FuncData, (∀ (s : Shared) (u : Value), BindsTo s fd ⟨[u], []⟩ [(x, u)]) ∧ ∀ base : Heap, (K w.params).In base → base.Ns mainGlobals mg → FnG l.prog w (K w.params) mg base k fa fd [x] (spOf (K w.params) mg G 1))
    (hG : ∀ ns : List Int, ns.length ≤ n → ∃ ρ, G [.sh (.list (ns.map PyData.int))] = .ok (.d (.bool true)) ρ) : PySem.W.WalkO q loose XP YP l.row.toRowW d [] (fun f vs => PySem.call f vs) :=
  Att.attach_call hn hdf fun w s₀ s₁ mg mb fa o pm cd doc a vs ns g Y ho hd hcd hmg hobj hints hlen hg => by
    have KX := hY w _ Y
    obtain ⟨fd, hb, hF⟩ := F w mg fa _ KX g.T.g hmg
    exact law_callG KX g.T.g g.T.b g.T.builtins g.T.nolimit hg hobj hints (Nat.le_trans hlen hn2) hr hF hb (hG ns hlen)
end FB
namespace FB
open PySem PySem.Spec L2
/-! ### reading a reading: what is wanted of an outcome -/
def Ok {α : Type} (o : Out α) (Q : α → Rho → Prop) : Prop := match o with
  | .ok a ρ => Q a ρ
  | _ => False
section
variable {α β : Type} {o : Out α} {k : α → Rho → Out β} {Q : β → Rho → Prop} {a : α} {ρ : Rho}
theorem ok_bind : Ok (o.bind k) Q ↔ Ok o fun a ρ => Ok (k a ρ) Q := by cases o <;> exact Iff.rfl
@[simp] theorem ok_ok {Q : α → Rho → Prop} : Ok (.ok a ρ) Q ↔ Q a ρ := Iff.rfl
@[simp] theorem ok_bad {Q : α → Rho → Prop} : Ok (.bad : Out α) Q ↔ False := Iff.rfl
theorem Ok.imp {Q Q' : α → Rho → Prop} (h : Ok o Q) (i : ∀ a ρ, Q a ρ → Q' a ρ) : Ok o Q' := by
  cases o with
  | ok a ρ => exact i a ρ h
  | _ => exact h
theorem Ok.bind {Q' : α → Rho → Prop} (h : Ok o Q') (i : ∀ a ρ, Q' a ρ → Ok (k a ρ) Q) : Ok (o.bind k) Q := ok_bind.mpr (h.imp i)
theorem Ok.eq {Q : α → Rho → Prop} (h : Ok o Q) : ∃ a ρ, o = .ok a ρ ∧ Q a ρ := by
  cases o with
  | ok a ρ => exact ⟨a, ρ, rfl, h⟩
  | _ => exact h.elim
theorem ok_of_eq {Q : α → Rho → Prop} (e : o = .ok a ρ) (h : Q a ρ) : Ok o Q := by subst e; exact h
/-- a for, by an invariant of what is still to come -/
theorem ok_for {b : Bd} {g : MS} {Q : Fl → Rho → Prop} (I : List D → Rho → Prop) : ∀ (ds : List D) (ρ : Rho), I ds ρ → (∀ ρ, I [] ρ → Q .nx ρ) →
    (∀ d r ρ, I (d :: r) ρ → ∃ ρ1, b d ρ = some ρ1 ∧ Ok (g ρ1) fun f ρ2 => match f with
      | .nx => I r ρ2
      | .ct => I r ρ2
      | .bk => Q .nx ρ2
      | .rt u => Q (.rt u) ρ2) → Ok (forG b g ds ρ) Q
  | [], ρ, h, h0, _ => h0 ρ h
  | d :: r, ρ, h, h0, hs => by
    obtain ⟨ρ1, e, h1⟩ := hs d r ρ h
    simp only [forG, e]
    refine h1.bind fun f ρ2 h2 => ?_
    cases f with
    | nx => exact ok_for I r ρ2 h2 h0 hs
    | ct => exact ok_for I r ρ2 h2 h0 hs
    | bk => exact h2
    | rt u => exact h2
/-- a comprehension, by an invariant -/
theorem ok_lcG {b : Bd} {c : MB} {e : ME} {vs : List Nat} {Q : List D → Rho → Prop} (I : List D → List D → Rho → Prop) : ∀ (ds acc : List D) (ρ : Rho), I ds acc ρ → (∀ acc ρ, I [] acc ρ → Q acc ρ) →
    (∀ d r acc ρ, I (d :: r) acc ρ → Ok (lcTurn b c e vs d ρ) fun o ρ2 => match o with
      | none => I r acc ρ2
      | some x => I r (acc ++ [x]) ρ2) → Ok (lcG b c e vs ds acc ρ) Q
  | [], acc, ρ, h, h0, _ => h0 acc ρ h
  | d :: r, acc, ρ, h, h0, hs => by
    obtain ⟨o, ρ1, e1, h1⟩ := (hs d r acc ρ h).eq
    cases o with
    | none =>
      simp only [lcG, e1]
      exact ok_lcG I r acc ρ1 h1 h0 hs
    | some x =>
      simp only [lcG, e1]
      exact ok_lcG I r (acc ++ [x]) ρ1 h1 h0 hs
end
@[simp] theorem s_eVar_1 : type_of% @eVar.eq_1 := @eVar.eq_1
@[simp] theorem s_eC_1 : type_of% @eC.eq_1 := @eC.eq_1
@[simp] theorem s_eOp_1 : type_of% @eOp.eq_1 := @eOp.eq_1
@[simp] theorem s_fin2_1 : type_of% @fin2.eq_1 := @fin2.eq_1
@[simp] theorem s_aNil_1 : type_of% @aNil.eq_1 := @aNil.eq_1
@[simp] theorem s_aCons_1 : type_of% @aCons.eq_1 := @aCons.eq_1
@[simp] theorem s_keep_1 : type_of% @keep.eq_1 := @keep.eq_1
@[simp] theorem s_keep_2 : type_of% @keep.eq_2 := @keep.eq_2
@[simp] theorem s_keep_3 : type_of% @keep.eq_3 := @keep.eq_3
@[simp] theorem s_keeps_1 : type_of% @keeps.eq_1 := @keeps.eq_1
@[simp] theorem s_keeps_2 : type_of% @keeps.eq_2 := @keeps.eq_2
@[simp] theorem s_eTup_1 : type_of% @eTup.eq_1 := @eTup.eq_1
@[simp] theorem s_eLst_1 : type_of% @eLst.eq_1 := @eLst.eq_1
@[simp] theorem s_eBlt_1 : type_of% @eBlt.eq_1 := @eBlt.eq_1
@[simp] theorem s_fin_1 : type_of% @fin.eq_1 := @fin.eq_1
@[simp] theorem s_ress_1 : type_of% @ress.eq_1 := @ress.eq_1
@[simp] theorem s_ress_2 : type_of% @ress.eq_2 := @ress.eq_2
@[simp] theorem s_oNone_1 : type_of% @oNone.eq_1 := @oNone.eq_1
@[simp] theorem s_oSome_1 : type_of% @oSome.eq_1 := @oSome.eq_1
@[simp] theorem s_eSl_1 : type_of% @eSl.eq_1 := @eSl.eq_1
@[simp] theorem s_gSeq_1 : type_of% @gSeq.eq_1 := @gSeq.eq_1
@[simp] theorem s_retv_1 : type_of% @retv.eq_1 := @retv.eq_1
@[simp] theorem s_retv_2 : type_of% @retv.eq_2 := @retv.eq_2
@[simp] theorem s_retv_3 : type_of% @retv.eq_3 := @retv.eq_3
@[simp] theorem s_gRet_1 : type_of% @gRet.eq_1 := @gRet.eq_1
@[simp] theorem s_gDrop_1 : type_of% @gDrop.eq_1 := @gDrop.eq_1
@[simp] theorem s_gIf_1 : type_of% @gIf.eq_1 := @gIf.eq_1
@[simp] theorem s_setV_1 : type_of% @setV.eq_1 := @setV.eq_1
@[simp] theorem s_setV_2 : type_of% @setV.eq_2 := @setV.eq_2
@[simp] theorem s_gSet_1 : type_of% @gSet.eq_1 := @gSet.eq_1
@[simp] theorem s_bName_1 : type_of% @bName.eq_1 := @bName.eq_1
@[simp] theorem s_bNil_1 : type_of% @bNil.eq_1 := @bNil.eq_1
@[simp] theorem s_bNil_2 : type_of% @bNil.eq_2 := @bNil.eq_2
@[simp] theorem s_bCons_1 : type_of% @bCons.eq_1 := @bCons.eq_1
@[simp] theorem s_bCons_2 : type_of% @bCons.eq_2 := @bCons.eq_2
@[simp] theorem s_bTup_1 : type_of% @bTup.eq_1 := @bTup.eq_1
@[simp] theorem s_bTup_2 : type_of% @bTup.eq_2 := @bTup.eq_2
@[simp] theorem s_bTup_3 : type_of% @bTup.eq_3 := @bTup.eq_3
@[simp] theorem s_gAsg_1 : type_of% @gAsg.eq_1 := @gAsg.eq_1
@[simp] theorem s_setU_1 : type_of% @setU.eq_1 := @setU.eq_1
@[simp] theorem s_setU_2 : type_of% @setU.eq_2 := @setU.eq_2
@[simp] theorem s_setU_3 : type_of% @setU.eq_3 := @setU.eq_3
@[simp] theorem s_gPar_1 : type_of% @gPar.eq_1 := @gPar.eq_1
@[simp] theorem s_gNx_1 : type_of% @gNx.eq_1 := @gNx.eq_1
@[simp] theorem s_gBk_1 : type_of% @gBk.eq_1 := @gBk.eq_1
@[simp] theorem s_gCt_1 : type_of% @gCt.eq_1 := @gCt.eq_1
@[simp] theorem s_bYes_1 : type_of% @bYes.eq_1 := @bYes.eq_1
@[simp] theorem s_wipeR_1 : type_of% @wipeR.eq_1 := @wipeR.eq_1
@[simp] theorem s_wipeR_2 : type_of% @wipeR.eq_2 := @wipeR.eq_2
@[simp] theorem s_restR_1 : type_of% @restR.eq_1 := @restR.eq_1
@[simp] theorem s_restR_2 : type_of% @restR.eq_2 := @restR.eq_2
@[simp] theorem s_plainAt_1 : type_of% @plainAt.eq_1 := @plainAt.eq_1
@[simp] theorem s_hold_1 : type_of% @hold.eq_1 := @hold.eq_1
@[simp] theorem s_hold_2 : type_of% @hold.eq_2 := @hold.eq_2
@[simp] theorem s_res_1 : type_of% @res.eq_1 := @res.eq_1
@[simp] theorem s_res_2 : type_of% @res.eq_2 := @res.eq_2
@[simp] theorem s_res_3 : type_of% @res.eq_3 := @res.eq_3
@[simp] theorem s_Slot_data_1 : type_of% @Slot.data.eq_1 := @Slot.data.eq_1
@[simp] theorem s_Slot_data_2 : type_of% @Slot.data.eq_2 := @Slot.data.eq_2
@[simp] theorem s_Slot_data_3 : type_of% @Slot.data.eq_3 := @Slot.data.eq_3
@[simp] theorem s_Slot_data_4 : type_of% @Slot.data.eq_4 := @Slot.data.eq_4
@[simp] theorem s_bE_1 : type_of% @bE.eq_1 := @bE.eq_1
@[simp] theorem s_bNot_1 : type_of% @bNot.eq_1 := @bNot.eq_1
@[simp] theorem s_bAnd_1 : type_of% @bAnd.eq_1 := @bAnd.eq_1
@[simp] theorem s_bOr_1 : type_of% @bOr.eq_1 := @bOr.eq_1
@[simp] theorem s_eB_1 : type_of% @eB.eq_1 := @eB.eq_1
@[simp] theorem s_eIf_1 : type_of% @eIf.eq_1 := @eIf.eq_1
@[simp] theorem s_eAnd_1 : type_of% @eAnd.eq_1 := @eAnd.eq_1
@[simp] theorem s_eOr_1 : type_of% @eOr.eq_1 := @eOr.eq_1
@[simp] theorem s_eNot_1 : type_of% @eNot.eq_1 := @eNot.eq_1
@[simp] theorem s_Vl_isB_1 : type_of% @Vl.isB.eq_1 := @Vl.isB.eq_1
@[simp] theorem s_Vl_isB_2 : type_of% @Vl.isB.eq_2 := @Vl.isB.eq_2
@[simp] theorem s_ownL_1 : type_of% @ownL.eq_1 := @ownL.eq_1
@[simp] theorem s_putR_1 : type_of% @putR.eq_1 := @putR.eq_1
@[simp] theorem s_eMut_1 : type_of% @eMut.eq_1 := @eMut.eq_1
@[simp] theorem s_mAppend_1 : type_of% @mAppend.eq_1 := @mAppend.eq_1
@[simp] theorem s_mAppend_2 : type_of% @mAppend.eq_2 := @mAppend.eq_2
@[simp] theorem s_gStore_1 : type_of% @gStore.eq_1 := @gStore.eq_1
@[simp] theorem s_truD_1 : type_of% @truD.eq_1 := @truD.eq_1
@[simp] theorem s_truD_2 : type_of% @truD.eq_2 := @truD.eq_2
@[simp] theorem s_truD_3 : type_of% @truD.eq_3 := @truD.eq_3
@[simp] theorem s_truD_4 : type_of% @truD.eq_4 := @truD.eq_4
@[simp] theorem s_truD_5 : type_of% @truD.eq_5 := @truD.eq_5
@[simp] theorem s_truD_6 : type_of% @truD.eq_6 := @truD.eq_6
@[simp] theorem s_bT_1 : type_of% @bT.eq_1 := @bT.eq_1
@[simp] theorem s_eIsi_1 : type_of% @eIsi.eq_1 := @eIsi.eq_1
@[simp] theorem s_isiD_1 : type_of% @isiD.eq_1 := @isiD.eq_1
@[simp] theorem s_tyD_1 : type_of% @tyD.eq_1 := @tyD.eq_1
@[simp] theorem s_tyD_2 : type_of% @tyD.eq_2 := @tyD.eq_2
@[simp] theorem s_tyD_3 : type_of% @tyD.eq_3 := @tyD.eq_3
@[simp] theorem s_tyD_4 : type_of% @tyD.eq_4 := @tyD.eq_4
@[simp] theorem s_tyD_5 : type_of% @tyD.eq_5 := @tyD.eq_5
@[simp] theorem s_tyD_6 : type_of% @tyD.eq_6 := @tyD.eq_6
@[simp] theorem s_tyD_7 : type_of% @tyD.eq_7 := @tyD.eq_7
@[simp] theorem s_eLenSet_1 : type_of% @eLenSet.eq_1 := @eLenSet.eq_1
@[simp] theorem s_backOut_1 : type_of% @backOut.eq_1 := @backOut.eq_1
@[simp] theorem s_backOut_2 : type_of% @backOut.eq_2 := @backOut.eq_2
@[simp] theorem s_backOut_3 : type_of% @backOut.eq_3 := @backOut.eq_3
@[simp] theorem s_backOut_4 : type_of% @backOut.eq_4 := @backOut.eq_4
@[simp] theorem s_backOut_5 : type_of% @backOut.eq_5 := @backOut.eq_5
@[simp] theorem s_eCall_1 : type_of% @eCall.eq_1 := @eCall.eq_1
@[simp] theorem s_io0_1 : type_of% @io0.eq_1 := @io0.eq_1
@[simp] theorem s_io0_2 : type_of% @io0.eq_2 := @io0.eq_2
@[simp] theorem s_backIo_1 : type_of% @backIo.eq_1 := @backIo.eq_1
@[simp] theorem s_backIo_2 : type_of% @backIo.eq_2 := @backIo.eq_2
@[simp] theorem s_backIo_3 : type_of% @backIo.eq_3 := @backIo.eq_3
@[simp] theorem s_eCallIo_1 : type_of% @eCallIo.eq_1 := @eCallIo.eq_1
@[simp] theorem s_eNeg_1 : type_of% @eNeg.eq_1 := @eNeg.eq_1
@[simp] theorem s_iR1_1 : type_of% @iR1.eq_1 := @iR1.eq_1
@[simp] theorem s_iA_1 : type_of% @iA.eq_1 := @iA.eq_1
@[simp] theorem s_itemsA_1 : type_of% @itemsA.eq_1 := @itemsA.eq_1
@[simp] theorem s_itemsA_2 : type_of% @itemsA.eq_2 := @itemsA.eq_2
@[simp] theorem s_itemsA_3 : type_of% @itemsA.eq_3 := @itemsA.eq_3
@[simp] theorem s_itemsA_4 : type_of% @itemsA.eq_4 := @itemsA.eq_4
@[simp] theorem s_eInK_1 : type_of% @eInK.eq_1 := @eInK.eq_1
@[simp] theorem s_eIxK_1 : type_of% @eIxK.eq_1 := @eIxK.eq_1
@[simp] theorem s_eRev_1 : type_of% @eRev.eq_1 := @eRev.eq_1
@[simp] theorem s_revD_1 : type_of% @revD.eq_1 := @revD.eq_1
@[simp] theorem s_revD_2 : type_of% @revD.eq_2 := @revD.eq_2
@[simp] theorem s_revD_3 : type_of% @revD.eq_3 := @revD.eq_3
@[simp] theorem s_eMeth_1 : type_of% @eMeth.eq_1 := @eMeth.eq_1
@[simp] theorem s_finM_1 : type_of% @finM.eq_1 := @finM.eq_1
@[simp] theorem s_eDict0_1 : type_of% @eDict0.eq_1 := @eDict0.eq_1
@[simp] theorem s_eChain_1 : type_of% @eChain.eq_1 := @eChain.eq_1
@[simp] theorem s_gAdd_1 : type_of% @gAdd.eq_1 := @gAdd.eq_1
@[simp] theorem s_gAdd_2 : type_of% @gAdd.eq_2 := @gAdd.eq_2
@[simp] theorem s_gAdd_3 : type_of% @gAdd.eq_3 := @gAdd.eq_3
@[simp] theorem s_gAdd_4 : type_of% @gAdd.eq_4 := @gAdd.eq_4
@[simp] theorem s_gAdd_5 : type_of% @gAdd.eq_5 := @gAdd.eq_5
@[simp] theorem s_gI_1 : type_of% @gI.eq_1 := @gI.eq_1
@[simp] theorem s_gI_2 : type_of% @gI.eq_2 := @gI.eq_2
@[simp] theorem s_gSub_1 : type_of% @gSub.eq_1 := @gSub.eq_1
@[simp] theorem s_gFdiv_1 : type_of% @gFdiv.eq_1 := @gFdiv.eq_1
@[simp] theorem s_gMod_1 : type_of% @gMod.eq_1 := @gMod.eq_1
@[simp] theorem s_gPow_1 : type_of% @gPow.eq_1 := @gPow.eq_1
@[simp] theorem s_gLt_1 : type_of% @gLt.eq_1 := @gLt.eq_1
@[simp] theorem s_gLe_1 : type_of% @gLe.eq_1 := @gLe.eq_1
@[simp] theorem s_gGt_1 : type_of% @gGt.eq_1 := @gGt.eq_1
@[simp] theorem s_gGe_1 : type_of% @gGe.eq_1 := @gGe.eq_1
@[simp] theorem s_gMulA_1 : type_of% @gMulA.eq_1 := @gMulA.eq_1
@[simp] theorem s_gMulA_2 : type_of% @gMulA.eq_2 := @gMulA.eq_2
@[simp] theorem s_gMulA_3 : type_of% @gMulA.eq_3 := @gMulA.eq_3
@[simp] theorem s_gMulA_4 : type_of% @gMulA.eq_4 := @gMulA.eq_4
@[simp] theorem s_gEq_1 : type_of% @gEq.eq_1 := @gEq.eq_1
@[simp] theorem s_gEq_2 : type_of% @gEq.eq_2 := @gEq.eq_2
@[simp] theorem s_gNe_1 : type_of% @gNe.eq_1 := @gNe.eq_1
@[simp] theorem s_gNe_2 : type_of% @gNe.eq_2 := @gNe.eq_2
@[simp] theorem s_gIn_1 : type_of% @gIn.eq_1 := @gIn.eq_1
@[simp] theorem s_gNotIn_1 : type_of% @gNotIn.eq_1 := @gNotIn.eq_1
@[simp] theorem s_inD_1 : type_of% @inD.eq_1 := @inD.eq_1
@[simp] theorem s_inD_2 : type_of% @inD.eq_2 := @inD.eq_2
@[simp] theorem s_inD_3 : type_of% @inD.eq_3 := @inD.eq_3
@[simp] theorem s_inD_4 : type_of% @inD.eq_4 := @inD.eq_4
@[simp] theorem s_gIsA_1 : type_of% @gIsA.eq_1 := @gIsA.eq_1
@[simp] theorem s_gIsA_2 : type_of% @gIsA.eq_2 := @gIsA.eq_2
@[simp] theorem s_gIsA_3 : type_of% @gIsA.eq_3 := @gIsA.eq_3
@[simp] theorem s_gIx_1 : type_of% @gIx.eq_1 := @gIx.eq_1
@[simp] theorem s_gIx_2 : type_of% @gIx.eq_2 := @gIx.eq_2
@[simp] theorem s_gIx_3 : type_of% @gIx.eq_3 := @gIx.eq_3
@[simp] theorem s_gIx_4 : type_of% @gIx.eq_4 := @gIx.eq_4
@[simp] theorem s_gSlc_1 : type_of% @gSlc.eq_1 := @gSlc.eq_1
@[simp] theorem s_gSlc_2 : type_of% @gSlc.eq_2 := @gSlc.eq_2
@[simp] theorem s_gSlc_3 : type_of% @gSlc.eq_3 := @gSlc.eq_3
@[simp] theorem s_gSlc_4 : type_of% @gSlc.eq_4 := @gSlc.eq_4
@[simp] theorem s_gLen_1 : type_of% @gLen.eq_1 := @gLen.eq_1
@[simp] theorem s_gLen_2 : type_of% @gLen.eq_2 := @gLen.eq_2
@[simp] theorem s_gLen_3 : type_of% @gLen.eq_3 := @gLen.eq_3
@[simp] theorem s_gLen_4 : type_of% @gLen.eq_4 := @gLen.eq_4
@[simp] theorem s_gInt_1 : type_of% @gInt.eq_1 := @gInt.eq_1
@[simp] theorem s_gInt_2 : type_of% @gInt.eq_2 := @gInt.eq_2
@[simp] theorem s_gInt_3 : type_of% @gInt.eq_3 := @gInt.eq_3
@[simp] theorem s_gList_1 : type_of% @gList.eq_1 := @gList.eq_1
@[simp] theorem s_gList_2 : type_of% @gList.eq_2 := @gList.eq_2
@[simp] theorem s_gList_3 : type_of% @gList.eq_3 := @gList.eq_3
@[simp] theorem s_gTuple_1 : type_of% @gTuple.eq_1 := @gTuple.eq_1
@[simp] theorem s_gTuple_2 : type_of% @gTuple.eq_2 := @gTuple.eq_2
@[simp] theorem s_gTuple_3 : type_of% @gTuple.eq_3 := @gTuple.eq_3
@[simp] theorem s_gMax2_1 : type_of% @gMax2.eq_1 := @gMax2.eq_1
@[simp] theorem s_gMax2_2 : type_of% @gMax2.eq_2 := @gMax2.eq_2
@[simp] theorem s_gMin2_1 : type_of% @gMin2.eq_1 := @gMin2.eq_1
@[simp] theorem s_gMin2_2 : type_of% @gMin2.eq_2 := @gMin2.eq_2
@[simp] theorem s_gAll_1 : type_of% @gAll.eq_1 := @gAll.eq_1
@[simp] theorem s_gAll_2 : type_of% @gAll.eq_2 := @gAll.eq_2
@[simp] theorem s_gAny_1 : type_of% @gAny.eq_1 := @gAny.eq_1
@[simp] theorem s_gAny_2 : type_of% @gAny.eq_2 := @gAny.eq_2
@[simp] theorem s_gSum_1 : type_of% @gSum.eq_1 := @gSum.eq_1
@[simp] theorem s_gSum_2 : type_of% @gSum.eq_2 := @gSum.eq_2
@[simp] theorem s_gStr_1 : type_of% @gStr.eq_1 := @gStr.eq_1
@[simp] theorem s_gStr_2 : type_of% @gStr.eq_2 := @gStr.eq_2
@[simp] theorem s_funG_1 : type_of% @funG.eq_1 := @funG.eq_1
def Slot.isI : Slot → Bool
  | .io _ => true
  | _ => false
@[simp] theorem isI_no : Slot.isI .no = false := rfl
@[simp] theorem isI_sh {d : D} : Slot.isI (.sh d) = false := rfl
@[simp] theorem isI_ol {xs : List D} : Slot.isI (.ol xs) = false := rfl
@[simp] theorem isI_io {xs : List D} : Slot.isI (.io xs) = true := rfl
@[simp] theorem isIo_get {ρ : Rho} {i : Nat} : isIo ρ i = match ρ[i]? with
    | some s => s.isI
    | none => false := by
  unfold isIo
  cases ρ[i]? with
  | none => rfl
  | some s => cases s <;> rfl
@[simp] theorem s_get0 : type_of% @List.getElem?_cons_zero := @List.getElem?_cons_zero
@[simp] theorem s_get1 : type_of% @List.getElem?_cons_succ := @List.getElem?_cons_succ
theorem lcG_pure {b : Bd} {c : MB} {e : ME} {vs : List Nat} {ρ : Rho} (f : D → Option D) : ∀ (ds acc : List D), (∀ d ∈ ds, lcTurn b c e vs d ρ = .ok (f d) ρ) → lcG b c e vs ds acc ρ = .ok (acc ++ ds.filterMap f) ρ
  | [], acc, _ => by simp [lcG]
  | d :: r, acc, h => by
    have h1 := h d (List.mem_cons_self ..)
    have ih := fun acc => lcG_pure f r acc fun x hx => h x (List.mem_cons_of_mem _ hx)
    cases q : f d with
    | none => simp only [lcG, h1, q, ih, List.filterMap_cons]
    | some x => simp only [lcG, h1, q, ih, List.filterMap_cons, List.append_assoc, List.singleton_append]
theorem boolsOf_map {α : Type} (l : List α) (f : α → Bool) : boolsOf (l.map fun x => .bool (f x)) = some (l.map f) := by
  induction l with
  | nil => rfl
  | cons x r ih => simp [boolsOf, ih]
theorem filterMap_some {α β : Type} (l : List α) (f : α → β) : l.filterMap (fun x => some (f x)) = l.map f := by
  induction l with
  | nil => rfl
  | cons x r ih => simp [ih]
theorem nodup_snoc {κ : Type} {l : List κ} {k : κ} : (l ++ [k]).Nodup ↔ l.Nodup ∧ k ∉ l := by
  rw [List.nodup_append]
  constructor
  · rintro ⟨h1, _, h3⟩
    exact ⟨h1, fun hk => h3 k hk k (List.mem_singleton.mpr rfl) rfl⟩
  · rintro ⟨h1, h2⟩
    refine ⟨h1, by simp, fun a ha b hb e => ?_⟩
    rw [List.mem_singleton.mp hb] at e
    exact h2 (e ▸ ha)
theorem nub_nodup {κ : Type} [DecidableEq κ] (l : List κ) : (FBS.nub l).length = l.length ↔ l.Nodup := by
  induction l using FBS.snocInd with
  | h0 => simp [FBS.nub]
  | hs l k ih =>
    rw [FBS.nub_snoc, nodup_snoc, ← ih]
    have hle := FBS.nub_length_le l
    by_cases h : k ∈ FBS.nub l
    · rw [if_pos h]
      have h2 := (FBS.mem_nub l k).mp h
      simp only [List.length_append, List.length_singleton]
      exact ⟨fun e => by omega, fun e => absurd h2 e.2⟩
    · rw [if_neg h]
      have h2 : k ∉ l := fun z => h ((FBS.mem_nub l k).mpr z)
      simp [h2]
theorem nodup_take {κ : Type} (l : List κ) : l.Nodup ↔ ∀ (i : Nat) (h : i < l.length), l[i] ∉ l.take i := by
  induction l using FBS.snocInd with
  | h0 => simp
  | hs l k ih =>
    rw [nodup_snoc, ih]
    constructor
    · rintro ⟨h1, h2⟩ i hi
      by_cases z : i < l.length
      · rw [List.getElem_append_left z, List.take_append_of_le_length (Nat.le_of_lt z)]
        exact h1 i z
      · have e : i = l.length := by simp at hi; omega
        subst e
        simpa using h2
    · intro h
      refine ⟨fun i hi => ?_, ?_⟩
      · have := h i (by simp; omega)
        rwa [List.getElem_append_left hi, List.take_append_of_le_length (Nat.le_of_lt hi)] at this
      · have := h l.length (by simp)
        simpa using this
mutual
/-- data that every step of a program takes: texts of code points and not long, small ints, dicts empty -/
def fine : D → Bool
  | .str x => decide (x.length ≤ 1000000) && x.cps.all (· < 0x110000)
  | .int i => decide (i.natAbs ≤ 1000000)
  | .list xs => fines xs
  | .tuple xs => fines xs
  | .dict kvs => kvs.isEmpty
  | _ => true
def fines : List D → Bool
  | [] => true
  | x :: xs => fine x && fines xs
end
theorem fines_iff : ∀ {ds : List D}, fines ds = true ↔ ∀ d ∈ ds, fine d = true
  | [] => by simp [fines]
  | d :: r => by simp [fines, fines_iff (ds := r)]
theorem lookup_isSome {β : Type} (v : Str) : ∀ kvs : List (Str × β), (kvs.lookup v).isSome = decide (v ∈ kvs.map (·.1))
  | [] => by simp
  | (k, d) :: r => by
    rw [List.lookup_cons]
    by_cases h : v = k
    · subst h; simp
    · have e : (v == k) = false := beq_eq_false_iff_ne.mpr h
      simp [e, h, lookup_isSome v r]
theorem canLay_strs : ∀ {ys : List Str}, (∀ y ∈ ys, PyData.strOk y = true) → PyData.canLayAll0 (ys.map .str) = true
  | [], _ => rfl
  | y :: ys, h => by
    simp only [List.map_cons, PyData.canLayAll0, PyData.canLay0, h y (List.mem_cons_self ..), Bool.true_and]
    exact canLay_strs fun z hz => h z (List.mem_cons_of_mem _ hz)
theorem depth_strs : ∀ ys : List Str, PyData.depthAll (ys.map .str) = 0
  | [] => rfl
  | y :: ys => by simp [PyData.depthAll, PyData.depth, depth_strs ys]
theorem shaped_strs {ys : List Str} (h : ∀ y ∈ ys, PyData.strOk y = true) : SeqAt.shaped (.list (ys.map .str)) = true := by
  simp [SeqAt.shaped, PyData.canLay0, canLay_strs h, PyData.depth, depth_strs]
theorem shaped_strsT {ys : List Str} (h : ∀ y ∈ ys, PyData.strOk y = true) : SeqAt.shaped (.tuple (ys.map .str)) = true := by
  simp [SeqAt.shaped, PyData.canLay0, canLay_strs h, PyData.depth, depth_strs]
theorem shaped_str {y : Str} (h : PyData.strOk y = true) : SeqAt.shaped (.str y) = true := by
  simp [SeqAt.shaped, PyData.canLay0, h, PyData.depth]
theorem any_strs (ys : List Str) (w : Str) : ((ys.map PyData.str).any fun z => PyData.eqv z (.str w)) = decide (w ∈ ys) := by
  rw [Bool.eq_iff_iff, List.any_map, List.any_eq_true, decide_eq_true_iff]
  simp [PyData.eqv]
theorem countP_strs (ys : List Str) (w : Str) : ((ys.map PyData.str).countP fun z => PyData.eqv z (.str w)) = ys.count w := by
  rw [List.countP_map, List.count]
  rfl
theorem fine_ok {y : Str} (h : fine (.str y) = true) : PyData.strOk y = true := by
  simp only [fine, Bool.and_eq_true] at h
  exact h.2
theorem shaped_int {i : Int} : SeqAt.shaped (.int i) = true := by simp [SeqAt.shaped, PyData.canLay0, PyData.depth]
theorem shaped_bool {b : Bool} : SeqAt.shaped (.bool b) = true := by simp [SeqAt.shaped, PyData.canLay0, PyData.depth]
theorem intsD_length (lo : Int) (n : Nat) : (intsD lo n).length = n := by simp [intsD]
theorem atI_in {α : Type} {l : List α} {i : Int} (h0 : 0 ≤ i) (h1 : i < l.length) : ∃ d, atI l i = some d ∧ d ∈ l := by
  have h : i.toNat < l.length := by omega
  refine ⟨l[i.toNat], ?_, List.getElem_mem h⟩
  unfold atI ixN
  rw [if_pos h0, if_pos h1]
  exact List.getElem?_eq_getElem h
theorem mod_lt {n m : Int} (h : 0 < m) : 0 ≤ n % m ∧ n % m < m := ⟨Int.emod_nonneg _ (by omega), Int.emod_lt_of_pos _ h⟩
/-! ### sizes -/
mutual
/-- at least as many signs as the text of d has -/
def wt : D → Nat
  | .none => 4
  | .bool _ => 5
  | .int i => (PyData.shown (.int i)).length
  | .str x => 10 * x.length + 2
  | .list xs => wts xs + 2
  | .tuple xs => wts xs + 3
  | .dict _ => 2
def wts : List D → Nat
  | [] => 0
  | x :: xs => wt x + 2 + wts xs
end
theorem wts_append : ∀ (a b : List D), wts (a ++ b) = wts a + wts b
  | [], b => by simp [wts]
  | x :: a, b => by simp [wts, wts_append a b]; omega
theorem textFrom_le : ∀ (ts : List Str) (k : Nat) (acc : Str), (textFrom k acc ts).length ≤ acc.length + (ts.map fun t => t.length + 2).sum
  | [], k, acc => by simp [textFrom]
  | t :: r, k, acc => by
    have ih := textFrom_le r (k + 1) (acc ++ (if k > 0 then ", " else "" : String) ++ t)
    have e : (acc ++ (if k > 0 then ", " else "" : String) ++ t).length ≤ acc.length + 2 + t.length := by
      rw [strLen_append, strLen_append]
      have : (Str.ofString (if k > 0 then ", " else "" : String)).length ≤ 2 := by split <;> decide
      omega
    simp only [textFrom, List.map_cons, List.sum_cons]
    omega
theorem join_le : ∀ (ts : List Str), (Str.join ", " ts).length ≤ (ts.map fun t => t.length + 2).sum
  | [] => by simp [Str.join, Str.empty]; decide
  | [x] => by simp [Str.join]
  | x :: y :: r => by
    have ih := join_le (y :: r)
    simp only [Str.join, List.map_cons, List.sum_cons] at ih ⊢
    rw [strLen_append, strLen_append]
    have : (Str.ofString ", ").length = 2 := by decide
    omega
mutual
theorem shown_le : ∀ {d : D}, fine d = true → d.shown.length ≤ wt d
  | .none, _ => by simp only [PyData.shown, wt]; decide
  | .bool b, _ => by cases b <;> (simp only [PyData.shown, wt]; decide)
  | .int i, _ => Nat.le_refl _
  | .str x, h => by
    simp only [PyData.shown, wt]
    refine StrLaws.reprText_len x fun c hc => ?_
    simp only [fine, Bool.and_eq_true, Array.all_eq_true_iff_forall_mem, decide_eq_true_eq] at h
    exact Nat.lt_trans (h.2 c (by simpa using hc)) (by decide)
  | .list xs, h => by
    have ih := showns_le (ds := xs) (by simpa [fine] using h)
    simp only [PyData.shown, wt, listText]
    rw [strLen_append]
    have h1 := textFrom_le (PyData.shownAll xs) 0 "["
    have h2 : (Str.ofString "[").length = 1 := by decide
    have h3 : (Str.ofString "]").length = 1 := by decide
    omega
  | .tuple xs, h => by
    have ih := showns_le (ds := xs) (by simpa [fine] using h)
    simp only [PyData.shown, wt, tupleText]
    rw [strLen_append, strLen_append]
    have h1 := join_le (PyData.shownAll xs)
    have h2 : (Str.ofString "(").length = 1 := by decide
    have h3 : (Str.ofString (if (PyData.shownAll xs).length == 1 then ",)" else ")" : String)).length ≤ 2 := by split <;> decide
    omega
  | .dict kvs, h => by
    cases kvs with
    | nil => simp only [PyData.shown, PyData.shownKv, wt]; decide +kernel
    | cons p r => simp [fine] at h
theorem showns_le : ∀ {ds : List D}, fines ds = true → ((PyData.shownAll ds).map fun t => t.length + 2).sum ≤ wts ds
  | [], _ => by simp [PyData.shownAll, wts]
  | d :: r, h => by
    simp only [fines, Bool.and_eq_true] at h
    have h1 := shown_le h.1
    have h2 := showns_le h.2
    simp only [PyData.shownAll, List.map_cons, List.sum_cons, wts]
    omega
end
mutual
theorem tame_fine : ∀ {d : D}, fine d = true → tame d = true ∧ d.showable = true
  | .none, _ => ⟨rfl, rfl⟩
  | .bool _, _ => ⟨rfl, rfl⟩
  | .int i, h => by
    refine ⟨rfl, ?_⟩
    simp only [fine, decide_eq_true_eq] at h
    simp only [PyData.showable, decide_eq_true_eq]
    by_cases z : i.natAbs = 0
    · rw [z]; decide
    · exact (Nat.log2_lt z).mpr (Nat.lt_of_le_of_lt h (by decide))
  | .str x, _ => ⟨rfl, rfl⟩
  | .list xs, h => by simpa [tame, PyData.showable] using tames_fine (ds := xs) (by simpa [fine] using h)
  | .tuple xs, h => by simpa [tame, PyData.showable] using tames_fine (ds := xs) (by simpa [fine] using h)
  | .dict kvs, h => by
    cases kvs with
    | nil => exact ⟨rfl, rfl⟩
    | cons p r => simp [fine] at h
theorem tames_fine : ∀ {ds : List D}, fines ds = true → tames ds = true ∧ PyData.showableAll ds = true
  | [], _ => ⟨rfl, rfl⟩
  | d :: r, h => by
    simp only [fines, Bool.and_eq_true] at h
    have h1 := tame_fine h.1
    have h2 := tames_fine h.2
    simp [tames, PyData.showableAll, h1, h2]
end
/-- fine data of bounded depth and size -/
def Nice (m n : Nat) (d : D) : Prop := fine d = true ∧ PyData.depth d ≤ m ∧ wt d ≤ n
def Nices (m n : Nat) (ds : List D) : Prop := fines ds = true ∧ PyData.depthAll ds ≤ m ∧ wts ds ≤ n
theorem Nice.ok {m n : Nat} {d : D} (h : Nice m n d) (hm : m ≤ 60) (hn : n ≤ 16000000) : FB.strOk d = true := by
  obtain ⟨h1, h2, h3⟩ := h
  have h4 := tame_fine h1
  have h5 := shown_le h1
  simp only [FB.strOk, h4.1, h4.2, Bool.true_and, Bool.and_eq_true, decide_eq_true_eq]
  omega
theorem log_small {k : Int} (h : k.natAbs ≤ 1000000) : k.natAbs.log2 < 9000 := by
  by_cases z : k.natAbs = 0
  · rw [z]; decide
  · exact Nat.lt_trans ((Nat.log2_lt z).mpr (Nat.lt_of_le_of_lt h (show 1000000 < 2 ^ 20 by decide))) (by decide)
/-! ### items -/
def Items (m : Nat) (ds : List D) : Prop := ∀ d ∈ ds, fine d = true ∧ PyData.depth d ≤ m
theorem depthAll_le {m : Nat} : ∀ {ds : List D}, (∀ d ∈ ds, PyData.depth d ≤ m) → PyData.depthAll ds ≤ m
  | [], _ => by simp [PyData.depthAll]
  | d :: r, h => by
    have h1 := h d (List.mem_cons_self ..)
    have h2 := depthAll_le (m := m) (ds := r) fun x hx => h x (List.mem_cons_of_mem _ hx)
    simp only [PyData.depthAll]
    omega
theorem Items.sub {m : Nat} {a b : List D} (h : Items m b) (s : a.Sublist b) : Items m a := fun d hd => h d (s.subset hd)
theorem Items.append {m : Nat} {a b : List D} (h : Items m a) (h2 : Items m b) : Items m (a ++ b) := fun d hd => by
  rcases List.mem_append.mp hd with z | z
  · exact h d z
  · exact h2 d z
theorem Items.rev {m : Nat} {a : List D} (h : Items m a) : Items m a.reverse := fun d hd => h d (List.mem_reverse.mp hd)
theorem Items.one {m : Nat} {d : D} (h : fine d = true ∧ PyData.depth d ≤ m) : Items m [d] := fun x hx => by rw [List.mem_singleton.mp hx]; exact h
theorem wts_sub {a b : List D} (s : a.Sublist b) : wts a ≤ wts b := by
  induction s with
  | slnil => exact Nat.le_refl _
  | cons x _ ih => simp only [wts]; omega
  | cons_cons x _ ih => simp only [wts]; omega
theorem wts_reverse (a : List D) : wts a.reverse = wts a := by
  induction a with
  | nil => rfl
  | cons x r ih => simp only [List.reverse_cons, wts_append, wts, ih]; omega
theorem cut_sub {α : Type} (xs : List α) (lo hi : Option Int) : (cutD xs lo hi).Sublist xs := (List.take_sublist _ _).trans (List.drop_sublist _ _)
/-- fine data, not deep, not big -/
def Fit (d : D) : Prop := fine d = true ∧ PyData.depth d ≤ 10 ∧ wt d ≤ 1000000
theorem Fit.ok {d : D} (h : Fit d) : FB.strOk d = true := Nice.ok (m := 10) (n := 1000000) h (by decide) (by decide)
theorem fit_list {m : Nat} {ds : List D} (h : Items m ds) (hm : m ≤ 9) (hn : wts ds ≤ 999990) : Fit (.list ds) := by
  refine ⟨by simpa only [fine] using fines_iff.mpr fun d hd => (h d hd).1, ?_, ?_⟩
  · have := depthAll_le fun d hd => (h d hd).2
    simp only [PyData.depth]
    omega
  · simp only [wt]
    omega
theorem fit_tuple {m : Nat} {ds : List D} (h : Items m ds) (hm : m ≤ 9) (hn : wts ds ≤ 999990) : Fit (.tuple ds) := by
  refine ⟨by simpa only [fine] using fines_iff.mpr fun d hd => (h d hd).1, ?_, ?_⟩
  · have := depthAll_le fun d hd => (h d hd).2
    simp only [PyData.depth]
    omega
  · simp only [wt]
    omega
theorem item_list {m : Nat} {ds : List D} (h : Items m ds) : fine (.list ds) = true ∧ PyData.depth (.list ds) ≤ m + 1 := by
  refine ⟨by simpa only [fine] using fines_iff.mpr fun d hd => (h d hd).1, ?_⟩
  have := depthAll_le fun d hd => (h d hd).2
  simp only [PyData.depth]
  omega
theorem item_tuple {m : Nat} {ds : List D} (h : Items m ds) : fine (.tuple ds) = true ∧ PyData.depth (.tuple ds) ≤ m + 1 := by
  refine ⟨by simpa only [fine] using fines_iff.mpr fun d hd => (h d hd).1, ?_⟩
  have := depthAll_le fun d hd => (h d hd).2
  simp only [PyData.depth]
  omega
theorem gSeq_nx {a b : MS} {ρ ρ1 : Rho} (h : a ρ = .ok .nx ρ1) : gSeq a b ρ = b ρ1 := by simp [h]
theorem funG_rt {N : Nat} {g : MS} {args : List Slot} {ρ0 ρ : Rho} {u : Vl} (h0 : args ++ List.replicate (N - args.length) .no = ρ0) (h : g ρ0 = .ok (.rt u) ρ) : funG N g args = .ok u ρ := by
  subst h0
  simp only [funG, h]
theorem funG_nx {N : Nat} {g : MS} {args : List Slot} {ρ0 ρ : Rho} (h0 : args ++ List.replicate (N - args.length) .no = ρ0) (h : g ρ0 = .ok .nx ρ) : funG N g args = .ok (.d .none) ρ := by
  subst h0
  simp only [funG, h]
theorem forG_step {b : Bd} {g : MS} {d : D} {r : List D} {ρ ρ1 ρ2 : Rho} (h1 : b d ρ = some ρ1) (h2 : g ρ1 = .ok .nx ρ2) : forG b g (d :: r) ρ = forG b g r ρ2 := by
  rw [forG, h1]
  show (g ρ1).bind _ = _
  rw [h2, Out.bind_ok]
theorem gFor_of {it : MI} {b : Bd} {g : MS} {ds : List D} {ρ ρ1 : Rho} (h : it ρ = .ok ds ρ1) : gFor it b g ρ = forG b g ds ρ1 := by
  unfold gFor
  rw [h, Out.bind_ok]
end FB
/-! the end of a law by the head's facts -/
namespace FB
open PySem PySem.Spec L2
theorem walk_GE {l : PySem.W.OpenLaw} {n k : Nat} {q : Program} {loose : List Str} {XP : (Str → Option Value) → Heap → Prop} {YP : World → Heap → Prop} {d : DefRec} {G : List Slot → Out Vl} {x : Str}
    (hn : l.most = some n) (hn2 : n ≤ sizeLine) (hdf : d.params.defaults = []) (hr : Room k callerA)
    (F : ∀ (w : World) (mg : Str → Option Value) (fa : Addr) (h : Heap), YP w h → h.Ns mainGlobals mg → mg d.name = some (.ref fa) →
      ∃ (K : PySem.W.Frag) (fd : FuncData), K.In h ∧ (∀ (s : Shared) (u : Value), BindsTo s fd ⟨[u], []⟩ [(x, u)]) ∧ ∀ base : Heap, K.In base → base.Ns mainGlobals mg → FnG l.prog w K mg base k fa fd [x] (spOf K mg G 1))
    (hG : ∀ ns : List Int, ns.length ≤ n → ∃ ρ, G [.sh (.list (ns.map PyData.int))] = .ok (.d (.bool true)) ρ) : PySem.W.WalkO q loose XP YP l.row.toRowW d [] (fun f vs => PySem.call f vs) :=
  Att.attach_call hn hdf fun w s₀ s₁ mg mb fa o pm cd doc a vs ns g Y ho hd hcd hmg hobj hints hlen hg => by
    obtain ⟨K, fd, KX, hb, hF⟩ := F w mg fa _ Y g.T.g hmg
    exact law_callG KX g.T.g g.T.b g.T.builtins g.T.nolimit hg hobj hints (Nat.le_trans hlen hn2) hr hF hb (hG ns hlen)
theorem fun_ofD {K : PySem.W.Frag} {x qual : Str} {st : Stmt} {kws : List (Str × V)} {f : Addr} {fd : FuncData} (F : FunD K x qual (defArgs st) (defBody st) (defScope st) [] kws f fd) : Fun K x qual st f fd := by
  obtain ⟨oc, od, dV, kV, doc, pm, an, cdv, ct, osl, e, lk, hcd, hd, _⟩ := F.ex
  have z : dV = .none := by
    rcases hd with ⟨_, h⟩ | ⟨h, _⟩
    · exact h
    · exact absurd rfl h
  subst z
  exact ⟨⟨oc, od, kV, doc, pm, an, cdv, ct, osl, e, lk, hcd⟩, F.kp⟩
/-! ### data of the module -/
mutual
def datB (K : PySem.W.Frag) : D → Value → Bool
  | .none, .none => true
  | .bool b, .bool c => b == c
  | .int i, .int j _ => decide (i = j)
  | .str x, .str y _ => decide (x = y)
  | .tuple ds, .ref a => match K.lookup a with
    | some ⟨.type c, none, .seq its _, _⟩ => decide (c = "tuple") && (decide (its.size ≤ sizeLine) && datsB K ds its.toList)
    | _ => false
  | _, _ => false
def datsB (K : PySem.W.Frag) : List D → List Value → Bool
  | [], [] => true
  | d :: ds, u :: us => datB K d u && datsB K ds us
  | _, _ => false
end
mutual
theorem datB_ok {K : PySem.W.Frag} : ∀ {d : D} {u : Value}, datB K d u = true → ∃ v, RelV v u ∧ ∀ F, DR K F v d
  | .none, u, h => by
    cases u with
    | none => exact ⟨.non, rfl, fun _ => .non⟩
    | _ => cases h
  | .bool b, u, h => by
    cases u with
    | bool c => exact ⟨.bl b, by rw [eq_of_beq (show (b == c) = true from h)]; rfl, fun _ => .bl b⟩
    | _ => cases h
  | .int i, u, h => by
    cases u with
    | int j t => exact ⟨.int i, ⟨t, by rw [show i = j from of_decide_eq_true h]⟩, fun _ => .int i⟩
    | _ => cases h
  | .str x, u, h => by
    cases u with
    | str y t => exact ⟨.str x, ⟨t, by rw [show x = y from of_decide_eq_true h]⟩, fun _ => .str x⟩
    | _ => cases h
  | .tuple ds, u, h => by
    cases u with
    | ref a =>
      have h : (match K.lookup a with
        | some ⟨.type c, none, .seq its _, _⟩ => decide (c = "tuple") && (decide (its.size ≤ sizeLine) && datsB K ds its.toList)
        | _ => false) = true := h
      cases q : K.lookup a with
      | none => rw [q] at h; cases h
      | some o =>
        obtain ⟨oc, od, dt, osl⟩ := o
        rw [q] at h
        cases oc with
        | type c =>
          cases od with
          | none =>
            cases dt with
            | seq its n =>
              have h : (decide (c = "tuple") && (decide (its.size ≤ sizeLine) && datsB K ds its.toList)) = true := h
              simp only [Bool.and_eq_true, decide_eq_true_eq] at h
              obtain ⟨vs, r1, r2⟩ := datsB_ok h.2.2
              exact ⟨.ref a, rfl, fun F => .tup (.inr ⟨_, its, n, q, congrArg Value.type h.1, rfl, h.2.1, r1⟩) (.inr ⟨_, q, rfl⟩) (r2 F)⟩
            | _ => cases h
          | some b => cases dt <;> cases h
        | _ => cases od <;> cases dt <;> cases h
    | _ => cases h
  | .list _, _, h => by cases h
  | .dict _, _, h => by cases h
theorem datsB_ok {K : PySem.W.Frag} : ∀ {ds : List D} {us : List Value}, datsB K ds us = true → ∃ vs, Vals vs us ∧ ∀ F, DRs K F vs ds
  | [], us, h => by
    cases us with
    | nil => exact ⟨[], .nil, fun _ => .nil⟩
    | cons u us => cases h
  | d :: ds, us, h => by
    cases us with
    | nil => cases h
    | cons u us =>
      have h : (datB K d u && datsB K ds us) = true := h
      simp only [Bool.and_eq_true] at h
      obtain ⟨v, a1, a2⟩ := datB_ok h.1
      obtain ⟨vs, b1, b2⟩ := datsB_ok h.2
      exact ⟨v :: vs, .cons a1 b1, fun F => .cons (a2 F) (b2 F)⟩
end
/-! ### a table of the module, by the head's facts -/
def tabB (K : PySem.W.Frag) (x : Str) (kvs : List (Str × D)) : Bool := kvs.all fun q => match PySem.W.nsIn K (He.ga K x) q.1 with
  | some (some u) => datB K q.2 u
  | _ => false
theorem mem_of_lookup {β : Type} {z : Str} {d : β} : ∀ {kvs : List (Str × β)}, kvs.lookup z = some d → (z, d) ∈ kvs
  | [], h => by cases h
  | (k, e) :: r, h => by
    rw [List.lookup_cons] at h
    by_cases q : z = k
    · subst q
      simp at h
      rw [h]
      exact List.mem_cons_self ..
    · have : (z == k) = false := beq_eq_false_iff_ne.mpr q
      rw [this] at h
      exact List.mem_cons_of_mem _ (mem_of_lookup h)
theorem not_of_lookup {β : Type} {z : Str} {kvs : List (Str × β)} (h : kvs.lookup z = none) : z ∉ kvs.map (·.1) := fun m => by
  have := lookup_isSome z kvs
  rw [h, decide_eq_true m] at this
  cases this
theorem keyOf_str {e : DictEntry} {z : Str} {i : Int} (h : He.keyOf e = some (z, i)) : ∃ t, e.key = .str z t := by
  unfold He.keyOf at h
  split at h
  · rename_i x t q
    cases h
    exact ⟨t, q⟩
  · cases h
theorem keys_find {P : Params} {z : Str} : ∀ {l : List DictEntry} {ks : List Str}, l.map He.keyOf = He.keysIn P ks → z ∉ ks → l.find? (·.key.isStr z) = none ∧ l.any (·.refKey) = false
  | [], _, _, _ => ⟨rfl, rfl⟩
  | e :: r, [], h, _ => by cases h
  | e :: r, k :: ks, h, hz => by
    have h1 : He.keyOf e :: r.map He.keyOf = some (k, PyData.keyHash P k) :: He.keysIn P ks := h
    injection h1 with h2 h3
    obtain ⟨t, q⟩ := keyOf_str h2
    obtain ⟨i1, i2⟩ := keys_find h3 fun m => hz (List.mem_cons_of_mem _ m)
    have nz : k ≠ z := fun c => hz (c ▸ List.mem_cons_self ..)
    have e1 : e.key.isStr z = false := by
      rw [q]
      exact beq_eq_false_iff_ne.mpr nz
    have e2 : e.refKey = false := by
      unfold DictEntry.refKey
      rw [q]
    exact ⟨by rw [List.find?_cons, e1]; exact i1, by rw [List.any_cons, e2, i2]; rfl⟩
theorem dic_none {K : PySem.W.Frag} {P : Params} {a : Addr} {ks : List Str} {z : Str} (h : He.dicW K a = some (He.keysIn P ks)) (hz : z ∉ ks) : PySem.W.nsIn K a z = some none := by
  unfold He.dicW at h
  unfold PySem.W.nsIn
  cases q : K.lookup a with
  | none => rw [q] at h; cases h
  | some o =>
    obtain ⟨oc, od, dt, osl⟩ := o
    rw [q] at h
    cases oc with
    | type c =>
      cases od with
      | none =>
        cases dt with
        | dict es n =>
          have h1 : (match decide (c = "dict") && (osl.isEmpty && !(a == sysModules)) with
            | true => some (es.toList.map He.keyOf)
            | false => none) = some (He.keysIn P ks) := h
          split at h1
          · obtain ⟨f1, f2⟩ := keys_find (Option.some.inj h1) hz
            show (match es.toList.find? (·.key.isStr z) with
              | some e => some (some e.val)
              | none => if es.toList.any (·.refKey) then none else some none) = _
            rw [f1, f2]
            rfl
          · cases h1
        | _ => cases h
      | some b => cases dt <;> cases h
    | _ => cases od <;> cases dt <;> cases h
theorem saysT_dic {fa : List He.Fa} {fn : List He.DefD} {ts : List He.Tab} {w : World} {K : PySem.W.Frag} (c : He.SaysT fa fn ts w K) (i : Nat) {t : He.Tab} (h : ts[i]? = some t := by rfl) : He.dicW K (t.1 K) = some (He.keysIn w.params t.2) := by
  have e : ts.map (fun t => He.dicW K (t.1 K)) = ts.map fun t => some (He.keysIn w.params t.2) := congrArg (fun z : He.AlT => z.2) c
  have e2 : (ts.map fun t => He.dicW K (t.1 K))[i]? = (ts.map fun t => some (He.keysIn w.params t.2))[i]? := by rw [e]
  rw [List.getElem?_map, List.getElem?_map, h] at e2
  exact Option.some.inj e2
theorem tab_ok {K : PySem.W.Frag} {w : World} {mg : Str → Option Value} {x : Str} {kvs : List (Str × D)} (hx : mg x = some (.ref (He.ga K x))) (hd : He.dicW K (He.ga K x) = some (He.keysIn w.params (kvs.map (·.1)))) (hv : tabB K x kvs = true) : Tab K w mg x kvs := by
  obtain ⟨es, n, kd⟩ := He.dicW_ok hd
  refine ⟨_, es, n, hx, kd, fun z dv e => ?_, fun z e => dic_none hd (not_of_lookup e)⟩
  have h2 := List.all_eq_true.mp hv _ (mem_of_lookup e)
  cases q : PySem.W.nsIn K (He.ga K x) z with
  | none => simp only [q] at h2; cases h2
  | some r =>
    cases r with
    | none => simp only [q] at h2; cases h2
    | some u =>
      simp only [q] at h2
      obtain ⟨v, a1, a2⟩ := datB_ok h2
      exact ⟨u, v, rfl, a1, a2⟩
theorem blts_of {fa : List He.Fa} {fn : List He.DefD} {K : PySem.W.Frag} {h : Heap} {mg : Str → Option Value} (X : K.In h) (G : h.Ns mainGlobals mg) (c : He.SaysD (bltNames.map He.Fa.free ++ fa) fn K) : Blts mg := fun x hx =>
  He.free_ok X G (He.SaysD.facts c (List.mem_append_left _ (List.mem_map_of_mem (f := He.Fa.free) hx)))
end FB
/-! FWX: own errors raised, caught, kept as values -/
namespace FB
open PySem PySem.Spec L2
/-! ### an object that stands already comes under watch -/
section
variable {X : Cx} {pins : List (Addr × Obj)} {σ : St} {H : Hp} {s : Shared}
theorem watch {a : Addr} {φ : Heap → Prop} (I : Inv X pins σ H s) (hn : H a = none) (n0 : X.s_0.heap.get? a = none) (nL : a ≠ X.env.locals) (nC : ∀ x c, X.env.cells.lookup x = some c → c ≠ a) (nP : ∀ p ∈ X.pn ++ pins, p.1 ≠ a)
    (new : φ s.heap ∧ (∃ o, s.heap.get? a = some o) ∧ ∀ h1 h2 : Heap, φ h1 → (∀ o, h1.get? a = some o → h2.get? a = some o) → φ h2) : Inv X pins σ (upd H a (.ext φ)) s := by
  have ne0 : ∀ b o, X.s_0.heap.get? b = some o → b ≠ a := fun b o e z => by
    rw [z, n0] at e
    cases e
  have neS : ∀ b u, H b = some u → b ≠ a := fun b u e z => by
    rw [z, hn] at e
    cases e
  have fr : ∀ b u, H b = some u → upd H a (.ext φ) b = some u := fun b u e => by
    rw [upd_ne (neS b u e)]
    exact e
  refine ⟨I.ok, I.os, I.bare, ⟨I.base.keep, I.base.slot, fun b o e n hx => ?_, I.base.there, fun b xs e => fr _ _ (I.base.tups b xs e), fun b o u e => fr _ _ (I.base.frzs b o u e), fun b ps e => ?_⟩, I.loc, I.cell, ?_, fun x c e => ?_, fun p hp => ?_, fun b u e => ?_, I.len⟩
  · rw [upd_ne (ne0 b o e)]
    exact I.base.free b o e n hx
  · obtain ⟨m, q⟩ := I.base.tbls b ps e
    exact ⟨m, fr _ _ q⟩
  · rw [upd_ne nL.symm]
    exact I.free
  · rw [upd_ne (nC x c e)]
    exact I.freeC x c e
  · obtain ⟨e, n, r⟩ := I.pin p hp
    exact ⟨e, by rw [upd_ne (nP p hp)]; exact n, r⟩
  · by_cases hb : b = a
    · subst hb
      rw [upd_same] at e
      cases e
      exact new
    · rw [upd_ne hb] at e
      exact (I.hok b u e).stay (fun _ _ _ q => q) (fun c q => fr _ _ q) fun c xs q => fr _ _ q
end
/-! ### the catch: except x as n, with one row that keeps n under another name -/
def wCatch (K : PySem.W.Frag) (c : Value) (i j : Nat) (Wout : WX) (D : Ends) : WX := fun cls d σ H =>
  ∃ b, PySem.W.exmOne K cls c = some b ∧ (b = true → ∃ E : Addr, cls = .ref E ∧ d = none ∧ ∀ a, H a = none → D.nx (((σ.set i (some (.ref a))).set j (some (.ref a))).set i none) (upd H a (ErO E a))) ∧ (b = false → Wout cls d σ H)
theorem erO_ok {E a : Addr} {h : Heap} {o : Obj} (e : h.get? a = some o) (hc : o.cls = .ref E) (hd : o.dict = none) (hn : ∀ cd, o.data ≠ .cls cd) :
    (∃ ox, PySem.W.InstAt h a ox E none) ∧ (∃ o, h.get? a = some o) ∧ ∀ h1 h2 : Heap, (∃ ox, PySem.W.InstAt h1 a ox E none) → (∀ o, h1.get? a = some o → h2.get? a = some o) → ∃ ox, PySem.W.InstAt h2 a ox E none := by
  refine ⟨⟨o, e, hc, ?_, ?_⟩, ⟨o, e⟩, fun h1 h2 ⟨ox, q⟩ k => ⟨ox, k _ q.at_, q.cls, q.no, ?_⟩⟩
  · unfold PySem.W.notCls
    split
    · rename_i cd z
      exact absurd z (hn cd)
    · rfl
  · rw [hd]
    exact True.intro
  · have := q.dict
    split at this
    · rename_i z
      cases z
    · rename_i z1 z2
      exact True.intro
    · exact this.elim
section
variable {X : Cx} {x n : Str} {C : Addr} {i j : Nat} {body : List Stmt} {st : Stmt} {np pos pos' : Pos} {tb : WX → TS} {Wout : WX}
theorem ps_catch (hs : X.stack = X.env :: X.outer) (hf : X.env.frame = some X.env.locals) (hx : X.ex = []) (hN : X.N.Nodup) (hi : X.N[i]? = some n) (hln : X.env.kindOf n = some .local) (hc : Names X x (.ref C)) (tk : L2N.Takes X Wout)
    (hb : ∀ (W : WX) (pn : List (Addr × Obj)) (xe : Value → Shared → Prop), L2N.Takes (X.tr pn xe) W → PassesOwn (model X.prog X.w) X.A X.env xe → PSs (X.tr pn xe) body (tb W))
    (hst : ∀ (a : Addr) (pn : List (Addr × Obj)), PSs (X.suite a pn) [st] (tAsg (tVar i) (gName j))) :
    PS X (.Try body [.ExceptHandler (some (.Name x np)) (some n) [st] pos'] [] [] pos) (fun D σ H => tb (wCatch X.K (.ref C) i j Wout D) D σ H) := by
  constructor
  intro pins s σ H D I0 asked
  have okX := I0.ok
  have frX : X.A.frames = some (X.env :: X.outer) := okX.frames.trans (congrArg some hs)
  refine wpAny_Try_except ?_
  refine wpAny_mono ((hb (wCatch X.K (.ref C) i j Wout D) (X.pn ++ pins) _ (fun u s2 air => ?_) PassesOwn.looking).run [] s σ H D (I0.toTry _) asked) (fun f s2 done => ?_) fun _ _ z => z
  case refine_2 =>
    cases f with
    | next =>
      obtain ⟨σ2, H2, I2, q⟩ := done
      exact wpAny_execs_nil ⟨σ2, H2, I2.ofTry okX, q⟩
    | ret u =>
      obtain ⟨v, σ2, H2, I2, r, q⟩ := done
      exact ⟨v, σ2, H2, I2.ofTry okX, r, q⟩
    | brk =>
      obtain ⟨σ2, H2, I2, q⟩ := done
      exact ⟨σ2, H2, I2.ofTry okX, q⟩
    | cont =>
      obtain ⟨σ2, H2, I2, q⟩ := done
      exact ⟨σ2, H2, I2.ofTry okX, q⟩
  case refine_1 =>
    obtain ⟨a, G, sA, pins2, σ2, H2, cls, d, rfl, IA, inG, upA, air, noA, osA, bareA, b, hexm, onYes, onNo⟩ := air
    have I2 : Inv X pins σ2 H2 sA := IA.ofTry okX
    have air2 : L2.Sky G (X.env :: X.outer) a (L2N.Zn cls d) X.env.locals s2.heap := hs ▸ air
    show wpAny (model X.prog X.w) X.A (noteFrame (.ref a) X.env) _ _ _
    refine L2N.Sky.land L2N.Zn.steady frX hf air2 fun hA flA upB => ?_
    have IB : Inv X pins σ2 H2 { s2 with heap := hA } := I2.landed inG flA.1 (upA.trans upB) osA bareA
    obtain ⟨oA, vA, getA, isA, dataA⟩ := flA.there
    have offStack : a ∉ frs (X.env :: X.outer) := fun hm => by
      obtain ⟨_, o2, get2, nf⟩ := flA.2.2.1.mem hm
      cases getA.symm.trans get2
      exact nf _ dataA
    have aL : a ≠ X.env.locals := fun z => offStack (List.mem_filterMap.mpr ⟨X.env, List.mem_cons_self, by rw [hf, z]⟩)
    have aF : a ∉ X.fs := fun hm => by
      obtain ⟨en, hen, q⟩ := List.mem_filterMap.mp hm
      exact offStack (List.mem_filterMap.mpr ⟨en, List.mem_cons_of_mem _ hen, q⟩)
    have notInA : ∀ bb o, sA.heap.get? bb = some o → bb ∉ frs (X.env :: X.outer) → bb ≠ a := fun bb o e nf z => by
      subst z
      have := inG bb o e (hs ▸ nf)
      rw [flA.2.1] at this
      cases this
    have suiteB := IB.suite getA dataA noA aL aF
    refine wpAny_handleBy_cons (codeAny_handlers_test ?_) (by intro q; cases q)
    have tyA : PySem.W.Looks (model X.prog X.w) hA (typeOf (.ref a)) cls := fun A2 Q2 E2 s3 k q => wpAny_typeOf_ref (k _ _ getA) (by rw [isA.1]; exact q)
    have exmA := PySem.W.exm_one (M := model X.prog X.w) IB.kIn tyA hexm
    have named : ∀ {Q2 : Value → Shared → Prop} {E2 : Value → Shared → Prop}, Q2 (.ref C) { s2 with heap := hA } → wpAny (model X.prog X.w) (X.A.mark (some (.ref a))) (eval (.Name x np) X.env) Q2 E2 { s2 with heap := hA } := by
      intro Q2 E2 q
      obtain ⟨hg, hdb, hm | ⟨hm, hv, hnn⟩⟩ := hc
      · exact ld_glob (X := X.suite a ((a, oA) :: (X.pn ++ pins))) suiteB hg hm q hdb
      · exact ld_blt (X := X.suite a ((a, oA) :: (X.pn ++ pins))) suiteB hg hm hv q hnn hdb
    refine named (exmA.here ?_)
    cases b with
    | false =>
      show wpAny _ X.A (handleBy (.ref a) X.env []) _ _ _
      refine wpAny_handleBy_nil ?_
      obtain ⟨k1, k2, k3, o4, v4, T, oT, ts, get4, is4, data4, one4, r4⟩ := id flA
      unfold PySem.passOn
      refine wpAny_bind (wpAny_field get4 data4 one4 ?_)
      rw [if_neg (show ¬ ((Value.ref T == Value.none) = true) by simp)]
      have away : wpAny (model X.prog X.w) X.A (setFlight (.ref a) X.env.frame) (fun _ s4 => wpAny (model X.prog X.w) X.A (throw (.ref a) : Sem Flow) (SP X pins D) X.xe s4) X.xe { s2 with heap := hA } := by
        rw [hf]
        refine HandSPX.setFlight_upZ flA fun h4 up4 upC => wpAny_throw (tk _ _ ?_)
        exact ⟨a, G, sA, pins, σ2, H2, cls, d, rfl, I2, inG, (upA.trans upB).trans upC, .inr (.inr (hs.symm ▸ up4)), noA, osA, bareA, onNo rfl⟩
      first
        | exact wpAny_bind (wpAny_pure (wpAny_bind away))
        | exact wpAny_bind away
    | true =>
      obtain ⟨E0, rfl, rfl, goes⟩ := onYes rfl
      refine codeAny_handlers_suite_as ?_
      refine HandSPX.lands_againZ flA fun hB flB upC => ?_
      have IC : Inv X pins σ2 H2 { s2 with heap := hB } := I2.landed inG flB.1 ((upA.trans upB).trans upC) osA bareA
      obtain ⟨oB, vB, getB, isB, dataB⟩ := flB.there
      have suiteC := IC.suite getB dataB noA aL aF
      refine store_ok (X := X.suite a ((a, oB) :: (X.pn ++ pins))) (v := .ref a) suiteC hN hi (.inl hln) rfl (fun s5 suite5 => ?_) (.inr hln)
      have li : i < σ2.length := by
        rw [I2.len]
        exact (List.getElem?_eq_some_iff.mp hi).1
      refine wpAny_mono ((hst a ((a, oB) :: (X.pn ++ pins))).run [] s5 _ H2 { nx := fun σ6 H6 => σ6 = (σ2.set i (some (.ref a))).set j (some (.ref a)) ∧ H6 = H2, rt := fun _ _ => False, bk := fun _ _ => False, ct := fun _ _ => False } suite5 ⟨.ref a, List.getElem?_set_self li, rfl, rfl⟩) (fun f s6 e6 => ?_) fun _ _ z => False.elim z
      cases f with
      | ret u =>
        obtain ⟨_, _, _, _, _, z⟩ := e6
        exact False.elim z
      | brk =>
        obtain ⟨_, _, _, z⟩ := e6
        exact False.elim z
      | cont =>
        obtain ⟨_, _, _, z⟩ := e6
        exact False.elim z
      | next =>
        obtain ⟨σ6, H6, suite6, rfl, rfl⟩ := e6
        have get6 : s6.heap.get? a = some oB := (suite6.pin (a, oB) (List.mem_append_left _ List.mem_cons_self)).1
        have I6 : Inv X pins ((σ2.set i (some (.ref a))).set j (some (.ref a))) H6 s6 := suite6.unsuite okX
        have n0 : X.s_0.heap.get? a = none := by
          cases q : X.s_0.heap.get? a with
          | none => rfl
          | some o =>
            obtain ⟨o3, q3⟩ := I2.base.there a o q (by rw [hx]; exact fun z => nomatch z)
            exact absurd rfl (notInA a o3 q3 offStack)
        have cells : ∀ y c, X.env.cells.lookup y = some c → c ≠ a := fun y c e z => by
          subst z
          obtain ⟨v, o3, q3, q4⟩ := I2.cell y c e
          exact absurd rfl (notInA c o3 q3 offStack)
        have pinned : ∀ p ∈ X.pn ++ pins, p.1 ≠ a := fun p hp z => by
          obtain ⟨q1, _, q3, q4, _⟩ := I2.pin p hp
          refine notInA p.1 p.2 q1 (fun hm => ?_) z
          rw [z] at hm
          exact offStack hm
        have I7 := watch (φ := fun h => ∃ ox, PySem.W.InstAt h a ox E0 none) I6 noA n0 aL cells pinned (erO_ok get6 isB.1 isB.2.1 fun cd z => by rw [dataB] at z; cases z)
        exact gone_ok I7 hN hi hln fun s7 I8 => ⟨_, _, I8, goes a noA⟩
end
end FB
/-! FWY: the readings of raise, of a catch, of isinstance of an error -/
namespace FB
open PySem PySem.Spec L2
/-! ### raise X('..') -/
def gRaise (e : Str) : MS := fun ρ => .exc e ρ
/-- an own class of errors over ValueError -/
structure ErrC (K : PySem.W.Frag) (mg : Str → Option Value) (x : Str) (E : Addr) : Prop where
  gl : mg x = some (.ref E)
  ns : PySem.W.nsIn K mainGlobals x = some (some (.ref E))
  ex : PySem.W.excIn K E [.type "ValueError", .type "Exception", .type "BaseException", .type "object"] "ValueError.__new__" = true
  kp : PySem.W.keepIn K (.ref E) = true
  sb : PySem.W.subIn K (.ref E) (.type "BaseException") = some true
  ty : PySem.W.typeIn K (.ref E) = some (.type "type")
section
variable {X : Cx} {W : WX} {x m : Str} {j : Nat} {p p2 p3 pos : Pos} {E : Addr}
theorem ss_raise (c : ErrC X.K X.mg x E) (tk : L2N.Takes X W) (hc : X.calm = true := by rfl) (hg : Gl X x := by rfl) (hdb : (x == ("__debug__" : Str)) = false := by decide) :
    SS X W (.Raise (some (.Call (.Name x p) [.Constant (.str m) j p2] [] p3)) none pos) (gRaise x) :=
  PS.imp (L2N.ps_raise hc tk (L2N.pmk_own PySem.F.excBase_ValueError c.ex c.gl c.kp (raises_own c.sb c.ty) hg hdb)) fun D σ H ⟨C, F, ρ, R, h⟩ =>
    h (.ref E) F σ H (Same.refl F) R c.gl
end
/-! ### try: .. except X as n: y = n -/
def gCatch (m : List (Str × Bool)) (i j : Nat) (g : MS) : MS := fun ρ => match g ρ with
  | .exc e ρ1 => match m.lookup e with
    | some true => if isIo ρ1 i || isIo ρ1 j then .bad else .ok .nx (((ρ1.set i (.sh (excD e))).set j (.sh (excD e))).set i .no)
    | some false => .exc e ρ1
    | none => .bad
  | o => o
/-- which classes a clause takes -/
def Hdl (K : PySem.W.Frag) (mg : Str → Option Value) (E : Addr) (m : List (Str × Bool)) : Prop :=
  ∀ e b, m.lookup e = some b → ∃ D : Addr, mg e = some (.ref D) ∧ PySem.W.nsIn K mainGlobals e = some (some (.ref D)) ∧ PySem.W.exmOne K (.ref D) (.ref E) = some b
theorem isIo_sh {ρ : Rho} {i j : Nat} {d : D} (h : isIo ρ j = false) : isIo (ρ.set i (.sh d)) j = false := by
  unfold isIo at h ⊢
  by_cases z : i = j
  · subst z
    by_cases hi : i < ρ.length
    · rw [List.getElem?_set_self hi]
    · rw [List.getElem?_eq_none (by rw [List.length_set]; omega)]
  · rw [List.getElem?_set_ne z]
    exact h
theorem isIo_shS {ρ : Rho} {i : Nat} {d : D} : isIo (ρ.set i (.sh d)) i = false := by
  unfold isIo
  by_cases hi : i < ρ.length
  · rw [List.getElem?_set_self hi]
  · rw [List.getElem?_eq_none (by rw [List.length_set]; omega)]
section
variable {X : Cx} {W : WX} {E : Addr} {m : List (Str × Bool)} {i j : Nat} {g : MS}
theorem imp_catch (hh : Hdl X.K X.mg E m) {D : Ends} {σ : St} {H : Hp} (h : tS X.K X.mg W (gCatch m i j g) D σ H) : tS X.K X.mg (wCatch X.K (.ref E) i j W D) g D σ H := by
  obtain ⟨C, F, ρ, R, h⟩ := h
  refine ⟨C, F, ρ, R, ?_⟩
  unfold gCatch at h
  cases q : g ρ with
  | bad => rw [q] at h; exact h.elim
  | ok f ρ1 =>
    rw [q] at h
    cases f with
    | nx => exact h
    | bk => exact h
    | ct => exact h
    | rt u => exact h
  | exc e ρ1 =>
    simp only [q] at h
    cases q2 : m.lookup e with
    | none => simp only [q2] at h; exact h.elim
    | some b =>
      obtain ⟨D1, g1, n1, x1⟩ := hh e b q2
      intro cls F' σ' H' s R' hm
      have ec : cls = .ref D1 := Option.some.inj (hm.symm.trans g1)
      subst ec
      cases b with
      | false =>
        simp only [q2] at h
        exact ⟨false, x1, (fun z => nomatch z), fun _ => h _ F' σ' H' s R' hm⟩
      | true =>
        simp only [q2] at h
        by_cases io : (isIo ρ1 i || isIo ρ1 j) = true
        · rw [if_pos io] at h
          exact h.elim
        · rw [if_neg io] at h
          have io2 : isIo ρ1 i = false ∧ isIo ρ1 j = false := by
            rw [Bool.not_eq_true, Bool.or_eq_false_iff] at io
            exact io
          refine ⟨true, x1, fun _ => ⟨D1, rfl, rfl, fun a ha => ?_⟩, (fun z => nomatch z)⟩
          have s2 := same_new (o := ErO D1 a) (R'.fnone ha)
          have r : DR X.K (upd F' a (ErO D1 a)) (.ref a) (excD e) := .exc n1 upd_same
          have R2 := (((R'.allocS (o := ErO D1 a) ha).setSh io2.1 r).setSh (isIo_sh io2.2) r).setNo (i := i) (isIo_sh isIo_shS) none
          exact h _ _ _ (s.trans s2) R2
theorem ss_catch {x n : Str} {body : List Stmt} {st : Stmt} {np pos pos' : Pos} (c : ErrC X.K X.mg x E) (hh : Hdl X.K X.mg E m) (tk : L2N.Takes X W) (hN : X.N.Nodup)
    (hb : ∀ (W' : WX) (pn : List (Addr × Obj)) (xe : Value → Shared → Prop), L2N.Takes (X.tr pn xe) W' → PassesOwn (model X.prog X.w) X.A X.env xe → SSs (X.tr pn xe) W' body g)
    (hst : ∀ (a : Addr) (pn : List (Addr × Obj)), PSs (X.suite a pn) [st] (tAsg (tVar i) (gName j)))
    (hi : X.N[i]? = some n := by rfl) (hln : X.env.kindOf n = some .local := by rfl) (hs : X.stack = X.env :: X.outer := by rfl) (hf : X.env.frame = some X.env.locals := by rfl) (hx : X.ex = [] := by rfl) (hg : Gl X x := by rfl) (hdb : (x == ("__debug__" : Str)) = false := by decide) :
    SS X W (.Try body [.ExceptHandler (some (.Name x np)) (some n) [st] pos'] [] [] pos) (gCatch m i j g) :=
  PS.imp (ps_catch (tb := fun W' => tS X.K X.mg W' g) hs hf hx hN hi hln ⟨hg, hdb, .inl c.gl⟩ tk (fun W' pn xe t o => hb W' pn xe t o) hst) fun D σ H h => imp_catch hh h
end
/-! ### isinstance(e, X) of an error -/
structure ExcK (K : PySem.W.Frag) (E : Addr) : Prop where
  cl : (PySem.W.clsIn K E).isSome = true
  ga : PySem.W.findIn K (.ref E) "__getattribute__" = some (some (.builtin "BaseException.__getattribute__"))
  gt : ∃ gt, PySem.W.findIn K (.ref E) "__getattr__" = some gt
  sb : PySem.W.subIn K (.ref E) (.type "BaseException") = some true
  ca : PySem.W.findIn K (.ref E) "__class__" = some (some (.builtin "object.__class__"))
  sp : PySem.W.specialIn K (.builtin "object.__class__") "__get__" = some (some (.builtin "getset_descriptor.__get__"))
  tk : PySem.W.takesIn K (.builtin "object.__class__") = some true
  mo : PySem.W.mroIn K E (.type "object") = some true
def rIsE (K : PySem.W.Frag) : List V → Hp → VK → Prop := fun xs H Q => ∃ (a E : Addr) (c : V) (u : Value) (b : Bool), xs = [.ref a, c] ∧ ClsV c u ∧ H a = some (ErO E a) ∧ ExcK K E ∧ PySem.W.kitOne K (.ref E) u = some b ∧ Q (.bl b) H
theorem call_isE {X : Cx} : CallR X (.builtin "isinstance") (rIsE X.K) := by
  intro pins s σ H xs us Q I r h
  obtain ⟨a, E, c, u, b, rfl, k, ha, x, e, q⟩ := h
  obtain ⟨u1, u2, rfl, r1, r2⟩ := vals2 r
  have e2 := k.eq r2
  subst e2
  cases (show u1 = Value.ref a from r1)
  obtain ⟨⟨ox, io⟩, _, _⟩ := I.hok a _ ha
  obtain ⟨gt, hgt⟩ := x.gt
  exact PySem.W.kia_one (PySem.W.kitx_exc (ox := ox) (od := none) x.cl x.ga hgt x.sb x.ca x.sp x.tk x.mo) I.kIn io e (fun z => nomatch z) fun tk => ⟨.bl b, H, I.tok tk, rfl, q⟩
def excOf : D → Option Str
  | .dict [(.none, .str e)] => some e
  | _ => none
theorem excOf_iff {d : D} {e : Str} (h : excOf d = some e) : d = excD e := by
  unfold excOf at h
  split at h
  · cases h
    rfl
  · cases h
def eIsE (m : List (Str × Bool)) (a : ME) : ME := fun ρ => (a ρ).bind fun u ρ1 => match res ρ1 (hold u) with
  | some d => match excOf d with
    | some e => match m.lookup e with
      | some b => .ok (.d (.bool b)) ρ1
      | none => .bad
    | none => .bad
  | none => .bad
/-- what isinstance says of the errors of these classes and the class u -/
def IsE (K : PySem.W.Frag) (u : Value) (m : List (Str × Bool)) : Prop := ∀ e b, m.lookup e = some b → ∃ E : Addr, PySem.W.nsIn K mainGlobals e = some (some (.ref E)) ∧ ExcK K E ∧ PySem.W.kitOne K (.ref E) u = some b
theorem DR.excE {K : PySem.W.Frag} {F : Hp} {v : V} {e : Str} (h : DR K F v (excD e)) : ∃ a C, v = .ref a ∧ PySem.W.nsIn K mainGlobals e = some (some (.ref C)) ∧ F a = some (ErO C a) := by
  generalize hd : excD e = d at h
  cases h with
  | dic h1 h2 h3 =>
    rename_i a kvs ks ds
    exfalso
    subst h2
    unfold excD at hd
    have hd2 : [((PyData.none : D), (PyData.str e : D))] = (kvs.map fun p => kD p.1).zip ds := PyData.dict.inj hd
    cases kvs with
    | nil => cases hd2
    | cons p r =>
      cases ds with
      | nil => cases hd2
      | cons d0 r0 =>
        have := (List.cons.inj hd2).1
        have := (Prod.mk.inj this).1
        obtain ⟨k, v⟩ := p
        cases k <;> cases this
  | exc h1 h2 =>
    rename_i a C e'
    unfold excD at hd
    injection hd with hd
    simp only [List.cons.injEq, Prod.mk.injEq, PyData.str.injEq, and_true, true_and] at hd
    subst hd
    exact ⟨a, C, rfl, h1, h2⟩
  | _ => cases hd
section
variable {X : Cx} {W : WX} {pos p p2 : Pos} {a : Expr} {f : ME} {x : Str} {u : Value} {m : List (Str × Bool)}
theorem imp_isE {cv : V} (ie : IsE X.K u m) (kc : ClsV cv u) {σ : St} {H : Hp} {Q : VK} (h : tG X.K X.mg W (relE X.K) (eIsE m f) σ H Q) : tG X.K X.mg W (relE X.K) f σ H fun v H1 => rIsE X.K [v, cv] H1 Q := by
  obtain ⟨C, F, ρ, R, h⟩ := h
  refine ⟨C, F, ρ, R, Post.bind h fun w ρ1 v F1 H1 s1 R1 r1 h1 => ?_⟩
  obtain ⟨F2, s2, R2, r2⟩ := VR.hold R1 r1
  have h1 := h1.mono s2
  cases q : res ρ1 (hold w) with
  | none => simp only [q] at h1; exact h1.elim
  | some d =>
    simp only [q] at h1
    cases q2 : excOf d with
    | none => simp only [q2] at h1; exact h1.elim
    | some e =>
      simp only [q2] at h1
      cases q3 : m.lookup e with
      | none => simp only [q3] at h1; exact h1.elim
      | some b =>
        simp only [q3] at h1
        obtain ⟨E, n1, x1, k1⟩ := ie e b q3
        have r3 := r2.res R2 q
        rw [excOf_iff q2] at r3
        cases r3 with
        | dr r4 =>
          obtain ⟨a0, C0, rfl, n2, f2⟩ := r4.excE
          have : C0 = E := by
            rw [n1] at n2
            cases n2
            rfl
          subst this
          exact ⟨a0, C0, cv, u, b, rfl, kc, R2.sub _ _ f2, x1, k1, h1 _ F2 H1 (Same.refl F2) R2 (.bl _)⟩
theorem se_isE {E : Addr} (ie : IsE X.K (.ref E) m) (hm : X.mg "isinstance" = none) (hx : X.mg x = some (.ref E)) (ha : SE X W a f) (hg : Gl X "isinstance" := by rfl) (hgT : Gl X x := by rfl) (hd : (x == ("__debug__" : Str)) = false := by decide)
    (h1 : starEach [a, .Name x p2] X.env = (false, eval a X.env) :: starEach [.Name x p2] X.env := by rfl) (h2 : starEach [.Name x p2] X.env = (false, eval (.Name x p2) X.env) :: starEach [] X.env := by rfl) (hpl : (backTo pos (starEach [.Name x p2] X.env)).any (·.1) = false := by rfl) :
    SE X W (.Call (.Name "isinstance" p) [a, .Name x p2] [] pos) (eIsE m f) :=
  PE.imp (pe_callB call_isE hg hm PyProof.Rows.boot_isinstance (pa_cons ha (pa_cons (pe_glob (v := .ref E) hgT hx rfl hd) pa_nil h2) h1) (by decide) (by decide) h1 hpl) fun σ H Q h => imp_isE ie (.own E) h
theorem se_isEB {T : String} (ie : IsE X.K (.type T) m) (hm : X.mg "isinstance" = none) (hmT : X.mg x = none) (hv : bootBuiltins x = some (.type T)) (ha : SE X W a f) (hg : Gl X "isinstance" := by rfl) (hgT : Gl X x := by rfl) (hn : x ≠ "__name__" := by decide) (hd : (x == ("__debug__" : Str)) = false := by decide)
    (h1 : starEach [a, .Name x p2] X.env = (false, eval a X.env) :: starEach [.Name x p2] X.env := by rfl) (h2 : starEach [.Name x p2] X.env = (false, eval (.Name x p2) X.env) :: starEach [] X.env := by rfl) (hpl : (backTo pos (starEach [.Name x p2] X.env)).any (·.1) = false := by rfl) :
    SE X W (.Call (.Name "isinstance" p) [a, .Name x p2] [] pos) (eIsE m f) :=
  PE.imp (pe_callB call_isE hg hm PyProof.Rows.boot_isinstance (pa_cons ha (pa_cons (pe_bltn (v := .ty T) hgT hmT hv rfl hn hd) pa_nil h2) h1) (by decide) (by decide) h1 hpl) fun σ H Q h => imp_isE ie (.ty T) h
end
end FB
/-! FWZ: factorial, a built-in that the module imports, tuple of a text -/
namespace FB
open PySem PySem.Spec L2
section
variable {X : Cx} {x : Str} {p pos : Pos} {e : Expr} {es : List Expr} {t : TA} {id : String} {r : List V → Hp → VK → Prop}
theorem pe_gblt (hc : CallR X (.builtin id) r) (hm : X.mg x = some (.builtin id)) (ha : PA X (e :: es) t) (hg : Gl X x) (hdb : (x == ("__debug__" : Str)) = false)
    (he : starEach (e :: es) X.env = (false, eval e X.env) :: starEach es X.env) (hpl : (backTo pos (starEach es X.env)).any (·.1) = false) : PE X (.Call (.Name x p) (e :: es) [] pos) (tCB r t) := by
  constructor
  intro pins s σ H Q I h
  refine wpAny_Call_Name_kw (ld_glob I hg hm ?_ hdb)
  exact PyProof.Rows.callWith_builtin1 (thn (ha.run pos pins s σ H _ I h) fun us s2 ⟨vs, H2, I2, rv, q⟩ => hc pins s2 σ H2 vs us Q I2 rv q) he hpl
theorem se_gblt {W : WX} {g : List D → Option Vl} {fs : MA} (hc : CallR X (.builtin id) r) (hg : CallD X.K r g) (hm : X.mg x = some (.builtin id)) (ha : SA X W (e :: es) fs) (hgl : Gl X x := by rfl) (hdb : (x == ("__debug__" : Str)) = false := by decide)
    (he : starEach (e :: es) X.env = (false, eval e X.env) :: starEach es X.env := by rfl) (hpl : (backTo pos (starEach es X.env)).any (·.1) = false := by rfl) : SE X W (.Call (.Name x p) (e :: es) [] pos) (eBlt g fs) :=
  PE.imp (pe_gblt hc hm ha hgl hdb he hpl) fun _ _ _ h => imp_blt hg h
end
/-! ### factorial -/
abbrev facN (n : Nat) : Nat := Builtin.Math.factorialNat n
def rFac : List V → Hp → VK → Prop := fun xs H Q => ∃ n : Int, xs = [.int n] ∧ 0 ≤ n ∧ n ≤ 100 ∧ Q (.int ((facN n.toNat : Nat) : Int)) H
theorem fac_small : ∀ k : Nat, k ≤ 100 → (facN k).log2 < 1000 := by
  have : (List.range 101).all (fun k => decide ((facN k).log2 < 1000)) = true := by decide +kernel
  intro k hk
  exact of_decide_eq_true (List.all_eq_true.mp this k (List.mem_range.mpr (by omega)))
theorem call_fac {X : Cx} : CallR X (.builtin "math.factorial") rFac := by
  intro pins s σ H xs us Q I r h
  obtain ⟨n, rfl, h0, h1, q⟩ := h
  obtain ⟨u, rfl, rx⟩ := vals1 r
  obtain ⟨t, rfl⟩ := rx
  have hs : (((facN n.toNat : Nat) : Int)).natAbs.log2 < PySem.bitsLine := by
    rw [Int.natAbs_natCast]
    exact Nat.lt_trans (fac_small n.toNat (by omega)) (by decide)
  have m1 : (100 : Int) ≤ Builtin.Math.maxSsize := by decide
  have m2 : (100 : Int) ≤ Builtin.Math.manyFactors := by decide
  exact PySem.W.mg_factorial (by omega) (by omega) (by omega) hs ⟨.int _, H, I.tok _, ⟨_, rfl⟩, q⟩
def gFac : List D → Option Vl
  | [.int n] => if decide (0 ≤ n) && decide (n ≤ 100) then some (.d (.int ((facN n.toNat : Nat) : Int))) else none
  | _ => none
theorem cd_fac {K : PySem.W.Frag} : CallD K rFac gFac := by
  intro C F ρ σ H xs ds z Q R hx hg k
  match ds, hx, hg with
  | [.int n], hx, hg =>
    simp only [gFac] at hg
    by_cases c : (decide (0 ≤ n) && decide (n ≤ 100)) = true
    · rw [if_pos c] at hg
      cases hg
      simp only [Bool.and_eq_true, decide_eq_true_eq] at c
      obtain ⟨v, rfl, h⟩ := hx.one
      exact ⟨n, by rw [h.intE], c.1, c.2, k _ F H (Same.refl F) R (.int _)⟩
    · rw [if_neg c] at hg
      cases hg
/-! ### tuple of a text -/
theorem vals_at : ∀ {xs : List V} {us : List Value}, xs.length = us.length → (∀ (i : Nat) (x : V) (u : Value), xs[i]? = some x → us[i]? = some u → RelV x u) → Vals xs us
  | [], [], _, _ => .nil
  | [], _ :: _, h, _ => nomatch h
  | _ :: _, [], h, _ => nomatch h
  | x :: xs, u :: us, h, k => .cons (k 0 x u rfl rfl) (vals_at (Nat.succ.inj h) fun i y w e1 e2 => k (i + 1) y w e1 e2)
def signV (x : Str) : List V := x.cps.toList.map fun c => .str ⟨#[c]⟩
def rTupS : List V → Hp → VK → Prop := fun xs H Q => ∃ x : Str, xs = [.str x] ∧ x.length ≤ sizeLine ∧ NewT H (signV x) Q
theorem call_tupS {X : Cx} (hc : X.calm = true) : CallR X (.type "tuple") rTupS := by
  intro pins s σ H xs us Q I r h
  obtain ⟨x, rfl, hz, q⟩ := h
  obtain ⟨u, rfl, rx⟩ := vals1 r
  obtain ⟨t, rfl⟩ := rx
  refine PySem.call_tuple_str (hsz := hz) (I.ok.hd hc) x t fun h' tk acc hk ha => ?_
  have rv : Vals (signV x) acc.toList := by
    refine vals_at ?_ fun i v w e1 e2 => ?_
    · rw [signV, List.length_map, Array.length_toList, Array.length_toList, ha.1]
    · obtain ⟨c, u, hc, rfl⟩ := ha.2 i w (by simpa using e2)
      rw [signV, List.getElem?_map] at e1
      have e3 : x.cps.toList[i]? = some c := by simpa using hc
      rw [e3] at e1
      cases e1
      exact ⟨u, rfl⟩
  have := ep_newT (tk := tk) (s := { s with heap := h' }) (I.kept (t' := s.toks) hk) rv (by rw [signV, List.length_map, Array.length_toList]; exact hz) q
  simpa using this
def gTupleS : List D → Option Vl
  | [.str x] => if x.length ≤ 16000000 then some (.d (.tuple (chars x))) else none
  | [.list ds] => some (.d (.tuple ds))
  | [.tuple ds] => some (.d (.tuple ds))
  | _ => none
theorem signs_drs {K : PySem.W.Frag} {F : Hp} : ∀ cs : List Nat, DRs K F (cs.map fun c => V.str ⟨#[c]⟩) (cs.map fun c => PyData.str ⟨#[c]⟩)
  | [] => .nil
  | c :: r => .cons (.str _) (signs_drs r)
theorem call_tupAll {X : Cx} (hc : X.calm = true) : CallR X (.type "tuple") (fun xs H Q => rTupN X.K xs H Q ∨ rTupS xs H Q) := fun pins s σ H xs us Q I r h => h.elim (call_tupleN pins s σ H xs us Q I r) (call_tupS hc pins s σ H xs us Q I r)
theorem cd_tupAll {K : PySem.W.Frag} : CallD K (fun xs H Q => rTupN K xs H Q ∨ rTupS xs H Q) gTupleS := by
  intro C F ρ σ H xs ds z Q R hx hg k
  match ds, hx, hg with
  | [.str x], hx, hg =>
    simp only [gTupleS] at hg
    by_cases c : x.length ≤ 16000000
    · rw [if_pos c] at hg
      cases hg
      obtain ⟨v, rfl, h⟩ := hx.one
      refine .inr ⟨x, by rw [h.strE], by rw [PySem.sizeLine_eq]; omega, fun p its hp => ?_⟩
      have s := same_new (o := HO.frz (tObj its) (.tup (signV x))) (R.fnone hp)
      exact k _ _ _ s (R.allocS hp) (.tup (.inl (.inr ⟨_, upd_same⟩)) (.inl ⟨_, _, upd_same⟩) (signs_drs _))
    · rw [if_neg c] at hg
      cases hg
  | [.list ds], hx, hg => exact .inl (cd_tuple C F ρ σ H _ _ z Q R hx hg k)
  | [.tuple ds], hx, hg => exact .inl (cd_tuple C F ρ σ H _ _ z Q R hx hg k)
end FB
namespace FB
open PySem PySem.Spec L2
@[simp] theorem s_isExc_1 : type_of% @isExc.eq_1 := @isExc.eq_1
@[simp] theorem isExc_none : isExc .none = false := rfl
@[simp] theorem isExc_bool {b : Bool} : isExc (.bool b) = false := rfl
@[simp] theorem isExc_int {i : Int} : isExc (.int i) = false := rfl
@[simp] theorem isExc_str {x : Str} : isExc (.str x) = false := rfl
@[simp] theorem isExc_list {ds : List D} : isExc (.list ds) = false := rfl
@[simp] theorem isExc_tuple {ds : List D} : isExc (.tuple ds) = false := rfl
@[simp] theorem isExc_dict0 : isExc (.dict []) = false := rfl
@[simp] theorem s_excOf {e : Str} : excOf (excD e) = some e := rfl
@[simp] theorem s_gRaise_1 : type_of% @gRaise.eq_1 := @gRaise.eq_1
@[simp] theorem s_gCatch_1 : type_of% @gCatch.eq_1 := @gCatch.eq_1
@[simp] theorem s_eIsE_1 : type_of% @eIsE.eq_1 := @eIsE.eq_1
@[simp] theorem s_gTupleS_1 : type_of% @gTupleS.eq_1 := @gTupleS.eq_1
@[simp] theorem s_gTupleS_2 : type_of% @gTupleS.eq_2 := @gTupleS.eq_2
@[simp] theorem s_gTupleS_3 : type_of% @gTupleS.eq_3 := @gTupleS.eq_3
@[simp] theorem s_gFac_1 : type_of% @gFac.eq_1 := @gFac.eq_1
@[simp] theorem s_gShl_1 : type_of% @gShl.eq_1 := @gShl.eq_1
/-- fine data are no errors -/
theorem fine_noexc {d : D} (h : fine d = true) : isExc d = false := by
  cases d with
  | dict kvs =>
    cases kvs with
    | nil => rfl
    | cons p r => simp [fine] at h
  | _ => rfl
end FB
/-! FWI: the head's facts of own errors -/
namespace FB
open PySem PySem.Spec L2
def globB (K : PySem.W.Frag) (x : Str) (v : Value) : Bool := He.eqO (PySem.W.nsIn K mainGlobals x) (some (some v))
def errB (K : PySem.W.Frag) (x : Str) : Bool := globB K x (.ref (He.ga K x)) && (PySem.W.excIn K (He.ga K x) [.type "ValueError", .type "Exception", .type "BaseException", .type "object"] "ValueError.__new__" &&
  (PySem.W.keepIn K (.ref (He.ga K x)) && (decide (PySem.W.subIn K (.ref (He.ga K x)) (.type "BaseException") = some true) && decide (PySem.W.typeIn K (.ref (He.ga K x)) = some (.type "type")))))
def exkB (K : PySem.W.Frag) (E : Addr) : Bool := (PySem.W.clsIn K E).isSome && (He.eqO (PySem.W.findIn K (.ref E) "__getattribute__") (some (some (.builtin "BaseException.__getattribute__"))) && ((PySem.W.findIn K (.ref E) "__getattr__").isSome &&
  (decide (PySem.W.subIn K (.ref E) (.type "BaseException") = some true) && (He.eqO (PySem.W.findIn K (.ref E) "__class__") (some (some (.builtin "object.__class__"))) &&
  (He.eqO (PySem.W.specialIn K (.builtin "object.__class__") "__get__") (some (some (.builtin "getset_descriptor.__get__"))) && (decide (PySem.W.takesIn K (.builtin "object.__class__") = some true) && decide (PySem.W.mroIn K E (.type "object") = some true)))))))
def hdlB (K : PySem.W.Frag) (E : Addr) (m : List (Str × Bool)) : Bool := m.all fun q => globB K q.1 (.ref (He.ga K q.1)) && decide (PySem.W.exmOne K (.ref (He.ga K q.1)) (.ref E) = some q.2)
def isEB (K : PySem.W.Frag) (u : Value) (m : List (Str × Bool)) : Bool := m.all fun q => globB K q.1 (.ref (He.ga K q.1)) && (exkB K (He.ga K q.1) && decide (PySem.W.kitOne K (.ref (He.ga K q.1)) u = some q.2))
section
variable {K : PySem.W.Frag} {h : Heap} {mg : Str → Option Value} {x : Str} {E : Addr} {u v : Value} {m : List (Str × Bool)}
theorem glob_of (X : K.In h) (G : h.Ns mainGlobals mg) (c : globB K x v = true) : mg x = some v := PySem.W.mg_of X G (He.eqO_ok c)
theorem errC_of (X : K.In h) (G : h.Ns mainGlobals mg) (c : errB K x = true) : ErrC K mg x (He.ga K x) := by
  unfold errB at c
  simp only [Bool.and_eq_true, decide_eq_true_eq] at c
  exact ⟨glob_of X G c.1, He.eqO_ok c.1, c.2.1, c.2.2.1, c.2.2.2.1, c.2.2.2.2⟩
theorem exk_of (c : exkB K E = true) : ExcK K E := by
  unfold exkB at c
  simp only [Bool.and_eq_true, decide_eq_true_eq] at c
  obtain ⟨gt, e⟩ := Option.isSome_iff_exists.mp c.2.2.1
  exact ⟨c.1, He.eqO_ok c.2.1, ⟨gt, e⟩, c.2.2.2.1, He.eqO_ok c.2.2.2.2.1, He.eqO_ok c.2.2.2.2.2.1, c.2.2.2.2.2.2.1, c.2.2.2.2.2.2.2⟩
theorem hdl_of (X : K.In h) (G : h.Ns mainGlobals mg) (c : hdlB K E m = true) : Hdl K mg E m := fun e b q => by
  have := List.all_eq_true.mp c _ (mem_of_lookup q)
  simp only [Bool.and_eq_true, decide_eq_true_eq] at this
  exact ⟨_, glob_of X G this.1, He.eqO_ok this.1, this.2⟩
theorem isE_of (c : isEB K u m = true) : IsE K u m := fun e b q => by
  have := List.all_eq_true.mp c _ (mem_of_lookup q)
  simp only [Bool.and_eq_true, decide_eq_true_eq] at this
  exact ⟨_, He.eqO_ok this.1, exk_of this.2.1, this.2.2⟩
end
theorem exAt {l : List Bool} (h : l.all id = true) (i : Nat) {b : Bool} (e : l[i]? = some b) : b = true := by
  have := List.all_eq_true.mp h b (List.mem_of_getElem? e)
  exact this
end FB
/-! FWQ: split, f-strings, try with a suite, a dict of one text -/
namespace FB
open PySem PySem.Spec L2
/-! ### split -/
def gSplit : D → List D → Option Vl
  | .str a, [.str b] => if decide (1 ≤ b.length) && decide (a.length ≤ 1000000) then some (.nw ((Txt.split a b).map .str)) else none
  | _, _ => none
theorem DRs.texts {K : PySem.W.Frag} {F : Hp} : ∀ {ys : List Str}, DRs K F (ys.map V.str) (ys.map PyData.str)
  | [] => .nil
  | y :: r => .cons (.str y) DRs.texts
theorem md_split {K : PySem.W.Frag} : MethD K (fun x xs H Q => ∃ a b, x = .str a ∧ xs = [.str b] ∧ (b.length == 0) = false ∧ a.length + 2 ≤ sizeLine ∧ rNewStrs (Txt.split a b) H Q) gSplit := by
  intro C F ρ σ H x xs d ds z Q R hx hxs hg k
  match d, ds, hx, hxs, hg with
  | .str a, [.str b], hx, hxs, hg =>
    simp only [gSplit] at hg
    by_cases hl : (decide (1 ≤ b.length) && decide (a.length ≤ 1000000)) = true
    · rw [if_pos hl] at hg
      cases hg
      simp only [Bool.and_eq_true, decide_eq_true_eq] at hl
      obtain ⟨v, rfl, h⟩ := hxs.one
      have hz : 1000002 ≤ sizeLine := by decide
      exact ⟨a, b, hx.strE, by rw [h.strE], beq_eq_false_iff_ne.mpr (by omega), by omega, fun p hp => k _ F _ (Same.refl F) (R.alloc hp) (VR.fresh R hp DRs.texts)⟩
    · rw [if_neg hl] at hg
      cases hg
/-! ### f'..' -/
abbrev MF := Str → Rho → Out Str
def fNil : MF := fun acc ρ => .ok acc ρ
def strVl : Vl → Option Str
  | .d (.str y) => some y
  | _ => none
def fPart (e : ME) (r : MF) : MF := fun acc ρ => (e ρ).bind fun u ρ1 => match strVl u with
  | some y => if y.length + acc.length ≤ 10000000 then r (acc ++ y) ρ1 else .bad
  | none => .bad
def eFs (f : MF) : ME := fun ρ => (f Str.empty ρ).bind fun y ρ1 => .ok (.d (.str y)) ρ1
def relF (C : Fm) (σ : St) : Hp → Hp → Rho → Str → Str → Prop := fun _ _ _ v u => v = u
structure SJ (X : Cx) (W : WX) (es : List Expr) (f : MF) : Prop where
  ex : ∃ ts, PJ X es ts ∧ ∀ acc σ H Q, tG X.K X.mg W relF (f acc) σ H Q → tJs ts acc σ H Q
section
variable {X : Cx} {W : WX} {e : Expr} {es : List Expr} {fe : ME} {f : MF} {pos : Pos}
theorem sj_nil : SJ X W [] fNil := ⟨[], .nil, fun acc σ H Q ⟨C, F, ρ, R, h⟩ => h acc F H (Same.refl F) R rfl⟩
theorem strVl_of {K : PySem.W.Frag} {C : Fm} {F H : Hp} {ρ : Rho} {σ : St} {v : V} {u : Vl} {y : Str} (h : VR K C F H ρ σ v u) (e : strVl u = some y) : v = .str y := by
  cases u with
  | d d =>
    cases d <;> try cases e
    cases h
    rfl
  | sl i => cases e
  | nw xs => cases e
theorem app_len (a b : Str) : (a ++ b).length = a.length + b.length := Array.size_append
theorem sj_part (he : SE X W e fe) (hr : SJ X W es f) : SJ X W (e :: es) (fPart fe f) := by
  obtain ⟨ts, h1, h2⟩ := hr
  refine ⟨_, .cons he h1, fun acc σ H Q ⟨C, F, ρ, R, h⟩ => ⟨C, F, ρ, R, Post.bind h fun u ρ1 x F1 H1 s1 R1 r1 h3 => ?_⟩⟩
  cases q : strVl u with
  | none => simp only [q] at h3; exact h3.elim
  | some y =>
    simp only [q] at h3
    by_cases hl : y.length + acc.length ≤ 10000000
    · rw [if_pos hl] at h3
      have hz : 10000000 ≤ sizeLine := by decide
      exact ⟨y, strVl_of r1 q, by rw [app_len]; omega, h2 _ _ _ _ ⟨C, F1, ρ1, R1, h3⟩⟩
    · rw [if_neg hl] at h3
      exact h3.elim
def eFmt (e : ME) : ME := fun ρ => (e ρ).bind fun u ρ1 => match strVl u with
  | some y => if y.length ≤ 10000000 then .ok (.d (.str y)) ρ1 else .bad
  | none => .bad
theorem se_fmt (he : SE X W e fe) : SE X W (.FormattedValue e (-1) none pos) (eFmt fe) := PE.imp (pe_fmt he) fun σ H Q ⟨C, F, ρ, R, h⟩ => ⟨C, F, ρ, R, Post.bind h fun u ρ1 x F1 H1 s1 R1 r1 h1 => by
  cases q : strVl u with
  | none => simp only [q] at h1; exact h1.elim
  | some y =>
    simp only [q] at h1
    by_cases hl : y.length ≤ 10000000
    · rw [if_pos hl] at h1
      have hz : 10000000 ≤ sizeLine := by decide
      exact .inl ⟨y, strVl_of r1 q, by omega, h1 _ F1 H1 (Same.refl F1) R1 (.str y)⟩
    · rw [if_neg hl] at h1
      exact h1.elim⟩
theorem se_fs {e2 : Expr} (h : SJ X W (e :: e2 :: es) f) : SE X W (.JoinedStr (e :: e2 :: es) pos) (eFs f) := by
  obtain ⟨ts, h1, h2⟩ := h
  exact PE.imp (pe_joined h1) fun σ H Q ⟨C, F, ρ, R, h⟩ => h2 _ _ _ _ ⟨C, F, ρ, R, Post.bind h fun u ρ1 x F1 H1 s1 R1 r1 h1 => by
    cases r1
    exact h1 _ F1 H1 (Same.refl F1) R1 (.str _)⟩
end
/-! ### try: .. except X: .. -/
def gTry (m : List (Str × Bool)) (g h : MS) : MS := fun ρ => match g ρ with
  | .exc e ρ1 => match m.lookup e with
    | some true => h ρ1
    | some false => .exc e ρ1
    | none => .bad
  | o => o
section
variable {X : Cx} {W : WX} {E : Addr} {m : List (Str × Bool)} {g g2 : MS}
theorem imp_try (hh : Hdl X.K X.mg E m) {D : Ends} {σ : St} {H : Hp} (h : tS X.K X.mg W (gTry m g g2) D σ H) : tS X.K X.mg (wMany X.K W D [(.ref E, fun _ _ _ => tS X.K X.mg W g2)]) g D σ H := by
  obtain ⟨C, F, ρ, R, h⟩ := h
  refine ⟨C, F, ρ, R, ?_⟩
  unfold gTry at h
  cases q : g ρ with
  | bad => rw [q] at h; exact h.elim
  | ok f ρ1 => rw [q] at h; cases f <;> exact h
  | exc e ρ1 =>
    simp only [q] at h
    cases q2 : m.lookup e with
    | none => simp only [q2] at h; exact h.elim
    | some b =>
      obtain ⟨D1, g1, n1, x1⟩ := hh e b q2
      intro cls F' σ' H' s R' hm
      have ec : cls = .ref D1 := Option.some.inj (hm.symm.trans g1)
      subst ec
      cases b with
      | false =>
        simp only [q2] at h
        exact ⟨false, x1, (fun z => nomatch z), fun _ => h _ F' σ' H' s R' hm⟩
      | true =>
        simp only [q2] at h
        exact ⟨true, x1, fun _ a ha => ⟨C, F', ρ1, R', h.mono s⟩, (fun z => nomatch z)⟩
theorem ss_try {x : Str} {body suite : List Stmt} {st : Stmt} {np pos pos' : Pos} (c : ErrC X.K X.mg x E) (hh : Hdl X.K X.mg E m) (tk : L2N.Takes X W)
    (hb : ∀ (W' : WX) (pn : List (Addr × Obj)) (xe : Value → Shared → Prop), L2N.Takes (X.tr pn xe) W' → PassesOwn (model X.prog X.w) X.A X.env xe → SSs (X.tr pn xe) W' body g)
    (hst : ∀ (a : Addr) (pn : List (Addr × Obj)), SSs (X.suite a pn) W (st :: suite) g2)
    (hs : X.stack = X.env :: X.outer := by rfl) (hf : X.env.frame = some X.env.locals := by rfl) (hg : Gl X x := by rfl) (hdb : (x == ("__debug__" : Str)) = false := by decide) :
    SS X W (.Try body [.ExceptHandler (some (.Name x np)) none (st :: suite) pos'] [] [] pos) (gTry m g g2) :=
  PS.imp (L2N.ps_try_many (tb := fun W' => tS X.K X.mg W' g) hs hf tk (fun W' pn xe t o => hb W' pn xe t o)
    (.cons (c := .ref E) (ts := fun _ _ _ => tS X.K X.mg W g2) ⟨hg, hdb, .inl c.gl⟩ (fun a oe cls d pn _ _ => hst a _) .nil)) fun D σ H h => imp_try hh h
end
/-! ### a dict of one text -/
def eDict1 (x : Str) : ME := fun ρ => .ok (.d (.dict [(.str x, .none)])) ρ
theorem se_dict1 {X : Cx} {W : WX} {pos p1 p2 : Pos} {x : Str} {j1 j2 : Nat} : SE X W (.Dict [some (.Constant (.str x) j1 p1)] [.Constant .none j2 p2] pos) (eDict1 x) :=
  PE.imp (pe_disp (pps_cons pe_str pe_non pps_nil) rfl rfl (by simp) (by simp)) fun σ H Q ⟨C, F, ρ, R, h⟩ p hp => by
    refine ⟨upd_same, [(.inr x, .non)], rfl, by simp, ?_⟩
    have e : upd (upd H p (.dK [])) p (.dK (mergeK [] [(.inr x, .non)])) = upd H p (.dK [(.inr x, .non)]) := by
      funext b
      by_cases z : b = p
      · subst z
        rw [upd_same, upd_same]
        rfl
      · rw [upd_ne z, upd_ne z, upd_ne z]
    rw [e]
    exact h _ (upd F p (.dK [(.inr x, .non)])) _ (same_new (R.fnone hp)) (R.allocS hp) (show DR X.K (upd F p (.dK [(.inr x, .non)])) (.ref p) (.dict [(.str x, .none)]) from .dic (kvs := [(.inr x, .non)]) (ks := [.str x]) (ds := [.none]) upd_same rfl (.cons .non .nil))
end FB
/-! FWU: text.replace(a, b, 1) of written texts; behind a row that makes a token -/
namespace FB
open PySem PySem.Spec L2 Builtin Builtin.Str PyProof.Rows
/-- the first place of y exchanged -/
def repl1 (x y z : Str) : Str := if (occurrences x y 0 x.length 1).isEmpty then x else glued z (partsBetween x (occurrences x y 0 x.length 1) y.length)
theorem repl1_len (x y z : Str) : (repl1 x y z).length ≤ x.length + z.length := by
  unfold repl1
  split
  · omega
  · have h1 := StrLaws.occ_length_le x y 0 x.length 1
    have hy : (glued y (partsBetween x (occurrences x y 0 x.length 1) y.length)).length = x.length := by rw [StrLaws.glued_between_self]
    rw [size_glued, length_partsBetween, Nat.add_sub_cancel] at hy
    rw [size_glued, length_partsBetween, Nat.add_sub_cancel]
    have h2 : (occurrences x y 0 x.length 1).length * z.length ≤ 1 * z.length := Nat.mul_le_mul_right _ h1
    omega
theorem repl_tree (x y z : Str) (t u v c : Tok) (hy : (y.length == 0) = false) (h0 : (u == 0 || v == 0) = false) (huv : (u == v) = false) (hyz : (y == z) = false) (hl : x.length + z.length ≤ 16000000) :
    Gives («str.replace» ⟨[.str x t, .str y u, .str z v, .int 1 c], []⟩) (if (occurrences x y 0 x.length 1).isEmpty then .val (.str x t) else .str (glued z (partsBetween x (occurrences x y 0 x.length 1) y.length))) := by
  have e : «str.replace» ⟨[.str x t, .str y u, .str z v, .int 1 c], []⟩ = (do
      let limit ← countLimit "str.replace" (some (.int 1 c)) (x.length + 1)
      let cuts := occurrences x y 0 x.length limit
      if (cuts.isEmpty || (y.length == 0 && z.length == 0)) = true then (do rule "str.replace.nothing"; ret (.str x t)) else
          (do let same ← isSame (.str y u) (.str z v)
              if same = true then (do rule "str.replace.old-is-new"; ret (.str x t)) else
              if tooLong (x.length + cuts.length * z.length) = true then unsupported "str.replace:memory" else
              retStr (glued z (partsBetween x cuts y.length)))) := rfl
  rw [e, countLimit_int "str.replace" 1 c (x.length + 1) (by decide)]
  show Gives (if ((occurrences x y 0 x.length 1).isEmpty || (y.length == 0 && z.length == 0)) = true then (do rule "str.replace.nothing"; ret (.str x t)) else
          (do let same ← isSame (.str y u) (.str z v)
              if same = true then (do rule "str.replace.old-is-new"; ret (.str x t)) else
              if tooLong (x.length + (occurrences x y 0 x.length 1).length * z.length) = true then unsupported "str.replace:memory" else
              retStr (glued z (partsBetween x (occurrences x y 0 x.length 1) y.length)))) _
  rw [hy, Bool.false_and, Bool.or_false]
  cases hc : (occurrences x y 0 x.length 1).isEmpty
  · have hl2 : tooLong (x.length + (occurrences x y 0 x.length 1).length * z.length) = false := by
      have h1 := StrLaws.occ_length_le x y 0 x.length 1
      have h2 : (occurrences x y 0 x.length 1).length * z.length ≤ 1 * z.length := Nat.mul_le_mul_right _ h1
      have h3 : 16000000 ≤ sizeLine := by decide
      unfold tooLong
      exact decide_eq_false (by omega)
    rw [isSame_str_other y z u v h0 huv hyz, hl2]
    exact .of_eq rfl
  · exact .rule (.of_eq rfl)
/-! ### the judgements behind a token -/
def SET (X : Cx) (W : WX) (e : Expr) (f : ME) : Prop := PET X e (tG X.K X.mg W (relE X.K) f)
def SAT (X : Cx) (W : WX) (es : List Expr) (f : MA) : Prop := PAT X es (tG X.K X.mg W (relA X.K) f)
def SSsT (X : Cx) (W : WX) (s : List Stmt) (g : MS) : Prop := PSsT X s (tS X.K X.mg W g)
section
variable {X : Cx} {W : WX} {e : Expr} {es : List Expr} {f : ME} {fs : MA} {pos : Pos} {a b : Expr} {fa fb : ME}
theorem PET.of (h : PE X e t) : PET X e t := fun pins s σ H Q _ I q => h.run pins s σ H Q I q
theorem PET.imp {t t' : TE} (h : PET X e t) (i : ∀ σ H Q, t' σ H Q → t σ H Q) : PET X e t' := fun pins s σ H Q h0 I q => h pins s σ H Q h0 I (i σ H Q q)
theorem PAT.imp {t t' : TA} (h : PAT X es t) (i : ∀ σ H Q, t' σ H Q → t σ H Q) : PAT X es t' := fun pos pins s σ H Q h0 I q => h pos pins s σ H Q h0 I (i σ H Q q)
theorem set_of (h : SE X W e f) : SET X W e f := PET.of h
theorem sat_nil : SAT X W [] aNil := PAT.imp pat_nil fun σ H Q ⟨C, F, ρ, R, h⟩ => h [] F H (Same.refl F) R .nil
theorem sat_cons (he : SET X W e f) (hr : SAT X W es fs) (hs : starEach (e :: es) X.env = (false, eval e X.env) :: starEach es X.env := by rfl) : SAT X W (e :: es) (aCons f fs) :=
  PAT.imp (pat_cons he hr hs) fun σ H Q ⟨C, F, ρ, R, h⟩ => ⟨C, F, ρ, R, Post.bind h fun u ρ1 x F1 H1 s1 R1 r1 h1 => by
    obtain ⟨F2, s2, R2, r2⟩ := VR.hold R1 r1
    refine ⟨C, F2, ρ1, R2, Post.bind (h1.mono s2) fun us ρ2 xs F3 H3 s3 R3 r3 h3 => ?_⟩
    exact h3 _ F3 H3 (Same.refl F3) R3 (.cons (VR.held s3 r2) r3)⟩
theorem set_lst (h : SAT X W es fs) : SET X W (.List es pos) (eLst fs) := PET.imp (pet_lst h) fun σ H Q ⟨C, F, ρ, R, h⟩ => ⟨C, F, ρ, R, Post.bind h fun us ρ1 xs F1 H1 s1 R1 r1 h1 => by
  cases q : keeps us ρ1 with
  | none => simp only [q] at h1; exact h1.elim
  | some p =>
    obtain ⟨ds, ρ2⟩ := p
    simp only [q] at h1
    obtain ⟨F2, s2, R2, r2⟩ := VRs.keeps R1 r1 q
    by_cases hl : ds.length ≤ 1000
    · rw [if_pos hl] at h1
      refine ⟨le_size (by rw [r2.length]; exact hl), fun p hp => h1 _ _ _ s2 (R2.alloc hp) (VR.fresh R2 hp r2)⟩
    · rw [if_neg hl] at h1
      exact h1.elim⟩
theorem pet_op {op : Operator} {r : R2} {ta tb : TE} (ho : OpR X (binaryOp op) r) (ha : PET X a ta) (hb : PET X b tb) : PET X (.BinOp a op b pos) (tOp r ta tb) := by
  intro pins s σ H Q h0 I h
  refine wpAny_BinOp (wpAny_mono (PySem.wpAny_toks (ha pins s σ H _ h0 I h)) (fun v s1 q => ?_) fun _ _ z => z.2)
  obtain ⟨hk, x, H1, I1, r1, q1⟩ := q
  exact thn (hb pins s1 σ H1 _ (Nat.le_trans h0 hk) I1 q1) fun u s2 ⟨y, H2, I2, r2, q2⟩ => ho pins s2 σ H2 x y v u Q I2 r1 r2 q2
theorem set_op {op : Operator} {r : R2} {g : D → D → Option Vl} (ho : OpR X (binaryOp op) r) (hg : OpD X.K r g) (ha : SET X W a fa) (hb : SET X W b fb) : SET X W (.BinOp a op b pos) (eOp g fa fb) :=
  PET.imp (pet_op ho ha hb) fun _ _ _ h => imp_op hg h
theorem pet_ix {r : R2} {ta tb : TE} (hr : IxR X r) (ha : PET X a ta) (hb : PE X b tb) (hs : PlainIx b) : PET X (.Subscript a b pos) (tOp r ta tb) := by
  intro pins s σ H Q h0 I h
  refine Subscript_ (thn (ha pins s σ H _ h0 I h) fun v s1 ⟨x, H1, I1, r1, q1⟩ => ?_)
  exact thn (hb.run pins s1 σ H1 _ I1 q1) fun u s2 ⟨y, H2, I2, r2, q2⟩ => hr a b pins s2 σ H2 x y v u Q I2 r1 r2 q2 (hs _ _)
theorem set_ix {r : R2} {g : D → D → Option Vl} (ho : IxR X r) (hg : OpD X.K r g) (ha : SET X W a fa) (hb : SE X W b fb) (hs : PlainIx b := by exact fun _ _ => rfl) : SET X W (.Subscript a b pos) (eOp g fa fb) :=
  PET.imp (pet_ix ho ha hb hs) fun _ _ _ h => imp_op hg h
theorem pst_ret {te : TE} (he : PET X e te) : PST X (.Return (some e) pos) (tRet te) := by
  intro pins s σ H D h0 I h
  exact wpAny_Return_some (thn (he pins s σ H _ h0 I h) fun v s1 ⟨x, H1, I1, r1, q1⟩ => ⟨x, σ, H1, I1, r1, q1⟩)
theorem psst_one {st : Stmt} {t : TS} (h : PST X st t) : PSsT X [st] t := by
  intro pins s σ H D h0 I q
  refine wpAny_execs_cons (thn (h pins s σ H D h0 I q) fun f s1 z => ?_)
  cases f with
  | next =>
    obtain ⟨σ', H', I', z⟩ := z
    exact wpAny_execs_nil ⟨σ', H', I', z⟩
  | ret v => exact z
  | brk => exact z
  | cont => exact z
theorem ssst_ret (he : SET X W e f) : SSsT X W [.Return (some e) pos] (gRet f) := psst_one (by
  have h := pst_ret (pos := pos) he
  intro pins s σ H D h0 I ⟨C, F, ρ, R, q⟩
  exact h pins s σ H D h0 I ⟨C, F, ρ, R, PostS.bindE q fun u ρ1 x F1 H1 s1 R1 r1 h1 => by
    cases q : retv u ρ1 with
    | none => simp only [q] at h1; exact h1.elim
    | some p =>
      obtain ⟨w, ρ2⟩ := p
      simp only [q] at h1
      obtain ⟨R2, r2⟩ := VR.retv R1 r1 q
      exact h1 x F1 σ H1 (Same.refl F1) R2 r2⟩)
theorem ssst_cons {st : Stmt} {rest : List Stmt} {g g' : MS} (h1 : SS X W st g) (h2 : SSsT X W rest g') : SSsT X W (st :: rest) (gSeq g g') := by
  have h := psst_cons (PST.of h1) h2
  intro pins s σ H D h0 I q
  exact h pins s σ H D h0 I (imp_seq q)
/-! ### text.replace('..', '..', 1) -/
def eRepl1 (y z : Str) (o : ME) : ME := fun ρ => (o ρ).bind fun u ρ1 => match res ρ1 (hold u) with
  | some (.str x) => if x.length ≤ 1000000 then .ok (.d (.str (repl1 x y z))) ρ1 else .bad
  | _ => .bad
theorem set_repl1 {o : Expr} {y z : Str} {j1 j2 j3 : Nat} {apos cpos p1 p2 p3 : Pos} (ho : SE X W o f) (hy : (y.length == 0) = false) (hyz : (y == z) = false) (hz : z.length ≤ 1000)
    (hbase : attributeBase o "replace" X.env (eval o X.env) = eval o X.env := by rfl)
    (hfew : ((backTo cpos (starEach [.Constant (.str y) j1 p1, .Constant (.str z) j2 p2, .Constant (.int 1) j3 p3] X.env)).all (fun x => !x.1) && (backToKw cpos (keywordEach [] X.env)).all (fun x => x.1.isSome)
      && decide (([.Constant (.str y) j1 p1, .Constant (.str z) j2 p2, .Constant (.int 1) j3 p3] : List Expr).length + ([] : List Keyword).length + (if ([] : List Keyword).isEmpty then 0 else 1) < 30)) = true := by rfl)
    (hline : (apos.endLine == cpos.line) = true := by rfl) :
    SET X W (.Call (.Attribute o "replace" apos) [.Constant (.str y) j1 p1, .Constant (.str z) j2 p2, .Constant (.int 1) j3 p3] [] cpos) (eRepl1 y z f) := by
  intro pins s σ H Q h0 I ⟨C, F, ρ, R, h⟩
  refine wpAny_Call_method_late hbase hfew hline rfl (wpAny_mono (PySem.wpAny_toks (ho.run pins s σ H (fun v H1 => ∃ x : Str, v = .str x ∧ x.length ≤ 1000000 ∧ Q (.str (repl1 x y z)) H1) I ⟨C, F, ρ, R, Post.bind h fun u ρ1 v F1 H1 s1 R1 r1 h1 => ?_⟩)) (fun v s1 q => ?_) fun _ _ z => z.2)
  · obtain ⟨F2, s2, R2, r2⟩ := VR.hold R1 r1
    have h1 := h1.mono s2
    cases q : res ρ1 (hold u) with
    | none => simp only [q] at h1; exact h1.elim
    | some d =>
      cases d with
      | str x =>
        simp only [q] at h1
        by_cases hl : x.length ≤ 1000000
        · rw [if_pos hl] at h1
          exact ⟨x, (r2.res R2 q).strE, hl, h1 _ F2 H1 (Same.refl F2) R2 (.str _)⟩
        · rw [if_neg hl] at h1
          exact h1.elim
      | _ => simp only [q] at h1; exact h1.elim
  · obtain ⟨hk, w, H1, I1, r1, x, rfl, hl, q⟩ := q
    obtain ⟨t, rfl⟩ := r1
    refine ⟨"str", _, PySem.F.plainAttrs_str, PySem.F.slot_str_replace, PySem.F.type_str_replace, typeIs_str _ _ _, (fun _ e => nomatch e), Calls.callWith_builtin rfl (Calls.evalArgs_plain (Calls.spliced_cons (Calls.Constant_str (k := j1) (pos := p1) (Calls.spliced_cons (Calls.Constant_str (k := j2) (pos := p2) (Calls.spliced_cons (wpAny_Constant_int (k := j3) (pos := p3) (Calls.spliced_nil ?_))))))))⟩
    have g := repl_tree x y z t s1.toks (s1.toks + 1) (s1.toks + 1 + 1) hy (by have z0 : s1.toks ≠ 0 := (by omega); simp [z0]) (by simp) hyz (by omega)
    refine call_gives PySem.F.slot_str_replace (typeIs_str _ _ _) PySem.F.entry_str_replace (PySem.F.args_str_replace_4 _ _ _ _) g ?_
    have hrl := repl1_len x y z
    have I2 : ∀ k, Inv X pins σ H1 { s1 with toks := k } := fun k => I1.tok k
    unfold repl1 at q hrl
    cases hc : (occurrences x y 0 x.length 1).isEmpty
    · rw [hc] at q hrl
      simp only [Bool.false_eq_true, if_false] at q hrl ⊢
      have h3 : 16000000 ≤ sizeLine := by decide
      exact ⟨by omega, V.str _, H1, I2 _, ⟨_, rfl⟩, q⟩
    · rw [hc] at q
      simp only [if_true] at q ⊢
      exact ⟨V.str _, H1, I2 _, ⟨_, rfl⟩, q⟩
/-! ### a row that makes a token, and what stands behind it -/
def PEp (X : Cx) (e : Expr) (t : TE) : Prop :=
  ∀ (pins : List (Addr × Obj)) (s : Shared) (σ : L2.St) (H : Hp) (Q : VK), Inv X pins σ H s → t σ H Q → wpAny (model X.prog X.w) X.A (eval e X.env) (fun v s1 => 1 ≤ s1.toks ∧ EP X pins σ Q v s1) X.xe s
theorem up1 {α : Type} {M : Model} {A : Around} {t : Sem α} {Q : α → Shared → Prop} {E : Value → Shared → Prop} {s : Shared} (h0 : 1 ≤ s.toks) (h : wpAny M A t Q E s) : wpAny M A t (fun a s' => 1 ≤ s'.toks ∧ Q a s') E s :=
  wpAny_mono (PySem.wpAny_toks_of h0 h) (fun _ _ x => x) fun _ _ x => x.2
/-- [ 'x', .. ][ .. ] -/
theorem pep_ixl {r : R2} {ta : TA} {tb : TE} {x : Str} {j : Nat} {p q : Pos} (hr : IxR X r) (ha : PA X es ta) (hb : PE X b tb) (hs : PlainIx b) (h1 : starEach (.Constant (.str x) j p :: es) X.env = (false, eval (.Constant (.str x) j p) X.env) :: starEach es X.env := by rfl) :
    PEp X (.Subscript (.List (.Constant (.str x) j p :: es) q) b pos) (tOp r (tLst (tCons (tC (.str x)) ta)) tb) := by
  intro pins s σ H Q I h
  refine Subscript_ (wpAny_List_spliced ?_)
  rw [h1]
  show wpAny _ _ (spliced ((false, eval (.Constant (.str x) j p) X.env) :: backTo q (starEach es X.env))) _ _ s
  refine Calls.spliced_cons (Calls.Constant_str ?_)
  refine wpAny_mono (up1 (show 1 ≤ s.toks + 1 by omega) (ha.run q pins { s with toks := s.toks + 1 } σ H _ (I.tok _) h)) (fun us s2 ⟨k2, xs, H2, I2, r2, z, q2⟩ => ⟨by rw [← (show Vals (.str x :: xs) (Value.str x s.toks :: us) from .cons ⟨_, rfl⟩ r2).length]; exact z, ?_⟩) fun _ _ z => z
  have hf : H2 s2.heap.objs.size = none := I2.hok.fresh (Nat.le_refl _)
  have I3 := I2.laid (o := .lst (.str x :: xs)) (h' := s2.heap.push { cls := .type "list", data := .seq (Value.str x s.toks :: us).toArray }) (t' := s2.toks) (a := s2.heap.objs.size) (fun b u e => Heap.get?_push_of_some _ e) (Nat.le_refl _) ⟨z, _, 0, .cons ⟨_, rfl⟩ r2, Heap.get?_push_size _ rfl⟩
  refine wpAny_mono (up1 (show 1 ≤ s2.toks from k2) (hb.run pins _ σ _ _ I3 (q2 _ hf))) (fun u s4 ⟨k4, y, H4, I4, r4, q4⟩ => ?_) fun _ _ z => z
  exact up1 k4 (hr _ b pins s4 σ H4 (.ref s2.heap.objs.size) y _ u Q I4 rfl r4 q4 (hs _ _))
theorem pss_setT {i : Nat} {x : Str} {te : TE} {pos' : Pos} {rest : List Stmt} {u : TS} (hN : X.N.Nodup) (hi : X.N[i]? = some x) (hx : Loc X.env.scope x) (he : PEp X e te) (h2 : PSsT X rest u)
    (hs : swapsWith e (some (.Name x pos')) pos.line X.env = pure false := by rfl) (hf : X.fn x = true ∨ X.env.scope.names.lookup x = some .local := by first | exact .inl rfl | exact .inr rfl | assumption) :
    PSs X (.Assign [.Name x pos'] e pos :: rest) (tSeq (tAsg te (gName i)) u) := by
  refine ⟨fun pins s σ H D I h => ?_⟩
  refine wpAny_execs_cons (wpAny_Assign_Name (thn (he pins s σ H _ I h) fun v s1 ⟨k1, y, H1, I1, r1, q1⟩ => ?_) hs)
  refine wpAny_mono (up1 k1 (store_ok (Q := fun _ s2 => Inv X pins (σ.set i (some y)) H1 s2) I1 hN hi hx r1 (fun s2 I2 => I2) hf)) (fun _ s2 ⟨k2, I2⟩ => ?_) fun _ _ z => z
  exact h2 pins s2 _ H1 D k2 I2 q1
theorem imp_cons {te : TE} (i : ∀ σ H Q, tG X.K X.mg W (relE X.K) f σ H Q → te σ H Q) {σ : L2.St} {H : Hp} {Q : List V → Hp → Prop} (h : tG X.K X.mg W (relA X.K) (aCons f fs) σ H Q) : tCons te (tG X.K X.mg W (relA X.K) fs) σ H Q := by
  obtain ⟨C, F, ρ, R, h⟩ := h
  refine i _ _ _ ⟨C, F, ρ, R, Post.bind h fun u ρ1 x F1 H1 s1 R1 r1 h1 => ?_⟩
  obtain ⟨F2, s2, R2, r2⟩ := VR.hold R1 r1
  refine ⟨C, F2, ρ1, R2, Post.bind (h1.mono s2) fun us ρ2 xs F3 H3 s3 R3 r3 h3 => ?_⟩
  exact h3 _ F3 H3 (Same.refl F3) R3 (.cons (VR.held s3 r2) r3)
theorem imp_lst {ta : TA} (i : ∀ σ H Q, tG X.K X.mg W (relA X.K) fs σ H Q → ta σ H Q) {σ : L2.St} {H : Hp} {Q : VK} (h : tG X.K X.mg W (relE X.K) (eLst fs) σ H Q) : tLst ta σ H Q := by
  obtain ⟨C, F, ρ, R, h⟩ := h
  refine i _ _ _ ⟨C, F, ρ, R, Post.bind h fun us ρ1 xs F1 H1 s1 R1 r1 h1 => ?_⟩
  cases q : keeps us ρ1 with
  | none => simp only [q] at h1; exact h1.elim
  | some p =>
    obtain ⟨ds, ρ2⟩ := p
    simp only [q] at h1
    obtain ⟨F2, s2, R2, r2⟩ := VRs.keeps R1 r1 q
    by_cases hl : ds.length ≤ 1000
    · rw [if_pos hl] at h1
      refine ⟨le_size (by rw [r2.length]; exact hl), fun p hp => h1 _ _ _ s2 (R2.alloc hp) (VR.fresh R2 hp r2)⟩
    · rw [if_neg hl] at h1
      exact h1.elim
/-- x = ['x', ..][..], and rows behind it that want a token -/
theorem sss_setT {i : Nat} {x : Str} {pos' : Pos} {rest : List Stmt} {g' : MS} {r : R2} {g : D → D → Option Vl} {z : Str} {j : Nat} {p q qs : Pos} (hN : X.N.Nodup) (hi : X.N[i]? = some x) (hx : Loc X.env.scope x) (ho : IxR X r) (hg : OpD X.K r g) (ha : SA X W es fs) (hb : SE X W b fb) (h2 : SSsT X W rest g') (hp : PlainIx b := by exact fun _ _ => rfl)
    (hs : swapsWith (.Subscript (.List (.Constant (.str z) j p :: es) q) b qs) (some (.Name x pos')) pos.line X.env = pure false := by rfl) (hf : X.fn x = true ∨ X.env.scope.names.lookup x = some .local := by first | exact .inl rfl | exact .inr rfl | assumption)
    (h1 : starEach (.Constant (.str z) j p :: es) X.env = (false, eval (.Constant (.str z) j p) X.env) :: starEach es X.env := by rfl) :
    SSs X W (.Assign [.Name x pos'] (.Subscript (.List (.Constant (.str z) j p :: es) q) b qs) pos :: rest) (gSeq (gSet i (eOp g (eLst (aCons (eC (.str z)) fs)) fb)) g') := by
  have he : PEp X (.Subscript (.List (.Constant (.str z) j p :: es) q) b qs) (tG X.K X.mg W (relE X.K) (eOp g (eLst (aCons (eC (.str z)) fs)) fb)) := fun pins s σ H Q I h =>
    by
    have h3 := imp_op hg h
    unfold tOp at h3
    refine pep_ixl ho ha hb hp h1 pins s σ H Q I ?_
    unfold tOp
    exact imp_lst (X := X) (W := W) (fun σ1 H1 Q1 h1 => imp_cons (X := X) (W := W) (fun _ _ _ h2 => imp_c (X := X) (W := W) (fun _ => .str z) h2) h1) h3
  exact PSs.imp (pss_setT hN hi hx he h2 hs hf) fun D σ H h => by
    obtain ⟨C, F, ρ, R, h4⟩ := imp_seq h
    exact imp_set ⟨C, F, ρ, R, h4⟩
end
end FB
/-! FWU: text.replace(a, b, 1) of written texts; behind a row that makes a token -/
namespace FB
open PySem PySem.Spec L2 Builtin Builtin.Str PyProof.Rows

/-! ### e[::-1], a text too -/
def revS (x : Str) : Str := ⟨x.cps.toList.reverse.toArray⟩
theorem revS_eq (x : Str) : (⟨((strSliceIndices none none (-1) x.length).filterMap (x.cps[·]?)).toArray⟩ : Str) = revS x := by
  unfold revS
  congr 1
  rw [PyProof.Rows.picked_rev]
  have e : x.length = x.cps.size := rfl
  have e1 : ((List.range x.length).map fun k => x.length - 1 - k) = (List.range x.cps.size).reverse := by
    rw [e, PySem.W.krv_range]
  rw [e1, List.filterMap_reverse, PySem.W.krv_all]
def tRevA (K : PySem.W.Frag) (te : TE) : TE := fun σ H Q => te σ H fun x H1 => (∃ z : Str, x = .str z ∧ z.length ≤ sizeLine ∧ Q (.str (revS z)) H1) ∨ ∃ a xs, x = .ref a ∧ ((SqL K H1 a xs ∧ ∀ p, H1 p = none → Q (.ref p) (upd H1 p (.lst xs.reverse))) ∨ (SqT K H1 a xs ∧ NewT H1 xs.reverse Q))
section
variable {X : Cx}
theorem pe_revA {e : Expr} {te : TE} {k : Nat} {p1 p2 p3 pos : Pos} (he : PE X e te) : PE X (.Subscript e (.Slice none none (some (.UnaryOp .USub (.Constant (.int 1) k p1) p2)) p3) pos) (tRevA X.K te) := by
  refine ⟨fun pins s σ H Q I h => PyProof.Rows.Subscript_ (thn (he.run pins s σ H _ I h) fun v s1 ⟨x, H1, I1, r1, q0⟩ => ?_)⟩
  have hst : PO X (some (.UnaryOp .USub (.Constant (.int 1) k p1) p2)) (tPart (tUn (rU fun i => .int (-i)) (tC (.int 1)))) := po_some (pe_un un_neg pe_int)
  refine wpAny_Slice (thn (po_none.run pins s1 σ H1 (fun o H2 => o = none ∧ H2 = H1) I1 ⟨rfl, rfl⟩) fun vl s2 ⟨l, H2, I2, pl, el, e2⟩ => ?_); subst el e2
  refine thn (po_none.run pins s2 σ H2 (fun o H3 => o = none ∧ H3 = H2) I2 ⟨rfl, rfl⟩) fun vu s3 ⟨u, H3, I3, pu, eu, e3⟩ => ?_; subst eu e3
  refine thn (hst.run pins s3 σ H3 (fun o H4 => o = some (-1) ∧ H4 = H3) I3 ⟨1, rfl, -1, rfl, rfl, rfl⟩) fun vs s4 ⟨o, H4, I4, ps, eo, e4⟩ => ?_; subst eo e4
  have I5 : Inv X pins σ H4 { s4 with heap := s4.heap.push { cls := .type "slice", data := .fields #[vl, vu, vs] } } := I4.kept (t' := s4.toks) fun b ob q => Heap.get?_push_of_some _ q
  show wpAny (model X.prog X.w) X.A (PyProof.Rows.subscriptTail e (.Slice none none (some (.UnaryOp .USub (.Constant (.int 1) k p1) p2)) p3) v (.ref s4.heap.objs.size)) (EP X pins σ Q) X.xe { s4 with heap := s4.heap.push { cls := .type "slice", data := .fields #[vl, vu, vs] } }
  rcases q0 with ⟨z, rfl, hz, q⟩ | ⟨a, xs, rfl, q⟩
  · obtain ⟨t, rfl⟩ := r1
    cases pl
    cases pu
    cases ps
    rename_i t2 _
    refine PyProof.Rows.tail_any (ops := [.str z t, .ref s4.heap.objs.size]) (typeIs_str _ _ _) PySem.F.slot_str_getitem.lookup (wpAny_getItem_str_slice (l := none) (u := none) (st := some (-1, t2)) ⟨_, Heap.get?_push_size _ rfl, rfl, rfl⟩ rfl ?_) (by with_unfolding_all rfl)
    have e3 : sliceMade z t none none (some (-1, t2)) = .str (revS z) := by
      rw [← revS_eq]
      rfl
    rw [e3]
    refine ⟨?_, V.str _, H4, I5.tok _, ⟨_, rfl⟩, q⟩
    show z.cps.toList.reverse.toArray.size ≤ sizeLine
    rw [List.size_toArray, List.length_reverse, Array.length_toList]
    exact hz
  · cases r1
    cases pl
    cases pu
    cases ps
    rcases q with ⟨hx, q⟩ | ⟨hx, q⟩
    · obtain ⟨its, r, ht, hz⟩ := I5.list hx
      have hlen := r.length
      refine PyProof.Rows.tail_any (ops := [.ref a, .ref s4.heap.objs.size]) ht.isList.typeIs (PySem.slot_list_getitem.lookup) (wpAny_getItem_list_slice ht.isList (Heap.IsSliceOf.new _ .none .none _) .none .none (.int (-1) _) (by decide) ?_ (by rw [List.size_toArray]; omega)) (by with_unfolding_all rfl)
      rw [PySem.W.krv_pick]
      exact ⟨.ref _, _, I5.laid (t' := s4.toks) (o := .lst xs.reverse) (fun b ob q => Heap.get?_push_of_some _ q) (Nat.le_refl _) ⟨by rw [List.length_reverse]; exact hz, _, 0, r.reverse, Heap.get?_push_size _ rfl⟩, rfl, q _ (I5.hok.fresh (Nat.le_refl _))⟩
    · obtain ⟨its, r, ht, hz⟩ := I5.tuple hx
      have hlen := r.length
      refine PyProof.Rows.tail_any (ops := [.ref a, .ref s4.heap.objs.size]) ht.typeIs (PyProof.Rows.slot_tuple_getitem.lookup) (FBT.getItem_tuple_rev ht (Heap.IsSliceOf.new _ .none .none _) (by rw [List.size_toArray]; omega) ?_) (by with_unfolding_all rfl)
      exact ep_newT (tk := s4.toks) I5 r.reverse (by rw [List.length_reverse]; omega) q
def revA : D → Option Vl
  | .str x => if x.length ≤ 10000000 then some (.d (.str (revS x))) else none
  | .list ds => some (.nw ds.reverse)
  | .tuple ds => some (.d (.tuple ds.reverse))
  | _ => none
def eRevA (a : ME) : ME := fun ρ => (a ρ).bind fun u ρ1 => match res ρ1 (hold u) with
  | some d => match revA d with
    | some z => .ok z ρ1
    | none => .bad
  | none => .bad
theorem se_revA {W : WX} {e : Expr} {f : ME} {k : Nat} {p1 p2 p3 pos : Pos} (he : SE X W e f) : SE X W (.Subscript e (.Slice none none (some (.UnaryOp .USub (.Constant (.int 1) k p1) p2)) p3) pos) (eRevA f) :=
  PE.imp (pe_revA he) fun σ H Q ⟨C, F, ρ, R, h⟩ => ⟨C, F, ρ, R, Post.bind h fun u ρ1 v F1 H1 s1 R1 r1 h1 => by
    obtain ⟨F2, s2, R2, r2⟩ := VR.hold R1 r1
    cases q : res ρ1 (hold u) with
    | none => simp only [q] at h1; exact h1.elim
    | some d =>
      simp only [q] at h1
      have t := r2.res R2 q
      match d, h1, t with
      | .str x, h1, t =>
        simp only [revA] at h1
        by_cases hl : x.length ≤ 10000000
        · rw [if_pos hl] at h1
          have hz : 10000000 ≤ sizeLine := by decide
          exact .inl ⟨x, t.strE, by omega, h1 _ F2 H1 s2 R2 (.str _)⟩
        · rw [if_neg hl] at h1
          exact h1.elim
      | .list ds, h1, t =>
        obtain ⟨a, vs, rfl, h3, h4⟩ := t.list R2
        exact .inr ⟨a, vs, rfl, .inl ⟨h3, fun p hp => h1 _ F2 _ s2 (R2.alloc hp) (VR.fresh R2 hp h4.rev)⟩⟩
      | .tuple ds, h1, t =>
        obtain ⟨a, vs, rfl, h3, h4, h5⟩ := t.tuple R2
        refine .inr ⟨a, vs, rfl, .inr ⟨h3, fun p its hp => ?_⟩⟩
        have s := same_new (o := HO.frz (tObj its) (.tup vs.reverse)) (R2.fnone hp)
        exact h1 _ _ _ (s2.trans s) (R2.allocS hp) (show DR X.K _ _ (.tuple ds.reverse) from .tup (.inl (.inr ⟨_, upd_same⟩)) (.inl ⟨_, _, upd_same⟩) (h4.rev.mono s))⟩
end
end FB
/-! FWU3: text * int from 0 on -/
namespace FB
open PySem PySem.Spec L2
def rMulSB : R2 := fun x y H Q => ∃ a k, x = .str a ∧ y = .int k ∧ 0 ≤ k ∧ k ≤ 1000 ∧ a.length ≤ 1000 ∧ Q (.str (repS a k)) H
theorem repS_zero {a : Str} : repS a 0 = Str.empty := rfl
theorem repS_one {a : Str} : repS a 1 = a := by
  unfold repS
  simp
theorem repS_none {a : Str} {k : Int} (h : a.length = 0) : repS a k = a := by
  have h2 : a.cps.toList = [] := List.length_eq_zero_iff.mp (by rw [Array.length_toList]; exact h)
  unfold repS
  rw [h2]
  have : ∀ m : Nat, (List.replicate m ([] : List Nat)).flatten = [] := fun m => by
    induction m with
    | zero => rfl
    | succ m ih => rw [List.replicate_succ, List.flatten_cons, ih]; rfl
  rw [this]
  have h3 : a.cps = #[] := by rw [← Array.toList_inj, h2]
  cases a
  simp only at h3
  rw [h3]
theorem op_mulSB {X : Cx} : OpR X (binaryOp .Mult) rMulSB := by
  intro pins s σ H x y v u Q I rx ry h
  obtain ⟨a, k, rfl, rfl, h1, h2, h4, q⟩ := h
  by_cases h3 : 2 ≤ k ∧ 1 ≤ a.length
  · exact op_mulS pins s σ H _ _ v u Q I rx ry ⟨a, k, rfl, rfl, h3.1, h2, h3.2, h4, q⟩
  obtain ⟨t, rfl⟩ := rx
  obtain ⟨t2, rfl⟩ := ry
  have hno : ¬ k < 1 → (k == 1 || a.length == 0) = true := fun hk => by
    by_cases e : k = 1
    · subst e; rfl
    · have : a.length = 0 := by
        by_cases e2 : a.length = 0
        · exact e2
        · exact absurd ⟨by omega, by omega⟩ h3
      rw [this]
      simp
  refine PySem.P.mul_str (by rw [decide_eq_false (by omega), decide_eq_false (by omega)]; rfl) (fun hk e => ?_) (fun hk e => ?_) ?_
  · rw [hno hk] at e; cases e
  · rw [hno hk] at e; cases e
  · by_cases hk : k < 1
    · rw [if_pos hk]
      have e : k = 0 := by omega
      subst e
      rw [repS_zero] at q
      exact ⟨by decide, V.str _, H, I.tok _, ⟨_, rfl⟩, q⟩
    · rw [if_neg hk, if_pos (hno hk)]
      have e : repS a k = a := by
        by_cases e : k = 1
        · subst e; exact repS_one
        · refine repS_none ?_
          by_cases e2 : a.length = 0
          · exact e2
          · exact absurd ⟨by omega, by omega⟩ h3
      rw [e] at q
      exact ⟨V.str _, H, I.tok _, ⟨_, rfl⟩, q⟩
def gMulB : D → D → Option Vl
  | .str a, .int k => if decide (0 ≤ k) && decide (k ≤ 1000) && decide (a.length ≤ 1000) then some (.d (.str (repS a k))) else none
  | .int i, .int j => gMulA (.int i) (.int j)
  | .list xs, .int k => gMulA (.list xs) (.int k)
  | _, _ => none
def rMulB (K : PySem.W.Frag) : R2 := fun x y H Q => rMulAll K x y H Q ∨ rMulSB x y H Q
theorem op_mulB {X : Cx} : OpR X (binaryOp .Mult) (rMulB X.K) := op_mulAll.or op_mulSB
theorem od_mulB {K : PySem.W.Frag} : OpD K (rMulB K) gMulB := by
  intro C F ρ σ H x y d e z Q R hx hy hg k
  match d, e, hg with
  | .int i, .int j, hg => exact .inl (od_mulA C F ρ σ H x y _ _ z Q R hx hy hg k)
  | .list xs, .int m, hg => exact .inl (od_mulA C F ρ σ H x y _ _ z Q R hx hy hg k)
  | .str a, .int m, hg =>
    simp only [gMulB] at hg
    by_cases hl : (decide (0 ≤ m) && decide (m ≤ 1000) && decide (a.length ≤ 1000)) = true
    · rw [if_pos hl] at hg
      cases hg
      simp only [Bool.and_eq_true, decide_eq_true_eq] at hl
      exact .inr ⟨a, m, hx.strE, hy.intE, hl.1.1, hl.1.2, hl.2, k _ F H (Same.refl F) R (.str _)⟩
    · rw [if_neg hl] at hg
      cases hg
end FB
/-! FWA: sets of keys that can be walked; sorted(set(texts)) -/
namespace FBS
open PySem PySem.Spec L2 PyProof.Rows
section
variable {prog : Program} {w : World} {κ : Type} [DecidableEq κ]
/-- the keys of pre stand in the set at S, whose table can be walked -/
def SG (knd : KeyKind prog w κ) (h : Heap) (S : Addr) (pre : List κ) : Prop :=
  ∃ o es ep t, h.get? S = some o ∧ o.ExactSet ∧ o.data = .set es ep t ∧ ElemsOf knd es.toList ∧ (∀ k, k ∈ pre ↔ ∃ e ∈ es.toList, knd.is k e.2 = true) ∧
    es.size < scanBound ∧ t.fits es.size = true ∧ es.size = (nub pre).length ∧ Ris t.place.toList ∧ (w.params.followText "set-order" = true ∨ t.led = true)
variable {knd : KeyKind prog w κ} {A : Around} {E : Value → Shared → Prop} {s : Shared} {S : Addr} {pre : List κ}
theorem SG.keep {h h' : Heap} (x : SG knd h S pre) (k : ∀ o, h.get? S = some o → h'.get? S = some o) : SG knd h' S pre :=
  let ⟨o, es, ep, tb, ho, r⟩ := x
  ⟨o, es, ep, tb, k o ho, r⟩
theorem sg_fresh {h : Heap} (ho : h.get? S = some (emptySet (!w.params.followText "set-order"))) : SG knd h S ([] : List κ) := by
  refine ⟨_, #[], 0, _, ho, ⟨rfl, rfl, rfl⟩, rfl, fun e he => by simp at he, fun k => by simp, by decide, rfl, rfl, ?_, ?_⟩
  · exact List.Pairwise.nil
  · show w.params.followText "set-order" = true ∨ (!w.params.followText "set-order") = true
    cases w.params.followText "set-order" <;> simp
/-- what an addition ends with -/
theorem sg_tail {G : Bool → Sem Unit} (hG : ∀ (c : Bool) (z : Shared) (Z : Unit → Shared → Prop), Z () z → wpAny (model prog w) A (G c) Z E z) {o : Obj} {xs ys : Array (Int × Value)} {n : Nat} {t u : SetTable}
    (ho : s.heap.get? S = some o) (hx : o.ExactSet) (hd : o.data = .set xs n t) (el : ElemsOf knd ys.toList) (mm : ∀ k, k ∈ pre ↔ ∃ e ∈ ys.toList, knd.is k e.2 = true) (b1 : ys.size < scanBound) (f1 : u.fits ys.size = true)
    (n1 : ys.size = (nub pre).length) (r1 : Ris u.place.toList) (l1 : w.params.followText "set-order" = true ∨ u.led = true) {dum : Bool} {R : Option Bool → Shared → Prop}
    (fin : ∀ h', Heap.SameBut S s.heap h' → SG knd h' S pre → R (some true) { s with heap := h' }) :
    wpAny (model prog w) A (do
        storeSet S ys u
        if (!dum && u.tooFull) = true then do
            G (relayAll u ys (SetTable.grown ys.size)).2.2
            storeSet S (relayAll u ys (SetTable.grown ys.size)).1 (relayAll u ys (SetTable.grown ys.size)).2.1
            pure (some true)
          else pure (some true)) R E s := by
  have at1 := store_at (es' := ys) (t' := u) ho hd
  have but1 := Heap.SameBut.update s.heap S (Obj.putSet ys u)
  refine wpAny_bind (wpAny_storeSet_of ho hd ?_ (fits_of_scanBound b1))
  by_cases full : (!dum && u.tooFull) = true
  · rw [if_pos full]
    have p3 := relayAll_perm u ys (SetTable.grown ys.size)
    have f3 := relayAll_fits u ys (SetTable.grown ys.size)
    have r3 := relayAll_ris u ys (SetTable.grown ys.size)
    have l3 := relayAll_led u ys (SetTable.grown ys.size)
    generalize relayAll u ys (SetTable.grown ys.size) = T at p3 f3 r3 l3 ⊢
    obtain ⟨zs, v, gave⟩ := T
    dsimp only at p3 f3 r3 l3 ⊢
    have size3 : zs.size = ys.size := by
      have := p3.length_eq
      rwa [Array.length_toList, Array.length_toList] at this
    have b3 : zs.size < scanBound := size3 ▸ b1
    refine wpAny_bind (hG _ _ _ (wpAny_bind (wpAny_storeSet_of at1 rfl ?_ (fits_of_scanBound b3))))
    have at3 := store_at (es' := zs) (t' := v) at1 rfl
    refine wpAny_pure (fin _ (but1.trans (Heap.SameBut.update _ S _)) ⟨_, zs, _, v, at3, hx, rfl, el.perm p3, fun k => ?_, b3, f3, size3.trans n1, r3, l1.imp id fun z => l3.trans z⟩)
    refine (mm k).trans ⟨fun ⟨e, he, q⟩ => ⟨e, p3.mem_iff.mpr he, q⟩, fun ⟨e, he, q⟩ => ⟨e, p3.mem_iff.mp he, q⟩⟩
  · rw [if_neg full]
    exact wpAny_pure (fin _ but1 ⟨_, ys, _, u, at1, hx, rfl, el, mm, b1, f1, n1, r1, l1⟩)
theorem nub_in {k : κ} (h : k ∈ pre) : (nub (pre ++ [k])).length = (nub pre).length := by
  rw [nub_snoc, if_pos ((mem_nub pre k).mpr h)]
theorem nub_out {k : κ} (h : k ∉ pre) : (nub (pre ++ [k])).length = (nub pre).length + 1 := by
  rw [nub_snoc, if_neg fun z => h ((mem_nub pre k).mp z)]
  simp
theorem sg_add {k : κ} {x : Value} {Q : Bool → Shared → Prop} (isk : knd.is k x = true) (sc : x.scannable = true) (R : SG knd s.heap S pre) (room : (nub pre).length + 1 < scanBound)
    (fin : ∀ (b : Bool) h', Heap.SameBut S s.heap h' → SG knd h' S (pre ++ [k]) → Q b { s with heap := h' }) : wpAny (model prog w) A (setAddHashed S x (knd.hash k)) Q E s := by
  obtain ⟨o, xs, n, t, ho, hx, hd, el, mm, b0, f0, n0, r0, l0⟩ := R
  unfold setAddHashed setAddHashedIn
  refine wpAny_holding (wpAny_bind (wpAny_setState_of ho hd f0 ?_))
  dsimp only
  rw [byScan_of sc b0 el]
  simp only [↓reduceIte]
  unfold setAddByScan
  refine wpAny_bind (wpAny_bind (wpAny_rule (wpAny_bind (wpAny_setScan_of isk ho hd f0 el ?_))))
  have push : ∀ j, j ∈ pre ++ [k] ↔ (j ∈ pre ∨ j = k) := fun j => by simp
  cases found : List.findIdx? (fun e => knd.is k e.2) xs.toList with
  | some j =>
    dsimp only
    obtain ⟨hj, pj, _⟩ := List.findIdx?_eq_some_iff_getElem.mp found
    have inp : k ∈ pre := (mm k).mpr ⟨xs.toList[j], List.getElem_mem hj, pj⟩
    refine wpAny_pure (wpAny_pure (fin _ s.heap (Heap.SameBut.refl S s.heap) ⟨o, xs, n, t, ho, hx, hd, el, fun i => ?_, b0, f0, n0.trans (nub_in inp).symm, r0, l0⟩))
    rw [push i, ← mm i]
    exact ⟨fun z => z.elim id fun e => e ▸ inp, .inl⟩
  | none =>
    dsimp only
    have notp : k ∉ pre := fun z => by
      obtain ⟨e, he, q⟩ := (mm k).mp z
      have c := List.findIdx?_eq_none_iff.mp found e he
      rw [q] at c
      cases c
    have gave : ∀ (c : Bool) {z : Shared} {Z : Unit → Shared → Prop}, Z () z → wpAny (model prog w) A (match c with | true => rule "set.scan.the-table-gave-way" | false => pure ()) Z E z := by
      intro c z Z q
      cases c
      · exact wpAny_pure q
      · exact wpAny_rule q
    have p1 := layNew_perm t xs (knd.hash k) x
    have f1 := layNew_fits t xs (knd.hash k) x
    have r1 := layNew_ris t xs (knd.hash k) x r0
    have l1 := layNew_led t xs (knd.hash k) x
    generalize layNew t xs (knd.hash k) x = T at p1 f1 r1 l1 ⊢
    obtain ⟨ys, u, dum, gv⟩ := T
    dsimp only at p1 f1 r1 l1 ⊢
    rw [Array.toList_push] at p1
    have el1 : ElemsOf knd ys.toList := (el.push isk sc).perm p1
    have mm1 : ∀ j, j ∈ pre ++ [k] ↔ ∃ e ∈ ys.toList, knd.is j e.2 = true := fun j => by
      have := mem_push_iff (S := fun i => decide (i ∈ pre)) isk (fun i => by rw [decide_eq_true_iff]; exact mm i) p1 j
      rw [push j, ← this]
      simp
    have size1 : ys.size = (nub (pre ++ [k])).length := by
      have := p1.length_eq
      rw [Array.length_toList, List.length_append, Array.length_toList, List.length_singleton, n0] at this
      rw [this, nub_out notp]
    have b1 : ys.size < scanBound := by rw [size1, nub_out notp]; exact room
    have l2 : w.params.followText "set-order" = true ∨ u.led = true := l0.imp id fun z => l1.trans z
    refine wpAny_bind (gave _ ?_)
    split
    · refine wpAny_bind ?_
      rw [hashByValue_scannable 8 sc]
      refine wpAny_pure (sg_tail (fun c z Z q => ?_) ho hx hd el1 mm1 b1 ?_ size1 ?_ ?_ fun h' sb r => ?_)
      · cases c
        · exact wpAny_pure q
        · exact wpAny_rule q
      · first | (split <;> first | exact f1 | exact SetTable.fits_plain_off f1) | exact f1
      · first | (split <;> exact r1) | exact r1
      · first | (split <;> exact l2) | exact l2
      · dsimp only
        exact wpAny_pure (fin _ h' sb r)
    · refine wpAny_bind (wpAny_pure ?_)
      simp only [↓reduceIte]
      refine sg_tail (fun c z Z q => ?_) ho hx hd el1 mm1 b1 f1 size1 r1 l2 fun h' sb r => ?_
      · cases c
        · exact wpAny_pure q
        · exact wpAny_rule q
      · dsimp only
        exact wpAny_pure (fin _ h' sb r)
end
end FBS
/-! FWA2: set(list), set(tuple): what stands in it, and its table -/
namespace FBS
open PySem PySem.Spec L2
section
variable {prog : Program} {w : World} {κ : Type} [DecidableEq κ] {knd : KeyKind prog w κ}
variable {A : Around} {R : Result → Shared → Prop} {I : Addr} {fp wr : List Addr} {G : Array GenState → Array GenState → Prop} {n : Nat} {P : Nat → Value → Prop} {St : Nat → Shared → Prop}
/-- the loop that fills a set from an iterator -/
theorem fillG (W : WalksS prog w A.in1 I fp wr G n P St) (S : Addr) (nS : S ∉ fp) (ks : List κ) (hn : ks.length = n) (hP : ∀ i v, P i v → ∃ k, ks[i]? = some k ∧ knd.is k v = true ∧ v.scannable = true) (room : n + 1 < scanBound)
    (hv : ∀ i v, P i v → ∀ (s : Shared) (Q : Unit → Shared → Prop), True) :
    ∀ (m i : Nat) (s : Shared), n - i = m → i ≤ n → St i s → SG knd s.heap S (ks.take i) → (∀ s', Moved (S :: wr) G s s' → SG knd s'.heap S ks → R (.ok (.ret .none)) s') →
      codeAny (model prog w) A (.builtin "set.update.loop" ⟨[.ref S, .ref I], []⟩) R s := by
  have offW : S ∉ wr := fun z => nS (W.sub _ z)
  have inW : ∀ b ∈ wr, b ∈ S :: wr := fun b z => List.mem_cons_of_mem _ z
  intro m
  induction m with
  | zero =>
    intro i s em hi st hS out
    have ei : i = n := by omega
    rw [ei] at st hS
    refine codeAny_builtin PyProof.Rows.F.entry_set_update_loop ?_
    rw [Around.under_plainId PyProof.Rows.F.plain_set_update_loop _]
    refine wpAny_bind (W.done s _ _ st fun s' mv => wpAny_pure (out s' (mv.mono inW) ?_))
    have hS : SG knd s.heap S ks := by
      rw [← hn, List.take_length] at hS
      exact hS
    exact hS.keep fun o ho => mv.heap S o offW ho
  | succ m ih =>
    intro i s em hi st hS out
    have lt : i < n := by omega
    refine codeAny_builtin PyProof.Rows.F.entry_set_update_loop ?_
    rw [Around.under_plainId PyProof.Rows.F.plain_set_update_loop _]
    refine wpAny_bind (W.item i s _ _ lt st fun v s' pv st' mv => ?_)
    obtain ⟨k, ek, isk, sck⟩ := hP i v pv
    have hS' : SG knd s'.heap S (ks.take i) := hS.keep fun o ho => mv.heap S o offW ho
    have tk : ks.take (i + 1) = ks.take i ++ [k] := by
      rw [List.take_add_one, ek]
      rfl
    have few : (nub (ks.take i)).length + 1 < scanBound := by
      have z1 := nub_length_le (ks.take i)
      have z2 : (ks.take i).length ≤ i := by
        rw [List.length_take]
        exact Nat.min_le_left _ _
      omega
    refine wpAny_bind (wpAny_holding ?_)
    unfold setAdd
    refine wpAny_holding (wpAny_bind (knd.pyHash (k := k) isk ?_))
    refine sg_add (knd := knd) (s := { s' with toks := s'.toks + 1 }) isk sck hS' few fun _ h' sb hS2 => ?_
    have hS3 : SG knd h' S (ks.take (i + 1)) := by
      rw [tk]
      exact hS2
    have away : ∀ b, b ≠ S → ∀ o, s'.heap.get? b = some o → h'.get? b = some o := fun b z o e => (sb.2 b z).trans e
    refine wpAny_pure ⟨plainId_quiet PyProof.Rows.F.plain_set_update_loop _, ih (i + 1) _ (by omega) lt ?_ hS3 fun s'' mv' hS4 => out s'' ?_ hS4⟩
    · exact W.frame _ s' _ _ st' (Nat.le_succ _) fun b hb o e => away b (fun z => nS (z ▸ hb)) o e
    · exact Moved.trans W.gtrans ((mv.mono inW).then_heap (Nat.le_succ _) fun b o hb e => away b (fun z => hb (z ▸ List.mem_cons_self)) o e) mv'
end
section
variable {prog : Program} {w : World} {κ : Type} [DecidableEq κ] {knd : KeyKind prog w κ} {A : Around} {E : Value → Shared → Prop} {s : Shared}
theorem code_set_ledG (a : Value) {led : Bool} (hled : led = !w.params.followText "set-order") {Q₁ : Value → Shared → Prop} (fin : Q₁ (.ref s.heap.objs.size) { s with heap := s.heap.push (emptySet led) }) :
    codeAny (model prog w) A (.call (.builtin "set.__new__") ⟨[.type "set", a], []⟩) (wants Q₁ E) s := by
  subst hled
  refine codeAny_of_tree (show wpAny _ A.in1 (do
    checkBuiltinCall "set.__new__" ⟨[.type "set", a], []⟩
    again (.builtin "set.__new__" ⟨[.type "set", a], []⟩)) _ _ s from wpAny_bind (wpAny_of_eq (PySem.F.newCall_set_1 a) (wpAny_pure ⟨plainId_quiet PySem.F.plain_set_new _, codeAny_builtin PySem.F.entry_set_new ?_⟩)))
  rw [Around.under_plainId PySem.F.plain_set_new _]
  unfold Builtin.«set.__new__» Builtin.Frozenset.newClass
  have self_sub := PySem.sub_set_self
  obtain ⟨h1, g1, d1, t1, o1⟩ := s
  dsimp only
  wp_walk
  refine wpAny_askSetting (wpAny_pure ?_)
  dsimp only
  simp only [newObj]
  exact wpAny_bind (wpAny_alloc (wpAny_pure (wpAny_pure fin)))
set_option maxHeartbeats 3200000 in
theorem setG_list {l : Addr} {items : Array Value} {ks : List κ} {Q : Value → Shared → Prop} (hh : A.handled = none) (hl : s.heap.IsList l items) (hk : Carry knd items ks) (room : items.size + 1 < scanBound)
    (h : ∀ (h' : Heap) (tk : Nat), SG knd h' s.heap.objs.size ks → (∀ b o, s.heap.get? b = some o → h'.get? b = some o) → Q (.ref s.heap.objs.size) { s with heap := h', toks := tk }) :
    wpAny (model prog w) A (call (.type "set") [.ref l]) Q E s := by
  obtain ⟨led, hled⟩ : ∃ led : Bool, led = !w.params.followText "set-order" := ⟨_, rfl⟩
  obtain ⟨_, _, m1⟩ := PySem.F.called_set.mro
  have m2 := PySem.F.called_set.made
  have m3 := PySem.F.called_set.sub
  have m4 := PySem.F.called_set.notType
  have m5 := PySem.F.called_set.canCreate
  have m6 := PySem.F.typeCall_set_1 (.ref l)
  refine wpAny_call (codeAny_of_tree (wpAny_pure ⟨Code.quiet_builtin _ (by decide +kernel), codeAny_builtin PySem.F.entry_type_call ?_⟩))
  rw [Around.under_plain (weight_type_call_type "set" [.ref l] []) rfl]
  repeat (any_goals (first | assumption | wp_step))
  refine codeAny_mono (code_set_ledG (.ref l) hled (E := E) (Q₁ := fun ob s₁ => ob = .ref s.heap.objs.size ∧ s₁ = { s with heap := s.heap.push (emptySet led) }) ⟨rfl, rfl⟩) fun r s₁ made => ?_
  cases r with
  | error _ => exact made
  | ok fl => cases fl with
    | next => exact made.elim
    | brk => exact made.elim
    | cont => exact made.elim
    | ret ob =>
      obtain ⟨rfl, rfl⟩ := made
      have at1 : (s.heap.push (emptySet led)).get? s.heap.objs.size = some (emptySet led) := Heap.get?_push_size _ rfl
      have ty1 : Shared.TypeIs { s with heap := s.heap.push (emptySet led) } (.ref s.heap.objs.size) "set" := ⟨_, at1, rfl⟩
      have i1 := PySem.F.called_set.init.lookup
      have i2 := PySem.F.called_set.init.bind (.ref s.heap.objs.size)
      repeat (any_goals (first | assumption | wp_step))
      refine codeAny_mono (codeAny_call_builtin (R := wants (fun r s₂ => r = .none ∧ ∃ h' tk, s₂ = { s with heap := h', toks := tk } ∧ SG knd h' s.heap.objs.size ks ∧ ∀ b o, s.heap.get? b = some o → h'.get? b = some o) E)
        PySem.F.called_set.init.plain PySem.F.entry_set_init (check_set_init_1 ty1 ?_)) fun r₂ s₂ done => ?_
      · obtain ⟨⟨_, od, _, osl⟩, hol, hcl, nl, hdl⟩ := hl
        simp only at hcl hdl
        subst hcl hdl
        have at2 : (s.heap.push (emptySet led)).get? l = some { cls := .type "list", dict := od, data := .seq items nl, slots := osl } := Heap.get?_push_of_some _ hol
        have hl1 : (s.heap.push (emptySet led)).IsList l items := ⟨_, at2, rfl, nl, rfl⟩
        have j1 := PySem.F.sub_list_set
        have j2 := PySem.F.sub_list_frozenset
        have j3 : (Value.type "list" == Value.type "dict") = false := by decide
        unfold Builtin.«set.__init__» noKeywords Builtin.Frozenset.updateFrom
        generalize hPI : pyIter = PI
        wp_walk
        subst hPI
        refine wpAny_pyIter_list hl1 (wpAny_bind (wpAny_runValue ?_))
        have lt1 := Heap.lt_size hol
        have sz : (s.heap.push (emptySet led)).objs.size = s.heap.objs.size + 1 := Heap.size_push _ _
        have hh3 : A.in1.in1.in1.handled = none := by simp [hh]
        have W := (Walks.list (prog := prog) (w := w) hh3 (s.heap.push (emptySet led)).objs.size l (by rw [sz]; exact Nat.ne_of_lt (Nat.lt_succ_of_lt lt1)) items).toS
        refine fillG (knd := knd) W s.heap.objs.size ?off ks hk.1 (fun i v e => hk.2 i v e) room (fun _ _ _ _ _ => trivial) (items.size - 0) 0 _ (by omega) (Nat.zero_le _) ⟨⟨_, Heap.get?_push_size _ rfl, rfl, rfl⟩, hl1.push _⟩ ?h0 ?fin
        case off =>
          rw [sz]
          intro z
          rcases List.mem_cons.mp z with z | z
          · exact Nat.ne_of_lt (Nat.lt_succ_self _) z
          · exact Nat.ne_of_gt lt1 (List.mem_singleton.mp z)
        case h0 => exact sg_fresh (hled ▸ Heap.get?_push_of_some _ at1)
        case fin =>
          rintro ⟨h', g', d', tk', os'⟩ mv hS
          obtain rfl : g' = s.gens := mv.gens
          obtain rfl : d' = s.drawn := mv.drawn
          obtain rfl : os' = s.os := mv.os
          refine wpAny_pure (wpAny_pure ⟨rfl, h', tk', rfl, hS, fun b o e => ?_⟩)
          have lb := Heap.lt_size e
          refine mv.heap b o ?_ (Heap.get?_push_of_some _ (Heap.get?_push_of_some _ e))
          rw [sz]
          intro z
          rcases List.mem_cons.mp z with z | z
          · exact Nat.ne_of_lt lb z
          · exact Nat.ne_of_lt (Nat.lt_succ_of_lt lb) (List.mem_singleton.mp z)
      · cases r₂ with
        | error _ => exact done
        | ok fl₂ => cases fl₂ with
          | ret r =>
            obtain ⟨rfl, h', tk, rfl, hS, kept⟩ := done
            repeat (any_goals (first | assumption | wp_step))
            exact h _ _ hS kept
          | next => exact done.elim
          | brk => exact done.elim
          | cont => exact done.elim
set_option maxHeartbeats 3200000 in
theorem setG_tuple {l : Addr} {items : Array Value} {ks : List κ} {Q : Value → Shared → Prop} (hh : A.handled = none) (hl : s.heap.IsTuple l items) (hk : Carry knd items ks) (room : items.size + 1 < scanBound)
    (h : ∀ (h' : Heap) (tk : Nat), SG knd h' s.heap.objs.size ks → (∀ b o, s.heap.get? b = some o → h'.get? b = some o) → Q (.ref s.heap.objs.size) { s with heap := h', toks := tk }) :
    wpAny (model prog w) A (call (.type "set") [.ref l]) Q E s := by
  obtain ⟨led, hled⟩ : ∃ led : Bool, led = !w.params.followText "set-order" := ⟨_, rfl⟩
  obtain ⟨_, _, m1⟩ := PySem.F.called_set.mro
  have m2 := PySem.F.called_set.made
  have m3 := PySem.F.called_set.sub
  have m4 := PySem.F.called_set.notType
  have m5 := PySem.F.called_set.canCreate
  have m6 := PySem.F.typeCall_set_1 (.ref l)
  refine wpAny_call (codeAny_of_tree (wpAny_pure ⟨Code.quiet_builtin _ (by decide +kernel), codeAny_builtin PySem.F.entry_type_call ?_⟩))
  rw [Around.under_plain (weight_type_call_type "set" [.ref l] []) rfl]
  repeat (any_goals (first | assumption | wp_step))
  refine codeAny_mono (code_set_ledG (.ref l) hled (E := E) (Q₁ := fun ob s₁ => ob = .ref s.heap.objs.size ∧ s₁ = { s with heap := s.heap.push (emptySet led) }) ⟨rfl, rfl⟩) fun r s₁ made => ?_
  cases r with
  | error _ => exact made
  | ok fl => cases fl with
    | next => exact made.elim
    | brk => exact made.elim
    | cont => exact made.elim
    | ret ob =>
      obtain ⟨rfl, rfl⟩ := made
      have at1 : (s.heap.push (emptySet led)).get? s.heap.objs.size = some (emptySet led) := Heap.get?_push_size _ rfl
      have ty1 : Shared.TypeIs { s with heap := s.heap.push (emptySet led) } (.ref s.heap.objs.size) "set" := ⟨_, at1, rfl⟩
      have i1 := PySem.F.called_set.init.lookup
      have i2 := PySem.F.called_set.init.bind (.ref s.heap.objs.size)
      repeat (any_goals (first | assumption | wp_step))
      refine codeAny_mono (codeAny_call_builtin (R := wants (fun r s₂ => r = .none ∧ ∃ h' tk, s₂ = { s with heap := h', toks := tk } ∧ SG knd h' s.heap.objs.size ks ∧ ∀ b o, s.heap.get? b = some o → h'.get? b = some o) E)
        PySem.F.called_set.init.plain PySem.F.entry_set_init (check_set_init_1 ty1 ?_)) fun r₂ s₂ done => ?_
      · obtain ⟨⟨_, od, _, osl⟩, hol, hcl, nl, hdl⟩ := hl
        simp only at hcl hdl
        subst hcl hdl
        have at2 : (s.heap.push (emptySet led)).get? l = some { cls := .type "tuple", dict := od, data := .seq items nl, slots := osl } := Heap.get?_push_of_some _ hol
        have hl1 : (s.heap.push (emptySet led)).IsTuple l items := ⟨_, at2, rfl, nl, rfl⟩
        have j1 := PySem.F.sub_tuple_set
        have j2 := PySem.F.sub_tuple_frozenset
        have j3 : (Value.type "tuple" == Value.type "dict") = false := by decide
        unfold Builtin.«set.__init__» noKeywords Builtin.Frozenset.updateFrom
        generalize hPI : pyIter = PI
        wp_walk
        subst hPI
        refine wpAny_pyIter_tuple hl1 (wpAny_bind (wpAny_runValue ?_))
        have lt1 := Heap.lt_size hol
        have sz : (s.heap.push (emptySet led)).objs.size = s.heap.objs.size + 1 := Heap.size_push _ _
        have hh3 : A.in1.in1.in1.handled = none := by simp [hh]
        have W := (Walks.tuple (prog := prog) (w := w) hh3 (s.heap.push (emptySet led)).objs.size l (by rw [sz]; exact Nat.ne_of_lt (Nat.lt_succ_of_lt lt1)) items).toS
        refine fillG (knd := knd) W s.heap.objs.size ?off ks hk.1 (fun i v e => hk.2 i v e) room (fun _ _ _ _ _ => trivial) (items.size - 0) 0 _ (by omega) (Nat.zero_le _) ⟨⟨_, Heap.get?_push_size _ rfl, rfl, rfl⟩, hl1.push _⟩ ?h0 ?fin
        case off =>
          rw [sz]
          intro z
          rcases List.mem_cons.mp z with z | z
          · exact Nat.ne_of_lt (Nat.lt_succ_self _) z
          · exact Nat.ne_of_gt lt1 (List.mem_singleton.mp z)
        case h0 => exact sg_fresh (hled ▸ Heap.get?_push_of_some _ at1)
        case fin =>
          rintro ⟨h', g', d', tk', os'⟩ mv hS
          obtain rfl : g' = s.gens := mv.gens
          obtain rfl : d' = s.drawn := mv.drawn
          obtain rfl : os' = s.os := mv.os
          refine wpAny_pure (wpAny_pure ⟨rfl, h', tk', rfl, hS, fun b o e => ?_⟩)
          have lb := Heap.lt_size e
          refine mv.heap b o ?_ (Heap.get?_push_of_some _ (Heap.get?_push_of_some _ e))
          rw [sz]
          intro z
          rcases List.mem_cons.mp z with z | z
          · exact Nat.ne_of_lt lb z
          · exact Nat.ne_of_lt (Nat.lt_succ_of_lt lb) (List.mem_singleton.mp z)
      · cases r₂ with
        | error _ => exact done
        | ok fl₂ => cases fl₂ with
          | ret r =>
            obtain ⟨rfl, h', tk, rfl, hS, kept⟩ := done
            repeat (any_goals (first | assumption | wp_step))
            exact h _ _ hS kept
          | next => exact done.elim
          | brk => exact done.elim
          | cont => exact done.elim
end
end FBS
/-! FWA3: sorted(a set of texts) -/
namespace FBS
open PySem PySem.Spec L2 PyProof.Rows
/-! ### texts in order -/
def tv : Value → List Nat
  | .str x _ => x.cps.toList
  | _ => []
def ltT (v u : Value) : Bool := decide (tv v < tv u)
theorem swo_text : SrtO.Swo ltT := by
  refine ⟨fun x y h => ?_, fun x y z h1 h2 => ?_⟩
  · have a := of_decide_eq_true (p := tv x < tv y) h
    exact decide_eq_false (p := tv y < tv x) fun b => List.lt_irrefl _ (List.lt_trans a b)
  · have a := of_decide_eq_false (p := tv y < tv x) h1
    have b := of_decide_eq_false (p := tv z < tv y) h2
    exact decide_eq_false (p := tv z < tv x) fun c => by
      rcases PyProof.Rows.strKind.negTrans (tv z) (tv y) (tv x) (decide_eq_true c) with k | k
      · exact b (of_decide_eq_true k)
      · exact a (of_decide_eq_true k)
def AllT (vs : List Value) : Prop := ∀ v ∈ vs, ∃ (x : Str) (t : Tok), v = Value.str x t
section
variable {prog : Program} {w : World} {A : Around} {E : Value → Shared → Prop} {s : Shared}
theorem firsts_T : ∀ {vs : List Value}, AllT vs → vs.mapM firstOfTuple' = pure (vs.map fun _ => none)
  | [], _ => by simp
  | v :: r, h => by
    obtain ⟨x, t, rfl⟩ := h v (List.mem_cons_self ..)
    rw [List.mapM_cons, firsts_T fun u hu => h u (List.mem_cons_of_mem _ hu)]
    show (pure none >>= fun b => pure _ >>= fun bs => pure (b :: bs)) = _
    simp
theorem types_T : ∀ {vs : List Value}, AllT vs → vs.mapM typeOf = pure (vs.map fun _ => Value.type "str")
  | [], _ => by simp
  | v :: r, h => by
    obtain ⟨x, t, rfl⟩ := h v (List.mem_cons_self ..)
    rw [List.mapM_cons, types_T fun u hu => h u (List.mem_cons_of_mem _ hu)]
    show (pure (Value.type "str") >>= fun b => pure _ >>= fun bs => pure (b :: bs)) = _
    simp
theorem kind_T {u v : Value} {vs : List Value} (h : AllT (u :: v :: vs)) : keyKind' (u :: v :: vs).toArray = pure oneType' := by
  rw [keyKind'_eq, List.mapM_toArray, firsts_T h]
  simp only [map_pure, pure_bind]
  rw [if_neg (by simp), if_neg (by simp), oneTypeOnly'_eq, List.mapM_toArray, types_T h]
  simp only [map_pure, pure_bind]
  have same : ((List.map (fun _ => Value.type "str") (u :: v :: vs)).toArray.all fun x => x == Value.type "str") = true := by
    rw [List.all_toArray, List.all_map, List.all_eq_true]
    exact fun _ _ => rfl
  have first : (List.map (fun _ => Value.type "str") (u :: v :: vs)).toArray[0]? = some (Value.type "str") := by simp
  rw [first]
  simp only [same, if_true, pure_bind, Option.isSome_some]
theorem sortable_T {a : Addr} {vs : List Value} (h : AllT vs) (h2 : 2 ≤ vs.length) : SrtO.SortableO prog w A s a vs ltT := by
  intro h' _
  refine ⟨oneType', fun Q E hq => ?_, fun p q hm hm' => ?_⟩
  · match vs, h, h2 with
    | u :: v :: r, h, _ =>
      rw [kind_T h]
      exact wpAny_pure hq
    | [], _, z => exact absurd z (by decide)
    | [v], _, z => exact absurd z (by simp)
  · obtain ⟨x, t, e⟩ := h _ hm
    obtain ⟨y, u, e'⟩ := h _ hm'
    show wpAny (model prog w) A (keyLt' oneType' p.1 q.1) (fun r s' => s' = _ ∧ r = ltT p.1 q.1) (fun _ _ => False) _
    rw [e, e', keyLt'_oneType]
    exact oneLt_str ⟨rfl, rfl⟩
/-- the texts of values -/
def txt : Value → Str
  | .str x _ => x
  | _ => Str.empty
theorem isStr_eq {y z : Str} {u : Tok} (h : keyIs (.inr y) (.str z u) = true) : z = y := by
  have h : Value.isStrOf y (.str z u) = true := h
  simp only [Value.isStrOf] at h
  first | exact (eq_of_beq h) | exact (eq_of_beq h).symm | exact of_decide_eq_true h
theorem nub_nd {α : Type} [DecidableEq α] (l : List α) : (nub l).Nodup := by
  induction l using snocInd with
  | h0 => exact List.nodup_nil
  | hs l k ih =>
    rw [nub_snoc]
    by_cases h : k ∈ nub l
    · rw [if_pos h]; exact ih
    · rw [if_neg h, List.nodup_append]
      refine ⟨ih, by simp, fun a ha b hb e => ?_⟩
      rw [List.mem_singleton.mp hb] at e
      subst e
      exact h ha
theorem nd_len {α : Type} [DecidableEq α] : ∀ (l m : List α), l.Nodup → (∀ x ∈ l, x ∈ m) → l.length ≤ m.length
  | [], m, _, _ => by simp
  | x :: r, m, h1, h2 => by
    obtain ⟨n1, n2⟩ := List.nodup_cons.mp h1
    have hx := h2 x (List.mem_cons_self ..)
    have ih := nd_len r (m.erase x) n2 fun y hy => (List.mem_erase_of_ne (fun e => by subst e; exact n1 hy)).mpr (h2 y (List.mem_cons_of_mem _ hy))
    rw [List.length_erase_of_mem hx] at ih
    have : 0 < m.length := List.length_pos_of_mem hx
    rw [List.length_cons]
    omega
theorem nub_same {α : Type} [DecidableEq α] {l m : List α} (h : ∀ x, x ∈ l ↔ x ∈ m) : (nub l).length = (nub m).length :=
  Nat.le_antisymm (nd_len _ _ (nub_nd l) fun x hx => (mem_nub m x).mpr ((h x).mp ((mem_nub l x).mp hx))) (nd_len _ _ (nub_nd m) fun x hx => (mem_nub l x).mpr ((h x).mpr ((mem_nub m x).mp hx)))
theorem nub_inr (ys : List Str) : (nub (ys.map (Sum.inr : Str → Key))).length = (nub ys).length := by
  induction ys using snocInd with
  | h0 => rfl
  | hs l k ih =>
    rw [List.map_append, List.map_singleton, nub_snoc, nub_snoc]
    have e : (Sum.inr k : Key) ∈ nub (l.map (Sum.inr : Str → Key)) ↔ k ∈ nub l := by
      rw [mem_nub, mem_nub]
      simp
    by_cases h : k ∈ nub l
    · rw [if_pos h, if_pos (e.mpr h), ih]
    · rw [if_neg h, if_neg fun z => h (e.mp z), List.length_append, List.length_append, ih]
      rfl
/-- sorted(s), s a set of texts -/
theorem sorted_T {S : Addr} {ks : List Key} (ys : List Str) {Q : Value → Shared → Prop} (ek : ks = ys.map Sum.inr) (R : SG (mixKind prog w) s.heap S ks) (hh : A.handled = none) (few : (nub ks).length ≤ 1000)
    (fin : ∀ (s' : Shared) (p : Addr) (out : List Value) (c : Nat), (∀ b o, s.heap.get? b = some o → s'.heap.get? b = some o) → s'.gens = s.gens → s'.os = s.os → s.heap.objs.size ≤ p → s'.heap.get? p = some (seqObj "list" out.toArray c) →
      AllT out → (out.map tv).Pairwise (· < ·) → (∀ y, y ∈ out.map txt ↔ y ∈ ys) → Q (.ref p) s') :
    wpAny (model prog w) A (call (.builtin "sorted") [.ref S]) Q E s := by
  subst ek
  obtain ⟨o, xs, n, t, ho, hx, hd, el, mm, b0, f0, n0, r0, l0⟩ := R
  refine Calls.call_function_entry kind_sorted plain_sorted entry_sorted (args_sorted1 _) ?_
  unfold Builtin.«sorted»
  refine wpAny_bind (m := checkCount "sorted" 1 1 _) (wpAny_pure (wpAny_bind (collect_set (A := A.in1) hh ⟨o, ho, hx.1, hd⟩ f0 b0 r0 l0 fun s1 vs k1 z1 g1 o1 pm => ?_)))
  have lv : vs.length = (nub (ys.map (Sum.inr : Str → Key))).length := by
    rw [pm.length_eq, List.length_map, Array.length_toList, n0]
  have keyOf : ∀ e ∈ xs.toList, ∃ k, (mixKind prog w).is k e.2 = true := fun e he => by
    obtain ⟨⟨k, q, _⟩, _⟩ := el e he
    exact ⟨k, q⟩
  have strOf : ∀ e ∈ xs.toList, ∃ (y : Str) (u : Tok), e.2 = Value.str y u ∧ y ∈ ys := fun e he => by
    obtain ⟨k, q⟩ := keyOf e he
    have hk := (mm k).mpr ⟨e, he, q⟩
    obtain ⟨y, hy, rfl⟩ := List.mem_map.mp hk
    have : keyIs (.inr y) e.2 = true := q
    generalize e.2 = v at this
    cases v with
    | str z u =>
      have e2 : z = y := isStr_eq this
      subst e2
      exact ⟨z, u, rfl, hy⟩
    | _ => cases this
  have allT : AllT vs := fun v hv => by
    obtain ⟨e, he, q⟩ := List.mem_map.mp (pm.mem_iff.mp hv)
    obtain ⟨y, u, e1, _⟩ := strOf e he
    exact ⟨y, u, by rw [← q, e1]⟩
  have mem : ∀ y, y ∈ vs.map txt ↔ y ∈ ys := fun y => by
    constructor
    · intro h
      obtain ⟨v, hv, rfl⟩ := List.mem_map.mp h
      obtain ⟨e, he, q⟩ := List.mem_map.mp (pm.mem_iff.mp hv)
      obtain ⟨z, u, e1, hz⟩ := strOf e he
      rw [← q, e1]
      exact hz
    · intro h
      obtain ⟨e, he, q⟩ := (mm (.inr y)).mp (List.mem_map.mpr ⟨y, h, rfl⟩)
      obtain ⟨z, u, e1, hz⟩ := strOf e he
      have : keyIs (.inr y) e.2 = true := q
      rw [e1] at this
      have e2 : z = y := isStr_eq this
      subst e2
      exact List.mem_map.mpr ⟨e.2, pm.mem_iff.mpr (List.mem_map.mpr ⟨e, he, rfl⟩), by rw [e1]; rfl⟩
  have nd : (vs.map txt).Nodup := by
    rw [← FB.nub_nodup, nub_same mem, List.length_map, lv, nub_inr]
  have hz : vs.length ≤ sizeLine := by
    have : 1000 ≤ sizeLine := by decide
    omega
  refine wpAny_bind (wpAny_newList ?_ hz)
  have hoL : (s1.heap.push (seqObj "list" vs.toArray 0)).get? s1.heap.objs.size = some (seqObj "list" vs.toArray 0) := Heap.get?_push_size _ rfl
  refine wpAny_bind (wpAny_holding (wpAny_call_entry slot_list_sort ⟨_, hoL, rfl⟩ entry_list_sort (SrtO.list_sort_ord swo_text hoL hz (fun h2 => sortable_T allT h2) fun out hs hb => ⟨_, rfl, ?_⟩) (args_list_sort _)))
  obtain ⟨c, hc⟩ := sortedHeap_at (vs := vs) (out := out.toArray) hoL
  refine wpAny_pure ⟨_, rfl, fin _ s1.heap.objs.size out c (fun b u e => ?_) g1 o1 z1 hc (fun v hv => allT v (hb.perm.mem_iff.mp hv)) ?_ fun y => ?_⟩
  · have q := k1 b u e
    have lt := Heap.lt_size q
    refine Eq.trans (sortedHeap_old (h := s1.heap.push (seqObj "list" vs.toArray 0)) (Nat.ne_of_lt lt) (by rw [size_push']; exact Nat.lt_succ_of_lt lt)) (Heap.get?_push_of_some _ q)
  · have ndo : (out.map txt).Nodup := (hb.perm.map txt).nodup_iff.mpr nd
    have allO : AllT out := fun v hv => allT v (hb.perm.mem_iff.mp hv)
    rw [List.pairwise_map]
    have both := List.Pairwise.and hs (List.pairwise_map.mp ndo)
    refine both.imp_of_mem fun {a b} ha hb' ⟨h1, h2⟩ => ?_
    obtain ⟨x, t1, rfl⟩ := allO a ha
    obtain ⟨y, t2, rfl⟩ := allO b hb'
    have g1 : decide (y.cps.toList < x.cps.toList) = false := h1
    cases g2 : decide (x.cps.toList < y.cps.toList) with
    | true => exact of_decide_eq_true g2
    | false =>
      have e := PyProof.Rows.strKind.total x.cps.toList y.cps.toList g2 g1
      exact absurd (show txt (.str x t1) = txt (.str y t2) from TL.ext_tl e) h2
  · rw [← mem y]
    exact (hb.perm.map txt).mem_iff
end
end FBS
/-! FWA4: the reading of sorted(set(texts)) -/
namespace FB
open PySem PySem.Spec L2
/-! ### the sorted texts, each once -/
def ltS (a b : Str) : Prop := a.cps.toList < b.cps.toList
instance (a b : Str) : Decidable (ltS a b) := inferInstanceAs (Decidable (a.cps.toList < b.cps.toList))
theorem ltS_irr (a : Str) : ¬ ltS a a := List.lt_irrefl _
theorem ltS_trans {a b c : Str} (h : ltS a b) (k : ltS b c) : ltS a c := List.lt_trans h k
theorem ltS_tot {a b : Str} (h : ¬ ltS a b) (k : a ≠ b) : ltS b a := by
  by_cases z : ltS b a
  · exact z
  · exact absurd (TL.ext_tl (PyProof.Rows.strKind.total a.cps.toList b.cps.toList (decide_eq_false h) (decide_eq_false z))) k
def insS (y : Str) : List Str → List Str
  | [] => [y]
  | z :: r => if ltS y z then y :: z :: r else if y = z then z :: r else z :: insS y r
def sortS (ys : List Str) : List Str := ys.foldr insS []
theorem mem_insS {x y : Str} : ∀ {l : List Str}, x ∈ insS y l ↔ x = y ∨ x ∈ l
  | [] => by simp [insS]
  | z :: r => by
    unfold insS
    split
    · simp
    · split
      · rename_i h
        subst h
        simp
      · rw [List.mem_cons, mem_insS, List.mem_cons]
        constructor
        · rintro (h | h | h)
          · exact .inr (.inl h)
          · exact .inl h
          · exact .inr (.inr h)
        · rintro (h | h | h)
          · exact .inr (.inl h)
          · exact .inl h
          · exact .inr (.inr h)
theorem mem_sortS {x : Str} : ∀ {l : List Str}, x ∈ sortS l ↔ x ∈ l
  | [] => by simp [sortS]
  | y :: r => by
    show x ∈ insS y (sortS r) ↔ _
    rw [mem_insS, mem_sortS, List.mem_cons]
theorem srt_insS {y : Str} : ∀ {l : List Str}, l.Pairwise ltS → (insS y l).Pairwise ltS
  | [], _ => List.pairwise_singleton _ _
  | z :: r, h => by
    obtain ⟨h1, h2⟩ := List.pairwise_cons.mp h
    unfold insS
    split
    · rename_i k
      refine List.pairwise_cons.mpr ⟨fun a ha => ?_, h⟩
      rcases List.mem_cons.mp ha with e | e
      · exact e ▸ k
      · exact ltS_trans k (h1 a e)
    · rename_i k
      split
      · exact h
      · rename_i k2
        refine List.pairwise_cons.mpr ⟨fun a ha => ?_, srt_insS h2⟩
        rcases mem_insS.mp ha with e | e
        · exact e ▸ ltS_tot k k2
        · exact h1 a e
theorem srt_sortS : ∀ l : List Str, (sortS l).Pairwise ltS
  | [] => List.Pairwise.nil
  | y :: r => srt_insS (srt_sortS r)
theorem srt_eq : ∀ {l m : List Str}, l.Pairwise ltS → m.Pairwise ltS → (∀ x, x ∈ l ↔ x ∈ m) → l = m
  | [], [], _, _, _ => rfl
  | [], z :: r, _, _, h => absurd ((h z).mpr (List.mem_cons_self ..)) (by simp)
  | y :: l, [], _, _, h => absurd ((h y).mp (List.mem_cons_self ..)) (by simp)
  | y :: l, z :: r, h1, h2, h => by
    obtain ⟨a1, a2⟩ := List.pairwise_cons.mp h1
    obtain ⟨b1, b2⟩ := List.pairwise_cons.mp h2
    have e : y = z := by
      rcases List.mem_cons.mp ((h y).mp (List.mem_cons_self ..)) with e | e
      · exact e
      · rcases List.mem_cons.mp ((h z).mpr (List.mem_cons_self ..)) with q | q
        · exact q.symm
        · exact absurd (ltS_trans (a1 z q) (b1 y e)) (ltS_irr y)
    subst e
    refine congrArg (y :: ·) (srt_eq a2 b2 fun x => ⟨fun hx => ?_, fun hx => ?_⟩)
    · rcases List.mem_cons.mp ((h x).mp (List.mem_cons_of_mem _ hx)) with q | q
      · exact absurd (q ▸ a1 x hx) (ltS_irr y)
      · exact q
    · rcases List.mem_cons.mp ((h x).mpr (List.mem_cons_of_mem _ hx)) with q | q
      · exact absurd (q ▸ b1 x hx) (ltS_irr y)
      · exact q
theorem sortS_nd (l : List Str) : (sortS l).Nodup := by
  refine List.Pairwise.imp ?_ (srt_sortS l)
  intro a b h e
  rw [e] at h
  exact ltS_irr b h
theorem sortS_len (l : List Str) : (sortS l).length ≤ l.length := FBS.nd_len _ _ (sortS_nd l) fun x hx => mem_sortS.mp hx
/-! ### the judgement -/
def tSS (K : PySem.W.Frag) (ta : TE) : TE := fun σ H Q => ta σ H fun x H1 => ∃ l, ∃ ys : List Str, x = .ref l ∧ (SqL K H1 l (ys.map V.str) ∨ SqT K H1 l (ys.map V.str)) ∧ ys.length ≤ 1000 ∧ ∀ p, H1 p = none → Q (.ref p) (upd H1 p (.lst ((sortS ys).map V.str)))
section
variable {X : Cx} {W : WX} {a : Expr} {ta : TE} {f : ME} {p p2 q pos : Pos}
theorem vals_txt : ∀ {out : List Value}, FBS.AllT out → Vals ((out.map FBS.txt).map V.str) out
  | [], _ => .nil
  | v :: r, h => by
    obtain ⟨x, t, rfl⟩ := h v (List.mem_cons_self ..)
    exact .cons ⟨t, rfl⟩ (vals_txt fun u hu => h u (List.mem_cons_of_mem _ hu))
theorem tv_txt : ∀ {out : List Value}, FBS.AllT out → out.map FBS.tv = (out.map FBS.txt).map (·.cps.toList)
  | [], _ => rfl
  | v :: r, h => by
    obtain ⟨x, t, rfl⟩ := h v (List.mem_cons_self ..)
    rw [List.map_cons, List.map_cons, List.map_cons, tv_txt fun u hu => h u (List.mem_cons_of_mem _ hu)]
    rfl
theorem pe_SS (hc : X.calm = true) (hm : X.mg "sorted" = none) (hm2 : X.mg "set" = none) (ha : PE X a ta) (hg : Gl X "sorted") (hg2 : Gl X "set") (na : starEach [a] X.env = (false, eval a X.env) :: starEach [] X.env) :
    PE X (.Call (.Name "sorted" p) [.Call (.Name "set" p2) [a] [] q] [] pos) (tSS X.K ta) := by
  refine ⟨fun pins s σ H Q I h => ?_⟩
  refine PyProof.Rows.Call_ (ld_blt I hg hm PyProof.Rows.boot_sorted (PyProof.Rows.callWith_builtin1 (PyProof.Rows.args_cons ?_ rfl) rfl rfl))
  refine PyProof.Rows.Call_ (ld_blt I hg2 hm2 PyProof.Rows.boot_set (PyProof.Rows.callWith_type1 (PyProof.Rows.args_cons (thn (ha.run pins s σ H _ I h) fun v s1 ⟨x, H1, I1, r1, q1⟩ => PyProof.Rows.args_nil ?_) na) na rfl))
  obtain ⟨l, ys, rfl, hq, hl, q1⟩ := q1
  cases r1
  have hl2 : (ys.map (Sum.inr : Str → Key)).length ≤ 1000 := by rw [List.length_map]; exact hl
  have last : ∀ (h' : Heap) (tk : Nat), FBS.SG (mixKind X.prog X.w) h' s1.heap.objs.size (ys.map (Sum.inr : Str → Key)) → (∀ b o, s1.heap.get? b = some o → h'.get? b = some o) →
      wpAny (model X.prog X.w) X.A (spliced (backTo pos (starEach [] X.env))) (fun vs s₂ => wpAny (model X.prog X.w) X.A (call (.builtin "sorted") (Value.ref s1.heap.objs.size :: vs)) (EP X pins σ Q) X.xe s₂) X.xe { s1 with heap := h', toks := tk } := fun h' tk hS kept => by
    have I2 : Inv X pins σ H1 { s1 with heap := h', toks := tk } := I1.kept kept
    refine PyProof.Rows.args_nil (FBS.sorted_T (s := { s1 with heap := h', toks := tk }) ys rfl hS (I2.ok.hd hc) (Nat.le_trans (FBS.nub_length_le _) hl2) fun s' r out c k g o hp hr allT srt mem => ?_)
    have e1 : out.map FBS.txt = sortS ys := srt_eq (by
      rw [tv_txt allT, List.pairwise_map] at srt
      exact srt) (srt_sortS ys) fun x => (mem x).trans mem_sortS.symm
    have hn : H1 r = none := I2.hok.fresh hp
    have hlen : ((sortS ys).map V.str).length ≤ sizeLine := by
      rw [List.length_map]
      have := sortS_len ys
      have : 1000 ≤ sizeLine := by decide
      omega
    have vals : Vals ((sortS ys).map V.str) out := e1 ▸ vals_txt allT
    have J : Inv X pins σ (upd H1 r (.lst ((sortS ys).map V.str))) { { s1 with heap := h', toks := tk } with heap := s'.heap, gens := s'.gens, drawn := s'.drawn, toks := s'.toks } :=
      I2.call (ch := []) (Un.laid k hp hn) (I2.hok.laid k hp ⟨hlen, out, c, vals, hr⟩) (by rw [g]; exact I2.bare) (fun _ z => nomatch z)
    have e : s' = { s1 with heap := s'.heap, gens := s'.gens, drawn := s'.drawn, toks := s'.toks } := by
      cases s'
      cases s1
      cases o
      rfl
    rw [e]
    exact ⟨.ref r, _, J, rfl, q1 r hn⟩
  have kmap : (ys.map (Sum.inr : Str → Key)).map kV = ys.map V.str := by rw [List.map_map]; rfl
  rcases hq with hq | hq
  · obtain ⟨its, r, pl, _⟩ := I1.list hq
    have hz : its.toArray.size ≤ 1000 := by rw [List.size_toArray, ← r.length, List.length_map]; exact hl
    exact FBS.setG_list (I1.ok.hd hc) pl.isList (carry_keys (by rw [kmap]; exact r)) (few_scan hz) last
  · obtain ⟨its, r, pl, _⟩ := I1.tuple hq
    have hz : its.toArray.size ≤ 1000 := by rw [List.size_toArray, ← r.length, List.length_map]; exact hl
    exact FBS.setG_tuple (I1.ok.hd hc) pl (carry_keys (by rw [kmap]; exact r)) (few_scan hz) last
def sortD (d : D) : Option (List D) := match itemsD d with
  | none => none
  | some xs => match strsOf xs with
    | none => none
    | some ys => if ys.length ≤ 1000 then some ((sortS ys).map .str) else none
def eSortSet (a : ME) : ME := fun ρ => (a ρ).bind fun u ρ1 => match res ρ1 (hold u) with
  | none => .bad
  | some d => match sortD d with
    | none => .bad
    | some ds => .ok (.nw ds) ρ1
theorem strs_DRs {K : PySem.W.Frag} {F : Hp} (ys : List Str) : DRs K F (ys.map V.str) (ys.map PyData.str) := DRs.texts
theorem se_sortSet (hc : X.calm = true) (hm : X.mg "sorted" = none) (hm2 : X.mg "set" = none) (ha : SE X W a f) (hg : Gl X "sorted" := by rfl) (hg2 : Gl X "set" := by rfl) (na : starEach [a] X.env = (false, eval a X.env) :: starEach [] X.env := by rfl) :
    SE X W (.Call (.Name "sorted" p) [.Call (.Name "set" p2) [a] [] q] [] pos) (eSortSet f) :=
  PE.imp (pe_SS hc hm hm2 ha hg hg2 na) fun σ H Q ⟨C, F, ρ, R, h⟩ => ⟨C, F, ρ, R, Post.bind h fun u ρ1 x F1 H1 s1 R1 r1 h1 => by
    obtain ⟨F2, s2, R2, r2⟩ := VR.hold R1 r1
    have h1 := h1.mono s2
    cases q1 : res ρ1 (hold u) with
    | none => simp only [q1] at h1; exact h1.elim
    | some d =>
      simp only [q1] at h1
      have r3 := r2.res R2 q1
      cases q2 : sortD d with
      | none => simp only [q2] at h1; exact h1.elim
      | some ds =>
        simp only [q2] at h1
        unfold sortD at q2
        match d, r3, q2 with
        | .list xs, r3, q2 =>
          simp only [itemsD] at q2
          cases q3 : strsOf xs with
          | none => simp only [q3] at q2; cases q2
          | some ys =>
            simp only [q3] at q2
            obtain ⟨a, vs, rfl, k1, k2⟩ := r3.list R2
            by_cases hl : ys.length ≤ 1000
            · rw [if_pos hl] at q2
              cases q2
              have e := k2.strs q3
              subst e
              exact ⟨a, ys, rfl, .inl k1, hl, fun p hp => h1 _ F2 _ (Same.refl F2) (R2.alloc hp) (VR.fresh R2 hp (strs_DRs _))⟩
            · rw [if_neg hl] at q2
              cases q2
        | .tuple xs, r3, q2 =>
          simp only [itemsD] at q2
          cases q3 : strsOf xs with
          | none => simp only [q3] at q2; cases q2
          | some ys =>
            simp only [q3] at q2
            obtain ⟨a, vs, rfl, k1, k2, _⟩ := r3.tuple R2
            by_cases hl : ys.length ≤ 1000
            · rw [if_pos hl] at q2
              cases q2
              have e := k2.strs q3
              subst e
              exact ⟨a, ys, rfl, .inr k1, hl, fun p hp => h1 _ F2 _ (Same.refl F2) (R2.alloc hp) (VR.fresh R2 hp (strs_DRs _))⟩
            · rw [if_neg hl] at q2
              cases q2⟩
end
end FB
/-! FWB: [elt for a in x if .. for b in y if ..] -/
namespace FB
open PySem PySem.Spec L2
/-- one turn of the outer clause -/
def lc2Step (b : Bd) (c : MB) (it1 : MI) (b1 : Bd) (c1 : MB) (e : ME) (vs vs1 : List Nat) (d : D) (acc : List D) (ρ : Rho) : Out (List D) := match b d ρ with
  | none => .bad
  | some ρ1 => (c ρ1).bind fun t ρ2 => if t then (it1 ρ2).bind fun ds1 ρ3 => if acc.length + ds1.length ≤ 5000 then (lcG b1 c1 e vs1 ds1 acc (wipeR ρ3 vs1)).bind fun acc' ρ4 => .ok acc' (wipeR ρ4 vs) else .bad
    else .ok acc (wipeR ρ2 vs)
def lc2G (b : Bd) (c : MB) (it1 : MI) (b1 : Bd) (c1 : MB) (e : ME) (vs vs1 : List Nat) : List D → List D → Rho → Out (List D)
  | [], acc, ρ => .ok acc ρ
  | d :: r, acc, ρ => match lc2Step b c it1 b1 c1 e vs vs1 d acc ρ with
    | .ok acc' ρ1 => lc2G b c it1 b1 c1 e vs vs1 r acc' ρ1
    | _ => .bad
def eLc2 (it : MI) (b : Bd) (c : MB) (it1 : MI) (b1 : Bd) (c1 : MB) (e : ME) (vs vs1 : List Nat) : ME := fun ρ => (it ρ).bind fun ds ρ1 => if vs.all (plainAt ρ1) && decide (ds.length ≤ 5000) then match lc2G b c it1 b1 c1 e vs vs1 ds [] (wipeR ρ1 vs) with
    | .ok acc ρ2 => .ok (.nw acc) (restR ρ1 vs ρ2)
    | _ => .bad
  else .bad
section
variable {X : Cx} {W : WX} {pos : Pos} {elt tg iter tg1 iter1 : Expr} {ifs ifs1 : List Expr} {scope : Scope} {own : List (Str × Nat)} {it it1 : MI} {bd bd1 : Bd} {is is1 : List Nat} {gc gc1 : MB} {fe : ME}
theorem lc2Step_ok {K : PySem.W.Frag} {mg : Str → Option Value} {C : Fm} {F : Hp} {ρ : Rho} {σ0 : St} {H : Hp} {x : V} {d : D} {vs vs1 : List Nat} {ρ' : Rho} {Qn : Hp → Prop} {p : Addr} {acc : List V} {accD accD' : List D}
    (R : Rel K (C.guard p acc) F ρ (L2.wipe σ0 vs) H) (hv : ∀ v ∈ vs, C.io v = none) (hsub : ∀ i ∈ is, i ∈ vs) (hv1 : ∀ i ∈ vs1, i ∈ vs) (hsub1 : ∀ i ∈ is1, i ∈ vs1) (hio : ∀ i, C.io i ≠ some p) (hF : C.F0 p = none) (h0 : C.H0 p = none) (ha : DRs K F acc accD) (hx : DR K F x d)
    (e : lc2Step bd gc it1 bd1 gc1 fe vs vs1 d accD ρ = .ok accD' ρ')
    (hN : ∀ F' H' acc', Same F F' → Rel K (C.guard p acc') F' ρ' (L2.wipe σ0 vs) H' → DRs K F' acc' accD' → Qn H') :
    tgG K is bd x (L2.wipe σ0 vs) H fun σ2 H2 => L2.wipe σ2 vs = L2.wipe σ0 vs ∧ tG K mg WN relB gc σ2 H2 fun b H3 =>
      if b = true then tG K mg WN (relI K) it1 σ2 H3 fun J1 H4 => ∃ W1 : Nat → Nat → Hp → Prop, (∃ m, W1 0 m H4) ∧ ∀ j k H, W1 j k H →
        (J1.stop j H ∧ Qn H) ∨ (J1.go j H ∧ ∃ Nx1 : Hp → Prop, (∀ H', Nx1 H' → ∃ k', k' < k ∧ W1 (j + 1) k' H') ∧ ∀ x H', J1.yld j H x H' → tgG K is1 bd1 x (L2.wipe σ2 vs1) H' fun σ3 H5 => L2.wipe σ3 vs1 = L2.wipe σ2 vs1 ∧ tG K mg WN relB gc1 σ3 H5 fun b H6 =>
          if b = true then tG K mg WN (relE K) fe σ3 H6 fun y H7 => ∃ acc, H7 p = some (.lst acc) ∧ acc.length < sizeLine ∧ Nx1 (upd H7 p (.lst (acc ++ [y]))) else Nx1 H6)
      else Qn H3 := by
  unfold lc2Step at e
  refine ⟨C.guard p acc, F, ρ, d, R, hx, ?_⟩
  cases q : bd d ρ with
  | none => simp only [q] at e; cases e
  | some ρ1 =>
    simp only [q] at e
    intro σ2 e2 l2 R2
    have hw : L2.wipe σ2 vs = L2.wipe σ0 vs := (wipe_same vs (fun i hi => e2 i fun z => hi (hsub i z)) l2).trans wipe_idem
    refine ⟨hw, C.guard p acc, F, ρ1, R2, ?_⟩
    have wR : ∀ {F' ρ4 H' a}, Rel K (C.guard p a) F' ρ4 σ2 H' → Rel K (C.guard p a) F' (wipeR ρ4 vs) (L2.wipe σ0 vs) H' := fun {F' ρ4 H' a} R4 => by
      have := R4.wipe vs fun v hv' => R4.ioNo (show (C.guard p a).io v = none from hv v hv')
      rw [hw] at this
      exact this
    cases q1 : gc ρ1 with
    | bad => rw [q1] at e; cases e
    | exc x ρ2 => rw [q1] at e; cases e
    | ok t ρ2 =>
      rw [q1, Out.bind_ok] at e
      intro b F3 H3 s3 R3 hb
      cases hb
      cases t with
      | false =>
        have e : Out.ok accD (wipeR ρ2 vs) = Out.ok accD' ρ' := e
        cases e
        exact hN F3 H3 acc s3 (wR R3) (ha.mono s3)
      | true =>
        have e : ((it1 ρ2).bind fun ds1 ρ3 => if accD.length + ds1.length ≤ 5000 then (lcG bd1 gc1 fe vs1 ds1 accD (wipeR ρ3 vs1)).bind fun acc' ρ4 => .ok acc' (wipeR ρ4 vs) else .bad) = Out.ok accD' ρ' := e
        show tG K mg WN (relI K) it1 σ2 H3 _
        refine ⟨C.guard p acc, F3, ρ2, R3, ?_⟩
        cases q2 : it1 ρ2 with
        | bad => rw [q2] at e; cases e
        | exc x ρ3 => rw [q2] at e; cases e
        | ok ds1 ρ3 =>
          rw [q2, Out.bind_ok] at e
          intro J1 F4 H4 s4 R4 r4
          have I1 : ItOk K J1 F4 ds1 := r4
          by_cases hl : accD.length + ds1.length ≤ 5000
          · rw [if_pos hl] at e
            cases q3 : lcG bd1 gc1 fe vs1 ds1 accD (wipeR ρ3 vs1) with
            | bad => rw [q3] at e; cases e
            | exc x ρ4 => rw [q3] at e; cases e
            | ok res ρ4 =>
              rw [q3, Out.bind_ok] at e
              cases e
              have io1 : ∀ v ∈ vs1, C.io v = none := fun v h => hv v (hv1 v h)
              have R5 : Rel K (C.guard p acc) F4 (wipeR ρ3 vs1) (L2.wipe σ2 vs1) H4 := R4.wipe vs1 fun v h => R4.ioNo (show (C.guard p acc).io v = none from io1 v h)
              have a4 : DRs K F4 acc accD := (ha.mono s3).mono s4
              refine ⟨fun j k H => k = ds1.length - j ∧ j ≤ ds1.length ∧ ∃ F ρ acc2 accE, Same F4 F ∧ Rel K (C.guard p acc2) F ρ (L2.wipe σ2 vs1) H ∧ DRs K F acc2 accE ∧ accE.length ≤ accD.length + j ∧ lcG bd1 gc1 fe vs1 (ds1.drop j) accE ρ = .ok accD' ρ4,
                ⟨ds1.length, by simp, Nat.zero_le _, F4, _, acc, accD, Same.refl F4, R5, a4, Nat.le_refl _, q3⟩, ?_⟩
              rintro j k H5 ⟨rfl, hj, F5, ρ5, acc2, accE, s5, R6, ra, hla, q4⟩
              by_cases hlt : j < ds1.length
              · have ej : ds1[j]? = some ds1[j] := List.getElem?_eq_getElem hlt
                rw [List.drop_eq_getElem_cons hlt] at q4
                unfold lcG at q4
                refine .inr ⟨I1.go j H5 (s5.trans R6.sub) hlt, fun H' => ∃ F ρ acc2 accE, Same F4 F ∧ Rel K (C.guard p acc2) F ρ (L2.wipe σ2 vs1) H' ∧ DRs K F acc2 accE ∧ accE.length ≤ accD.length + (j + 1) ∧ lcG bd1 gc1 fe vs1 (ds1.drop (j + 1)) accE ρ = .ok accD' ρ4,
                  fun H' ⟨F, ρ, a1, a2, c1, c2, c3, c4, c5⟩ => ⟨ds1.length - (j + 1), by omega, rfl, hlt, F, ρ, a1, a2, c1, c2, c3, c4, c5⟩, fun y H' hy => ?_⟩
                obtain ⟨F6, s6, R7, r7⟩ := R6.step s5 (I1.yld j H5 y H' (s5.trans R6.sub) hy _ ej)
                cases q5 : lcTurn bd1 gc1 fe vs1 ds1[j] ρ5 with
                | bad => rw [q5] at q4; cases q4
                | exc x ρ6 => rw [q5] at q4; cases q4
                | ok o ρ6 =>
                  have hacc : acc2.length < 5000 := by
                    rw [ra.length]
                    omega
                  refine lcTurn_ok (mg := mg) R7 io1 hsub1 hio hF h0 (ra.mono s6) r7 hacc q5 (fun F' H' s R ho => ?_) (fun F' H' z v s ho rz R => ?_)
                  · subst ho
                    rw [q5] at q4
                    exact ⟨F', ρ6, acc2, accE, (s5.trans s6).trans s, R, (ra.mono s6).mono s, by omega, q4⟩
                  · subst ho
                    rw [q5] at q4
                    exact ⟨F', ρ6, acc2 ++ [v], accE ++ [z], (s5.trans s6).trans s, R, ((ra.mono s6).mono s).append (.one rz), by rw [List.length_append]; simp only [List.length_singleton]; omega, q4⟩
              · have ej : j = ds1.length := by omega
                rw [List.drop_eq_nil_of_le (by omega)] at q4
                cases q4
                refine .inl ⟨I1.stop j H5 (s5.trans R6.sub) ej, hN F5 H5 acc2 ((s3.trans s4).trans s5) ?_ ra⟩
                have e9 : L2.wipe (L2.wipe σ2 vs1) vs = L2.wipe σ0 vs := (wipe_same vs (fun i hi => wipe_get fun z => hi (hv1 i z)) (L2.wipe_length σ2 vs1)).trans hw
                have := R6.wipe vs fun v hv' => R6.ioNo (show (C.guard p acc2).io v = none from hv v hv')
                rw [e9] at this
                exact this
          · rw [if_neg hl] at e
            cases e
theorem imp_lc2 {vs1 : List Nat} (hsub : ∀ i ∈ is, i ∈ own.map (·.2)) (hv1 : ∀ i ∈ vs1, i ∈ own.map (·.2)) (hsub1 : ∀ i ∈ is1, i ∈ vs1) (hnd : (own.map (·.2)).Nodup) {σ : St} {H : Hp} {Q : VK} (h : tG X.K X.mg W (relE X.K) (eLc2 it bd gc it1 bd1 gc1 fe (own.map (·.2)) vs1) σ H Q) :
    tLc2 (tG X.K X.mg W (relI X.K) it) (tgG X.K is bd) (tG X.K X.mg WN relB gc) (tG X.K X.mg WN (relI X.K) it1) (tgG X.K is1 bd1) (tG X.K X.mg WN relB gc1) (tG X.K X.mg WN (relE X.K) fe) (own.map (·.2)) vs1 σ H Q := by
  obtain ⟨C, F, ρ, R, h⟩ := h
  exact ⟨C, F, ρ, R, Post.bind h fun ds ρ1 J F1 H1 s1 R1 r1 h1 => by
    have I : ItOk X.K J F1 ds := r1
    generalize hvs : own.map (·.2) = vs at h1 hsub hnd hv1 ⊢
    cases hp : (vs.all (plainAt ρ1) && decide (ds.length ≤ 5000)) with
    | false =>
      have h1 : Post X.K X.mg W C F1 σ (relE X.K C σ) (if (vs.all (plainAt ρ1) && decide (ds.length ≤ 5000)) = true then _ else .bad) Q := h1
      rw [hp] at h1
      exact h1.elim
    | true =>
      have h1 : Post X.K X.mg W C F1 σ (relE X.K C σ) (if (vs.all (plainAt ρ1) && decide (ds.length ≤ 5000)) = true then (match lc2G bd gc it1 bd1 gc1 fe vs vs1 ds [] (wipeR ρ1 vs) with
        | .ok acc ρ2 => .ok (.nw acc) (restR ρ1 vs ρ2)
        | _ => .bad) else .bad) Q := h1
      rw [hp, if_pos rfl] at h1
      obtain ⟨hpl, hlen⟩ := Bool.and_eq_true_iff.mp hp
      have hlen := of_decide_eq_true hlen
      have hpl : ∀ v ∈ vs, plainAt ρ1 v = true := fun v hv => List.all_eq_true.mp hpl v hv
      have hiov : ∀ v ∈ vs, C.io v = none := fun v hv => R1.noIo (plain_io (hpl v hv))
      intro p hpn
      have h0 : C.H0 p = none := R1.hnone hpn
      have hf : F1 p = none := R1.fnone hpn
      have hF : C.F0 p = none := R1.f0none hf
      have hio : ∀ i, C.io i ≠ some p := fun k e => by
        obtain ⟨ys, q⟩ := R1.ios k p e
        obtain ⟨a', ws, q0, q1, _, q4, _⟩ := R1.io k ys q
        rw [e] at q0
        cases q0
        rw [hpn] at q4
        cases q4
      cases q : lc2G bd gc it1 bd1 gc1 fe vs vs1 ds [] (wipeR ρ1 vs) with
      | bad => rw [q] at h1; exact h1.elim
      | exc e ρ' => rw [q] at h1; exact h1.elim
      | ok res ρ2 =>
        rw [q] at h1
        have Rw : Rel X.K (C.guard p []) F1 (wipeR ρ1 vs) (L2.wipe σ vs) (upd H1 p (.lst [])) := by
          have Ra := ((R1.alloc (p := p) (o := .lst []) hpn)).guard (vs := []) h0 hf upd_same (R1.ownNe hpn)
          exact Ra.wipe vs fun v hv => plain_io (hpl v hv)
        refine ⟨fun i m H => m = ds.length - i ∧ i ≤ ds.length ∧ ∃ F ρ acc accD, Same F1 F ∧ Rel X.K (C.guard p acc) F ρ (L2.wipe σ vs) H ∧ DRs X.K F acc accD ∧ lc2G bd gc it1 bd1 gc1 fe vs vs1 (ds.drop i) accD ρ = .ok res ρ2,
          ⟨ds.length, by simp, Nat.zero_le _, F1, wipeR ρ1 vs, [], [], Same.refl F1, Rw, .nil, q⟩, ?_⟩
        rintro i m H ⟨rfl, hil, F2, ρ3, acc, accD, s2, R2, ra, q2⟩
        by_cases hlt : i < ds.length
        · have e : ds[i]? = some ds[i] := List.getElem?_eq_getElem hlt
          have ed : ds.drop i = ds[i] :: ds.drop (i + 1) := List.drop_eq_getElem_cons hlt
          rw [ed] at q2
          unfold lc2G at q2
          refine .inr ⟨I.go i H (s2.trans R2.sub) hlt, fun H' => ∃ F ρ acc accD, Same F1 F ∧ Rel X.K (C.guard p acc) F ρ (L2.wipe σ vs) H' ∧ DRs X.K F acc accD ∧ lc2G bd gc it1 bd1 gc1 fe vs vs1 (ds.drop (i + 1)) accD ρ = .ok res ρ2,
            fun H' ⟨F, ρ, acc, accD, a, b, c, e⟩ => ⟨ds.length - (i + 1), by omega, rfl, hlt, F, ρ, acc, accD, a, b, c, e⟩, fun x H' y => ?_⟩
          obtain ⟨F3, s3, R3, r3⟩ := R2.step s2 (I.yld i H x H' (s2.trans R2.sub) y _ e)
          cases q3 : lc2Step bd gc it1 bd1 gc1 fe vs vs1 ds[i] accD ρ3 with
          | bad => rw [q3] at q2; cases q2
          | exc e ρ' => rw [q3] at q2; cases q2
          | ok accE ρ4 =>
            rw [q3] at q2
            exact lc2Step_ok (mg := X.mg) R3 hiov hsub hv1 hsub1 hio hF h0 (ra.mono s3) r3 q3 fun F' H' acc' s R r => ⟨F', ρ4, acc', accE, (s2.trans s3).trans s, R, r, q2⟩
        · have e : i = ds.length := by omega
          have ed : ds.drop i = [] := List.drop_eq_nil_of_le (by omega)
          rw [ed] at q2
          cases q2
          refine .inl ⟨I.stop i H (s2.trans R2.sub) e, ?_⟩
          obtain ⟨g1, g2, g3⟩ := R2.guarded hio hF
          have hio2 : ∀ v ∈ vs, isIo ρ2 v = false := fun v hv => R2.ioNo (show (C.guard p acc).io v = none from hiov v hv)
          have R4 : Rel X.K C F2 (restR ρ1 vs ρ2) σ H := R1.restore s2 vs ρ2 hnd hpl hio2 (R2.unguard h0)
          refine h1 (.ref p) F2 H s2 R4 ⟨p, acc, rfl, h0, g2, g1, ra, fun j hj ej => ?_⟩
          obtain ⟨a, ws, xs, k1, k2, k3, k4, k5⟩ := R4.ownAt hj
          rw [ej] at k1
          cases k1
          by_cases hjv : j ∈ vs
          · -- a wiped slot is plain
            have key : ∀ (vs : List Nat) (ρ : Rho), vs.Nodup → j ∈ vs → (restR ρ1 vs ρ).length = ρ.length ∧ (j < ρ.length → (restR ρ1 vs ρ)[j]? = some (ρ1.getD j .no)) := by
              intro vs
              induction vs with
              | nil => intro ρ _ hj; cases hj
              | cons v vs ih =>
                intro ρ nd hj
                have nd := List.nodup_cons.mp nd
                have lenR : ∀ (vs : List Nat) (ρ : Rho), (restR ρ1 vs ρ).length = ρ.length := by
                  intro vs
                  induction vs with
                  | nil => intro ρ; rfl
                  | cons v vs ih => intro ρ; unfold restR; rw [ih, List.length_set]
                have outR : ∀ (vs : List Nat) (ρ : Rho), j ∉ vs → (restR ρ1 vs ρ)[j]? = ρ[j]? := by
                  intro vs
                  induction vs with
                  | nil => intro ρ _; rfl
                  | cons v vs ih =>
                    intro ρ hn
                    rw [List.mem_cons, not_or] at hn
                    unfold restR
                    rw [ih _ hn.2, List.getElem?_set_ne (Ne.symm hn.1)]
                refine ⟨lenR _ _, fun hlt => ?_⟩
                unfold restR
                rcases List.mem_cons.mp hj with z | z
                · subst z
                  rw [outR _ _ nd.1, List.getElem?_set_self hlt]
                · exact (ih _ nd.2 z).2 (by rw [List.length_set]; exact hlt)
            have hlen2 : (restR ρ1 vs ρ2).length = σ.length := R4.len
            have k6 := key vs ρ2 hnd hjv
            have hjl : j < ρ2.length := by
              rw [← k6.1, hlen2]
              exact (List.getElem?_eq_some_iff.mp ej).1
            have k7 := k6.2 hjl
            have k8 := hpl j hjv
            unfold plainAt at k8
            rw [List.getD_eq_getElem?_getD] at k7
            cases w : ρ1[j]? with
            | none => rw [w] at k8; cases k8
            | some t =>
              rw [w] at k7 k8
              cases t with
              | no => rcases k5 with k5 | k5 <;> rw [k7] at k5 <;> cases k5
              | sh d => rcases k5 with k5 | k5 <;> rw [k7] at k5 <;> cases k5
              | ol zs => cases k8
              | io zs => cases k8
          · have outR : ∀ (vs : List Nat) (ρ : Rho), j ∉ vs → (restR ρ1 vs ρ)[j]? = ρ[j]? := by
              intro vs
              induction vs with
              | nil => intro ρ _; rfl
              | cons v vs ih =>
                intro ρ hn
                rw [List.mem_cons, not_or] at hn
                unfold restR
                rw [ih _ hn.2, List.getElem?_set_ne (Ne.symm hn.1)]
            refine g3 j ?_ (by rw [wipe_get hjv]; exact ej)
            rw [outR vs ρ2 hjv] at k5
            exact ⟨xs, k5⟩⟩
theorem se_lc2 {vs1 : List Nat} (hc : X.calm = true) (hN : X.N.Nodup) (ok : BlkOk X.N X.env.scope scope own) (hi : SI X W tg iter it)
    (hg : ∀ (s : Shared) (H : Hp) (C : Addr) (cl : List (Str × Addr)) (fp : List Addr), SG (X.blk s H scope (compEnvC scope cl C X.env) fp) tg is bd) (ht : ∀ (s : Shared) (H : Hp) (C : Addr) (cl : List (Str × Addr)) (fp : List Addr), STs (X.blk s H scope (compEnvC scope cl C X.env) fp) WN ifs gc)
    (hi1 : ∀ (s : Shared) (H : Hp) (C : Addr) (cl : List (Str × Addr)) (fp : List Addr), SI (X.blk s H scope (compEnvC scope cl C X.env) fp) WN tg1 iter1 it1)
    (hg1 : ∀ (s : Shared) (H : Hp) (C : Addr) (cl : List (Str × Addr)) (fp : List Addr), SG (X.blk s H scope (compEnvC scope cl C X.env) fp) tg1 is1 bd1) (ht1 : ∀ (s : Shared) (H : Hp) (C : Addr) (cl : List (Str × Addr)) (fp : List Addr), STs (X.blk s H scope (compEnvC scope cl C X.env) fp) WN ifs1 gc1)
    (he : ∀ (s : Shared) (H : Hp) (C : Addr) (cl : List (Str × Addr)) (fp : List Addr), SE (X.blk s H scope (compEnvC scope cl C X.env) fp) WN elt fe) (hsub : ∀ i ∈ is, i ∈ own.map (·.2) := by decide) (hv1 : ∀ i ∈ vs1, i ∈ own.map (·.2) := by decide) (hsub1 : ∀ i ∈ is1, i ∈ vs1 := by decide) (hnd : (own.map (·.2)).Nodup := by decide)
    (hs : ∀ x, foldedSetIterable iter X.env x = pure x := by intro _; rfl) (hs1 : ∀ env x, foldedSetIterable iter1 env x = pure x := by intro _ _; rfl) : SE X W (.ListComp elt [⟨tg, iter, ifs, 0⟩, ⟨tg1, iter1, ifs1, 0⟩] scope pos) (eLc2 it bd gc it1 bd1 gc1 fe (own.map (·.2)) vs1) :=
  PE.imp (pe_lc2 (wi1 := tG X.K X.mg WN (relI X.K) it1) (g := tgG X.K is bd) (tt := tG X.K X.mg WN relB gc) (g1 := tgG X.K is1 bd1) (tt1 := tG X.K X.mg WN relB gc1) (te := tG X.K X.mg WN (relE X.K) fe) hc hN hi ok hv1 hg ht hi1 hg1 ht1 he hs hs1) fun σ H Q h => imp_lc2 hsub hv1 hsub1 hnd h
end
end FB
/-! FWC: a module's constant that is data -/
namespace FB
open PySem PySem.Spec L2
def ConD (K : PySem.W.Frag) (mg : Str → Option Value) (x : Str) (d : D) : Prop := ∃ v u, mg x = some u ∧ RelV v u ∧ ∀ F, DR K F v d
theorem se_conD {X : Cx} {W : WX} {x : Str} {d : D} {pos : Pos} (c : ConD X.K X.mg x d) (hg : Gl X x := by rfl) (hdb : (x == ("__debug__" : Str)) = false := by decide) : SE X W (.Name x pos) (eC d) := by
  obtain ⟨v, u, h1, h2, h3⟩ := c
  exact se_glob h1 h2 h3 hg hdb
def conB (K : PySem.W.Frag) (x : Str) (d : D) : Bool := globB K x (.ref (He.ga K x)) && datB K d (.ref (He.ga K x))
theorem conD_of {K : PySem.W.Frag} {h : Heap} {mg : Str → Option Value} {x : Str} {d : D} (X : K.In h) (G : h.Ns mainGlobals mg) (c : conB K x d = true) : ConD K mg x d := by
  obtain ⟨c1, c2⟩ := Bool.and_eq_true_iff.mp c
  obtain ⟨v, h1, h2⟩ := datB_ok c2
  exact ⟨v, _, glob_of X G c1, h1, h2⟩
end FB
/-! FWD: a call whose lent list is made on the spot -/
namespace FB
open PySem PySem.Spec L2
section
variable {K : PySem.W.Frag} {C : Fm} {F F' : Hp} {ρ : Rho} {σ : St} {H H' : Hp}
theorem get_snoc {α : Type} {l : List α} {x y : α} {i : Nat} (h : (l ++ [x])[i]? = some y) : (i < l.length ∧ l[i]? = some y) ∨ (i = l.length ∧ x = y) := by
  by_cases z : i < l.length
  · rw [List.getElem?_append_left z] at h
    exact .inl ⟨z, h⟩
  · rw [List.getElem?_append_right (by omega)] at h
    have : i - l.length = 0 := by
      cases q : i - l.length with
      | zero => rfl
      | succ n => rw [q] at h; simp at h
    rw [this] at h
    simp at h
    exact .inr ⟨by omega, h⟩
theorem Rel.snoc (R : Rel K C F ρ σ H) {xs : List D} {vs : List V} {a : Addr} (h0 : C.H0 a = none) (hf : F a = none) (ha : H a = some (.lst vs)) (r : DRs K F vs xs) (hn : ∀ j, own ρ j → σ[j]? ≠ some (some (.ref a))) :
    Rel K C F (ρ ++ [.ol xs]) (σ ++ [some (.ref a)]) H := by
  have up : ∀ {i : Nat} {y : Option V}, i < ρ.length → σ[i]? = some y → (σ ++ [some (.ref a)])[i]? = some y := fun {i y} h q => by
    rw [List.getElem?_append_left (by rw [← R.len]; exact h)]; exact q
  have at_ : (σ ++ [some (V.ref a)])[ρ.length]? = some (some (.ref a)) := by
    rw [R.len, List.getElem?_append_right (Nat.le_refl _)]; simp
  refine ⟨by simp [R.len], R.sub, R.f0, R.fz, R.fr, R.dom, fun i d e => ?_, fun i ys e => ?_, fun i ys e => ?_, fun i b e => ?_, fun i j b hi hj ei ej => ?_⟩
  · rcases get_snoc e with ⟨h, q⟩ | ⟨_, q⟩
    · obtain ⟨v, h1, h2⟩ := R.sh i d q
      exact ⟨v, up h h1, h2⟩
    · cases q
  · rcases get_snoc e with ⟨h, q⟩ | ⟨h, q⟩
    · obtain ⟨b, ws, h1, h2⟩ := R.ol i ys q
      exact ⟨b, ws, up h h1, h2⟩
    · cases q
      subst h
      exact ⟨a, vs, at_, h0, hf, ha, r⟩
  · rcases get_snoc e with ⟨h, q⟩ | ⟨_, q⟩
    · obtain ⟨b, ws, h1, h2, h3⟩ := R.io i ys q
      exact ⟨b, ws, h1, up h h2, h3⟩
    · cases q
  · obtain ⟨ys, q⟩ := R.ios i b e
    exact ⟨ys, by rw [List.getElem?_append_left (List.getElem?_eq_some_iff.mp q).1]; exact q⟩
  · have cls : ∀ k, own (ρ ++ [.ol xs]) k → (σ ++ [some (V.ref a)])[k]? = some (some (.ref b)) → (k < ρ.length ∧ own ρ k ∧ σ[k]? = some (some (.ref b))) ∨ (k = ρ.length ∧ a = b) := fun k ⟨zs, hk⟩ e => by
      have h : k < ρ.length ∧ own ρ k ∨ k = ρ.length := by
        rcases hk with hk | hk
        · rcases get_snoc hk with ⟨h, q⟩ | ⟨h, _⟩
          · exact .inl ⟨h, zs, .inl q⟩
          · exact .inr h
        · rcases get_snoc hk with ⟨h, q⟩ | ⟨h, _⟩
          · exact .inl ⟨h, zs, .inr q⟩
          · exact .inr h
      rcases h with ⟨h, o⟩ | h
      · rw [List.getElem?_append_left (by rw [← R.len]; exact h)] at e
        exact .inl ⟨h, o, e⟩
      · subst h
        rw [at_] at e
        cases e
        exact .inr ⟨rfl, rfl⟩
    rcases cls i hi ei with ⟨h1, o1, e1⟩ | ⟨h1, e1⟩ <;> rcases cls j hj ej with ⟨h2, o2, e2⟩ | ⟨h2, e2⟩
    · exact R.inj i j b o1 o2 e1 e2
    · subst e2
      exact absurd e1 (hn i o1)
    · subst e1
      exact absurd e2 (hn j o2)
    · omega
theorem Rel.unsnoc {xs : List D} {v : Option V} (R : Rel K C F (ρ ++ [.ol xs]) (σ ++ [v]) H) : Rel K C F ρ σ H := by
  have len : ρ.length = σ.length := by have := R.len; simpa using this
  have up : ∀ {i : Nat} {s : Slot}, ρ[i]? = some s → (ρ ++ [.ol xs])[i]? = some s := fun {i s} q => by
    rw [List.getElem?_append_left (List.getElem?_eq_some_iff.mp q).1]; exact q
  have dn : ∀ {i : Nat} {s : Slot} {y : Option V}, ρ[i]? = some s → (σ ++ [v])[i]? = some y → σ[i]? = some y := fun {i s y} q e => by
    have := (List.getElem?_eq_some_iff.mp q).1
    rw [List.getElem?_append_left (by omega)] at e; exact e
  have upo : ∀ {i : Nat}, own ρ i → own (ρ ++ [.ol xs]) i := fun {i} ⟨zs, q⟩ => ⟨zs, by
    rcases q with q | q
    · exact .inl (up q)
    · exact .inr (up q)⟩
  have ups : ∀ {i : Nat} {y : Option V}, σ[i]? = some y → (σ ++ [v])[i]? = some y := fun {i y} q => by
    rw [List.getElem?_append_left (List.getElem?_eq_some_iff.mp q).1]; exact q
  refine ⟨len, R.sub, R.f0, R.fz, R.fr, R.dom, fun i d e => ?_, fun i ys e => ?_, fun i ys e => ?_, fun i b e => ?_, fun i j b hi hj ei ej => R.inj i j b (upo hi) (upo hj) (ups ei) (ups ej)⟩
  · obtain ⟨u, h1, h2⟩ := R.sh i d (up e)
    exact ⟨u, dn e h1, h2⟩
  · obtain ⟨b, ws, h1, h2⟩ := R.ol i ys (up e)
    exact ⟨b, ws, dn e h1, h2⟩
  · obtain ⟨b, ws, h1, h2, h3⟩ := R.io i ys (up e)
    exact ⟨b, ws, h1, dn e h2, h3⟩
  · obtain ⟨ys, q⟩ := R.ios i b e
    rcases get_snoc q with ⟨_, q⟩ | ⟨_, q⟩
    · exact ⟨ys, q⟩
    · cases q
end
/-- the answer of a call whose lent list nobody else has -/
def backN (o : Out Vl) (ρ : Rho) : Out Vl := match o with
  | .bad => .bad
  | .ok u ρ' => match io0 ρ' with
    | some _ => match u with
      | .sl _ => .bad
      | .d d => .ok (.d d) ρ
      | .nw xs => .ok (.nw xs) ρ
    | none => .bad
  | .exc e ρ' => match io0 ρ' with
    | some _ => .exc e ρ
    | none => .bad
def eCallIoN (G : List Slot → Out Vl) (f : ME) (a : MA) : ME := fun ρ => (f ρ).bind fun u ρ1 => match u with
  | .nw xs => (a ρ1).bind fun us ρ2 => match keeps us ρ2 with
    | none => .bad
    | some (ds, ρ3) => backN (G (.io xs :: ds.map .sh)) ρ3
  | _ => .bad
section
variable {X : Cx} {W : WX} {k : Nat} {fs : MA} {f : ME} {G : List Slot → Out Vl} {n : Nat}
theorem putR_last (ρ : Rho) (xs ys : List D) : putR (ρ ++ [.ol xs]) ρ.length ys = ρ ++ [.ol ys] := by
  unfold putR
  have : (ρ ++ [Slot.ol xs])[ρ.length]? = some (.ol xs) := by
    rw [List.getElem?_append_right (Nat.le_refl _)]; simp
  rw [this]
  simp
theorem imp_callIoN {σ : St} {H : Hp} {Q : VK} (h : tG X.K X.mg W (relE X.K) (eCallIoN G f fs) σ H Q) (hn : ∀ ρ us ρ1, fs ρ = .ok us ρ1 → us.length + 1 = n) :
    tCallSD (spOf X.K X.mg G n) [] (fun σ cls d H' => W cls d σ H') (tCons (tG X.K X.mg W (relE X.K) f) (tG X.K X.mg W (relA X.K) fs)) σ H Q := by
  obtain ⟨C, F, ρ, R, h⟩ := h
  refine ⟨C, F, ρ, R, Post.bind h fun u ρ1 x F1 H1 s1 R1 r1 h1 => ?_⟩
  cases u with
  | d d => exact h1.elim
  | sl i => exact h1.elim
  | nw xs =>
    obtain ⟨p, vs, rfl, h0, hf, hp, hr, hno⟩ := r1
    have hF := R1.f0none hf
    have hio : ∀ i, C.io i ≠ some p := fun k e => by
      obtain ⟨ys, q⟩ := R1.ios k p e
      obtain ⟨a', _, q0, q1, _⟩ := R1.io k ys q
      rw [e] at q0
      cases q0
      exact hno k ⟨ys, .inr q⟩ q1
    refine ⟨C.guard p vs, F1, ρ1, R1.guard h0 hf hp hno, ?_⟩
    have h1 : Post X.K X.mg W C F1 σ (relE X.K C σ) ((fs ρ1).bind fun us ρ2 => match keeps us ρ2 with
      | none => .bad
      | some (ds, ρ3) => backN (G (.io xs :: ds.map .sh)) ρ3) Q := h1
    cases q0 : fs ρ1 with
    | bad => rw [q0] at h1; exact h1.elim
    | exc e ρ2 => rw [q0] at h1; exact fun cls F' H' s R hm => h1 cls F' H' s (R.unguard h0) hm
    | ok us ρ2 =>
      rw [q0, Out.bind_ok] at h1
      intro ws F2 H2 s2 R2 r2
      have h1 := h1.mono s2
      have hlen : ws.length = us.length := VRs.length r2
      have hnn := hn ρ1 us ρ2 q0
      cases q : keeps us ρ2 with
      | none => rw [q] at h1; exact h1.elim
      | some z =>
        obtain ⟨ds, ρ3⟩ := z
        rw [q] at h1
        have h1 : Post X.K X.mg W C F2 σ (relE X.K C σ) (backN (G (.io xs :: ds.map .sh)) ρ3) Q := h1
        obtain ⟨F3, s3, R3, r3⟩ := VRs.keeps R2 r2 q
        have h1 := h1.mono s3
        obtain ⟨g1, g2, g3⟩ := R3.guarded hio hF
        have R3' := R3.unguard h0
        have RX := R3'.snoc h0 g2 g1 (hr.mono (s2.trans s3)) g3
        have eo : ownL (ρ3 ++ [.ol xs]) ρ3.length = some xs := by
          unfold ownL
          have : (ρ3 ++ [Slot.ol xs])[ρ3.length]? = some (.ol xs) := by
            rw [List.getElem?_append_right (Nat.le_refl _)]; simp
          rw [this]
        have ea : (σ ++ [some (V.ref p)])[ρ3.length]? = some (some (.ref p)) := by
          rw [R3'.len, List.getElem?_append_right (Nat.le_refl _)]; simp
        refine ⟨by rw [List.append_nil, List.length_cons, hlen]; exact hnn, ⟨H2, F3, io1 p⟩, .io xs :: ds.map .sh, rfl, by rw [List.append_nil]; exact RX.enter1 eo ea r3, ?_⟩
        have ho : ∀ j, own ρ3 j → own (ρ3 ++ [.ol xs]) j := fun j ⟨zs, w⟩ => ⟨zs, by
          rcases w with w | w
          · exact .inl (by rw [List.getElem?_append_left (List.getElem?_eq_some_iff.mp w).1]; exact w)
          · exact .inr (by rw [List.getElem?_append_left (List.getElem?_eq_some_iff.mp w).1]; exact w)⟩
        unfold PostF
        cases q2 : G (.io xs :: ds.map .sh) with
        | bad => rw [q2] at h1; exact h1.elim
        | ok u ρ' =>
          rw [q2] at h1
          intro v F' σ' H' R' r'
          unfold backN at h1
          cases q4 : io0 ρ' with
          | none => simp only [q4] at h1; exact h1.elim
          | some zs =>
            simp only [q4] at h1
            obtain ⟨s4, R4⟩ := RX.back1 eo ea R' (io0_get q4)
            rw [putR_last] at R4
            cases u with
            | sl i => exact h1.elim
            | d d => exact h1 v F' H' s4 R4.unsnoc r'
            | nw ws => exact h1 v F' H' s4 R4.unsnoc (VR.back (u := .nw ws) R3' r' (fun _ z => by cases z) (fun _ z => z))
        | exc e ρ' =>
          rw [q2] at h1
          intro cls F' σ' H' R' hm
          unfold backN at h1
          cases q4 : io0 ρ' with
          | none => simp only [q4] at h1; exact h1.elim
          | some zs =>
            simp only [q4] at h1
            obtain ⟨s4, R4⟩ := RX.back1 eo ea R' (io0_get q4)
            rw [putR_last] at R4
            exact h1 cls F' H' s4 R4.unsnoc hm
variable {ps : List Str} {x : Str} {p pos : Pos} {e : Expr} {es : List Expr}
theorem se_callIoN (c : Cl X.prog X.w X.K X.mg X.base k x ps G) (hr : Room k X.A) (hgd : X.A.guards = some []) (tk : L2N.Takes X W) (ha : SE X W e f) (hb : SA X W es fs) (hn : ∀ ρ us ρ1, fs ρ = .ok us ρ1 → us.length + 1 = ps.length) (hg : Gl X x := by rfl) (hdb : (x == ("__debug__" : Str)) = false := by decide)
    (he : starEach (e :: es) X.env = (false, eval e X.env) :: starEach es X.env := by rfl) (hpl : (backTo pos (starEach es X.env)).any (·.1) = false := by rfl) : SE X W (.Call (.Name x p) (e :: es) [] pos) (eCallIoN G f fs) := by
  obtain ⟨fa, fd, FF, hk, hb2, hm⟩ := c
  exact PE.imp (pe_callG FF hr hgd hg hm hk hb2 .nil (passAt tk) (pa_cons ha hb he) hdb he hpl) fun _ _ _ h => imp_callIoN h hn
end
/-! ### comprehensions over typed items -/
theorem lc_map {α : Type} {b : Bd} {c : MB} {e : ME} {vs : List Nat} {ρ : Rho} (h v : α → D) : ∀ (l : List α) (acc : List D), (∀ x ∈ l, lcTurn b c e vs (h x) ρ = .ok (some (v x)) ρ) → lcG b c e vs (l.map h) acc ρ = .ok (acc ++ l.map v) ρ
  | [], acc, _ => by simp [lcG]
  | x :: r, acc, g => by
    have h1 := g x (List.mem_cons_self ..)
    have ih := lc_map h v r (acc ++ [v x]) fun y hy => g y (List.mem_cons_of_mem _ hy)
    simp only [List.map_cons, lcG, h1, ih, List.append_assoc, List.singleton_append]
theorem lc_filt {α : Type} {b : Bd} {c : MB} {e : ME} {vs : List Nat} {ρ : Rho} (h v : α → D) (p : α → Bool) : ∀ (l : List α) (acc : List D), (∀ x ∈ l, lcTurn b c e vs (h x) ρ = .ok (if p x then some (v x) else none) ρ) → lcG b c e vs (l.map h) acc ρ = .ok (acc ++ (l.filter p).map v) ρ
  | [], acc, _ => by simp [lcG]
  | x :: r, acc, g => by
    have h1 := g x (List.mem_cons_self ..)
    have ih := fun acc => lc_filt h v p r acc fun y hy => g y (List.mem_cons_of_mem _ hy)
    cases q : p x with
    | true =>
      rw [q] at h1
      simp only [List.map_cons, lcG, h1, if_true, ih, List.filter_cons, q, List.append_assoc, List.singleton_append]
    | false =>
      rw [q] at h1
      simp only [List.map_cons, lcG, h1, Bool.false_eq_true, if_false, ih, List.filter_cons, q]
theorem lc2_map {α : Type} {b : Bd} {c : MB} {it1 : MI} {b1 : Bd} {c1 : MB} {e : ME} {vs vs1 : List Nat} {ρ : Rho} (h : α → D) (v : α → List D) : ∀ (l : List α) (acc : List D), (∀ x ∈ l, (v x).length ≤ 2) → acc.length + 2 * l.length ≤ 4000 → (∀ x ∈ l, ∀ acc : List D, acc.length ≤ 4000 → lc2Step b c it1 b1 c1 e vs vs1 (h x) acc ρ = .ok (acc ++ v x) ρ) →
    lc2G b c it1 b1 c1 e vs vs1 (l.map h) acc ρ = .ok (acc ++ l.flatMap v) ρ
  | [], acc, _, _, _ => by simp [lc2G]
  | x :: r, acc, h2, hl, g => by
    have h1 := g x (List.mem_cons_self ..) acc (by omega)
    have hx := h2 x (List.mem_cons_self ..)
    have ih := lc2_map h v r (acc ++ v x) (fun y hy => h2 y (List.mem_cons_of_mem _ hy)) (by simp only [List.length_append, List.length_cons] at *; omega) fun y hy => g y (List.mem_cons_of_mem _ hy)
    simp only [List.map_cons, lc2G, h1, ih, List.flatMap_cons, List.append_assoc]
@[simp] theorem s_backN_1 : type_of% @backN.eq_1 := @backN.eq_1
@[simp] theorem s_backN_2 : type_of% @backN.eq_2 := @backN.eq_2
@[simp] theorem s_backN_3 : type_of% @backN.eq_3 := @backN.eq_3
@[simp] theorem s_eCallIoN_1 : type_of% @eCallIoN.eq_1 := @eCallIoN.eq_1
end FB
/-! FWK: a table of the module walked by its keys; min of data -/
namespace FB
open PySem PySem.Spec L2 PyProof.Rows
def keysB : List DictEntry → List Str → Bool
  | [], [] => true
  | e :: es, k :: ks => (match e.key with
      | .str y _ => decide (y = k)
      | _ => false) && keysB es ks
  | _, _ => false
theorem keysB_len : ∀ {es : List DictEntry} {ks : List Str}, keysB es ks = true → es.length = ks.length
  | [], [], _ => rfl
  | [], _ :: _, h => by cases h
  | _ :: _, [], h => by cases h
  | e :: es, k :: ks, h => by
    simp only [keysB, Bool.and_eq_true] at h
    simp only [List.length_cons, keysB_len h.2]
theorem keysB_at : ∀ {es : List DictEntry} {ks : List Str} {i : Nat} {k : Str}, keysB es ks = true → ks[i]? = some k → ∃ en t, es[i]? = some en ∧ en.key = .str k t
  | [], [], _, _, _, e => by simp at e
  | [], _ :: _, _, _, h, _ => by cases h
  | _ :: _, [], _, _, h, _ => by cases h
  | en :: es, y :: ks, 0, k, h, e => by
    simp only [keysB, Bool.and_eq_true] at h
    simp only [List.getElem?_cons_zero, Option.some.injEq] at e
    subst e
    have h1 := h.1
    cases q : en.key with
    | str z t =>
      rw [q] at h1
      have : z = y := of_decide_eq_true h1
      subst this
      exact ⟨en, t, rfl, q⟩
    | _ => rw [q] at h1; cases h1
  | en :: es, y :: ks, i + 1, k, h, e => by
    simp only [keysB, Bool.and_eq_true] at h
    simp only [List.getElem?_cons_succ] at e ⊢
    exact keysB_at h.2 e
/-- the keys, one behind the other -/
def Itw (ks : List Str) : It := ⟨fun i _ => i < ks.length, fun i H x H' => H' = H ∧ ∃ k, ks[i]? = some k ∧ x = .str k, fun i _ => ks.length ≤ i⟩
theorem itOk_keys {K : PySem.W.Frag} {F1 : Hp} {ks : List Str} : ItOk K (Itw ks) F1 (ks.map .str) where
  stop := fun i H _ e => Nat.le_of_eq (by rw [e, List.length_map])
  go := fun i H _ e => by rw [List.length_map] at e; exact e
  yld := fun i H v H' _ y d e => by
    obtain ⟨e1, k, e2, e3⟩ := y
    rw [List.getElem?_map, e2] at e
    cases e
    subst e3
    exact .inl ⟨e1, fun F _ => .str k⟩
section
variable {P : Program} {w : World} {K : PySem.W.Frag} {tg : Expr} {d : Addr} {es : Array DictEntry} {n : Nat} {ks : List Str}
theorem turn_kd (Dd : KDict K w d es n) (hk : keysB es.toList ks = true) (it : Addr) : Turn P w K tg (Itw ks) [it] it (fun i h => h.IsKeyIter it d i es.size n) where
  mem := List.mem_singleton.mpr rfl
  obj := fun i h st b hb => by
    obtain rfl : b = it := List.mem_singleton.mp hb
    obtain ⟨oi, e, _, dd⟩ := st
    exact ⟨oi, e, fun v z => by rw [dd] at z; cases z⟩
  keep := fun i h h' st k => by
    obtain ⟨oi, e, r⟩ := st
    exact ⟨oi, k it (List.mem_singleton.mpr rfl) oi e, r⟩
  item := by
    intro X eP ew eK hc i pins s σ H E I hf st hg
    subst eP ew eK
    obtain ⟨f0, f1, f2, f3, f4, f5⟩ := hf it (List.mem_singleton.mpr rfl)
    obtain ⟨k, ek⟩ : ∃ k, ks[i]? = some k := ⟨ks[i], List.getElem?_eq_getElem hg⟩
    obtain ⟨en, t, e1, e2⟩ := keysB_at hk ek
    have e1 : es[i]? = some en := by rw [Array.getElem?_toList] at e1; exact e1
    have hod := I.kIn d _ Dd.at_
    refine next_key_item st hod rfl rfl e1 fun h' st' sb => ?_
    have I1 : Inv X pins σ H { s with heap := h' } := I.turned (t' := s.toks) (fun b ob hb e => (sb.2 b hb).trans e) f0 f1 f3 f4 f5
    obtain ⟨oi, e, c, dd⟩ := id st'
    refine ⟨en.key, rfl, go_of (s := { s with heap := h' }) e c dd (by decide) ⟨.str k, H, I1, ?_, ⟨rfl, k, ek, rfl⟩, st', fun b hb => (hf b hb).1⟩⟩
    rw [e2]
    exact ⟨t, rfl⟩
  done := by
    intro X eP ew eK hc i pins s σ H E I hf st hg
    subst eP ew eK
    obtain ⟨f0, f1, f2, f3, f4, f5⟩ := hf it (List.mem_singleton.mpr rfl)
    have hod := I.kIn d _ Dd.at_
    have hl := keysB_len hk
    rw [Array.length_toList] at hl
    have hg2 : ks.length ≤ i := hg
    exact next_key_end (I.ok.hd hc) st hod rfl rfl (by omega) fun h' eb => ⟨rfl, I.turned (t' := s.toks) (fun b ob hb e => eb b ob hb e) f0 f1 f3 f4 f5⟩
  self := fun A i s Q E st h => by
    refine wpAny_pyIter_slot st.typeIs F.slot_dict_keyiterator_iter (wpAny_call_entry F.slot_dict_keyiterator_iter st.typeIs F.entry_dict_keyiterator_iter ?_ (F.args_dict_keyiterator_iter_1 _))
    show wpAny _ _ (ret (.ref it)) _ _ s
    exact wpAny_pure ⟨_, rfl, "dict_keyiterator", _, st.typeIs, F.slot_dict_keyiterator_next.lookup, h⟩
end
/-- a table that may be walked -/
def TabW (K : PySem.W.Frag) (w : World) (mg : Str → Option Value) (x : Str) (kvs : List (Str × D)) : Prop :=
  ∃ d es n, mg x = some (.ref d) ∧ KDict K w d es n ∧ keysB es.toList (kvs.map (·.1)) = true
def iK (kvs : List (Str × D)) : MI := fun ρ => .ok (kvs.map fun q => .str q.1) ρ
theorem si_tab {X : Cx} {W : WX} {tg : Expr} {x : Str} {kvs : List (Str × D)} {p : Pos} (t : TabW X.K X.w X.mg x kvs) (hg : Gl X x := by rfl) (hdb : (x == ("__debug__" : Str)) = false := by decide) : SI X W tg (.Name x p) (iK kvs) := by
  obtain ⟨d, es, n, em, Dd, hk⟩ := t
  refine ⟨fun pins s σ H R I h => ?_⟩
  obtain ⟨C, F, ρ, RR, h⟩ := h
  have h2 := h (Itw (kvs.map (·.1))) F H (Same.refl F) RR (by
    have := itOk_keys (K := X.K) (F1 := F) (ks := kvs.map (·.1))
    rw [List.map_map] at this
    exact this)
  have hv : PE X (.Name x p) (tC (.ref d)) := pe_glob hg em (show RelV (.ref d) (.ref d) from rfl) hdb
  refine thn (hv.run pins s σ H (fun v H' => v = .ref d ∧ H' = H) I ⟨rfl, rfl⟩) fun u s1 ⟨v, H1, I1, r1, q1, q2⟩ => ?_
  subst q1 q2
  obtain rfl : u = Value.ref d := r1
  exact iter_keys Dd.low (I1.kIn d _ Dd.at_) ⟨rfl, rfl, rfl⟩ rfl (pi_one (tk := s1.toks) I1 _ (turn_kd Dd hk _) ⟨_, Heap.get?_push_size _ rfl, rfl, rfl⟩ h2)
/-! ### the facts of the head -/
def tabWB (K : PySem.W.Frag) (x : Str) (kvs : List (Str × D)) : Bool := match K.lookup (He.ga K x) with
  | some ⟨_, _, .dict es _, _⟩ => keysB es.toList (kvs.map (·.1))
  | _ => false
theorem tabW_ok {K : PySem.W.Frag} {w : World} {mg : Str → Option Value} {x : Str} {kvs : List (Str × D)} (em : mg x = some (.ref (He.ga K x))) (h : ∃ es n, KDict K w (He.ga K x) es n) (c : tabWB K x kvs = true) : TabW K w mg x kvs := by
  obtain ⟨es, n, Dd⟩ := h
  unfold tabWB at c
  rw [Dd.at_] at c
  exact ⟨_, es, n, em, Dd, c⟩
end FB
/-! FWM: min of a list of data that are alike -/
namespace FB
open PySem PySem.Spec L2 PyProof.Rows
open PySem.W (AlikeAll alike minD min_list_data readsAll_at)
open PySem.SeqAt (Reads.unique)
def rMinDt (K : PySem.W.Frag) : List V → Hp → VK → Prop := fun xs H Q => ∃ (a : Addr) (vs : List V) (x : D) (ds : List D), xs = [.ref a] ∧ SqL K H a vs ∧ DpAll K H vs (x :: ds) ∧ AlikeAll (x :: ds) ∧ PyData.canLayAll0 (x :: ds) = true ∧ PyData.depthAll (x :: ds) ≤ 40 ∧ ∀ (i : Nat) v, vs[i]? = some v → (x :: ds)[i]? = some (minD x ds) → Q v H
theorem call_minDt {X : Cx} (hc : X.calm = true) (hu : X.A.units + 64 < cLine) : CallR X (.builtin "min") (rMinDt X.K) := by
  intro pins s σ H xs us Q I r h
  obtain ⟨a, vs, x, ds, rfl, hl, hd, al, lay, dep, q⟩ := h
  obtain ⟨u, rfl, r1⟩ := vals1 r
  obtain rfl : u = Value.ref a := r1
  obtain ⟨its, rits, p, _⟩ := I.list hl
  obtain ⟨as, ra⟩ := Dp.readsAll I (x :: ds) vs its hd rits
  refine min_list_data (vs := its.toArray) (I.ok.hd hc) p.isList (by simpa using ra) al (by omega) fun i v h' tk bs e1 e2 hk => ?_
  have e1 : its[i]? = some v := by simpa using e1
  obtain ⟨as2, ra2, hi, hm, _⟩ := readsAll_at ra i v e1
  have lay1 : ((x :: ds).getD i .none).canLay0 = true := by
    have : ∀ l : List D, PyData.canLayAll0 l = true → ∀ y ∈ l, y.canLay0 = true := by
      intro l
      induction l with
      | nil => exact fun _ _ h => nomatch h
      | cons z l ih =>
        intro hz y hy
        rw [PyData.canLayAll0, Bool.and_eq_true] at hz
        rcases List.mem_cons.mp hy with e | e
        · exact e ▸ hz.1
        · exact ih hz.2 y e
    exact this _ lay _ hm
  have e3 : (x :: ds).getD i .none = minD x ds := Reads.unique _ _ _ _ _ lay1 (Reads.keeps hk ra2) e2
  have e4 : (x :: ds)[i]? = some (minD x ds) := by
    rw [List.getElem?_eq_getElem hi, ← e3]
    congr 1
    rw [List.getD_eq_getElem?_getD, List.getElem?_eq_getElem hi]
    rfl
  have hlen := rits.length
  have hiv : i < vs.length := by
    rw [hlen]
    exact (List.getElem?_eq_some_iff.mp e1).1
  obtain ⟨v2, e5, r5⟩ := rits.get (List.getElem?_eq_getElem hiv)
  rw [e1] at e5
  cases e5
  exact ⟨_, H, I.kept hk, r5, q i _ (List.getElem?_eq_getElem hiv) e4⟩
def alikeB (xs : List D) : Bool := xs.all (fun x => xs.all fun y => alike x y) && xs.all fun x => match x with
  | .none => false
  | _ => true
theorem alikeB_ok {xs : List D} (h : alikeB xs = true) : AlikeAll xs := by
  simp only [alikeB, Bool.and_eq_true, List.all_eq_true] at h
  refine ⟨fun x hx y hy => h.1 x hx y hy, fun x hx e => ?_⟩
  have := h.2 x hx
  rw [e] at this
  cases this
def gMinD : List D → Option Vl
  | [.list (x :: xs)] => if alikeB (x :: xs) && (PyData.canLayAll0 (x :: xs) && decide (PyData.depthAll (x :: xs) ≤ 40)) then some (.d (minD x xs)) else none
  | _ => none
theorem cd_minDt {K : PySem.W.Frag} : CallD K (rMinDt K) gMinD := by
  intro C F ρ σ H xs ds z Q R hx hg k
  match ds, hx, hg with
  | [.list (x :: xs)], hx, hg =>
    obtain ⟨v, rfl, h⟩ := hx.one
    obtain ⟨a, vs, rfl, h1, h2⟩ := h.list R
    simp only [gMinD] at hg
    by_cases hb : (alikeB (x :: xs) && (PyData.canLayAll0 (x :: xs) && decide (PyData.depthAll (x :: xs) ≤ 40))) = true
    · rw [if_pos hb] at hg
      cases hg
      simp only [Bool.and_eq_true, decide_eq_true_eq] at hb
      refine ⟨a, vs, x, xs, rfl, h1, (h2.mono R.sub).dp hb.2.1, alikeB_ok hb.1, hb.2.1, hb.2.2, fun i v e1 e2 => ?_⟩
      obtain ⟨v2, e3, r3⟩ := h2.get e2
      rw [e1] at e3
      cases e3
      exact k _ F H (Same.refl F) R r3
    · rw [if_neg hb] at hg
      cases hg
end FB
/-! FWR: range downwards, zip of two lists, insert -/
namespace FB
open PySem PySem.Spec L2
/-! ### range(i, j, -1) -/
def downD (lo : Int) (n : Nat) : List D := (List.range n).map fun k => .int (lo - (k : Nat))
def iR3 (a : MA) : MI := fun ρ => (a ρ).bind fun us ρ1 => match us with
  | [.d (.int i), .d (.int j), .d (.int (-1))] => if -100000 ≤ i ∧ i ≤ 100000 ∧ -100000 ≤ j ∧ j ≤ 100000 then .ok (downD i (i - j).toNat) ρ1 else .bad
  | _ => .bad
theorem downD_length (lo : Int) (n : Nat) : (downD lo n).length = n := by simp [downD]
theorem downD_get {lo : Int} {n i : Nat} {d : D} (h : (downD lo n)[i]? = some d) : d = .int (lo - (i : Nat)) := by
  unfold downD at h
  rw [List.getElem?_map] at h
  cases q : (List.range n)[i]? with
  | none => rw [q] at h; cases h
  | some j =>
    rw [q] at h
    cases h
    obtain ⟨h3, h4⟩ := List.getElem?_eq_some_iff.mp q
    rw [List.getElem_range] at h4
    rw [h4]
theorem itOk_down {K : PySem.W.Frag} {F1 : Hp} {lo : Int} {n : Nat} : ItOk K (Itc lo (-1) n) F1 (downD lo n) where
  stop := fun i H s e => by
    rw [downD_length] at e
    exact Nat.le_of_eq e.symm
  go := fun i H s e => by
    rw [downD_length] at e
    exact e
  yld := fun i H v H' s y d e => by
    obtain ⟨e1, e2⟩ := y
    subst e2
    have := downD_get e
    subst this
    refine .inl ⟨e1, fun F _ => ?_⟩
    rw [show lo + (i : Nat) * (-1 : Int) = lo - (i : Nat) by omega]
    exact .int _
section
variable {X : Cx} {W : WX} {tg : Expr} {fs : MA}
theorem si_r3 {a b c : Expr} {p pos : Pos} (hm : X.mg "range" = none) (ha : SA X W [a, b, c] fs) (hg : Gl X "range" := by rfl) (hs : starEach [a, b, c] X.env = (false, eval a X.env) :: starEach [b, c] X.env := by rfl) (hpl : (backTo pos (starEach [b, c] X.env)).any (·.1) = false := by rfl) :
    SI X W tg (.Call (.Name "range" p) [a, b, c] [] pos) (iR3 fs) :=
  PI.imp (pi_range3 hg hm ha hs hpl) fun σ H Q ⟨C, F, ρ, R, h⟩ => ⟨C, F, ρ, R, Post.bind h fun us ρ1 xs F1 H1 s1 R1 r1 h1 => by
    have r1 : VRs X.K C F1 H1 ρ1 σ xs us := r1
    match us, r1, h1 with
    | [.d (.int i), .d (.int j), .d (.int (-1))], r1, h1 =>
      obtain ⟨v, vs, rfl, hv, ht⟩ := VRs.uncons r1 rfl
      obtain ⟨v2, vs2, rfl, hv2, ht2⟩ := VRs.uncons ht rfl
      obtain ⟨v3, vs3, rfl, hv3, ht3⟩ := VRs.uncons ht2 rfl
      cases ht3
      have hv : DR X.K F1 v (.int i) := hv
      have hv2 : DR X.K F1 v2 (.int j) := hv2
      have hv3 : DR X.K F1 v3 (.int (-1)) := hv3
      have e1 := hv.intOf
      have e2 := hv2.intOf
      have e3 := hv3.intOf
      subst e1 e2 e3
      have h1 : Post X.K X.mg W C F1 σ (relI X.K C σ) (if -100000 ≤ i ∧ i ≤ 100000 ∧ -100000 ≤ j ∧ j ≤ 100000 then .ok (downD i (i - j).toNat) ρ1 else .bad) Q := h1
      by_cases hj : -100000 ≤ i ∧ i ≤ 100000 ∧ -100000 ≤ j ∧ j ≤ 100000
      · rw [if_pos hj] at h1
        exact ⟨i, j, -1, _, rfl, RgC.neg (by omega) (by omega) (by omega) (by omega), h1 _ F1 H1 (Same.refl F1) R1 itOk_down⟩
      · rw [if_neg hj] at h1
        exact h1.elim⟩
end
/-! ### zip(xs, ys), two lists, for a target of two names -/
def iZip (a : MA) : MI := fun ρ => (a ρ).bind fun us ρ1 => match keeps us ρ1 with
  | some ([.list xs, .list ys], ρ2) => .ok (List.zipWith zpD xs ys) ρ2
  | _ => .bad
theorem itOk_zip {K : PySem.W.Frag} {F1 : Hp} {a b : Addr} {vs ws : List V} {xs ys : List D} (ha : SqL K F1 a vs) (hb : SqL K F1 b ws) (r1 : DRs K F1 vs xs) (r2 : DRs K F1 ws ys) : ItOk K (Itz K a b) F1 (List.zipWith zpD xs ys) where
  stop := fun i H s e => by
    rw [List.length_zipWith] at e
    refine ⟨vs, ws, s.seq ha, s.seq hb, ?_⟩
    rw [r1.length, r2.length]
    omega
  go := fun i H s e => by
    rw [List.length_zipWith] at e
    have l1 : i < vs.length := by rw [r1.length]; omega
    have l2 : i < ws.length := by rw [r2.length]; omega
    exact ⟨vs, ws, _, _, s.seq ha, s.seq hb, List.getElem?_eq_getElem l1, List.getElem?_eq_getElem l2⟩
  yld := fun i H v H' s y d e => by
    obtain ⟨T, x1, y1, rfl, hT, rfl, f1, f2⟩ := y
    obtain ⟨dx, dy, e1, e2, rfl⟩ := List.getElem?_zipWith_eq_some.mp e
    obtain ⟨u1, g1, q1⟩ := r1.get e1
    obtain ⟨u2, g2, q2⟩ := r2.get e2
    have := f1 vs (s.seq ha)
    rw [g1] at this
    cases this
    have := f2 ws (s.seq hb)
    rw [g2] at this
    cases this
    exact .inr ⟨T, _, hT, rfl, fun F sF hF => .zp upd_same ((q1.mono sF).mono (same_new hF)) ((q2.mono sF).mono (same_new hF))⟩
theorem DRs.two {K : PySem.W.Frag} {F : Hp} {vs : List V} {d e : D} (h : DRs K F vs [d, e]) : ∃ v w, vs = [v, w] ∧ DR K F v d ∧ DR K F w e := by
  cases h with
  | cons h t =>
    obtain ⟨w, rfl, h2⟩ := t.single
    exact ⟨_, w, rfl, h, h2⟩
section
variable {X : Cx} {W : WX} {fs : MA}
theorem si_zip {e e2 : Expr} {p pos tpos : Pos} {elts : List Expr} {kk : Nat} (hm : X.mg "zip" = none) (ha : SA X W [e, e2] fs) (hg : Gl X "zip" := by rfl) (hs : starEach [e, e2] X.env = (false, eval e X.env) :: starEach [e2] X.env := by rfl) (hpl : (backTo pos (starEach [e2] X.env)).any (·.1) = false := by rfl) :
    SI X W (.Tuple elts kk tpos) (.Call (.Name "zip" p) [e, e2] [] pos) (iZip fs) :=
  PI.imp (pi_zip hg hm ha hs hpl) fun σ H Q ⟨C, F, ρ, R, h⟩ => ⟨C, F, ρ, R, Post.bind h fun us ρ1 xs F1 H1 s1 R1 r1 h1 => by
    have r1 : VRs X.K C F1 H1 ρ1 σ xs us := r1
    cases q : keeps us ρ1 with
    | none => simp only [q] at h1; exact h1.elim
    | some p =>
      obtain ⟨ds, ρ2⟩ := p
      obtain ⟨F2, s2, R2, r2⟩ := VRs.keeps R1 r1 q
      simp only [q] at h1
      match ds, r2, h1 with
      | [.list ds1, .list ds2], r2, h1 =>
        obtain ⟨v1, v2, rfl, d1, d2⟩ := r2.two
        cases d1 with
        | lst a1 b1 =>
          cases d2 with
          | lst a2 b2 => exact ⟨_, _, _, _, rfl, R2.sub.seq a1, R2.sub.seq a2, h1 _ F2 H1 s2 R2 (itOk_zip a1 a2 b1 b2)⟩⟩
end
/-! ### xs.insert(i, x) -/
def mInsert : List D → List D → Option (D × List D)
  | xs, [.int i, d] => if decide (0 ≤ i) && (decide (i ≤ 100000) && decide (xs.length < 5000)) then some (.none, xs.take i.toNat ++ [d] ++ xs.drop i.toNat) else none
  | _, _ => none
def rIns : V → List V → Hp → VK → Prop := fun x vs H Q => ∃ (l : Addr) (xs : List V) (i : Int) (y : V), x = .ref l ∧ vs = [.int i, y] ∧ H l = some (.lst xs) ∧ xs.length < sizeLine ∧ 0 ≤ i ∧ i < 2 ^ 63 ∧
    Q .non (upd H l (.lst (xs.take i.toNat ++ [y] ++ xs.drop i.toNat)))
theorem md_insert {K : PySem.W.Frag} : MutD K rIns mInsert := by
  intro F H a vs ws xs ds ys z Q ha r rw' hg k
  match ds, rw', hg with
  | [.int i, d], rw', hg =>
    simp only [mInsert] at hg
    by_cases c : (decide (0 ≤ i) && (decide (i ≤ 100000) && decide (xs.length < 5000))) = true
    · rw [if_pos c] at hg
      cases hg
      simp only [Bool.and_eq_true, decide_eq_true_eq] at c
      obtain ⟨v, w, rfl, h1, h2⟩ := rw'.two
      have e := h1.intOf
      subst e
      exact ⟨a, vs, i, w, rfl, rfl, ha, by rw [r.length, PySem.sizeLine_eq]; omega, c.1, by omega, k _ _ .non (((r.take i.toNat).append (.one h2)).append (r.drop i.toNat))⟩
    · rw [if_neg c] at hg
      cases hg
end FB
/-! FWN: zip of two tuples too -/
namespace FB
open PySem PySem.Spec L2
def iZipT (a : MA) : MI := fun ρ => (a ρ).bind fun us ρ1 => match keeps us ρ1 with
  | some ([.list xs, .list ys], ρ2) => .ok (List.zipWith zpD xs ys) ρ2
  | some ([.tuple xs, .tuple ys], ρ2) => .ok (List.zipWith zpD xs ys) ρ2
  | _ => .bad
theorem itOk_zipT {K : PySem.W.Frag} {F1 : Hp} {a b : Addr} {vs ws : List V} {xs ys : List D} (ha : SqT K F1 a vs) (hb : SqT K F1 b ws) (r1 : DRs K F1 vs xs) (r2 : DRs K F1 ws ys) : ItOk K (RZ.ItzT K a b) F1 (List.zipWith zpD xs ys) where
  stop := fun i H s e => by
    rw [List.length_zipWith] at e
    refine ⟨vs, ws, seqT s ha, seqT s hb, ?_⟩
    rw [r1.length, r2.length]
    omega
  go := fun i H s e => by
    rw [List.length_zipWith] at e
    have l1 : i < vs.length := by rw [r1.length]; omega
    have l2 : i < ws.length := by rw [r2.length]; omega
    exact ⟨vs, ws, _, _, seqT s ha, seqT s hb, List.getElem?_eq_getElem l1, List.getElem?_eq_getElem l2⟩
  yld := fun i H v H' s y d e => by
    obtain ⟨T, x1, y1, rfl, hT, rfl, f1, f2⟩ := y
    obtain ⟨dx, dy, e1, e2, rfl⟩ := List.getElem?_zipWith_eq_some.mp e
    obtain ⟨u1, g1, q1⟩ := r1.get e1
    obtain ⟨u2, g2, q2⟩ := r2.get e2
    have h1 := f1 vs (seqT s ha)
    rw [g1] at h1
    cases h1
    have h2 := f2 ws (seqT s hb)
    rw [g2] at h2
    cases h2
    exact .inr ⟨T, _, hT, rfl, fun F sF hF => .zp upd_same ((q1.mono sF).mono (same_new hF)) ((q2.mono sF).mono (same_new hF))⟩
section
variable {X : Cx} {W : WX} {fs : MA}
theorem si_zipT {e e2 : Expr} {p pos tpos : Pos} {elts : List Expr} {kk : Nat} (hm : X.mg "zip" = none) (ha : SA X W [e, e2] fs) (hg : Gl X "zip" := by rfl) (hs : starEach [e, e2] X.env = (false, eval e X.env) :: starEach [e2] X.env := by rfl) (hpl : (backTo pos (starEach [e2] X.env)).any (·.1) = false := by rfl) :
    SI X W (.Tuple elts kk tpos) (.Call (.Name "zip" p) [e, e2] [] pos) (iZipT fs) :=
  PI.imp (RZ.pi_zipA hg hm ha hs hpl) fun σ H Q ⟨C, F, ρ, R, h⟩ => ⟨C, F, ρ, R, Post.bind h fun us ρ1 xs F1 H1 s1 R1 r1 h1 => by
    have r1 : VRs X.K C F1 H1 ρ1 σ xs us := r1
    cases q : keeps us ρ1 with
    | none => simp only [q] at h1; exact h1.elim
    | some p =>
      obtain ⟨ds, ρ2⟩ := p
      obtain ⟨F2, s2, R2, r2⟩ := VRs.keeps R1 r1 q
      simp only [q] at h1
      match ds, r2, h1 with
      | [.list ds1, .list ds2], r2, h1 =>
        obtain ⟨v1, v2, rfl, d1, d2⟩ := r2.two
        cases d1 with
        | lst a1 b1 =>
          cases d2 with
          | lst a2 b2 => exact ⟨_, _, _, _, rfl, .inl ⟨R2.sub.seq a1, R2.sub.seq a2, h1 _ F2 H1 s2 R2 (itOk_zip a1 a2 b1 b2)⟩⟩
      | [.tuple ds1, .tuple ds2], r2, h1 =>
        obtain ⟨v1, v2, rfl, d1, d2⟩ := r2.two
        cases d1 with
        | tup a1 n1 b1 =>
          cases d2 with
          | tup a2 n2 b2 => exact ⟨_, _, _, _, rfl, .inr ⟨seqT R2.sub a1, seqT R2.sub a2, h1 _ F2 H1 s2 R2 (itOk_zipT a1 a2 b1 b2)⟩⟩⟩
end
end FB
/-! FWG: sets of tuples of keys (texts, ints): the search, the addition. -/
namespace FBT
open PySem PySem.Spec L2 PyProof.Rows

/-! ### items carried by value -/
theorem cls_val (n : Nat) {v : Value} (h : carriedByValue v = true) : ofAClassStatement n v = pure false := by
  cases v with
  | ref a => simp [carriedByValue] at h
  | _ => cases n <;> rfl
theorem hash_val (n : Nat) {v : Value} (h : carriedByValue v = true) : ∃ b, hashByValue n v = pure b := by
  cases v with
  | ref a => simp [carriedByValue] at h
  | _ => cases n <;> exact ⟨_, rfl⟩

section
variable {P : Program} {w : World} {κ : Type} [DecidableEq κ] {kd : KeyKind P w κ} {A : Around} {E : Value → Shared → Prop} {s : Shared}
theorem cls_tup {k : List κ} {b : Addr} {Q : Bool → Shared → Prop} (hk : IsTupleKey kd s.heap k b) (h : Q false s) : wpAny (model P w) A (ofAClassStatement 8 (.ref b)) Q E s := by
  have hT := hk.typeIs
  obtain ⟨o, items, n, ho, _, hd, hi⟩ := hk
  unfold ofAClassStatement
  refine wpAny_bind (wpAny_typeOf hT ?_)
  dsimp only
  have e : (("tuple" : String) == "tuple") = true := by decide
  simp only [e, if_true, Bool.not_true, Bool.false_eq_true, if_false]
  try refine wpAny_bind (wpAny_pure ?_)
  try simp only [Bool.not_true, Bool.false_eq_true, if_false]
  show wpAny _ _ (seqItems? (.ref b) >>= _) _ _ s
  refine wpAny_bind (wpAny_seqItems ho hd ?_)
  dsimp only
  refine wpAny_bind ?_
  show wpAny _ _ (forIn items _ _) _ _ s
  rw [← Array.forIn_toList]
  refine wpAny_forIn_list _ (fun rest r s' => r.1 = none ∧ s' = s ∧ ∀ v ∈ rest, carriedByValue v = true) _ ?_ ?_ _ _ ⟨rfl, rfl, hi.byValue⟩
  · rintro v rest r s' ⟨hr, rfl, all⟩
    rw [cls_val _ (all v List.mem_cons_self)]
    refine wpAny_bind (wpAny_pure ?_)
    simp only [Bool.false_eq_true, if_false]
    exact wpAny_pure ⟨rfl, rfl, fun u hu => all u (List.mem_cons_of_mem _ hu)⟩
  · rintro ⟨r1, r2⟩ s' ⟨hr, rfl, _⟩
    simp only at hr
    subst hr
    exact wpAny_pure h
theorem hash_tup {k : List κ} {b : Addr} {Q : Bool → Shared → Prop} (hk : IsTupleKey kd s.heap k b) (h : ∀ c, Q c s) : wpAny (model P w) A (hashByValue 8 (.ref b)) Q E s := by
  have hT := hk.typeIs
  obtain ⟨o, items, n, ho, _, hd, hi⟩ := hk
  unfold hashByValue
  refine wpAny_bind (wpAny_specialOf hT F.slot_tuple_hash.lookup ?_)
  show wpAny _ _ (seqItems? (.ref b) >>= _) _ _ s
  refine wpAny_bind (wpAny_seqItems ho hd ?_)
  refine wpAny_bind ?_
  show wpAny _ _ (forIn items _ _) _ _ s
  rw [← Array.forIn_toList]
  refine wpAny_forIn_list _ (fun rest r s' => s' = s ∧ ∀ v ∈ rest, carriedByValue v = true) _ ?_ ?_ _ _ ⟨rfl, hi.byValue⟩
  · rintro v rest r s' ⟨rfl, all⟩
    obtain ⟨c, ec⟩ := hash_val 7 (all v List.mem_cons_self)
    rw [ec]
    refine wpAny_bind (wpAny_pure ?_)
    cases c
    · simp only [Bool.not_false, if_true]
      exact wpAny_pure (wpAny_pure (h _))
    · simp only [Bool.not_true, Bool.false_eq_true, if_false]
      exact wpAny_pure ⟨rfl, fun u hu => all u (List.mem_cons_of_mem _ hu)⟩
  · rintro ⟨r1, r2⟩ s' ⟨rfl, _⟩
    cases r1 with
    | none => exact wpAny_pure (h _)
    | some z => exact wpAny_pure (h _)

/-! ### who might see the search -/
theorem unseen {k : List κ} {b : Addr} {Q : Bool → Shared → Prop} (hk : IsTupleKey kd s.heap k b) {ys : List Value} (hy : ∀ y ∈ ys, ∃ (k' : List κ) (c : Addr), y = Value.ref c ∧ IsTupleKey kd s.heap k' c) (h : Q false s) :
    wpAny (model P w) A (searchCouldBeSeen (.ref b) ys) Q E s := by
  unfold searchCouldBeSeen
  refine wpAny_bind (wpAny_forIn_list _ (fun rest r s' => r.1 = none ∧ s' = s ∧ ∀ y ∈ rest, ∃ (k' : List κ) (c : Addr), y = Value.ref c ∧ IsTupleKey kd s.heap k' c) _ ?_ ?_ _ _ ⟨rfl, rfl, hy⟩)
  · rintro v rest r s' ⟨hr, rfl, all⟩
    obtain ⟨k', c, rfl, hc⟩ := all v List.mem_cons_self
    have go := fun u hu => all u (List.mem_cons_of_mem _ hu)
    dsimp only
    by_cases hv : (b == c || (carriedByValue (.ref b) && carriedByValue (.ref c))) = true
    · exact wp_if_pos hv (wpAny_pure ⟨rfl, rfl, go⟩)
    · refine wp_if_neg hv (wpAny_bind (wpAny_eqIsQuiet_tuple hk ?_))
      simp only [Bool.not_true, Bool.false_eq_true, if_false]
      refine wpAny_bind (wpAny_eqIsQuiet_tuple hc ?_)
      simp only [Bool.not_true, Bool.false_eq_true, if_false]
      refine wpAny_bind (cls_tup hk ?_)
      simp only [Bool.false_eq_true, if_false]
      refine wpAny_bind (cls_tup hc ?_)
      simp only [Bool.false_eq_true, if_false]
      exact wpAny_pure ⟨rfl, rfl, go⟩
  · rintro ⟨r1, r2⟩ s' ⟨hr, rfl, _⟩
    simp only at hr
    subst hr
    exact wpAny_pure h
end
/-! ### the set -/
section
variable {P : Program} {w : World} {κ : Type} [DecidableEq κ]
def rows (kd : KeyKind P w κ) (L : List (Addr × List κ)) : List (Int × Value) := L.map fun p => (tupleKeyHash kd p.2, Value.ref p.1)
/-- the tuples L stand in the set at S; behind it the table t -/
structure Has (kd : KeyKind P w κ) (h : Heap) (S : Addr) (L : List (Addr × List κ)) (es : Array (Int × Value)) (ep : Nat) (t : SetTable) : Prop where
  ob : ∃ o, h.get? S = some o ∧ o.ExactSet ∧ o.data = .set es ep t
  row : es.toList = rows kd L
  tab : TabOk t (L.map fun p => tupleKeyHash kd p.2)
  nd : (L.map (·.2)).Nodup
  key : ∀ p ∈ L, IsTupleKey kd h p.2 p.1
  room : L.length * 5 < t.mask * 3
  few : L.length < 64
theorem rows_size {kd : KeyKind P w κ} {L : List (Addr × List κ)} {es : Array (Int × Value)} (h : es.toList = rows kd L) : es.size = L.length := by
  rw [← Array.length_toList, h]
  exact List.length_map _
theorem rows_get {kd : KeyKind P w κ} {L : List (Addr × List κ)} {es : Array (Int × Value)} (h : es.toList = rows kd L) {i : Nat} {p : Addr × List κ} (hp : L[i]? = some p) : es[i]? = some (tupleKeyHash kd p.2, Value.ref p.1) := by
  rw [← Array.getElem?_toList, h]
  unfold rows
  rw [List.getElem?_map, hp]
  rfl
variable {kd : KeyKind P w κ} {A : Around} {E : Value → Shared → Prop} {s : Shared} {S : Addr} {L : List (Addr × List κ)} {es : Array (Int × Value)} {ep : Nat} {t : SetTable}
theorem fits_of (h1 : t.place.size = es.size) (h2 : t.dummies = #[]) (h3 : es.size ≤ t.mask) : t.fits es.size = true := by
  unfold SetTable.fits SetTable.fill
  rw [h2, Bool.and_eq_true, beq_iff_eq, decide_eq_true_eq]
  exact ⟨h1, by show t.place.size + 0 ≤ t.mask; omega⟩
theorem Has.place (R : Has kd s.heap S L es ep t) : t.place.size = L.length := by
  have h := R.tab.sz
  rwa [List.length_map] at h
theorem Has.fits (R : Has kd s.heap S L es ep t) : t.fits es.size = true :=
  fits_of (by rw [R.place, rows_size R.row]) R.tab.dm (by have := R.room; rw [rows_size R.row]; omega)
theorem Has.get (R : Has kd s.heap S L es ep t) {i : Nat} {p : Addr × List κ} (h : L[i]? = some p) : es[i]? = some (tupleKeyHash kd p.2, Value.ref p.1) := rows_get R.row h
theorem Has.stood (R : Has kd s.heap S L es ep t) : ¬ t.gaveWay = true := by
  unfold SetTable.gaveWay
  rw [mask_odd R.tab.mok]
  decide
/-- a tuple isn't the set -/
theorem key_other {h h' : Heap} {k : List κ} {b : Addr} {o : Obj} (hb : IsTupleKey kd h k b) (ho : h.get? S = some o) (hd : o.data = .set es ep t) (hs : Heap.SameBut S h h') : IsTupleKey kd h' k b := by
  obtain ⟨o', items, n, ho', hc, hd', hi⟩ := hb
  have ne : b ≠ S := by
    rintro rfl
    obtain rfl : o' = o := Option.some.inj (ho'.symm.trans ho)
    rw [hd] at hd'
    cases hd'
  exact ⟨o', items, n, (hs.2 b ne).trans ho', hc, hd', hi⟩
theorem key_keep {h h' : Heap} {k : List κ} {b : Addr} (x : IsTupleKey kd h k b) (hk : ∀ c o, h.get? c = some o → h'.get? c = some o) : IsTupleKey kd h' k b :=
  let ⟨o, items, n, ho, r⟩ := x
  ⟨o, items, n, hk b o ho, r⟩
theorem Has.keep {h h' : Heap} (R : Has kd h S L es ep t) (ha : ∀ o, h.get? S = some o → h'.get? S = some o) (ht : ∀ p ∈ L, IsTupleKey kd h' p.2 p.1) : Has kd h' S L es ep t :=
  let ⟨o, ho, r⟩ := R.ob
  ⟨⟨o, ha o ho, r⟩, R.row, R.tab, R.nd, ht, R.room, R.few⟩
theorem has_fresh {h : Heap} {led : Bool} (ho : h.get? S = some (FBS.emptySet led)) : Has kd h S [] #[] 0 (.fresh 0 0 led) where
  ob := ⟨_, ho, ⟨rfl, rfl, rfl⟩, rfl⟩
  row := rfl
  tab := ⟨List.Pairwise.nil, rfl, rfl, .inl rfl, fun x hx => (by cases hx), fun i h j hi => (by simp at hi)⟩
  nd := List.nodup_nil
  key := fun p hp => (by cases hp)
  room := by show 0 * 5 < 7 * 3; decide
  few := by show 0 < 64; decide

/-- the state of a search after c steps -/
abbrev stp (t : SetTable) (h : Int) (c : Nat) : SetTable.Probe := nth t.mask (runAt t.mask (SetTable.bits h % (t.mask + 1)) (SetTable.bits h)) c
theorem stp_add (t : SetTable) (h : Int) (c q : Nat) : nth t.mask (stp t h c) q = stp t h (c + q) := (nth_add t.mask c _ q).symm
theorem stp_clean (t : SetTable) (h : Int) : ∀ c, (stp t h c).dummy = none := by
  have one : ∀ p : SetTable.Probe, p.dummy = none → (adv t.mask p).dummy = none := fun p hp => by
    unfold adv
    split <;> exact hp
  have many : ∀ (n : Nat) (p : SetTable.Probe), p.dummy = none → (nth t.mask p n).dummy = none := by
    intro n
    induction n with
    | zero => intro p hp; exact hp
    | succ n ih => intro p hp; exact ih _ (one p hp)
  exact fun c => many c _ rfl
end
end FBT
namespace FBT
open PySem PySem.Spec L2 PyProof.Rows
section
variable {P : Program} {w : World} {κ : Type} [DecidableEq κ] {kd : KeyKind P w κ} {A : Around} {E : Value → Shared → Prop} {s : Shared} {S : Addr} {L : List (Addr × List κ)} {es : Array (Int × Value)} {ep : Nat} {t : SetTable}
set_option maxHeartbeats 1600000 in
/-- THE SEARCH, from its c-th step on: K is the first empty slot of the way -/
theorem seek (R : Has kd s.heap S L es ep t) {x : Addr} {k : List κ} (hx : IsTupleKey kd s.heap k x) (hu : A.units < cLine) {K : Nat} (hf : K < 10 * SetTable.turns t.mask)
    (out : way t.mask (tupleKeyHash kd k) K ∉ t.place.toList) (bef : ∀ c, c < K → way t.mask (tupleKeyHash kd k) c ∈ t.place.toList) {Q : SetFound → Shared → Prop}
    (yes : k ∈ L.map (·.2) → Q (.there none) s) (no : k ∉ L.map (·.2) → Q (.free (way t.mask (tupleKeyHash kd k) K) false) s) :
    ∀ (f c : Nat) (st : Option SetTable.Probe), st.getD (t.probeStart (tupleKeyHash kd k)) = stp t (tupleKeyHash kd k) c → c ≤ K → K - c < f →
      (∀ (i : Nat) p, L[i]? = some p → p.2 = k → ∃ c', c ≤ c' ∧ c' < K ∧ t.place.toList[i]? = some (way t.mask (tupleKeyHash kd k) c')) →
      wpAny (model P w) A (setSearchFrom S (.ref x) (tupleKeyHash kd k) true f st) Q E s := by
  obtain ⟨o, ho, hex, hd⟩ := R.ob
  generalize hh : tupleKeyHash kd k = hk at *
  have there : ∀ {i : Nat} {p : Addr × List κ}, L[i]? = some p → (fun i => (es[i]?.map (·.1)).getD 0) i = tupleKeyHash kd p.2 := fun {i p} hp => by
    show (es[i]?.map (·.1)).getD 0 = _
    rw [R.get hp]
    rfl
  intro f
  induction f with
  | zero => intro c st _ _ hf'; exact absurd hf' (Nat.not_lt_zero _)
  | succ f ih =>
    intro c st hst hc hf' ahead
    rw [setSearchFrom_succ]
    refine wpAny_bind (wpAny_setState_of ho hd R.fits ?_)
    dsimp only
    refine wp_if_neg R.stood ?_
    try refine wpAny_bind (wpAny_pure ?_)
    have slotOf : ∀ q, (nth t.mask (stp t hk c) q).j = way t.mask hk (c + q) := fun q => congrArg SetTable.Probe.j (stp_add t hk c q)
    have lastSlot : way t.mask hk (c + (K - c)) = way t.mask hk K := by rw [show c + (K - c) = K by omega]
    rcases go_spec t R.tab.ris R.tab.dm (fun i => (es[i]?.map (·.1)).getD 0) hk (10 * SetTable.turns t.mask) (K - c) (stp t hk c) (stp_clean t hk c) (by omega) (fun q hq => by rw [slotOf]; exact bef (c + q) (by omega)) (by rw [slotOf, lastSlot]; exact out)
      with ⟨q, i, hq, hi, he, clear, found⟩ | ⟨clear, found⟩
    · have found' : t.probe (fun i => (es[i]?.map (·.1)).getD 0) hk (st.getD (t.probeStart hk)) = some (.candidate (way t.mask hk (c + q)) i (stp t hk (c + (q + 1)))) := by
        rw [hst, ← slotOf, ← stp_add]
        exact found
      rw [found']
      dsimp only
      rw [slotOf] at hi
      have hiL : i < L.length := by
        have h1 := (List.getElem?_eq_some_iff.mp hi).1
        rw [Array.length_toList, R.place] at h1
        exact h1
      obtain ⟨p, hp⟩ : ∃ p, L[i]? = some p := ⟨_, List.getElem?_eq_getElem hiL⟩
      have pL : p ∈ L := List.mem_of_getElem? hp
      have live : t.slot (way t.mask hk (c + q)) = .live i := slot_live R.tab.ris hi
      have rest : wpAny (model P w) A (searchRest S (.ref x) hk true f es t (way t.mask hk (c + q)) i (stp t hk (c + (q + 1)))) Q E s := by
        unfold searchRest
        rw [R.get hp]
        dsimp only
        refine wpAny_bind (wpAny_holding (wpAny_eqBool_tuple hu (R.key p pL) hx (wpAny_bind (wpAny_setState_of ho hd R.fits ?_))))
        dsimp only
        by_cases same : p.2 = k
        · exact wp_if_pos (by simp [same]) (wpAny_pure (yes (List.mem_map.mpr ⟨p, pL, same⟩)))
        · refine wp_if_neg (by simp [same]) ?_
          try refine wpAny_bind (wpAny_pure ?_)
          rw [sameMem]
          dsimp only
          simp only [if_true, live, R.get hp]
          refine wpAny_bind (wpAny_isSame_ref_self (wpAny_bind (wpAny_pure ?_)))
          simp only [if_true]
          refine wp_if_neg (by simp [same]) (ih (c + (q + 1)) _ rfl (by omega) (by omega) fun i0 p0 h0 e0 => ?_)
          obtain ⟨c', a1, a2, a3⟩ := ahead i0 p0 h0 e0
          refine ⟨c', ?_, a2, a3⟩
          have notBefore : ¬ c' < c + q := fun z => clear (c' - c) i0 (by omega) (by rw [slotOf, show c + (c' - c) = c' by omega]; exact a3) ((there h0).trans (by rw [e0]; exact hh))
          have notHere : c' ≠ c + q := fun z => by
            rw [z] at a3
            have l2 := slot_live R.tab.ris a3
            rw [live] at l2
            injection l2 with l2
            rw [← l2, hp] at h0
            cases h0
            exact same e0
          omega
      by_cases led : t.led = true
      · refine wp_if_neg (by simp [led]) ?_
        try refine wpAny_bind (wpAny_pure ?_)
        exact rest
      · refine wp_if_pos (by simp [led]) (wpAny_bind (unseen (kd := kd) hx (fun y hy => ?_) ?_))
        · obtain ⟨e, he', ee⟩ := List.mem_map.mp hy
          have he1 : e ∈ es ∧ e.1 = hk := by simpa using he'
          have he2 : e ∈ es.toList := by simpa using he1.1
          rw [R.row] at he2
          obtain ⟨p2, hp2, e2⟩ := List.mem_map.mp he2
          exact ⟨p2.2, p2.1, by rw [← ee, ← e2], R.key p2 hp2⟩
        · refine wp_if_neg (by decide) ?_
          try refine wpAny_bind (wpAny_pure ?_)
          exact rest
    · have found' : t.probe (fun i => (es[i]?.map (·.1)).getD 0) hk (st.getD (t.probeStart hk)) = some (.empty (way t.mask hk K) none) := by
        rw [hst, ← lastSlot, ← slotOf]
        exact found
      rw [found']
      dsimp only
      refine wpAny_pure (no fun hm => ?_)
      obtain ⟨p0, h0, e0⟩ := List.mem_map.mp hm
      obtain ⟨i0, h00⟩ := List.getElem?_of_mem h0
      obtain ⟨c', a1, a2, a3⟩ := ahead i0 p0 h00 e0
      exact clear (c' - c) i0 (by omega) (by rw [slotOf, show c + (c' - c) = c' by omega]; exact a3) ((there h00).trans (by rw [e0]; exact hh))
theorem seek_all (R : Has kd s.heap S L es ep t) {x : Addr} {k : List κ} (hx : IsTupleKey kd s.heap k x) (hu : A.units < cLine) {Q : SetFound → Shared → Prop} (yes : k ∈ L.map (·.2) → Q (.there none) s)
    (no : ∀ K, k ∉ L.map (·.2) → way t.mask (tupleKeyHash kd k) K ∉ t.place.toList → (∀ c, c < K → way t.mask (tupleKeyHash kd k) c ∈ t.place.toList) → Q (.free (way t.mask (tupleKeyHash kd k) K) false) s) :
    wpAny (model P w) A (setSearch S (.ref x) (tupleKeyHash kd k) true) Q E s := by
  have room := R.room
  obtain ⟨K, hf, out, bef⟩ := R.tab.first (by rw [List.length_map]; omega) (tupleKeyHash kd k)
  have small : 10 * SetTable.turns t.mask ≤ 1420 := by
    unfold SetTable.turns
    rcases R.tab.mok with e | e | e <;> omega
  unfold setSearch
  refine seek R hx hu hf out bef yes (fun n => no K n out bef) 100000 0 none rfl (Nat.zero_le _) (by omega) fun i p hp hk => ?_
  have hi : (L.map fun p => tupleKeyHash kd p.2)[i]? = some (tupleKeyHash kd k) := by
    rw [List.getElem?_map, hp, ← hk]
    rfl
  have il : i < t.place.toList.length := by
    rw [Array.length_toList, R.place]
    exact (List.getElem?_eq_some_iff.mp hp).1
  have hj := List.getElem?_eq_getElem il
  obtain ⟨c, hc, e⟩ := R.tab.before out hi hj
  exact ⟨c, Nat.zero_le _, hc, by rw [hj, e]⟩
end
end FBT
namespace FBT
open PySem PySem.Spec L2 PyProof.Rows
section
variable {P : Program} {w : World} {κ : Type} [DecidableEq κ] {kd : KeyKind P w κ} {A : Around} {E : Value → Shared → Prop} {s : Shared} {S : Addr} {L : List (Addr × List κ)} {es : Array (Int × Value)} {ep : Nat} {t : SetTable}
/-- picking the rows anew, in an order of all -/
theorem picked {order : Array Nat} (hr : es.toList = rows kd L) (hp : order.toList.Perm (List.range L.length)) :
    ∃ L2 : List (Addr × List κ), (order.filterMap (es[·]?)).toList = rows kd L2 ∧ L2.Perm L ∧ (L2.map fun p => tupleKeyHash kd p.2) = order.toList.map fun i => (es.map (·.1)).getD i 0 := by
  have each : ∀ l : List Nat, (∀ i ∈ l, i < L.length) → l.filterMap (es[·]?) = rows kd (l.filterMap (L[·]?)) ∧ ((l.filterMap (L[·]?)).map fun p => tupleKeyHash kd p.2) = l.map fun i => (es.map (·.1)).getD i 0 := by
    intro l
    induction l with
    | nil => intro _; exact ⟨rfl, rfl⟩
    | cons i l ih =>
      intro hl
      have hi := List.getElem?_eq_getElem (hl i List.mem_cons_self)
      generalize L[i]'(hl i List.mem_cons_self) = p at hi
      have he : es[i]? = some (tupleKeyHash kd p.2, Value.ref p.1) := rows_get hr hi
      obtain ⟨e1, e2⟩ := ih fun j hj => hl j (List.mem_cons_of_mem _ hj)
      refine ⟨?_, ?_⟩
      · rw [List.filterMap_cons_some he, List.filterMap_cons_some hi, e1]
        rfl
      · rw [List.filterMap_cons_some hi, List.map_cons, List.map_cons, e2]
        have e5 : (es.map (·.1))[i]? = some (tupleKeyHash kd p.2) := by rw [Array.getElem?_map, he]; rfl
        have e6 : (es.map (·.1)).getD i 0 = tupleKeyHash kd p.2 := by simp [Array.getD_eq_getD_getElem?, e5]
        rw [e6]
  have whole : (List.range L.length).filterMap (L[·]?) = L := by
    have upto : ∀ n, n ≤ L.length → (List.range n).filterMap (L[·]?) = L.take n := by
      intro n
      induction n with
      | zero => intro _; rfl
      | succ n ih =>
        intro hn
        have hl : n < L.length := hn
        rw [List.range_succ, List.filterMap_append, ih (Nat.le_of_lt hl), List.take_succ, List.getElem?_eq_getElem hl, List.filterMap_cons_some (List.getElem?_eq_getElem hl)]
        rfl
    rw [upto L.length (Nat.le_refl _), List.take_length]
  obtain ⟨e1, e2⟩ := each order.toList fun i hi => List.mem_range.mp (hp.mem_iff.mp hi)
  refine ⟨order.toList.filterMap (L[·]?), by first | (rw [Array.toList_filterMap]; exact e1) | simpa using e1, ?_, e2⟩
  have h := hp.filterMap (L[·]?)
  rwa [whole] at h

/-- a larger table is laid -/
theorem lay {o : Obj} (ho : s.heap.get? S = some o) (hex : o.ExactSet) (hd : o.data = .set es ep t) (hrow : es.toList = rows kd L) (hsz : t.place.size = es.size) (hdm : t.dummies = #[]) (hfl : es.size ≤ t.mask)
    (nd : (L.map (·.2)).Nodup) (key : ∀ p ∈ L, IsTupleKey kd s.heap p.2 p.1) (few : L.length < 64) {wanted M : Nat}
    (hw : SetTable.sizeAbove wanted - 1 = M) (hM : MaskOk M) (hw2 : SetTable.sizeAbove wanted ≤ 128) (hn : L.length * 5 < M * 3) {Q : Unit → Shared → Prop}
    (hQ : ∀ h' L' es' ep' t', Heap.SameBut S s.heap h' → Has kd h' S L' es' ep' t' → L'.Perm L → Q () { s with heap := h' }) : wpAny (model P w) A (setRelay S wanted) Q E s := by
  have hl := rows_size hrow
  obtain ⟨t', order, e, hp, T, em, el, _, ed⟩ := relaid_ok t (hs := es.map (·.1)) (wanted := wanted) hw hM (by rw [Array.size_map, hl]; omega)
  rw [Array.size_map, hl] at hp
  obtain ⟨L2, r1, r2, r3⟩ := picked (kd := kd) hrow hp
  rw [← r3] at T
  have hs2 : (order.filterMap (es[·]?)).size = es.size := by rw [rows_size r1, r2.length_eq, hl]
  rw [setRelay_eq]
  refine wpAny_bind (wpAny_setState_of ho hd (fits_of hsz hdm hfl) ?_)
  dsimp only
  refine wp_if_neg (by rw [sizeLine_eq]; omega) ?_
  try refine wpAny_bind (wpAny_pure ?_)
  rw [e]
  dsimp only
  refine wpAny_bind (wp_if_neg (by rw [hs2]; simp) ?_)
  try refine wpAny_bind (wpAny_pure ?_)
  refine wpAny_pure ?_
  dsimp only
  refine wpAny_storeSet_of ho hd ?_ (by rw [hs2, hl, sizeLine_eq]; omega)
  have but : Heap.SameBut S s.heap (s.heap.update S (Obj.putSet (order.filterMap (es[·]?)) t')) := Heap.SameBut.update ..
  exact hQ _ L2 (order.filterMap (es[·]?)) (ep + 1) t' but ⟨⟨_, store_at ho hd, ⟨hex.1, hex.2.1, hex.2.2⟩, rfl⟩, r1, T, (r2.map (·.2)).nodup_iff.mpr nd, fun p hpm => key_other (key p (r2.mem_iff.mp hpm)) ho hd but, by rw [r2.length_eq, em]; exact hn, by rw [r2.length_eq]; exact few⟩ r2

/-- a table's word is not changed by what is known of its hashes -/
theorem plain_off {t : SetTable} {hs : List Int} (T : TabOk t hs) (b : Bool) : TabOk (if b = true then t else { t with plain := false }) hs := by
  cases b
  · exact ⟨T.ris, T.dm, T.sz, T.mok, T.bd, T.reach⟩
  · exact T
theorem plain_mask (t : SetTable) (b : Bool) : (if b = true then t else { t with plain := false }).mask = t.mask := by
  cases b <;> rfl
theorem plain_fill (t : SetTable) (b : Bool) : (if b = true then t else { t with plain := false }).fill = t.fill := by
  cases b <;> rfl

set_option maxHeartbeats 1600000 in
/-- behind the storing -/
theorem put_in {o : Obj} (ho : s.heap.get? S = some o) (hex : o.ExactSet) (hd : o.data = .set es ep t) {L1 : List (Addr × List κ)} {es1 : Array (Int × Value)} {t1 : SetTable} (row : es1.toList = rows kd L1) (T : TabOk t1 (L1.map fun p => tupleKeyHash kd p.2))
    (nd : (L1.map (·.2)).Nodup) (key : ∀ p ∈ L1, IsTupleKey kd s.heap p.2 p.1) (few : L1.length < 64) (fill : t1.fill = L1.length) (old : (L1.length - 1) * 5 < t1.mask * 3) (pos : 0 < L1.length) {Q : Bool → Shared → Prop}
    (hQ : ∀ h' L' es' ep' t', Heap.SameBut S s.heap h' → Has kd h' S L' es' ep' t' → L'.Perm L1 → Q true { s with heap := h' }) :
    wpAny (model P w) A (do
      storeSet S es1 t1
      if t1.tooFull then setRelay S (SetTable.grown es1.size)
      return true) Q E s := by
  have hl := rows_size row
  have at1 := store_at (es' := es1) (t' := t1) ho hd
  have but1 : Heap.SameBut S s.heap (s.heap.update S (Obj.putSet es1 t1)) := Heap.SameBut.update ..
  refine wpAny_bind (wpAny_storeSet_of ho hd ?_ (by rw [hl, sizeLine_eq]; omega))
  have key1 : ∀ p ∈ L1, IsTupleKey kd (s.heap.update S (Obj.putSet es1 t1)) p.2 p.1 := fun p hp => key_other (key p hp) ho hd but1
  have place1 : t1.place.size = es1.size := by
    have h := T.sz
    rw [List.length_map] at h
    rw [h, hl]
  have full_iff : t1.tooFull = true ↔ L1.length * 5 ≥ t1.mask * 3 := by
    unfold SetTable.tooFull
    rw [decide_eq_true_eq, fill]
  by_cases full : t1.tooFull = true
  · have f := full_iff.mp full
    have two : (t1.mask = 7 ∧ L1.length = 5) ∨ (t1.mask = 31 ∧ L1.length = 19) := by
      rcases T.mok with e | e | e
      · left; rw [e] at f old; exact ⟨e, by omega⟩
      · right; rw [e] at f old; exact ⟨e, by omega⟩
      · exfalso; rw [e] at f; omega
    have go : ∀ M, SetTable.sizeAbove (SetTable.grown L1.length) - 1 = M → MaskOk M → SetTable.sizeAbove (SetTable.grown L1.length) ≤ 128 → L1.length * 5 < M * 3 →
        wpAny (model P w) A (setRelay S (SetTable.grown es1.size)) (fun _ s' => wpAny (model P w) A (pure true) Q E s') E { s with heap := s.heap.update S (Obj.putSet es1 t1) } := fun M a1 a2 a3 a4 => by
      rw [hl]
      refine lay (s := { s with heap := s.heap.update S (Obj.putSet es1 t1) }) at1 ⟨hex.1, hex.2.1, hex.2.2⟩ rfl row place1 T.dm (by rw [hl]; rcases two with ⟨e, e2⟩ | ⟨e, e2⟩ <;> rw [e, e2] <;> decide) nd key1 few a1 a2 a3 a4 fun h2 L2 es2 ep2 t2 but2 R2 pm => ?_
      exact wpAny_pure (hQ h2 L2 es2 ep2 t2 (but1.trans but2) R2 pm)
    first
      | (refine wp_if_pos full ?_; refine wpAny_bind ?_)
      | (refine wpAny_bind ?_; refine wp_if_pos full ?_)
    rcases two with ⟨_, e2⟩ | ⟨_, e2⟩
    · exact go 31 (by rw [e2, size_20]) (.inr (.inl rfl)) (by rw [e2, size_20]; decide) (by omega)
    · exact go 127 (by rw [e2, size_76]) (.inr (.inr rfl)) (by rw [e2, size_76]; decide) (by omega)
  · first
      | refine wp_if_neg full ?_
      | (refine wpAny_bind ?_; refine wp_if_neg full ?_; refine wpAny_pure ?_)
    try refine wpAny_bind (wpAny_pure ?_)
    have nf : ¬ L1.length * 5 ≥ t1.mask * 3 := fun z => full (full_iff.mpr z)
    exact wpAny_pure (hQ _ L1 es1 (ep + 1) t1 but1 ⟨⟨_, at1, ⟨hex.1, hex.2.1, hex.2.2⟩, rfl⟩, row, T, nd, key1, by omega, few⟩ (List.Perm.refl _))

set_option maxHeartbeats 1600000 in
/-- THE ADDITION -/
theorem add (R : Has kd s.heap S L es ep t) {x : Addr} {k : List κ} (hx : IsTupleKey kd s.heap k x) (hu : A.units < cLine) (few : L.length + 1 < 64) {Q : Bool → Shared → Prop}
    (hQ : ∀ b h' L' es' ep' t', Heap.SameBut S s.heap h' → Has kd h' S L' es' ep' t' → (k ∈ L.map (·.2) → L' = L) → (k ∉ L.map (·.2) → L'.Perm ((x, k) :: L)) → Q b { s with heap := h' }) :
    wpAny (model P w) A (setAddHashed S (.ref x) (tupleKeyHash kd k)) Q E s := by
  obtain ⟨o, ho, hex, hd⟩ := R.ob
  have hl := rows_size R.row
  have room := R.room
  unfold setAddHashed
  refine wpAny_holding ?_
  rw [show (100000 : Nat) = 99999 + 1 from rfl, setAddHashedIn_succ]
  refine wpAny_bind (wpAny_setState_of ho hd R.fits ?_)
  dsimp only
  refine wp_if_neg (by simp [byScan, Value.scannable]) ?_
  try refine wpAny_bind (wpAny_pure ?_)
  refine wpAny_bind (seek_all R hx hu (fun hm => ?_) fun K hm out bef => ?_)
  · dsimp only
    exact wpAny_pure (hQ false s.heap L es ep t (Heap.SameBut.refl S s.heap) R (fun _ => rfl) fun z => absurd hm z)
  · dsimp only
    refine wpAny_bind (wpAny_setState_of ho hd R.fits ?_)
    dsimp only
    obtain ⟨q1, q2, q3, q4, _, _, _, _, q9⟩ := R.tab.put out bef
    generalize t.put (way t.mask (tupleKeyHash kd k) K) = pt at q1 q3 q4 q9 ⊢
    obtain ⟨t1, p⟩ := pt
    dsimp only at q1 q3 q4 q9 ⊢
    subst q1
    generalize SetTable.below t.place (way t.mask (tupleKeyHash kd k) K) = p at q2 q3 ⊢
    have pm : (L.take p ++ (x, k) :: L.drop p).Perm ((x, k) :: L) := put_perm L p (x, k)
    have row : (SetTable.insertAt es p (tupleKeyHash kd k, Value.ref x)).toList = rows kd (L.take p ++ (x, k) :: L.drop p) := by
      rw [SetTable.toList_insertAt, R.row]
      unfold rows
      rw [List.map_append, List.map_cons, List.map_take, List.map_drop]
    have hhs : (L.take p ++ (x, k) :: L.drop p).map (fun p => tupleKeyHash kd p.2) = (L.map fun p => tupleKeyHash kd p.2).take p ++ tupleKeyHash kd k :: (L.map fun p => tupleKeyHash kd p.2).drop p := by
      rw [List.map_append, List.map_cons, List.map_take, List.map_drop]
    rw [← hhs] at q3
    have len1 : (L.take p ++ (x, k) :: L.drop p).length = L.length + 1 := pm.length_eq
    have nd1 : ((L.take p ++ (x, k) :: L.drop p).map (·.2)).Nodup := by
      refine (pm.map (·.2)).nodup_iff.mpr ?_
      rw [List.map_cons]
      exact List.nodup_cons.mpr ⟨hm, R.nd⟩
    have key1 : ∀ q ∈ L.take p ++ (x, k) :: L.drop p, IsTupleKey kd s.heap q.2 q.1 := fun q hq => by
      rcases List.mem_cons.mp (pm.mem_iff.mp hq) with e | hq
      · rw [e]; exact hx
      · exact R.key q hq
    rw [List.length_map] at q9
    generalize SetTable.insertAt es p (tupleKeyHash kd k, Value.ref x) = es1 at row ⊢
    generalize L.take p ++ (x, k) :: L.drop p = L1 at pm row q3 len1 nd1 key1
    have fin : ∀ b : Bool, wpAny (model P w) A (do
        storeSet S es1 (if b = true then t1 else { t1 with plain := false })
        if (if b = true then t1 else { t1 with plain := false }).tooFull then setRelay S (SetTable.grown es1.size)
        return true) Q E s := fun b =>
      put_in ho hex hd row (plain_off q3 b) nd1 key1 (by omega) (by rw [plain_fill, q9, len1]) (by rw [plain_mask, q4, len1]; exact room) (by omega)
        fun h' L' es' ep' t' but R' pm' => hQ true h' L' es' ep' t' but R' (fun z => absurd z hm) fun _ => pm'.trans pm
    have same : ∀ b : Bool, (do
        storeSet S es1 (if b = true then t1 else { t1 with plain := false })
        if (!false && (if b = true then t1 else { t1 with plain := false }).tooFull) = true then setRelay S (SetTable.grown (es.size + 1))
        return true : Sem Bool) = (do
        storeSet S es1 (if b = true then t1 else { t1 with plain := false })
        if (if b = true then t1 else { t1 with plain := false }).tooFull then setRelay S (SetTable.grown es1.size)
        return true) := fun b => by
      rw [rows_size row, len1, hl]
      simp only [Bool.not_false, Bool.true_and]
    by_cases pl : t1.plain = true
    · first
        | (refine wpAny_bind ?_; refine wp_if_pos pl ?_; refine hash_tup hx fun b => ?_)
        | refine wp_if_pos pl (wpAny_bind (hash_tup hx fun b => ?_))
      first
        | (refine Eq.mpr (congrArg (fun m => wpAny (model P w) A m Q E s) (same b)) (fin b))
        | (rw [same b]; exact fin b)
        | exact (same b) ▸ fin b
    · first
        | (refine wpAny_bind ?_; refine wp_if_neg pl ?_; refine wpAny_pure ?_)
        | (refine wp_if_neg pl ?_; try refine wpAny_bind (wpAny_pure ?_))
      first
        | (refine Eq.mpr (congrArg (fun m => wpAny (model P w) A m Q E s) (same true)) (fin true))
        | (rw [same true]; exact fin true)
        | exact (same true) ▸ fin true
end
end FBT
namespace FBT
open PySem PySem.Spec L2 PyProof.Rows
/-- what the set has got -/
def Met {prog : Program} {w : World} {κ : Type} [DecidableEq κ] (kd : KeyKind prog w κ) (h : Heap) (S : Addr) (pre : List (Addr × List κ)) : Prop :=
  ∃ L es ep t, Has kd h S L es ep t ∧ (∀ p ∈ L, p ∈ pre) ∧ ∀ k, k ∈ L.map (·.2) ↔ k ∈ pre.map (·.2)
section
variable {prog : Program} {w : World} {κ : Type} [DecidableEq κ] {kd : KeyKind prog w κ}
theorem Met.size {h : Heap} {S : Addr} {pre : List (Addr × List κ)} (x : Met kd h S pre) : ∃ o es ep t, h.get? S = some o ∧ o.ExactSet ∧ o.data = .set es ep t ∧ t.fits es.size = true ∧ es.size = (FBS.nub (pre.map (·.2))).length := by
  obtain ⟨L, es, ep, t, R, _, all⟩ := x
  obtain ⟨o, ho, hex, hd⟩ := R.ob
  refine ⟨o, es, ep, t, ho, hex, hd, fits_of (by have h := R.tab.sz; rw [List.length_map] at h; rw [h, rows_size R.row]) R.tab.dm (by have := R.room; rw [rows_size R.row]; omega), ?_⟩
  rw [rows_size R.row, ← List.length_map (as := L) (·.2)]
  have n1 := FBS.nd_len _ (FBS.nub (pre.map (·.2))) R.nd fun k hk => (FBS.mem_nub _ k).mpr ((all k).mp hk)
  have n2 := FBS.nd_len _ (L.map (·.2)) (FBS.nub_nd (pre.map (·.2))) fun k hk => (all k).mpr ((FBS.mem_nub _ k).mp hk)
  omega
variable {A : Around} {R : Result → Shared → Prop} {I : Addr} {fp wr : List Addr} {G : Array GenState → Array GenState → Prop} {n : Nat} {P : Nat → Value → Prop} {St : Nat → Shared → Prop}
set_option maxHeartbeats 1600000 in
/-- the loop that fills a set with tuples -/
theorem fill (W : WalksS prog w A.in1 I fp wr G n P St) (S : Addr) (nS : S ∉ fp) (ks : List (Addr × List κ)) (hn : ks.length = n) (few : ks.length < 64) (hP : ∀ i v, P i v → ∃ p, ks[i]? = some p ∧ v = .ref p.1)
    (h0 : Heap) (hk : ∀ p ∈ ks, IsTupleKey kd h0 p.2 p.1) (hS0 : h0.get? S = none) (hw0 : ∀ b ∈ wr, h0.get? b = none) (hu : A.in1.units < cLine) :
    ∀ (m i : Nat) (s : Shared), n - i = m → i ≤ n → St i s → (∀ b o, h0.get? b = some o → s.heap.get? b = some o) → Met kd s.heap S (ks.take i) →
      (∀ s', Moved (S :: wr) G s s' → Met kd s'.heap S ks → (∀ b o, h0.get? b = some o → s'.heap.get? b = some o) → R (.ok (.ret .none)) s') →
      codeAny (model prog w) A (.builtin "set.update.loop" ⟨[.ref S, .ref I], []⟩) R s := by
  have offW : S ∉ wr := fun z => nS (W.sub _ z)
  have inW : ∀ b ∈ wr, b ∈ S :: wr := fun b z => List.mem_cons_of_mem _ z
  have old : ∀ {s s' : Shared}, Moved wr G s s' → (∀ b o, h0.get? b = some o → s.heap.get? b = some o) → ∀ b o, h0.get? b = some o → s'.heap.get? b = some o := fun mv k b o e =>
    mv.heap b o (fun z => by rw [hw0 b z] at e; cases e) (k b o e)
  intro m
  induction m with
  | zero =>
    intro i s em hi st kp hS out
    have ei : i = n := by omega
    rw [ei] at st hS
    refine codeAny_builtin F.entry_set_update_loop ?_
    rw [Around.under_plainId F.plain_set_update_loop _]
    refine wpAny_bind (W.done s _ _ st fun s' mv => wpAny_pure (out s' (mv.mono inW) ?_ (old mv kp)))
    rw [← hn, List.take_length] at hS
    obtain ⟨L, es, ep, t, R', sub, all⟩ := hS
    exact ⟨L, es, ep, t, R'.keep (fun o ho => mv.heap S o offW ho) fun p hp => key_keep (hk p (sub p hp)) (old mv kp), sub, all⟩
  | succ m ih =>
    intro i s em hi st kp hS out
    have lt : i < n := by omega
    refine codeAny_builtin F.entry_set_update_loop ?_
    rw [Around.under_plainId F.plain_set_update_loop _]
    refine wpAny_bind (W.item i s _ _ lt st fun v s' pv st' mv => ?_)
    obtain ⟨p, ep, rfl⟩ := hP i v pv
    have kp' := old mv kp
    obtain ⟨L, es, ed, t, R0, sub, all⟩ := hS
    have sub' : ∀ q ∈ L, q ∈ ks := fun q hq => List.mem_of_mem_take (sub q hq)
    have R1 : Has kd s'.heap S L es ed t := R0.keep (fun o ho => mv.heap S o offW ho) fun q hq => key_keep (hk q (sub' q hq)) kp'
    have hx : IsTupleKey kd s'.heap p.2 p.1 := key_keep (hk p (List.mem_of_getElem? ep)) kp'
    have tk : ks.take (i + 1) = ks.take i ++ [p] := by
      rw [List.take_add_one, ep]
      rfl
    have Ln : L.length ≤ i := by
      have e := FBS.nd_len (L.map (·.2)) ((ks.take i).map (·.2)) R1.nd fun k hk => (all k).mp hk
      rw [List.length_map, List.length_map, List.length_take] at e
      omega
    refine wpAny_bind (wpAny_holding ?_)
    unfold setAdd
    refine wpAny_holding (wpAny_bind (wpAny_pyHash_tuple hu hx ?_))
    refine add (s := { s' with toks := s'.toks + (p.2.length + 1) }) R1 hx hu (by omega) fun b h' L' es' ep' t' sb R2 c1 c2 => ?_
    have met : Met kd h' S (ks.take (i + 1)) := by
      rw [tk]
      refine ⟨L', es', ep', t', R2, fun q hq => ?_, fun k => ?_⟩
      · rcases Classical.em (p.2 ∈ L.map (·.2)) with c | c
        · rw [c1 c] at hq
          exact List.mem_append_left _ (sub q hq)
        · rcases List.mem_cons.mp ((c2 c).mem_iff.mp hq) with e | hq
          · rw [e]; exact List.mem_append_right _ (List.mem_singleton.mpr rfl)
          · exact List.mem_append_left _ (sub q hq)
      · rw [List.map_append, List.mem_append, ← all k]
        rcases Classical.em (p.2 ∈ L.map (·.2)) with c | c
        · rw [c1 c]
          refine ⟨.inl, fun z => z.elim id fun z => ?_⟩
          rw [List.map_singleton, List.mem_singleton] at z
          rw [z]; exact c
        · rw [((c2 c).map (·.2)).mem_iff, List.map_cons, List.mem_cons, List.map_singleton, List.mem_singleton]
          exact or_comm
    have away : ∀ b, b ≠ S → ∀ o, s'.heap.get? b = some o → h'.get? b = some o := fun b z o e => (sb.2 b z).trans e
    refine wpAny_pure ⟨plainId_quiet F.plain_set_update_loop _, ih (i + 1) _ (by omega) lt ?_ (fun b o e => away b (fun z => by rw [z, hS0] at e; cases e) o (kp' b o e)) met fun s'' mv' hS4 kp4 => out s'' ?_ hS4 kp4⟩
    · exact W.frame _ s' _ _ st' (Nat.le_add_right _ _) fun b hb o e => away b (fun z => nS (z ▸ hb)) o e
    · exact Moved.trans W.gtrans ((mv.mono inW).then_heap (Nat.le_add_right _ _) fun b o hb e => away b (fun z => hb (z ▸ List.mem_cons_self)) o e) mv'
end
section
variable {prog : Program} {w : World} {κ : Type} [DecidableEq κ] {kd : KeyKind prog w κ} {A : Around} {E : Value → Shared → Prop} {s : Shared}
set_option maxHeartbeats 3200000 in
/-- set(xs), xs a list of tuples of keys -/
theorem set_tups {l : Addr} {items : Array Value} (ks : List (Addr × List κ)) {Q : Value → Shared → Prop} (hh : A.handled = none) (hl : s.heap.IsList l items) (hi : items.toList = ks.map fun p => Value.ref p.1)
    (hk : ∀ p ∈ ks, IsTupleKey kd s.heap p.2 p.1) (few : ks.length < 64) (hu : A.units + 3 < cLine)
    (h : ∀ (h' : Heap) (tk : Nat), Met kd h' s.heap.objs.size ks → (∀ b o, s.heap.get? b = some o → h'.get? b = some o) → Q (.ref s.heap.objs.size) { s with heap := h', toks := tk }) :
    wpAny (model prog w) A (call (.type "set") [.ref l]) Q E s := by
  obtain ⟨_, _, m1⟩ := PySem.F.called_set.mro
  have m2 := PySem.F.called_set.made
  have m3 := PySem.F.called_set.sub
  have m4 := PySem.F.called_set.notType
  have m5 := PySem.F.called_set.canCreate
  have m6 := PySem.F.typeCall_set_1 (.ref l)
  have isz : ks.length = items.size := by
    rw [← Array.length_toList, hi]
    exact (List.length_map _).symm
  refine wpAny_call (codeAny_of_tree (wpAny_pure ⟨Code.quiet_builtin _ (by decide +kernel), codeAny_builtin PySem.F.entry_type_call ?_⟩))
  rw [Around.under_plain (weight_type_call_type "set" [.ref l] []) rfl]
  repeat (any_goals (first | assumption | wp_step))
  refine codeAny_mono (code_set_new_1 (.ref l) (E := E) (Q₁ := fun ob s₁ => ∃ led : Bool, ob = .ref s.heap.objs.size ∧ s₁ = { s with heap := s.heap.push (FBS.emptySet led) }) fun led => ⟨led, rfl, rfl⟩) fun r s₁ made => ?_
  cases r with
  | error _ => exact made
  | ok fl => cases fl with
    | next => exact made.elim
    | brk => exact made.elim
    | cont => exact made.elim
    | ret ob =>
      obtain ⟨led, rfl, rfl⟩ := made
      have at1 : (s.heap.push (FBS.emptySet led)).get? s.heap.objs.size = some (FBS.emptySet led) := Heap.get?_push_size _ rfl
      have ty1 : Shared.TypeIs { s with heap := s.heap.push (FBS.emptySet led) } (.ref s.heap.objs.size) "set" := ⟨_, at1, rfl⟩
      have i1 := PySem.F.called_set.init.lookup
      have i2 := PySem.F.called_set.init.bind (.ref s.heap.objs.size)
      repeat (any_goals (first | assumption | wp_step))
      refine codeAny_mono (codeAny_call_builtin (R := wants (fun r s₂ => r = .none ∧ ∃ h' tk, s₂ = { s with heap := h', toks := tk } ∧ Met kd h' s.heap.objs.size ks ∧ ∀ b o, s.heap.get? b = some o → h'.get? b = some o) E)
        PySem.F.called_set.init.plain PySem.F.entry_set_init (check_set_init_1 ty1 ?_)) fun r₂ s₂ done => ?_
      · obtain ⟨⟨_, od, _, osl⟩, hol, hcl, nl, hdl⟩ := hl
        simp only at hcl hdl
        subst hcl hdl
        have at2 : (s.heap.push (FBS.emptySet led)).get? l = some { cls := .type "list", dict := od, data := .seq items nl, slots := osl } := Heap.get?_push_of_some _ hol
        have hl1 : (s.heap.push (FBS.emptySet led)).IsList l items := ⟨_, at2, rfl, nl, rfl⟩
        have j1 := PySem.F.sub_list_set
        have j2 := PySem.F.sub_list_frozenset
        have j3 : (Value.type "list" == Value.type "dict") = false := by decide
        unfold Builtin.«set.__init__» noKeywords Builtin.Frozenset.updateFrom
        generalize hPI : pyIter = PI
        wp_walk
        subst hPI
        refine wpAny_pyIter_list hl1 (wpAny_bind (wpAny_runValue ?_))
        have lt1 := Heap.lt_size hol
        have sz : (s.heap.push (FBS.emptySet led)).objs.size = s.heap.objs.size + 1 := Heap.size_push _ _
        have hh3 : A.in1.in1.in1.handled = none := by simp [hh]
        have beyond : ∀ b, s.heap.objs.size ≤ b → s.heap.get? b = none := fun b hb => by
          cases q : s.heap.get? b with
          | none => rfl
          | some o => exact absurd (Nat.lt_of_lt_of_le (Heap.lt_size q) hb) (Nat.lt_irrefl _)
        have W := (Walks.list (prog := prog) (w := w) hh3 (s.heap.push (FBS.emptySet led)).objs.size l (by rw [sz]; exact Nat.ne_of_lt (Nat.lt_succ_of_lt lt1)) items).toS
        refine fill (kd := kd) W s.heap.objs.size ?off ks isz few (fun i v e => ?item) s.heap hk (beyond _ (Nat.le_refl _)) (fun b hb => beyond b (by rw [List.mem_singleton.mp hb, sz]; exact Nat.le_succ _)) hu (items.size - 0) 0 _ (by omega) (Nat.zero_le _) ⟨⟨_, Heap.get?_push_size _ rfl, rfl, rfl⟩, hl1.push _⟩
          (fun b o e => Heap.get?_push_of_some _ (Heap.get?_push_of_some _ e)) ?h0 ?fin
        case off =>
          rw [sz]
          intro z
          rcases List.mem_cons.mp z with z | z
          · exact Nat.ne_of_lt (Nat.lt_succ_self _) z
          · exact Nat.ne_of_gt lt1 (List.mem_singleton.mp z)
        case item =>
          have e : items[i]? = some v := e
          rw [← Array.getElem?_toList, hi, List.getElem?_map] at e
          cases q : ks[i]? with
          | none => rw [q] at e; cases e
          | some p => rw [q] at e; cases e; exact ⟨p, rfl, rfl⟩
        case h0 => exact ⟨[], #[], 0, _, has_fresh (Heap.get?_push_of_some _ at1), (fun p hp => nomatch hp), fun k => Iff.rfl⟩
        case fin =>
          rintro ⟨h', g', d', tk', os'⟩ mv hS kp
          obtain rfl : g' = s.gens := mv.gens
          obtain rfl : d' = s.drawn := mv.drawn
          obtain rfl : os' = s.os := mv.os
          exact wpAny_pure (wpAny_pure ⟨rfl, h', tk', rfl, hS, kp⟩)
      · cases r₂ with
        | error _ => exact done
        | ok fl₂ => cases fl₂ with
          | ret r =>
            obtain ⟨rfl, h', tk, rfl, hS, kept⟩ := done
            repeat (any_goals (first | assumption | wp_step))
            exact h _ _ hS kept
          | next => exact done.elim
          | brk => exact done.elim
          | cont => exact done.elim
end
end FBT
namespace FB
open PySem PySem.Spec L2

/-! ### len(set(e)), e a list of tuples of texts and ints -/
def tupsOf : List D → Option (List (List Key))
  | [] => some []
  | .tuple xs :: r => match keysOf xs with
    | none => none
    | some k => (tupsOf r).map (k :: ·)
  | _ => none
theorem items_keys {P : Program} {w : World} : ∀ {ks : List Key} {its : List Value}, Vals (ks.map kV) its → ItemsAre (mixKind P w) ks its
  | [], _, r => by cases r; exact .nil
  | .inl j :: ks, _, r => by
    cases r with
    | cons h t =>
      obtain ⟨u, rfl⟩ := h
      exact .cons (keyIs_int j u) (items_keys t)
  | .inr x :: ks, _, r => by
    cases r with
    | cons h t =>
      obtain ⟨u, rfl⟩ := h
      exact .cons (keyIs_str x u) (items_keys t)
theorem Inv.isKT {X : Cx} {pins : List (Addr × Obj)} {σ : St} {H : Hp} {s : Shared} {b : Addr} {k : List Key} (I : Inv X pins σ H s) (h : SqT X.K H b (k.map kV)) : IsTupleKey (mixKind X.prog X.w) s.heap k b := by
  obtain ⟨its, r, ⟨o, ho, hc, n, hd⟩, _⟩ := I.tuple h
  exact ⟨o, its.toArray, n, ho, hc, hd, by simpa using items_keys r⟩
theorem DRs.tups {K : PySem.W.Frag} {C : Fm} {F : Hp} {ρ : Rho} {σ : St} {H : Hp} (R : Rel K C F ρ σ H) : ∀ {vs : List V} {ds : List D} {kk : List (List Key)}, DRs K F vs ds → tupsOf ds = some kk →
    ∃ ks : List (Addr × List Key), vs = ks.map (fun p => V.ref p.1) ∧ ks.map (·.2) = kk ∧ ∀ p ∈ ks, SqT K H p.1 (p.2.map kV)
  | _, _, _, .nil, e => by
    cases e
    exact ⟨[], rfl, rfl, fun p hp => nomatch hp⟩
  | _, .tuple xs :: r, _, .cons h t, e => by
    simp only [tupsOf] at e
    cases q : keysOf xs with
    | none => rw [q] at e; cases e
    | some k =>
      rw [q] at e
      simp only [Option.map_eq_some_iff] at e
      obtain ⟨bs, e, rfl⟩ := e
      obtain ⟨a, vs, rfl, k1, k2, _⟩ := (DT.dr h).tuple R
      have ev := k2.keys q
      subst ev
      obtain ⟨ks, e1, e2, e3⟩ := DRs.tups R t e
      refine ⟨(a, k) :: ks, by rw [e1]; rfl, by rw [List.map_cons, e2], fun p hp => ?_⟩
      rcases List.mem_cons.mp hp with z | z
      · rw [z]; exact k1
      · exact e3 p z
  | _, .none :: _, _, .cons _ _, e => by cases e
  | _, .bool _ :: _, _, .cons _ _, e => by cases e
  | _, .list _ :: _, _, .cons _ _, e => by cases e
  | _, .int _ :: _, _, .cons _ _, e => by cases e
  | _, .str _ :: _, _, .cons _ _, e => by cases e
  | _, .dict _ :: _, _, .cons _ _, e => by cases e
def tLT (K : PySem.W.Frag) (ta : TE) : TE := fun σ H Q => ta σ H fun x H1 => ∃ l, ∃ ks : List (Addr × List Key), x = .ref l ∧ SqL K H1 l (ks.map fun p => V.ref p.1) ∧ (∀ p ∈ ks, SqT K H1 p.1 (p.2.map kV)) ∧ ks.length < 64 ∧ Q (.int (FBS.nub (ks.map (·.2))).length) H1
section
variable {X : Cx} {W : WX} {a : Expr} {ta : TE} {f : ME} {p p2 q pos : Pos}
theorem refs_vals : ∀ {ks : List (Addr × List Key)} {its : List Value}, Vals (ks.map fun p => V.ref p.1) its → its = ks.map fun p => Value.ref p.1
  | [], _, r => by cases r; rfl
  | p :: ks, _, r => by
    cases r with
    | cons h t =>
      have h : _ = Value.ref p.1 := h
      rw [h, List.map_cons, refs_vals t]
theorem pe_LT (hc : X.calm = true) (hu : X.A.units + 64 < cLine) (hm : X.mg "len" = none) (hm2 : X.mg "set" = none) (ha : PE X a ta) (hg : Gl X "len") (hg2 : Gl X "set") (na : starEach [a] X.env = (false, eval a X.env) :: starEach [] X.env) :
    PE X (.Call (.Name "len" p) [.Call (.Name "set" p2) [a] [] q] [] pos) (tLT X.K ta) := by
  refine ⟨fun pins s σ H Q I h => ?_⟩
  refine PyProof.Rows.Call_ (ld_blt I hg hm boot_len (PyProof.Rows.callWith_builtin1 (PyProof.Rows.args_cons ?_ rfl) rfl rfl))
  refine PyProof.Rows.Call_ (ld_blt I hg2 hm2 PyProof.Rows.boot_set (PyProof.Rows.callWith_type1 (PyProof.Rows.args_cons (thn (ha.run pins s σ H _ I h) fun v s1 ⟨x, H1, I1, r1, q1⟩ => PyProof.Rows.args_nil ?_) na) na rfl))
  obtain ⟨l, ks, rfl, hq, hk, few, q1⟩ := q1
  cases r1
  obtain ⟨its, r, pl, _⟩ := I1.list hq
  refine FBT.set_tups (kd := mixKind X.prog X.w) ks (I1.ok.hd hc) pl.isList (by simpa using refs_vals r) (fun p hp => Inv.isKT I1 (hk p hp)) few (by omega) fun h' tk hS kept => ?_
  obtain ⟨o, es, ep, t, ho, hex, hd, hf, hn⟩ := hS.size
  have le := FBS.nub_length_le (ks.map (·.2))
  rw [List.length_map] at le
  refine PyProof.Rows.args_nil (call_len_set ho hex hd hf (by rw [hn]; omega) ?_)
  have I2 : Inv X pins σ H1 { s1 with heap := h', toks := tk } := I1.kept kept
  exact ⟨.int (FBS.nub (ks.map (·.2))).length, H1, I2.tok _, ⟨_, by rw [hn]⟩, q1⟩
def lenSetT (d : D) : Option Int := match d with
  | .list xs => match tupsOf xs with
    | none => none
    | some kk => if kk.length < 64 then some (FBS.nub kk).length else none
  | _ => none
def eLenSetT (a : ME) : ME := fun ρ => (a ρ).bind fun u ρ1 => match res ρ1 (hold u) with
  | none => .bad
  | some d => match lenSetT d with
    | none => .bad
    | some n => .ok (.d (.int n)) ρ1
theorem se_lenSetT (hc : X.calm = true) (hu : X.A.units + 64 < cLine) (hm : X.mg "len" = none) (hm2 : X.mg "set" = none) (ha : SE X W a f) (hg : Gl X "len" := by rfl) (hg2 : Gl X "set" := by rfl) (na : starEach [a] X.env = (false, eval a X.env) :: starEach [] X.env := by rfl) :
    SE X W (.Call (.Name "len" p) [.Call (.Name "set" p2) [a] [] q] [] pos) (eLenSetT f) :=
  PE.imp (pe_LT hc hu hm hm2 ha hg hg2 na) fun σ H Q ⟨C, F, ρ, R, h⟩ => ⟨C, F, ρ, R, Post.bind h fun u ρ1 x F1 H1 s1 R1 r1 h1 => by
    obtain ⟨F2, s2, R2, r2⟩ := VR.hold R1 r1
    have h1 := h1.mono s2
    cases q1 : res ρ1 (hold u) with
    | none => simp only [q1] at h1; exact h1.elim
    | some d =>
      simp only [q1] at h1
      have r3 := r2.res R2 q1
      cases q2 : lenSetT d with
      | none => simp only [q2] at h1; exact h1.elim
      | some n =>
        simp only [q2] at h1
        have fin := h1 (.int n) F2 H1 (Same.refl F2) R2 (.int n)
        unfold lenSetT at q2
        match d, r3, q2 with
        | .list xs, r3, q2 =>
          cases q3 : tupsOf xs with
          | none => simp only [q3] at q2; cases q2
          | some kk =>
            simp only [q3] at q2
            obtain ⟨a, vs, rfl, k1, k2⟩ := r3.list R2
            by_cases hl : kk.length < 64
            · rw [if_pos hl] at q2
              cases q2
              obtain ⟨ks, rfl, rfl, e3⟩ := DRs.tups R2 k2 q3
              exact ⟨a, ks, rfl, k1, e3, by rw [List.length_map] at hl; exact hl, fin⟩
            · rw [if_neg hl] at q2
              cases q2⟩
end
end FB
/-! FWJ: t.index(x) of data -/
namespace FB
open PySem PySem.Spec L2
open PySem.W (readsAll_at)
def plc (ds : List D) (d : D) : List Bool := ds.map fun z => PyData.eqv z d
def rIdxD (K : PySem.W.Frag) : V → List V → Hp → VK → Prop := fun x xs H Q => ∃ y d ds, xs = [y] ∧ Dp K H x (.tuple ds) ∧ Dp K H y d ∧ SeqAt.shaped (.tuple ds) = true ∧ SeqAt.shaped d = true ∧ true ∈ plc ds d ∧ Q (.int (((plc ds d).idxOf true : Nat) : Int)) H
theorem lay_mem : ∀ {l : List D}, PyData.canLayAll0 l = true → ∀ y ∈ l, y.canLay0 = true
  | [], _, _, h => nomatch h
  | z :: l, hz, y, hy => by
    rw [PyData.canLayAll0, Bool.and_eq_true] at hz
    rcases List.mem_cons.mp hy with e | e
    · exact e ▸ hz.1
    · exact lay_mem hz.2 y e
theorem mt_idxD {X : Cx} (hu : X.A.units + 65 < cLine) : MtR X "tuple.index" (rIdxD X.K) := by
  intro pins s σ H x xs v us Q I rx rxs h
  obtain ⟨y, d, ds, rfl, hl, hy, sl, sd, hin, q⟩ := h
  obtain ⟨uy, rfl, ry⟩ := vals1 rxs
  obtain ⟨bs, r1⟩ := Dp.reads I d y uy hy ry
  have hpl : PyData.canLayAll0 ds = true := SeqAt.canLay_of_shaped sl
  cases hl with
  | tup hs ha =>
    cases rx
    obtain ⟨its, rv, ⟨ob, ho, hc, n, hd⟩, hz⟩ := I.tuple hs
    obtain ⟨as, h4⟩ := Dp.readsAll I ds _ its ha rv
    have hlen : its.length = ds.length := SeqAt.ReadsAll.length _ _ _ h4
    refine SeqAt.call_tuple_index (vs := its) (ks := plc ds d) (x := uy) (k := true) ⟨ob, ho, hc, n, hd⟩ ⟨by rw [hlen]; unfold plc; rw [List.length_map], fun j h1 h2 => ?_⟩ hin ⟨.int _, H, I.tok _, ⟨_, rfl⟩, q⟩
    obtain ⟨cs, r2, hi, hm, _⟩ := readsAll_at h4 j its[j] (List.getElem?_eq_getElem h1)
    have e : (plc ds d)[j] = PyData.eqv (ds.getD j .none) d := by
      have e1 : (plc ds d)[j]? = some (PyData.eqv (ds.getD j .none) d) := by
        unfold plc
        rw [List.getElem?_map, List.getD_eq_getElem?_getD, List.getElem?_eq_getElem hi]
        rfl
      rw [List.getElem?_eq_getElem h2] at e1
      exact Option.some.inj e1
    rw [e]
    have := SeqAt.eqAt_reads (ds.getD j .none) d X.A.in1 s its[j] uy cs bs r2 r1 (lay_mem hpl _ hm) (SeqAt.canLay_of_shaped sd) (room65 (n := (ds.getD j .none).depth) (m := 0) sd hu)
    simpa using this
def gIndexD : D → List D → Option Vl
  | .tuple ds, [d] => if SeqAt.shaped (.tuple ds) && (SeqAt.shaped d && decide (true ∈ plc ds d)) then some (.d (.int (((plc ds d).idxOf true : Nat) : Int))) else none
  | _, _ => none
theorem md_idxD {K : PySem.W.Frag} : MethD K (rIdxD K) gIndexD := by
  intro C F ρ σ H x xs d ds z Q R hx hxs hg k
  match d, ds, hx, hxs, hg with
  | .tuple ds, [e], hx, hxs, hg =>
    simp only [gIndexD] at hg
    by_cases hl : (SeqAt.shaped (.tuple ds) && (SeqAt.shaped e && decide (true ∈ plc ds e))) = true
    · rw [if_pos hl] at hg
      cases hg
      obtain ⟨v, rfl, h⟩ := hxs.one
      simp only [Bool.and_eq_true, decide_eq_true_eq] at hl
      exact ⟨v, e, ds, rfl, hx.dp R (SeqAt.canLay_of_shaped hl.1), h.dp R (SeqAt.canLay_of_shaped hl.2.1), hl.1, hl.2.1, hl.2.2, k _ F H (Same.refl F) R (.int _)⟩
    · rw [if_neg hl] at hg
      cases hg
end FB
namespace FB
open PySem PySem.Spec L2
/-! ### l.count(x) of a list of data; l.index(x) of a list of truth values -/
def rCntL (K : PySem.W.Frag) : V → List V → Hp → VK → Prop := fun x xs H Q => ∃ y d ds, xs = [y] ∧ Dp K H x (.list ds) ∧ Dp K H y d ∧ SeqAt.shaped (.list ds) = true ∧ SeqAt.shaped d = true ∧ Q (.int ((ds.countP fun z => PyData.eqv z d : Nat) : Int)) H
theorem mt_cntL {X : Cx} (hu : X.A.units + 65 < cLine) : MtR X "list.count" (rCntL X.K) := by
  intro pins s σ H x xs v us Q I rx rxs h
  obtain ⟨y, d, ds, rfl, hl, hy, sl, sd, q⟩ := h
  obtain ⟨uy, rfl, ry⟩ := vals1 rxs
  obtain ⟨bs, r1⟩ := Dp.reads I d y uy hy ry
  have hpl : PyData.canLayAll0 ds = true := SeqAt.canLay_of_shaped sl
  cases hl with
  | lst hs ha =>
    cases rx
    obtain ⟨its, rv, ⟨ob, n, ho, hc, hd, hs⟩, hz⟩ := I.list hs
    obtain ⟨as, h4⟩ := Dp.readsAll I ds _ its ha rv
    refine SeqAt.count_list_data (vs := its.toArray) ⟨ob, ho, hc, n, hs⟩ (by simpa using h4) r1 (PyData.plainAll_of_canLay0 ds hpl) (PyData.plain_of_canLay0 d (SeqAt.canLay_of_shaped sd)) (room65 (m := 0) sd hu) ⟨.int _, H, I.tok _, ⟨_, rfl⟩, q⟩
def gCountL : D → List D → Option Vl
  | .list ds, [d] => if SeqAt.shaped (.list ds) && SeqAt.shaped d then some (.d (.int ((ds.countP fun z => PyData.eqv z d : Nat) : Int))) else none
  | _, _ => none
theorem md_cntL {K : PySem.W.Frag} : MethD K (rCntL K) gCountL := by
  intro C F ρ σ H x xs d ds z Q R hx hxs hg k
  match d, ds, hx, hxs, hg with
  | .list ds, [e], hx, hxs, hg =>
    simp only [gCountL] at hg
    by_cases hl : (SeqAt.shaped (.list ds) && SeqAt.shaped e) = true
    · rw [if_pos hl] at hg
      cases hg
      obtain ⟨v, rfl, h⟩ := hxs.one
      rw [Bool.and_eq_true] at hl
      exact ⟨v, e, ds, rfl, hx.dp R (SeqAt.canLay_of_shaped hl.1), h.dp R (SeqAt.canLay_of_shaped hl.2), hl.1, hl.2, k _ F H (Same.refl F) R (.int _)⟩
    · rw [if_neg hl] at hg
      cases hg
/-- the truth values of a list of them -/
def bsOf : List D → Option (List Bool)
  | [] => some []
  | .bool b :: r => (bsOf r).map (b :: ·)
  | _ :: _ => none
theorem bsOf_eq : ∀ {ds : List D} {bs : List Bool}, bsOf ds = some bs → ds = bs.map PySem.W.Datum.toD
  | [], bs, e => by
    cases e
    rfl
  | .bool b :: r, bs, e => by
    simp only [bsOf, Option.map_eq_some_iff] at e
    obtain ⟨ys, e, rfl⟩ := e
    rw [List.map_cons, ← bsOf_eq e]
    rfl
  | .none :: r, _, e => by cases e
  | .str _ :: r, _, e => by cases e
  | .int _ :: r, _, e => by cases e
  | .list _ :: r, _, e => by cases e
  | .tuple _ :: r, _, e => by cases e
  | .dict _ :: r, _, e => by cases e
def rIdxL (K : PySem.W.Frag) : V → List V → Hp → VK → Prop := fun x xs H Q => ∃ b, ∃ bs : List Bool, xs = [.bl b] ∧ Dp K H x (.list (bs.map PySem.W.Datum.toD)) ∧ b ∈ bs ∧ Q (.int (bs.idxOf b : Nat)) H
theorem mt_idxL {X : Cx} (hu : X.A.units + 65 < cLine) : MtR X "list.index" (rIdxL X.K) := by
  intro pins s σ H x xs v us Q I rx rxs h
  obtain ⟨b, bs, rfl, hl, hb, q⟩ := h
  obtain ⟨uy, rfl, ry⟩ := vals1 rxs
  cases ry
  cases hl with
  | lst hs ha =>
    cases rx
    obtain ⟨its, rv, ⟨ob, n, ho, hc, hd, hs⟩, hz⟩ := I.list hs
    obtain ⟨as, h4⟩ := Dp.readsAll I _ _ its ha rv
    have hlen : bs.length ≤ sizeLine := by
      have e1 := rv.length
      have e2 := PySem.W.HoldAll.length (xs := bs) ⟨as, h4⟩
      omega
    refine PySem.W.index_list_datum (xs := bs) (x := b) (vs := its) ⟨ob, ho, hc, n, hs⟩ ⟨as, h4⟩ ⟨_, Reads.bool b⟩ ?_ hlen hb ⟨.int _, H, I.tok _, ⟨_, rfl⟩, q⟩
    show X.A.units + 1 + 0 < cLine
    omega
def gIndexL : D → List D → Option Vl
  | .list ds, [.bool b] => match bsOf ds with
    | some bs => if b ∈ bs then some (.d (.int (bs.idxOf b : Nat))) else none
    | none => none
  | _, _ => none
theorem bs_lay : ∀ bs : List Bool, PyData.canLayAll0 (bs.map PySem.W.Datum.toD) = true
  | [] => rfl
  | b :: r => by
    show (_ && PyData.canLayAll0 (r.map PySem.W.Datum.toD)) = true
    rw [bs_lay r]
    rfl
theorem md_idxL {K : PySem.W.Frag} : MethD K (rIdxL K) gIndexL := by
  intro C F ρ σ H x xs d ds z Q R hx hxs hg k
  match d, ds, hx, hxs, hg with
  | .list ds, [.bool b], hx, hxs, hg =>
    simp only [gIndexL] at hg
    cases q : bsOf ds with
    | none => rw [q] at hg; cases hg
    | some bs =>
      rw [q] at hg
      have e := bsOf_eq q
      subst e
      by_cases hl : b ∈ bs
      · simp only [if_pos hl] at hg
        cases hg
        obtain ⟨v, rfl, h⟩ := hxs.one
        have e := h.boolE
        subst e
        exact ⟨b, bs, rfl, hx.dp R (bs_lay bs), hl, k _ F H (Same.refl F) R (.int _)⟩
      · simp only [if_neg hl] at hg
        cases hg
/-! ### {text: whole number} -/
def eDict1i (x : Str) (i : Int) : ME := fun ρ => .ok (.d (.dict [(.str x, .int i)])) ρ
theorem se_dict1i {X : Cx} {W : WX} {pos p1 p2 : Pos} {x : Str} {i : Int} {j1 j2 : Nat} : SE X W (.Dict [some (.Constant (.str x) j1 p1)] [.Constant (.int i) j2 p2] pos) (eDict1i x i) :=
  PE.imp (pe_disp (pps_cons pe_str pe_int pps_nil) rfl rfl (by simp) (by simp)) fun σ H Q ⟨C, F, ρ, R, h⟩ p hp => by
    refine ⟨upd_same, [(.inr x, .int i)], rfl, by simp, ?_⟩
    have e : upd (upd H p (.dK [])) p (.dK (mergeK [] [(.inr x, .int i)])) = upd H p (.dK [(.inr x, .int i)]) := by
      funext b
      by_cases z : b = p
      · subst z
        rw [upd_same, upd_same]
        rfl
      · rw [upd_ne z, upd_ne z, upd_ne z]
    rw [e]
    exact h _ (upd F p (.dK [(.inr x, .int i)])) _ (same_new (R.fnone hp)) (R.allocS hp) (show DR X.K (upd F p (.dK [(.inr x, .int i)])) (.ref p) (.dict [(.str x, .int i)]) from .dic (kvs := [(.inr x, .int i)]) (ks := [.str x]) (ds := [.int i]) upd_same rfl (.cons (.int i) .nil))
end FB
namespace FB
open PySem PySem.Spec L2
/-! ### a def called within an except suite -/
section
variable {P : Program} {w : World} {K : PySem.W.Frag} {mg : Str → Option Value} {base : Heap}
open PyProof.Rows (envOfC)
theorem fn_semH {x qual : Str} {st : Stmt} {f : Addr} {fd : FuncData} {N ps : List Str} {k n : Nat} {g : MS} (F : Fun K x qual st f fd) (S : FnScope N ps (defScope st)) (hn : ps.length = n)
    (hbody : ∀ (cdv : Value) (A : Around) (outer : List Env) (s : Shared) (H : Hp) (E : XK) (p : Addr × Obj), L2H.Hot1 A p → L2H.RoomH k (A.deeper (envOfC qual (defScope st) s.heap.objs.size f cdv)) →
      L2N.Takes (L2H.cxH (L2N.CX P w) P w K mg base N qual (defScope st) f cdv A outer s H E p) (fun cls d _ H' => E cls d H') →
      SSs (L2H.cxH (L2N.CX P w) P w K mg base N qual (defScope st) f cdv A outer s H E p) (fun cls d _ H' => E cls d H') (defBody st) g) :
    L2H.FnH P w K mg base (L2N.CX P w) (k + 1) f fd ps (spOf K mg (funG N.length g) n) := by
  obtain ⟨oc, od, kV, doc, pm, an, cdv, ct, osl, ef, lk, hcd⟩ := F.ex
  subst ef
  refine L2H.fn_ofH lk hcd S (fun vs H Q E h => h.1.trans hn.symm) fun A outer s H vs Q E p hot hr hsp => ?_
  obtain ⟨hl, C, ρ, hH, R, hp⟩ := hsp
  refine ⟨_, hbody cdv A outer s H E p hot hr (L2N.takes_of rfl rfl rfl rfl), ?_⟩
  have hlen : ρ.length = vs.length := by rw [R.len, List.length_map]
  refine ⟨C, C.F0, ρ ++ List.replicate (N.length - ρ.length) .no, ?_, ?_⟩
  · have R2 := R.pad (N.length - ρ.length)
    unfold L2.start
    rw [← hlen]
    exact R2
  · unfold funG at hp
    cases q : g (ρ ++ List.replicate (N.length - ρ.length) .no) with
    | bad => rw [q] at hp; exact hp.elim
    | exc e ρ' =>
      rw [q] at hp
      exact fun cls F' σ' H' _ R' hm => hp cls F' σ' H' R' hm
    | ok fl ρ' =>
      rw [q] at hp
      cases fl with
      | nx => exact fun F' σ' H' _ R' => hp .non F' σ' H' R' .non
      | bk => exact hp.elim
      | ct => exact hp.elim
      | rt u => exact fun v F' σ' H' _ R' r' => hp v F' σ' H' R' r'
end
section
variable {X : Cx} {W : WX} {k : Nat} {f : Addr} {fd : FuncData} {ps : List Str} {x : Str} {p pos : Pos} {e : Expr} {es : List Expr} {fs : MA} {G : List Slot → Out Vl} {n : Nat}
theorem se_callH (F : L2H.FnH X.prog X.w X.K X.mg X.base (L2N.CX X.prog X.w) k f fd ps (spOf X.K X.mg G n)) (hr : L2H.RoomH k X.A) (hc : L2H.HotC X) (hm : X.mg x = some (.ref f)) (hk : PySem.W.keepIn X.K (.ref f) = true) (hb : Binds X.K fd ps []) (tk : L2N.Takes X W)
    (ha : SA X W (e :: es) fs) (hn : ∀ ρ us ρ1, fs ρ = .ok us ρ1 → us.length = n) (hg : Gl X x := by rfl) (hdb : (x == ("__debug__" : Str)) = false := by decide) (he : starEach (e :: es) X.env = (false, eval e X.env) :: starEach es X.env := by rfl) (hpl : (backTo pos (starEach es X.env)).any (·.1) = false := by rfl) :
    SE X W (.Call (.Name x p) (e :: es) [] pos) (eCall G fs) :=
  PE.imp (L2H.pe_callH F hr hc hg hm hk hb (passAt tk) ha hdb he hpl) fun σ H Q h => by
    have h2 := imp_call h (fun _ _ _ _ _ _ _ => .inr trivial) hn
    unfold tCallSD at h2
    simp only [List.append_nil] at h2
    exact h2
theorem r65H {j : Nat} {A : Around} (r : L2H.RoomH j A) : A.units + 65 < cLine := by have := r.un; omega
end
end FB
/-! FW21: except X as n: a suite that works with n -/
namespace FB
open PySem PySem.Spec L2
/-! ### the catch: except x as n, with a suite; the error is watched from its first row on -/
def wCatchS (K : PySem.W.Frag) (c : Value) (i : Nat) (ts : TS) (Wout : WX) (D : Ends) : WX := fun cls d σ H =>
  ∃ b, PySem.W.exmOne K cls c = some b ∧ (b = true → ∃ E : Addr, cls = .ref E ∧ d = none ∧ ∀ a, H a = none →
    ts { nx := fun σ' H' => D.nx (σ'.set i none) H', rt := D.rt, bk := fun σ' H' => D.bk (σ'.set i none) H', ct := fun σ' H' => D.ct (σ'.set i none) H' } (σ.set i (some (.ref a))) (upd H a (ErO E a))) ∧ (b = false → Wout cls d σ H)
section
variable {X : Cx} {x n : Str} {C : Addr} {i : Nat} {body suite : List Stmt} {st : Stmt} {np pos pos' : Pos} {tb : WX → TS} {ts : TS} {Wout : WX}
theorem ps_catchS (hs : X.stack = X.env :: X.outer) (hf : X.env.frame = some X.env.locals) (hx : X.ex = []) (hN : X.N.Nodup) (hi : X.N[i]? = some n) (hln : X.env.kindOf n = some .local) (hc : Names X x (.ref C)) (tk : L2N.Takes X Wout)
    (hb : ∀ (W : WX) (pn : List (Addr × Obj)) (xe : Value → Shared → Prop), L2N.Takes (X.tr pn xe) W → PassesOwn (model X.prog X.w) X.A X.env xe → PSs (X.tr pn xe) body (tb W))
    (hst : ∀ (a : Addr) (pn : List (Addr × Obj)), PSs (X.suite a pn) (st :: suite) ts) :
    PS X (.Try body [.ExceptHandler (some (.Name x np)) (some n) (st :: suite) pos'] [] [] pos) (fun D σ H => tb (wCatchS X.K (.ref C) i ts Wout D) D σ H) := by
  constructor
  intro pins s σ H D I0 asked
  have okX := I0.ok
  have frX : X.A.frames = some (X.env :: X.outer) := okX.frames.trans (congrArg some hs)
  refine wpAny_Try_except ?_
  refine wpAny_mono ((hb (wCatchS X.K (.ref C) i ts Wout D) (X.pn ++ pins) _ (fun u s2 air => ?_) PassesOwn.looking).run [] s σ H D (I0.toTry _) asked) (fun f s2 done => ?_) fun _ _ z => z
  case refine_2 =>
    cases f with
    | next =>
      obtain ⟨σ2, H2, I2, q⟩ := done
      exact wpAny_execs_nil ⟨σ2, H2, I2.ofTry okX, q⟩
    | ret u =>
      obtain ⟨v, σ2, H2, I2, r, q⟩ := done
      exact ⟨v, σ2, H2, I2.ofTry okX, r, q⟩
    | brk =>
      obtain ⟨σ2, H2, I2, q⟩ := done
      exact ⟨σ2, H2, I2.ofTry okX, q⟩
    | cont =>
      obtain ⟨σ2, H2, I2, q⟩ := done
      exact ⟨σ2, H2, I2.ofTry okX, q⟩
  case refine_1 =>
    obtain ⟨a, G, sA, pins2, σ2, H2, cls, d, rfl, IA, inG, upA, air, noA, osA, bareA, b, hexm, onYes, onNo⟩ := air
    have I2 : Inv X pins σ2 H2 sA := IA.ofTry okX
    have air2 : L2.Sky G (X.env :: X.outer) a (L2N.Zn cls d) X.env.locals s2.heap := hs ▸ air
    show wpAny (model X.prog X.w) X.A (noteFrame (.ref a) X.env) _ _ _
    refine L2N.Sky.land L2N.Zn.steady frX hf air2 fun hA flA upB => ?_
    have IB : Inv X pins σ2 H2 { s2 with heap := hA } := I2.landed inG flA.1 (upA.trans upB) osA bareA
    obtain ⟨oA, vA, getA, isA, dataA⟩ := flA.there
    have offStack : a ∉ frs (X.env :: X.outer) := fun hm => by
      obtain ⟨_, o2, get2, nf⟩ := flA.2.2.1.mem hm
      cases getA.symm.trans get2
      exact nf _ dataA
    have aL : a ≠ X.env.locals := fun z => offStack (List.mem_filterMap.mpr ⟨X.env, List.mem_cons_self, by rw [hf, z]⟩)
    have aF : a ∉ X.fs := fun hm => by
      obtain ⟨en, hen, q⟩ := List.mem_filterMap.mp hm
      exact offStack (List.mem_filterMap.mpr ⟨en, List.mem_cons_of_mem _ hen, q⟩)
    have notInA : ∀ bb o, sA.heap.get? bb = some o → bb ∉ frs (X.env :: X.outer) → bb ≠ a := fun bb o e nf z => by
      subst z
      have := inG bb o e (hs ▸ nf)
      rw [flA.2.1] at this
      cases this
    have suiteB := IB.suite getA dataA noA aL aF
    refine wpAny_handleBy_cons (codeAny_handlers_test ?_) (by intro q; cases q)
    have tyA : PySem.W.Looks (model X.prog X.w) hA (typeOf (.ref a)) cls := fun A2 Q2 E2 s3 k q => wpAny_typeOf_ref (k _ _ getA) (by rw [isA.1]; exact q)
    have exmA := PySem.W.exm_one (M := model X.prog X.w) IB.kIn tyA hexm
    have named : ∀ {Q2 : Value → Shared → Prop} {E2 : Value → Shared → Prop}, Q2 (.ref C) { s2 with heap := hA } → wpAny (model X.prog X.w) (X.A.mark (some (.ref a))) (eval (.Name x np) X.env) Q2 E2 { s2 with heap := hA } := by
      intro Q2 E2 q
      obtain ⟨hg, hdb, hm | ⟨hm, hv, hnn⟩⟩ := hc
      · exact ld_glob (X := X.suite a ((a, oA) :: (X.pn ++ pins))) suiteB hg hm q hdb
      · exact ld_blt (X := X.suite a ((a, oA) :: (X.pn ++ pins))) suiteB hg hm hv q hnn hdb
    refine named (exmA.here ?_)
    cases b with
    | false =>
      show wpAny _ X.A (handleBy (.ref a) X.env []) _ _ _
      refine wpAny_handleBy_nil ?_
      obtain ⟨k1, k2, k3, o4, v4, T, oT, ts, get4, is4, data4, one4, r4⟩ := id flA
      unfold PySem.passOn
      refine wpAny_bind (wpAny_field get4 data4 one4 ?_)
      rw [if_neg (show ¬ ((Value.ref T == Value.none) = true) by simp)]
      have away : wpAny (model X.prog X.w) X.A (setFlight (.ref a) X.env.frame) (fun _ s4 => wpAny (model X.prog X.w) X.A (throw (.ref a) : Sem Flow) (SP X pins D) X.xe s4) X.xe { s2 with heap := hA } := by
        rw [hf]
        refine HandSPX.setFlight_upZ flA fun h4 up4 upC => wpAny_throw (tk _ _ ?_)
        exact ⟨a, G, sA, pins, σ2, H2, cls, d, rfl, I2, inG, (upA.trans upB).trans upC, .inr (.inr (hs.symm ▸ up4)), noA, osA, bareA, onNo rfl⟩
      first
        | exact wpAny_bind (wpAny_pure (wpAny_bind away))
        | exact wpAny_bind away
    | true =>
      obtain ⟨E0, rfl, rfl, goes⟩ := onYes rfl
      refine codeAny_handlers_suite_as ?_
      refine HandSPX.lands_againZ flA fun hB flB upC => ?_
      have IC : Inv X pins σ2 H2 { s2 with heap := hB } := I2.landed inG flB.1 ((upA.trans upB).trans upC) osA bareA
      obtain ⟨oB, vB, getB, isB, dataB⟩ := flB.there
      have suiteC := IC.suite getB dataB noA aL aF
      have n0 : X.s_0.heap.get? a = none := by
        cases q : X.s_0.heap.get? a with
        | none => rfl
        | some o =>
          obtain ⟨o3, q3⟩ := I2.base.there a o q (by rw [hx]; exact fun z => nomatch z)
          exact absurd rfl (notInA a o3 q3 offStack)
      have cells : ∀ y c, X.env.cells.lookup y = some c → c ≠ a := fun y c e z => by
        subst z
        obtain ⟨v, o3, q3, q4⟩ := I2.cell y c e
        exact absurd rfl (notInA c o3 q3 offStack)
      have pinned : ∀ p ∈ X.pn ++ pins, p.1 ≠ a := fun p hp z => by
        obtain ⟨q1, _, q3, q4, _⟩ := I2.pin p hp
        refine notInA p.1 p.2 q1 (fun hm => ?_) z
        rw [z] at hm
        exact offStack hm
      refine store_ok (X := X.suite a ((a, oB) :: (X.pn ++ pins))) (v := .ref a) suiteC hN hi (.inl hln) rfl (fun s5 suite5 => ?_) (.inr hln)
      have get5 : s5.heap.get? a = some oB := (suite5.pin (a, oB) (List.mem_append_left _ List.mem_cons_self)).1
      have drop5 : Inv (X.suite a (X.pn ++ pins)) [] (σ2.set i (some (.ref a))) H2 s5 :=
        ⟨okX.suite _ _, suite5.os, suite5.bare, suite5.base, suite5.loc, suite5.cell, suite5.free, suite5.freeC, fun p hp => suite5.pin p (by
          rw [List.append_nil] at hp ⊢
          exact List.mem_cons_of_mem _ hp), suite5.hok, suite5.len⟩
      have I5 := watch (φ := fun h => ∃ ox, PySem.W.InstAt h a ox E0 none) drop5 noA n0 aL cells (fun p hp => pinned p (by rw [List.append_nil] at hp; exact hp)) (erO_ok get5 isB.1 isB.2.1 fun cd z => by rw [dataB] at z; cases z)
      refine wpAny_mono ((hst a (X.pn ++ pins)).run [] s5 _ _ _ I5 (goes a noA)) (fun f s6 e6 => ?_) fun _ _ z => False.elim z
      have out : ∀ {σ6 : St} {H6 : Hp}, Inv (X.suite a (X.pn ++ pins)) [] σ6 H6 s6 → Inv X pins σ6 H6 s6 := fun J =>
        ⟨okX, J.os, J.bare, J.base, J.loc, J.cell, J.free, J.freeC, fun p hp => J.pin p (List.mem_append_left _ hp), J.hok, J.len⟩
      cases f with
      | ret u =>
        obtain ⟨v6, σ6, H6, J6, r6, q6⟩ := e6
        exact gone_ok (out J6) hN hi hln fun s7 I8 => ⟨_, _, _, I8, r6, q6⟩
      | brk =>
        obtain ⟨σ6, H6, J6, q6⟩ := e6
        exact gone_ok (out J6) hN hi hln fun s7 I8 => ⟨_, _, I8, q6⟩
      | cont =>
        obtain ⟨σ6, H6, J6, q6⟩ := e6
        exact gone_ok (out J6) hN hi hln fun s7 I8 => ⟨_, _, I8, q6⟩
      | next =>
        obtain ⟨σ6, H6, J6, q6⟩ := e6
        exact gone_ok (out J6) hN hi hln fun s7 I8 => ⟨_, _, I8, q6⟩
end
end FB
/-! FW22: the reading of a catch with a suite; defs called there -/
namespace FB
open PySem PySem.Spec L2
/-! ### try: .. except X as n: .. -/
def w0 : WX := fun _ _ _ _ => False
def outS (i : Nat) (o : Out Fl) : Out Fl := match o with
  | .bad => .bad
  | .exc _ _ => .bad
  | .ok f ρ => match f with
    | .rt u => .ok (.rt u) ρ
    | .nx => if isIo ρ i then .bad else .ok .nx (ρ.set i .no)
    | .bk => if isIo ρ i then .bad else .ok .bk (ρ.set i .no)
    | .ct => if isIo ρ i then .bad else .ok .ct (ρ.set i .no)
def gTryS (m : List (Str × Bool)) (i : Nat) (g h : MS) : MS := fun ρ => match g ρ with
  | .exc e ρ1 => match m.lookup e with
    | some true => if isIo ρ1 i then .bad else outS i (h (ρ1.set i (.sh (excD e))))
    | some false => .exc e ρ1
    | none => .bad
  | o => o
section
variable {X : Cx} {W : WX} {E : Addr} {m : List (Str × Bool)} {i : Nat} {g g2 : MS}
theorem imp_tryS (hh : Hdl X.K X.mg E m) {D : Ends} {σ : St} {H : Hp} (h : tS X.K X.mg W (gTryS m i g g2) D σ H) : tS X.K X.mg (wCatchS X.K (.ref E) i (tS X.K X.mg w0 g2) W D) g D σ H := by
  obtain ⟨C, F, ρ, R, h⟩ := h
  refine ⟨C, F, ρ, R, ?_⟩
  unfold gTryS at h
  cases q : g ρ with
  | bad => rw [q] at h; exact h.elim
  | ok f ρ1 => rw [q] at h; cases f <;> exact h
  | exc e ρ1 =>
    simp only [q] at h
    cases q2 : m.lookup e with
    | none => simp only [q2] at h; exact h.elim
    | some b =>
      obtain ⟨D1, g1, n1, x1⟩ := hh e b q2
      intro cls F' σ' H' s R' hm
      have ec : cls = .ref D1 := Option.some.inj (hm.symm.trans g1)
      subst ec
      cases b with
      | false =>
        simp only [q2] at h
        exact ⟨false, x1, (fun z => nomatch z), fun _ => h _ F' σ' H' s R' hm⟩
      | true =>
        simp only [q2] at h
        by_cases io : isIo ρ1 i = true
        · rw [if_pos io] at h
          exact h.elim
        · rw [if_neg io] at h
          have io2 : isIo ρ1 i = false := by simpa using io
          refine ⟨true, x1, fun _ => ⟨D1, rfl, rfl, fun a ha => ?_⟩, (fun z => nomatch z)⟩
          have s2 := same_new (o := ErO D1 a) (R'.fnone ha)
          have r : DR X.K (upd F' a (ErO D1 a)) (.ref a) (excD e) := .exc n1 upd_same
          have R2 := (R'.allocS (o := ErO D1 a) ha).setSh io2 r
          refine ⟨C, _, _, R2, ?_⟩
          cases q3 : g2 (ρ1.set i (.sh (excD e))) with
          | bad => rw [q3] at h; exact h.elim
          | exc e' ρ' => rw [q3] at h; exact h.elim
          | ok f ρ2 =>
            rw [q3] at h
            have s3 := s.trans s2
            cases f with
            | rt u => exact fun v F3 σ3 H3 s4 R3 r3 => h v F3 σ3 H3 (s3.trans s4) R3 r3
            | nx =>
              simp only [outS] at h
              by_cases io3 : isIo ρ2 i = true
              · rw [if_pos io3] at h; exact h.elim
              · rw [if_neg io3] at h
                exact fun F3 σ3 H3 s4 R3 => h F3 _ H3 (s3.trans s4) (R3.setNo (by simpa using io3) none)
            | bk =>
              simp only [outS] at h
              by_cases io3 : isIo ρ2 i = true
              · rw [if_pos io3] at h; exact h.elim
              · rw [if_neg io3] at h
                exact fun F3 σ3 H3 s4 R3 => h F3 _ H3 (s3.trans s4) (R3.setNo (by simpa using io3) none)
            | ct =>
              simp only [outS] at h
              by_cases io3 : isIo ρ2 i = true
              · rw [if_pos io3] at h; exact h.elim
              · rw [if_neg io3] at h
                exact fun F3 σ3 H3 s4 R3 => h F3 _ H3 (s3.trans s4) (R3.setNo (by simpa using io3) none)
theorem ss_tryS {x n : Str} {body suite : List Stmt} {st : Stmt} {np pos pos' : Pos} (c : ErrC X.K X.mg x E) (hh : Hdl X.K X.mg E m) (tk : L2N.Takes X W) (hN : X.N.Nodup)
    (hb : ∀ (W' : WX) (pn : List (Addr × Obj)) (xe : Value → Shared → Prop), L2N.Takes (X.tr pn xe) W' → PassesOwn (model X.prog X.w) X.A X.env xe → SSs (X.tr pn xe) W' body g)
    (hst : ∀ (a : Addr) (pn : List (Addr × Obj)), SSs (X.suite a pn) w0 (st :: suite) g2)
    (hi : X.N[i]? = some n := by rfl) (hln : X.env.kindOf n = some .local := by rfl) (hs : X.stack = X.env :: X.outer := by rfl) (hf : X.env.frame = some X.env.locals := by rfl) (hx : X.ex = [] := by rfl) (hg : Gl X x := by rfl) (hdb : (x == ("__debug__" : Str)) = false := by decide) :
    SS X W (.Try body [.ExceptHandler (some (.Name x np)) (some n) (st :: suite) pos'] [] [] pos) (gTryS m i g g2) :=
  PS.imp (ps_catchS (tb := fun W' => tS X.K X.mg W' g) (ts := tS X.K X.mg w0 g2) hs hf hx hN hi hln ⟨hg, hdb, .inl c.gl⟩ tk (fun W' pn xe t o => hb W' pn xe t o) hst) fun D σ H h => imp_tryS hh h
end
end FB
/-! FW23: defs called while an error is handled, that raise nothing -/
namespace FB
open PySem PySem.Spec L2
def x0 : XK := fun _ _ _ => False
structure FnC (P : Program) (w : World) (K : PySem.W.Frag) (mg : Str → Option Value) (base : Heap) (k : Nat) (f : Addr) (fd : FuncData) (ps : List Str) (sp : Sp) : Prop where
  len : ∀ vs H Q E, sp vs H Q E → vs.length = ps.length
  run : ∀ (A : Around) (outer : List Env) (s : Shared) (H : Hp) (args : Args) (us : List Value) (vs : List V) (Q : VK), L2H.RoomH k A → Env0 P w K mg base A outer s H → BindsTo s fd args (ps.zip us) → Vals vs us →
    sp vs H Q x0 → codeAny (model P w) A (.call (.ref f) args) (CR (L2N.CX P w) outer P w H s Q x0) s
section
variable {X : Cx} {k : Nat} {f : Addr} {fd : FuncData} {ps : List Str} {sp : Sp} {x : Str} {p pos : Pos} {e : Expr} {es : List Expr} {t : TA}
theorem runC {pins : List (Addr × Obj)} {σ : St} {H : Hp} {s : Shared} {Q : VK} {us : List Value} {vs : List V} (F : FnC X.prog X.w X.K X.mg X.base k f fd ps sp) (hr : L2H.RoomH k X.A) (hb : Binds X.K fd ps [])
    (I : Inv X pins σ H s) (r : Vals vs us) (h : sp vs H Q x0) : wpAny (model X.prog X.w) X.A (call (.ref f) us) (EP X pins σ Q) X.xe s := by
  have la : us.length = ps.length := r.length.symm.trans (F.len _ _ _ _ h)
  have b := hb s us I.kIn (by rw [List.append_nil]; exact la)
  rw [List.append_nil] at b
  have go := F.run X.A X.stack s H ⟨us, []⟩ us vs Q hr I.env0 b r h
  refine wpAny_call (codeAny_mono go fun r s' z => ?_)
  match r, z with
  | .error e, z =>
    obtain ⟨_, _, _, _, _, _, _, _, _, _, _, _, z⟩ := z
    exact z.elim
  | .ok (.ret u), z => exact I.after z
theorem pe_callC (F : FnC X.prog X.w X.K X.mg X.base k f fd ps sp) (hr : L2H.RoomH k X.A) (hg : Gl X x) (hm : X.mg x = some (.ref f)) (hk : PySem.W.keepIn X.K (.ref f) = true) (hb : Binds X.K fd ps [])
    (ha : PA X (e :: es) t) (hdb : (x == ("__debug__" : Str)) = false) (he : starEach (e :: es) X.env = (false, eval e X.env) :: starEach es X.env) (hpl : (backTo pos (starEach es X.env)).any (·.1) = false) :
    PE X (.Call (.Name x p) (e :: es) [] pos) (tCallSD sp [] (fun _ => x0) t) := ⟨fun pins s σ H Q I h =>
  wpAny_Call_Name_kw (ld_glob I hg hm (PySem.W.callWith_K (h₀ := X.base) I.ok.mod.kin hk (thn (ha.run pos pins s σ H _ I h) fun us s1 ⟨vs, H1, I1, r, q⟩ => ⟨I1.kIn, runC F hr hb I1 r (by simp only [List.append_nil] at q; exact q)⟩) he hpl) hdb)⟩
end
section
variable {P : Program} {w : World} {K : PySem.W.Frag} {mg : Str → Option Value} {base : Heap}
open PyProof.Rows (envOfC)
/-- the context of such a def's body -/
abbrev cxC (P : Program) (w : World) (K : PySem.W.Frag) (mg : Str → Option Value) (base : Heap) (N : List Str) (qual : Str) (scope : Scope) (f : Addr) (cd : Value) (A : Around) (outer : List Env) (s : Shared) (H : Hp) : Cx :=
  { cxOf (L2N.CX P w) P w K mg base N qual scope f cd A outer s H x0 with calm := false }
theorem fn_ofC {x qual : Str} {st : Stmt} {f : Addr} {fd : FuncData} {N ps : List Str} {k : Nat} {sp : Sp} (F : Fun K x qual st f fd) (S : FnScope N ps (defScope st)) (len : ∀ vs H Q E, sp vs H Q E → vs.length = ps.length)
    (hbody : ∀ (cdv : Value) (A : Around) (outer : List Env) (s : Shared) (H : Hp) (vs : List V) (Q : VK), L2H.RoomH k (A.deeper (envOfC qual (defScope st) s.heap.objs.size f cdv)) → sp vs H Q x0 →
      ∃ t, PSs (cxC P w K mg base N qual (defScope st) f cdv A outer s H) (defBody st) t ∧ t { nx := fun _ H' => Q .non H', rt := Q } (L2.start N vs) H) : FnC P w K mg base (k + 1) f fd ps sp := by
  obtain ⟨oc, od, kV, doc, pm, an, cdv, ct, osl, ef, lk, hcd⟩ := F.ex
  subst ef
  refine ⟨len, fun A outer s H args us vs Q hr e0 hb r hsp => ?_⟩
  have KX : K.In s.heap := e0.mod.kin.keeps fun b o z => (e0.bs b o z).1
  have lim : s.heap.NoLimit := e0.mod.nolimit.keeps fun b o z => (e0.bs b o z).1
  have kinds : ∀ y ∈ ps.zip us, (defScope st).names.lookup y.1 = some .local ∨ ((defScope st).names.lookup y.1 = some .cell ∧ ((PySem.cellsFrom (s.heap.objs.size + 1) (defScope st).names []).lookup y.1).isSome = true) := fun y hy =>
    (S.par y.1 (List.of_mem_zip hy).1).imp id fun q => ⟨q, PySem.W.cellsFrom_some _ _ _ (.inl q)⟩
  refine PySem.codeAny_call_function hr.depth (KX _ _ lk) rfl S.co S.gen rfl (PySem.W.codeRec_of KX hcd) (hb _ _ _ _ (PySem.wpAny_newFunctionEnv_cells S.kind kinds fun env he s1 x => ?_))
  subst he
  refine ⟨lim.keeps x.toInCall.keep, PySem.codeAny_func ?_⟩
  obtain ⟨t, ht, hq⟩ := hbody cdv A outer s H vs Q (hr.deeper _) hsp
  have e1 : Env0 P w K mg base { A with handled := none } outer s H := ⟨e0.frames, e0.mod, e0.bs, e0.bsz, e0.funs, e0.frf, e0.hok, e0.bare⟩
  have J0 := inv_start (CX := L2N.CX P w) (P := P) (E := x0) S (A := { A with handled := none }) rfl e1 (len _ _ _ _ hsp) r x
  have I : Inv (cxC P w K mg base N qual (defScope st) f cdv A outer s H) [] (L2.start N vs) H s1 :=
    ⟨⟨J0.ok.mod, J0.ok.kind, J0.ok.glob, J0.ok.blt, J0.ok.above, J0.ok.inj, J0.ok.has, J0.ok.cab, (fun z => Bool.noConfusion (show false = true from z)), J0.ok.frames, J0.ok.stk, J0.ok.exf, J0.ok.bs, J0.ok.bsz, J0.ok.noex, J0.ok.exfs, J0.ok.funs, J0.ok.frf⟩,
      J0.os, J0.bare, J0.base, J0.loc, J0.cell, J0.free, J0.freeC, J0.pin, J0.hok, J0.len⟩
  refine wpAny_mono (ht.run [] s1 (L2.start N vs) H _ I hq) (fun fl s' hs => ?_) fun _ _ z => z
  match fl, hs with
  | .ret u, ⟨v, σ', H', J, rv, q⟩ => exact ⟨v, H', J.os, J.bare, J.base, J.hok, rv, q⟩
  | .next, ⟨σ', H', J, q⟩ => exact ⟨.non, H', J.os, J.bare, J.base, J.hok, rfl, q⟩
  | .brk, ⟨_, _, _, q⟩ => exact q.elim
  | .cont, ⟨_, _, _, q⟩ => exact q.elim
theorem fn_semC {x qual : Str} {st : Stmt} {f : Addr} {fd : FuncData} {N ps : List Str} {k n : Nat} {g : MS} (F : Fun K x qual st f fd) (S : FnScope N ps (defScope st)) (hn : ps.length = n)
    (hbody : ∀ (cdv : Value) (A : Around) (outer : List Env) (s : Shared) (H : Hp), L2H.RoomH k (A.deeper (envOfC qual (defScope st) s.heap.objs.size f cdv)) →
      SSs (cxC P w K mg base N qual (defScope st) f cdv A outer s H) w0 (defBody st) g) :
    FnC P w K mg base (k + 1) f fd ps (spOf K mg (funG N.length g) n) := by
  refine fn_ofC F S (fun vs H Q E h => h.1.trans hn.symm) fun cdv A outer s H vs Q hr hsp => ?_
  obtain ⟨hl, C, ρ, hH, R, hp⟩ := hsp
  refine ⟨_, hbody cdv A outer s H hr, ?_⟩
  have hlen : ρ.length = vs.length := by rw [R.len, List.length_map]
  refine ⟨C, C.F0, ρ ++ List.replicate (N.length - ρ.length) .no, ?_, ?_⟩
  · have R2 := R.pad (N.length - ρ.length)
    unfold L2.start
    rw [← hlen]
    exact R2
  · unfold funG at hp
    cases q : g (ρ ++ List.replicate (N.length - ρ.length) .no) with
    | bad => rw [q] at hp; exact hp.elim
    | exc e ρ' =>
      rw [q] at hp
      exact fun cls F' σ' H' _ R' hm => hp cls F' σ' H' R' hm
    | ok fl ρ' =>
      rw [q] at hp
      cases fl with
      | nx => exact fun F' σ' H' _ R' => hp .non F' σ' H' R' .non
      | bk => exact hp.elim
      | ct => exact hp.elim
      | rt u => exact fun v F' σ' H' _ R' r' => hp v F' σ' H' R' r'
end
section
variable {X : Cx} {k : Nat} {f : Addr} {fd : FuncData} {ps : List Str} {x : Str} {p pos : Pos} {e : Expr} {es : List Expr} {fs : MA} {G : List Slot → Out Vl} {n : Nat}
theorem se_callX (F : FnC X.prog X.w X.K X.mg X.base k f fd ps (spOf X.K X.mg G n)) (hr : L2H.RoomH k X.A) (hm : X.mg x = some (.ref f)) (hk : PySem.W.keepIn X.K (.ref f) = true) (hb : Binds X.K fd ps [])
    (ha : SA X w0 (e :: es) fs) (hn : ∀ ρ us ρ1, fs ρ = .ok us ρ1 → us.length = n) (hg : Gl X x := by rfl) (hdb : (x == ("__debug__" : Str)) = false := by decide) (he : starEach (e :: es) X.env = (false, eval e X.env) :: starEach es X.env := by rfl) (hpl : (backTo pos (starEach es X.env)).any (·.1) = false := by rfl) :
    SE X w0 (.Call (.Name x p) (e :: es) [] pos) (eCall G fs) :=
  PE.imp (pe_callC F hr hg hm hk hb ha hdb he hpl) fun σ H Q h => imp_call h (fun _ _ _ _ _ _ _ => .inr trivial) hn
theorem FnC.mono {P : Program} {w : World} {K : PySem.W.Frag} {mg : Str → Option Value} {base : Heap} {j k : Nat} {f : Addr} {fd : FuncData} {ps : List Str} {sp : Sp} (F : FnC P w K mg base j f fd ps sp) (h : j ≤ k) : FnC P w K mg base k f fd ps sp :=
  ⟨F.len, fun A outer s H args us vs Q hr => F.run A outer s H args us vs Q (hr.mono h)⟩
/-- a def that may be called while an error is handled -/
def ClX (P : Program) (w : World) (K : PySem.W.Frag) (mg : Str → Option Value) (base : Heap) (k : Nat) (x : Str) (ps : List Str) (G : List Slot → Out Vl) : Prop :=
  ∃ f fd, FnC P w K mg base k f fd ps (spOf K mg G ps.length) ∧ PySem.W.keepIn K (.ref f) = true ∧ Binds K fd ps [] ∧ mg x = some (.ref f)
theorem se_callXC (c : ClX X.prog X.w X.K X.mg X.base k x ps G) (hr : L2H.RoomH k X.A) (ha : SA X w0 (e :: es) fs) (hn : ∀ ρ us ρ1, fs ρ = .ok us ρ1 → us.length = ps.length) (hg : Gl X x := by rfl) (hdb : (x == ("__debug__" : Str)) = false := by decide)
    (he : starEach (e :: es) X.env = (false, eval e X.env) :: starEach es X.env := by rfl) (hpl : (backTo pos (starEach es X.env)).any (·.1) = false := by rfl) : SE X w0 (.Call (.Name x p) (e :: es) [] pos) (eCall G fs) := by
  obtain ⟨f, fd, F, hk, hb, hm⟩ := c
  exact se_callX F hr hm hk hb ha hn hg hdb he hpl
/-- the room of a suite, from the def's -/
theorem roomS {j : Nat} {A : Around} {v : Option Value} (hr : Room j A) : L2H.RoomH j (A.mark v) := ⟨hr.dp, hr.un⟩
theorem r64H {j : Nat} {A : Around} (r : L2H.RoomH j A) : A.units + 64 < cLine := by have := r.un; omega
end
end FB
/-! FW24: y = [e for .. for ..] -/
namespace FB
open PySem PySem.Spec L2
section
variable {X : Cx} {W : WX} {pos : Pos} {elt tg iter tg1 iter1 : Expr} {ifs ifs1 : List Expr} {scope : Scope} {own : List (Str × Nat)} {it it1 : MI} {bd bd1 : Bd} {is is1 : List Nat} {gc gc1 : MB} {fe : ME}
theorem ss_setLc2 {i : Nat} {y : Str} {py spos : Pos} {vs1 : List Nat} (hc : X.calm = true) (hN : X.N.Nodup) (hy : X.N[i]? = some y) (hyl : X.env.scope.names.lookup y = some .local) (hk : X.env.scope.kind = .function) (hl : (py.line == pos.line) = true)
    (hfr : (scope.names.any fun (n, k) => n == y && (k == .local || k == .cell)) = false) (ok : BlkOk X.N X.env.scope scope own) (hi : SI X W tg iter it)
    (hg : ∀ (s : Shared) (H : Hp) (C : Addr) (cl : List (Str × Addr)) (fp : List Addr), SG (X.blk s H scope (compEnvC scope cl C X.env) fp) tg is bd) (ht : ∀ (s : Shared) (H : Hp) (C : Addr) (cl : List (Str × Addr)) (fp : List Addr), STs (X.blk s H scope (compEnvC scope cl C X.env) fp) WN ifs gc)
    (hi1 : ∀ (s : Shared) (H : Hp) (C : Addr) (cl : List (Str × Addr)) (fp : List Addr), SI (X.blk s H scope (compEnvC scope cl C X.env) fp) WN tg1 iter1 it1)
    (hg1 : ∀ (s : Shared) (H : Hp) (C : Addr) (cl : List (Str × Addr)) (fp : List Addr), SG (X.blk s H scope (compEnvC scope cl C X.env) fp) tg1 is1 bd1) (ht1 : ∀ (s : Shared) (H : Hp) (C : Addr) (cl : List (Str × Addr)) (fp : List Addr), STs (X.blk s H scope (compEnvC scope cl C X.env) fp) WN ifs1 gc1)
    (he : ∀ (s : Shared) (H : Hp) (C : Addr) (cl : List (Str × Addr)) (fp : List Addr), SE (X.blk s H scope (compEnvC scope cl C X.env) fp) WN elt fe) (hsub : ∀ i ∈ is, i ∈ own.map (·.2) := by decide) (hv1 : ∀ i ∈ vs1, i ∈ own.map (·.2) := by decide) (hsub1 : ∀ i ∈ is1, i ∈ vs1 := by decide) (hnd : (own.map (·.2)).Nodup := by decide)
    (hs : ∀ x, foldedSetIterable iter X.env x = pure x := by intro _; rfl) (hs1 : ∀ env x, foldedSetIterable iter1 env x = pure x := by intro _ _; rfl) :
    SS X W (.Assign [.Name y py] (.ListComp elt [⟨tg, iter, ifs, 0⟩, ⟨tg1, iter1, ifs1, 0⟩] scope pos) spos) (gSet i (eLc2 it bd gc it1 bd1 gc1 fe (own.map (·.2)) vs1)) :=
  PS.imp (ps_setLc2 (i := i) (wi1 := tG X.K X.mg WN (relI X.K) it1) (g := tgG X.K is bd) (tt := tG X.K X.mg WN relB gc) (g1 := tgG X.K is1 bd1) (tt1 := tG X.K X.mg WN relB gc1) (te := tG X.K X.mg WN (relE X.K) fe) hc hN hy hyl (sw_true hk hyl hl hfr) hi ok hv1 hg ht hi1 hg1 ht1 he hs hs1) fun D σ H h => imp_lc2 hsub hv1 hsub1 hnd (imp_set h)
end
end FB
/-! FW25: a generator def that raises before it hands out anything; for over its call -/
namespace FB
open PySem PySem.Spec L2
open PyProof.Rows (envOfC AllBare)
/-! ### the generator's own context: the errors are those of FnG; pn: the generator's object -/
abbrev cxG (P : Program) (w : World) (K : PySem.W.Frag) (mg : Str → Option Value) (base : Heap) (N : List Str) (qual : Str) (scope : Scope) (f : Addr) (cd : Value) (A : Around) (outer : List Env) (s : Shared) (H : Hp) (E : XK) (pn : List (Addr × Obj)) : Cx :=
  { cxOf (L2N.CX P w) P w K mg base N qual scope f cd A outer s H E with
    pn := pn
    xe := fun err t => wpAny (model P w) (A.deeper (envOfC qual scope s.heap.objs.size f cd)) (leaving (envOfC qual scope s.heap.objs.size f cd) err)
      (fun _ t2 => L2N.CX P w outer H s E err t2 ∧ ∀ q ∈ pn, t2.heap.get? q.1 = some q.2) (fun _ _ => False) t }
/-- an error leaves; what is pinned stands -/
theorem leave_pin {X : Cx} {W : WX} {E : XK} {t : Shared} {u : Value} (h1 : X.stack = X.env :: X.outer) (h2 : X.env.frame = some X.env.locals) (h3 : X.ex = []) (hW : ∀ cls d σ H, W cls d σ H → E cls d H) (x : L2N.XE X W u t) :
    wpAny (model X.prog X.w) X.A (leaving X.env u) (fun _ t2 => L2N.CX X.prog X.w X.outer X.H_0 X.s_0 E u t2 ∧ ∀ q ∈ X.pn, t2.heap.get? q.1 = some q.2) (fun _ _ => False) t := by
  obtain ⟨er, G, tI, ps, σ, H, cls, d, rfl, I, inG, upG, air, noE, osE, brE, wE⟩ := x
  have frX : X.A.frames = some (X.env :: X.outer) := I.ok.frames.trans (congrArg some h1)
  have notEx : ∀ b, b ∉ X.ex := fun b hb => by rw [h3] at hb; exact nomatch hb
  have young : ∀ {b : Addr} {o : Obj}, X.s_0.heap.get? b = some o → b ≠ X.env.locals := fun {b o} e z => by
    have q1 := Heap.lt_size e
    rw [z] at q1
    exact Nat.lt_irrefl _ (Nat.lt_of_lt_of_le q1 I.ok.above)
  have offSt : ∀ {b : Addr}, b ≠ X.env.locals → b ∉ X.fs → b ∉ frs X.stack := fun {b} q1 q2 hm => (List.mem_cons.mp (I.stkSub b hm)).elim q1 q2
  have pinG : ∀ q ∈ X.pn, G.get? q.1 = some q.2 := fun q hq => by
    obtain ⟨p1, _, p3, p4, _⟩ := I.pin q (List.mem_append_left _ hq)
    exact inG q.1 q.2 p1 (offSt p3 p4)
  have end_ : ∀ h2, HandSPX.FlyingZ G X.outer er (L2N.Zn cls d) h2 → t.heap.UpToSlots h2 → L2N.CX X.prog X.w X.outer X.H_0 X.s_0 E (.ref er) { t with heap := h2 } ∧ ∀ q ∈ X.pn, ({ t with heap := h2 } : Shared).heap.get? q.1 = some q.2 := fun h2 fly up2 => by
    refine ⟨⟨er, G, H, cls, d, rfl, fly, I.inGround inG, ⟨?_, ?_, ?_, ?_, I.base.tups, I.base.frzs, I.base.tbls⟩, noE, osE.trans I.os, brE, hW _ _ _ _ wE⟩, fun q hq => fly.1 q.1 q.2 (pinG q hq)⟩
    · exact fun b o e n nf => inG b o (I.base.keep b o e n nf (notEx b)) (offSt (young e) nf)
    · intro b o e hb
      obtain ⟨_, o2, e2, nof⟩ := I.ok.funs.mem hb
      cases e.symm.trans e2
      obtain ⟨_, e3⟩ := I.base.slot b o e (I.ok.frf b hb) hb (notEx b)
      obtain ⟨_, e4⟩ := upG b _ e3 nof
      obtain ⟨sl, e5⟩ := up2 b _ e4 nof
      exact ⟨sl, e5⟩
    · exact fun b o e n => I.base.free b o e n (notEx b)
    · intro b o e nf
      obtain ⟨o2, e2⟩ := I.base.there b o e (notEx b)
      exact ⟨o2, inG b o2 e2 (offSt (young e) nf)⟩
  rw [h1] at air
  rcases air with ⟨z1, z2, z3, ob, fs, z4, z5, z6, z7⟩ | fly | held
  · exact PXN.leaving_firstZ L2N.Zn.steady frX z3 h2 z4 z1 z2 z6 z7 z5 end_
  · exact PXN.leaves_onZ L2N.Zn.steady frX h2 fly end_
  · exact HandSPX.leaves_heldZ h2 held end_
section
variable {P : Program} {w : World} {K : PySem.W.Frag} {mg : Str → Option Value} {base : Heap} {N : List Str} {qual : Str} {scope : Scope} {f : Addr} {cd : Value} {A : Around} {outer : List Env} {s : Shared} {H : Hp} {E : XK} {pn : List (Addr × Obj)}
theorem takes_cxG : L2N.Takes (cxG P w K mg base N qual scope f cd A outer s H E pn) (fun cls d _ H' => E cls d H') := fun u t x =>
  leave_pin (X := cxG P w K mg base N qual scope f cd A outer s H E pn) (W := fun cls d _ H' => E cls d H') rfl rfl rfl (fun _ _ _ _ q => q) x
end
/-! ### what the call gives -/
def GX (P : Program) (w : World) (k : Nat) (outer : List Env) (H : Hp) (s : Shared) (E : XK) (u : Value) (t : Shared) : Prop :=
  ∃ (a : Addr) (g : Nat) (c : Code), u = .ref a ∧ t.heap.IsGen a g ∧ t.gens[g]? = some (.fresh c) ∧ t.os = s.os ∧ AllBare t.gens ∧ t.heap.NoLimit ∧ (∀ b o, s.heap.get? b = some o → t.heap.get? b = some o) ∧
    ∀ (A : Around) (t2 : Shared) (n : Nat), Room k A → A.guards = some [] → A.frames = some outer → t2.heap = t.heap → t2.os = s.os → AllBare t2.gens →
      Seg (model P w) A (fun _ _ r t3 => ∃ e, r = .error e ∧ L2N.CX P w outer H s E e t3 ∧ t3.heap.IsGen a g) (fun _ _ _ _ _ => False) n t2 c ((model P w).den c) [] t2
structure GFx (P : Program) (w : World) (K : PySem.W.Frag) (mg : Str → Option Value) (base : Heap) (k : Nat) (f : Addr) (fd : FuncData) (ps : List Str) (sp : Sp) : Prop where
  len : ∀ vs H Q E, sp vs H Q E → vs.length = ps.length
  run : ∀ (A : Around) (outer : List Env) (s : Shared) (H : Hp) (args : Args) (us : List Value) (vs : List V) (E : XK), Room k A → Env0 P w K mg base A outer s H → BindsTo s fd args (ps.zip us) → Vals vs us →
    sp vs H (fun _ _ => False) E → codeAny (model P w) A (.call (.ref f) args) (fun r t => ∃ u, r = .ok (.ret u) ∧ GX P w k outer H s E u t) s
theorem gfx_of {P : Program} {w : World} {K : PySem.W.Frag} {mg : Str → Option Value} {base : Heap} {x qual : Str} {st : Stmt} {f : Addr} {fd : FuncData} {N ps : List Str} {k : Nat} {sp : Sp} (F : Fun K x qual st f fd) (S : GScope N ps (defScope st)) (len : ∀ vs H Q E, sp vs H Q E → vs.length = ps.length)
    (hbody : ∀ (cdv : Value) (A : Around) (outer : List Env) (s : Shared) (H : Hp) (vs : List V) (E : XK) (pn : List (Addr × Obj)), Room k (A.deeper (envOfC qual (defScope st) s.heap.objs.size f cdv)) → A.guards = some [] → sp vs H (fun _ _ => False) E →
      ∃ t, PSs (cxG P w K mg base N qual (defScope st) f cdv A outer s H E pn) (defBody st) t ∧ t { nx := fun _ _ => False, rt := fun _ _ => False } (L2.start N vs) H) : GFx P w K mg base (k + 1) f fd ps sp := by
  obtain ⟨oc, od, kV, doc, pm, an, cdv, ct, osl, ef, lk, hcd⟩ := F.ex
  subst ef
  refine ⟨len, fun A outer s H args us vs E hr e0 hb r hsp => ?_⟩
  have KX : K.In s.heap := e0.mod.kin.keeps fun b o z => (e0.bs b o z).1
  have lim : s.heap.NoLimit := e0.mod.nolimit.keeps fun b o z => (e0.bs b o z).1
  have kinds : ∀ y ∈ ps.zip us, (defScope st).names.lookup y.1 = some .local ∨ ((defScope st).names.lookup y.1 = some .cell ∧ ((PySem.cellsFrom (s.heap.objs.size + 1) (defScope st).names []).lookup y.1).isSome = true) := fun y hy =>
    (S.par y.1 (List.of_mem_zip hy).1).imp id fun q => ⟨q, PySem.W.cellsFrom_some _ _ _ (.inl q)⟩
  refine codeAny_call_generator hr.depth (KX _ _ lk) rfl S.co S.gen rfl (PySem.W.codeRec_of KX hcd) (hb _ _ _ _ (PySem.wpAny_newFunctionEnv_cells S.kind kinds fun env he s1 x => ?_))
  subst he
  have lim1 : s1.heap.NoLimit := lim.keeps x.toInCall.keep
  obtain ⟨hp1, tk1, ed, kp⟩ := x.done
  have os1 : s1.os = s.os := by rw [ed]
  have gn1 : s1.gens = s.gens := by rw [ed]
  have lt1 : s.heap.objs.size < s1.heap.objs.size := x.toInCall.ns.lt
  refine ⟨lim1, .ref s1.heap.objs.size, rfl, ?_⟩
  have main : ∀ (go : Obj) (nm qn : Value) (tk : Nat), go.cls = .type "generator" → go.data = .fields #[.int s1.gens.size 0, nm, qn] → go.slots = #[] → (∀ h : Heap, (h.push go).get? h.objs.size = some go) →
      GX P w (k + 1) outer H s E (.ref s1.heap.objs.size) { s1 with gens := s1.gens.push (.fresh (.func (defBody st) (envOfC qual (defScope st) s.heap.objs.size f cdv))), toks := tk, heap := s1.heap.push go } := by
    intro go nm qn tk g1 g2 g3 g4
    have isG : ∀ h : Heap, h.get? s1.heap.objs.size = some go → h.IsGen s1.heap.objs.size s1.gens.size := fun h e => ⟨go, nm, qn, e, g1, g2, g3⟩
    refine ⟨s1.heap.objs.size, s1.gens.size, _, rfl, isG _ (g4 _), Array.getElem?_push_size .., os1, AllBare.push (by rw [gn1]; exact e0.bare) rfl, lim1.keeps fun b o e => Heap.get?_push_of_some _ e, fun b o e => Heap.get?_push_of_some _ (x.toInCall.keep b o e), ?_⟩
    intro A2 t2 n hr2 hg2 hf2 ht hos hbr
    obtain ⟨t, hT, hq⟩ := hbody cdv A2 outer s H vs E [(s1.heap.objs.size, go)] (hr2.deeper _) hg2 hsp
    have e2 : Env0 P w K mg base A2 outer s H := ⟨hf2, e0.mod, e0.bs, e0.bsz, e0.funs, e0.frf, e0.hok, e0.bare⟩
    have J0 := inv_startG (E := E) S hr2.hd e2 (len _ _ _ _ hsp) r x
    have kp2 : ∀ b o, s1.heap.get? b = some o → t2.heap.get? b = some o := fun b o e => by rw [ht]; exact Heap.get?_push_of_some _ e
    have J := J0.call' (ch := []) (hos.trans os1.symm) (Un.kept kp2) (J0.hok.kept kp2) hbr fun b z => nomatch z
    have there : t2.heap.get? s1.heap.objs.size = some go := by rw [ht]; exact g4 _
    have I : Inv (cxG P w K mg base N qual (defScope st) f cdv A2 outer s H E [(s1.heap.objs.size, go)]) [] (L2.start N vs) H t2 :=
      ⟨⟨J.ok.mod, J.ok.kind, J.ok.glob, J.ok.blt, J.ok.above, J.ok.inj, J.ok.has, J.ok.cab, J.ok.hd, J.ok.frames, J.ok.stk, J.ok.exf, J.ok.bs, J.ok.bsz, J.ok.noex, J.ok.exfs, J.ok.funs, J.ok.frf⟩,
        J.os, J.bare, J.base, J.loc, J.cell, J.free, J.freeC, fun q hq => by
          rw [List.append_nil] at hq
          rw [List.mem_singleton.mp hq]
          exact ⟨there, J0.hok.fresh (Nat.le_refl _), Nat.ne_of_gt lt1, J0.nofs (Nat.le_refl _), fun v z => by rw [g2] at z; cases z⟩, J.hok, J.len⟩
    refine seg_func (seg_wrap ?_)
    rw [GenW.over_func]
    refine wpAny_mono (hT.run [] t2 _ H _ I hq) (fun fl t3 done => ?_) fun err t3 hx => seg_wrap ?_
    · cases fl with
      | next => obtain ⟨_, _, _, z⟩ := done; exact z.elim
      | brk => obtain ⟨_, _, _, z⟩ := done; exact z.elim
      | cont => obtain ⟨_, _, _, z⟩ := done; exact z.elim
      | ret u => obtain ⟨_, _, _, _, _, z⟩ := done; exact z.elim
    · rw [GenW.over_func]
      exact wpAny_mono hx (fun _ t4 q => seg_end (.error err) ⟨err, rfl, q.1, isG _ (q.2 _ (List.mem_singleton.mpr rfl))⟩) fun _ _ q => q.elim
  exact main _ _ _ _ rfl rfl rfl fun h => Heap.get?_push_size _ rfl
theorem gfx_sem {P : Program} {w : World} {K : PySem.W.Frag} {mg : Str → Option Value} {base : Heap} {x qual : Str} {st : Stmt} {f : Addr} {fd : FuncData} {N ps : List Str} {k n : Nat} {g : MS} (F : Fun K x qual st f fd) (S : GScope N ps (defScope st)) (hn : ps.length = n)
    (hbody : ∀ (cdv : Value) (A : Around) (outer : List Env) (s : Shared) (H : Hp) (E : XK) (pn : List (Addr × Obj)), Room k (A.deeper (envOfC qual (defScope st) s.heap.objs.size f cdv)) → A.guards = some [] →
      L2N.Takes (cxG P w K mg base N qual (defScope st) f cdv A outer s H E pn) (fun cls d _ H' => E cls d H') →
      SSs (cxG P w K mg base N qual (defScope st) f cdv A outer s H E pn) (fun cls d _ H' => E cls d H') (defBody st) g) :
    GFx P w K mg base (k + 1) f fd ps (spOf K mg (funG N.length g) n) := by
  refine gfx_of F S (fun vs H Q E h => h.1.trans hn.symm) fun cdv A outer s H vs E pn hr hgd hsp => ?_
  obtain ⟨hl, C, ρ, hH, R, hp⟩ := hsp
  refine ⟨_, hbody cdv A outer s H E pn hr hgd takes_cxG, C, C.F0, ρ ++ List.replicate (N.length - ρ.length) .no, ?_, ?_⟩
  · have hlen : ρ.length = vs.length := by rw [R.len, List.length_map]
    have R2 := R.pad (N.length - ρ.length)
    unfold L2.start
    rw [← hlen]
    exact R2
  · unfold funG at hp
    cases q : g (ρ ++ List.replicate (N.length - ρ.length) .no) with
    | bad => rw [q] at hp; exact hp.elim
    | exc e ρ' =>
      rw [q] at hp
      exact fun cls F' σ' H' _ R' hm => hp cls F' σ' H' R' hm
    | ok fl ρ' =>
      rw [q] at hp
      cases fl with
      | nx => exact fun F' σ' H' _ R' => hp .non F' σ' H' R' .non
      | bk => exact hp.elim
      | ct => exact hp.elim
      | rt u => exact fun v F' σ' H' _ R' r' => hp v F' σ' H' R' r'
theorem GFx.mono {P : Program} {w : World} {K : PySem.W.Frag} {mg : Str → Option Value} {base : Heap} {j k : Nat} {f : Addr} {fd : FuncData} {ps : List Str} {sp : Sp} (F : GFx P w K mg base j f fd ps sp) (h : j ≤ k) : GFx P w K mg base k f fd ps sp :=
  ⟨F.len, fun A outer s H args us vs E hr e0 hb r hs => codeAny_mono (F.run A outer s H args us vs E (hr.mono h) e0 hb r hs) fun r t ⟨u, z1, a, g, c, y1, y2, y3, y4, y5, y6, y7, y8⟩ =>
    ⟨u, z1, a, g, c, y1, y2, y3, y4, y5, y6, y7, fun A t2 n hr2 => y8 A t2 n (hr2.mono h)⟩⟩
/-! ### for over its call: the first next raises -/
/-- a class of errors that ends no iterator -/
def NSt (K : PySem.W.Frag) (mg : Str → Option Value) (e : Str) : Prop := ∃ E : Addr, mg e = some (.ref E) ∧ PySem.W.subIn K (.ref E) (.type "StopIteration") = some false
/-- what may come out: an error of such a class -/
def XSt (K : PySem.W.Frag) (E : XK) : XK := fun cls d H => E cls d H ∧ PySem.W.subIn K cls (.type "StopIteration") = some false
section
variable {X : Cx} {W : WX} {k : Nat} {f : Addr} {fd : FuncData} {ps : List Str} {sp : Sp} {x : Str} {p pos cpos : Pos} {tg e : Expr} {es : List Expr} {body : List Stmt} {t : TA}
theorem notStopN {pins : List (Addr × Obj)} {σ : St} {H : Hp} {s s2 : Shared} {E : XK} {er : Value} (I : Inv X pins σ H s) (c : L2N.CX X.prog X.w X.stack H s (XSt X.K E) er s2) : NotStop (model X.prog X.w) er s2.heap := by
  obtain ⟨a, G, H2, cls, d, rfl, fly, _, ub, _, _, _, _, hsub⟩ := c
  have kin : X.K.In s2.heap := I.ok.mod.kin.keeps fun b o eb => by
    obtain ⟨q1, q2⟩ := I.bs b o eb
    refine fly.1 b o (ub.keep b o q1 q2 fun hm => ?_)
    rcases List.mem_cons.mp (I.stkSub b hm) with z | z
    · have l1 := Heap.lt_size eb
      rw [z] at l1
      exact Nat.lt_irrefl _ (Nat.lt_of_lt_of_le l1 (Nat.le_trans I.ok.bsz I.ok.above))
    · exact I.ok.nofr eb z
  obtain ⟨ob, fs, at_, zn, _⟩ := fly.there
  have look := PySem.W.looks_subIn (M := model X.prog X.w) kin hsub
  intro A Q E2 s3 same hq
  simp only [isInstance]
  refine wpAny_bind (wpAny_typeOf_ref (o := ob) (by rw [same]; exact at_) ?_)
  rw [zn.1]
  exact look A Q E2 s3 (fun b o z => by rw [same]; exact z) hq
theorem ps_forX (F : GFx X.prog X.w X.K X.mg X.base k f fd ps sp) (hr : Room (k + 1) X.A) (hgd : X.A.guards = some []) (hp : PassesOwn (model X.prog X.w) X.A X.env X.xe) (tk : L2N.Takes X W) (hg : Gl X x) (hm : X.mg x = some (.ref f)) (hk : PySem.W.keepIn X.K (.ref f) = true) (hb : Binds X.K fd ps [])
    (ha : PA X (e :: es) t) (hdb : (x == ("__debug__" : Str)) = false) (he : starEach (e :: es) X.env = (false, eval e X.env) :: starEach es X.env) (hpl : (backTo cpos (starEach es X.env)).any (·.1) = false)
    (hs : ∀ y, foldedSetIterable (.Call (.Name x p) (e :: es) [] cpos) X.env y = pure y) :
    PS X (.For tg (.Call (.Name x p) (e :: es) [] cpos) body [] pos) (fun _ σ H => t σ H fun vs H1 => sp vs H1 (fun _ _ => False) (XSt X.K fun cls d H2 => W cls d σ H2)) := by
  refine ⟨fun pins s σ H D I h => ?_⟩
  have made : wpAny (model X.prog X.w) X.A (eval (.Call (.Name x p) (e :: es) [] cpos) X.env) (fun u s2 => ∃ H1 s1, Inv X pins σ H1 s1 ∧ GX X.prog X.w k X.stack H1 s1 (XSt X.K fun cls d H2 => W cls d σ H2) u s2) X.xe s := by
    refine wpAny_Call_Name_kw (ld_glob I hg hm (PySem.W.callWith_K (h₀ := X.base) I.ok.mod.kin hk (thn (ha.run cpos pins s σ H _ I h) fun us s1 ⟨vs, H1, I1, r, q⟩ => ⟨I1.kIn, ?_⟩) he hpl) hdb)
    have la : us.length = ps.length := r.length.symm.trans (F.len _ _ _ _ q)
    have b := hb s1 us I1.kIn (by rw [List.append_nil]; exact la)
    rw [List.append_nil] at b
    refine wpAny_call (codeAny_mono (F.run X.A X.stack s1 H1 ⟨us, []⟩ us vs _ (hr.mono (Nat.le_succ k)) I1.env0 b r q) fun res s2 z => ?_)
    obtain ⟨u, z1, z2⟩ := z
    subst z1
    exact ⟨H1, s1, I1, z2⟩
  refine wpAny_For (thn made fun v s2 ⟨H1, s1, I1, a, g, c, e1, isG, fresh, os2, br2, lim2, _, wake⟩ => ?_) hs
  subst e1
  refine wpAny_pyIter_gen isG (codeAny_forLoop_any (fun _ s3 => s3 = s2) (fun n s3 e3 => ?_) 0 rfl)
  subst e3
  refine wpAny_passesOwn hp (next_genG (n := 0) (F := fun _ _ _ => False) (Er := fun er s4 => L2N.CX X.prog X.w X.stack H1 s1 (XSt X.K fun cls d H2 => W cls d σ H2) er s4 ∧ s4.heap.IsGen a g) (Y := fun _ _ _ _ _ => False)
    hr.hd lim2 (by have := hr.dp; omega) isG fresh ⟨rfl, ?_⟩ (fun _ _ _ _ z => z.elim) (fun _ z => z.elim) fun er s4 ⟨cx, isG4⟩ => ⟨isG4, notStopN I1 cx, ?_⟩)
  · refine seg_imp (fun _ _ res s4 z => .inr ?_) (fun _ _ _ _ _ _ _ z => z) 0 (wake X.A.in1 _ 0 ⟨hr.hd, ?_, ?_⟩ hgd I1.ok.frames rfl os2 (allBare_setGen br2 rfl))
    · have := hr.dp
      show X.A.depth + 3 * k + 5 < _
      omega
    · have := hr.un
      show X.A.units + 1 + 16 * k + 200 < _
      omega
    · rename_i z
      obtain ⟨er, z1, z2, z3⟩ := z
      exact ⟨er, z1, z2, z3⟩
  · obtain ⟨b, G, H2, cls, d, y1, y2, y3, y4, y5, y6, y7, y8⟩ := cx
    exact passAt tk σ pins H1 s1 er _ I1 ⟨b, G, H2, cls, d, y1, y2, y3, y4, y5, y6, allBare_setGen y7 rfl, y8.1⟩
end
/-- the reading of such a loop: L: the errors that may come -/
def gForX (L : List Str) (G : List Slot → Out Vl) (a : MA) : MS := fun ρ => match eCall G a ρ with
  | .exc e ρ1 => if L.contains e then .exc e ρ1 else .bad
  | _ => .bad
section
variable {X : Cx} {W : WX} {k n : Nat} {f : Addr} {fd : FuncData} {ps : List Str} {x : Str} {p pos cpos : Pos} {tg e : Expr} {es : List Expr} {body : List Stmt} {fs : MA} {G : List Slot → Out Vl} {L : List Str}
theorem ss_forX (F : GFx X.prog X.w X.K X.mg X.base k f fd ps (spOf X.K X.mg G n)) (hr : Room (k + 1) X.A) (hgd : X.A.guards = some []) (hp : PassesOwn (model X.prog X.w) X.A X.env X.xe) (tk : L2N.Takes X W) (hL : ∀ e ∈ L, NSt X.K X.mg e) (hm : X.mg x = some (.ref f)) (hk : PySem.W.keepIn X.K (.ref f) = true) (hb : Binds X.K fd ps [])
    (ha : SA X (fun cls d σ H => W cls d σ H ∧ PySem.W.subIn X.K cls (.type "StopIteration") = some false) (e :: es) fs) (hn : ∀ ρ us ρ1, fs ρ = .ok us ρ1 → us.length = n) (hg : Gl X x := by rfl) (hdb : (x == ("__debug__" : Str)) = false := by decide) (he : starEach (e :: es) X.env = (false, eval e X.env) :: starEach es X.env := by rfl) (hpl : (backTo cpos (starEach es X.env)).any (·.1) = false := by rfl)
    (hs : ∀ y, foldedSetIterable (.Call (.Name x p) (e :: es) [] cpos) X.env y = pure y := by intro _; rfl) :
    SS X W (.For tg (.Call (.Name x p) (e :: es) [] cpos) body [] pos) (gForX L G fs) := by
  refine PS.imp (ps_forX (W := W) F hr hgd hp tk hg hm hk hb ha hdb he hpl hs) fun D σ H h => ?_
  have go : tG X.K X.mg (fun cls d σ H => W cls d σ H ∧ PySem.W.subIn X.K cls (.type "StopIteration") = some false) (relE X.K) (eCall G fs) σ H (fun _ _ => False) := by
    obtain ⟨C, F, ρ, R, h⟩ := h
    refine ⟨C, F, ρ, R, ?_⟩
    unfold gForX at h
    cases q : eCall G fs ρ with
    | bad => rw [q] at h; exact h.elim
    | ok u ρ1 => rw [q] at h; exact h.elim
    | exc er ρ1 =>
      simp only [q] at h
      by_cases z : L.contains er = true
      · rw [if_pos z] at h
        intro cls F2 H2 s2 R2 hmg
        obtain ⟨E, m1, m2⟩ := hL er (by simpa using z)
        refine ⟨h cls F2 σ H2 s2 R2 hmg, ?_⟩
        cases hmg.symm.trans m1
        exact m2
      · rw [if_neg z] at h
        exact h.elim
  have got := imp_call go (fun _ _ _ _ _ _ _ => .inr trivial) hn
  unfold tCallSD at got
  simp only [List.append_nil] at got
  exact got
end
/-- rows that are never reached -/
def gBadG : MS := fun _ => .bad
theorem sss_bad {X : Cx} {W : WX} {st : List Stmt} : SSs X W st gBadG := ⟨fun _ _ _ _ _ _ h => by
  obtain ⟨_, _, _, _, z⟩ := h
  exact z.elim⟩
/-- a generator def that may be called -/
def ClGx (P : Program) (w : World) (K : PySem.W.Frag) (mg : Str → Option Value) (base : Heap) (k : Nat) (x : Str) (ps : List Str) (G : List Slot → Out Vl) : Prop :=
  ∃ f fd, GFx P w K mg base k f fd ps (spOf K mg G ps.length) ∧ PySem.W.keepIn K (.ref f) = true ∧ Binds K fd ps [] ∧ mg x = some (.ref f)
section
variable {X : Cx} {W : WX} {k : Nat} {ps : List Str} {x : Str} {p pos cpos : Pos} {tg e : Expr} {es : List Expr} {body : List Stmt} {fs : MA} {G : List Slot → Out Vl} {L : List Str}
theorem ss_forXC (c : ClGx X.prog X.w X.K X.mg X.base k x ps G) (hr : Room (k + 1) X.A) (hgd : X.A.guards = some []) (hp : PassesOwn (model X.prog X.w) X.A X.env X.xe) (tk : L2N.Takes X W) (hL : ∀ e ∈ L, NSt X.K X.mg e)
    (ha : SA X (fun cls d σ H => W cls d σ H ∧ PySem.W.subIn X.K cls (.type "StopIteration") = some false) (e :: es) fs) (hn : ∀ ρ us ρ1, fs ρ = .ok us ρ1 → us.length = ps.length) (hg : Gl X x := by rfl) (hdb : (x == ("__debug__" : Str)) = false := by decide) (he : starEach (e :: es) X.env = (false, eval e X.env) :: starEach es X.env := by rfl) (hpl : (backTo cpos (starEach es X.env)).any (·.1) = false := by rfl)
    (hs : ∀ y, foldedSetIterable (.Call (.Name x p) (e :: es) [] cpos) X.env y = pure y := by intro _; rfl) :
    SS X W (.For tg (.Call (.Name x p) (e :: es) [] cpos) body [] pos) (gForX L G fs) := by
  obtain ⟨f, fd, F, hk, hb, hm⟩ := c
  exact ss_forX F hr hgd hp tk hL hm hk hb ha hn hg hdb he hpl hs
end
def nstB (K : PySem.W.Frag) (c : Value) : Bool := PySem.W.subIn K c (.type "StopIteration") == some false
theorem nst_of {K : PySem.W.Frag} {c : Value} (h : nstB K c = true) : PySem.W.subIn K c (.type "StopIteration") = some false := by simpa [nstB] using h
end FB
namespace Pk03
open PySem PySem.Spec L2 FB
def topS (i : Nat) : Stmt := PySem.Challenge.pw_frontback_k03_errors_of_rows.main.body.getD i (.Pass ⟨0, 0, 0, 0⟩)
section
variable {P : Program} {w : World} {K : PySem.W.Frag} {mg : Str → Option Value} {base : Heap}
def t_MOVES : List (Str × D) := [("front", .tuple [.str "front", .str "always"]), ("back", .tuple [.str "back", .str "always"]), ("drop", .tuple [.str "out", .str "present"]), ("addfront", .tuple [.str "front", .str "absent"]), ("addback", .tuple [.str "back", .str "absent"]), ("lift", .tuple [.str "front", .str "present"]), ("sink", .tuple [.str "back", .str "present"])]
abbrev s__law_take : Stmt := topS 41
abbrev n__law_take : List Str := ["digits", "size", "digit"]
theorem sc__law_take : FnScope ["digits", "size", "digit"] ["digits", "size"] (defScope s__law_take) := ⟨rfl, rfl, rfl, by decide +kernel, rfl, by decide +kernel, by decide +kernel⟩
def g__law_take : MS := gSeq (gSet 2 (eOp gMod (eBlt gInt (aCons (eOp gIx (eVar 0) (eC (.int 0))) (aNil))) (eVar 1))) (gSeq (gStore 0 (eOp gFdiv (eOp gIx (eVar 0) (eC (.int 0))) (eVar 1)) (eC (.int 0))) (gRet (eVar 2)))
def G__law_take : List Slot → Out Vl := funG 3 g__law_take
theorem ok__law_take {f : Addr} {fd : FuncData} (F : Fun K "_law_take" "_law_take" s__law_take f fd) (B : Blts mg)    : FnG P w K mg base 1 f fd ["digits", "size"] (spOf K mg G__law_take 2) :=
  fn_sem F sc__law_take rfl (fun cdv A outer s H E hr hgd tk => (sss_cons (ss_set (i := 2) sc__law_take.nd rfl (by first | exact .inl rfl | exact .inr rfl) (se_op op_mod od_mod (se_ty call_int1 cd_int (B "int" (by decide)) PyProof.Rows.boot_int (sa_cons (se_ix ix_seq od_ix (se_var (i := 0)) se_int) sa_nil)) (se_var (i := 1)))) (sss_cons (ss_store (i := 0) (se_op op_fdivW od_fdiv (se_ix ix_seq od_ix (se_var (i := 0)) se_int) (se_var (i := 1))) se_int) (sss_one (ss_ret (se_var (i := 2)))))))
abbrev s__law_words : Stmt := topS 42
abbrev n__law_words : List Str := ["digits", "most", "some", "found", "k", "word"]
theorem sc__law_words : FnScope ["digits", "most", "some", "found", "k", "word"] ["digits", "most"] (defScope s__law_words) := ⟨rfl, rfl, rfl, by decide +kernel, rfl, by decide +kernel, by decide +kernel⟩
def g__law_words : MS := gSeq (gSet 2 (eLst (aCons (eC (.str "a")) (aCons (eC (.str "ab")) (aCons (eC (.str "absent")) (aCons (eC (.str "b")) (aCons (eC (.str "drop")) (aCons (eC (.str "front")) (aCons (eC (.str "left")) (aCons (eC (.str "longname")) (aCons (eC (.str "longnamf")) (aCons (eC (.str "present")) (aCons (eC (.str "right")) (aCons (eC (.str "xa")) (aNil))))))))))))))) (gSeq (gSet 3 (eLst (aNil))) (gSeq (gFor (iR1 (aCons (eOp gAdd (eC (.int 1)) (eCallIo G__law_take (aCons (eVar 0) (aCons (eVar 1) (aNil))))) (aNil))) (bName 4) (gSeq (gSet 5 (eOp gIx (eVar 2) (eCallIo G__law_take (aCons (eVar 0) (aCons (eC (.int 12)) (aNil)))))) (gIf (bE (eOp gNotIn (eVar 5) (eVar 3))) (gDrop (eMut mAppend 3 (aCons (eVar 5) (aNil)))) (gNx)))) (gRet (eVar 3))))
def G__law_words : List Slot → Out Vl := funG 6 g__law_words
theorem ok__law_words {f : Addr} {fd : FuncData} (F : Fun K "_law_words" "_law_words" s__law_words f fd) (B : Blts mg)   (C__law_take : Cl P w K mg base 1 "_law_take" ["digits", "size"] G__law_take) : FnG P w K mg base 2 f fd ["digits", "most"] (spOf K mg G__law_words 2) :=
  fn_sem F sc__law_words rfl (fun cdv A outer s H E hr hgd tk => (sss_cons (ss_set (i := 2) sc__law_words.nd rfl (by first | exact .inl rfl | exact .inr rfl) (se_lst (sa_cons se_str (sa_cons se_str (sa_cons se_str (sa_cons se_str (sa_cons se_str (sa_cons se_str (sa_cons se_str (sa_cons se_str (sa_cons se_str (sa_cons se_str (sa_cons se_str (sa_cons se_str sa_nil)))))))))))))) (sss_cons (ss_set (i := 3) sc__law_words.nd rfl (by first | exact .inl rfl | exact .inr rfl) (se_lst sa_nil)) (sss_cons (ss_for PassesOwn.leaving rfl (si_r1 (B "range" (by decide)) (sa_cons (se_op op_addAll od_add se_int (se_callIoC C__law_take hr hgd tk (sa_cons (se_var (i := 0)) (sa_cons (se_var (i := 1)) sa_nil)) (aCons_len (aCons_len aNil_len)))) sa_nil)) (sg_name (i := 4) sc__law_words.nd rfl (by first | exact .inl rfl | exact .inr rfl)) (sss_cons (ss_set (i := 5) sc__law_words.nd rfl (by first | exact .inl rfl | exact .inr rfl) (se_ix ix_seq od_ix (se_var (i := 2)) (se_callIoC C__law_take hr hgd tk (sa_cons (se_var (i := 0)) (sa_cons se_int sa_nil)) (aCons_len (aCons_len aNil_len))))) (sss_one (ss_if (st_cmp (op_notInAll (r65 hr)) od_notIn (se_var (i := 5)) (se_var (i := 3))) (sss_one (ss_expr (se_mut (i := 3) PySem.F.slot_list_append PySem.F.type_list_append mt_append md_append (sa_cons (se_var (i := 5)) sa_nil)))) sss_nil)))) (sss_one (ss_ret (se_var (i := 3))))))))
abbrev s__law_odd_programs : Stmt := topS 46
abbrev n__law_odd_programs : List Str := ["some", "one", "picks", "verb", "word", "many", "letter"]
theorem sc__law_odd_programs : FnScope ["some", "one", "picks", "verb", "word", "many", "letter"] [] (defScope s__law_odd_programs) := ⟨rfl, rfl, rfl, by decide +kernel, rfl, by decide +kernel, by decide +kernel⟩
def g__law_odd_programs : MS := gSeq (gSet 0 (eLst (aCons (eC .none) (aCons (eC (.bool true)) (aCons (eC (.int 0)) (aCons (eC (.str "")) (aCons (eC (.str "front a")) (aCons (eTup (aNil)) (aCons (eDict0) (aCons (eTup (aCons (eC (.str "front")) (aCons (eC (.str "a")) (aNil)))) (aCons (eTup (aCons (eTup (aCons (eC (.str "front")) (aCons (eC (.str "a")) (aNil)))) (aNil))) (aCons (eLst (aCons (eC .none) (aNil))) (aCons (eLst (aCons (eC (.str "front")) (aNil))) (aCons (eLst (aCons (eLst (aNil)) (aNil))) (aNil))))))))))))))) (gSeq (gFor (iA (eLst (aCons (eTup (aCons (eC (.str "front")) (aNil))) (aCons (eTup (aCons (eC (.str "front")) (aCons (eC (.str "a")) (aCons (eC (.str "b")) (aNil))))) (aCons (eLst (aCons (eC (.str "front")) (aCons (eC (.str "a")) (aNil)))) (aCons (eTup (aCons (eC (.str "Front")) (aCons (eC (.str "a")) (aNil)))) (aCons (eTup (aCons (eC (.str "add")) (aCons (eC (.str "a")) (aNil)))) (aCons (eTup (aCons (eC (.str "front")) (aCons (eC (.str "")) (aNil)))) (aNil))))))))) (bName 1) (gSet 0 (eOp gAdd (eVar 0) (eLst (aCons (eLst (aCons (eVar 1) (aNil))) (aCons (eLst (aCons (eTup (aCons (eC (.str "drop")) (aCons (eC (.str "b")) (aNil)))) (aCons (eVar 1) (aNil)))) (aCons (eLst (aCons (eVar 1) (aCons (eTup (aCons (eC (.str "drop")) (aCons (eC (.str "b")) (aNil)))) (aNil)))) (aNil)))))))) (gSeq (gSet 2 (eLst (aCons (eTup (aCons (eC (.str "front")) (aCons (eC (.str "A")) (aNil)))) (aCons (eTup (aCons (eC (.str "front")) (aCons (eOp gMulA (eC (.str "a")) (eC (.int 9))) (aNil)))) (aCons (eTup (aCons (eC (.str "front")) (aCons (eC .none) (aNil)))) (aCons (eTup (aCons (eC (.str "front")) (aCons (eLst (aCons (eC (.str "a")) (aNil))) (aNil)))) (aNil))))))) (gSeq (gSet 2 (eOp gAdd (eVar 2) (eLst (aCons (eTup (aCons (eLst (aCons (eC (.str "front")) (aNil))) (aCons (eC (.str "a")) (aNil)))) (aCons (eTup (aCons (eC (.int 1)) (aCons (eC (.str "a")) (aNil)))) (aNil)))))) (gSeq (gFor (iA (eVar 2)) (bName 1) (gSet 0 (eOp gAdd (eVar 0) (eLst (aCons (eLst (aCons (eVar 1) (aNil))) (aCons (eLst (aCons (eTup (aCons (eC (.str "drop")) (aCons (eC (.str "b")) (aNil)))) (aCons (eTup (aCons (eC (.str "lift")) (aCons (eC (.str "a")) (aNil)))) (aCons (eVar 1) (aNil))))) (aNil))))))) (gSeq (gFor (iA (eLst (aCons (eC (.str "adddrop")) (aCons (eC (.str "addlift")) (aCons (eC (.str "backwards")) (aCons (eC (.str "dropall")) (aCons (eC (.str "front ")) (aCons (eC (.str "\tdrop")) (aCons (eC (.str "lif")) (aNil)))))))))) (bName 3) (gSet 0 (eOp gAdd (eVar 0) (eLst (aCons (eLst (aCons (eTup (aCons (eVar 3) (aCons (eC (.str "a")) (aNil)))) (aNil))) (aCons (eLst (aCons (eTup (aCons (eC (.str "drop")) (aCons (eC (.str "b")) (aNil)))) (aCons (eTup (aCons (eVar 3) (aCons (eC (.str "front")) (aNil)))) (aNil)))) (aNil))))))) (gSeq (gFor (iA (eLst (aCons (eC (.str "item2")) (aCons (eC (.str "topLeft")) (aCons (eC (.str "my_tab")) (aCons (eC (.str "a{")) (aCons (eC (.str "ab-c")) (aCons (eC (.str "a\n")) (aNil))))))))) (bName 4) (gSet 0 (eOp gAdd (eVar 0) (eLst (aCons (eLst (aCons (eTup (aCons (eC (.str "lift")) (aCons (eVar 4) (aNil)))) (aNil))) (aCons (eLst (aCons (eTup (aCons (eC (.str "drop")) (aCons (eC (.str "b")) (aNil)))) (aCons (eTup (aCons (eC (.str "sink")) (aCons (eVar 4) (aNil)))) (aNil)))) (aNil))))))) (gSeq (gSet 5 (eLc (iA (eC (.str "abcdefghijklm"))) (bName 6) (bYes) (eTup (aCons (eC (.str "addfront")) (aCons (eVar 6) (aNil)))) [6])) (gSeq (gDrop (eMut mAppend 0 (aCons (eOp gAdd (eOp gAdd (eOp gMulA (eLc (iA (eC (.str "abcdefghijkl"))) (bName 6) (bYes) (eTup (aCons (eC (.str "front")) (aCons (eVar 6) (aNil)))) [6]) (eC (.int 4))) (eOp gMulA (eLst (aCons (eTup (aCons (eC (.str "drop")) (aCons (eC (.str "a")) (aNil)))) (aNil))) (eC (.int 11)))) (eLst (aCons (eTup (aCons (eC (.str "front")) (aCons (eC (.str "m")) (aNil)))) (aNil)))) (aNil)))) (gRet (eOp gAdd (eVar 0) (eLst (aCons (eVar 5) (aCons (eOp gMulA (eLst (aCons (eTup (aCons (eC (.str "drop")) (aCons (eC (.str "a")) (aNil)))) (aNil))) (eC (.int 61))) (aCons (eBlt gTuple (aCons (eSl gSlc (eVar 5) oNone (oSome (eC (.int 3)))) (aNil))) (aNil)))))))))))))))
def G__law_odd_programs : List Slot → Out Vl := funG 7 g__law_odd_programs
theorem ok__law_odd_programs {f : Addr} {fd : FuncData} (F : Fun K "_law_odd_programs" "_law_odd_programs" s__law_odd_programs f fd) (B : Blts mg)    : FnG P w K mg base 1 f fd [] (spOf K mg G__law_odd_programs 0) :=
  fn_sem F sc__law_odd_programs rfl (fun cdv A outer s H E hr hgd tk => (sss_cons (ss_set (i := 0) sc__law_odd_programs.nd rfl (by first | exact .inl rfl | exact .inr rfl) (se_lst (sa_cons se_non (sa_cons se_bl (sa_cons se_int (sa_cons se_str (sa_cons se_str (sa_cons (se_tup sa_nil) (sa_cons se_dict0 (sa_cons (se_tup (sa_cons se_str (sa_cons se_str sa_nil))) (sa_cons (se_tup (sa_cons (se_tup (sa_cons se_str (sa_cons se_str sa_nil))) sa_nil)) (sa_cons (se_lst (sa_cons se_non sa_nil)) (sa_cons (se_lst (sa_cons se_str sa_nil)) (sa_cons (se_lst (sa_cons (se_lst sa_nil) sa_nil)) sa_nil)))))))))))))) (sss_cons (ss_for PassesOwn.leaving rfl (si_any (se_lst (sa_cons (se_tup (sa_cons se_str sa_nil)) (sa_cons (se_tup (sa_cons se_str (sa_cons se_str (sa_cons se_str sa_nil)))) (sa_cons (se_lst (sa_cons se_str (sa_cons se_str sa_nil))) (sa_cons (se_tup (sa_cons se_str (sa_cons se_str sa_nil))) (sa_cons (se_tup (sa_cons se_str (sa_cons se_str sa_nil))) (sa_cons (se_tup (sa_cons se_str (sa_cons se_str sa_nil))) sa_nil)))))))) (sg_name (i := 1) sc__law_odd_programs.nd rfl (by first | exact .inl rfl | exact .inr rfl)) (sss_one (ss_set (i := 0) sc__law_odd_programs.nd rfl (by first | exact .inl rfl | exact .inr rfl) (se_op op_addAll od_add (se_var (i := 0)) (se_lst (sa_cons (se_lst (sa_cons (se_var (i := 1)) sa_nil)) (sa_cons (se_lst (sa_cons (se_tup (sa_cons se_str (sa_cons se_str sa_nil))) (sa_cons (se_var (i := 1)) sa_nil))) (sa_cons (se_lst (sa_cons (se_var (i := 1)) (sa_cons (se_tup (sa_cons se_str (sa_cons se_str sa_nil))) sa_nil))) sa_nil)))))))) (sss_cons (ss_set (i := 2) sc__law_odd_programs.nd rfl (by first | exact .inl rfl | exact .inr rfl) (se_lst (sa_cons (se_tup (sa_cons se_str (sa_cons se_str sa_nil))) (sa_cons (se_tup (sa_cons se_str (sa_cons (se_op op_mulAll od_mulA se_str se_int) sa_nil))) (sa_cons (se_tup (sa_cons se_str (sa_cons se_non sa_nil))) (sa_cons (se_tup (sa_cons se_str (sa_cons (se_lst (sa_cons se_str sa_nil)) sa_nil))) sa_nil)))))) (sss_cons (ss_set (i := 2) sc__law_odd_programs.nd rfl (by first | exact .inl rfl | exact .inr rfl) (se_op op_addAll od_add (se_var (i := 2)) (se_lst (sa_cons (se_tup (sa_cons (se_lst (sa_cons se_str sa_nil)) (sa_cons se_str sa_nil))) (sa_cons (se_tup (sa_cons se_int (sa_cons se_str sa_nil))) sa_nil))))) (sss_cons (ss_for PassesOwn.leaving rfl (si_any (se_var (i := 2))) (sg_name (i := 1) sc__law_odd_programs.nd rfl (by first | exact .inl rfl | exact .inr rfl)) (sss_one (ss_set (i := 0) sc__law_odd_programs.nd rfl (by first | exact .inl rfl | exact .inr rfl) (se_op op_addAll od_add (se_var (i := 0)) (se_lst (sa_cons (se_lst (sa_cons (se_var (i := 1)) sa_nil)) (sa_cons (se_lst (sa_cons (se_tup (sa_cons se_str (sa_cons se_str sa_nil))) (sa_cons (se_tup (sa_cons se_str (sa_cons se_str sa_nil))) (sa_cons (se_var (i := 1)) sa_nil)))) sa_nil))))))) (sss_cons (ss_for PassesOwn.leaving rfl (si_any (se_lst (sa_cons se_str (sa_cons se_str (sa_cons se_str (sa_cons se_str (sa_cons se_str (sa_cons se_str (sa_cons se_str sa_nil))))))))) (sg_name (i := 3) sc__law_odd_programs.nd rfl (by first | exact .inl rfl | exact .inr rfl)) (sss_one (ss_set (i := 0) sc__law_odd_programs.nd rfl (by first | exact .inl rfl | exact .inr rfl) (se_op op_addAll od_add (se_var (i := 0)) (se_lst (sa_cons (se_lst (sa_cons (se_tup (sa_cons (se_var (i := 3)) (sa_cons se_str sa_nil))) sa_nil)) (sa_cons (se_lst (sa_cons (se_tup (sa_cons se_str (sa_cons se_str sa_nil))) (sa_cons (se_tup (sa_cons (se_var (i := 3)) (sa_cons se_str sa_nil))) sa_nil))) sa_nil))))))) (sss_cons (ss_for PassesOwn.leaving rfl (si_any (se_lst (sa_cons se_str (sa_cons se_str (sa_cons se_str (sa_cons se_str (sa_cons se_str (sa_cons se_str sa_nil)))))))) (sg_name (i := 4) sc__law_odd_programs.nd rfl (by first | exact .inl rfl | exact .inr rfl)) (sss_one (ss_set (i := 0) sc__law_odd_programs.nd rfl (by first | exact .inl rfl | exact .inr rfl) (se_op op_addAll od_add (se_var (i := 0)) (se_lst (sa_cons (se_lst (sa_cons (se_tup (sa_cons se_str (sa_cons (se_var (i := 4)) sa_nil))) sa_nil)) (sa_cons (se_lst (sa_cons (se_tup (sa_cons se_str (sa_cons se_str sa_nil))) (sa_cons (se_tup (sa_cons se_str (sa_cons (se_var (i := 4)) sa_nil))) sa_nil))) sa_nil))))))) (sss_cons (ss_setLc (i := 5) (own := [("letter", 6)]) rfl sc__law_odd_programs.nd rfl rfl rfl rfl rfl (blk_ok (N := n__law_odd_programs) (sc := defScope s__law_odd_programs) (by decide +kernel)) (si_any se_str) (fun _ _ _ _ _ => (sg_name (i := 6) sc__law_odd_programs.nd rfl (by first | exact .inl rfl | exact .inr rfl))) (fun _ _ _ _ _ => sts_nil) (fun _ _ _ _ _ => (se_tup (sa_cons se_str (sa_cons (se_var (i := 6)) sa_nil))))) (sss_cons (ss_expr (se_mut (i := 0) PySem.F.slot_list_append PySem.F.type_list_append mt_append md_append (sa_cons (se_op op_addAll od_add (se_op op_addAll od_add (se_op op_mulAll od_mulA (se_lc (own := [("letter", 6)]) rfl sc__law_odd_programs.nd (blk_ok (N := n__law_odd_programs) (sc := defScope s__law_odd_programs) (by decide +kernel)) (si_any se_str) (fun _ _ _ _ _ => (sg_name (i := 6) sc__law_odd_programs.nd rfl (by first | exact .inl rfl | exact .inr rfl))) (fun _ _ _ _ _ => sts_nil) (fun _ _ _ _ _ => (se_tup (sa_cons se_str (sa_cons (se_var (i := 6)) sa_nil))))) se_int) (se_op op_mulAll od_mulA (se_lst (sa_cons (se_tup (sa_cons se_str (sa_cons se_str sa_nil))) sa_nil)) se_int)) (se_lst (sa_cons (se_tup (sa_cons se_str (sa_cons se_str sa_nil))) sa_nil))) sa_nil))) (sss_one (ss_ret (se_op op_addAll od_add (se_var (i := 0)) (se_lst (sa_cons (se_var (i := 5)) (sa_cons (se_op op_mulAll od_mulA (se_lst (sa_cons (se_tup (sa_cons se_str (sa_cons se_str sa_nil))) sa_nil)) se_int) (sa_cons (se_ty call_tupleN cd_tuple (B "tuple" (by decide)) PyProof.Rows.boot_tuple (sa_cons (se_slice sl_all sd_all (se_var (i := 5)) so_none (so_some se_int)) sa_nil)) sa_nil)))))))))))))))))
abbrev s__law_odd_rows : Stmt := topS 47
abbrev n__law_odd_rows : List Str := ["some", "letter"]
theorem sc__law_odd_rows : FnScope ["some", "letter"] [] (defScope s__law_odd_rows) := ⟨rfl, rfl, rfl, by decide +kernel, rfl, by decide +kernel, by decide +kernel⟩
def g__law_odd_rows : MS := gSeq (gSet 0 (eLst (aCons (eC .none) (aCons (eC (.bool true)) (aCons (eC (.int 0)) (aCons (eC (.str "")) (aCons (eC (.str "ab")) (aCons (eLst (aNil)) (aCons (eLst (aCons (eC (.str "a")) (aNil))) (aCons (eDict0) (aCons (eTup (aCons (eC (.str "a")) (aCons (eC (.str "a")) (aNil)))) (aCons (eTup (aCons (eC (.str "a")) (aCons (eC (.str "b")) (aCons (eC (.str "a")) (aNil))))) (aCons (eTup (aCons (eC (.str "")) (aNil))) (aCons (eTup (aCons (eC (.str "A")) (aNil))) (aNil))))))))))))))) (gSeq (gSet 0 (eOp gAdd (eVar 0) (eLst (aCons (eTup (aCons (eC (.str "a")) (aCons (eC (.int 1)) (aNil)))) (aCons (eTup (aCons (eC (.str "a")) (aCons (eC .none) (aNil)))) (aCons (eTup (aCons (eC (.str "a")) (aCons (eLst (aCons (eC (.str "b")) (aNil))) (aNil)))) (aCons (eTup (aCons (eOp gMulA (eC (.str "a")) (eC (.int 9))) (aNil))) (aCons (eTup (aCons (eC (.str "a b")) (aNil))) (aCons (eTup (aCons (eC (.str "a")) (aCons (eC (.str "b1")) (aNil)))) (aCons (eTup (aCons (eTup (aCons (eC (.str "a")) (aNil))) (aNil))) (aCons (eDict1i "a" 1) (aNil)))))))))))) (gSeq (gSet 0 (eOp gAdd (eVar 0) (eLst (aCons (eTup (aCons (eC (.str "a")) (aCons (eC (.str "b")) (aCons (eC (.str "b")) (aNil))))) (aCons (eTup (aCons (eC (.str "a")) (aCons (eC (.str "a")) (aCons (eC (.str "b")) (aNil))))) (aCons (eTup (aCons (eC (.str "a")) (aCons (eC (.str "b")) (aCons (eC (.str "c")) (aCons (eC (.str "b")) (aCons (eC (.str "d")) (aNil))))))) (aCons (eTup (aCons (eC (.str "item2")) (aNil))) (aCons (eTup (aCons (eC (.str "b")) (aCons (eC (.str "topLeft")) (aNil)))) (aNil))))))))) (gSeq (gSet 0 (eOp gAdd (eVar 0) (eLst (aCons (eTup (aCons (eC (.str "my_tab")) (aNil))) (aNil))))) (gSeq (gSet 0 (eOp gAdd (eVar 0) (eLst (aCons (eTup (aCons (eC (.str "a{")) (aNil))) (aCons (eOp gAdd (eBlt gTupleS (aCons (eC (.str "abcdefghijklmnopqrs")) (aNil))) (eTup (aCons (eC (.str "T")) (aNil)))) (aCons (eOp gAdd (eBlt gTupleS (aCons (eC (.str "abcdefghijklmnopqrs")) (aNil))) (eTup (aCons (eC (.str "s")) (aNil)))) (aNil))))))) (gRet (eOp gAdd (eVar 0) (eLst (aCons (eBlt gTuple (aCons (eLc (iA (eC (.str "abcdefghijklmnopqrstu"))) (bName 1) (bYes) (eVar 1) [1]) (aNil))) (aNil)))))))))
def G__law_odd_rows : List Slot → Out Vl := funG 2 g__law_odd_rows
theorem ok__law_odd_rows {f : Addr} {fd : FuncData} (F : Fun K "_law_odd_rows" "_law_odd_rows" s__law_odd_rows f fd) (B : Blts mg)    : FnG P w K mg base 1 f fd [] (spOf K mg G__law_odd_rows 0) :=
  fn_sem F sc__law_odd_rows rfl (fun cdv A outer s H E hr hgd tk => (sss_cons (ss_set (i := 0) sc__law_odd_rows.nd rfl (by first | exact .inl rfl | exact .inr rfl) (se_lst (sa_cons se_non (sa_cons se_bl (sa_cons se_int (sa_cons se_str (sa_cons se_str (sa_cons (se_lst sa_nil) (sa_cons (se_lst (sa_cons se_str sa_nil)) (sa_cons se_dict0 (sa_cons (se_tup (sa_cons se_str (sa_cons se_str sa_nil))) (sa_cons (se_tup (sa_cons se_str (sa_cons se_str (sa_cons se_str sa_nil)))) (sa_cons (se_tup (sa_cons se_str sa_nil)) (sa_cons (se_tup (sa_cons se_str sa_nil)) sa_nil)))))))))))))) (sss_cons (ss_set (i := 0) sc__law_odd_rows.nd rfl (by first | exact .inl rfl | exact .inr rfl) (se_op op_addAll od_add (se_var (i := 0)) (se_lst (sa_cons (se_tup (sa_cons se_str (sa_cons se_int sa_nil))) (sa_cons (se_tup (sa_cons se_str (sa_cons se_non sa_nil))) (sa_cons (se_tup (sa_cons se_str (sa_cons (se_lst (sa_cons se_str sa_nil)) sa_nil))) (sa_cons (se_tup (sa_cons (se_op op_mulAll od_mulA se_str se_int) sa_nil)) (sa_cons (se_tup (sa_cons se_str sa_nil)) (sa_cons (se_tup (sa_cons se_str (sa_cons se_str sa_nil))) (sa_cons (se_tup (sa_cons (se_tup (sa_cons se_str sa_nil)) sa_nil)) (sa_cons se_dict1i sa_nil))))))))))) (sss_cons (ss_set (i := 0) sc__law_odd_rows.nd rfl (by first | exact .inl rfl | exact .inr rfl) (se_op op_addAll od_add (se_var (i := 0)) (se_lst (sa_cons (se_tup (sa_cons se_str (sa_cons se_str (sa_cons se_str sa_nil)))) (sa_cons (se_tup (sa_cons se_str (sa_cons se_str (sa_cons se_str sa_nil)))) (sa_cons (se_tup (sa_cons se_str (sa_cons se_str (sa_cons se_str (sa_cons se_str (sa_cons se_str sa_nil)))))) (sa_cons (se_tup (sa_cons se_str sa_nil)) (sa_cons (se_tup (sa_cons se_str (sa_cons se_str sa_nil))) sa_nil)))))))) (sss_cons (ss_set (i := 0) sc__law_odd_rows.nd rfl (by first | exact .inl rfl | exact .inr rfl) (se_op op_addAll od_add (se_var (i := 0)) (se_lst (sa_cons (se_tup (sa_cons se_str sa_nil)) sa_nil)))) (sss_cons (ss_set (i := 0) sc__law_odd_rows.nd rfl (by first | exact .inl rfl | exact .inr rfl) (se_op op_addAll od_add (se_var (i := 0)) (se_lst (sa_cons (se_tup (sa_cons se_str sa_nil)) (sa_cons (se_op op_addAll od_add (se_ty (call_tupAll rfl) cd_tupAll (B "tuple" (by decide)) PyProof.Rows.boot_tuple (sa_cons se_str sa_nil)) (se_tup (sa_cons se_str sa_nil))) (sa_cons (se_op op_addAll od_add (se_ty (call_tupAll rfl) cd_tupAll (B "tuple" (by decide)) PyProof.Rows.boot_tuple (sa_cons se_str sa_nil)) (se_tup (sa_cons se_str sa_nil))) sa_nil)))))) (sss_one (ss_ret (se_op op_addAll od_add (se_var (i := 0)) (se_lst (sa_cons (se_ty call_tupleN cd_tuple (B "tuple" (by decide)) PyProof.Rows.boot_tuple (sa_cons (se_lc (own := [("letter", 1)]) rfl sc__law_odd_rows.nd (blk_ok (N := n__law_odd_rows) (sc := defScope s__law_odd_rows) (by decide +kernel)) (si_any se_str) (fun _ _ _ _ _ => (sg_name (i := 1) sc__law_odd_rows.nd rfl (by first | exact .inl rfl | exact .inr rfl))) (fun _ _ _ _ _ => sts_nil) (fun _ _ _ _ _ => (se_var (i := 1)))) sa_nil)) sa_nil)))))))))))
abbrev s__law_mixed : Stmt := topS 39
abbrev n__law_mixed : List Str := ["cell", "k", "number"]
theorem sc__law_mixed : FnScope ["cell", "k", "number"] ["cell", "k"] (defScope s__law_mixed) := ⟨rfl, rfl, rfl, by decide +kernel, rfl, by decide +kernel, by decide +kernel⟩
def g__law_mixed : MS := gSeq (gSet 2 (eOp gMod (eBlt gInt (aCons (eOp gAdd (eOp gAdd (eOp gMulA (eOp gMod (eBlt gInt (aCons (eVar 0) (aNil))) (eC (.int 2147483647))) (eC (.int 48271))) (eOp gMulA (eVar 1) (eC (.int 69621)))) (eC (.int 1048583))) (aNil))) (eC (.int 2147483629)))) (gSeq (gSet 2 (eOp gMod (eBlt gInt (aCons (eOp gMulA (eVar 2) (eVar 2)) (aNil))) (eC (.int 2147483587)))) (gRet (eOp gMod (eBlt gInt (aCons (eOp gMulA (eVar 2) (eOp gAdd (eVar 2) (eC (.int 2)))) (aNil))) (eC (.int 2147483579)))))
def G__law_mixed : List Slot → Out Vl := funG 3 g__law_mixed
theorem ok__law_mixed {f : Addr} {fd : FuncData} (F : Fun K "_law_mixed" "_law_mixed" s__law_mixed f fd) (B : Blts mg)    : FnG P w K mg base 1 f fd ["cell", "k"] (spOf K mg G__law_mixed 2) :=
  fn_sem F sc__law_mixed rfl (fun cdv A outer s H E hr hgd tk => (sss_cons (ss_set (i := 2) sc__law_mixed.nd rfl (by first | exact .inl rfl | exact .inr rfl) (se_op op_mod od_mod (se_ty call_int1 cd_int (B "int" (by decide)) PyProof.Rows.boot_int (sa_cons (se_op op_addAll od_add (se_op op_addAll od_add (se_op op_mulAll od_mulA (se_op op_mod od_mod (se_ty call_int1 cd_int (B "int" (by decide)) PyProof.Rows.boot_int (sa_cons (se_var (i := 0)) sa_nil)) se_int) se_int) (se_op op_mulAll od_mulA (se_var (i := 1)) se_int)) se_int) sa_nil)) se_int)) (sss_cons (ss_set (i := 2) sc__law_mixed.nd rfl (by first | exact .inl rfl | exact .inr rfl) (se_op op_mod od_mod (se_ty call_int1 cd_int (B "int" (by decide)) PyProof.Rows.boot_int (sa_cons (se_op op_mulAll od_mulA (se_var (i := 2)) (se_var (i := 2))) sa_nil)) se_int)) (sss_one (ss_ret (se_op op_mod od_mod (se_ty call_int1 cd_int (B "int" (by decide)) PyProof.Rows.boot_int (sa_cons (se_op op_mulAll od_mulA (se_var (i := 2)) (se_op op_addAll od_add (se_var (i := 2)) se_int)) sa_nil)) se_int))))))
abbrev s__law_cell : Stmt := topS 40
abbrev n__law_cell : List Str := ["script", "k", "cell", "found", "j"]
theorem sc__law_cell : FnScope ["script", "k", "cell", "found", "j"] ["script", "k"] (defScope s__law_cell) := ⟨rfl, rfl, rfl, by decide +kernel, rfl, by decide +kernel, by decide +kernel⟩
def g__law_cell : MS := gSeq (gSet 2 (eC (.int 0))) (gSeq (gIf (bE (eOp gLt (eVar 1) (eBlt gLen (aCons (eVar 0) (aNil))))) (gSet 2 (eOp gIx (eVar 0) (eVar 1))) (gNx)) (gSeq (gIf (bE (eOp gGe (eVar 2) (eOp gPow (eC (.int 10)) (eC (.int 18))))) (gRet (eOp gMod (eBlt gInt (aCons (eOp gSub (eVar 2) (eOp gPow (eC (.int 10)) (eC (.int 18)))) (aNil))) (eOp gMulA (eOp gMulA (eOp gMulA (eOp gPow (eC (.int 10)) (eC (.int 60))) (eOp gPow (eC (.int 10)) (eC (.int 60)))) (eOp gPow (eC (.int 10)) (eC (.int 60)))) (eOp gPow (eC (.int 10)) (eC (.int 60)))))) (gNx)) (gSeq (gSet 3 (eC (.int 0))) (gSeq (gFor (iR1 (aCons (eC (.int 24)) (aNil))) (bName 4) (gSet 3 (eOp gAdd (eOp gMulA (eVar 3) (eC (.int 2147483579))) (eCall G__law_mixed (aCons (eVar 2) (aCons (eOp gAdd (eOp gAdd (eOp gMulA (eC (.int 7)) (eVar 1)) (eOp gMulA (eC (.int 100)) (eVar 4))) (eOp gMulA (eVar 4) (eVar 4))) (aNil))))))) (gRet (eVar 3))))))
def G__law_cell : List Slot → Out Vl := funG 5 g__law_cell
theorem ok__law_cell {f : Addr} {fd : FuncData} (F : Fun K "_law_cell" "_law_cell" s__law_cell f fd) (B : Blts mg)   (C__law_mixed : Cl P w K mg base 1 "_law_mixed" ["cell", "k"] G__law_mixed) : FnG P w K mg base 2 f fd ["script", "k"] (spOf K mg G__law_cell 2) :=
  fn_sem F sc__law_cell rfl (fun cdv A outer s H E hr hgd tk => (sss_cons (ss_set (i := 2) sc__law_cell.nd rfl (by first | exact .inl rfl | exact .inr rfl) se_int) (sss_cons (ss_if (st_cmp op_lt od_lt (se_var (i := 1)) (se_blt call_lenAll cd_len (B "len" (by decide)) boot_len (sa_cons (se_var (i := 0)) sa_nil))) (sss_one (ss_set (i := 2) sc__law_cell.nd rfl (by first | exact .inl rfl | exact .inr rfl) (se_ix ix_seq od_ix (se_var (i := 0)) (se_var (i := 1))))) sss_nil) (sss_cons (ss_if (st_cmp op_ge od_ge (se_var (i := 2)) (se_op op_pow od_pow se_int se_int)) (sss_one (ss_ret (se_op op_mod od_mod (se_ty call_int1 cd_int (B "int" (by decide)) PyProof.Rows.boot_int (sa_cons (se_op op_sub od_sub (se_var (i := 2)) (se_op op_pow od_pow se_int se_int)) sa_nil)) (se_op op_mulAll od_mulA (se_op op_mulAll od_mulA (se_op op_mulAll od_mulA (se_op op_pow od_pow se_int se_int) (se_op op_pow od_pow se_int se_int)) (se_op op_pow od_pow se_int se_int)) (se_op op_pow od_pow se_int se_int))))) sss_nil) (sss_cons (ss_set (i := 3) sc__law_cell.nd rfl (by first | exact .inl rfl | exact .inr rfl) se_int) (sss_cons (ss_for PassesOwn.leaving rfl (si_r1 (B "range" (by decide)) (sa_cons se_int sa_nil)) (sg_name (i := 4) sc__law_cell.nd rfl (by first | exact .inl rfl | exact .inr rfl)) (sss_one (ss_set (i := 3) sc__law_cell.nd rfl (by first | exact .inl rfl | exact .inr rfl) (se_op op_addAll od_add (se_op op_mulAll od_mulA (se_var (i := 3)) se_int) (se_callC C__law_mixed hr hgd tk (sa_cons (se_var (i := 2)) (sa_cons (se_op op_addAll od_add (se_op op_addAll od_add (se_op op_mulAll od_mulA se_int (se_var (i := 1))) (se_op op_mulAll od_mulA se_int (se_var (i := 4)))) (se_op op_mulAll od_mulA (se_var (i := 4)) (se_var (i := 4)))) sa_nil)) (aCons_len (aCons_len aNil_len))))))) (sss_one (ss_ret (se_var (i := 3))))))))))
abbrev s__law_program : Stmt := topS 43
abbrev n__law_program : List Str := ["digits", "words", "most", "verbs", "found", "k"]
theorem sc__law_program : FnScope ["digits", "words", "most", "verbs", "found", "k"] ["digits", "words", "most"] (defScope s__law_program) := ⟨rfl, rfl, rfl, by decide +kernel, rfl, by decide +kernel, by decide +kernel⟩
def g__law_program : MS := gSeq (gSet 3 (eLst (aCons (eC (.str "front")) (aCons (eC (.str "back")) (aCons (eC (.str "drop")) (aCons (eC (.str "addfront")) (aCons (eC (.str "addback")) (aCons (eC (.str "lift")) (aCons (eC (.str "sink")) (aNil)))))))))) (gSeq (gSet 4 (eLst (aNil))) (gSeq (gFor (iR1 (aCons (eCallIo G__law_take (aCons (eVar 0) (aCons (eOp gAdd (eVar 2) (eC (.int 1))) (aNil)))) (aNil))) (bName 5) (gDrop (eMut mAppend 4 (aCons (eTup (aCons (eOp gIx (eVar 3) (eCallIo G__law_take (aCons (eVar 0) (aCons (eC (.int 7)) (aNil))))) (aCons (eOp gIx (eVar 1) (eCallIo G__law_take (aCons (eVar 0) (aCons (eBlt gLen (aCons (eVar 1) (aNil))) (aNil))))) (aNil)))) (aNil))))) (gRet (eVar 4))))
def G__law_program : List Slot → Out Vl := funG 6 g__law_program
theorem ok__law_program {f : Addr} {fd : FuncData} (F : Fun K "_law_program" "_law_program" s__law_program f fd) (B : Blts mg)   (C__law_take : Cl P w K mg base 1 "_law_take" ["digits", "size"] G__law_take) : FnG P w K mg base 2 f fd ["digits", "words", "most"] (spOf K mg G__law_program 3) :=
  fn_sem F sc__law_program rfl (fun cdv A outer s H E hr hgd tk => (sss_cons (ss_set (i := 3) sc__law_program.nd rfl (by first | exact .inl rfl | exact .inr rfl) (se_lst (sa_cons se_str (sa_cons se_str (sa_cons se_str (sa_cons se_str (sa_cons se_str (sa_cons se_str (sa_cons se_str sa_nil))))))))) (sss_cons (ss_set (i := 4) sc__law_program.nd rfl (by first | exact .inl rfl | exact .inr rfl) (se_lst sa_nil)) (sss_cons (ss_for PassesOwn.leaving rfl (si_r1 (B "range" (by decide)) (sa_cons (se_callIoC C__law_take hr hgd tk (sa_cons (se_var (i := 0)) (sa_cons (se_op op_addAll od_add (se_var (i := 2)) se_int) sa_nil)) (aCons_len (aCons_len aNil_len))) sa_nil)) (sg_name (i := 5) sc__law_program.nd rfl (by first | exact .inl rfl | exact .inr rfl)) (sss_one (ss_expr (se_mut (i := 4) PySem.F.slot_list_append PySem.F.type_list_append mt_append md_append (sa_cons (se_tup (sa_cons (se_ix ix_seq od_ix (se_var (i := 3)) (se_callIoC C__law_take hr hgd tk (sa_cons (se_var (i := 0)) (sa_cons se_int sa_nil)) (aCons_len (aCons_len aNil_len)))) (sa_cons (se_ix ix_seq od_ix (se_var (i := 1)) (se_callIoC C__law_take hr hgd tk (sa_cons (se_var (i := 0)) (sa_cons (se_blt call_lenAll cd_len (B "len" (by decide)) boot_len (sa_cons (se_var (i := 1)) sa_nil)) sa_nil)) (aCons_len (aCons_len aNil_len)))) sa_nil))) sa_nil))))) (sss_one (ss_ret (se_var (i := 4))))))))
abbrev s__law_row : Stmt := topS 44
abbrev n__law_row : List Str := ["digits", "words", "left", "found", "k"]
theorem sc__law_row : FnScope ["digits", "words", "left", "found", "k"] ["digits", "words"] (defScope s__law_row) := ⟨rfl, rfl, rfl, by decide +kernel, rfl, by decide +kernel, by decide +kernel⟩
def g__law_row : MS := gSeq (gPar 2 3 (eBlt gList (aCons (eVar 1) (aNil))) (eLst (aNil))) (gSeq (gFor (iR1 (aCons (eCallIo G__law_take (aCons (eVar 0) (aCons (eOp gAdd (eBlt gLen (aCons (eVar 1) (aNil))) (eC (.int 1))) (aNil)))) (aNil))) (bName 4) (gDrop (eMut mAppend 3 (aCons (eMut mPopAt 2 (aCons (eCallIo G__law_take (aCons (eVar 0) (aCons (eBlt gLen (aCons (eVar 2) (aNil))) (aNil)))) (aNil))) (aNil))))) (gRet (eBlt gTuple (aCons (eVar 3) (aNil)))))
def G__law_row : List Slot → Out Vl := funG 5 g__law_row
theorem ok__law_row {f : Addr} {fd : FuncData} (F : Fun K "_law_row" "_law_row" s__law_row f fd) (B : Blts mg)   (C__law_take : Cl P w K mg base 1 "_law_take" ["digits", "size"] G__law_take) : FnG P w K mg base 2 f fd ["digits", "words"] (spOf K mg G__law_row 2) :=
  fn_sem F sc__law_row rfl (fun cdv A outer s H E hr hgd tk => (sss_cons (ss_par (i := 2) (j := 3) rfl sc__law_row.nd rfl rfl (by decide) rfl rfl (se_ty call_list_of cd_list (B "list" (by decide)) PyProof.Rows.boot_list (sa_cons (se_var (i := 1)) sa_nil)) (se_lst sa_nil)) (sss_cons (ss_for PassesOwn.leaving rfl (si_r1 (B "range" (by decide)) (sa_cons (se_callIoC C__law_take hr hgd tk (sa_cons (se_var (i := 0)) (sa_cons (se_op op_addAll od_add (se_blt call_lenAll cd_len (B "len" (by decide)) boot_len (sa_cons (se_var (i := 1)) sa_nil)) se_int) sa_nil)) (aCons_len (aCons_len aNil_len))) sa_nil)) (sg_name (i := 4) sc__law_row.nd rfl (by first | exact .inl rfl | exact .inr rfl)) (sss_one (ss_expr (se_mut (i := 3) PySem.F.slot_list_append PySem.F.type_list_append mt_append md_append (sa_cons (se_mut (i := 2) PySem.F.slot_list_pop PySem.F.type_list_pop mt_popAtG md_popAtG (sa_cons (se_callIoC C__law_take hr hgd tk (sa_cons (se_var (i := 0)) (sa_cons (se_blt call_lenAll cd_len (B "len" (by decide)) boot_len (sa_cons (se_var (i := 2)) sa_nil)) sa_nil)) (aCons_len (aCons_len aNil_len))) sa_nil)) sa_nil))))) (sss_one (ss_ret (se_ty call_tupleN cd_tuple (B "tuple" (by decide)) PyProof.Rows.boot_tuple (sa_cons (se_var (i := 3)) sa_nil)))))))
abbrev s_is_word : Stmt := topS 25
abbrev n_is_word : List Str := ["value", "sign"]
theorem sc_is_word : FnScope ["value", "sign"] ["value"] (defScope s_is_word) := ⟨rfl, rfl, rfl, by decide +kernel, rfl, by decide +kernel, by decide +kernel⟩
def g_is_word : MS := gSeq (gIf (bOr (bNot (bT (eIsi "str" (eVar 0)))) (bNot (bE (eChain gLe gLe (eC (.int 1)) (eBlt gLen (aCons (eVar 0) (aNil))) (eC (.int 8)))))) (gRet (eC (.bool false))) (gNx)) (gRet (eBlt gAll (aCons (eLc (iA (eVar 0)) (bName 1) (bYes) (eOp gIn (eVar 1) (eC (.str "abcdefghijklmnopqrstuvwxyz"))) [1]) (aNil))))
def G_is_word : List Slot → Out Vl := funG 2 g_is_word
theorem ok_is_word {f : Addr} {fd : FuncData} (F : Fun K "is_word" "is_word" s_is_word f fd) (B : Blts mg) (c_MOST_LETTERS : ∃ t, mg "MOST_LETTERS" = some (.int 8 t)) (c_LETTERS : ∃ t, mg "LETTERS" = some (.str "abcdefghijklmnopqrstuvwxyz" t))   : FnG P w K mg base 1 f fd ["value"] (spOf K mg G_is_word 1) :=
  fn_sem F sc_is_word rfl (fun cdv A outer s H E hr hgd tk => (sss_cons (ss_if (st_w (sw_or (st_not (st_tru (se_isi kits_str (B "isinstance" (by decide)) (B "str" (by decide)) PyProof.Rows.boot_str (se_var (i := 0))))) (sw_or1 (st_not (st_chain op_le op_le od_le od_le se_int (se_blt call_lenAll cd_len (B "len" (by decide)) boot_len (sa_cons (se_var (i := 0)) sa_nil)) (se_constI c_MOST_LETTERS)))))) (sss_one (ss_ret se_bl)) sss_nil) (sss_one (ss_ret (se_blt (cr_all rfl) cd_all (B "all" (by decide)) PyProof.Rows.boot_all (sa_cons (se_lc (own := [("sign", 1)]) rfl sc_is_word.nd (blk_ok (N := n_is_word) (sc := defScope s_is_word) (by decide +kernel)) (si_any (se_var (i := 0))) (fun _ _ _ _ _ => (sg_name (i := 1) sc_is_word.nd rfl (by first | exact .inl rfl | exact .inr rfl))) (fun _ _ _ _ _ => sts_nil) (fun _ _ _ _ _ => (se_cmp (op_inAll (r65 hr)) od_in (se_var (i := 1)) (se_constS c_LETTERS)))) sa_nil))))))
abbrev s_is_operation : Stmt := topS 27
abbrev n_is_operation : List Str := ["value", "verb", "word"]
theorem sc_is_operation : FnScope ["value", "verb", "word"] ["value"] (defScope s_is_operation) := ⟨rfl, rfl, rfl, by decide +kernel, rfl, by decide +kernel, by decide +kernel⟩
def g_is_operation : MS := gSeq (gIf (bOr (bNot (bT (eIsi "tuple" (eVar 0)))) (bE (eOp gNe (eBlt gLen (aCons (eVar 0) (aNil))) (eC (.int 2))))) (gRet (eC (.bool false))) (gNx)) (gSeq (gAsg (eVar 0) (bTup 2 (bCons (bName 1) (bCons (bName 2) (bNil))))) (gRet (eAnd (eIsi "str" (eVar 1)) (eAnd (eInK false t_MOVES (eVar 1)) (eCall G_is_word (aCons (eVar 2) (aNil)))))))
def G_is_operation : List Slot → Out Vl := funG 3 g_is_operation
theorem ok_is_operation {f : Addr} {fd : FuncData} (F : Fun K "is_operation" "is_operation" s_is_operation f fd) (B : Blts mg)  (T_MOVES : Tab K w mg "MOVES" t_MOVES) (C_is_word : Cl P w K mg base 1 "is_word" ["value"] G_is_word) : FnG P w K mg base 2 f fd ["value"] (spOf K mg G_is_operation 1) :=
  fn_sem F sc_is_operation rfl (fun cdv A outer s H E hr hgd tk => (sss_cons (ss_if (st_w (sw_or (st_not (st_tru (se_isi kits_tuple (B "isinstance" (by decide)) (B "tuple" (by decide)) PyProof.Rows.boot_tuple (se_var (i := 0))))) (sw_or1 (st_cmp (op_neS (r64 hr)) od_ne (se_blt call_lenAll cd_len (B "len" (by decide)) boot_len (sa_cons (se_var (i := 0)) sa_nil)) se_int)))) (sss_one (ss_ret se_bl)) sss_nil) (sss_cons (ss_asg (se_var (i := 0)) (sg_tup rfl (sgs_cons (sg_name (i := 1) sc_is_operation.nd rfl (by first | exact .inl rfl | exact .inr rfl)) (sgs_cons (sg_name (i := 2) sc_is_operation.nd rfl (by first | exact .inl rfl | exact .inr rfl)) sgs_nil)))) (sss_one (ss_ret (se_and (se_isi kits_str (B "isinstance" (by decide)) (B "str" (by decide)) PyProof.Rows.boot_str (se_var (i := 1))) (se_and (se_inK T_MOVES (se_var (i := 1))) (se_one (se_callC C_is_word hr hgd tk (sa_cons (se_var (i := 2)) sa_nil) (aCons_len aNil_len))))))))))
abbrev s_is_program : Stmt := topS 28
abbrev n_is_program : List Str := ["value", "operation", "verb", "word"]
theorem sc_is_program : FnScope ["value", "operation", "verb", "word"] ["value"] (defScope s_is_program) := ⟨rfl, rfl, rfl, by decide +kernel, rfl, by decide +kernel, by decide +kernel⟩
def g_is_program : MS := gSeq (gIf (bOr (bNot (bT (eIsi "list" (eVar 0)))) (bE (eOp gGt (eBlt gLen (aCons (eVar 0) (aNil))) (eC (.int 60))))) (gRet (eC (.bool false))) (gNx)) (gSeq (gIf (bNot (bT (eBlt gAll (aCons (eLc (iA (eVar 0)) (bName 1) (bYes) (eCall G_is_operation (aCons (eVar 1) (aNil))) [1]) (aNil))))) (gRet (eC (.bool false))) (gNx)) (gRet (eOp gLe (eLenSet (eLc (iA (eVar 0)) (bTup 2 (bCons (bName 2) (bCons (bName 3) (bNil)))) (bYes) (eVar 3) [2, 3])) (eC (.int 12)))))
def G_is_program : List Slot → Out Vl := funG 4 g_is_program
theorem ok_is_program {f : Addr} {fd : FuncData} (F : Fun K "is_program" "is_program" s_is_program f fd) (B : Blts mg) (c_MOST_OPERATIONS : ∃ t, mg "MOST_OPERATIONS" = some (.int 60 t)) (c_MOST_PROGRAM_WORDS : ∃ t, mg "MOST_PROGRAM_WORDS" = some (.int 12 t))  (C_is_operation : Cl P w K mg base 2 "is_operation" ["value"] G_is_operation) : FnG P w K mg base 3 f fd ["value"] (spOf K mg G_is_program 1) :=
  fn_sem F sc_is_program rfl (fun cdv A outer s H E hr hgd tk => (sss_cons (ss_if (st_w (sw_or (st_not (st_tru (se_isi kits_list (B "isinstance" (by decide)) (B "list" (by decide)) PyProof.Rows.boot_list (se_var (i := 0))))) (sw_or1 (st_cmp op_gt od_gt (se_blt call_lenAll cd_len (B "len" (by decide)) boot_len (sa_cons (se_var (i := 0)) sa_nil)) (se_constI c_MOST_OPERATIONS))))) (sss_one (ss_ret se_bl)) sss_nil) (sss_cons (ss_if (st_not (st_tru (se_blt (cr_all rfl) cd_all (B "all" (by decide)) PyProof.Rows.boot_all (sa_cons (se_lc (own := [("operation", 1)]) rfl sc_is_program.nd (blk_ok (N := n_is_program) (sc := defScope s_is_program) (by decide +kernel)) (si_any (se_var (i := 0))) (fun _ _ _ _ _ => (sg_name (i := 1) sc_is_program.nd rfl (by first | exact .inl rfl | exact .inr rfl))) (fun _ _ _ _ _ => sts_nil) (fun _ _ _ _ _ => (se_callC C_is_operation hr hgd takesN (sa_cons (se_var (i := 1)) sa_nil) (aCons_len aNil_len)))) sa_nil)))) (sss_one (ss_ret se_bl)) sss_nil) (sss_one (ss_ret (se_cmp op_le od_le (se_lenSet rfl (B "len" (by decide)) (B "set" (by decide)) (se_lc (own := [("verb", 2), ("word", 3)]) rfl sc_is_program.nd (blk_ok (N := n_is_program) (sc := defScope s_is_program) (by decide +kernel)) (si_any (se_var (i := 0))) (fun _ _ _ _ _ => (sg_tup rfl (sgs_cons (sg_name (i := 2) sc_is_program.nd rfl (by first | exact .inl rfl | exact .inr rfl)) (sgs_cons (sg_name (i := 3) sc_is_program.nd rfl (by first | exact .inl rfl | exact .inr rfl)) sgs_nil)))) (fun _ _ _ _ _ => sts_nil) (fun _ _ _ _ _ => (se_var (i := 3))))) (se_constI c_MOST_PROGRAM_WORDS)))))))
abbrev s_check_program : Stmt := topS 31
abbrev n_check_program : List Str := ["program"]
theorem sc_check_program : FnScope ["program"] ["program"] (defScope s_check_program) := ⟨rfl, rfl, rfl, by decide +kernel, rfl, by decide +kernel, by decide +kernel⟩
def g_check_program : MS := gIf (bNot (bT (eCall G_is_program (aCons (eVar 0) (aNil))))) (gRaise "InvalidProgram") (gNx)
def G_check_program : List Slot → Out Vl := funG 1 g_check_program
theorem ok_check_program {e_InvalidProgram : Addr} {f : Addr} {fd : FuncData} (F : Fun K "check_program" "check_program" s_check_program f fd) (B : Blts mg)   (E_InvalidProgram : ErrC K mg "InvalidProgram" e_InvalidProgram) (C_is_program : Cl P w K mg base 3 "is_program" ["value"] G_is_program) : FnG P w K mg base 4 f fd ["program"] (spOf K mg G_check_program 1) :=
  fn_sem F sc_check_program rfl (fun cdv A outer s H E hr hgd tk => (sss_one (ss_if (st_not (st_tru (se_callC C_is_program hr hgd tk (sa_cons (se_var (i := 0)) sa_nil) (aCons_len aNil_len)))) (sss_one (ss_raise E_InvalidProgram tk)) sss_nil)))
abbrev s_is_row : Stmt := topS 26
abbrev n_is_row : List Str := ["value", "word"]
theorem sc_is_row : FnScope ["value", "word"] ["value"] (defScope s_is_row) := ⟨rfl, rfl, rfl, by decide +kernel, rfl, by decide +kernel, by decide +kernel⟩
def g_is_row : MS := gSeq (gIf (bOr (bNot (bT (eIsi "tuple" (eVar 0)))) (bE (eOp gGt (eBlt gLen (aCons (eVar 0) (aNil))) (eC (.int 20))))) (gRet (eC (.bool false))) (gNx)) (gRet (eAnd (eBlt gAll (aCons (eLc (iA (eVar 0)) (bName 1) (bYes) (eCall G_is_word (aCons (eVar 1) (aNil))) [1]) (aNil))) (eOp gEq (eLenSet (eVar 0)) (eBlt gLen (aCons (eVar 0) (aNil))))))
def G_is_row : List Slot → Out Vl := funG 2 g_is_row
theorem ok_is_row {f : Addr} {fd : FuncData} (F : Fun K "is_row" "is_row" s_is_row f fd) (B : Blts mg) (c_MOST_ROW_WORDS : ∃ t, mg "MOST_ROW_WORDS" = some (.int 20 t))  (C_is_word : Cl P w K mg base 1 "is_word" ["value"] G_is_word) : FnG P w K mg base 2 f fd ["value"] (spOf K mg G_is_row 1) :=
  fn_sem F sc_is_row rfl (fun cdv A outer s H E hr hgd tk => (sss_cons (ss_if (st_w (sw_or (st_not (st_tru (se_isi kits_tuple (B "isinstance" (by decide)) (B "tuple" (by decide)) PyProof.Rows.boot_tuple (se_var (i := 0))))) (sw_or1 (st_cmp op_gt od_gt (se_blt call_lenAll cd_len (B "len" (by decide)) boot_len (sa_cons (se_var (i := 0)) sa_nil)) (se_constI c_MOST_ROW_WORDS))))) (sss_one (ss_ret se_bl)) sss_nil) (sss_one (ss_ret (se_and (se_blt (cr_all rfl) cd_all (B "all" (by decide)) PyProof.Rows.boot_all (sa_cons (se_lc (own := [("word", 1)]) rfl sc_is_row.nd (blk_ok (N := n_is_row) (sc := defScope s_is_row) (by decide +kernel)) (si_any (se_var (i := 0))) (fun _ _ _ _ _ => (sg_name (i := 1) sc_is_row.nd rfl (by first | exact .inl rfl | exact .inr rfl))) (fun _ _ _ _ _ => sts_nil) (fun _ _ _ _ _ => (se_callC C_is_word hr hgd takesN (sa_cons (se_var (i := 1)) sa_nil) (aCons_len aNil_len)))) sa_nil)) (se_one (se_cmp (op_eqS (r64 hr)) od_eq (se_lenSet rfl (B "len" (by decide)) (B "set" (by decide)) (se_var (i := 0))) (se_blt call_lenAll cd_len (B "len" (by decide)) boot_len (sa_cons (se_var (i := 0)) sa_nil)))))))))
abbrev s_check_row : Stmt := topS 30
abbrev n_check_row : List Str := ["row"]
theorem sc_check_row : FnScope ["row"] ["row"] (defScope s_check_row) := ⟨rfl, rfl, rfl, by decide +kernel, rfl, by decide +kernel, by decide +kernel⟩
def g_check_row : MS := gIf (bNot (bT (eCall G_is_row (aCons (eVar 0) (aNil))))) (gRaise "InvalidRow") (gNx)
def G_check_row : List Slot → Out Vl := funG 1 g_check_row
theorem ok_check_row {e_InvalidRow : Addr} {f : Addr} {fd : FuncData} (F : Fun K "check_row" "check_row" s_check_row f fd) (B : Blts mg)   (E_InvalidRow : ErrC K mg "InvalidRow" e_InvalidRow) (C_is_row : Cl P w K mg base 2 "is_row" ["value"] G_is_row) : FnG P w K mg base 3 f fd ["row"] (spOf K mg G_check_row 1) :=
  fn_sem F sc_check_row rfl (fun cdv A outer s H E hr hgd tk => (sss_one (ss_if (st_not (st_tru (se_callC C_is_row hr hgd tk (sa_cons (se_var (i := 0)) sa_nil) (aCons_len aNil_len)))) (sss_one (ss_raise E_InvalidRow tk)) sss_nil)))
abbrev s_holds : Stmt := topS 32
abbrev n_holds : List Str := ["case", "present"]
theorem sc_holds : FnScope ["case", "present"] ["case", "present"] (defScope s_holds) := ⟨rfl, rfl, rfl, by decide +kernel, rfl, by decide +kernel, by decide +kernel⟩
def g_holds : MS := gSeq (gIf (bE (eOp gEq (eVar 0) (eC (.str "always")))) (gRet (eC (.bool true))) (gNx)) (gRet (eOp gEq (eVar 1) (eOp gEq (eVar 0) (eC (.str "present")))))
def G_holds : List Slot → Out Vl := funG 2 g_holds
theorem ok_holds {f : Addr} {fd : FuncData} (F : Fun K "holds" "holds" s_holds f fd) (B : Blts mg)    : FnG P w K mg base 1 f fd ["case", "present"] (spOf K mg G_holds 2) :=
  fn_sem F sc_holds rfl (fun cdv A outer s H E hr hgd tk => (sss_cons (ss_if (st_cmp (op_eqS (r64 hr)) od_eq (se_var (i := 0)) se_str) (sss_one (ss_ret se_bl)) sss_nil) (sss_one (ss_ret (se_cmp (op_eqS (r64 hr)) od_eq (se_var (i := 1)) (se_cmp (op_eqS (r64 hr)) od_eq (se_var (i := 0)) se_str))))))
abbrev s_after : Stmt := topS 33
abbrev n_after : List Str := ["row", "operation", "verb", "word", "place", "case", "others", "other"]
theorem sc_after : FnScope ["row", "operation", "verb", "word", "place", "case", "others", "other"] ["row", "operation"] (defScope s_after) := ⟨rfl, rfl, rfl, by decide +kernel, rfl, by decide +kernel, by decide +kernel⟩
def g_after : MS := gSeq (gAsg (eVar 1) (bTup 2 (bCons (bName 2) (bCons (bName 3) (bNil))))) (gSeq (gAsg (eIxK t_MOVES (eVar 2)) (bTup 2 (bCons (bName 4) (bCons (bName 5) (bNil))))) (gSeq (gIf (bNot (bT (eCall G_holds (aCons (eVar 5) (aCons (eOp gIn (eVar 3) (eVar 0)) (aNil)))))) (gRet (eVar 0)) (gNx)) (gSeq (gSet 6 (eBlt gTuple (aCons (eLc (iA (eVar 0)) (bName 7) (bE (eOp gNe (eVar 7) (eVar 3))) (eVar 7) [7]) (aNil)))) (gSeq (gIf (bE (eOp gEq (eVar 4) (eC (.str "front")))) (gRet (eOp gAdd (eTup (aCons (eVar 3) (aNil))) (eVar 6))) (gNx)) (gSeq (gIf (bE (eOp gEq (eVar 4) (eC (.str "back")))) (gRet (eOp gAdd (eVar 6) (eTup (aCons (eVar 3) (aNil))))) (gNx)) (gRet (eVar 6)))))))
def G_after : List Slot → Out Vl := funG 8 g_after
theorem ok_after {f : Addr} {fd : FuncData} (F : Fun K "after" "after" s_after f fd) (B : Blts mg)  (T_MOVES : Tab K w mg "MOVES" t_MOVES) (C_holds : Cl P w K mg base 1 "holds" ["case", "present"] G_holds) : FnG P w K mg base 2 f fd ["row", "operation"] (spOf K mg G_after 2) :=
  fn_sem F sc_after rfl (fun cdv A outer s H E hr hgd tk => (sss_cons (ss_asg (se_var (i := 1)) (sg_tup rfl (sgs_cons (sg_name (i := 2) sc_after.nd rfl (by first | exact .inl rfl | exact .inr rfl)) (sgs_cons (sg_name (i := 3) sc_after.nd rfl (by first | exact .inl rfl | exact .inr rfl)) sgs_nil)))) (sss_cons (ss_asg (se_ixK T_MOVES (se_var (i := 2))) (sg_tup rfl (sgs_cons (sg_name (i := 4) sc_after.nd rfl (by first | exact .inl rfl | exact .inr rfl)) (sgs_cons (sg_name (i := 5) sc_after.nd rfl (by first | exact .inl rfl | exact .inr rfl)) sgs_nil)))) (sss_cons (ss_if (st_not (st_tru (se_callC C_holds hr hgd tk (sa_cons (se_var (i := 5)) (sa_cons (se_cmp (op_inAll (r65 hr)) od_in (se_var (i := 3)) (se_var (i := 0))) sa_nil)) (aCons_len (aCons_len aNil_len))))) (sss_one (ss_ret (se_var (i := 0)))) sss_nil) (sss_cons (ss_set (i := 6) sc_after.nd rfl (by first | exact .inl rfl | exact .inr rfl) (se_ty call_tupleN cd_tuple (B "tuple" (by decide)) PyProof.Rows.boot_tuple (sa_cons (se_lc (own := [("other", 7)]) rfl sc_after.nd (blk_ok (N := n_after) (sc := defScope s_after) (by decide +kernel)) (si_any (se_var (i := 0))) (fun _ _ _ _ _ => (sg_name (i := 7) sc_after.nd rfl (by first | exact .inl rfl | exact .inr rfl))) (fun _ _ _ _ _ => (sts_one (st_cmp (op_neS (r64 hr)) od_ne (se_var (i := 7)) (se_var (i := 3))))) (fun _ _ _ _ _ => (se_var (i := 7)))) sa_nil))) (sss_cons (ss_if (st_cmp (op_eqS (r64 hr)) od_eq (se_var (i := 4)) se_str) (sss_one (ss_ret (se_op op_addAll od_add (se_tup (sa_cons (se_var (i := 3)) sa_nil)) (se_var (i := 6))))) sss_nil) (sss_cons (ss_if (st_cmp (op_eqS (r64 hr)) od_eq (se_var (i := 4)) se_str) (sss_one (ss_ret (se_op op_addAll od_add (se_var (i := 6)) (se_tup (sa_cons (se_var (i := 3)) sa_nil))))) sss_nil) (sss_one (ss_ret (se_var (i := 6)))))))))))
abbrev s_run : Stmt := topS 34
abbrev n_run : List Str := ["program", "row", "operation"]
theorem sc_run : FnScope ["program", "row", "operation"] ["program", "row"] (defScope s_run) := ⟨rfl, rfl, rfl, by decide +kernel, rfl, by decide +kernel, by decide +kernel⟩
def g_run : MS := gSeq (gDrop (eCall G_check_program (aCons (eVar 0) (aNil)))) (gSeq (gDrop (eCall G_check_row (aCons (eVar 1) (aNil)))) (gSeq (gFor (iA (eVar 0)) (bName 2) (gSet 1 (eCall G_after (aCons (eVar 1) (aCons (eVar 2) (aNil)))))) (gRet (eVar 1))))
def G_run : List Slot → Out Vl := funG 3 g_run
theorem ok_run {f : Addr} {fd : FuncData} (F : Fun K "run" "run" s_run f fd) (B : Blts mg)   (C_check_program : Cl P w K mg base 4 "check_program" ["program"] G_check_program) (C_check_row : Cl P w K mg base 4 "check_row" ["row"] G_check_row) (C_after : Cl P w K mg base 4 "after" ["row", "operation"] G_after) : FnG P w K mg base 5 f fd ["program", "row"] (spOf K mg G_run 2) :=
  fn_sem F sc_run rfl (fun cdv A outer s H E hr hgd tk => (sss_cons (ss_expr (se_callC C_check_program hr hgd tk (sa_cons (se_var (i := 0)) sa_nil) (aCons_len aNil_len))) (sss_cons (ss_expr (se_callC C_check_row hr hgd tk (sa_cons (se_var (i := 1)) sa_nil) (aCons_len aNil_len))) (sss_cons (ss_for PassesOwn.leaving rfl (si_any (se_var (i := 0))) (sg_name (i := 2) sc_run.nd rfl (by first | exact .inl rfl | exact .inr rfl)) (sss_one (ss_set (i := 1) sc_run.nd rfl (by first | exact .inl rfl | exact .inr rfl) (se_callC C_after hr hgd tk (sa_cons (se_var (i := 1)) (sa_cons (se_var (i := 2)) sa_nil)) (aCons_len (aCons_len aNil_len)))))) (sss_one (ss_ret (se_var (i := 1))))))))
abbrev mi_InvalidProgram : List (Str × Bool) := [("InvalidProgram", true), ("InvalidRow", false), ("InvalidWord", false)]
abbrev mi_InvalidRows : List (Str × Bool) := [("InvalidProgram", false), ("InvalidRow", false), ("InvalidWord", false)]
abbrev mi_InvalidRow : List (Str × Bool) := [("InvalidProgram", false), ("InvalidRow", true), ("InvalidWord", false)]
abbrev mi_InvalidWord : List (Str × Bool) := [("InvalidProgram", false), ("InvalidRow", false), ("InvalidWord", true)]
abbrev mi_InvalidOperation : List (Str × Bool) := [("InvalidProgram", false), ("InvalidRow", false), ("InvalidWord", false)]
abbrev mi_InvalidMeaning : List (Str × Bool) := [("InvalidProgram", false), ("InvalidRow", false), ("InvalidWord", false)]
abbrev mi_InvalidNames : List (Str × Bool) := [("InvalidProgram", false), ("InvalidRow", false), ("InvalidWord", false)]
abbrev mi_InvalidFences : List (Str × Bool) := [("InvalidProgram", false), ("InvalidRow", false), ("InvalidWord", false)]
abbrev mi_InvalidNumber : List (Str × Bool) := [("InvalidProgram", false), ("InvalidRow", false), ("InvalidWord", false)]
abbrev mi_InvalidText : List (Str × Bool) := [("InvalidProgram", false), ("InvalidRow", false), ("InvalidWord", false)]
abbrev mi_InvalidResults : List (Str × Bool) := [("InvalidProgram", false), ("InvalidRow", false), ("InvalidWord", false)]
abbrev mi_TooLarge : List (Str × Bool) := [("InvalidProgram", false), ("InvalidRow", false), ("InvalidWord", false)]
abbrev mi_NothingToUndo : List (Str × Bool) := [("InvalidProgram", false), ("InvalidRow", false), ("InvalidWord", false)]
abbrev mi_NoSource : List (Str × Bool) := [("InvalidProgram", false), ("InvalidRow", false), ("InvalidWord", false)]
abbrev mi_NoProgram : List (Str × Bool) := [("InvalidProgram", false), ("InvalidRow", false), ("InvalidWord", false)]
abbrev mi_Locked : List (Str × Bool) := [("InvalidProgram", false), ("InvalidRow", false), ("InvalidWord", false)]
abbrev mi_FrontBackError : List (Str × Bool) := [("InvalidProgram", true), ("InvalidRow", true), ("InvalidWord", true)]
abbrev mi_ValueError : List (Str × Bool) := [("InvalidProgram", true), ("InvalidRow", true), ("InvalidWord", true)]
abbrev s__law_only : Stmt := topS 45
abbrev n__law_only : List Str := ["error", "name", "told", "words", "base"]
theorem sc__law_only : FnScope ["error", "name", "told", "words", "base"] ["error", "name"] (defScope s__law_only) := ⟨rfl, rfl, rfl, by decide +kernel, rfl, by decide +kernel, by decide +kernel⟩
def g__law_only : MS := gSeq (gSet 2 (eLst (aCons (eIsE mi_InvalidRow (eVar 0)) (aCons (eIsE mi_InvalidRows (eVar 0)) (aCons (eIsE mi_InvalidProgram (eVar 0)) (aNil)))))) (gSeq (gSet 2 (eOp gAdd (eVar 2) (eLst (aCons (eIsE mi_InvalidOperation (eVar 0)) (aCons (eIsE mi_InvalidWord (eVar 0)) (aNil)))))) (gSeq (gSet 2 (eOp gAdd (eVar 2) (eLst (aCons (eIsE mi_InvalidNames (eVar 0)) (aCons (eIsE mi_InvalidMeaning (eVar 0)) (aNil)))))) (gSeq (gSet 2 (eOp gAdd (eVar 2) (eLst (aCons (eIsE mi_InvalidNumber (eVar 0)) (aCons (eIsE mi_InvalidFences (eVar 0)) (aNil)))))) (gSeq (gSet 2 (eOp gAdd (eVar 2) (eLst (aCons (eIsE mi_InvalidResults (eVar 0)) (aCons (eIsE mi_InvalidText (eVar 0)) (aNil)))))) (gSeq (gSet 2 (eOp gAdd (eVar 2) (eLst (aCons (eIsE mi_TooLarge (eVar 0)) (aNil))))) (gSeq (gSet 2 (eOp gAdd (eVar 2) (eLst (aCons (eIsE mi_NoProgram (eVar 0)) (aCons (eIsE mi_NoSource (eVar 0)) (aCons (eIsE mi_NothingToUndo (eVar 0)) (aNil))))))) (gSeq (gDrop (eMut mAppend 2 (aCons (eIsE mi_Locked (eVar 0)) (aNil)))) (gSeq (gSet 3 (eLst (aCons (eC (.str "InvalidRow")) (aCons (eC (.str "InvalidRows")) (aCons (eC (.str "InvalidProgram")) (aCons (eC (.str "InvalidOperation")) (aCons (eC (.str "InvalidWord")) (aCons (eC (.str "InvalidNames")) (aNil))))))))) (gSeq (gSet 3 (eOp gAdd (eVar 3) (eLst (aCons (eC (.str "InvalidMeaning")) (aCons (eC (.str "InvalidNumber")) (aCons (eC (.str "InvalidFences")) (aCons (eC (.str "InvalidResults")) (aCons (eC (.str "InvalidText")) (aNil))))))))) (gSeq (gSet 3 (eOp gAdd (eVar 3) (eLst (aCons (eC (.str "TooLarge")) (aCons (eC (.str "NoProgram")) (aCons (eC (.str "NoSource")) (aCons (eC (.str "NothingToUndo")) (aCons (eC (.str "Locked")) (aNil))))))))) (gSeq (gSet 4 (eAnd (eIsE mi_FrontBackError (eVar 0)) (eIsE mi_ValueError (eVar 0)))) (gRet (eAnd (eVar 4) (eAnd (eOp gEq (eMeth "list" gCountL (eVar 2) (aCons (eC (.bool true)) (aNil))) (eC (.int 1))) (eOp gEq (eOp gIx (eVar 3) (eMeth "list" gIndexL (eVar 2) (aCons (eC (.bool true)) (aNil)))) (eVar 1))))))))))))))))
def G__law_only : List Slot → Out Vl := funG 5 g__law_only
theorem ok__law_only {e_InvalidProgram : Addr} {e_InvalidRows : Addr} {e_InvalidRow : Addr} {e_InvalidWord : Addr} {e_InvalidOperation : Addr} {e_InvalidMeaning : Addr} {e_InvalidNames : Addr} {e_InvalidFences : Addr} {e_InvalidNumber : Addr} {e_InvalidText : Addr} {e_InvalidResults : Addr} {e_TooLarge : Addr} {e_NothingToUndo : Addr} {e_NoSource : Addr} {e_NoProgram : Addr} {e_Locked : Addr} {e_FrontBackError : Addr} {f : Addr} {fd : FuncData} (F : Fun K "_law_only" "_law_only" s__law_only f fd) (B : Blts mg)   (n_InvalidProgram : mg "InvalidProgram" = some (.ref e_InvalidProgram)) (I_InvalidProgram : IsE K (.ref e_InvalidProgram) mi_InvalidProgram) (n_InvalidRows : mg "InvalidRows" = some (.ref e_InvalidRows)) (I_InvalidRows : IsE K (.ref e_InvalidRows) mi_InvalidRows) (n_InvalidRow : mg "InvalidRow" = some (.ref e_InvalidRow)) (I_InvalidRow : IsE K (.ref e_InvalidRow) mi_InvalidRow) (n_InvalidWord : mg "InvalidWord" = some (.ref e_InvalidWord)) (I_InvalidWord : IsE K (.ref e_InvalidWord) mi_InvalidWord) (n_InvalidOperation : mg "InvalidOperation" = some (.ref e_InvalidOperation)) (I_InvalidOperation : IsE K (.ref e_InvalidOperation) mi_InvalidOperation) (n_InvalidMeaning : mg "InvalidMeaning" = some (.ref e_InvalidMeaning)) (I_InvalidMeaning : IsE K (.ref e_InvalidMeaning) mi_InvalidMeaning) (n_InvalidNames : mg "InvalidNames" = some (.ref e_InvalidNames)) (I_InvalidNames : IsE K (.ref e_InvalidNames) mi_InvalidNames) (n_InvalidFences : mg "InvalidFences" = some (.ref e_InvalidFences)) (I_InvalidFences : IsE K (.ref e_InvalidFences) mi_InvalidFences) (n_InvalidNumber : mg "InvalidNumber" = some (.ref e_InvalidNumber)) (I_InvalidNumber : IsE K (.ref e_InvalidNumber) mi_InvalidNumber) (n_InvalidText : mg "InvalidText" = some (.ref e_InvalidText)) (I_InvalidText : IsE K (.ref e_InvalidText) mi_InvalidText) (n_InvalidResults : mg "InvalidResults" = some (.ref e_InvalidResults)) (I_InvalidResults : IsE K (.ref e_InvalidResults) mi_InvalidResults) (n_TooLarge : mg "TooLarge" = some (.ref e_TooLarge)) (I_TooLarge : IsE K (.ref e_TooLarge) mi_TooLarge) (n_NothingToUndo : mg "NothingToUndo" = some (.ref e_NothingToUndo)) (I_NothingToUndo : IsE K (.ref e_NothingToUndo) mi_NothingToUndo) (n_NoSource : mg "NoSource" = some (.ref e_NoSource)) (I_NoSource : IsE K (.ref e_NoSource) mi_NoSource) (n_NoProgram : mg "NoProgram" = some (.ref e_NoProgram)) (I_NoProgram : IsE K (.ref e_NoProgram) mi_NoProgram) (n_Locked : mg "Locked" = some (.ref e_Locked)) (I_Locked : IsE K (.ref e_Locked) mi_Locked) (n_FrontBackError : mg "FrontBackError" = some (.ref e_FrontBackError)) (I_FrontBackError : IsE K (.ref e_FrontBackError) mi_FrontBackError) (z_ValueError : mg "ValueError" = none) (I_ValueError : IsE K (.type "ValueError") mi_ValueError)  : FnG P w K mg base 1 f fd ["error", "name"] (spOf K mg G__law_only 2) :=
  fn_sem F sc__law_only rfl (fun cdv A outer s H E hr hgd tk => (sss_cons (ss_set (i := 2) sc__law_only.nd rfl (by first | exact .inl rfl | exact .inr rfl) (se_lst (sa_cons (se_isE I_InvalidRow (B "isinstance" (by decide)) n_InvalidRow (se_var (i := 0))) (sa_cons (se_isE I_InvalidRows (B "isinstance" (by decide)) n_InvalidRows (se_var (i := 0))) (sa_cons (se_isE I_InvalidProgram (B "isinstance" (by decide)) n_InvalidProgram (se_var (i := 0))) sa_nil))))) (sss_cons (ss_set (i := 2) sc__law_only.nd rfl (by first | exact .inl rfl | exact .inr rfl) (se_op op_addAll od_add (se_var (i := 2)) (se_lst (sa_cons (se_isE I_InvalidOperation (B "isinstance" (by decide)) n_InvalidOperation (se_var (i := 0))) (sa_cons (se_isE I_InvalidWord (B "isinstance" (by decide)) n_InvalidWord (se_var (i := 0))) sa_nil))))) (sss_cons (ss_set (i := 2) sc__law_only.nd rfl (by first | exact .inl rfl | exact .inr rfl) (se_op op_addAll od_add (se_var (i := 2)) (se_lst (sa_cons (se_isE I_InvalidNames (B "isinstance" (by decide)) n_InvalidNames (se_var (i := 0))) (sa_cons (se_isE I_InvalidMeaning (B "isinstance" (by decide)) n_InvalidMeaning (se_var (i := 0))) sa_nil))))) (sss_cons (ss_set (i := 2) sc__law_only.nd rfl (by first | exact .inl rfl | exact .inr rfl) (se_op op_addAll od_add (se_var (i := 2)) (se_lst (sa_cons (se_isE I_InvalidNumber (B "isinstance" (by decide)) n_InvalidNumber (se_var (i := 0))) (sa_cons (se_isE I_InvalidFences (B "isinstance" (by decide)) n_InvalidFences (se_var (i := 0))) sa_nil))))) (sss_cons (ss_set (i := 2) sc__law_only.nd rfl (by first | exact .inl rfl | exact .inr rfl) (se_op op_addAll od_add (se_var (i := 2)) (se_lst (sa_cons (se_isE I_InvalidResults (B "isinstance" (by decide)) n_InvalidResults (se_var (i := 0))) (sa_cons (se_isE I_InvalidText (B "isinstance" (by decide)) n_InvalidText (se_var (i := 0))) sa_nil))))) (sss_cons (ss_set (i := 2) sc__law_only.nd rfl (by first | exact .inl rfl | exact .inr rfl) (se_op op_addAll od_add (se_var (i := 2)) (se_lst (sa_cons (se_isE I_TooLarge (B "isinstance" (by decide)) n_TooLarge (se_var (i := 0))) sa_nil)))) (sss_cons (ss_set (i := 2) sc__law_only.nd rfl (by first | exact .inl rfl | exact .inr rfl) (se_op op_addAll od_add (se_var (i := 2)) (se_lst (sa_cons (se_isE I_NoProgram (B "isinstance" (by decide)) n_NoProgram (se_var (i := 0))) (sa_cons (se_isE I_NoSource (B "isinstance" (by decide)) n_NoSource (se_var (i := 0))) (sa_cons (se_isE I_NothingToUndo (B "isinstance" (by decide)) n_NothingToUndo (se_var (i := 0))) sa_nil)))))) (sss_cons (ss_expr (se_mut (i := 2) PySem.F.slot_list_append PySem.F.type_list_append mt_append md_append (sa_cons (se_isE I_Locked (B "isinstance" (by decide)) n_Locked (se_var (i := 0))) sa_nil))) (sss_cons (ss_set (i := 3) sc__law_only.nd rfl (by first | exact .inl rfl | exact .inr rfl) (se_lst (sa_cons se_str (sa_cons se_str (sa_cons se_str (sa_cons se_str (sa_cons se_str (sa_cons se_str sa_nil)))))))) (sss_cons (ss_set (i := 3) sc__law_only.nd rfl (by first | exact .inl rfl | exact .inr rfl) (se_op op_addAll od_add (se_var (i := 3)) (se_lst (sa_cons se_str (sa_cons se_str (sa_cons se_str (sa_cons se_str (sa_cons se_str sa_nil)))))))) (sss_cons (ss_set (i := 3) sc__law_only.nd rfl (by first | exact .inl rfl | exact .inr rfl) (se_op op_addAll od_add (se_var (i := 3)) (se_lst (sa_cons se_str (sa_cons se_str (sa_cons se_str (sa_cons se_str (sa_cons se_str sa_nil)))))))) (sss_cons (ss_set (i := 4) sc__law_only.nd rfl (by first | exact .inl rfl | exact .inr rfl) (se_and (se_isE I_FrontBackError (B "isinstance" (by decide)) n_FrontBackError (se_var (i := 0))) (se_one (se_isEB I_ValueError (B "isinstance" (by decide)) z_ValueError (by first | rfl | decide +kernel) (se_var (i := 0)))))) (sss_one (ss_ret (se_and (se_var (i := 4)) (se_and (se_cmp (op_eqS (r64 hr)) od_eq (se_meth PySem.F.plainAttrs_list PySem.F.slot_list_count PySem.F.type_list_count (.inr (.inl rfl)) (mt_cntL (r65 hr)) md_cntL (se_var (i := 2)) (sa_cons se_bl sa_nil)) se_int) (se_one (se_cmp (op_eqS (r64 hr)) od_eq (se_ix ix_seq od_ix (se_var (i := 3)) (se_meth PySem.F.plainAttrs_list PySem.F.slot_list_index PySem.F.type_list_index (.inr (.inl rfl)) (mt_idxL (r65 hr)) md_idxL (se_var (i := 2)) (sa_cons se_bl sa_nil))) (se_var (i := 1)))))))))))))))))))))
theorem okc__law_only {e_InvalidProgram : Addr} {e_InvalidRows : Addr} {e_InvalidRow : Addr} {e_InvalidWord : Addr} {e_InvalidOperation : Addr} {e_InvalidMeaning : Addr} {e_InvalidNames : Addr} {e_InvalidFences : Addr} {e_InvalidNumber : Addr} {e_InvalidText : Addr} {e_InvalidResults : Addr} {e_TooLarge : Addr} {e_NothingToUndo : Addr} {e_NoSource : Addr} {e_NoProgram : Addr} {e_Locked : Addr} {e_FrontBackError : Addr} {f : Addr} {fd : FuncData} (F : Fun K "_law_only" "_law_only" s__law_only f fd) (B : Blts mg)   (n_InvalidProgram : mg "InvalidProgram" = some (.ref e_InvalidProgram)) (I_InvalidProgram : IsE K (.ref e_InvalidProgram) mi_InvalidProgram) (n_InvalidRows : mg "InvalidRows" = some (.ref e_InvalidRows)) (I_InvalidRows : IsE K (.ref e_InvalidRows) mi_InvalidRows) (n_InvalidRow : mg "InvalidRow" = some (.ref e_InvalidRow)) (I_InvalidRow : IsE K (.ref e_InvalidRow) mi_InvalidRow) (n_InvalidWord : mg "InvalidWord" = some (.ref e_InvalidWord)) (I_InvalidWord : IsE K (.ref e_InvalidWord) mi_InvalidWord) (n_InvalidOperation : mg "InvalidOperation" = some (.ref e_InvalidOperation)) (I_InvalidOperation : IsE K (.ref e_InvalidOperation) mi_InvalidOperation) (n_InvalidMeaning : mg "InvalidMeaning" = some (.ref e_InvalidMeaning)) (I_InvalidMeaning : IsE K (.ref e_InvalidMeaning) mi_InvalidMeaning) (n_InvalidNames : mg "InvalidNames" = some (.ref e_InvalidNames)) (I_InvalidNames : IsE K (.ref e_InvalidNames) mi_InvalidNames) (n_InvalidFences : mg "InvalidFences" = some (.ref e_InvalidFences)) (I_InvalidFences : IsE K (.ref e_InvalidFences) mi_InvalidFences) (n_InvalidNumber : mg "InvalidNumber" = some (.ref e_InvalidNumber)) (I_InvalidNumber : IsE K (.ref e_InvalidNumber) mi_InvalidNumber) (n_InvalidText : mg "InvalidText" = some (.ref e_InvalidText)) (I_InvalidText : IsE K (.ref e_InvalidText) mi_InvalidText) (n_InvalidResults : mg "InvalidResults" = some (.ref e_InvalidResults)) (I_InvalidResults : IsE K (.ref e_InvalidResults) mi_InvalidResults) (n_TooLarge : mg "TooLarge" = some (.ref e_TooLarge)) (I_TooLarge : IsE K (.ref e_TooLarge) mi_TooLarge) (n_NothingToUndo : mg "NothingToUndo" = some (.ref e_NothingToUndo)) (I_NothingToUndo : IsE K (.ref e_NothingToUndo) mi_NothingToUndo) (n_NoSource : mg "NoSource" = some (.ref e_NoSource)) (I_NoSource : IsE K (.ref e_NoSource) mi_NoSource) (n_NoProgram : mg "NoProgram" = some (.ref e_NoProgram)) (I_NoProgram : IsE K (.ref e_NoProgram) mi_NoProgram) (n_Locked : mg "Locked" = some (.ref e_Locked)) (I_Locked : IsE K (.ref e_Locked) mi_Locked) (n_FrontBackError : mg "FrontBackError" = some (.ref e_FrontBackError)) (I_FrontBackError : IsE K (.ref e_FrontBackError) mi_FrontBackError) (z_ValueError : mg "ValueError" = none) (I_ValueError : IsE K (.type "ValueError") mi_ValueError)  : FnC P w K mg base 1 f fd ["error", "name"] (spOf K mg G__law_only 2) :=
  fn_semC F sc__law_only rfl (fun cdv A outer s H hr => (sss_cons (ss_set (i := 2) sc__law_only.nd rfl (by first | exact .inl rfl | exact .inr rfl) (se_lst (sa_cons (se_isE I_InvalidRow (B "isinstance" (by decide)) n_InvalidRow (se_var (i := 0))) (sa_cons (se_isE I_InvalidRows (B "isinstance" (by decide)) n_InvalidRows (se_var (i := 0))) (sa_cons (se_isE I_InvalidProgram (B "isinstance" (by decide)) n_InvalidProgram (se_var (i := 0))) sa_nil))))) (sss_cons (ss_set (i := 2) sc__law_only.nd rfl (by first | exact .inl rfl | exact .inr rfl) (se_op op_addAll od_add (se_var (i := 2)) (se_lst (sa_cons (se_isE I_InvalidOperation (B "isinstance" (by decide)) n_InvalidOperation (se_var (i := 0))) (sa_cons (se_isE I_InvalidWord (B "isinstance" (by decide)) n_InvalidWord (se_var (i := 0))) sa_nil))))) (sss_cons (ss_set (i := 2) sc__law_only.nd rfl (by first | exact .inl rfl | exact .inr rfl) (se_op op_addAll od_add (se_var (i := 2)) (se_lst (sa_cons (se_isE I_InvalidNames (B "isinstance" (by decide)) n_InvalidNames (se_var (i := 0))) (sa_cons (se_isE I_InvalidMeaning (B "isinstance" (by decide)) n_InvalidMeaning (se_var (i := 0))) sa_nil))))) (sss_cons (ss_set (i := 2) sc__law_only.nd rfl (by first | exact .inl rfl | exact .inr rfl) (se_op op_addAll od_add (se_var (i := 2)) (se_lst (sa_cons (se_isE I_InvalidNumber (B "isinstance" (by decide)) n_InvalidNumber (se_var (i := 0))) (sa_cons (se_isE I_InvalidFences (B "isinstance" (by decide)) n_InvalidFences (se_var (i := 0))) sa_nil))))) (sss_cons (ss_set (i := 2) sc__law_only.nd rfl (by first | exact .inl rfl | exact .inr rfl) (se_op op_addAll od_add (se_var (i := 2)) (se_lst (sa_cons (se_isE I_InvalidResults (B "isinstance" (by decide)) n_InvalidResults (se_var (i := 0))) (sa_cons (se_isE I_InvalidText (B "isinstance" (by decide)) n_InvalidText (se_var (i := 0))) sa_nil))))) (sss_cons (ss_set (i := 2) sc__law_only.nd rfl (by first | exact .inl rfl | exact .inr rfl) (se_op op_addAll od_add (se_var (i := 2)) (se_lst (sa_cons (se_isE I_TooLarge (B "isinstance" (by decide)) n_TooLarge (se_var (i := 0))) sa_nil)))) (sss_cons (ss_set (i := 2) sc__law_only.nd rfl (by first | exact .inl rfl | exact .inr rfl) (se_op op_addAll od_add (se_var (i := 2)) (se_lst (sa_cons (se_isE I_NoProgram (B "isinstance" (by decide)) n_NoProgram (se_var (i := 0))) (sa_cons (se_isE I_NoSource (B "isinstance" (by decide)) n_NoSource (se_var (i := 0))) (sa_cons (se_isE I_NothingToUndo (B "isinstance" (by decide)) n_NothingToUndo (se_var (i := 0))) sa_nil)))))) (sss_cons (ss_expr (se_mut (i := 2) PySem.F.slot_list_append PySem.F.type_list_append mt_append md_append (sa_cons (se_isE I_Locked (B "isinstance" (by decide)) n_Locked (se_var (i := 0))) sa_nil))) (sss_cons (ss_set (i := 3) sc__law_only.nd rfl (by first | exact .inl rfl | exact .inr rfl) (se_lst (sa_cons se_str (sa_cons se_str (sa_cons se_str (sa_cons se_str (sa_cons se_str (sa_cons se_str sa_nil)))))))) (sss_cons (ss_set (i := 3) sc__law_only.nd rfl (by first | exact .inl rfl | exact .inr rfl) (se_op op_addAll od_add (se_var (i := 3)) (se_lst (sa_cons se_str (sa_cons se_str (sa_cons se_str (sa_cons se_str (sa_cons se_str sa_nil)))))))) (sss_cons (ss_set (i := 3) sc__law_only.nd rfl (by first | exact .inl rfl | exact .inr rfl) (se_op op_addAll od_add (se_var (i := 3)) (se_lst (sa_cons se_str (sa_cons se_str (sa_cons se_str (sa_cons se_str (sa_cons se_str sa_nil)))))))) (sss_cons (ss_set (i := 4) sc__law_only.nd rfl (by first | exact .inl rfl | exact .inr rfl) (se_and (se_isE I_FrontBackError (B "isinstance" (by decide)) n_FrontBackError (se_var (i := 0))) (se_one (se_isEB I_ValueError (B "isinstance" (by decide)) z_ValueError (by first | rfl | decide +kernel) (se_var (i := 0)))))) (sss_one (ss_ret (se_and (se_var (i := 4)) (se_and (se_cmp (op_eqS (r64H hr)) od_eq (se_meth PySem.F.plainAttrs_list PySem.F.slot_list_count PySem.F.type_list_count (.inr (.inl rfl)) (mt_cntL (r65H hr)) md_cntL (se_var (i := 2)) (sa_cons se_bl sa_nil)) se_int) (se_one (se_cmp (op_eqS (r64H hr)) od_eq (se_ix ix_seq od_ix (se_var (i := 3)) (se_meth PySem.F.plainAttrs_list PySem.F.slot_list_index PySem.F.type_list_index (.inr (.inl rfl)) (mt_idxL (r65H hr)) md_idxL (se_var (i := 2)) (sa_cons se_bl sa_nil))) (se_var (i := 1)))))))))))))))))))))
abbrev s_steps : Stmt := topS 35
abbrev n_steps : List Str := ["program", "row", "operation"]
theorem sc_steps : GScope ["program", "row", "operation"] ["program", "row"] (defScope s_steps) := ⟨rfl, rfl, rfl, by decide +kernel, rfl, by decide +kernel, by decide +kernel⟩
def g_steps : MS := gSeq (gDrop (eCall G_check_program (aCons (eVar 0) (aNil)))) (gSeq (gDrop (eCall G_check_row (aCons (eVar 1) (aNil)))) (gBadG))
def G_steps : List Slot → Out Vl := funG 3 g_steps
theorem okx_steps {f : Addr} {fd : FuncData} (F : Fun K "steps" "steps" s_steps f fd) (B : Blts mg)   (C_check_row : Cl P w K mg base 4 "check_row" ["row"] G_check_row) (C_check_program : Cl P w K mg base 4 "check_program" ["program"] G_check_program) : GFx P w K mg base 5 f fd ["program", "row"] (spOf K mg G_steps 2) :=
  gfx_sem F sc_steps rfl (fun cdv A outer s H E pn hr hgd tk => (sss_cons (ss_expr (se_callC C_check_program hr hgd tk (sa_cons (se_var (i := 0)) sa_nil) (aCons_len aNil_len))) (sss_cons (ss_expr (se_callC C_check_row hr hgd tk (sa_cons (se_var (i := 1)) sa_nil) (aCons_len aNil_len))) sss_bad)))
abbrev s_check_word : Stmt := topS 29
abbrev n_check_word : List Str := ["word"]
theorem sc_check_word : FnScope ["word"] ["word"] (defScope s_check_word) := ⟨rfl, rfl, rfl, by decide +kernel, rfl, by decide +kernel, by decide +kernel⟩
def g_check_word : MS := gIf (bNot (bT (eCall G_is_word (aCons (eVar 0) (aNil))))) (gRaise "InvalidWord") (gNx)
def G_check_word : List Slot → Out Vl := funG 1 g_check_word
theorem ok_check_word {e_InvalidWord : Addr} {f : Addr} {fd : FuncData} (F : Fun K "check_word" "check_word" s_check_word f fd) (B : Blts mg)   (E_InvalidWord : ErrC K mg "InvalidWord" e_InvalidWord) (C_is_word : Cl P w K mg base 1 "is_word" ["value"] G_is_word) : FnG P w K mg base 2 f fd ["word"] (spOf K mg G_check_word 1) :=
  fn_sem F sc_check_word rfl (fun cdv A outer s H E hr hgd tk => (sss_one (ss_if (st_not (st_tru (se_callC C_is_word hr hgd tk (sa_cons (se_var (i := 0)) sa_nil) (aCons_len aNil_len)))) (sss_one (ss_raise E_InvalidWord tk)) sss_nil)))
abbrev s_last_place : Stmt := topS 37
abbrev n_last_place : List Str := ["program", "word", "place", "verb", "moved", "goal", "case"]
theorem sc_last_place : FnScope ["program", "word", "place", "verb", "moved", "goal", "case"] ["program", "word", "place"] (defScope s_last_place) := ⟨rfl, rfl, rfl, by decide +kernel, rfl, by decide +kernel, by decide +kernel⟩
def g_last_place : MS := gSeq (gFor (iA (eVar 0)) (bTup 2 (bCons (bName 3) (bCons (bName 4) (bNil)))) (gSeq (gAsg (eIxK t_MOVES (eVar 3)) (bTup 2 (bCons (bName 5) (bCons (bName 6) (bNil))))) (gIf (bAnd (bE (eOp gEq (eVar 4) (eVar 1))) (bT (eCall G_holds (aCons (eVar 6) (aCons (eOp gNe (eVar 2) (eC (.str "out"))) (aNil)))))) (gSet 2 (eVar 5)) (gNx)))) (gRet (eVar 2))
def G_last_place : List Slot → Out Vl := funG 7 g_last_place
theorem ok_last_place {f : Addr} {fd : FuncData} (F : Fun K "last_place" "last_place" s_last_place f fd) (B : Blts mg)  (T_MOVES : Tab K w mg "MOVES" t_MOVES) (C_holds : Cl P w K mg base 1 "holds" ["case", "present"] G_holds) : FnG P w K mg base 2 f fd ["program", "word", "place"] (spOf K mg G_last_place 3) :=
  fn_sem F sc_last_place rfl (fun cdv A outer s H E hr hgd tk => (sss_cons (ss_for PassesOwn.leaving rfl (si_any (se_var (i := 0))) (sg_tup rfl (sgs_cons (sg_name (i := 3) sc_last_place.nd rfl (by first | exact .inl rfl | exact .inr rfl)) (sgs_cons (sg_name (i := 4) sc_last_place.nd rfl (by first | exact .inl rfl | exact .inr rfl)) sgs_nil))) (sss_cons (ss_asg (se_ixK T_MOVES (se_var (i := 3))) (sg_tup rfl (sgs_cons (sg_name (i := 5) sc_last_place.nd rfl (by first | exact .inl rfl | exact .inr rfl)) (sgs_cons (sg_name (i := 6) sc_last_place.nd rfl (by first | exact .inl rfl | exact .inr rfl)) sgs_nil)))) (sss_one (ss_if (st_w (sw_and (st_cmp (op_eqS (r64 hr)) od_eq (se_var (i := 4)) (se_var (i := 1))) (sw_and1 (st_tru (se_callC C_holds hr hgd tk (sa_cons (se_var (i := 6)) (sa_cons (se_cmp (op_neS (r64 hr)) od_ne (se_var (i := 2)) se_str) sa_nil)) (aCons_len (aCons_len aNil_len))))))) (sss_one (ss_set (i := 2) sc_last_place.nd rfl (by first | exact .inl rfl | exact .inr rfl) (se_var (i := 5)))) sss_nil)))) (sss_one (ss_ret (se_var (i := 2))))))
abbrev s_fate : Stmt := topS 36
abbrev n_fate : List Str := ["program", "word"]
theorem sc_fate : FnScope ["program", "word"] ["program", "word"] (defScope s_fate) := ⟨rfl, rfl, rfl, by decide +kernel, rfl, by decide +kernel, by decide +kernel⟩
def g_fate : MS := gSeq (gDrop (eCall G_check_program (aCons (eVar 0) (aNil)))) (gSeq (gDrop (eCall G_check_word (aCons (eVar 1) (aNil)))) (gRet (eTup (aCons (eCall G_last_place (aCons (eVar 0) (aCons (eVar 1) (aCons (eC (.str "middle")) (aNil))))) (aCons (eCall G_last_place (aCons (eVar 0) (aCons (eVar 1) (aCons (eC (.str "out")) (aNil))))) (aNil))))))
def G_fate : List Slot → Out Vl := funG 2 g_fate
theorem ok_fate {f : Addr} {fd : FuncData} (F : Fun K "fate" "fate" s_fate f fd) (B : Blts mg)   (C_check_program : Cl P w K mg base 4 "check_program" ["program"] G_check_program) (C_check_word : Cl P w K mg base 4 "check_word" ["word"] G_check_word) (C_last_place : Cl P w K mg base 4 "last_place" ["program", "word", "place"] G_last_place) : FnG P w K mg base 5 f fd ["program", "word"] (spOf K mg G_fate 2) :=
  fn_sem F sc_fate rfl (fun cdv A outer s H E hr hgd tk => (sss_cons (ss_expr (se_callC C_check_program hr hgd tk (sa_cons (se_var (i := 0)) sa_nil) (aCons_len aNil_len))) (sss_cons (ss_expr (se_callC C_check_word hr hgd tk (sa_cons (se_var (i := 1)) sa_nil) (aCons_len aNil_len))) (sss_one (ss_ret (se_tup (sa_cons (se_callC C_last_place hr hgd tk (sa_cons (se_var (i := 0)) (sa_cons (se_var (i := 1)) (sa_cons se_str sa_nil))) (aCons_len (aCons_len (aCons_len aNil_len)))) (sa_cons (se_callC C_last_place hr hgd tk (sa_cons (se_var (i := 0)) (sa_cons (se_var (i := 1)) (sa_cons se_str sa_nil))) (aCons_len (aCons_len (aCons_len aNil_len)))) sa_nil))))))))
abbrev mh_FrontBackError : List (Str × Bool) := [("InvalidProgram", true), ("InvalidRow", true), ("InvalidWord", true)]
abbrev s__law_raises : Stmt := topS 48
abbrev n__law_raises : List Str := ["which", "one", "other", "name", "found", "error"]
theorem sc__law_raises : FnScope ["which", "one", "other", "name", "found", "error"] ["which", "one", "other", "name"] (defScope s__law_raises) := ⟨rfl, rfl, rfl, by decide +kernel, rfl, by decide +kernel, by decide +kernel⟩
def g__law_raises : MS := gSeq (gTryS mh_FrontBackError 5 (gIf (bE (eOp gEq (eVar 0) (eC (.int 0)))) (gDrop (eCall G_run (aCons (eVar 1) (aCons (eVar 2) (aNil))))) (gIf (bE (eOp gEq (eVar 0) (eC (.int 1)))) (gForX ["InvalidProgram", "InvalidRow"] G_steps (aCons (eVar 1) (aCons (eVar 2) (aNil)))) (gDrop (eCall G_fate (aCons (eVar 1) (aCons (eVar 2) (aNil))))))) (gRet (eCall G__law_only (aCons (eVar 5) (aCons (eVar 3) (aNil)))))) (gRet (eC (.bool false)))
def G__law_raises : List Slot → Out Vl := funG 6 g__law_raises
theorem ok__law_raises {e_FrontBackError : Addr} {f : Addr} {fd : FuncData} (F : Fun K "_law_raises" "_law_raises" s__law_raises f fd) (B : Blts mg)   (E_FrontBackError : ErrC K mg "FrontBackError" e_FrontBackError) (H_FrontBackError : Hdl K mg e_FrontBackError mh_FrontBackError) (S_InvalidProgram : NSt K mg "InvalidProgram") (S_InvalidRow : NSt K mg "InvalidRow") (C_run : Cl P w K mg base 7 "run" ["program", "row"] G_run) (C_fate : Cl P w K mg base 7 "fate" ["program", "word"] G_fate) (X__law_only : ClX P w K mg base 7 "_law_only" ["error", "name"] G__law_only) (GC_steps : ClGx P w K mg base 5 "steps" ["program", "row"] G_steps) : FnG P w K mg base 8 f fd ["which", "one", "other", "name"] (spOf K mg G__law_raises 4) :=
  fn_sem F sc__law_raises rfl (fun cdv A outer s H E hr hgd tk => (sss_cons (ss_tryS (i := 5) E_FrontBackError H_FrontBackError tk sc__law_raises.nd (fun W2 pn2 xe2 tk po2 => (sss_one (ss_if (st_cmp (op_eqS (r64 hr)) od_eq (se_var (i := 0)) se_int) (sss_one (ss_expr (se_callC C_run hr hgd tk (sa_cons (se_var (i := 1)) (sa_cons (se_var (i := 2)) sa_nil)) (aCons_len (aCons_len aNil_len))))) (sss_one (ss_if (st_cmp (op_eqS (r64 hr)) od_eq (se_var (i := 0)) se_int) (sss_one (ss_forXC GC_steps (hr.mono (by decide)) hgd po2 tk (List.forall_mem_cons.mpr ⟨S_InvalidProgram, List.forall_mem_cons.mpr ⟨S_InvalidRow, fun _ h => nomatch h⟩⟩) (sa_cons (se_var (i := 1)) (sa_cons (se_var (i := 2)) sa_nil)) (aCons_len (aCons_len aNil_len)))) (sss_one (ss_expr (se_callC C_fate hr hgd tk (sa_cons (se_var (i := 1)) (sa_cons (se_var (i := 2)) sa_nil)) (aCons_len (aCons_len aNil_len)))))))))) (fun a2 pn2 => (sss_one (ss_ret (se_callXC X__law_only (roomS hr) (sa_cons (se_var (i := 5)) (sa_cons (se_var (i := 3)) sa_nil)) (aCons_len (aCons_len aNil_len))))))) (sss_one (ss_ret se_bl))))
abbrev s_law : Stmt := topS 49
abbrev n_law : List Str := ["script", "turn", "digits", "words", "program", "row", "odd", "other", "which", "odds"]
theorem sc_law : FnScope ["script", "turn", "digits", "words", "program", "row", "odd", "other", "which", "odds"] ["script"] (defScope s_law) := ⟨rfl, rfl, rfl, by decide +kernel, rfl, by decide +kernel, by decide +kernel⟩
def g_law : MS := gSeq (gFor (iR1 (aCons (eBlt gMax2 (aCons (eBlt gMin2 (aCons (eBlt gLen (aCons (eVar 0) (aNil))) (aCons (eC (.int 3)) (aNil)))) (aCons (eC (.int 1)) (aNil)))) (aNil))) (bName 1) (gSeq (gSet 2 (eLst (aCons (eCall G__law_cell (aCons (eVar 0) (aCons (eVar 1) (aNil)))) (aNil)))) (gSeq (gSet 3 (eCallIo G__law_words (aCons (eVar 2) (aCons (eC (.int 8)) (aNil))))) (gSeq (gAsg (eTup (aCons (eCallIo G__law_program (aCons (eVar 2) (aCons (eVar 3) (aCons (eC (.int 9)) (aNil))))) (aCons (eCallIo G__law_row (aCons (eVar 2) (aCons (eVar 3) (aNil)))) (aNil)))) (bTup 2 (bCons (bName 4) (bCons (bName 5) (bNil))))) (gSeq (gFor (iA (eCall0 G__law_odd_programs)) (bName 6) (gFor (iA (eLst (aCons (eC .none) (aCons (eVar 5) (aCons (eOp gIx (eVar 3) (eC (.int 0))) (aNil)))))) (bName 7) (gIf (bNot (bT (eBlt gAll (aCons (eLc (iR1 (aCons (eC (.int 3)) (aNil))) (bName 8) (bYes) (eCall G__law_raises (aCons (eVar 8) (aCons (eVar 6) (aCons (eVar 7) (aCons (eC (.str "InvalidProgram")) (aNil)))))) [8]) (aNil))))) (gRet (eC (.bool false))) (gNx)))) (gSeq (gFor (iA (eCall0 G__law_odd_rows)) (bName 6) (gIf (bNot (bT (eBlt gAll (aCons (eLc (iA (eLst (aCons (eC (.int 0)) (aCons (eC (.int 1)) (aNil))))) (bName 8) (bYes) (eCall G__law_raises (aCons (eVar 8) (aCons (eVar 4) (aCons (eVar 6) (aCons (eC (.str "InvalidRow")) (aNil)))))) [8]) (aNil))))) (gRet (eC (.bool false))) (gNx))) (gSeq (gSet 9 (eLst (aCons (eC .none) (aCons (eC (.bool true)) (aCons (eC (.int 0)) (aCons (eC (.str "")) (aCons (eC (.str "A")) (aCons (eC (.str "a b")) (aCons (eOp gMulA (eC (.str "a")) (eC (.int 9))) (aCons (eLst (aCons (eC (.str "a")) (aNil))) (aCons (eTup (aCons (eC (.str "a")) (aNil))) (aCons (eC (.str "a1")) (aCons (eDict0) (aCons (eC (.str "a\n")) (aCons (eC (.str "ab-c")) (aNil)))))))))))))))) (gSeq (gSet 9 (eOp gAdd (eVar 9) (eLst (aCons (eC (.str "item2")) (aCons (eC (.str "topLeft")) (aCons (eC (.str "|")) (aNil))))))) (gFor (iA (eOp gAdd (eVar 9) (eLst (aCons (eC (.str "a~")) (aCons (eC (.str "my_tab")) (aCons (eC (.str "ab ")) (aNil))))))) (bName 6) (gIf (bNot (bT (eCall G__law_raises (aCons (eC (.int 2)) (aCons (eVar 4) (aCons (eVar 6) (aCons (eC (.str "InvalidWord")) (aNil)))))))) (gRet (eC (.bool false))) (gNx))))))))))) (gRet (eC (.bool true)))
def G_law : List Slot → Out Vl := funG 10 g_law
theorem ok_law {f : Addr} {fd : FuncData} (F : Fun K "law" "law" s_law f fd) (B : Blts mg)   (C__law_cell : Cl P w K mg base 8 "_law_cell" ["script", "k"] G__law_cell) (C__law_words : Cl P w K mg base 8 "_law_words" ["digits", "most"] G__law_words) (C__law_row : Cl P w K mg base 8 "_law_row" ["digits", "words"] G__law_row) (C__law_program : Cl P w K mg base 8 "_law_program" ["digits", "words", "most"] G__law_program) (C__law_odd_programs : Cl P w K mg base 8 "_law_odd_programs" [] G__law_odd_programs) (C__law_raises : Cl P w K mg base 8 "_law_raises" ["which", "one", "other", "name"] G__law_raises) (C__law_odd_rows : Cl P w K mg base 8 "_law_odd_rows" [] G__law_odd_rows) : FnG P w K mg base 9 f fd ["script"] (spOf K mg G_law 1) :=
  fn_sem F sc_law rfl (fun cdv A outer s H E hr hgd tk => (sss_cons (ss_for PassesOwn.leaving rfl (si_r1 (B "range" (by decide)) (sa_cons (se_blt (call_max2 rfl) cd_max2 (B "max" (by decide)) PyProof.Rows.boot_max (sa_cons (se_blt (call_min2 rfl) cd_min2 (B "min" (by decide)) PyProof.Rows.boot_min (sa_cons (se_blt call_lenAll cd_len (B "len" (by decide)) boot_len (sa_cons (se_var (i := 0)) sa_nil)) (sa_cons se_int sa_nil))) (sa_cons se_int sa_nil))) sa_nil)) (sg_name (i := 1) sc_law.nd rfl (by first | exact .inl rfl | exact .inr rfl)) (sss_cons (ss_set (i := 2) sc_law.nd rfl (by first | exact .inl rfl | exact .inr rfl) (se_lst (sa_cons (se_callC C__law_cell hr hgd tk (sa_cons (se_var (i := 0)) (sa_cons (se_var (i := 1)) sa_nil)) (aCons_len (aCons_len aNil_len))) sa_nil))) (sss_cons (ss_set (i := 3) sc_law.nd rfl (by first | exact .inl rfl | exact .inr rfl) (se_callIoC C__law_words hr hgd tk (sa_cons (se_var (i := 2)) (sa_cons se_int sa_nil)) (aCons_len (aCons_len aNil_len)))) (sss_cons (ss_asg (se_tup (sa_cons (se_callIoC C__law_program hr hgd tk (sa_cons (se_var (i := 2)) (sa_cons (se_var (i := 3)) (sa_cons se_int sa_nil))) (aCons_len (aCons_len (aCons_len aNil_len)))) (sa_cons (se_callIoC C__law_row hr hgd tk (sa_cons (se_var (i := 2)) (sa_cons (se_var (i := 3)) sa_nil)) (aCons_len (aCons_len aNil_len))) sa_nil))) (sg_tup rfl (sgs_cons (sg_name (i := 4) sc_law.nd rfl (by first | exact .inl rfl | exact .inr rfl)) (sgs_cons (sg_name (i := 5) sc_law.nd rfl (by first | exact .inl rfl | exact .inr rfl)) sgs_nil)))) (sss_cons (ss_for PassesOwn.leaving rfl (si_any (se_callC0 C__law_odd_programs hr hgd)) (sg_name (i := 6) sc_law.nd rfl (by first | exact .inl rfl | exact .inr rfl)) (sss_one (ss_for PassesOwn.leaving rfl (si_any (se_lst (sa_cons se_non (sa_cons (se_var (i := 5)) (sa_cons (se_ix ix_seq od_ix (se_var (i := 3)) se_int) sa_nil))))) (sg_name (i := 7) sc_law.nd rfl (by first | exact .inl rfl | exact .inr rfl)) (sss_one (ss_if (st_not (st_tru (se_blt (cr_all rfl) cd_all (B "all" (by decide)) PyProof.Rows.boot_all (sa_cons (se_lc (own := [("which", 8)]) rfl sc_law.nd (blk_ok (N := n_law) (sc := defScope s_law) (by decide +kernel)) (si_r1 (B "range" (by decide)) (sa_cons se_int sa_nil)) (fun _ _ _ _ _ => (sg_name (i := 8) sc_law.nd rfl (by first | exact .inl rfl | exact .inr rfl))) (fun _ _ _ _ _ => sts_nil) (fun _ _ _ _ _ => (se_callC C__law_raises hr hgd takesN (sa_cons (se_var (i := 8)) (sa_cons (se_var (i := 6)) (sa_cons (se_var (i := 7)) (sa_cons se_str sa_nil)))) (aCons_len (aCons_len (aCons_len (aCons_len aNil_len))))))) sa_nil)))) (sss_one (ss_ret se_bl)) sss_nil))))) (sss_cons (ss_for PassesOwn.leaving rfl (si_any (se_callC0 C__law_odd_rows hr hgd)) (sg_name (i := 6) sc_law.nd rfl (by first | exact .inl rfl | exact .inr rfl)) (sss_one (ss_if (st_not (st_tru (se_blt (cr_all rfl) cd_all (B "all" (by decide)) PyProof.Rows.boot_all (sa_cons (se_lc (own := [("which", 8)]) rfl sc_law.nd (blk_ok (N := n_law) (sc := defScope s_law) (by decide +kernel)) (si_any (se_lst (sa_cons se_int (sa_cons se_int sa_nil)))) (fun _ _ _ _ _ => (sg_name (i := 8) sc_law.nd rfl (by first | exact .inl rfl | exact .inr rfl))) (fun _ _ _ _ _ => sts_nil) (fun _ _ _ _ _ => (se_callC C__law_raises hr hgd takesN (sa_cons (se_var (i := 8)) (sa_cons (se_var (i := 4)) (sa_cons (se_var (i := 6)) (sa_cons se_str sa_nil)))) (aCons_len (aCons_len (aCons_len (aCons_len aNil_len))))))) sa_nil)))) (sss_one (ss_ret se_bl)) sss_nil))) (sss_cons (ss_set (i := 9) sc_law.nd rfl (by first | exact .inl rfl | exact .inr rfl) (se_lst (sa_cons se_non (sa_cons se_bl (sa_cons se_int (sa_cons se_str (sa_cons se_str (sa_cons se_str (sa_cons (se_op op_mulAll od_mulA se_str se_int) (sa_cons (se_lst (sa_cons se_str sa_nil)) (sa_cons (se_tup (sa_cons se_str sa_nil)) (sa_cons se_str (sa_cons se_dict0 (sa_cons se_str (sa_cons se_str sa_nil))))))))))))))) (sss_cons (ss_set (i := 9) sc_law.nd rfl (by first | exact .inl rfl | exact .inr rfl) (se_op op_addAll od_add (se_var (i := 9)) (se_lst (sa_cons se_str (sa_cons se_str (sa_cons se_str sa_nil)))))) (sss_one (ss_for PassesOwn.leaving rfl (si_any (se_op op_addAll od_add (se_var (i := 9)) (se_lst (sa_cons se_str (sa_cons se_str (sa_cons se_str sa_nil)))))) (sg_name (i := 6) sc_law.nd rfl (by first | exact .inl rfl | exact .inr rfl)) (sss_one (ss_if (st_not (st_tru (se_callC C__law_raises hr hgd tk (sa_cons se_int (sa_cons (se_var (i := 4)) (sa_cons (se_var (i := 6)) (sa_cons se_str sa_nil)))) (aCons_len (aCons_len (aCons_len (aCons_len aNil_len))))))) (sss_one (ss_ret se_bl)) sss_nil)))))))))))) (sss_one (ss_ret se_bl))))
end
end Pk03
/-! k03: errors of the named class and no other; the closed odd values -/
namespace Pk03
open PySem PySem.Spec L2 FB
def lstOf (o : Out Vl) : List D := match o with
  | .ok (.nw l) _ => l
  | .ok (.d (.list l)) _ => l
  | _ => []
def isEx (e : Str) (o : Out Vl) : Bool := match o with
  | .exc x _ => x == e
  | _ => false
def isT (o : Out Vl) : Bool := match o with
  | .ok (.d (.bool true)) _ => true
  | _ => false
def isNw (o : Out Vl) : Bool := match o with
  | .ok (.nw _) _ => true
  | _ => false
theorem nw_of {o : Out Vl} (h : isNw o = true) : ∃ ρ, o = .ok (.nw (lstOf o)) ρ := by
  unfold isNw at h
  split at h
  · exact ⟨_, rfl⟩
  · cases h
theorem t_of {o : Out Vl} (h : isT o = true) : ∃ ρ, o = .ok (.d (.bool true)) ρ := by
  unfold isT at h
  split at h
  · exact ⟨_, rfl⟩
  · cases h
theorem x_of {e : Str} {o : Out Vl} (h : isEx e o = true) : ∃ ρ, o = .exc e ρ := by
  unfold isEx at h
  split at h
  · rename_i x ρ
    have : x = e := by simpa using h
    subst this
    exact ⟨_, rfl⟩
  · cases h
def oddP : List D := lstOf (G__law_odd_programs [])
def oddR : List D := lstOf (G__law_odd_rows [])
def oddW : List D := [.none, .bool true, .int 0, .str "", .str "A", .str "a b", .str "aaaaaaaaa", .list [.str "a"], .tuple [.str "a"], .str "a1", .dict [], .str "a\n", .str "ab-c", .str "item2", .str "topLeft", .str "|", .str "a~", .str "my_tab", .str "ab "]
theorem oddP_nw : ∃ ρ, G__law_odd_programs [] = .ok (.nw oddP) ρ := nw_of (by kernel_rfl)
theorem oddR_nw : ∃ ρ, G__law_odd_rows [] = .ok (.nw oddR) ρ := nw_of (by kernel_rfl)
theorem oddR_all : (oddR.all fun d => isEx "InvalidRow" (G_check_row [.sh d])) = true := by kernel_rfl
theorem oddW_all : (oddW.all fun d => isEx "InvalidWord" (G_check_word [.sh d])) = true := by kernel_rfl
theorem only_row (ρ : Rho) : backOut (G__law_only [.sh (excD "InvalidRow"), .sh (.str "InvalidRow")]) ρ = .ok (.d (.bool true)) ρ := by kernel_rfl
theorem only_word (ρ : Rho) : backOut (G__law_only [.sh (excD "InvalidWord"), .sh (.str "InvalidWord")]) ρ = .ok (.d (.bool true)) ρ := by kernel_rfl
theorem r_prog (o : D) : (oddP.all fun d => (List.range 3).all fun w => isT (G__law_raises [.sh (.int w), .sh d, .sh o, .sh (.str "InvalidProgram")])) = true := by kernel_rfl
theorem shI (i : Int) : SeqAt.shaped (.int i) = true := rfl
theorem eqI (a b : Int) : PyData.eqv (.int a) (.int b) = decide (a = b) := by simp only [PyData.eqv]; exact PySem.W.beq_decide a b
theorem lkR : List.lookup ("InvalidRow" : Str) mh_FrontBackError = some true := by decide +kernel
theorem lkW : List.lookup ("InvalidWord" : Str) mh_FrontBackError = some true := by decide +kernel
section
variable {P O : D} {ρ1 ρ2 : Rho} (e1 : G_check_program [.sh P] = .ok (.d .none) ρ1)
include e1
theorem run_x (e2 : G_check_row [.sh O] = .exc "InvalidRow" ρ2) : ∃ ρ, G_run [.sh P, .sh O] = .exc "InvalidRow" ρ := by simp [G_run, g_run, e1, e2]
theorem steps_x (e2 : G_check_row [.sh O] = .exc "InvalidRow" ρ2) : ∃ ρ, G_steps [.sh P, .sh O] = .exc "InvalidRow" ρ := by simp [G_steps, g_steps, e1, e2]
theorem fate_x (e2 : G_check_word [.sh O] = .exc "InvalidWord" ρ2) : ∃ ρ, G_fate [.sh P, .sh O] = .exc "InvalidWord" ρ := by simp [G_fate, g_fate, e1, e2]
end
section
variable {A O : D} {ρ1 : Rho}
theorem raises_0 (h : G_run [.sh A, .sh O] = .exc "InvalidRow" ρ1) : isT (G__law_raises [.sh (.int 0), .sh A, .sh O, .sh (.str "InvalidRow")]) = true := by
  simp [G__law_raises, g__law_raises, gTryS, shI, eqI, h, lkR, only_row, outS, isT]
theorem raises_1 (h : G_steps [.sh A, .sh O] = .exc "InvalidRow" ρ1) : isT (G__law_raises [.sh (.int 1), .sh A, .sh O, .sh (.str "InvalidRow")]) = true := by
  simp [G__law_raises, g__law_raises, gTryS, gForX, shI, eqI, h, lkR, only_row, outS, isT]
theorem raises_2 (h : G_fate [.sh A, .sh O] = .exc "InvalidWord" ρ1) : isT (G__law_raises [.sh (.int 2), .sh A, .sh O, .sh (.str "InvalidWord")]) = true := by
  simp [G__law_raises, g__law_raises, gTryS, shI, eqI, h, lkW, only_word, outS, isT]
end
end Pk03
namespace Pk03
open PySem PySem.Spec L2 FB
theorem take_spec {n k : Int} (hk : 0 < k) (h2 : k.natAbs.log2 < 9000) : G__law_take [.io [.int n], .sh (.int k)] = .ok (.d (.int (n % k))) [.io [.int (n / k)], .sh (.int k), .sh (.int (n % k))] := by
  simp [G__law_take, g__law_take, hk, h2, atI, ixN]
def lets : List Nat := ("abcdefghijklmnopqrstuvwxyz" : Str).cps.toList
def isWord : D → Bool
  | .str x => decide (1 ≤ x.length) && decide (x.length ≤ 8) && x.cps.toList.all fun c => decide (c ∈ lets)
  | _ => false
def short : D → Bool
  | .str x => decide (x.length ≤ 16000000)
  | .dict kvs => kvs.isEmpty
  | _ => true
theorem word_spec {d : D} (h : short d = true) : G_is_word [.sh d] = .ok (.d (.bool (isWord d))) [.sh d, .no] := by
  cases d with
  | str x =>
    simp [short] at h
    by_cases h1 : 1 ≤ x.length
    · have h1' : (1 : Int) ≤ x.length := by omega
      by_cases h2 : x.length ≤ 8
      · have h2' : (x.length : Int) ≤ 8 := by omega
        have e : lcG (bName 1) bYes (eOp gIn (eVar 1) (eC (PyData.str (Str.ofString "abcdefghijklmnopqrstuvwxyz")))) [1] (chars x) [] [Slot.sh (.str x), .no] = .ok ((x.cps.toList.map fun c => PyData.bool (decide (c ∈ lets)))) [Slot.sh (.str x), .no] := by
          rw [lcG_pure (fun d => some (.bool (match d with | .str y => decide (y.cps.getD 0 0 ∈ lets) | _ => false)))]
          · simp [filterMap_some, chars, List.map_map, Function.comp_def]
          · intro d hd
            obtain ⟨c, _, rfl⟩ := List.mem_map.mp hd
            simp [lcTurn, lets]
        have hl : (chars x).length ≤ 5000 := by
          show (x.cps.toList.map _).length ≤ 5000
          rw [List.length_map, Array.length_toList]
          exact Nat.le_trans h2 (by decide)
        simp [G_is_word, g_is_word, h, h1', h2', eLc, e, hl, boolsOf_map, isWord, h1, h2, List.all_map, Function.comp_def]
      · have h2' : ¬ (x.length : Int) ≤ 8 := by omega
        simp [G_is_word, g_is_word, h, h1', h2', isWord, h2]
    · have h1' : ¬ (1 : Int) ≤ x.length := by omega
      simp [G_is_word, g_is_word, h, h1', isWord, h1]
  | dict kvs =>
    cases kvs with
    | nil => simp [G_is_word, g_is_word, isWord]
    | cons p r => simp [short] at h
  | _ => simp [G_is_word, g_is_word, isWord]
end Pk03
namespace Pk03
open PySem PySem.Spec L2 FB
theorem words_strs : ∀ {ds : List D}, ds.all isWord = true → ∃ ys : List Str, ds = ys.map .str
  | [], _ => ⟨[], rfl⟩
  | d :: r, h => by
    simp only [List.all_cons, Bool.and_eq_true] at h
    obtain ⟨ys, rfl⟩ := words_strs h.2
    cases d with
    | str x => exact ⟨x :: ys, rfl⟩
    | _ => simp [isWord] at h
theorem keysOf_strs : ∀ ys : List Str, keysOf (ys.map .str) = some (ys.map .inr)
  | [] => rfl
  | y :: ys => by simp [keysOf, keysOf_strs ys]
theorem strsOf_strs : ∀ ys : List Str, strsOf (ys.map .str) = some ys
  | [] => rfl
  | y :: ys => by simp [strsOf, strsOf_strs ys]
def norep (ds : List D) : Bool := match strsOf ds with
  | some ys => decide ys.Nodup
  | none => false
def isRow : D → Bool
  | .tuple ds => decide (ds.length ≤ 20) && (ds.all isWord && norep ds)
  | _ => false
theorem short_of {d : D} (h : fine d = true) : short d = true := by
  cases d with
  | str x =>
    simp only [fine, Bool.and_eq_true, decide_eq_true_eq] at h
    simp only [short, decide_eq_true_eq]
    omega
  | dict kvs => simpa [fine, short] using h
  | _ => rfl
theorem nub_inr (ys : List Str) : (FBS.nub (ys.map (Sum.inr : Str → Key))).length = ys.length ↔ ys.Nodup := by
  rw [← List.length_map (f := (Sum.inr : Str → Key)) (as := ys), nub_nodup]
  simp [List.Nodup, List.pairwise_map]
theorem row_spec {d : D} (h : fine d = true) : G_is_row [.sh d] = .ok (.d (.bool (isRow d))) [.sh d, .no] := by
  cases d with
  | tuple ds =>
    by_cases h1 : ds.length ≤ 20
    · have h1' : ¬ (20 : Int) < ds.length := by omega
      have e : lcG (bName 1) bYes (eCall G_is_word (aCons (eVar 1) aNil)) [1] ds [] [Slot.sh (.tuple ds), .no] = .ok (ds.map fun d => PyData.bool (isWord d)) [Slot.sh (.tuple ds), .no] := by
        rw [lcG_pure (fun d => some (.bool (isWord d)))]
        · simp [filterMap_some]
        · intro d hd
          have hs : short d = true := short_of (fines_iff.mp (by simpa [fine] using h) d hd)
          simp [lcTurn, word_spec hs]
      have hl : ds.length ≤ 5000 := Nat.le_trans h1 (by decide)
      cases h2 : ds.all isWord with
      | false =>
        simp [G_is_row, g_is_row, h1', eLc, e, hl, boolsOf_map, isRow, List.all_map, Function.comp_def, h2]
      | true =>
        obtain ⟨ys, hy⟩ := words_strs h2
        have k1 : keysOf ds = some (ys.map .inr) := by rw [hy]; exact keysOf_strs ys
        have k2 : ys.length = ds.length := by rw [hy, List.length_map]
        have k3 : norep ds = decide ys.Nodup := by rw [hy]; simp [norep, strsOf_strs]
        have hk : ds.length ≤ 1000 := Nat.le_trans h1 (by decide)
        have e3 : ((FBS.nub (ys.map (Sum.inr : Str → Key))).length == ds.length) = decide ys.Nodup := by
          rw [Bool.eq_iff_iff, beq_iff_eq, ← k2, nub_inr, decide_eq_true_iff]
        have e4 : (((FBS.nub (ys.map (Sum.inr : Str → Key))).length : Int) == (ds.length : Int)) = decide ys.Nodup := by
          rw [← e3, Bool.eq_iff_iff, beq_iff_eq, beq_iff_eq]
          omega
        simp [G_is_row, g_is_row, h1', eLc, e, hl, boolsOf_map, isRow, List.all_map, Function.comp_def, h2, lenSetD, itemsD, k1, k2, k3, hk, h1, SeqAt.shaped, PyData.canLay0, PyData.depth, PyData.eqv, e4]
    · have h1' : (20 : Int) < ds.length := by omega
      simp [G_is_row, g_is_row, h1', isRow, h1]
  | dict kvs =>
    cases kvs with
    | nil => simp [G_is_row, g_is_row, isRow]
    | cons p r => simp [fine] at h
  | _ => simp [G_is_row, g_is_row, isRow]
end Pk03
namespace Pk03
open PySem PySem.Spec L2 FB
def verbs : List Str := ["front", "back", "drop", "addfront", "addback", "lift", "sink"]
def isOp : D → Bool
  | .tuple [.str v, w] => decide (v ∈ verbs) && isWord w
  | _ => false
theorem moves (v : Str) : (t_MOVES.lookup v).isSome = decide (v ∈ verbs) := lookup_isSome v t_MOVES
theorem op_spec {d : D} (h : fine d = true) : ∃ ρ, G_is_operation [.sh d] = .ok (.d (.bool (isOp d))) ρ := by
  cases d with
  | tuple ds =>
    match ds, h with
    | [], _ => simp [G_is_operation, g_is_operation, isOp, SeqAt.shaped, PyData.canLay0, PyData.depth, PyData.eqv]
    | [a], _ => simp [G_is_operation, g_is_operation, isOp, SeqAt.shaped, PyData.canLay0, PyData.depth, PyData.eqv]
    | [a, b], h =>
      have hb : short b = true := short_of (by simp [fine, fines] at h; exact h.2)
      cases a with
      | str v =>
        cases q : decide (v ∈ verbs) with
        | true => simp [G_is_operation, g_is_operation, isOp, SeqAt.shaped, PyData.canLay0, PyData.depth, PyData.eqv, moves, q, word_spec hb]
        | false => simp [G_is_operation, g_is_operation, isOp, SeqAt.shaped, PyData.canLay0, PyData.depth, PyData.eqv, moves, q]
      | dict kvs =>
        cases kvs with
        | nil => simp [G_is_operation, g_is_operation, isOp, SeqAt.shaped, PyData.canLay0, PyData.depth, PyData.eqv]
        | cons p r => simp [fine, fines] at h
      | _ => simp [G_is_operation, g_is_operation, isOp, SeqAt.shaped, PyData.canLay0, PyData.depth, PyData.eqv]
    | a :: b :: c :: r, _ =>
      have e : ((r.length : Int) + 1 + 1 + 1 == 2) = false := beq_eq_false_iff_ne.mpr (by omega)
      simp [G_is_operation, g_is_operation, isOp, SeqAt.shaped, PyData.canLay0, PyData.depth, PyData.eqv, e]
  | dict kvs =>
    cases kvs with
    | nil => simp [G_is_operation, g_is_operation, isOp]
    | cons p r => simp [fine] at h
  | _ => simp [G_is_operation, g_is_operation, isOp]
end Pk03
namespace Pk03
open PySem PySem.Spec L2 FB
def mkOp (p : Str × Str) : D := .tuple [.str p.1, .str p.2]
theorem ops_pairs : ∀ {ds : List D}, ds.all isOp = true → ∃ ps : List (Str × Str), ds = ps.map mkOp
  | [], _ => ⟨[], rfl⟩
  | d :: r, h => by
    simp only [List.all_cons, Bool.and_eq_true] at h
    obtain ⟨ps, rfl⟩ := ops_pairs h.2
    have h1 := h.1
    unfold isOp at h1
    split at h1
    · rename_i v w
      cases w with
      | str w => exact ⟨(v, w) :: ps, rfl⟩
      | _ => simp [isWord] at h1
    · cases h1
def wordsOf (ds : List D) : Option (List Str) := match ds with
  | [] => some []
  | .tuple [_, .str w] :: r => (wordsOf r).map (w :: ·)
  | _ => none
theorem wordsOf_map : ∀ ps : List (Str × Str), wordsOf (ps.map mkOp) = some (ps.map (·.2))
  | [] => rfl
  | p :: ps => by simp [wordsOf, mkOp, wordsOf_map ps]
def few (ds : List D) : Bool := match wordsOf ds with
  | some ws => decide ((FBS.nub ws).length ≤ 12)
  | none => false
def isProg : D → Bool
  | .list ds => decide (ds.length ≤ 60) && (ds.all isOp && few ds)
  | _ => false
theorem nub_map {α β : Type} [DecidableEq α] [DecidableEq β] (f : α → β) (hf : ∀ a b, f a = f b → a = b) (l : List α) : FBS.nub (l.map f) = (FBS.nub l).map f := by
  induction l using FBS.snocInd with
  | h0 => rfl
  | hs l k ih =>
    rw [List.map_append, List.map_singleton, FBS.nub_snoc, FBS.nub_snoc, ih]
    have e : (f k ∈ (FBS.nub l).map f) ↔ k ∈ FBS.nub l := by
      rw [List.mem_map]
      exact ⟨fun ⟨a, h, e⟩ => hf _ _ e ▸ h, fun h => ⟨k, h, rfl⟩⟩
    by_cases h : k ∈ FBS.nub l
    · rw [if_pos h, if_pos (e.mpr h)]
    · rw [if_neg h, if_neg fun z => h (e.mp z)]
      simp
theorem prog_spec {d : D} (h : fine d = true) : ∃ ρ, G_is_program [.sh d] = .ok (.d (.bool (isProg d))) ρ := by
  cases d with
  | list ds =>
    by_cases h1 : ds.length ≤ 60
    · have h1' : ¬ (60 : Int) < ds.length := by omega
      have hl : ds.length ≤ 5000 := Nat.le_trans h1 (by decide)
      have e : lcG (bName 1) bYes (eCall G_is_operation (aCons (eVar 1) aNil)) [1] ds [] [Slot.sh (.list ds), .no, .no, .no] = .ok (ds.map fun d => PyData.bool (isOp d)) [Slot.sh (.list ds), .no, .no, .no] := by
        rw [lcG_pure (fun d => some (.bool (isOp d)))]
        · simp [filterMap_some]
        · intro d hd
          obtain ⟨ρ', e⟩ := op_spec (fines_iff.mp (by simpa [fine] using h) d hd)
          simp [lcTurn, e]
      cases h2 : ds.all isOp with
      | false => simp [G_is_program, g_is_program, h1', eLc, e, hl, boolsOf_map, isProg, List.all_map, Function.comp_def, h2]
      | true =>
        obtain ⟨ps, hp⟩ := ops_pairs h2
        have e2 : lcG (bTup 2 (bCons (bName 2) (bCons (bName 3) bNil))) bYes (eVar 3) [2, 3] ds [] [Slot.sh (.list ds), .no, .no, .no] = .ok (ps.map fun p => PyData.str p.2) [Slot.sh (.list ds), .no, .no, .no] := by
          rw [lcG_pure (fun d => some (match d with | .tuple [_, w] => w | _ => .none))]
          · rw [hp]
            simp [filterMap_some, mkOp, Function.comp_def]
          · intro d hd
            rw [hp] at hd
            obtain ⟨p, _, rfl⟩ := List.mem_map.mp hd
            simp [lcTurn, mkOp]
        have k1 : keysOf (ps.map fun p => PyData.str p.2) = some ((ps.map (·.2)).map .inr) := by
          have := keysOf_strs (ps.map (·.2))
          rwa [List.map_map] at this
        have k2 : ps.length = ds.length := by rw [hp, List.length_map]
        have k3 : few ds = decide ((FBS.nub (ps.map (·.2))).length ≤ 12) := by rw [hp]; simp [few, wordsOf_map]
        have hk : ds.length ≤ 1000 := Nat.le_trans h1 (by decide)
        have e3 : FBS.nub ((ps.map (·.2)).map (Sum.inr : Str → Key)) = (FBS.nub (ps.map (·.2))).map .inr := nub_map _ (fun a b e => Sum.inr.inj e) _
        rw [List.map_map] at k1
        have e5 : (FBS.nub (ps.map fun x => (Sum.inr x.2 : Key))).length = (FBS.nub (ps.map (·.2))).length := by
          have := congrArg List.length e3
          rw [List.map_map, List.length_map] at this
          exact this
        simp [G_is_program, g_is_program, h1', eLc, e, e2, hl, boolsOf_map, isProg, List.all_map, Function.comp_def, h2, lenSetD, itemsD, k1, k2, k3, hk, h1]
        rw [e5]; omega
    · have h1' : (60 : Int) < ds.length := by omega
      simp [G_is_program, g_is_program, h1', isProg, h1]
  | dict kvs =>
    cases kvs with
    | nil => simp [G_is_program, g_is_program, isProg]
    | cons p r => simp [fine] at h
  | _ => simp [G_is_program, g_is_program, isProg]
end Pk03
namespace Pk03
open PySem PySem.Spec L2 FB
/-! ### valid programs -/
structure VP (ps : List (Str × Str)) : Prop where
  op : ∀ p ∈ ps, p.1 ∈ verbs ∧ isWord (.str p.2) = true
  len : ps.length ≤ 60
  fw : (FBS.nub (ps.map (·.2))).length ≤ 12
theorem lets_ok : ∀ c ∈ lets, c < 0x110000 := by decide +kernel
theorem word_fine {y : Str} (h : isWord (.str y) = true) : PyData.strOk y = true ∧ fine (.str y) = true := by
  simp only [isWord, Bool.and_eq_true, decide_eq_true_eq, List.all_eq_true] at h
  have hc : y.cps.all (· < 0x110000) = true := by
    rw [Array.all_eq_true_iff_forall_mem]
    intro c hc
    exact decide_eq_true (lets_ok c (h.2 c (Array.mem_toList_iff.mpr hc)))
  have hf : fine (.str y) = true := by
    simp only [fine, Bool.and_eq_true, decide_eq_true_eq]
    exact ⟨by omega, hc⟩
  exact ⟨fine_ok hf, hf⟩
theorem verbs_fine : ∀ v ∈ verbs, fine (.str v) = true := by decide +kernel
theorem VP.fine {ps : List (Str × Str)} (h : VP ps) : FB.fine (.list (ps.map mkOp)) = true := by
  simp only [FB.fine]
  refine fines_iff.mpr fun d hd => ?_
  obtain ⟨p, hp, rfl⟩ := List.mem_map.mp hd
  simp [mkOp, FB.fine, fines, verbs_fine p.1 (h.op p hp).1, (word_fine (h.op p hp).2).2]
  have h1 := verbs_fine p.1 (h.op p hp).1
  have h2 := (word_fine (h.op p hp).2).2
  simp only [FB.fine, Bool.and_eq_true, decide_eq_true_eq] at h1 h2
  exact ⟨⟨h1.1, by simpa using h1.2⟩, h2.1, by simpa using h2.2⟩
theorem VP.prog {ps : List (Str × Str)} (h : VP ps) : isProg (.list (ps.map mkOp)) = true := by
  have h1 : (ps.map mkOp).all isOp = true := by
    rw [List.all_eq_true]
    intro d hd
    obtain ⟨p, hp, rfl⟩ := List.mem_map.mp hd
    simp [isOp, mkOp, (h.op p hp).1, (h.op p hp).2]
  have h2 : few (ps.map mkOp) = true := by
    have h3 := h.fw
    simp [few, wordsOf_map, h3]
  have h3 := h.len
  simp only [isProg, List.length_map, h1, h2, h3, decide_true, Bool.and_self]
theorem checkp_spec {ps : List (Str × Str)} (h : VP ps) : ∃ ρ, G_check_program [.sh (.list (ps.map mkOp))] = .ok (.d .none) ρ := by
  obtain ⟨ρ, e⟩ := prog_spec h.fine
  rw [h.prog] at e
  simp [G_check_program, g_check_program, e]
theorem few_sub {ps : List (Str × Str)} {ws : List Str} (h : ∀ p ∈ ps, p.2 ∈ ws) (hl : ws.length ≤ 12) : (FBS.nub (ps.map (·.2))).length ≤ 12 :=
  Nat.le_trans (FBS.nd_len _ _ (FBS.nub_nd _) fun x hx => by
    obtain ⟨p, hp, rfl⟩ := List.mem_map.mp ((FBS.mem_nub _ x).mp hx)
    exact h p hp) hl
end Pk03
namespace Pk03
open PySem PySem.Spec L2 FB
theorem log_lt {i : Int} (h : i.natAbs < 2 ^ 2000) : i.natAbs.log2 < 2000 := by
  by_cases z : i.natAbs = 0
  · rw [z]; decide
  · exact (Nat.log2_lt z).mpr h
theorem mul_int {i j : Int} (h : i.natAbs < 2 ^ 2000) (h2 : j.natAbs < 2 ^ 2000) : gMulA (.int i) (.int j) = some (.d (.int (i * j))) := by
  have h3 : decide (i.natAbs.log2 + j.natAbs.log2 < 1000000) = true := by
    have := log_lt h
    have := log_lt h2
    exact decide_eq_true (by omega)
  simp only [gMulA, h3, if_true]
theorem lt64 {i : Int} (h : i.natAbs < 2 ^ 64) : i.natAbs < 2 ^ 2000 := Nat.lt_of_lt_of_le h (Nat.pow_le_pow_right (by decide) (by decide))
theorem mixed_spec (cell : Int) {k : Int} (hk : k.natAbs ≤ 1000000) : ∃ r ρ, 0 ≤ r ∧ r < 2147483579 ∧ G__law_mixed [.sh (.int cell), .sh (.int k)] = .ok (.d (.int r)) ρ := by
  obtain ⟨a0, a1⟩ := mod_lt (n := cell) (m := 2147483647) (by decide)
  have m1 : gMulA (.int (cell % 2147483647)) (.int 48271) = some (.d (.int (cell % 2147483647 * 48271))) := mul_int (lt64 (by omega)) (lt64 (by decide))
  have m2 : gMulA (.int k) (.int 69621) = some (.d (.int (k * 69621))) := mul_int (lt64 (by omega)) (lt64 (by decide))
  obtain ⟨x, ex⟩ : ∃ x, x = (cell % 2147483647 * 48271 + k * 69621 + 1048583) % 2147483629 := ⟨_, rfl⟩
  obtain ⟨b0, b1⟩ := mod_lt (n := cell % 2147483647 * 48271 + k * 69621 + 1048583) (m := 2147483629) (by decide)
  rw [← ex] at b0 b1
  have m3 : gMulA (.int x) (.int x) = some (.d (.int (x * x))) := mul_int (lt64 (by omega)) (lt64 (by omega))
  obtain ⟨y, ey⟩ : ∃ y, y = (x * x) % 2147483587 := ⟨_, rfl⟩
  obtain ⟨c0, c1⟩ := mod_lt (n := x * x) (m := 2147483587) (by decide)
  rw [← ey] at c0 c1
  have m4 : gMulA (.int y) (.int (y + 2)) = some (.d (.int (y * (y + 2)))) := mul_int (lt64 (by omega)) (lt64 (by omega))
  obtain ⟨d0, d1⟩ := mod_lt (n := y * (y + 2)) (m := 2147483579) (by decide)
  refine ⟨_, [.sh (.int cell), .sh (.int k), .sh (.int y)], d0, d1, ?_⟩
  simp [-s_gMulA_1, -s_gMulA_2, -s_gMulA_3, -s_gMulA_4, G__law_mixed, g__law_mixed, m1, m2, ← ex, m3, ← ey, m4]
end Pk03
namespace Pk03
open PySem PySem.Spec L2 FB
abbrev clG : MS := gSet 3 (eOp gAdd (eOp gMulA (eVar 3) (eC (.int 2147483579))) (eCall G__law_mixed (aCons (eVar 2) (aCons (eOp gAdd (eOp gAdd (eOp gMulA (eC (.int 7)) (eVar 1)) (eOp gMulA (eC (.int 100)) (eVar 4))) (eOp gMulA (eVar 4) (eVar 4))) (aNil)))))
theorem cl_loop {S : D} {k cell : Int} (k0 : 0 ≤ k) (k1 : k ≤ 10) : ∀ (ds : List D), (∀ d ∈ ds, ∃ i : Int, d = .int i ∧ 0 ≤ i ∧ i ≤ 30) → ∀ (found : Int) (j : Nat) (s4 : FB.Slot), s4.isI = false → found.natAbs < 2 ^ (31 * j) → j + ds.length ≤ 30 →
    ∃ (f' : Int) (s4' : FB.Slot), forG (bName 4) clG ds [.sh S, .sh (.int k), .sh (.int cell), .sh (.int found), s4] = .ok .nx [.sh S, .sh (.int k), .sh (.int cell), .sh (.int f'), s4']
  | [], _, found, j, s4, _, _, _ => ⟨found, s4, by simp [forG]⟩
  | d :: r, hd, found, j, s4, h4, hf, hj => by
    obtain ⟨i, rfl, i0, i1⟩ := hd d (List.mem_cons_self ..)
    simp only [List.length_cons] at hj
    have big : found.natAbs < 2 ^ 2000 := Nat.lt_of_lt_of_le hf (Nat.pow_le_pow_right (by decide) (by omega))
    have m1 : gMulA (.int found) (.int 2147483579) = some (.d (.int (found * 2147483579))) := mul_int big (lt64 (by decide))
    have m2 : gMulA (.int 7) (.int k) = some (.d (.int (7 * k))) := mul_int (lt64 (by decide)) (lt64 (by omega))
    have m3 : gMulA (.int 100) (.int i) = some (.d (.int (100 * i))) := mul_int (lt64 (by decide)) (lt64 (by omega))
    have m4 : gMulA (.int i) (.int i) = some (.d (.int (i * i))) := mul_int (lt64 (by omega)) (lt64 (by omega))
    have hii : i * i ≤ 900 := by
      have := Int.mul_le_mul i1 i1 i0 (by decide : (0 : Int) ≤ 30)
      simpa using this
    have hii0 : 0 ≤ i * i := Int.mul_nonneg i0 i0
    obtain ⟨x, ρ, x0, x1, ex⟩ := mixed_spec cell (k := 7 * k + 100 * i + i * i) (by omega)
    have e1 : clG [.sh S, .sh (.int k), .sh (.int cell), .sh (.int found), .sh (.int i)] = .ok .nx [.sh S, .sh (.int k), .sh (.int cell), .sh (.int (found * 2147483579 + x)), .sh (.int i)] := by
      simp [-s_gMulA_1, -s_gMulA_2, -s_gMulA_3, -s_gMulA_4, m1, m2, m3, m4, ex]
    have hp : (2 : Nat) ^ (31 * (j + 1)) = 2 ^ (31 * j) * 2147483648 := by rw [Nat.mul_add, Nat.pow_add]
    have hb : (found * 2147483579 + x).natAbs < 2 ^ (31 * (j + 1)) := by
      rw [hp]
      have q1 : (found * 2147483579 + x).natAbs ≤ found.natAbs * 2147483579 + x.natAbs := by
        have := Int.natAbs_add_le (found * 2147483579) x
        rw [Int.natAbs_mul] at this
        exact this
      generalize 2 ^ (31 * j) = z at hf
      omega
    obtain ⟨f2, u4, b1⟩ := cl_loop (S := S) (cell := cell) k0 k1 r (fun y hy => hd y (List.mem_cons_of_mem _ hy)) (found * 2147483579 + x) (j + 1) (.sh (.int i)) rfl hb (by omega)
    refine ⟨f2, u4, ?_⟩
    have eb : bName 4 (.int i) [.sh S, .sh (.int k), .sh (.int cell), .sh (.int found), s4] = some [.sh S, .sh (.int k), .sh (.int cell), .sh (.int found), .sh (.int i)] := by simp [h4]
    rw [forG, eb]
    simp only [e1, Out.bind_ok, b1]
theorem cell_fin {S : D} {k cell : Int} (k0 : 0 ≤ k) (k1 : k ≤ 10) : ∃ (c : Int) (ρ : Rho), (gSeq (gIf (bE (eOp gGe (eVar 2) (eOp gPow (eC (.int 10)) (eC (.int 18))))) (gRet (eOp gMod (eBlt gInt (aCons (eOp gSub (eVar 2) (eOp gPow (eC (.int 10)) (eC (.int 18)))) (aNil))) (eOp gMulA (eOp gMulA (eOp gMulA (eOp gPow (eC (.int 10)) (eC (.int 60))) (eOp gPow (eC (.int 10)) (eC (.int 60)))) (eOp gPow (eC (.int 10)) (eC (.int 60)))) (eOp gPow (eC (.int 10)) (eC (.int 60)))))) (gNx)) (gSeq (gSet 3 (eC (.int 0))) (gSeq (gFor (iR1 (aCons (eC (.int 24)) (aNil))) (bName 4) clG) (gRet (eVar 3))))) [.sh S, .sh (.int k), .sh (.int cell), .no, .no] = .ok (.rt (.d (.int c))) ρ := by
  by_cases h : 1000000000000000000 ≤ cell
  · refine ⟨(cell - 10 ^ 18) % (10 ^ 60 * 10 ^ 60 * 10 ^ 60 * 10 ^ 60), [.sh S, .sh (.int k), .sh (.int cell), .no, .no], ?_⟩
    have m1 : gMulA (.int 1000000000000000000000000000000000000000000000000000000000000) (.int 1000000000000000000000000000000000000000000000000000000000000) = some (.d (.int 1000000000000000000000000000000000000000000000000000000000000000000000000000000000000000000000000000000000000000000000000)) := mul_int (by decide +kernel) (by decide +kernel)
    have m2 : gMulA (.int 1000000000000000000000000000000000000000000000000000000000000000000000000000000000000000000000000000000000000000000000000) (.int 1000000000000000000000000000000000000000000000000000000000000) = some (.d (.int 1000000000000000000000000000000000000000000000000000000000000000000000000000000000000000000000000000000000000000000000000000000000000000000000000000000000000000000000000000000000000)) := mul_int (by decide +kernel) (by decide +kernel)
    have m3 : gMulA (.int 1000000000000000000000000000000000000000000000000000000000000000000000000000000000000000000000000000000000000000000000000000000000000000000000000000000000000000000000000000000000000) (.int 1000000000000000000000000000000000000000000000000000000000000) = some (.d (.int 1000000000000000000000000000000000000000000000000000000000000000000000000000000000000000000000000000000000000000000000000000000000000000000000000000000000000000000000000000000000000000000000000000000000000000000000000000000000000000000000000)) := mul_int (by decide +kernel) (by decide +kernel)
    simp [-s_gMulA_1, -s_gMulA_2, -s_gMulA_3, -s_gMulA_4, h, m1, m2, m3]
  · obtain ⟨f, u4, e⟩ := cl_loop (S := S) (cell := cell) k0 k1 (intsD 0 24) (fun d hd => by
      obtain ⟨i, hi, rfl⟩ := List.mem_map.mp hd
      have := List.mem_range.mp hi
      exact ⟨_, rfl, by omega, by omega⟩) 0 0 .no rfl (by decide) (by rw [intsD_length]; decide)
    refine ⟨f, [.sh S, .sh (.int k), .sh (.int cell), .sh (.int f), u4], ?_⟩
    simp [h, gFor] at e ⊢
    simp [e]
theorem cell_spec (ns : List Int) {k : Int} (k0 : 0 ≤ k) (k1 : k ≤ 10) : ∃ (c : Int) (ρ : Rho), G__law_cell [.sh (.list (ns.map .int)), .sh (.int k)] = .ok (.d (.int c)) ρ := by
  by_cases h : k < ns.length
  · obtain ⟨d, e, hd⟩ := atI_in (l := ns.map PyData.int) k0 (by simpa using h)
    obtain ⟨cell, _, rfl⟩ := List.mem_map.mp hd
    obtain ⟨c, ρ, q⟩ := cell_fin (S := .list (ns.map .int)) (cell := cell) k0 k1
    refine ⟨c, ρ, funG_rt (ρ0 := [.sh (.list (ns.map .int)), .sh (.int k), .no, .no, .no]) rfl ?_⟩
    rw [← q]
    simp [g__law_cell, h, e]
  · obtain ⟨c, ρ, q⟩ := cell_fin (S := .list (ns.map .int)) (cell := 0) k0 k1
    refine ⟨c, ρ, funG_rt (ρ0 := [.sh (.list (ns.map .int)), .sh (.int k), .no, .no, .no]) rfl ?_⟩
    rw [← q]
    simp [g__law_cell, h]
end Pk03
namespace Pk03
open PySem PySem.Spec L2 FB
def someS : List Str := ["a", "ab", "absent", "b", "drop", "front", "left", "longname", "longnamf", "present", "right", "xa"]
abbrev someD : List D := [.str "a", .str "ab", .str "absent", .str "b", .str "drop", .str "front", .str "left", .str "longname", .str "longnamf", .str "present", .str "right", .str "xa"]
theorem some_ok : ∀ y ∈ someS, PyData.strOk y = true := by decide +kernel
theorem some_at {i : Int} (h0 : 0 ≤ i) (h1 : i < 12) : ∃ y ∈ someS, atI someD i = some (.str y) := by
  obtain ⟨d, e, hd⟩ := atI_in (l := someD) h0 h1
  have : someD = someS.map .str := rfl
  rw [this] at hd
  obtain ⟨y, hy, rfl⟩ := List.mem_map.mp hd
  exact ⟨y, hy, e⟩
abbrev wdG : MS := gSeq (gSet 5 (eOp gIx (eVar 2) (eCallIo G__law_take (aCons (eVar 0) (aCons (eC (.int 12)) (aNil)))))) (gIf (bE (eOp gNotIn (eVar 5) (eVar 3))) (gDrop (eMut mAppend 3 (aCons (eVar 5) (aNil)))) (gNx))
def In (S : List Str) (ys : List Str) : Prop := ∀ y ∈ ys, y ∈ S
theorem wd_step {n m i : Int} {ys : List Str} {s5 : Slot} (h5 : s5.isI = false) (hy : In someS ys) (hn : ys.Nodup) (hl : ys.length < 1000) :
    ∃ n' ys' s5', s5'.isI = false ∧ In someS ys' ∧ ys'.Nodup ∧ ys' ≠ [] ∧ ys'.length ≤ ys.length + 1 ∧
      wdG [.io [.int n], .sh (.int m), .ol someD, .ol (ys.map .str), .sh (.int i), s5] = .ok .nx [.io [.int n'], .sh (.int m), .ol someD, .ol (ys'.map .str), .sh (.int i), s5'] := by
  obtain ⟨r0, r1⟩ := mod_lt (n := n) (m := 12) (by decide)
  obtain ⟨w, hw, ew⟩ := some_at r0 r1
  have s1 : SeqAt.shaped (.list (ys.map .str)) = true := shaped_strs fun y h => some_ok y (hy y h)
  have s2 := shaped_str (some_ok w hw)
  have hz : ys.length < 5000 := by omega
  have tk := take_spec (n := n) (k := 12) (by decide) (by decide)
  by_cases h : w ∈ ys
  · refine ⟨n / 12, ys, .sh (.str w), rfl, hy, hn, (fun e => by rw [e] at h; cases h), by omega, ?_⟩
    simp [-List.any_map, tk, ew, h5, s1, s2, any_strs, h]
  · refine ⟨n / 12, ys ++ [w], .sh (.str w), rfl, fun y hm => ?_, nodup_snoc.mpr ⟨hn, h⟩, by simp, by simp, ?_⟩
    · rcases List.mem_append.mp hm with z | z
      · exact hy y z
      · rw [List.mem_singleton.mp z]; exact hw
    · simp [-List.any_map, tk, ew, h5, s1, s2, any_strs, h, hz]
theorem wd_loop {m : Int} : ∀ (ds : List D), (∀ d ∈ ds, ∃ i : Int, d = .int i) → ∀ (n : Int) (ys : List Str) (s4 s5 : Slot), s4.isI = false → s5.isI = false → In someS ys → ys.Nodup → ys.length + ds.length < 1000 →
    ∃ n' ys' s4' s5', In someS ys' ∧ ys'.Nodup ∧ (ds ≠ [] → ys' ≠ []) ∧ (ys ≠ [] → ys' ≠ []) ∧ ys'.length ≤ ys.length + ds.length ∧
      forG (bName 4) wdG ds [.io [.int n], .sh (.int m), .ol someD, .ol (ys.map .str), s4, s5] = .ok .nx [.io [.int n'], .sh (.int m), .ol someD, .ol (ys'.map .str), s4', s5']
  | [], _, n, ys, s4, s5, _, _, hy, hn, _ => ⟨n, ys, s4, s5, hy, hn, fun h => absurd rfl h, id, by simp, by simp [forG]⟩
  | d :: r, hd, n, ys, s4, s5, h4, h5, hy, hn, hl => by
    obtain ⟨i, rfl⟩ := hd d (List.mem_cons_self ..)
    simp only [List.length_cons] at hl
    obtain ⟨n1, y1, t5, a1, a2, a2n, a3, a4, a5⟩ := wd_step (n := n) (m := m) (i := i) h5 hy hn (by omega)
    obtain ⟨n2, y2, u4, u5, b1, b1n, b2, b3, b4, b5⟩ := wd_loop (m := m) r (fun x hx => hd x (List.mem_cons_of_mem _ hx)) n1 y1 (.sh (.int i)) t5 rfl a1 a2 a2n (by omega)
    refine ⟨n2, y2, u4, u5, b1, b1n, fun _ => b3 a3, fun _ => b3 a3, by simp only [List.length_cons]; omega, ?_⟩
    have eb : bName 4 (.int i) [.io [.int n], .sh (.int m), .ol someD, .ol (ys.map .str), s4, s5] = some [.io [.int n], .sh (.int m), .ol someD, .ol (ys.map .str), .sh (.int i), s5] := by
      simp [h4]
    rw [forG, eb]
    simp only [a5, Out.bind_ok, b5]
theorem ints_are {lo : Int} {n : Nat} : ∀ d ∈ intsD lo n, ∃ i : Int, d = .int i := fun d hd => by
  obtain ⟨i, _, rfl⟩ := List.mem_map.mp hd
  exact ⟨_, rfl⟩
theorem words_spec (n : Int) {m : Int} (h0 : 0 < m) (h1 : m ≤ 16) : ∃ n' ys ρ, In someS ys ∧ ys.Nodup ∧ ys ≠ [] ∧ (ys.length : Int) ≤ m ∧ G__law_words [.io [.int n], .sh (.int m)] = .ok (.nw (ys.map .str)) (.io [.int n'] :: ρ) := by
  obtain ⟨r0, r1⟩ := mod_lt (n := n) h0
  have hm : m.natAbs.log2 < 9000 := by
    have : m.natAbs < 2 ^ 9000 := Nat.lt_of_le_of_lt (show m.natAbs ≤ 16 by omega) (by decide +kernel)
    exact (Nat.log2_lt (by omega)).mpr this
  obtain ⟨n2, y2, u4, u5, b1, b1n, b2, b3, b4, b5⟩ := wd_loop (m := m) (intsD 0 (1 + n % m).toNat) ints_are (n / m) [] .no .no rfl rfl (fun _ h => nomatch h) List.nodup_nil (by rw [intsD_length]; simp; omega)
  rw [intsD_length] at b4
  refine ⟨n2, y2, [.sh (.int m), .ol someD, .no, u4, u5], b1, b1n, b2 (fun e => ?_), by simp at b4; omega, ?_⟩
  · have := congrArg List.length e
    rw [intsD_length] at this
    simp at this
    omega
  · have hb : -100000 ≤ 1 + n % m ∧ 1 + n % m ≤ 100000 := by omega
    simp [G__law_words, g__law_words, take_spec h0 hm, gFor, hb] at b5 ⊢
    simp [b5]
end Pk03
namespace Pk03
open PySem PySem.Spec L2 FB
theorem take_nat {n : Int} {k : Nat} (h0 : 0 < k) (h1 : k ≤ 1000) : G__law_take [.io [.int n], .sh (.int (k : Int))] = .ok (.d (.int (n % k))) [.io [.int (n / k)], .sh (.int k), .sh (.int (n % k))] :=
  take_spec (by omega) (log_small (by omega))
abbrev verbsD : List D := [.str "front", .str "back", .str "drop", .str "addfront", .str "addback", .str "lift", .str "sink"]
theorem verb_at {i : Int} (h0 : 0 ≤ i) (h1 : i < 7) : ∃ y ∈ verbs, atI verbsD i = some (.str y) := by
  obtain ⟨d, e, hd⟩ := atI_in (l := verbsD) h0 h1
  have : verbsD = verbs.map .str := rfl
  rw [this] at hd
  obtain ⟨y, hy, rfl⟩ := List.mem_map.mp hd
  exact ⟨y, hy, e⟩
theorem str_at {ys : List Str} {i : Int} (h0 : 0 ≤ i) (h1 : i < ys.length) : ∃ y ∈ ys, atI (ys.map PyData.str) i = some (.str y) := by
  obtain ⟨d, e, hd⟩ := atI_in (l := ys.map PyData.str) h0 (by simpa using h1)
  obtain ⟨y, hy, rfl⟩ := List.mem_map.mp hd
  exact ⟨y, hy, e⟩
def Ops (ws : List Str) (ps : List (Str × Str)) : Prop := ∀ p ∈ ps, p.1 ∈ verbs ∧ p.2 ∈ ws
abbrev pgG : MS := gDrop (eMut mAppend 4 (aCons (eTup (aCons (eOp gIx (eVar 3) (eCallIo G__law_take (aCons (eVar 0) (aCons (eC (.int 7)) (aNil))))) (aCons (eOp gIx (eVar 1) (eCallIo G__law_take (aCons (eVar 0) (aCons (eBlt gLen (aCons (eVar 1) (aNil))) (aNil))))) (aNil)))) (aNil)))
theorem pg_loop {m : Int} {ws : List Str} (hw0 : ws ≠ []) (hw1 : ws.length ≤ 100) : ∀ (ds : List D), (∀ d ∈ ds, ∃ i : Int, d = .int i) → ∀ (n : Int) (ps : List (Str × Str)) (s5 : Slot), s5.isI = false → Ops ws ps → ps.length + ds.length < 1000 →
    ∃ n' ps' s5', Ops ws ps' ∧ ps'.length ≤ ps.length + ds.length ∧
      forG (bName 5) pgG ds [.io [.int n], .sh (.list (ws.map .str)), .sh (.int m), .ol verbsD, .ol (ps.map mkOp), s5] = .ok .nx [.io [.int n'], .sh (.list (ws.map .str)), .sh (.int m), .ol verbsD, .ol (ps'.map mkOp), s5']
  | [], _, n, ps, s5, _, hp, _ => ⟨n, ps, s5, hp, by simp, by simp [forG]⟩
  | d :: r, hd, n, ps, s5, h5, hp, hl => by
    obtain ⟨i, rfl⟩ := hd d (List.mem_cons_self ..)
    simp only [List.length_cons] at hl
    obtain ⟨r0, r1⟩ := mod_lt (n := n) (m := 7) (by decide)
    obtain ⟨v, hv, ev⟩ := verb_at r0 r1
    have hlw : 0 < ws.length := List.length_pos_iff.mpr hw0
    obtain ⟨q0, q1⟩ := mod_lt (n := n / 7) (m := (ws.length : Int)) (by omega)
    obtain ⟨w, hw2, ew⟩ := str_at (ys := ws) q0 q1
    have t1 := take_spec (n := n) (k := 7) (by decide) (by decide)
    have t2 := take_nat (n := n / 7) hlw (by omega)
    have hz : ps.length < 5000 := by omega
    have e1 : pgG [.io [.int n], .sh (.list (ws.map .str)), .sh (.int m), .ol verbsD, .ol (ps.map mkOp), .sh (.int i)] = .ok .nx [.io [.int (n / 7 / ws.length)], .sh (.list (ws.map .str)), .sh (.int m), .ol verbsD, .ol ((ps ++ [(v, w)]).map mkOp), .sh (.int i)] := by
      simp [t1, t2, ev, ew, hz, mkOp]
    obtain ⟨n2, p2, u5, b1, b2, b3⟩ := pg_loop (m := m) hw0 hw1 r (fun x hx => hd x (List.mem_cons_of_mem _ hx)) (n / 7 / ws.length) (ps ++ [(v, w)]) (.sh (.int i)) rfl (fun p hq => by
      rcases List.mem_append.mp hq with z | z
      · exact hp p z
      · rw [List.mem_singleton.mp z]; exact ⟨hv, hw2⟩) (by simp; omega)
    simp only [List.length_append, List.length_singleton] at b2
    refine ⟨n2, p2, u5, b1, by simp only [List.length_cons]; omega, ?_⟩
    have eb : bName 5 (.int i) [.io [.int n], .sh (.list (ws.map .str)), .sh (.int m), .ol verbsD, .ol (ps.map mkOp), s5] = some [.io [.int n], .sh (.list (ws.map .str)), .sh (.int m), .ol verbsD, .ol (ps.map mkOp), .sh (.int i)] := by
      simp [h5]
    rw [forG, eb]
    simp only [e1, Out.bind_ok, b3]
theorem program_spec (n : Int) {ws : List Str} (hw0 : ws ≠ []) (hw1 : ws.length ≤ 100) {M : Nat} (hM : M ≤ 60) : ∃ n' ps ρ, Ops ws ps ∧ ps.length ≤ M ∧ G__law_program [.io [.int n], .sh (.list (ws.map .str)), .sh (.int (M : Int))] = .ok (.nw (ps.map mkOp)) (.io [.int n'] :: ρ) := by
  obtain ⟨r0, r1⟩ := mod_lt (n := n) (m := ((M + 1 : Nat) : Int)) (by omega)
  have t1 := take_nat (n := n) (k := M + 1) (by omega) (by omega)
  have hc : ((M + 1 : Nat) : Int) = (M : Int) + 1 := by omega
  rw [hc] at t1 r0 r1
  obtain ⟨n2, p2, u5, b1, b2, b3⟩ := pg_loop (m := (M : Int)) hw0 hw1 (intsD 0 (n % (M + 1)).toNat) ints_are (n / (M + 1)) [] .no rfl (fun _ h => nomatch h) (by rw [intsD_length]; simp; omega)
  rw [intsD_length] at b2
  refine ⟨n2, p2, [.sh (.list (ws.map .str)), .sh (.int M), .ol verbsD, .no, u5], b1, by simp at b2; omega, ?_⟩
  have hb : -100000 ≤ n % (M + 1) ∧ n % (M + 1) ≤ 100000 := by omega
  simp [G__law_program, g__law_program, t1, gFor, hb] at b3 ⊢
  simp [b3]
end Pk03
namespace Pk03
open PySem PySem.Spec L2 FB
/-! ### a row drawn from words -/
theorem erase_map {α β : Type} (f : α → β) : ∀ (l : List α) (i : Nat), (l.map f).eraseIdx i = (l.eraseIdx i).map f
  | [], _ => rfl
  | _ :: _, 0 => rfl
  | _ :: r, i + 1 => by simp [erase_map f r i]
theorem erase_perm {α : Type} : ∀ (l : List α) (i : Nat) (h : i < l.length), (l[i] :: l.eraseIdx i).Perm l
  | [], _, h => absurd h (Nat.not_lt_zero _)
  | x :: r, 0, _ => List.Perm.refl _
  | x :: r, i + 1, h => (List.Perm.swap x (r[i]'(Nat.lt_of_succ_lt_succ h)) (r.eraseIdx i)).trans ((erase_perm r i (Nat.lt_of_succ_lt_succ h)).cons x)
theorem pop_at {ls : List Str} {i : Int} (h0 : 0 ≤ i) (h1 : i < ls.length) : ∃ y, (y :: ls.eraseIdx i.toNat).Perm ls ∧ mPopAt (ls.map PyData.str) [.int i] = some (.str y, (ls.eraseIdx i.toNat).map PyData.str) := by
  have h : i.toNat < ls.length := by omega
  refine ⟨ls[i.toNat], erase_perm ls i.toNat h, ?_⟩
  have e : ixN (ls.map PyData.str).length i = some i.toNat := by
    unfold ixN
    rw [if_pos h0, if_pos (by simpa using h1)]
  unfold mPopAt
  simp only [e]
  rw [List.getElem?_map, List.getElem?_eq_getElem h]
  simp [erase_map]
abbrev rdG : MS := gDrop (eMut mAppend 3 (aCons (eMut mPopAt 2 (aCons (eCallIo G__law_take (aCons (eVar 0) (aCons (eBlt gLen (aCons (eVar 2) (aNil))) (aNil)))) (aNil))) (aNil)))
theorem rd_loop {W : D} : ∀ (ds : List D), (∀ d ∈ ds, ∃ i : Int, d = .int i) → ∀ (n : Int) (ls fs : List Str) (s4 : FB.Slot), s4.isI = false → ds.length ≤ ls.length → ls.length ≤ 100 → fs.length + ds.length < 1000 →
    ∃ (n' : Int) (ls' fs' : List Str) (s4' : FB.Slot), (ls' ++ fs').Perm (ls ++ fs) ∧
      forG (bName 4) rdG ds [.io [.int n], .sh W, .ol (ls.map .str), .ol (fs.map .str), s4] = .ok .nx [.io [.int n'], .sh W, .ol (ls'.map .str), .ol (fs'.map .str), s4']
  | [], _, n, ls, fs, s4, _, _, _, _ => ⟨n, ls, fs, s4, List.Perm.refl _, by simp [forG]⟩
  | d :: r, hd, n, ls, fs, s4, h4, h1, h2, h3 => by
    obtain ⟨i, rfl⟩ := hd d (List.mem_cons_self ..)
    simp only [List.length_cons] at h1 h3
    have l0 : 0 < ls.length := by omega
    have t1 := take_nat (n := n) (k := ls.length) l0 (by omega)
    obtain ⟨r0, r1⟩ := mod_lt (n := n) (m := (ls.length : Int)) (by omega)
    obtain ⟨y, py, ey⟩ := pop_at r0 r1
    obtain ⟨ks, ek⟩ : ∃ ks, ks = ls.eraseIdx (n % (ls.length : Int)).toNat := ⟨_, rfl⟩
    rw [← ek] at py ey
    have lk : ks.length + 1 = ls.length := py.length_eq
    obtain ⟨n', ls', fs', s4', hp, e⟩ := rd_loop (W := W) r (fun x hx => hd x (List.mem_cons_of_mem _ hx)) (n / (ls.length : Int)) ks (fs ++ [y]) (.sh (.int i)) rfl (by omega) (by omega) (by simp only [List.length_append, List.length_singleton]; omega)
    refine ⟨n', ls', fs', s4', hp.trans ?_, ?_⟩
    · have : (ks ++ (fs ++ [y])).Perm (y :: ks ++ fs) := by
        rw [← List.append_assoc]
        exact List.perm_append_comm (l₁ := ks ++ fs) (l₂ := [y])
      exact this.trans (List.Perm.append_right fs py)
    · have hb : fs.length < 5000 := by omega
      have eb : bName 4 (.int i) [.io [.int n], .sh W, .ol (ls.map .str), .ol (fs.map .str), s4] = some [.io [.int n], .sh W, .ol (ls.map .str), .ol (fs.map .str), .sh (.int i)] := by simp [h4]
      have eg : rdG [.io [.int n], .sh W, .ol (ls.map .str), .ol (fs.map .str), .sh (.int i)] = .ok .nx [.io [.int (n / (ls.length : Int))], .sh W, .ol (ks.map .str), .ol ((fs ++ [y]).map .str), .sh (.int i)] := by
        simp [t1, ey, hb]
      exact (forG_step eb eg).trans e
theorem rowd_spec (n : Int) {ws : List Str} (hn : ws.Nodup) (hl : ws.length ≤ 100) : ∃ (n' : Int) (fs : List Str) (ρ : Rho), fs.Nodup ∧ (∀ y ∈ fs, y ∈ ws) ∧ fs.length ≤ ws.length ∧ G__law_row [.io [.int n], .sh (.list (ws.map .str))] = .ok (.d (.tuple (fs.map .str))) (.io [.int n'] :: ρ) := by
  obtain ⟨r0, r1⟩ := mod_lt (n := n) (m := ((ws.length + 1 : Nat) : Int)) (by omega)
  have t1 := take_nat (n := n) (k := ws.length + 1) (by omega) (by omega)
  have hc : ((ws.length + 1 : Nat) : Int) = (ws.length : Int) + 1 := by omega
  rw [hc] at t1 r0 r1
  obtain ⟨n', ls', fs', s4', hp, e⟩ := rd_loop (W := .list (ws.map .str)) (intsD 0 (n % ((ws.length : Int) + 1)).toNat) ints_are (n / ((ws.length : Int) + 1)) ws [] .no rfl (by rw [intsD_length]; omega) hl (by rw [intsD_length]; simp; omega)
  rw [List.append_nil] at hp
  have nd := hp.nodup_iff.mpr hn
  have len := hp.length_eq
  rw [List.length_append] at len
  refine ⟨n', fs', [.sh (.list (ws.map .str)), .ol (ls'.map .str), .ol (fs'.map .str), s4'], (List.nodup_append.mp nd).2.1, fun y hy => hp.mem_iff.mp (List.mem_append_right _ hy), by omega, funG_rt (ρ0 := [.io [.int n], .sh (.list (ws.map .str)), .no, .no, .no]) rfl ?_⟩
  have s1 : gPar 2 3 (eBlt gList (aCons (eVar 1) (aNil))) (eLst (aNil)) [.io [.int n], .sh (.list (ws.map .str)), .no, .no, .no] = .ok .nx [.io [.int n], .sh (.list (ws.map .str)), .ol (ws.map .str), .ol [], .no] := by simp
  have hb : -100000 ≤ n % ((ws.length : Int) + 1) ∧ n % ((ws.length : Int) + 1) ≤ 100000 := by omega
  have it : iR1 (aCons (eCallIo G__law_take (aCons (eVar 0) (aCons (eOp gAdd (eBlt gLen (aCons (eVar 1) (aNil))) (eC (.int 1))) (aNil)))) (aNil)) [.io [.int n], .sh (.list (ws.map .str)), .ol (ws.map .str), .ol [], .no] = .ok (intsD 0 (n % ((ws.length : Int) + 1)).toNat) [.io [.int (n / ((ws.length : Int) + 1))], .sh (.list (ws.map .str)), .ol (ws.map .str), .ol [], .no] := by
    simp [t1, hb]
  refine (gSeq_nx s1).trans ((gSeq_nx ((gFor_of it).trans e)).trans ?_)
  simp
end Pk03
namespace Pk03
open PySem PySem.Spec L2 FB
theorem some_ws : ∀ y ∈ someS, isWord (.str y) = true := by decide +kernel
def pl (s : FB.Slot) : Prop := s = .no ∨ ∃ d, s = .sh d
theorem pl.i {s : FB.Slot} (h : pl s) : s.isI = false := by rcases h with rfl | ⟨d, rfl⟩ <;> rfl
abbrev rzE (a b : ME) (e : Str) : ME := eCall G__law_raises (aCons (eVar 8) (aCons a (aCons b (aCons (eC (.str e)) (aNil)))))
abbrev allG (it : MI) (c : ME) : MS := gIf (bNot (bT (eBlt gAll (aCons (eLc it (bName 8) (bYes) c [8]) (aNil))))) (gRet (eC (.bool false))) (gNx)
abbrev pI : MS := allG (iR1 (aCons (eC (.int 3)) (aNil))) (rzE (eVar 6) (eVar 7) "InvalidProgram")
abbrev itO : MI := iA (eLst (aCons (eC .none) (aCons (eVar 5) (aCons (eOp gIx (eVar 3) (eC (.int 0))) (aNil)))))
abbrev pB : MS := gFor itO (bName 7) pI
abbrev rB : MS := allG (iA (eLst (aCons (eC (.int 0)) (aCons (eC (.int 1)) (aNil))))) (rzE (eVar 4) (eVar 6) "InvalidRow")
abbrev wB : MS := gIf (bNot (bT (eCall G__law_raises (aCons (eC (.int 2)) (aCons (eVar 4) (aCons (eVar 6) (aCons (eC (.str "InvalidWord")) (aNil)))))))) (gRet (eC (.bool false))) (gNx)
abbrev set9 : MS := gSet 9 (eLst (aCons (eC .none) (aCons (eC (.bool true)) (aCons (eC (.int 0)) (aCons (eC (.str "")) (aCons (eC (.str "A")) (aCons (eC (.str "a b")) (aCons (eOp gMulA (eC (.str "a")) (eC (.int 9))) (aCons (eLst (aCons (eC (.str "a")) (aNil))) (aCons (eTup (aCons (eC (.str "a")) (aNil))) (aCons (eC (.str "a1")) (aCons (eDict0) (aCons (eC (.str "a\n")) (aCons (eC (.str "ab-c")) (aNil)))))))))))))))
abbrev add9 : MS := gSet 9 (eOp gAdd (eVar 9) (eLst (aCons (eC (.str "item2")) (aCons (eC (.str "topLeft")) (aCons (eC (.str "|")) (aNil))))))
abbrev itW : MI := iA (eOp gAdd (eVar 9) (eLst (aCons (eC (.str "a~")) (aCons (eC (.str "my_tab")) (aCons (eC (.str "ab ")) (aNil))))))
abbrev tl : MS := gSeq (gFor (iA (eCall0 G__law_odd_programs)) (bName 6) pB) (gSeq (gFor (iA (eCall0 G__law_odd_rows)) (bName 6) rB) (gSeq set9 (gSeq add9 (gFor itW (bName 6) wB))))
abbrev set2 : MS := gSet 2 (eLst (aCons (eCall G__law_cell (aCons (eVar 0) (aCons (eVar 1) (aNil)))) (aNil)))
abbrev set3 : MS := gSet 3 (eCallIo G__law_words (aCons (eVar 2) (aCons (eC (.int 8)) (aNil))))
abbrev set45 : MS := gAsg (eTup (aCons (eCallIo G__law_program (aCons (eVar 2) (aCons (eVar 3) (aCons (eC (.int 9)) (aNil))))) (aCons (eCallIo G__law_row (aCons (eVar 2) (aCons (eVar 3) (aNil)))) (aNil)))) (bTup 2 (bCons (bName 4) (bCons (bName 5) (bNil))))
abbrev ltB : MS := gSeq set2 (gSeq set3 (gSeq set45 tl))
abbrev law_0 : MS := gFor (iR1 (aCons (eBlt gMax2 (aCons (eBlt gMin2 (aCons (eBlt gLen (aCons (eVar 0) (aNil))) (aCons (eC (.int 3)) (aNil)))) (aCons (eC (.int 1)) (aNil)))) (aNil))) (bName 1) ltB
theorem law_is : g_law = gSeq law_0 (gRet (eC (.bool true))) := rfl
section
abbrev Z (S x1 x2 x3 x4 x5 x6 x7 x8 x9 : FB.Slot) : Rho := [S, x1, x2, x3, x4, x5, x6, x7, x8, x9]
theorem allG_ok {S x1 x2 x3 x4 x5 x6 x7 x9 : FB.Slot} {it : MI} {c : ME} {ds : List D} (hi : it (Z S x1 x2 x3 x4 x5 x6 x7 .no x9) = .ok ds (Z S x1 x2 x3 x4 x5 x6 x7 .no x9)) (hl : ds.length ≤ 1000)
    (ht : ∀ w ∈ ds, lcTurn (bName 8) bYes c [8] w (Z S x1 x2 x3 x4 x5 x6 x7 .no x9) = .ok (some (.bool true)) (Z S x1 x2 x3 x4 x5 x6 x7 .no x9)) : allG it c (Z S x1 x2 x3 x4 x5 x6 x7 .no x9) = .ok .nx (Z S x1 x2 x3 x4 x5 x6 x7 .no x9) := by
  have e := lcG_pure (b := bName 8) (c := bYes) (e := c) (vs := [8]) (ρ := Z S x1 x2 x3 x4 x5 x6 x7 .no x9) (fun _ => some (.bool true)) ds [] ht
  have hl2 : ds.length ≤ 5000 := by omega
  have hb : boolsOf (ds.map fun _ => PyData.bool true) = some (ds.map fun _ => true) := boolsOf_map _ _
  rw [filterMap_some, List.nil_append] at e
  have ec : eLc it (bName 8) bYes c [8] (Z S x1 x2 x3 x4 x5 x6 x7 .no x9) = .ok (.nw (ds.map fun _ => PyData.bool true)) (Z S x1 x2 x3 x4 x5 x6 x7 .no x9) := by
    simp only [eLc, hi, Out.bind_ok]
    simp [e, hl2]
  have hA : (ds.map fun _ => true).all id = true := by simp
  generalize ds.map (fun _ => PyData.bool true) = A at *
  generalize ds.map (fun _ => true) = B at *
  simp [ec, hb, hA]
theorem p1 {d : PyData} (hd : d ∈ oddP) (o : PyData) {w : Int} (h0 : 0 ≤ w) (h1 : w < 3) : ∃ ρ, G__law_raises [.sh (.int w), .sh d, .sh o, .sh (.str "InvalidProgram")] = .ok (.d (.bool true)) ρ := by
  have h := List.all_eq_true.mp (List.all_eq_true.mp (r_prog o) d hd) w.toNat (List.mem_range.mpr (by omega))
  have e : ((w.toNat : Nat) : Int) = w := by omega
  rw [e] at h
  exact t_of h
theorem pI_ok {S x1 x2 x3 x4 x5 x9 : FB.Slot} {d o : PyData} (hd : d ∈ oddP) : pI (Z S x1 x2 x3 x4 x5 (.sh d) (.sh o) .no x9) = .ok .nx (Z S x1 x2 x3 x4 x5 (.sh d) (.sh o) .no x9) := by
  refine allG_ok (ds := intsD 0 3) (by simp) (by decide) fun w hw => ?_
  obtain ⟨i, hi, rfl⟩ := List.mem_map.mp hw
  have := List.mem_range.mp hi
  obtain ⟨ρ, e⟩ := p1 hd o (w := 0 + (i : Nat)) (by omega) (by omega)
  simp only [Int.zero_add] at e
  simp [lcTurn, e]
theorem pB_ok {S x1 x2 x7 x9 : FB.Slot} {P R w0 : PyData} {W : List PyData} {d : PyData} (hw : atI W 0 = some w0) (hd : d ∈ oddP) (h7 : pl x7) :
    pB (Z S x1 x2 (.sh (.list W)) (.sh P) (.sh R) (.sh d) x7 .no x9) = .ok .nx (Z S x1 x2 (.sh (.list W)) (.sh P) (.sh R) (.sh d) (.sh w0) .no x9) := by
  have it : itO (Z S x1 x2 (.sh (.list W)) (.sh P) (.sh R) (.sh d) x7 .no x9) = .ok [.none, R, w0] (Z S x1 x2 (.sh (.list W)) (.sh P) (.sh R) (.sh d) x7 .no x9) := by simp [hw]
  have b1 : bName 7 .none (Z S x1 x2 (.sh (.list W)) (.sh P) (.sh R) (.sh d) x7 .no x9) = some (Z S x1 x2 (.sh (.list W)) (.sh P) (.sh R) (.sh d) (.sh .none) .no x9) := by simp [h7.i]
  have b2 : bName 7 R (Z S x1 x2 (.sh (.list W)) (.sh P) (.sh R) (.sh d) (.sh .none) .no x9) = some (Z S x1 x2 (.sh (.list W)) (.sh P) (.sh R) (.sh d) (.sh R) .no x9) := by simp
  have b3 : bName 7 w0 (Z S x1 x2 (.sh (.list W)) (.sh P) (.sh R) (.sh d) (.sh R) .no x9) = some (Z S x1 x2 (.sh (.list W)) (.sh P) (.sh R) (.sh d) (.sh w0) .no x9) := by simp
  exact (gFor_of it).trans ((forG_step b1 (pI_ok hd)).trans ((forG_step b2 (pI_ok hd)).trans ((forG_step b3 (pI_ok hd)).trans rfl)))
theorem pLoop {S x1 x2 x9 : FB.Slot} {P R w0 : PyData} {W : List PyData} (hw : atI W 0 = some w0) : ∀ (ds : List PyData), (∀ d ∈ ds, d ∈ oddP) → ∀ x6 x7 : FB.Slot, pl x6 → pl x7 →
    ∃ y6 y7 : FB.Slot, pl y6 ∧ pl y7 ∧ forG (bName 6) pB ds (Z S x1 x2 (.sh (.list W)) (.sh P) (.sh R) x6 x7 .no x9) = .ok .nx (Z S x1 x2 (.sh (.list W)) (.sh P) (.sh R) y6 y7 .no x9)
  | [], _, x6, x7, h6, h7 => ⟨x6, x7, h6, h7, rfl⟩
  | d :: r, hd, x6, x7, h6, h7 => by
    obtain ⟨y6, y7, q6, q7, e⟩ := pLoop (S := S) (x1 := x1) (x2 := x2) (x9 := x9) (P := P) (R := R) hw r (fun x hx => hd x (List.mem_cons_of_mem _ hx)) (.sh d) (.sh w0) (.inr ⟨_, rfl⟩) (.inr ⟨_, rfl⟩)
    have eb : bName 6 d (Z S x1 x2 (.sh (.list W)) (.sh P) (.sh R) x6 x7 .no x9) = some (Z S x1 x2 (.sh (.list W)) (.sh P) (.sh R) (.sh d) x7 .no x9) := by simp [h6.i]
    exact ⟨y6, y7, q6, q7, (forG_step eb (pB_ok hw (hd d (List.mem_cons_self ..)) h7)).trans e⟩
theorem rB_ok {S x1 x2 x3 x5 x7 x9 : FB.Slot} {P d : PyData} (hP : ∃ ρ, G_check_program [.sh P] = .ok (.d .none) ρ) (hd : d ∈ oddR) : rB (Z S x1 x2 x3 (.sh P) x5 (.sh d) x7 .no x9) = .ok .nx (Z S x1 x2 x3 (.sh P) x5 (.sh d) x7 .no x9) := by
  obtain ⟨ρ1, e1⟩ := hP
  obtain ⟨ρ2, e2⟩ := x_of (List.all_eq_true.mp oddR_all d hd)
  obtain ⟨ρ3, e3⟩ := run_x e1 e2
  obtain ⟨ρ4, e4⟩ := steps_x e1 e2
  obtain ⟨ρ5, e5⟩ := t_of (raises_0 e3)
  obtain ⟨ρ6, e6⟩ := t_of (raises_1 e4)
  refine allG_ok (ds := [.int 0, .int 1]) (by simp) (by decide) fun w hw => ?_
  simp only [List.mem_cons, List.not_mem_nil, or_false] at hw
  rcases hw with rfl | rfl
  · simp [lcTurn, e5]
  · simp [lcTurn, e6]
theorem rLoop {S x1 x2 x3 x5 x7 x9 : FB.Slot} {P : PyData} (hP : ∃ ρ, G_check_program [.sh P] = .ok (.d .none) ρ) : ∀ (ds : List PyData), (∀ d ∈ ds, d ∈ oddR) → ∀ x6 : FB.Slot, pl x6 →
    ∃ y6 : FB.Slot, pl y6 ∧ forG (bName 6) rB ds (Z S x1 x2 x3 (.sh P) x5 x6 x7 .no x9) = .ok .nx (Z S x1 x2 x3 (.sh P) x5 y6 x7 .no x9)
  | [], _, x6, h6 => ⟨x6, h6, rfl⟩
  | d :: r, hd, x6, h6 => by
    obtain ⟨y6, q6, e⟩ := rLoop (S := S) (x1 := x1) (x2 := x2) (x3 := x3) (x5 := x5) (x7 := x7) (x9 := x9) hP r (fun x hx => hd x (List.mem_cons_of_mem _ hx)) (.sh d) (.inr ⟨_, rfl⟩)
    have eb : bName 6 d (Z S x1 x2 x3 (.sh P) x5 x6 x7 .no x9) = some (Z S x1 x2 x3 (.sh P) x5 (.sh d) x7 .no x9) := by simp [h6.i]
    exact ⟨y6, q6, (forG_step eb (rB_ok hP (hd d (List.mem_cons_self ..)))).trans e⟩
theorem wB_ok {S x1 x2 x3 x5 x7 x9 : FB.Slot} {P d : PyData} (hP : ∃ ρ, G_check_program [.sh P] = .ok (.d .none) ρ) (hd : d ∈ oddW) : wB (Z S x1 x2 x3 (.sh P) x5 (.sh d) x7 .no x9) = .ok .nx (Z S x1 x2 x3 (.sh P) x5 (.sh d) x7 .no x9) := by
  obtain ⟨ρ1, e1⟩ := hP
  obtain ⟨ρ2, e2⟩ := x_of (List.all_eq_true.mp oddW_all d hd)
  obtain ⟨ρ3, e3⟩ := fate_x e1 e2
  obtain ⟨ρ4, e4⟩ := t_of (raises_2 e3)
  simp [e4]
theorem wLoop {S x1 x2 x3 x5 x7 x9 : FB.Slot} {P : PyData} (hP : ∃ ρ, G_check_program [.sh P] = .ok (.d .none) ρ) : ∀ (ds : List PyData), (∀ d ∈ ds, d ∈ oddW) → ∀ x6 : FB.Slot, pl x6 →
    ∃ y6 : FB.Slot, pl y6 ∧ forG (bName 6) wB ds (Z S x1 x2 x3 (.sh P) x5 x6 x7 .no x9) = .ok .nx (Z S x1 x2 x3 (.sh P) x5 y6 x7 .no x9)
  | [], _, x6, h6 => ⟨x6, h6, rfl⟩
  | d :: r, hd, x6, h6 => by
    obtain ⟨y6, q6, e⟩ := wLoop (S := S) (x1 := x1) (x2 := x2) (x3 := x3) (x5 := x5) (x7 := x7) (x9 := x9) hP r (fun x hx => hd x (List.mem_cons_of_mem _ hx)) (.sh d) (.inr ⟨_, rfl⟩)
    have eb : bName 6 d (Z S x1 x2 x3 (.sh P) x5 x6 x7 .no x9) = some (Z S x1 x2 x3 (.sh P) x5 (.sh d) x7 .no x9) := by simp [h6.i]
    exact ⟨y6, q6, (forG_step eb (wB_ok hP (hd d (List.mem_cons_self ..)))).trans e⟩
def odd13 : List PyData := [.none, .bool true, .int 0, .str "", .str "A", .str "a b", .str "aaaaaaaaa", .list [.str "a"], .tuple [.str "a"], .str "a1", .dict [], .str "a\n", .str "ab-c"]
def odd16 : List PyData := odd13 ++ [.str "item2", .str "topLeft", .str "|"]
theorem repA : repS "a" 9 = "aaaaaaaaa" := by decide +kernel
theorem set9_ok {S x1 x2 x3 x4 x5 x6 x7 x9 : FB.Slot} (h9 : x9.isI = false) : set9 (Z S x1 x2 x3 x4 x5 x6 x7 .no x9) = .ok .nx (Z S x1 x2 x3 x4 x5 x6 x7 .no (.ol odd13)) := by
  have l : ("a" : Str).length = 1 := by decide +kernel
  simp [h9, repA, odd13, l]
theorem add9_ok {S x1 x2 x3 x4 x5 x6 x7 : FB.Slot} : add9 (Z S x1 x2 x3 x4 x5 x6 x7 .no (.ol odd13)) = .ok .nx (Z S x1 x2 x3 x4 x5 x6 x7 .no (.ol odd16)) := by
  have l : odd13.length = 13 := rfl
  simp [l, odd16]
theorem itW_ok {S x1 x2 x3 x4 x5 x6 x7 : FB.Slot} : itW (Z S x1 x2 x3 x4 x5 x6 x7 .no (.ol odd16)) = .ok oddW (Z S x1 x2 x3 x4 x5 x6 x7 .no (.ol odd16)) := by
  have l : odd16.length = 16 := rfl
  have e : odd16 ++ [PyData.str "a~", .str "my_tab", .str "ab "] = oddW := rfl
  simp [l, e]
theorem tl_ok {S x1 x2 x6 x7 x9 : FB.Slot} {P R w0 : PyData} {W : List PyData} (hP : ∃ ρ, G_check_program [.sh P] = .ok (.d .none) ρ) (hw : atI W 0 = some w0) (h6 : pl x6) (h7 : pl x7) (h9 : x9.isI = false) :
    ∃ y6 y7 : FB.Slot, pl y6 ∧ pl y7 ∧ tl (Z S x1 x2 (.sh (.list W)) (.sh P) (.sh R) x6 x7 .no x9) = .ok .nx (Z S x1 x2 (.sh (.list W)) (.sh P) (.sh R) y6 y7 .no (.ol odd16)) := by
  obtain ⟨ρp, ep⟩ := oddP_nw
  obtain ⟨ρr, er⟩ := oddR_nw
  obtain ⟨y6, y7, q6, q7, e1⟩ := pLoop (S := S) (x1 := x1) (x2 := x2) (x9 := x9) (P := P) (R := R) hw oddP (fun _ h => h) x6 x7 h6 h7
  obtain ⟨z6, r6, e2⟩ := rLoop (S := S) (x1 := x1) (x2 := x2) (x3 := .sh (.list W)) (x5 := .sh R) (x7 := y7) (x9 := x9) hP oddR (fun _ h => h) y6 q6
  obtain ⟨u6, s6, e3⟩ := wLoop (S := S) (x1 := x1) (x2 := x2) (x3 := .sh (.list W)) (x5 := .sh R) (x7 := y7) (x9 := .ol odd16) hP oddW (fun _ h => h) z6 r6
  have i1 : iA (eCall0 G__law_odd_programs) (Z S x1 x2 (.sh (.list W)) (.sh P) (.sh R) x6 x7 .no x9) = .ok oddP (Z S x1 x2 (.sh (.list W)) (.sh P) (.sh R) x6 x7 .no x9) := by simp [eCall0, ep]
  have i2 : iA (eCall0 G__law_odd_rows) (Z S x1 x2 (.sh (.list W)) (.sh P) (.sh R) y6 y7 .no x9) = .ok oddR (Z S x1 x2 (.sh (.list W)) (.sh P) (.sh R) y6 y7 .no x9) := by simp [eCall0, er]
  exact ⟨u6, y7, s6, q7, (gSeq_nx ((gFor_of i1).trans e1)).trans ((gSeq_nx ((gFor_of i2).trans e2)).trans ((gSeq_nx (set9_ok h9)).trans ((gSeq_nx add9_ok).trans ((gFor_of itW_ok).trans e3))))⟩
end
theorem t_loop {ns : List Int} : ∀ (ds : List D), (∀ d ∈ ds, ∃ i : Int, d = .int i ∧ 0 ≤ i ∧ i ≤ 10) → ∀ (x1 x2 x3 x4 x5 x6 x7 x9 : FB.Slot), x1.isI = false → x2.isI = false → x3.isI = false → x4.isI = false → x5.isI = false → pl x6 → pl x7 → x9.isI = false →
    ∃ (y1 y2 y3 y4 y5 y6 y7 y9 : FB.Slot), forG (bName 1) ltB ds (Z (.sh (.list (ns.map .int))) x1 x2 x3 x4 x5 x6 x7 .no x9) = .ok .nx (Z (.sh (.list (ns.map .int))) y1 y2 y3 y4 y5 y6 y7 .no y9)
  | [], _, x1, x2, x3, x4, x5, x6, x7, x9, _, _, _, _, _, _, _, _ => ⟨x1, x2, x3, x4, x5, x6, x7, x9, rfl⟩
  | d :: r, hd, x1, x2, x3, x4, x5, x6, x7, x9, h1, h2, h3, h4, h5, h6, h7, h9 => by
    obtain ⟨i, rfl, i0, i1⟩ := hd d (List.mem_cons_self ..)
    obtain ⟨c, ρc, ec⟩ := cell_spec ns i0 i1
    obtain ⟨n1, ws, ρw, w1, w2, w3, w4, ew⟩ := words_spec c (m := 8) (by decide) (by decide)
    obtain ⟨n2, ps, ρp, p1, p2, ep⟩ := program_spec n1 (ws := ws) w3 (by omega) (M := 9) (by decide)
    obtain ⟨n3, fs, ρr, f1, f2, f3, er⟩ := rowd_spec n2 (ws := ws) w2 (by omega)
    have vp : VP ps := ⟨fun p hp => ⟨(p1 p hp).1, some_ws _ (w1 _ (p1 p hp).2)⟩, by omega, few_sub (fun p hp => (p1 p hp).2) (by omega)⟩
    obtain ⟨w0, hw0, _⟩ := atI_in (l := ws.map PyData.str) (i := 0) (by decide) (by
      have := List.length_pos_iff.mpr w3
      rw [List.length_map]
      omega)
    have c9 : ((9 : Nat) : Int) = 9 := rfl
    rw [c9] at ep
    obtain ⟨S, eS⟩ : ∃ S, S = PyData.list (ns.map .int) := ⟨_, rfl⟩
    have ck := checkp_spec vp
    obtain ⟨P, eP⟩ : ∃ P, P = ps.map mkOp := ⟨_, rfl⟩
    obtain ⟨W, eW⟩ : ∃ W, W = ws.map PyData.str := ⟨_, rfl⟩
    obtain ⟨R, eR⟩ : ∃ R, R = fs.map PyData.str := ⟨_, rfl⟩
    rw [← eP] at ep ck
    rw [← eW] at ew ep er hw0
    rw [← eR] at er
    rw [← eS] at ec
    obtain ⟨z6, z7, q6, q7, et⟩ := tl_ok (S := .sh S) (x1 := .sh (.int i)) (x2 := .ol [.int n3]) (R := .tuple R) ck hw0 h6 h7 h9
    obtain ⟨y1, y2, y3, y4, y5, y6, y7, y9, e⟩ := t_loop (ns := ns) r (fun x hx => hd x (List.mem_cons_of_mem _ hx)) (.sh (.int i)) (.ol [.int n3]) (.sh (.list W)) (.sh (.list P)) (.sh (.tuple R)) z6 z7 (.ol odd16) rfl rfl rfl rfl rfl q6 q7 rfl
    refine ⟨y1, y2, y3, y4, y5, y6, y7, y9, ?_⟩
    rw [← eS] at e ⊢
    have i6 := h6.i
    have eb : bName 1 (.int i) (Z (.sh S) x1 x2 x3 x4 x5 x6 x7 .no x9) = some (Z (.sh S) (.sh (.int i)) x2 x3 x4 x5 x6 x7 .no x9) := by simp [h1]
    have b1 : set2 (Z (.sh S) (.sh (.int i)) x2 x3 x4 x5 x6 x7 .no x9) = .ok .nx (Z (.sh S) (.sh (.int i)) (.ol [.int c]) x3 x4 x5 x6 x7 .no x9) := by
      simp [ec, h2]
    have b2 : set3 (Z (.sh S) (.sh (.int i)) (.ol [.int c]) x3 x4 x5 x6 x7 .no x9) = .ok .nx (Z (.sh S) (.sh (.int i)) (.ol [.int n1]) (.ol W) x4 x5 x6 x7 .no x9) := by
      simp [ew, h3]
    have b3 : set45 (Z (.sh S) (.sh (.int i)) (.ol [.int n1]) (.ol W) x4 x5 x6 x7 .no x9) = .ok .nx (Z (.sh S) (.sh (.int i)) (.ol [.int n3]) (.sh (.list W)) (.sh (.list P)) (.sh (.tuple R)) x6 x7 .no x9) := by
      simp [ep, er, h4, h5]
    exact (forG_step eb ((gSeq_nx b1).trans ((gSeq_nx b2).trans ((gSeq_nx b3).trans et)))).trans e
theorem law_ok (ns : List Int) : ∃ ρ, G_law [.sh (.list (ns.map .int))] = .ok (.d (.bool true)) ρ := by
  have hm : ∀ d ∈ intsD 0 (max (min (ns.length : Int) 3) 1).toNat, ∃ i : Int, d = .int i ∧ 0 ≤ i ∧ i ≤ 10 := fun d hd => by
    obtain ⟨i, hi, rfl⟩ := List.mem_map.mp hd
    have := List.mem_range.mp hi
    exact ⟨_, rfl, by omega, by omega⟩
  obtain ⟨y1, y2, y3, y4, y5, y6, y7, y9, e⟩ := t_loop (ns := ns) _ hm .no .no .no .no .no .no .no .no rfl rfl rfl rfl rfl (.inl rfl) (.inl rfl) rfl
  have l0 : law_0 (Z (.sh (.list (ns.map .int))) .no .no .no .no .no .no .no .no .no) = .ok .nx (Z (.sh (.list (ns.map .int))) y1 y2 y3 y4 y5 y6 y7 .no y9) := by
    refine (gFor_of ?_).trans e
    have hb : -100000 ≤ max (min (ns.length : Int) 3) 1 ∧ max (min (ns.length : Int) 3) 1 ≤ 100000 := by omega
    have q1 : (if (3 : Int) < (ns.length : Int) then (3 : Int) else (ns.length : Int)) = min (ns.length : Int) 3 := by split <;> omega
    have q2 : (if min (ns.length : Int) 3 < 1 then (1 : Int) else min (ns.length : Int) 3) = max (min (ns.length : Int) 3) 1 := by split <;> omega
    simp [q1, q2, hb]
  refine ⟨Z (.sh (.list (ns.map .int))) y1 y2 y3 y4 y5 y6 y7 .no y9, funG_rt (ρ0 := Z (.sh (.list (ns.map .int))) .no .no .no .no .no .no .no .no .no) rfl ?_⟩
  rw [law_is]
  refine (gSeq_nx l0).trans ?_
  simp
end Pk03
set_option maxHeartbeats 0
namespace Pk03
open PySem PySem.Spec L2 FB
/-! ### the head -/
def d__law_take : He.DefD := ⟨("_law_take", none), "_law_take", "_law_take", defArgs s__law_take, defBody s__law_take, defScope s__law_take, [], []⟩
def d__law_words : He.DefD := ⟨("_law_words", none), "_law_words", "_law_words", defArgs s__law_words, defBody s__law_words, defScope s__law_words, [], []⟩
def d__law_odd_programs : He.DefD := ⟨("_law_odd_programs", none), "_law_odd_programs", "_law_odd_programs", defArgs s__law_odd_programs, defBody s__law_odd_programs, defScope s__law_odd_programs, [], []⟩
def d__law_odd_rows : He.DefD := ⟨("_law_odd_rows", none), "_law_odd_rows", "_law_odd_rows", defArgs s__law_odd_rows, defBody s__law_odd_rows, defScope s__law_odd_rows, [], []⟩
def d__law_mixed : He.DefD := ⟨("_law_mixed", none), "_law_mixed", "_law_mixed", defArgs s__law_mixed, defBody s__law_mixed, defScope s__law_mixed, [], []⟩
def d__law_cell : He.DefD := ⟨("_law_cell", none), "_law_cell", "_law_cell", defArgs s__law_cell, defBody s__law_cell, defScope s__law_cell, [], []⟩
def d__law_program : He.DefD := ⟨("_law_program", none), "_law_program", "_law_program", defArgs s__law_program, defBody s__law_program, defScope s__law_program, [], []⟩
def d__law_row : He.DefD := ⟨("_law_row", none), "_law_row", "_law_row", defArgs s__law_row, defBody s__law_row, defScope s__law_row, [], []⟩
def d_is_word : He.DefD := ⟨("is_word", none), "is_word", "is_word", defArgs s_is_word, defBody s_is_word, defScope s_is_word, [], []⟩
def d_is_operation : He.DefD := ⟨("is_operation", none), "is_operation", "is_operation", defArgs s_is_operation, defBody s_is_operation, defScope s_is_operation, [], []⟩
def d_is_program : He.DefD := ⟨("is_program", none), "is_program", "is_program", defArgs s_is_program, defBody s_is_program, defScope s_is_program, [], []⟩
def d_check_program : He.DefD := ⟨("check_program", none), "check_program", "check_program", defArgs s_check_program, defBody s_check_program, defScope s_check_program, [], []⟩
def d_is_row : He.DefD := ⟨("is_row", none), "is_row", "is_row", defArgs s_is_row, defBody s_is_row, defScope s_is_row, [], []⟩
def d_check_row : He.DefD := ⟨("check_row", none), "check_row", "check_row", defArgs s_check_row, defBody s_check_row, defScope s_check_row, [], []⟩
def d_holds : He.DefD := ⟨("holds", none), "holds", "holds", defArgs s_holds, defBody s_holds, defScope s_holds, [], []⟩
def d_after : He.DefD := ⟨("after", none), "after", "after", defArgs s_after, defBody s_after, defScope s_after, [], []⟩
def d_run : He.DefD := ⟨("run", none), "run", "run", defArgs s_run, defBody s_run, defScope s_run, [], []⟩
def d__law_only : He.DefD := ⟨("_law_only", none), "_law_only", "_law_only", defArgs s__law_only, defBody s__law_only, defScope s__law_only, [], []⟩
def d_steps : He.DefD := ⟨("steps", none), "steps", "steps", defArgs s_steps, defBody s_steps, defScope s_steps, [], []⟩
def d_check_word : He.DefD := ⟨("check_word", none), "check_word", "check_word", defArgs s_check_word, defBody s_check_word, defScope s_check_word, [], []⟩
def d_last_place : He.DefD := ⟨("last_place", none), "last_place", "last_place", defArgs s_last_place, defBody s_last_place, defScope s_last_place, [], []⟩
def d_fate : He.DefD := ⟨("fate", none), "fate", "fate", defArgs s_fate, defBody s_fate, defScope s_fate, [], []⟩
def d__law_raises : He.DefD := ⟨("_law_raises", none), "_law_raises", "_law_raises", defArgs s__law_raises, defBody s__law_raises, defScope s__law_raises, [], []⟩
def d_law : He.DefD := ⟨("law", none), "law", "law", defArgs s_law, defBody s_law, defScope s_law, [], []⟩
def hFn : List He.DefD := [d__law_take, d__law_words, d__law_odd_programs, d__law_odd_rows, d__law_mixed, d__law_cell, d__law_program, d__law_row, d_is_word, d_is_operation, d_is_program, d_check_program, d_is_row, d_check_row, d_holds, d_after, d_run, d__law_only, d_steps, d_check_word, d_last_place, d_fate, d__law_raises, d_law]
def hFa : List He.Fa := bltNames.map He.Fa.free ++ [.glo "_law_take", .glo "_law_words", .glo "_law_odd_programs", .glo "_law_odd_rows", .glo "_law_mixed", .glo "_law_cell", .glo "_law_program", .glo "_law_row", .glo "is_word", .int "MOST_LETTERS" 8, .str "LETTERS" "abcdefghijklmnopqrstuvwxyz", .glo "is_operation", .glo "MOVES", .glo "is_program", .int "MOST_OPERATIONS" 60, .int "MOST_PROGRAM_WORDS" 12, .glo "check_program", .glo "is_row", .int "MOST_ROW_WORDS" 20, .glo "check_row", .glo "holds", .glo "after", .glo "run", .glo "_law_only", .glo "InvalidProgram", .glo "InvalidRows", .glo "InvalidRow", .glo "InvalidWord", .glo "InvalidOperation", .glo "InvalidMeaning", .glo "InvalidNames", .glo "InvalidFences", .glo "InvalidNumber", .glo "InvalidText", .glo "InvalidResults", .glo "TooLarge", .glo "NothingToUndo", .glo "NoSource", .glo "NoProgram", .glo "Locked", .glo "FrontBackError", .free "ValueError", .glo "steps", .glo "check_word", .glo "last_place", .glo "fate", .glo "_law_raises", .glo "law"]
def hTs : List He.Tab := [(fun K => He.ga K "MOVES", t_MOVES.map (·.1))]
def hExL (K : PySem.W.Frag) : List Bool := [tabB K "MOVES" t_MOVES, errB K "InvalidProgram", errB K "InvalidRow", isEB K (.ref (He.ga K "InvalidProgram")) mi_InvalidProgram, isEB K (.ref (He.ga K "InvalidRows")) mi_InvalidRows, isEB K (.ref (He.ga K "InvalidRow")) mi_InvalidRow, isEB K (.ref (He.ga K "InvalidWord")) mi_InvalidWord, isEB K (.ref (He.ga K "InvalidOperation")) mi_InvalidOperation, isEB K (.ref (He.ga K "InvalidMeaning")) mi_InvalidMeaning, isEB K (.ref (He.ga K "InvalidNames")) mi_InvalidNames, isEB K (.ref (He.ga K "InvalidFences")) mi_InvalidFences, isEB K (.ref (He.ga K "InvalidNumber")) mi_InvalidNumber, isEB K (.ref (He.ga K "InvalidText")) mi_InvalidText, isEB K (.ref (He.ga K "InvalidResults")) mi_InvalidResults, isEB K (.ref (He.ga K "TooLarge")) mi_TooLarge, isEB K (.ref (He.ga K "NothingToUndo")) mi_NothingToUndo, isEB K (.ref (He.ga K "NoSource")) mi_NoSource, isEB K (.ref (He.ga K "NoProgram")) mi_NoProgram, isEB K (.ref (He.ga K "Locked")) mi_Locked, isEB K (.ref (He.ga K "FrontBackError")) mi_FrontBackError, isEB K (.type "ValueError") mi_ValueError, errB K "InvalidWord", errB K "FrontBackError", hdlB K (He.ga K "FrontBackError") mh_FrontBackError, nstB K (.ref (He.ga K "InvalidProgram")), nstB K (.ref (He.ga K "InvalidRow"))]
def hEx (K : PySem.W.Frag) : Bool := (hExL K).all id
theorem facts {P : Program} {w : World} {K : PySem.W.Frag} {h : Heap} {mg : Str → Option Value} {f : Addr} (X : K.In h) (Gn : h.Ns mainGlobals mg) (hfa : mg ("law" : Str) = some (.ref f)) (c : He.SaysT hFa hFn hTs w K) (hx0 : hEx K = true) :
    ∃ fd : FuncData, (∀ (s : Shared) (v : Value), BindsTo s fd ⟨[v], []⟩ [("script", v)]) ∧ ∀ base : Heap, K.In base → base.Ns mainGlobals mg → FnG P w K mg base 9 f fd ["script"] (spOf K mg G_law 1) := by
  have cd := c.d
  have B : Blts mg := blts_of X Gn cd
  have hx : (hExL K).all id = true := hx0
  have T_MOVES : Tab K w mg "MOVES" t_MOVES := tab_ok (He.glo_ok X Gn (cd.fact 30 (f := .glo "MOVES") rfl)) (saysT_dic c 0) (exAt hx 0 rfl)
  obtain ⟨fd__law_take, F__law_take⟩ := cd.def_ 0 (d := d__law_take) rfl
  have g__law_take : mg "_law_take" = some (.ref (He.ga K "_law_take")) := He.glo_ok X Gn (cd.fact 18 (f := .glo "_law_take") rfl)
  obtain ⟨fd__law_words, F__law_words⟩ := cd.def_ 1 (d := d__law_words) rfl
  have g__law_words : mg "_law_words" = some (.ref (He.ga K "_law_words")) := He.glo_ok X Gn (cd.fact 19 (f := .glo "_law_words") rfl)
  obtain ⟨fd__law_odd_programs, F__law_odd_programs⟩ := cd.def_ 2 (d := d__law_odd_programs) rfl
  have g__law_odd_programs : mg "_law_odd_programs" = some (.ref (He.ga K "_law_odd_programs")) := He.glo_ok X Gn (cd.fact 20 (f := .glo "_law_odd_programs") rfl)
  obtain ⟨fd__law_odd_rows, F__law_odd_rows⟩ := cd.def_ 3 (d := d__law_odd_rows) rfl
  have g__law_odd_rows : mg "_law_odd_rows" = some (.ref (He.ga K "_law_odd_rows")) := He.glo_ok X Gn (cd.fact 21 (f := .glo "_law_odd_rows") rfl)
  obtain ⟨fd__law_mixed, F__law_mixed⟩ := cd.def_ 4 (d := d__law_mixed) rfl
  have g__law_mixed : mg "_law_mixed" = some (.ref (He.ga K "_law_mixed")) := He.glo_ok X Gn (cd.fact 22 (f := .glo "_law_mixed") rfl)
  obtain ⟨fd__law_cell, F__law_cell⟩ := cd.def_ 5 (d := d__law_cell) rfl
  have g__law_cell : mg "_law_cell" = some (.ref (He.ga K "_law_cell")) := He.glo_ok X Gn (cd.fact 23 (f := .glo "_law_cell") rfl)
  obtain ⟨fd__law_program, F__law_program⟩ := cd.def_ 6 (d := d__law_program) rfl
  have g__law_program : mg "_law_program" = some (.ref (He.ga K "_law_program")) := He.glo_ok X Gn (cd.fact 24 (f := .glo "_law_program") rfl)
  obtain ⟨fd__law_row, F__law_row⟩ := cd.def_ 7 (d := d__law_row) rfl
  have g__law_row : mg "_law_row" = some (.ref (He.ga K "_law_row")) := He.glo_ok X Gn (cd.fact 25 (f := .glo "_law_row") rfl)
  obtain ⟨fd_is_word, F_is_word⟩ := cd.def_ 8 (d := d_is_word) rfl
  have g_is_word : mg "is_word" = some (.ref (He.ga K "is_word")) := He.glo_ok X Gn (cd.fact 26 (f := .glo "is_word") rfl)
  obtain ⟨fd_is_operation, F_is_operation⟩ := cd.def_ 9 (d := d_is_operation) rfl
  have g_is_operation : mg "is_operation" = some (.ref (He.ga K "is_operation")) := He.glo_ok X Gn (cd.fact 29 (f := .glo "is_operation") rfl)
  obtain ⟨fd_is_program, F_is_program⟩ := cd.def_ 10 (d := d_is_program) rfl
  have g_is_program : mg "is_program" = some (.ref (He.ga K "is_program")) := He.glo_ok X Gn (cd.fact 31 (f := .glo "is_program") rfl)
  obtain ⟨fd_check_program, F_check_program⟩ := cd.def_ 11 (d := d_check_program) rfl
  have g_check_program : mg "check_program" = some (.ref (He.ga K "check_program")) := He.glo_ok X Gn (cd.fact 34 (f := .glo "check_program") rfl)
  obtain ⟨fd_is_row, F_is_row⟩ := cd.def_ 12 (d := d_is_row) rfl
  have g_is_row : mg "is_row" = some (.ref (He.ga K "is_row")) := He.glo_ok X Gn (cd.fact 35 (f := .glo "is_row") rfl)
  obtain ⟨fd_check_row, F_check_row⟩ := cd.def_ 13 (d := d_check_row) rfl
  have g_check_row : mg "check_row" = some (.ref (He.ga K "check_row")) := He.glo_ok X Gn (cd.fact 37 (f := .glo "check_row") rfl)
  obtain ⟨fd_holds, F_holds⟩ := cd.def_ 14 (d := d_holds) rfl
  have g_holds : mg "holds" = some (.ref (He.ga K "holds")) := He.glo_ok X Gn (cd.fact 38 (f := .glo "holds") rfl)
  obtain ⟨fd_after, F_after⟩ := cd.def_ 15 (d := d_after) rfl
  have g_after : mg "after" = some (.ref (He.ga K "after")) := He.glo_ok X Gn (cd.fact 39 (f := .glo "after") rfl)
  obtain ⟨fd_run, F_run⟩ := cd.def_ 16 (d := d_run) rfl
  have g_run : mg "run" = some (.ref (He.ga K "run")) := He.glo_ok X Gn (cd.fact 40 (f := .glo "run") rfl)
  obtain ⟨fd__law_only, F__law_only⟩ := cd.def_ 17 (d := d__law_only) rfl
  have g__law_only : mg "_law_only" = some (.ref (He.ga K "_law_only")) := He.glo_ok X Gn (cd.fact 41 (f := .glo "_law_only") rfl)
  obtain ⟨fd_steps, F_steps⟩ := cd.def_ 18 (d := d_steps) rfl
  have g_steps : mg "steps" = some (.ref (He.ga K "steps")) := He.glo_ok X Gn (cd.fact 60 (f := .glo "steps") rfl)
  obtain ⟨fd_check_word, F_check_word⟩ := cd.def_ 19 (d := d_check_word) rfl
  have g_check_word : mg "check_word" = some (.ref (He.ga K "check_word")) := He.glo_ok X Gn (cd.fact 61 (f := .glo "check_word") rfl)
  obtain ⟨fd_last_place, F_last_place⟩ := cd.def_ 20 (d := d_last_place) rfl
  have g_last_place : mg "last_place" = some (.ref (He.ga K "last_place")) := He.glo_ok X Gn (cd.fact 62 (f := .glo "last_place") rfl)
  obtain ⟨fd_fate, F_fate⟩ := cd.def_ 21 (d := d_fate) rfl
  have g_fate : mg "fate" = some (.ref (He.ga K "fate")) := He.glo_ok X Gn (cd.fact 63 (f := .glo "fate") rfl)
  obtain ⟨fd__law_raises, F__law_raises⟩ := cd.def_ 22 (d := d__law_raises) rfl
  have g__law_raises : mg "_law_raises" = some (.ref (He.ga K "_law_raises")) := He.glo_ok X Gn (cd.fact 64 (f := .glo "_law_raises") rfl)
  obtain ⟨fd_law, F_law⟩ := cd.def_ 23 (d := d_law) rfl
  have g_law : mg "law" = some (.ref (He.ga K "law")) := He.glo_ok X Gn (cd.fact 65 (f := .glo "law") rfl)
  have e := hfa.symm.trans g_law
  cases e
  refine ⟨fd_law, fun s v => FunD.bindsA (ps := ["script"]) F_law (fun _ _ _ _ _ _ us hl => match us, hl with | [_], _ => rfl) s [v] rfl, fun base _ _ => ?_⟩
  have C__law_take : ∀ k, 1 ≤ k → Cl P w K mg base k "_law_take" ["digits", "size"] G__law_take := fun k hk => ⟨_, _, (ok__law_take (fun_ofD F__law_take) B ).mono hk, F__law_take.kp, FunD.bindsN F__law_take (fun _ _ _ _ _ _ us hl => match us, hl with | [_, _], _ => rfl), g__law_take⟩
  have C__law_words : ∀ k, 2 ≤ k → Cl P w K mg base k "_law_words" ["digits", "most"] G__law_words := fun k hk => ⟨_, _, (ok__law_words (fun_ofD F__law_words) B (C__law_take _ (by decide))).mono hk, F__law_words.kp, FunD.bindsN F__law_words (fun _ _ _ _ _ _ us hl => match us, hl with | [_, _], _ => rfl), g__law_words⟩
  have C__law_odd_programs : ∀ k, 1 ≤ k → Cl P w K mg base k "_law_odd_programs" [] G__law_odd_programs := fun k hk => ⟨_, _, (ok__law_odd_programs (fun_ofD F__law_odd_programs) B ).mono hk, F__law_odd_programs.kp, FunD.bindsN F__law_odd_programs (fun _ _ _ _ _ _ us hl => match us, hl with | [], _ => rfl), g__law_odd_programs⟩
  have C__law_odd_rows : ∀ k, 1 ≤ k → Cl P w K mg base k "_law_odd_rows" [] G__law_odd_rows := fun k hk => ⟨_, _, (ok__law_odd_rows (fun_ofD F__law_odd_rows) B ).mono hk, F__law_odd_rows.kp, FunD.bindsN F__law_odd_rows (fun _ _ _ _ _ _ us hl => match us, hl with | [], _ => rfl), g__law_odd_rows⟩
  have C__law_mixed : ∀ k, 1 ≤ k → Cl P w K mg base k "_law_mixed" ["cell", "k"] G__law_mixed := fun k hk => ⟨_, _, (ok__law_mixed (fun_ofD F__law_mixed) B ).mono hk, F__law_mixed.kp, FunD.bindsN F__law_mixed (fun _ _ _ _ _ _ us hl => match us, hl with | [_, _], _ => rfl), g__law_mixed⟩
  have C__law_cell : ∀ k, 2 ≤ k → Cl P w K mg base k "_law_cell" ["script", "k"] G__law_cell := fun k hk => ⟨_, _, (ok__law_cell (fun_ofD F__law_cell) B (C__law_mixed _ (by decide))).mono hk, F__law_cell.kp, FunD.bindsN F__law_cell (fun _ _ _ _ _ _ us hl => match us, hl with | [_, _], _ => rfl), g__law_cell⟩
  have C__law_program : ∀ k, 2 ≤ k → Cl P w K mg base k "_law_program" ["digits", "words", "most"] G__law_program := fun k hk => ⟨_, _, (ok__law_program (fun_ofD F__law_program) B (C__law_take _ (by decide))).mono hk, F__law_program.kp, FunD.bindsN F__law_program (fun _ _ _ _ _ _ us hl => match us, hl with | [_, _, _], _ => rfl), g__law_program⟩
  have C__law_row : ∀ k, 2 ≤ k → Cl P w K mg base k "_law_row" ["digits", "words"] G__law_row := fun k hk => ⟨_, _, (ok__law_row (fun_ofD F__law_row) B (C__law_take _ (by decide))).mono hk, F__law_row.kp, FunD.bindsN F__law_row (fun _ _ _ _ _ _ us hl => match us, hl with | [_, _], _ => rfl), g__law_row⟩
  have C_is_word : ∀ k, 1 ≤ k → Cl P w K mg base k "is_word" ["value"] G_is_word := fun k hk => ⟨_, _, (ok_is_word (fun_ofD F_is_word) B (He.int_ok X Gn (cd.fact 27 (f := .int "MOST_LETTERS" 8) rfl)) (He.str_ok X Gn (cd.fact 28 (f := .str "LETTERS" "abcdefghijklmnopqrstuvwxyz") rfl))).mono hk, F_is_word.kp, FunD.bindsN F_is_word (fun _ _ _ _ _ _ us hl => match us, hl with | [_], _ => rfl), g_is_word⟩
  have C_is_operation : ∀ k, 2 ≤ k → Cl P w K mg base k "is_operation" ["value"] G_is_operation := fun k hk => ⟨_, _, (ok_is_operation (fun_ofD F_is_operation) B T_MOVES (C_is_word _ (by decide))).mono hk, F_is_operation.kp, FunD.bindsN F_is_operation (fun _ _ _ _ _ _ us hl => match us, hl with | [_], _ => rfl), g_is_operation⟩
  have C_is_program : ∀ k, 3 ≤ k → Cl P w K mg base k "is_program" ["value"] G_is_program := fun k hk => ⟨_, _, (ok_is_program (fun_ofD F_is_program) B (He.int_ok X Gn (cd.fact 32 (f := .int "MOST_OPERATIONS" 60) rfl)) (He.int_ok X Gn (cd.fact 33 (f := .int "MOST_PROGRAM_WORDS" 12) rfl)) (C_is_operation _ (by decide))).mono hk, F_is_program.kp, FunD.bindsN F_is_program (fun _ _ _ _ _ _ us hl => match us, hl with | [_], _ => rfl), g_is_program⟩
  have C_check_program : ∀ k, 4 ≤ k → Cl P w K mg base k "check_program" ["program"] G_check_program := fun k hk => ⟨_, _, (ok_check_program (fun_ofD F_check_program) B (errC_of X Gn (exAt hx 1 rfl)) (C_is_program _ (by decide))).mono hk, F_check_program.kp, FunD.bindsN F_check_program (fun _ _ _ _ _ _ us hl => match us, hl with | [_], _ => rfl), g_check_program⟩
  have C_is_row : ∀ k, 2 ≤ k → Cl P w K mg base k "is_row" ["value"] G_is_row := fun k hk => ⟨_, _, (ok_is_row (fun_ofD F_is_row) B (He.int_ok X Gn (cd.fact 36 (f := .int "MOST_ROW_WORDS" 20) rfl)) (C_is_word _ (by decide))).mono hk, F_is_row.kp, FunD.bindsN F_is_row (fun _ _ _ _ _ _ us hl => match us, hl with | [_], _ => rfl), g_is_row⟩
  have C_check_row : ∀ k, 3 ≤ k → Cl P w K mg base k "check_row" ["row"] G_check_row := fun k hk => ⟨_, _, (ok_check_row (fun_ofD F_check_row) B (errC_of X Gn (exAt hx 2 rfl)) (C_is_row _ (by decide))).mono hk, F_check_row.kp, FunD.bindsN F_check_row (fun _ _ _ _ _ _ us hl => match us, hl with | [_], _ => rfl), g_check_row⟩
  have C_holds : ∀ k, 1 ≤ k → Cl P w K mg base k "holds" ["case", "present"] G_holds := fun k hk => ⟨_, _, (ok_holds (fun_ofD F_holds) B ).mono hk, F_holds.kp, FunD.bindsN F_holds (fun _ _ _ _ _ _ us hl => match us, hl with | [_, _], _ => rfl), g_holds⟩
  have C_after : ∀ k, 2 ≤ k → Cl P w K mg base k "after" ["row", "operation"] G_after := fun k hk => ⟨_, _, (ok_after (fun_ofD F_after) B T_MOVES (C_holds _ (by decide))).mono hk, F_after.kp, FunD.bindsN F_after (fun _ _ _ _ _ _ us hl => match us, hl with | [_, _], _ => rfl), g_after⟩
  have C_run : ∀ k, 5 ≤ k → Cl P w K mg base k "run" ["program", "row"] G_run := fun k hk => ⟨_, _, (ok_run (fun_ofD F_run) B (C_check_program _ (by decide)) (C_check_row _ (by decide)) (C_after _ (by decide))).mono hk, F_run.kp, FunD.bindsN F_run (fun _ _ _ _ _ _ us hl => match us, hl with | [_, _], _ => rfl), g_run⟩
  have C__law_only : ∀ k, 1 ≤ k → Cl P w K mg base k "_law_only" ["error", "name"] G__law_only := fun k hk => ⟨_, _, (ok__law_only (fun_ofD F__law_only) B (He.glo_ok X Gn (cd.fact 42 (f := .glo "InvalidProgram") rfl)) (isE_of (exAt hx 3 rfl)) (He.glo_ok X Gn (cd.fact 43 (f := .glo "InvalidRows") rfl)) (isE_of (exAt hx 4 rfl)) (He.glo_ok X Gn (cd.fact 44 (f := .glo "InvalidRow") rfl)) (isE_of (exAt hx 5 rfl)) (He.glo_ok X Gn (cd.fact 45 (f := .glo "InvalidWord") rfl)) (isE_of (exAt hx 6 rfl)) (He.glo_ok X Gn (cd.fact 46 (f := .glo "InvalidOperation") rfl)) (isE_of (exAt hx 7 rfl)) (He.glo_ok X Gn (cd.fact 47 (f := .glo "InvalidMeaning") rfl)) (isE_of (exAt hx 8 rfl)) (He.glo_ok X Gn (cd.fact 48 (f := .glo "InvalidNames") rfl)) (isE_of (exAt hx 9 rfl)) (He.glo_ok X Gn (cd.fact 49 (f := .glo "InvalidFences") rfl)) (isE_of (exAt hx 10 rfl)) (He.glo_ok X Gn (cd.fact 50 (f := .glo "InvalidNumber") rfl)) (isE_of (exAt hx 11 rfl)) (He.glo_ok X Gn (cd.fact 51 (f := .glo "InvalidText") rfl)) (isE_of (exAt hx 12 rfl)) (He.glo_ok X Gn (cd.fact 52 (f := .glo "InvalidResults") rfl)) (isE_of (exAt hx 13 rfl)) (He.glo_ok X Gn (cd.fact 53 (f := .glo "TooLarge") rfl)) (isE_of (exAt hx 14 rfl)) (He.glo_ok X Gn (cd.fact 54 (f := .glo "NothingToUndo") rfl)) (isE_of (exAt hx 15 rfl)) (He.glo_ok X Gn (cd.fact 55 (f := .glo "NoSource") rfl)) (isE_of (exAt hx 16 rfl)) (He.glo_ok X Gn (cd.fact 56 (f := .glo "NoProgram") rfl)) (isE_of (exAt hx 17 rfl)) (He.glo_ok X Gn (cd.fact 57 (f := .glo "Locked") rfl)) (isE_of (exAt hx 18 rfl)) (He.glo_ok X Gn (cd.fact 58 (f := .glo "FrontBackError") rfl)) (isE_of (exAt hx 19 rfl)) (He.free_ok X Gn (cd.fact 59 (f := .free "ValueError") rfl)) (isE_of (exAt hx 20 rfl))).mono hk, F__law_only.kp, FunD.bindsN F__law_only (fun _ _ _ _ _ _ us hl => match us, hl with | [_, _], _ => rfl), g__law_only⟩
  have X__law_only : ∀ k, 1 ≤ k → ClX P w K mg base k "_law_only" ["error", "name"] G__law_only := fun k hk => ⟨_, _, (okc__law_only (fun_ofD F__law_only) B (He.glo_ok X Gn (cd.fact 42 (f := .glo "InvalidProgram") rfl)) (isE_of (exAt hx 3 rfl)) (He.glo_ok X Gn (cd.fact 43 (f := .glo "InvalidRows") rfl)) (isE_of (exAt hx 4 rfl)) (He.glo_ok X Gn (cd.fact 44 (f := .glo "InvalidRow") rfl)) (isE_of (exAt hx 5 rfl)) (He.glo_ok X Gn (cd.fact 45 (f := .glo "InvalidWord") rfl)) (isE_of (exAt hx 6 rfl)) (He.glo_ok X Gn (cd.fact 46 (f := .glo "InvalidOperation") rfl)) (isE_of (exAt hx 7 rfl)) (He.glo_ok X Gn (cd.fact 47 (f := .glo "InvalidMeaning") rfl)) (isE_of (exAt hx 8 rfl)) (He.glo_ok X Gn (cd.fact 48 (f := .glo "InvalidNames") rfl)) (isE_of (exAt hx 9 rfl)) (He.glo_ok X Gn (cd.fact 49 (f := .glo "InvalidFences") rfl)) (isE_of (exAt hx 10 rfl)) (He.glo_ok X Gn (cd.fact 50 (f := .glo "InvalidNumber") rfl)) (isE_of (exAt hx 11 rfl)) (He.glo_ok X Gn (cd.fact 51 (f := .glo "InvalidText") rfl)) (isE_of (exAt hx 12 rfl)) (He.glo_ok X Gn (cd.fact 52 (f := .glo "InvalidResults") rfl)) (isE_of (exAt hx 13 rfl)) (He.glo_ok X Gn (cd.fact 53 (f := .glo "TooLarge") rfl)) (isE_of (exAt hx 14 rfl)) (He.glo_ok X Gn (cd.fact 54 (f := .glo "NothingToUndo") rfl)) (isE_of (exAt hx 15 rfl)) (He.glo_ok X Gn (cd.fact 55 (f := .glo "NoSource") rfl)) (isE_of (exAt hx 16 rfl)) (He.glo_ok X Gn (cd.fact 56 (f := .glo "NoProgram") rfl)) (isE_of (exAt hx 17 rfl)) (He.glo_ok X Gn (cd.fact 57 (f := .glo "Locked") rfl)) (isE_of (exAt hx 18 rfl)) (He.glo_ok X Gn (cd.fact 58 (f := .glo "FrontBackError") rfl)) (isE_of (exAt hx 19 rfl)) (He.free_ok X Gn (cd.fact 59 (f := .free "ValueError") rfl)) (isE_of (exAt hx 20 rfl))).mono hk, F__law_only.kp, FunD.bindsN F__law_only (fun _ _ _ _ _ _ us hl => match us, hl with | [_, _], _ => rfl), g__law_only⟩
  have GC_steps : ∀ k, 5 ≤ k → ClGx P w K mg base k "steps" ["program", "row"] G_steps := fun k hk => ⟨_, _, (okx_steps (fun_ofD F_steps) B (C_check_row _ (by decide)) (C_check_program _ (by decide))).mono hk, F_steps.kp, FunD.bindsN F_steps (fun _ _ _ _ _ _ us hl => match us, hl with | [_, _], _ => rfl), g_steps⟩
  have C_check_word : ∀ k, 2 ≤ k → Cl P w K mg base k "check_word" ["word"] G_check_word := fun k hk => ⟨_, _, (ok_check_word (fun_ofD F_check_word) B (errC_of X Gn (exAt hx 21 rfl)) (C_is_word _ (by decide))).mono hk, F_check_word.kp, FunD.bindsN F_check_word (fun _ _ _ _ _ _ us hl => match us, hl with | [_], _ => rfl), g_check_word⟩
  have C_last_place : ∀ k, 2 ≤ k → Cl P w K mg base k "last_place" ["program", "word", "place"] G_last_place := fun k hk => ⟨_, _, (ok_last_place (fun_ofD F_last_place) B T_MOVES (C_holds _ (by decide))).mono hk, F_last_place.kp, FunD.bindsN F_last_place (fun _ _ _ _ _ _ us hl => match us, hl with | [_, _, _], _ => rfl), g_last_place⟩
  have C_fate : ∀ k, 5 ≤ k → Cl P w K mg base k "fate" ["program", "word"] G_fate := fun k hk => ⟨_, _, (ok_fate (fun_ofD F_fate) B (C_check_program _ (by decide)) (C_check_word _ (by decide)) (C_last_place _ (by decide))).mono hk, F_fate.kp, FunD.bindsN F_fate (fun _ _ _ _ _ _ us hl => match us, hl with | [_, _], _ => rfl), g_fate⟩
  have C__law_raises : ∀ k, 8 ≤ k → Cl P w K mg base k "_law_raises" ["which", "one", "other", "name"] G__law_raises := fun k hk => ⟨_, _, (ok__law_raises (fun_ofD F__law_raises) B (errC_of X Gn (exAt hx 22 rfl)) (hdl_of X Gn (exAt hx 23 rfl)) ⟨_, He.glo_ok X Gn (cd.fact 42 (f := .glo "InvalidProgram") rfl), nst_of (exAt hx 24 rfl)⟩ ⟨_, He.glo_ok X Gn (cd.fact 44 (f := .glo "InvalidRow") rfl), nst_of (exAt hx 25 rfl)⟩ (C_run _ (by decide)) (C_fate _ (by decide)) (X__law_only _ (by decide)) (GC_steps _ (by decide))).mono hk, F__law_raises.kp, FunD.bindsN F__law_raises (fun _ _ _ _ _ _ us hl => match us, hl with | [_, _, _, _], _ => rfl), g__law_raises⟩
  exact ok_law (fun_ofD F_law) B (C__law_cell _ (by decide)) (C__law_words _ (by decide)) (C__law_row _ (by decide)) (C__law_program _ (by decide)) (C__law_odd_programs _ (by decide)) (C__law_raises _ (by decide)) (C__law_odd_rows _ (by decide))
end Pk03
open PySem PySem.W PySem.Calls PyProof.Rows
theorem PySem.Challenge.cw_frontback_k03_errors_of_rows_holds : PySem.Challenge.rw_frontback_k03_errors_of_rows.Holds := by
  w_on; o_law; k_head; (case hw => w_witness2)
  k_fill
  refine FB.walk_G (l := PySem.Challenge.rw_frontback_k03_errors_of_rows) (n := 63) (k := 9) (x := "script") (G := Pk03.G_law) rfl (by decide) rfl ⟨rfl, by decide, by decide⟩ (fun w h Y => PySem.W.kIn_of Y) ?F (fun ns hl => Pk03.law_ok ns)
  case F =>
    intro w mg fa h KX G hmg
    refine Pk03.facts KX G hmg ?c ?x
    case c => show He.obsT Pk03.hFa Pk03.hFn Pk03.hTs _ = He.valT Pk03.hFn Pk03.hTs w; kernel_rfl
    case x => kernel_rfl
