import PyProof.Rows.All
import Wide.All
import OpenK.AllK
import Wide.FinOn
import KE.KExcInit
import HandS.ForMost
import HandS.Exc
import HandS.ExcOwn
import HandS.ExcInit
import HandS.ExcValue
import HandS.IsInst
import HandS.ExcIs
import KE.KExcIs
import HandS.MakeKwOnly
import HandS.SetFor
import HandS.RaiseMore
import KE.KxIndex
import HandS.Wide
import PySem.Challenge.RW_linestream_k36_errors_and_limits
set_option Elab.async false
set_option linter.all false
set_option maxRecDepth 100000
set_option maxHeartbeats 5000000
namespace XK
open PySem PySem.W PySem.Calls PySem.HandSPX
section
variable {pg : Program} {w : World} {A : Around} {E : Value → Shared → Prop} {R : Result → Shared → Prop} {h : Heap} {gs : Array GenState} {dr : Drawn} {tk0 : Nat} {ost : OsState}
variable {nam q : Str} {C N : Addr} {bss bml bmb : List Value} {hdc : Bool} {snl : List Str} {subc : List Value} {abst : Bool} {coll : Option Bool} {ddc : Option Addr} {k0 k1 k2 k3 k5 : Option Value} {B nid iid : String}
variable {us : List Value} {kw : List (Str × Value)}
theorem free_check {B : String} {a b : String} {n : Nat} {names : List Str} :
    Bind.check ⟨.any, B, B, .cls, [⟨"args", .varPos, false⟩, ⟨"kwargs", .varKw, false⟩]⟩ a b n names = pure () := by
  cases names with
  | nil => rfl
  | cons x r => rfl
theorem new_checked {M : Model} (F : ExcBaseFacts B nid iid bmb) (hT : ∀ X : String, bml.contains (.type X) = bmb.contains (.type X)) {Q : Unit → Shared → Prop}
    (hC : h.get? C = some (excClassObj nam q C N bss bml hdc snl subc abst coll ddc k0 k1 k2 k3 k5 nid)) (hq : Q () ⟨h, gs, dr, tk0, ost⟩) :
    wpAny M A (checkBuiltinCall nid ⟨.ref C :: us, kw⟩) Q E ⟨h, gs, dr, tk0, ost⟩ := by
  have c1 : (Value.ref C :: bml).contains (.type B) = true := by
    rw [List.contains_cons, hT, F.hasB, Bool.or_true]
  have c2 := F.noStar
  simp only [F.newKind, F.newSplit, F.newRow,
    checkBuiltinCall]
  repeat (first
    | refine wpAny_loadPart_at hC ?_
    | (refine wpAny_isSubtype_exc hC ?_; rw [c1])
    | refine wpAny_staticBase_exc hC ?_
    | refine wpAny_madeBy_exc hC ?_
    | simp only [bne_self_eq_false, Bool.false_eq_true, if_false]
    | wp_step)
  exact hq
/-- the object is laid, behind the tuple of what was passed by position -/
theorem new_laid (F : ExcBaseFacts B nid iid bmb) (hT : ∀ X : String, bml.contains (.type X) = bmb.contains (.type X)) (hu : us.length ≤ sizeLine)
    (hC : h.get? C = some (excClassObj nam q C N bss bml hdc snl subc abst coll ddc k0 k1 k2 k3 k5 nid))
    (hq : R (.ok (.ret (.ref (h.objs.size + 1)))) ⟨(h.push (kdv_tup us)).push (excO C h.objs.size), gs, dr, tk0, ost⟩) :
    codeAny (model pg w) A (.builtin nid ⟨.ref C :: us, kw⟩) R ⟨h, gs, dr, tk0, ost⟩ := by
  have ends := F.ends
  have c1 : (Value.ref C :: bml).contains (.type B) = true := by
    rw [List.contains_cons, hT, F.hasB, Bool.or_true]
  have c2 : (Value.ref C :: bml).contains (.type "AttributeError") = false := by
    rw [List.contains_cons, hT, F.noAttr]
    rfl
  have c3 : (Value.ref C :: bml).contains (.type "NameError") = false := by
    rw [List.contains_cons, hT, F.noName]
    rfl
  refine codeAny_builtinAt
    F.entry ?_
  unfold
    Builtin.«BaseException.__new__»
  refine wpAt_bind ?_
  show wpAt _ _ _ (stack >>= _)
    _ _ _
  refine wpAt_bind (wpAt_stack fun pp qq => wpAt_of_wpAny ?_)
  wp_walk
  refine wpAt_of_wpAny ?_
  rw [F.owner]
  repeat (first
    | with_reducible refine wpAny_madeHere_exc F.canon hC ?_
    | with_reducible refine wpAny_loadPart_at hC ?_
    | (with_reducible refine wpAny_isSubtype_exc hC ?_
       first | rw [c1] | rw [c2] | rw [c3])
    | wp_step)
  show R _ _
  rw [Heap.size_push]
  exact hq
theorem type_called {fI : Addr} {Q : Fin → Shared → Prop} (F : ExcBaseFacts B nid iid bmb) (hT : ∀ X : String, bml.contains (.type X) = bmb.contains (.type X)) (hu : us.length ≤ sizeLine)
    (hC : h.get? C = some (excClassObj nam q C N bss bml hdc snl subc abst coll ddc k0 k1 k2 k3 k5 nid))
    (hi : Looks (model pg w) h (typeLookup (.ref C) "__init__") (some (.ref fI)))
    (hb : ∀ self, Looks (model pg w) h (bindSpecial (.ref fI) self) (.ref fI, [self]))
    (hq : codeAny (model pg w) A (.call (.ref fI) ⟨.ref (h.objs.size + 1) :: us, kw⟩)
      (fun res s' => match res with | .ok (.ret v) => v = .none ∧ Q (.done (.ret (.ref (h.objs.size + 1)))) s' | .ok _ => False | .error e => E e s')
      ⟨(h.push (kdv_tup us)).push (excO C h.objs.size), gs, dr, tk0, ost⟩) :
    wpAny (model pg w) A (Builtin.«type.__call__» ⟨.ref C :: us, kw⟩) Q E ⟨h, gs, dr, tk0, ost⟩ := by
  repeat (first
    | with_reducible refine wpAny_loadPart_at hC ?_
    | with_reducible refine wpAny_madeBy_exc hC ?_
    | wp_step)
  refine codeAny_call_builtin_code (Code.quiet_builtin _ F.quiet) (new_checked F hT hC ?_)
  refine new_laid F hT hu hC ?_
  show wpAny _ _ _ _ _ _
  have kk : ∀ b o, h.get? b = some o → ((h.push (kdv_tup us)).push (excO C h.objs.size)).get? b = some o := fun b o e =>
    Heap.get?_push_of_some _ (Heap.get?_push_of_some _ e)
  have got : ((h.push (kdv_tup us)).push (excO C h.objs.size)).get? (h.objs.size + 1) = some (excO C h.objs.size) := by heap_get
  have gotC := kk _ _ hC
  have self : (Value.ref C :: bml).contains (.ref C) = true := by simp
  have i1 := hi.keeps kk
  have b1 := (hb (.ref (h.objs.size + 1))).keeps kk
  unfold isInstance
  repeat (first
    | with_reducible refine wpAny_loadPart_at got ?_
    | (with_reducible refine wpAny_isSubtype_exc gotC ?_
       rw [self])
    | wp_step)
  show wpAny _ _ (typeLookup (.ref C) _)
    _ _ _
  refine i1.at (wpAny_holding (wpAny_bind (b1.at ?_)))
  refine wpAny_bind (wpAny_call (codeAny_mono hq fun res s' z => ?_))
  rcases res with er | (vv | _ | _ | _) <;> first | exact z | exact z.elim | skip
  obtain ⟨rfl, z⟩ := z
  first
    | exact wpAny_pure
        (wpAny_pure z)
    | (wp_walk; exact z)
theorem called {fI : Addr} (F : ExcBaseFacts B nid iid bmb) (hT : ∀ X : String, bml.contains (.type X) = bmb.contains (.type X)) (hu : us.length ≤ sizeLine)
    (hC : h.get? C = some (excClassObj nam q C N bss bml hdc snl subc abst coll ddc k0 k1 k2 k3 k5 nid))
    (hi : Looks (model pg w) h (typeLookup (.ref C) "__init__") (some (.ref fI)))
    (hb : ∀ self, Looks (model pg w) h (bindSpecial (.ref fI) self) (.ref fI, [self]))
    (hq : codeAny (model pg w) (A.under (.builtin "type.__call__" ⟨.ref C :: us, kw⟩)) (.call (.ref fI) ⟨.ref (h.objs.size + 1) :: us, kw⟩) (InitBack (h.objs.size + 1) R)
      ⟨(h.push (kdv_tup us)).push (excO C h.objs.size), gs, dr, tk0, ost⟩) :
    codeAny (model pg w) A (.call (.ref C) ⟨us, kw⟩) R ⟨h, gs, dr, tk0, ost⟩ := by
  have f1 := tc_lookup
  have f2 := tc_bind (.ref C)
  have isT : (⟨h, gs, dr, tk0, ost⟩ : Shared).TypeIs (.ref C) "type" := ⟨_, hC, rfl⟩
  refine codeAny_of_tree ?_
  show wpAny _ _ (callAny (.ref C) _)
    _ _ _
  repeat (any_goals (first
    | assumption
    | with_reducible refine wpAny_loadPart_at hC ?_
    | wp_step))
  refine ⟨rfl, ?_⟩
  refine codeAny_call_builtin_at (Code.quiet_builtin _ (by decide +kernel)) entry_typeCall (wpAny_check_type_call_sub hC (type_called F hT hu hC hi hb ?_))
  refine codeAny_mono hq fun res s' z => ?_
  rcases res with er | (vv | _ | _ | _) <;> exact z
end
/-! ### self.f = v on an exception of any built-in base, that has no dict yet -/
section
open Builtin.ObjectAttr Builtin
variable {pg : Program} {w : World} {A : Around} {E : Value → Shared → Prop} {R : Result → Shared → Prop} {hpz : Heap} {gs : Array GenState} {dr : Drawn} {tk0 : Nat} {ost : OsState}
variable {K : Frag} {name : Str} {tk : Tok} {v : Value} {x C dx : Addr} {fv : Array Value} {cd : ClassData} {bmb : List Value}
/-- what a class over a built-in exception says of stores -/
structure Opn (cd : ClassData) : Prop where
  ne : cd.mro.isEmpty = false
  ob : cd.mro.contains (.type "object") = true
  ps : ∀ self : Value, refuseLoop self "__setattr__" cd.mro = pure ()
  hd : cd.hasDict = true
theorem first_field (X : K.In hpz) (hx : hpz.get? x = some { cls := .ref C, data := .fields fv }) (hcd : clsIn K C = some cd) (O : Opn cd) (ha : findIn K (.ref C) name = some none)
    (hq : ∀ h' tk' dx, (∀ b o, b ≠ x → hpz.get? b = some o → h'.get? b = some o) → hpz.objs.size ≤ dx → dx ≠ x → h'.get? x = some { cls := .ref C, dict := some dx, data := .fields fv } →
      h'.Ns1 dx (fun y => if y = name then some v else none) → R (.ok (.ret .none)) ⟨h', gs, dr, tk', ost⟩) :
    codeAny (model pg w) A (.call (.builtin "object.__setattr__") ⟨[.ref x, .str name tk, v], []⟩) R ⟨hpz, gs, dr, tk0, ost⟩ := by
  have J : InstAt hpz x { cls := .ref C, data := .fields fv } C none := ⟨hx, rfl, rfl, trivial⟩
  have S := F.store_object
  have far : x ≠ hpz.objs.size := Nat.ne_of_lt (Heap.lt_size hx)
  have subc : Looks (model pg w) hpz (isInstance (.ref x) (.type "object")) true :=
    J.type.andThen (looks_mroIn X (by
      unfold mroIn
      rw [hcd, Option.bind_some, if_neg (by rw [O.ne]; decide), O.ob]))
  refine codeAny_call_builtin S.slot.plain S.entry ?_
  refine @check_slot (model pg w) _ _ ⟨hpz, gs, dr, tk0, ost⟩ "object.__setattr__" "object" "__setattr__" (.ref x) [.str name tk, v] [] _ S.kind S.split subc (S.args (.ref x) (.str name tk) v) ?_
  have m1 : Looks (model pg w) hpz (mroOf (.ref C)) cd.mro := (looks_clsIn X hcd).andThen .now
  have m2 : Looks (model pg w) hpz (storeTaker? none) none := .now
  have m3 : Looks (model pg w) hpz (classData C) cd := looks_clsIn X hcd
  rw [osa_eq, refuse_eq]
  refine wpAny_bind (wpAny_bind (J.type.at (wpAny_bind (m1.at ?_))))
  rw [O.ps]
  refine wpAny_pure (wpAny_bind (J.type.at (wpAny_bind ((looks_findIn X ha).at (wpAny_bind (m2.at ?_))))))
  show wpAny _ _ (storeInOwnDict (.ref x) (.ref C) (.str name tk) name v false)
    _ _ _
  have hh := O.hd
  obtain ⟨nam, bss, mro, ns, qn, hdd, snl, sb, abst, coll, del⟩ := cd
  dsimp only at hh
  subst hh
  unfold storeInOwnDict
    ownDictForStores
  repeat (first
    | with_reducible refine store_in_new ?_ ?_
    | with_reducible refine wpAny_loadPart_at hx ?_
    | with_reducible refine m3.at ?_
    | wp_step)
  · refine ⟨_, #[], _, (Heap.get?_update_ne _ _ _ _ far.symm).trans (Heap.get?_push_at rfl rfl), rfl, fun e he => absurd he (by simp), fun _ => rfl⟩
  · intro h' tk' hn' same
    have hx₁ : (hpz.push { cls := .type "dict", data := .dict #[] }).get? x = some { cls := .ref C, data := .fields fv } := Heap.get?_push_of_some _ hx
    refine hq h' tk' hpz.objs.size (fun b o hb ho => ?_) (Nat.le_refl _) far.symm ?_ hn'
    · have e1 := same.2 b (Nat.ne_of_lt (Heap.lt_size ho))
      exact e1.trans ((Heap.get?_update_ne _ _ _ _ hb).trans (Heap.get?_push_of_some _ ho))
    · have e2 := same.2 x far
      exact e2.trans (Heap.get?_update_self _ hx₁ rfl)
theorem next_field {m0 : Str → Option Value} {nl : List Str} (X : K.In hpz) (hx : hpz.get? x = some { cls := .ref C, dict := some dx, data := .fields fv }) (hns : hpz.Ns1 dx m0) (hw : Within m0 nl) (hz : nl.length ≤ 1000)
    (hcd : clsIn K C = some cd) (O : Opn cd) (ha : findIn K (.ref C) name = some none)
    (hq : ∀ h' tk', (∀ b o, b ≠ dx → hpz.get? b = some o → h'.get? b = some o) → h'.Ns1 dx (fun y => if y = name then some v else m0 y) → R (.ok (.ret .none)) ⟨h', gs, dr, tk', ost⟩) :
    codeAny (model pg w) A (.call (.builtin "object.__setattr__") ⟨[.ref x, .str name tk, v], []⟩) R ⟨hpz, gs, dr, tk0, ost⟩ := by
  obtain ⟨oD, _, _, hoD, _, _⟩ := hns.count hw
  have J : InstAt hpz x { cls := .ref C, dict := some dx, data := .fields fv } C (some oD) := ⟨hx, rfl, rfl, hoD⟩
  have S := F.store_object
  have subc : Looks (model pg w) hpz (isInstance (.ref x) (.type "object")) true :=
    J.type.andThen (looks_mroIn X (by
      unfold mroIn
      rw [hcd, Option.bind_some, if_neg (by rw [O.ne]; decide), O.ob]))
  refine codeAny_call_builtin S.slot.plain S.entry ?_
  refine @check_slot (model pg w) _ _ ⟨hpz, gs, dr, tk0, ost⟩ "object.__setattr__" "object" "__setattr__" (.ref x) [.str name tk, v] [] _ S.kind S.split subc (S.args (.ref x) (.str name tk) v) ?_
  have m1 : Looks (model pg w) hpz (mroOf (.ref C)) cd.mro := (looks_clsIn X hcd).andThen .now
  have m2 : Looks (model pg w) hpz (storeTaker? none) none := .now
  have m3 : Looks (model pg w) hpz (classData C) cd := looks_clsIn X hcd
  rw [osa_eq, refuse_eq]
  refine wpAny_bind (wpAny_bind (J.type.at (wpAny_bind (m1.at ?_))))
  rw [O.ps]
  refine wpAny_pure (wpAny_bind (J.type.at (wpAny_bind ((looks_findIn X ha).at (wpAny_bind (m2.at ?_))))))
  show wpAny _ _ (storeInOwnDict (.ref x) (.ref C) (.str name tk) name v false)
    _ _ _
  have hh := O.hd
  obtain ⟨nam, bss, mro, ns, qn, hdd, snl, sb, abst, coll, del⟩ := cd
  dsimp only at hh
  subst hh
  unfold storeInOwnDict
    ownDictForStores
  repeat (first
    | with_reducible refine OEX.store_in_old hns hw hz ?_
    | with_reducible refine wpAny_loadPart_at hx ?_
    | with_reducible refine m3.at ?_
    | wp_step)
  intro h' tk' hn' same
  exact hq h' tk' (fun b o hb ho => (same.2 b hb).trans ho) hn'
end
end XK

set_option maxRecDepth 100000
set_option maxHeartbeats 4100000
namespace XK
open PySem PySem.W PySem.Calls PySem.HandSPX
open PyProof.Rows (envOfC)
/-! ### the text of an __init__ that keeps one field -/
def aOne (f : Str) (p1 p2 : Pos) : Arguments := { posonlyargs := [], args := [{ arg := "self", annotation := none, pos := p1 }, { arg := f, annotation := none, pos := p2 }], vararg := none, kwonlyargs := [], kw_defaults := [], kwarg := none, defaults := [] }
def bOne (f : Str) (q1 q2 q3 q4 : Pos) : List Stmt := [.Assign [.Attribute (.Name "self" q1) f q2] (.Name f q3) q4]
def sOne (f : Str) : Scope := { kind := .function, names := [(PySem.Str.ofString "self", .local), (f, .local)], isGenerator := false, isCoroutine := false, more := [] }
/-- what the written part says of an own exception class -/
structure XT (K : Frag) (C : Addr) : Prop where
  base : ∃ (B newId initId : String) (bmB : List Value), ExcBaseFacts B newId initId bmB ∧ excInitIn K C bmB newId = true
  opn : ∃ cd, clsIn K C = some cd ∧ Opn cd
  sa : findIn K (.ref C) "__setattr__" = some (some (.builtin "object.__setattr__"))
  ga : findIn K (.ref C) "__getattribute__" = some (some (.builtin "BaseException.__getattribute__"))
  gg : findIn K (.ref C) "__getattr__" = some none
  exC : subIn K (.ref C) (.type "BaseException") = some true
  kC : keepIn K (.ref C) = true
  hd : hasDictIn K C = true
  ac : findIn K (.ref C) "__class__" = some (some (.builtin "object.__class__"))
  gn : specialIn K (.builtin "object.__class__") "__get__" = some (some (.builtin "getset_descriptor.__get__"))
  tk : takesIn K (.builtin "object.__class__") = some true
  mo : mroIn K C (.type "object") = some true
/-- .. and of its __init__, which keeps the one field f -/
structure XI (K : Frag) (C : Addr) (f : Str) : Prop where
  noN : findIn K (.ref C) f = some none
  ne : f ≠ "self"
  fn : ∃ (fI : Addr) (qn : Str) (oc : Value) (od : Option Addr) (doc pm : Value) (an : Option Addr) (cdv ct : Value) (osl : Array (Option Value)) (p1 p2 q1 q2 q3 q4 : Pos),
    findIn K (.ref C) "__init__" = some (some (.ref fI)) ∧ typeIn K (.ref fI) = some (.type "function") ∧
    K.lookup fI = some ⟨oc, od, .func (fnOf "__init__" qn (aOne f p1 p2) (bOne f q1 q2 q3 q4) (sOne f) .none .none doc pm an cdv ct), osl⟩ ∧ codeIn K cdv qn = true ∧
    (∀ s x v, BindsTo s (fnOf "__init__" qn (aOne f p1 p2) (bOne f q1 q2 q3 q4) (sOne f) .none .none doc pm an cdv ct) ⟨[x, v], []⟩ [("self", x), (f, v)]) ∧
    (∀ s x v, BindsTo s (fnOf "__init__" qn (aOne f p1 p2) (bOne f q1 q2 q3 q4) (sOne f) .none .none doc pm an cdv ct) ⟨[x], [(f, v)]⟩ [("self", x), (f, v)])
theorem look_self (f : Str) : (sOne f).names.lookup ("self" : Str) = some NameKind.local := rfl
theorem look_f (f : Str) : (sOne f).names.lookup f = some NameKind.local := by
  show List.lookup f [(PySem.Str.ofString "self", NameKind.local), (f, NameKind.local)] = some .local
  by_cases h : f = PySem.Str.ofString "self"
  · rw [h]
    simp [List.lookup]
  · have e : (f == PySem.Str.ofString "self") = false := by simpa using h
    simp [List.lookup, e]
theorem load_local {M : Model} {s : Shared} {name : Str} {scope : Scope} {L a : Addr} {cd : Value} {m : Str → Option Value} {x : Str} {pos : Pos} {v : Value} {Q : Value → Shared → Prop} {A : Around} {E : Value → Shared → Prop}
    (hk : scope.kind = .function) (hl : scope.names.lookup x = some .local) (hd : (x == ("__debug__" : Str)) = false) (hn : s.heap.Ns L m) (hv : m x = some v) (h : Q v s) :
    wpAny M A (eval (.Name x pos) (envOfC name scope L a cd)) Q E s := wpAny_Name (wpAny_loadName_local hk hl hn hv h) hd
/-- a made exception: e, its own dict at d with the fields m -/
structure Made (h h' : Heap) (e C d : Addr) (m : Str → Option Value) : Prop where
  keep : ∀ b o, h.get? b = some o → h'.get? b = some o
  eb : h.objs.size ≤ e
  db : h.objs.size ≤ d
  ne : d ≠ e
  obj : ∃ t0 : Addr, h'.get? e = some ({ cls := .ref C, dict := some d, data := .fields #[.ref t0, .none, .none, .none, .bool false, .none] } : Obj)
  ns : h'.Ns1 d m
section
variable {prog : Program} {w : World} {A : Around} {E : Value → Shared → Prop} {R : Result → Shared → Prop} {s : Shared} {K : Frag} {C : Addr} {f : Str} {v : Value}
theorem made_one (T : XT K C) (I : XI K C f) (hdb : (f == ("__debug__" : Str)) = false) (X : K.In s.heap) (hlim : s.heap.NoLimit) (room : A.depth + 1 < recursionLimit) (us : List Value) (kw : List (Str × Value)) (hp : (us = [v] ∧ kw = []) ∨ (us = [] ∧ kw = [(f, v)]))
    (hq : ∀ h' tk e d, Made s.heap h' e C d (fun y => if y = f then some v else none) → R (.ok (.ret (.ref e))) { s with heap := h', toks := tk }) :
    codeAny (model prog w) A (.call (.ref C) ⟨us, kw⟩) R s := by
  obtain ⟨B, newId, initId, bmB, F, ini⟩ := T.base
  obtain ⟨cd, hcd, O⟩ := T.opn
  obtain ⟨fI, qn, oc, od, doc, pm, an, cdv, ct, osl, p1, p2, q1, q2, q3, q4, iC, tC, lf, co, b1, b2⟩ := I.fn
  obtain ⟨nm, N, q, bs, bm, hdct, sn, sub, ab, col, dd, k0, k1, k2, k3, k5, gC, hT⟩ := excInit_of X ini
  obtain ⟨hp0, g, dr, tk, os⟩ := s
  have ul : us.length ≤ sizeLine := by
    rcases hp with ⟨rfl, _⟩ | ⟨rfl, _⟩
    · show 1 ≤ sizeLine
      rw [sizeLine_eq]
      decide
    · exact Nat.zero_le _
  have bd : ∀ s x, BindsTo s (fnOf "__init__" qn (aOne f p1 p2) (bOne f q1 q2 q3 q4) (sOne f) .none .none doc pm an cdv ct) ⟨x :: us, kw⟩ [("self", x), (f, v)] := fun s x => by
    rcases hp with ⟨rfl, rfl⟩ | ⟨rfl, rfl⟩
    · exact b1 s x v
    · exact b2 s x v
  have k : ∀ b o, hp0.get? b = some o → ((hp0.push (kdv_tup us)).push (excO C hp0.objs.size)).get? b = some o := fun b o e => Heap.get?_push_of_some _ (Heap.get?_push_of_some _ e)
  have got : ((hp0.push (kdv_tup us)).push (excO C hp0.objs.size)).get? (hp0.objs.size + 1) = some (excO C hp0.objs.size) := by heap_get
  refine called F hT ul gC (looks_findIn X iC) (fun self => bind_fn X self tC) ?_
  have X1 := X.keeps k
  refine Att.call_fn (binds := [("self", .ref (hp0.objs.size + 1)), (f, v)]) (s := ⟨(hp0.push (kdv_tup us)).push (excO C hp0.objs.size), g, dr, tk, os⟩) X1 (hlim.keeps k) lf co ?_ (bd _ _) ?_ (fun s₁ IC => ?_) rfl rfl rfl
  · show A.depth + 1 < recursionLimit
    exact room
  · simp only [List.all_cons, List.all_nil, look_f f, Bool.and_true]
    rfl
  · obtain ⟨h₁, tk₁, rfl⟩ := IC.toInCall.same
    have k1 := IC.toInCall.keep
    have hn := IC.toInCall.ns
    have hx := k1 _ _ got
    have X2 : K.In h₁ := X1.keeps k1
    have e1 : (envOfC qn (sOne f) ((hp0.push (kdv_tup us)).push (excO C hp0.objs.size)).objs.size fI cdv).kindOf "self" = some .local := look_self f
    have e2 : (envOfC qn (sOne f) ((hp0.push (kdv_tup us)).push (excO C hp0.objs.size)).objs.size fI cdv).kindOf f = some .local := look_f f
    show wpAny _ _ (execs _ _) _ _ _
    refine wpAny_execs_cons (plainObj_wpAny_Assign_Attribute ?_)
    refine load_local (v := v) rfl (look_f f) hdb hn ?_ (load_local (v := .ref (hp0.objs.size + 1)) rfl (look_self f) (by decide) hn ?_ ?_)
    · simp only [bindL, e1, e2, if_true]
    · simp only [bindL, e1, e2, if_true]
      rw [if_neg (fun z => I.ne z.symm)]
    refine set_plain X2 (ox := excO C hp0.objs.size) (od := none) ⟨hx, rfl, rfl, trivial⟩ T.sa ?_
    refine first_field X2 hx hcd O I.noN fun h₃ tk₃ dx k₃ dn dne hx₃ hn₃ => ?_
    show wpAny _ _ (execs _ _) _ _ _
    have z0 : hp0.objs.size ≤ h₁.objs.size := Nat.le_of_lt (Nat.lt_of_succ_lt (show hp0.objs.size + 1 < h₁.objs.size from Heap.lt_size hx))
    refine wpAny_execs_nil ⟨rfl, hq h₃ tk₃ (hp0.objs.size + 1) dx ⟨fun b o e => ?_, Nat.le_succ _, Nat.le_trans z0 dn, dne, ⟨_, hx₃⟩, hn₃⟩⟩
    exact k₃ b o (Nat.ne_of_lt (Nat.lt_succ_of_lt (Heap.lt_size e))) (k1 _ _ (k _ _ e))
end
/-! ### two fields -/
def aTwo (f1 f2 : Str) (p1 p2 p3 : Pos) : Arguments := { posonlyargs := [], args := [{ arg := "self", annotation := none, pos := p1 }, { arg := f1, annotation := none, pos := p2 }, { arg := f2, annotation := none, pos := p3 }], vararg := none, kwonlyargs := [], kw_defaults := [], kwarg := none, defaults := [] }
def bTwo (f1 f2 : Str) (q1 q2 q3 q4 r1 r2 r3 r4 : Pos) : List Stmt := [.Assign [.Attribute (.Name "self" q1) f1 q2] (.Name f1 q3) q4, .Assign [.Attribute (.Name "self" r1) f2 r2] (.Name f2 r3) r4]
def sTwo (f1 f2 : Str) : Scope := { kind := .function, names := [(PySem.Str.ofString "self", .local), (f1, .local), (f2, .local)], isGenerator := false, isCoroutine := false, more := [] }
structure XJ (K : Frag) (C : Addr) (f1 f2 : Str) : Prop where
  no1 : findIn K (.ref C) f1 = some none
  no2 : findIn K (.ref C) f2 = some none
  ne1 : f1 ≠ "self"
  ne2 : f2 ≠ "self"
  ne : f1 ≠ f2
  fn : ∃ (fI : Addr) (qn : Str) (oc : Value) (od : Option Addr) (doc pm : Value) (an : Option Addr) (cdv ct : Value) (osl : Array (Option Value)) (p1 p2 p3 q1 q2 q3 q4 r1 r2 r3 r4 : Pos),
    findIn K (.ref C) "__init__" = some (some (.ref fI)) ∧ typeIn K (.ref fI) = some (.type "function") ∧
    K.lookup fI = some ⟨oc, od, .func (fnOf "__init__" qn (aTwo f1 f2 p1 p2 p3) (bTwo f1 f2 q1 q2 q3 q4 r1 r2 r3 r4) (sTwo f1 f2) .none .none doc pm an cdv ct), osl⟩ ∧ codeIn K cdv qn = true ∧
    (∀ s x u v, BindsTo s (fnOf "__init__" qn (aTwo f1 f2 p1 p2 p3) (bTwo f1 f2 q1 q2 q3 q4 r1 r2 r3 r4) (sTwo f1 f2) .none .none doc pm an cdv ct) ⟨[x, u, v], []⟩ [("self", x), (f1, u), (f2, v)]) ∧
    (∀ s x u v, BindsTo s (fnOf "__init__" qn (aTwo f1 f2 p1 p2 p3) (bTwo f1 f2 q1 q2 q3 q4 r1 r2 r3 r4) (sTwo f1 f2) .none .none doc pm an cdv ct) ⟨[x], [(f2, v), (f1, u)]⟩ [("self", x), (f1, u), (f2, v)])
theorem look2_self (f1 f2 : Str) : (sTwo f1 f2).names.lookup ("self" : Str) = some NameKind.local := rfl
theorem look2_1 (f1 f2 : Str) : (sTwo f1 f2).names.lookup f1 = some NameKind.local := by
  show List.lookup f1 [(PySem.Str.ofString "self", NameKind.local), (f1, NameKind.local), (f2, NameKind.local)] = some .local
  by_cases h : f1 = PySem.Str.ofString "self"
  · rw [h]
    simp [List.lookup]
  · have e : (f1 == PySem.Str.ofString "self") = false := by simpa using h
    simp [List.lookup, e]
theorem look2_2 (f1 f2 : Str) : (sTwo f1 f2).names.lookup f2 = some NameKind.local := by
  show List.lookup f2 [(PySem.Str.ofString "self", NameKind.local), (f1, NameKind.local), (f2, NameKind.local)] = some .local
  by_cases h : f2 = PySem.Str.ofString "self"
  · rw [h]
    simp [List.lookup]
  · have e : (f2 == PySem.Str.ofString "self") = false := by simpa using h
    by_cases h1 : f2 = f1
    · subst h1
      simp [List.lookup, e]
    · have e1 : (f2 == f1) = false := by simpa using h1
      simp [List.lookup, e, e1]
section
variable {prog : Program} {w : World} {A : Around} {E : Value → Shared → Prop} {R : Result → Shared → Prop} {s : Shared} {K : Frag} {C : Addr} {f1 f2 : Str} {u v : Value}
theorem made_two (T : XT K C) (I : XJ K C f1 f2) (hd1 : (f1 == ("__debug__" : Str)) = false) (hd2 : (f2 == ("__debug__" : Str)) = false) (X : K.In s.heap) (hlim : s.heap.NoLimit) (room : A.depth + 1 < recursionLimit) (us : List Value) (kw : List (Str × Value))
    (hp : (us = [u, v] ∧ kw = []) ∨ (us = [] ∧ kw = [(f2, v), (f1, u)]))
    (hq : ∀ h' tk e d, Made s.heap h' e C d (fun y => if y = f2 then some v else if y = f1 then some u else none) → R (.ok (.ret (.ref e))) { s with heap := h', toks := tk }) :
    codeAny (model prog w) A (.call (.ref C) ⟨us, kw⟩) R s := by
  obtain ⟨B, newId, initId, bmB, F, ini⟩ := T.base
  obtain ⟨cd, hcd, O⟩ := T.opn
  obtain ⟨fI, qn, oc, od, doc, pm, an, cdv, ct, osl, p1, p2, p3, q1, q2, q3, q4, r1, r2, r3, r4, iC, tC, lf, co, b1, b2⟩ := I.fn
  obtain ⟨nm, N, q, bs, bm, hdct, sn, sub, ab, col, dd, k0, k1, k2, k3, k5, gC, hT⟩ := excInit_of X ini
  obtain ⟨hp0, g, dr, tk, os⟩ := s
  have ul : us.length ≤ sizeLine := by
    rcases hp with ⟨rfl, _⟩ | ⟨rfl, _⟩
    · show 2 ≤ sizeLine
      rw [sizeLine_eq]
      decide
    · exact Nat.zero_le _
  have bd : ∀ s x, BindsTo s (fnOf "__init__" qn (aTwo f1 f2 p1 p2 p3) (bTwo f1 f2 q1 q2 q3 q4 r1 r2 r3 r4) (sTwo f1 f2) .none .none doc pm an cdv ct) ⟨x :: us, kw⟩ [("self", x), (f1, u), (f2, v)] := fun s x => by
    rcases hp with ⟨rfl, rfl⟩ | ⟨rfl, rfl⟩
    · exact b1 s x u v
    · exact b2 s x u v
  have k : ∀ b o, hp0.get? b = some o → ((hp0.push (kdv_tup us)).push (excO C hp0.objs.size)).get? b = some o := fun b o e => Heap.get?_push_of_some _ (Heap.get?_push_of_some _ e)
  have got : ((hp0.push (kdv_tup us)).push (excO C hp0.objs.size)).get? (hp0.objs.size + 1) = some (excO C hp0.objs.size) := by heap_get
  refine called F hT ul gC (looks_findIn X iC) (fun self => bind_fn X self tC) ?_
  have X1 := X.keeps k
  refine Att.call_fn (binds := [("self", .ref (hp0.objs.size + 1)), (f1, u), (f2, v)]) (s := ⟨(hp0.push (kdv_tup us)).push (excO C hp0.objs.size), g, dr, tk, os⟩) X1 (hlim.keeps k) lf co ?_ (bd _ _) ?_ (fun s₁ IC => ?_) rfl rfl rfl
  · show A.depth + 1 < recursionLimit
    exact room
  · simp only [List.all_cons, List.all_nil, look2_1 f1 f2, look2_2 f1 f2, Bool.and_true]
    rfl
  · obtain ⟨h₁, tk₁, rfl⟩ := IC.toInCall.same
    have k1 := IC.toInCall.keep
    have hn := IC.toInCall.ns
    have hx := k1 _ _ got
    have X2 : K.In h₁ := X1.keeps k1
    have e0 : (envOfC qn (sTwo f1 f2) ((hp0.push (kdv_tup us)).push (excO C hp0.objs.size)).objs.size fI cdv).kindOf "self" = some .local := look2_self f1 f2
    have e1 : (envOfC qn (sTwo f1 f2) ((hp0.push (kdv_tup us)).push (excO C hp0.objs.size)).objs.size fI cdv).kindOf f1 = some .local := look2_1 f1 f2
    have e2 : (envOfC qn (sTwo f1 f2) ((hp0.push (kdv_tup us)).push (excO C hp0.objs.size)).objs.size fI cdv).kindOf f2 = some .local := look2_2 f1 f2
    show wpAny _ _ (execs _ _) _ _ _
    refine wpAny_execs_cons (plainObj_wpAny_Assign_Attribute ?_)
    refine load_local (v := u) rfl (look2_1 f1 f2) hd1 hn ?_ (load_local (v := .ref (hp0.objs.size + 1)) rfl (look2_self f1 f2) (by decide) hn ?_ ?_)
    · simp only [bindL, e0, e1, e2, if_true]
      rw [if_neg I.ne]
    · simp only [bindL, e0, e1, e2, if_true]
      rw [if_neg (fun z => I.ne2 z.symm), if_neg (fun z => I.ne1 z.symm)]
    refine set_plain X2 (ox := excO C hp0.objs.size) (od := none) ⟨hx, rfl, rfl, trivial⟩ T.sa ?_
    refine first_field X2 hx hcd O I.no1 fun h₃ tk₃ dx k₃ dn dne hx₃ hn₃ => ?_
    have z1 : hp0.objs.size + 1 < h₁.objs.size := Heap.lt_size hx
    have z0 : hp0.objs.size ≤ h₁.objs.size := Nat.le_of_lt (Nat.lt_of_succ_lt z1)
    have nx : ∀ {b : Addr} {o : Obj}, hp0.get? b = some o → b ≠ hp0.objs.size + 1 := fun {b o} e => Nat.ne_of_lt (Nat.lt_succ_of_lt (Heap.lt_size e))
    have Lx : ((hp0.push (kdv_tup us)).push (excO C hp0.objs.size)).objs.size ≠ hp0.objs.size + 1 := by
      rw [Heap.size_push,
            Heap.size_push]
      exact Nat.succ_ne_self _
    have hn3 : h₃.Ns ((hp0.push (kdv_tup us)).push (excO C hp0.objs.size)).objs.size _ := Heap.Ns.at hn fun o e => k₃ _ o Lx e
    have X3 : K.In h₃ := fun b o e => k₃ b o (nx (X _ _ e)) (X2 b o e)
    show wpAny _ _ (execs _ _) _ _ _
    refine wpAny_execs_cons (plainObj_wpAny_Assign_Attribute ?_)
    refine load_local (v := v) rfl (look2_2 f1 f2) hd2 hn3 ?_ (load_local (v := .ref (hp0.objs.size + 1)) rfl (look2_self f1 f2) (by decide) hn3 ?_ ?_)
    · simp only [bindL, e0, e1, e2, if_true]
    · simp only [bindL, e0, e1, e2, if_true]
      rw [if_neg (fun z => I.ne2 z.symm), if_neg (fun z => I.ne1 z.symm)]
    have hw : Within (fun y => if y = f1 then some u else none) [f1] := fun y hy => by
      by_cases e : y = f1
      · rw [e]
        exact List.mem_cons_self ..
      · exact absurd (if_neg e) hy
    obtain ⟨oD, _, _, hoD, _, _⟩ := hn₃.count hw
    refine set_plain X3 (ox := { cls := .ref C, dict := some dx, data := .fields #[.ref hp0.objs.size, .none, .none, .none, .bool false, .none] }) (od := some oD) ⟨hx₃, rfl, rfl, hoD⟩ T.sa ?_
    refine next_field X3 hx₃ hn₃ hw (by show 1 ≤ 1000; decide) hcd O I.no2 fun h₄ tk₄ k₄ hn₄ => ?_
    show wpAny _ _ (execs _ _) _ _ _
    have nd : ∀ {b : Addr} {o : Obj}, hp0.get? b = some o → b ≠ dx := fun {b o} e => Nat.ne_of_lt (Nat.lt_of_lt_of_le (Nat.lt_of_lt_of_le (Heap.lt_size e) z0) dn)
    refine wpAny_execs_nil ⟨rfl, hq h₄ tk₄ (hp0.objs.size + 1) dx ⟨fun b o e => ?_, Nat.le_succ _, Nat.le_trans z0 dn, dne, ⟨_, k₄ _ _ (Ne.symm dne) hx₃⟩, hn₄⟩⟩
    exact k₄ b o (nd e) (k₃ b o (nx e) (k1 _ _ (k _ _ e)))
end
end XK

set_option maxRecDepth 100000
set_option maxHeartbeats 4100000
namespace XK
open PySem PySem.Spec PyProof.Rows L2
section
variable {X : Cx} {pins : List (Addr × Obj)} {σ : L2.St} {H : Hp} {s : Shared} {C : Addr}
/-- a made exception is tracked, and its own dict -/
theorem tracked {h' : Heap} {e d : Addr} {m : Str → Option Value} {fs : List (Str × V)} (t' : Nat) (I : Inv X pins σ H s) (M : Made s.heap h' e C d m) (r : ∀ f, RelO (fs.lookup f) (m f)) :
    Inv X pins σ (upd (upd H d (.xd fs)) e (exo e C (some d))) { s with heap := h', toks := t' } := by
  have nd : H d = none := I.hok.fresh M.db
  have ne : H e = none := I.hok.fresh M.eb
  have ned : upd H d (.xd fs) e = none := by
    rw [upd_ne (Ne.symm M.ne)]
    exact ne
  have U1 : Un X.fs [] H (upd H d (.xd fs)) s.heap s.heap := Un.laid (fun _ _ q => q) M.db nd
  have U2 : Un X.fs [] (upd H d (.xd fs)) (upd (upd H d (.xd fs)) e (exo e C (some d))) s.heap h' := Un.laid M.keep M.eb ned
  obtain ⟨t0, ho⟩ := M.obj
  refine I.un (t' := t') (U1.trans U2) fun b o q => ?_
  by_cases hb : b = e
  · subst hb
    rw [upd_same] at q
    cases q
    exact exo_ok ho
  · rw [upd_ne hb] at q
    by_cases hd : b = d
    · subst hd
      rw [upd_same] at q
      cases q
      exact ⟨m, M.ns, r⟩
    · rw [upd_ne hd] at q
      refine (I.hok b o q).stay (fun c v _ z => M.keep c v z) (fun c z => ?_) fun c xs z => ?_
      · rw [upd_ne (ne_of_none z ne), upd_ne (ne_of_none z nd)]
        exact z
      · rw [upd_ne (ne_of_none z ne), upd_ne (ne_of_none z nd)]
        exact z
theorem rel_one {f : Str} {y : V} {u : Value} (r : RelV y u) (g : Str) : RelO ([(f, y)].lookup g) (if g = f then some u else none) := relO_put (fs := []) (mA := fun _ => none) r (fun _ => trivial) g
theorem rel_two {f1 f2 : Str} {y z : V} {u v : Value} (r : RelV y u) (r' : RelV z v) (g : Str) : RelO ([(f2, z), (f1, y)].lookup g) (if g = f2 then some v else if g = f1 then some u else none) :=
  relO_put (fs := [(f1, y)]) r' (rel_one r) g
/-- what follows a made exception -/
def Then1 (C : Addr) (f : Str) (v : V) (H : Hp) (Q : VK) : Prop := ∀ d e, H d = none → H e = none → d ≠ e → Q (.ref e) (upd (upd H d (.xd [(f, v)])) e (exo e C (some d)))
def Then2 (C : Addr) (f1 f2 : Str) (u v : V) (H : Hp) (Q : VK) : Prop := ∀ d e, H d = none → H e = none → d ≠ e → Q (.ref e) (upd (upd H d (.xd [(f2, v), (f1, u)])) e (exo e C (some d)))
def tEx1 (C : Addr) (f : Str) (ta : TA) : TE := fun σ H Q => ta σ H fun vs H1 => ∃ v, vs = [v] ∧ Then1 C f v H1 Q
def tEx2 (C : Addr) (f1 f2 : Str) (ta : TA) : TE := fun σ H Q => ta σ H fun vs H1 => ∃ u v, vs = [u, v] ∧ Then2 C f1 f2 u v H1 Q
def tEx2k (C : Addr) (f1 f2 : Str) (ta : TA) : TE := fun σ H Q => ta σ H fun vs H1 => ∃ v u, vs = [v, u] ∧ Then2 C f1 f2 u v H1 Q
end
section
variable {X : Cx} {x f f1 f2 : Str} {C : Addr} {k : Nat} {a b : Expr} {ta : TA} {te : TE} {p pos k1 k2 : Pos}
/-- x(a), an own exception class whose __init__ keeps one field -/
theorem pe_ex1 (T : XT X.K C) (J : XI X.K C f) (hr : Room k X.A) (gC : X.mg x = some (.ref C)) (hfd : (f == ("__debug__" : Str)) = false) (ha : PA X [a] ta) (hg : Gl X x := by rfl) (hdb : (x == ("__debug__" : Str)) = false := by decide)
    (he : starEach (a :: []) X.env = (false, eval a X.env) :: starEach [] X.env := by rfl) (hpl : (backTo pos (starEach [] X.env)).any (·.1) = false := by rfl) :
    PE X (.Call (.Name x p) [a] [] pos) (tEx1 C f ta) := by
  refine ⟨fun pins s σ H Q I h => ?_⟩
  refine wpAny_Call_Name_kw
        (ld_glob I hg gC ?_ hdb)
  refine PySem.W.callWith_K (h₀ := X.base) I.ok.mod.kin T.kC (thn (ha.run pos pins s σ H _ I h) fun us s1 hh => ?_) he hpl
  obtain ⟨vs, H1, I1, r1, v, ev, q1⟩ := hh
  subst ev
  refine ⟨I1.kIn, ?_⟩
  cases r1 with
  | cons rv rn =>
    rename_i v' us'
    cases rn
    show wpAny _ _ (call (.ref C) [v']) _ _ _
    refine wpAny_call (made_one (v := v') T J hfd I1.kIn I1.nolimit (by have := hr.dp; omega) [v'] [] (.inl ⟨rfl, rfl⟩) fun h' tk e d M => ?_)
    exact ⟨.ref e, _, tracked tk I1 M (rel_one rv), rfl, q1 d e (I1.hok.fresh M.db) (I1.hok.fresh M.eb) M.ne⟩
/-- x(f = a) -/
theorem pe_ex1k (T : XT X.K C) (J : XI X.K C f) (hr : Room k X.A) (gC : X.mg x = some (.ref C)) (hfd : (f == ("__debug__" : Str)) = false) (ha : PE X a te) (hg : Gl X x := by rfl) (hdb : (x == ("__debug__" : Str)) = false := by decide)
    (hpl : ((backTo pos (starEach [] X.env)).any (·.1) || (backToKw pos (keywordEach [⟨some f, a, k1⟩] X.env)).any (·.1.isNone)) = false := by rfl) :
    PE X (.Call (.Name x p) [] [⟨some f, a, k1⟩] pos) (tEx1 C f (tCons te tNil)) := by
  refine ⟨fun pins s σ H Q I h => ?_⟩
  refine wpAny_Call_Name_kw
        (ld_glob I hg gC ?_ hdb)
  refine PySem.W.callWith_KW0 (h₀ := X.base) I.ok.mod.kin T.kC rfl ?_ hpl
  refine thn ((pk_cons ha pk_nil).run pos pins s σ H _ I h) fun us s1 hh => ?_
  obtain ⟨vs, H1, I1, r1, v, ev, q1⟩ := hh
  subst ev
  refine ⟨I1.kIn, ?_⟩
  cases r1 with
  | cons rv rn =>
    rename_i v' us'
    cases rn
    show wpAny _ _ (call (.ref C) [] [(f, v')]) _ _ _
    refine wpAny_call (made_one (v := v') T J hfd I1.kIn I1.nolimit (by have := hr.dp; omega) [] [(f, v')] (.inr ⟨rfl, rfl⟩) fun h' tk e d M => ?_)
    exact ⟨.ref e, _, tracked tk I1 M (rel_one rv), rfl, q1 d e (I1.hok.fresh M.db) (I1.hok.fresh M.eb) M.ne⟩
/-- x(a, b) -/
theorem pe_ex2 (T : XT X.K C) (J : XJ X.K C f1 f2) (hr : Room k X.A) (gC : X.mg x = some (.ref C)) (h1 : (f1 == ("__debug__" : Str)) = false) (h2 : (f2 == ("__debug__" : Str)) = false) (ha : PA X [a, b] ta) (hg : Gl X x := by rfl) (hdb : (x == ("__debug__" : Str)) = false := by decide)
    (he : starEach (a :: [b]) X.env = (false, eval a X.env) :: starEach [b] X.env := by rfl) (hpl : (backTo pos (starEach [b] X.env)).any (·.1) = false := by rfl) :
    PE X (.Call (.Name x p) [a, b] [] pos) (tEx2 C f1 f2 ta) := by
  refine ⟨fun pins s σ H Q I h => ?_⟩
  refine wpAny_Call_Name_kw
        (ld_glob I hg gC ?_ hdb)
  refine PySem.W.callWith_K (h₀ := X.base) I.ok.mod.kin T.kC (thn (ha.run pos pins s σ H _ I h) fun us s1 hh => ?_) he hpl
  obtain ⟨vs, H1, I1, r1, u, v, ev, q1⟩ := hh
  subst ev
  refine ⟨I1.kIn, ?_⟩
  cases r1 with
  | @cons _ u' _ _ ru rn =>
    cases rn with
    | @cons _ v' _ _ rv rn =>
      cases rn
      show wpAny _ _ (call (.ref C) [u', v']) _ _ _
      refine wpAny_call (made_two (u := u') (v := v') T J h1 h2 I1.kIn I1.nolimit (by have := hr.dp; omega) [u', v'] [] (.inl ⟨rfl, rfl⟩) fun h' tk e d M => ?_)
      exact ⟨.ref e, _, tracked tk I1 M (rel_two ru rv), rfl, q1 d e (I1.hok.fresh M.db) (I1.hok.fresh M.eb) M.ne⟩
/-- x(f2 = b, f1 = a) -/
theorem pe_ex2k {te1 te2 : TE} (T : XT X.K C) (J : XJ X.K C f1 f2) (hr : Room k X.A) (gC : X.mg x = some (.ref C)) (h1 : (f1 == ("__debug__" : Str)) = false) (h2 : (f2 == ("__debug__" : Str)) = false) (hb : PE X b te2) (ha : PE X a te1) (hg : Gl X x := by rfl) (hdb : (x == ("__debug__" : Str)) = false := by decide)
    (hpl : ((backTo pos (starEach [] X.env)).any (·.1) || (backToKw pos (keywordEach [⟨some f2, b, k2⟩, ⟨some f1, a, k1⟩] X.env)).any (·.1.isNone)) = false := by rfl) :
    PE X (.Call (.Name x p) [] [⟨some f2, b, k2⟩, ⟨some f1, a, k1⟩] pos) (tEx2k C f1 f2 (tCons te2 (tCons te1 tNil))) := by
  refine ⟨fun pins s σ H Q I h => ?_⟩
  refine wpAny_Call_Name_kw
        (ld_glob I hg gC ?_ hdb)
  refine PySem.W.callWith_KW0 (h₀ := X.base) I.ok.mod.kin T.kC rfl ?_ hpl
  refine thn ((pk_cons hb (pk_cons ha pk_nil)).run pos pins s σ H _ I h) fun us s1 hh => ?_
  obtain ⟨vs, H1, I1, r1, v, u, ev, q1⟩ := hh
  subst ev
  refine ⟨I1.kIn, ?_⟩
  cases r1 with
  | @cons _ v' _ _ rv rn =>
    cases rn with
    | @cons _ u' _ _ ru rn =>
      cases rn
      show wpAny _ _ (call (.ref C) [] [(f2, v'), (f1, u')]) _ _ _
      refine wpAny_call (made_two (u := u') (v := v') T J h1 h2 I1.kIn I1.nolimit (by have := hr.dp; omega) [] [(f2, v'), (f1, u')] (.inr ⟨rfl, rfl⟩) fun h' tk e d M => ?_)
      exact ⟨.ref e, _, tracked tk I1 M (rel_two ru rv), rfl, q1 d e (I1.hok.fresh M.db) (I1.hok.fresh M.eb) M.ne⟩
/-- x(), an own exception class without __init__ -/
def tEx0 (C : Addr) : TE := fun σ H Q => ∀ e, H e = none → Q (.ref e) (upd H e (exo e C none))
theorem pe_ex0 {B newId initId : String} {bmB : List Value} (F : ExcBaseFacts B newId initId bmB) (q : PySem.W.excIn X.K C bmB newId = true) (gC : X.mg x = some (.ref C)) (kC : PySem.W.keepIn X.K (.ref C) = true) (hg : Gl X x := by rfl) (hdb : (x == ("__debug__" : Str)) = false := by decide) :
    PE X (.Call (.Name x p) [] [] pos) (tEx0 C) := by
  refine ⟨fun pins s σ H Q I h => ?_⟩
  refine wpAny_Call_Name_kw
        (ld_glob I hg gC ?_ hdb)
  refine PySem.W.callWith_K0 I.kIn kC ?_
  show wpAny _ _ (call (.ref C) []) _ _ _
  obtain ⟨bm, N, nm, qn, bs, hdct, sn, sub, ab, col, dd, k0, k1, k2, k3, k5, mN, hC, hN, hni, T⟩ := exc_obj I.kIn q
  obtain ⟨hp, g, dr, tk, os⟩ := s
  refine wpAny_call_exc_subT F T hC hN hni (fun h' a hm => ?_) (Nat.zero_le _)
  have hn : H a = none := I.hok.gone hm.new
  obtain ⟨t, ht, _,
        _⟩ := hm.there
  exact ⟨.ref a, upd H a (exo a C none), I.laidN hm.keeps hm.new hn (exo_ok (t1 := t) ht), rfl, h a hn⟩
/-- e.f, e an exception that is told, f one of its fields -/
def tGetX (K : PySem.W.Frag) (f : Str) (te : TE) : TE := fun σ H Q => te σ H fun y H1 => ∃ (e C d : Addr) (fs : List (Str × V)) (v : V), y = .ref e ∧ XT K C ∧ PySem.W.findIn K (.ref C) f = some none ∧ H1 e = some (exo e C (some d)) ∧ H1 d = some (.xd fs) ∧ fs.lookup f = some v ∧ Q v H1
theorem pe_getX {te : TE} (he : PE X a te) (hb : attributeBase a f X.env (eval a X.env) = eval a X.env := by rfl) : PE X (.Attribute a f pos) (tGetX X.K f te) := by
  refine ⟨fun pins s σ H Q I h => ?_⟩
  refine attr_of hb (thn (he.run pins s σ H _ I h) fun u s1 hh => ?_)
  obtain ⟨y, H1, I1, rx, e, C, d, fs, v, ey, T, no, ea, ed, l, q⟩ := hh
  subst ey
  obtain rfl : u = Value.ref e := rx
  obtain ⟨t0, ho⟩ := exo_at I1.hok ea
  obtain ⟨mA, hns, hrel⟩ := (show ObjOk X.prog X.w H1 s1.heap d (.xd fs) from I1.hok d _ ed)
  obtain ⟨od, hod, hl⟩ := lookIn_ns hns
  obtain ⟨w, hw, rw'⟩ := RelO.some_of (v := v) (o := mA f) (by rw [← l]; exact hrel f)
  have J : PySem.W.InstAt s1.heap e _ C (some od) := ⟨ho, rfl, rfl, hod⟩
  exact HandSPX.exc_get I1.kIn J T.ga T.gg T.exC (PySem.W.findObj_own T.hd no rfl (by rw [hl, hw])) (handed_of rw') ⟨v, H1, I1.tok _, rw', q⟩
/-- isinstance(e, c), e an exception that is told -/
def rIsX (K : PySem.W.Frag) : List V → Hp → VK → Prop := fun xs H Q => ∃ (e C : Addr) (d : Option Addr) (c : V) (u : Value) (r : Bool), xs = [.ref e, c] ∧ ClsV c u ∧ XT K C ∧ H e = some (exo e C d) ∧ (∀ dd, d = some dd → ∃ fs, H dd = some (.xd fs)) ∧ PySem.W.kitOne K (.ref C) u = some r ∧ Q (.bl r) H
theorem call_isX : CallR X (.builtin "isinstance") (rIsX X.K) := by
  intro pins s σ
        H xs us Q I r h
  obtain ⟨e, C, d, c, u, z, rfl, k, T, ea, hd, ek, q⟩ := h
  obtain ⟨u1, u2, rfl,
        r1, r2⟩ := vals2 r
  have e2 := k.eq r2
  subst e2
  cases (show u1 = Value.ref e from r1)
  obtain ⟨t0, ho⟩ := exo_at I.hok ea
  have J : ∃ od, PySem.W.InstAt s.heap e ({ cls := .ref C, dict := d, data := .fields #[.ref t0, .none, .none, .none, .bool false, .none] } : Obj) C od := by
    cases d with
    | none => exact ⟨none, ho, rfl, rfl, trivial⟩
    | some dd =>
      obtain ⟨fs, hf⟩ := hd dd rfl
      obtain ⟨mA, hns, _⟩ := (show ObjOk X.prog X.w H s.heap dd (.xd fs) from I.hok dd _ hf)
      obtain ⟨od, hod, _⟩ := lookIn_ns hns
      exact ⟨some od, ho, rfl, rfl, hod⟩
  obtain ⟨od, J⟩ := J
  have hc : (PySem.W.clsIn
        X.K C).isSome = true := by
    obtain ⟨cd, h1, _⟩ := T.opn
    rw [h1]
    rfl
  exact PySem.W.kia_one (PySem.W.kitx_exc hc T.ga T.gg T.exC T.ac T.gn T.tk T.mo) I.kIn J ek (fun z => nomatch z) fun tk => ⟨.bl z, H, I.tok tk, rfl, q⟩
end
end XK

set_option maxRecDepth 100000
set_option maxHeartbeats 4100000
namespace XK
open PySem PySem.Spec PyProof.Rows L2
/-! ### repr of data -/
/-- what v is as data, dicts with keys of text or int at the outside as well -/
def flatD : PyData → Bool
  | .none => true
  | .bool _ => true
  | .int _ => true
  | .str _ => true
  | _ => false
theorem flat_reads {h : Heap} {u : Value} {d : PyData} {as : List Addr} (r : Reads h u d as) (f : flatD d = true) : as = [] := by
  cases r <;> first | rfl | cases f
theorem flats_read {h : Heap} : ∀ {us : List Value} {ds : List PyData} {as : List Addr}, ReadsAll h us ds as → ds.all flatD = true → as = []
  | _, _, _, .nil, _ => rfl
  | _, _, _, .cons r t, f => by
    rw [List.all_cons,
          Bool.and_eq_true] at f
    rw [flat_reads r f.1, flats_read t f.2]
    rfl
inductive DX (K : PySem.W.Frag) (H : Hp) : V → PyData → Prop
  | dp {v : V} {d : PyData} : Dp K H v d → DX K H v d
  | dc {a : Addr} {kvs : List (Key × V)} {ks vs : List PyData} : H a = some (.dK kvs) → DpAll K H (kvs.map fun p => kV p.1) ks → DpAll K H (kvs.map (·.2)) vs → ks.all flatD = true → vs.all flatD = true → DX K H (.ref a) (.dict (ks.zip vs))
inductive DXAll (K : PySem.W.Frag) (H : Hp) : List V → List PyData → Prop
  | nil : DXAll K H [] []
  | cons {v : V} {vs : List V} {d : PyData} {ds : List PyData} : DX K H v d → DXAll K H vs ds → DXAll K H (v :: vs) (d :: ds)
mutual
theorem noD {K : PySem.W.Frag} {H : Hp} : ∀ (d : PyData) (v : V), Dp K H v d → d.hasDict = false
  | .none, _, _ => by simp [PyData.hasDict]
  | .bool _, _, _ => by simp [PyData.hasDict]
  | .int _, _, _ => by simp [PyData.hasDict]
  | .str _, _, _ => by simp [PyData.hasDict]
  | .list ds, _, h => by
    cases h with
    | lst _ ha =>
      unfold PyData.hasDict
      exact noDs ds _ ha
  | .tuple ds, _, h => by
    cases h with
    | tup _ ha =>
      unfold PyData.hasDict
      exact noDs ds _ ha
  | .dict _, _, h => by cases h
theorem noDs {K : PySem.W.Frag} {H : Hp} : ∀ (ds : List PyData) (vs : List V), DpAll K H vs ds → PyData.hasDictAll ds = false
  | [], _, _ => by simp [PyData.hasDictAll]
  | d :: ds, _, h => by
    cases h with
    | cons a b =>
      unfold PyData.hasDictAll
      rw [noD d _ a, noDs ds _ b]
      rfl
end
theorem dpAll_length {K : PySem.W.Frag} {H : Hp} : ∀ {vs : List V} {ds : List PyData}, DpAll K H vs ds → vs.length = ds.length
  | _, _, .nil => rfl
  | _, _, .cons _ h => congrArg Nat.succ (dpAll_length h)
section
variable {X : Cx} {pins : List (Addr ×
      Obj)} {σ : L2.St} {H : Hp} {s : Shared}
theorem pairs_vals {P : Program} {w : World} : ∀ {kvs : List (Key × V)} {vs : List (Key × Value)} {es : List DictEntry}, KV kvs vs → Pairs (mixKind P w) es vs →
    Vals (kvs.map fun p => kV p.1) (es.map (·.key)) ∧ Vals (kvs.map (·.2)) (es.map (·.val))
  | _, _, _, .nil, .nil => ⟨.nil, .nil⟩
  | _, _, _, .cons r t, .cons hk hv hp => by
    obtain ⟨a, b⟩ := pairs_vals t hp
    obtain ⟨r1, r2⟩ := r
    refine ⟨.cons ?_ a, .cons ?_ b⟩
    · show RelV (kV _) _
      rw [r1]
      rcases keyIs_shape (show keyIs _ _ = true from hk) with ⟨i, tk, e1, e2⟩ | ⟨x, tk, e1, e2⟩
      · rw [e1]
        show RelV _ (DictEntry.key _)
        rw [e2]
        exact ⟨tk, rfl⟩
      · rw [e1]
        show RelV _ (DictEntry.key _)
        rw [e2]
        exact ⟨tk, rfl⟩
    · show RelV _ (DictEntry.val _)
      rw [hv]
      exact r2
theorem zip_fst : ∀ {ks vs : List PyData}, ks.length = vs.length → (ks.zip vs).map (·.1) = ks
  | [], [], _ => rfl
  | k :: ks, v :: vs, h => by
    rw [List.zip_cons_cons, List.map_cons, zip_fst (Nat.succ.inj h)]
theorem zip_snd : ∀ {ks vs : List PyData}, ks.length = vs.length → (ks.zip vs).map (·.2) = vs
  | [], [], _ => rfl
  | k :: ks, v :: vs, h => by
    rw [List.zip_cons_cons, List.map_cons, zip_snd (Nat.succ.inj h)]
/-- read off the heap; no address but lists' is met that may be the modules' dict -/
theorem DX.reads (I : Inv X pins σ H s) {v : V} {d : PyData} {u : Value} (h : DX X.K H v d) (r : RelV v u) : ∃ as, Reads s.heap u d as ∧ (d.hasDict = true → sysModules ∉ as) := by
  cases h with
  | dp h =>
    obtain ⟨as, q⟩ := Dp.reads I _ _ _ h r
    exact ⟨as, q, fun z => by rw [noD _ _ h] at z; cases z⟩
  | @dc a kvs ks vs ha hk hv fk fv =>
    cases (show u = Value.ref a from r)
    obtain ⟨_, hsys, us, rel, o, es, ep, ho, hx, hd, _, hp, _⟩ := (show ObjOk X.prog X.w H s.heap a (.dK kvs) from I.hok a _ ha)
    obtain ⟨rk, rv⟩ := pairs_vals rel hp
    obtain ⟨as, q1⟩ := Dp.readsAll I ks _ _ hk rk
    obtain ⟨bs, q2⟩ := Dp.readsAll I vs _ _ hv rv
    have hl : ks.length = vs.length := by
      rw [← dpAll_length hk, ← dpAll_length hv, List.length_map, List.length_map]
    refine ⟨a :: as ++ bs, Reads.dict ho hx.1 hd (by rw [zip_fst hl]; exact q1) (by rw [zip_snd hl]; exact q2), fun _ hm => ?_⟩
    rw [flats_read q1 fk, flats_read q2 fv] at hm
    have e : sysModules = a := by simpa using hm
    rw [e] at hsys
    simp at hsys
theorem DXAll.reads {b : Bool} (I : Inv X pins σ H s) : ∀ {vs : List V} {ds : List PyData} {us : List Value}, DXAll X.K H vs ds → (∀ d ∈ ds, d.hasDict = b) → Vals vs us → ∃ as, ReadsAll s.heap us ds as ∧ (b = true → sysModules ∉ as)
  | _, _, _, .nil, _, .nil => ⟨[], .nil, fun _ h => by cases h⟩
  | _, _, _, .cons a r, e, .cons q t => by
    obtain ⟨as, h1, n1⟩ := a.reads I q
    obtain ⟨bs, h2, n2⟩ := DXAll.reads I r (fun d hd => e d (List.mem_cons_of_mem _ hd)) t
    refine ⟨as ++ bs, .cons h1 h2, fun hb hm => ?_⟩
    rcases List.mem_append.mp hm with z | z
    · exact n1 ((e _ (List.mem_cons_self ..)).trans hb) z
    · exact n2 hb z
theorem dictAll_of {b : Bool} : ∀ {ds : List PyData}, (∀ d ∈ ds, d.hasDict = b) → PyData.hasDictAll ds = true → b = true
  | [], _, h => by
    unfold PyData.hasDictAll at h
    cases h
  | d :: ds, e, h => by
    unfold PyData.hasDictAll at h
    rw [Bool.or_eq_true] at h
    rcases h with h | h
    · rw [e d (List.mem_cons_self ..)] at h
      exact h
    · exact dictAll_of (fun x hx => e x (List.mem_cons_of_mem _ hx)) h
end
/-- the answer's size and depth are small -/
structure Shows (d : PyData) : Prop where
  sh : d.showable = true
  sz : d.shown.length ≤ sizeLine
  dp : d.depth ≤ 60
def rRepr (K : PySem.W.Frag) : List V → Hp → VK → Prop := fun xs H Q => ∃ v d, xs = [v] ∧ DX K H v d ∧ Shows d ∧ Q (.str d.shown) H
section
variable {X : Cx}
theorem call_repr (hg : X.A.guards = some []) (hu : X.A.units + 64 < cLine) : CallR X (.builtin "repr") (rRepr X.K) := by
  intro pins s σ
        H xs us Q I r h
  obtain ⟨v, d, rfl, hd, S, q⟩ := h
  cases r with
  | @cons _ u _ _ rv rn =>
    cases rn
    obtain ⟨as, hr, hs⟩ := hd.reads I rv
    have fin : ∀ h' t k, (∀ b o, s.heap.get? b = some o → h'.get? b = some o) → EP X pins σ Q (.str d.shown t) { s with heap := h', toks := k } := fun h' t k kk => ⟨.str d.shown, H, I.kept kk, ⟨_, rfl⟩, q⟩
    cases hr with
    | none => exact PySem.P.repr_of_none (by rw [PyData.shown_none] at fin; exact fin s.heap s.toks _ fun _ _ z => z)
    | bool b => exact PySem.P.repr_of_bool (by rw [PyData.shown_bool] at fin; exact fin s.heap s.toks _ fun _ _ z => z)
    | int i t =>
      have hi : i.natAbs.log2 < 1920 := by
        have z := S.sh
        unfold PyData.showable at z
        exact of_decide_eq_true z
      exact PySem.P.repr_of_int hi (by rw [PyData.shown_int] at fin; exact fin s.heap s.toks _ fun _ _ z => z)
    | str x t =>
      have z := S.sz
      rw [PyData.shown_str] at z fin
      exact PySem.P.repr_of_str (fin s.heap s.toks _ fun _ _ z => z) z
    | list h1 h2 h3 h4 => exact repr_of_reads' (.list h1 h2 h3 h4) S.sh hs hg (by have := S.dp; omega) (fun _ _ z => z) (fun h' t k kk => fin h' t k kk) S.sz
    | tuple h1 h2 h3 h4 => exact repr_of_reads' (.tuple h1 h2 h3 h4) S.sh hs hg (by have := S.dp; omega) (fun _ _ z => z) (fun h' t k kk => fin h' t k kk) S.sz
    | dict h1 h2 h3 h4 h5 => exact repr_of_reads' (.dict h1 h2 h3 h4 h5) S.sh hs hg (by have := S.dp; omega) (fun _ _ z => z) (fun h' t k kk => fin h' t k kk) S.sz
/-- repr of a list that was laid in the call: not the modules' dict -/
def rReprL (K : PySem.W.Frag) : List V → Hp → VK → Prop := fun xs H Q => ∃ (p : Addr) (vs : List V) (ds : List PyData) (b : Bool), xs = [.ref p] ∧ H p = some (.lst vs) ∧ p ≠ sysModules ∧ DXAll K H vs ds ∧ (∀ d ∈ ds, d.hasDict = b) ∧ Shows (.list ds) ∧ Q (.str (PyData.list ds).shown) H
theorem call_reprL (hg : X.A.guards = some []) (hu : X.A.units + 64 < cLine) : CallR X (.builtin "repr") (rReprL X.K) := by
  intro pins s σ
        H xs us Q I r h
  obtain ⟨p, vs, ds, b, rfl, hp, np, hd, hb, S, q⟩ := h
  cases r with
  | @cons _ u _ _ rv rn =>
    cases rn
    cases (show u = Value.ref p from rv)
    obtain ⟨_, its, n, rvs, ho⟩ := (show ObjOk X.prog X.w H s.heap p (.lst vs) from I.hok p _ hp)
    obtain ⟨as, hr, hs⟩ := hd.reads I hb rvs
    refine repr_of_reads' (Reads.list ho rfl rfl hr) S.sh (fun z => ?_) hg (by have := S.dp; omega) (fun _ _ z => z) (fun h' t k kk => ⟨.str (PyData.list ds).shown, H, I.kept kk, ⟨_, rfl⟩, q⟩) S.sz
    unfold PyData.hasDict at z
    intro hm
    rcases List.mem_cons.mp
          hm with e | e
    · exact np e.symm
    · exact hs (dictAll_of hb z) e
/-- a list display, and its address -/
def tLstS (t : TA) : TE := fun σ H Q => t σ H fun xs H1 => xs.length ≤ sizeLine ∧ ∀ p, H1 p = none → p ≠ sysModules → Q (.ref p) (upd H1 p (.lst xs))
theorem pe_lstS {es : List Expr} {t : TA} {pos : Pos} (h : PA X es t) : PE X (.List es pos) (tLstS t) := by
  refine ⟨fun pins s
        σ H Q I hq => ?_⟩
  refine wpAny_List_spliced (thn (h.run pos pins s σ H _ I hq) fun us s1 hh => ?_)
  obtain ⟨xs, H1, I1, r, z, q⟩ := hh
  refine ⟨by rw [← r.length]; exact z, ?_⟩
  have free : H1 s1.heap.objs.size = none := I1.hok.fresh (Nat.le_refl _)
  have big := Inv.big I1
  refine ⟨.ref s1.heap.objs.size, upd H1 s1.heap.objs.size (.lst xs), I1.laid (t' := s1.toks) (fun b u e => Heap.get?_push_of_some _ e) (Nat.le_refl _) ?_, rfl, q _ free (Ne.symm (Nat.ne_of_lt big))⟩
  exact ⟨z, us, 0, r,
        Heap.get?_push_size _ rfl⟩
/-- xs.count(b), truth values -/
def eqb (k : Bool) (v : Value) : Bool := match v with
  | .bool n => n == k
  | _ => false
theorem eqb_gives {k : Bool} {A : Around} {s : Shared} : ∀ {us : List Value} {bs : List Bool}, Vals (bs.map V.bl) us → ∀ y ∈ us, SeqAt.EqAt A s y (.bool k) (eqb k y)
  | _, [], .nil => fun y hy => by cases hy
  | _, b :: bs, .cons r h => fun y hy => by
    rcases List.mem_cons.mp
          hy with e | e
    · rw [e, show _ = Value.bool b from r]
      exact SeqAt.EqAt.bool_bool b k
    · exact eqb_gives h y e
theorem eqb_count {k : Bool} : ∀ {us : List Value} {bs : List Bool}, Vals (bs.map V.bl) us → us.countP (eqb k) = bs.count k
  | _, [], .nil => rfl
  | _, b :: bs, .cons r h => by
    rw [List.countP_cons, List.count_cons, eqb_count (k := k) h, show _ = Value.bool b from r]
    rfl
def rCntB (K : PySem.W.Frag) : V → List V → Hp → VK → Prop := fun x xs H Q => ∃ (p : Addr) (bs : List Bool) (k : Bool), x = .ref p ∧ xs = [.bl k] ∧ SqL K H p (bs.map V.bl) ∧ Q (.int (bs.count k : Nat)) H
theorem mt_count_bool : MtR X "list.count" (rCntB X.K) := by
  intro pins s σ H x
        xs v us Q I rx rxs h
  obtain ⟨p, bs, k, rfl, rfl, hs, q⟩ := h
  cases rx
  obtain ⟨u, rfl,
        ru⟩ := rxs.one
  cases (show u = Value.bool k from ru)
  obtain ⟨its, rv, ⟨⟨cls, dd, data, sl⟩,
        n, ho, hc, hdn, hd⟩, hlen⟩ := I.list hs
  simp only at hc hd
  subst hc hd
  refine call_meets PySem.F.slot_list_count ⟨_, ho, rfl⟩ PySem.F.entry_list_count (PySem.F.args_list_count_2 _ _) (SeqAt.list_countAt p its.toArray n dd sl (.bool k) (eqb k))
    ⟨ho, fun y hy => eqb_gives rv y (by simpa using hy), ?_⟩
  have ec : its.toArray.toList.countP (eqb k) = bs.count k := eqb_count rv
  refine ⟨.int (bs.count k : Nat), H, I.tok _, ⟨s.toks, ?_⟩, q⟩
  show Value.int ((its.toArray.toList.countP (eqb k) : Nat) : Int) s.toks = Value.int ((bs.count k : Nat) : Int) s.toks
  rw [ec]
/-- a short text, many times -/
theorem op_mul_str : OpR X (binaryOp .Mult) (fun x y H Q => ∃ (z : Str) (i : Int), x = .str z ∧ y = .int i ∧ z.length ≤ 16 ∧ 0 ≤ i ∧ i ≤ 1000 ∧ Q (.str (Txt.mul z i)) H) := by
  intro pins s σ H x
        y v u Q I rx ry h
  obtain ⟨z, i, rfl, rfl, hz, h0, h1, q⟩ := h
  obtain ⟨t, rfl⟩ := rx
  obtain ⟨t', rfl⟩ := ry
  refine PySem.W.KXi.mul rfl hz (by omega) (by omega) fun tk k _ _ => ?_
  exact ⟨.str (Txt.mul z i), H, I.tok _, ⟨_, rfl⟩, q⟩
end
end XK

set_option maxRecDepth 100000
set_option maxHeartbeats 4100000
namespace XK
open PySem PySem.Spec PyProof.Rows L2
/-! ### a law's own def: it is called where no repr is under way -/
section
variable {P : Program} {w : World} {K : PySem.W.Frag} {mg : Str → Option Value} {base : Heap} {CX : CXT} {k : Nat} {f : Addr} {fd : FuncData} {N ps : List Str} {sp : Sp}
/-- a def's promise where the claim's caller calls it -/
structure AtCaller (P : Program) (w : World) (K : PySem.W.Frag) (mg : Str → Option Value) (base : Heap) (CX : CXT) (k : Nat) (f : Addr) (fd : FuncData) (ps : List Str) (sp : Sp) : Prop where
  go : ∀ (outer : List Env) (s : Shared) (H : Hp) (args : Args) (us : List Value) (vs : List V) (Q : VK) (E : XK), Room k callerA → Env0 P w K mg base callerA outer s H → BindsTo s fd args (ps.zip us) → Vals vs us → sp vs H Q E →
    codeAny (model P w) callerA (.call (.ref f) args) (CR CX outer P w H s Q E) s
theorem atCaller {x qual : Str} {st : Stmt} (F : Fun K x qual st f fd) (S : FnScope N ps (defScope st)) (len : ∀ vs H Q E, sp vs H Q E → vs.length = ps.length)
    (body : ∀ (cdv : Value) (outer : List Env) (s : Shared) (H : Hp) (vs : List V) (Q : VK) (E : XK), Room k (callerA.deeper (envOfC qual (defScope st) s.heap.objs.size f cdv)) → sp vs H Q E →
      ∃ t, PSs (cxOf CX P w K mg base N qual (defScope st) f cdv callerA outer s H E).nox (defBody st) t ∧ t { nx := fun _ H' => Q .non H', rt := Q } (start N vs) H) :
    AtCaller P w K mg base CX (k + 1) f fd ps sp := by
  obtain ⟨oc, od, kV, doc, pm, an,
        cdv, ct, osl, rfl, lk, hcd⟩ := F.ex
  constructor
  intro outer s H args us vs Q E room env bind rel want
  have count := len _ _ _ _ want
  have inn : K.In s.heap := env.mod.kin.keeps fun b o e => (env.bs b o e).1
  have lim : s.heap.NoLimit := env.mod.nolimit.keeps fun b o e => (env.bs b o e).1
  have kinds : ∀ y ∈ ps.zip us, (defScope st).names.lookup y.1 = some .local ∨ ((defScope st).names.lookup y.1 = some .cell ∧ ((cellsFrom (s.heap.objs.size + 1) (defScope st).names []).lookup y.1).isSome = true) := by
    rintro ⟨n, v⟩ hy
    cases S.par n (List.of_mem_zip hy).1 with
    | inl q => exact .inl q
    | inr q => exact .inr ⟨q, PySem.W.cellsFrom_some _ _ _ (.inl q)⟩
  refine codeAny_call_function room.depth (inn _ _ lk) rfl S.co S.gen rfl (PySem.W.codeRec_of inn hcd) (bind _ _ _ _ ?_)
  refine wpAny_newFunctionEnv_cells S.kind kinds fun en hen s1 entered => ?_
  subst hen
  refine ⟨lim.keeps entered.toInCall.keep, codeAny_func ?_⟩
  obtain ⟨t, der, rd⟩ := body cdv outer s H vs Q E (room.deeper _) want
  have I0 : Inv (cxOf CX P w K mg base N qual (defScope st) f cdv callerA outer s H E) [] (start N vs) H s1 := inv_start S room.hd env count rel entered
  refine wpAny_mono (der.nox.run [] s1 (start N vs) H _ I0 rd) (fun flow s' res => ?_) fun _ _ res => res
  cases flow with
  | ret u =>
    obtain ⟨v, σ', H', J, rv, q⟩ := res
    exact ⟨v, H', J.os, J.bare, J.base, J.hok, rv, q⟩
  | next =>
    obtain ⟨σ', H', J, q⟩ := res
    exact ⟨V.non, H', J.os, J.bare, J.base, J.hok, rfl, q⟩
  | brk =>
    obtain ⟨_, _, _, no⟩ := res
    exact no.elim
  | cont =>
    obtain ⟨_, _, _, no⟩ := res
    exact no.elim
end
/-- the law's call: nothing but the script may be tracked at its entry -/
theorem caller_runs {P : Program} {w : World} {K : PySem.W.Frag} {mg mb : Str → Option Value} {k : Nat} {fa a : Addr} {fd : FuncData} {x : Str} {sp : Sp} {s₁ : Shared} {vs : List Value} {ns : List Int}
    (inn : K.In s₁.heap) (glob : s₁.heap.Ns mainGlobals mg) (bns : s₁.heap.Ns builtinsNs mb) (boot : ∀ x : Str, x ≠ "__name__" → mb x = bootBuiltins x) (lim : s₁.heap.NoLimit) (gens : s₁.gens = #[])
    (obj : s₁.heap.get? a = some { cls := .type "list", data := .seq vs.toArray }) (inz : IntsAre vs ns) (short : ns.length ≤ sizeLine) (room : Room k callerA)
    (F : ∀ base : Heap, K.In base → base.Ns mainGlobals mg → AtCaller P w K mg base CX0 k fa fd [x] sp) (bind : ∀ (s : Shared) (u : Value), BindsTo s fd ⟨[u], []⟩ [(x, u)])
    (want : ∀ H : Hp, SqL K H a (ns.map V.int) → sp [.ref a] H (fun v _ => v = .bl true) fun _ _ _ => False) :
    codeAny (model P w) callerA (.call (.ref fa) ⟨[.ref a], []⟩) (fun r s' => r = .ok
          (.ret (.bool true)) ∧ OldK s₁.heap s'.heap ∧ s'.os = s₁.os ∧ AllBare s'.gens) s₁ := by
  have vals := vals_ints inz
  have many := inz.length
  have main : ∀ H : Hp, (∀ b, H b = none ∨ ∃ ob xs, H b = some (.frz ob xs)) → SqL K H a (ns.map V.int) → HOk P w H s₁.heap → (∀ b, H b ≠ none → b = a ∧ K.lookup b = none) →
      codeAny (model P w) callerA (.call (.ref fa) ⟨[.ref a], []⟩) (fun r s' => r = .ok
            (.ret (.bool true)) ∧ OldK s₁.heap s'.heap ∧ s'.os = s₁.os ∧ AllBare s'.gens) s₁ := by
    intro H frozen seq ok alone
    have plain : ∀ {b : Addr} {o : Obj}, s₁.heap.get? b = some o → (b = a → False) → H b = none := fun {b o} _ nb => by
      cases q : H b with
      | none => rfl
      | some u => exact (nb (alone b (by rw [q]; simp)).1).elim
    have space : ∀ {b : Addr} {m : Str → Option Value}, s₁.heap.Ns b m → (hidT s₁.heap H).Ns b m := fun {b m} ⟨o, es, ep, e, d, r⟩ =>
      ⟨o, es, ep, hidT_get e (plain e fun z => by
        rw [z, obj] at e
        cases e
        cases (show Data.seq vs.toArray _ = Data.dict es ep from d)), d, r⟩
    have kept : K.In (hidT s₁.heap H) := fun b o e => hidT_get (inn b o e) (by
      cases q : H b with
      | none => rfl
      | some u =>
        have z := (alone b (by rw [q]; simp)).2
        rw [z] at e
        cases e)
    have md : Mod K mg (hidT s₁.heap H) := ⟨kept, space glob, ⟨mb, space bns, boot⟩, by
      obtain ⟨mc, h1, h2⟩ := lim
      exact ⟨mc, space h1, h2⟩⟩
    have env : Env0 P w K mg (hidT s₁.heap H) callerA [] s₁ H :=
      ⟨rfl, md, fun b o e => of_hidT e, Nat.le_of_eq (hidT_size _ _), trivial, fun b hb => (by cases hb), ok, AllBare.of_eq gens⟩
    have res := (F _ kept (space glob)).go [] s₁ H ⟨[.ref a], []⟩ [.ref a] [.ref a] _ _ room env (bind s₁ (.ref a)) (.cons rfl .nil) (want H seq)
    refine codeAny_mono res fun r s' h => ?_
    cases r with
    | error e => exact False.elim h
    | ok fl =>
      cases fl with
      | next => exact False.elim h
      | brk => exact False.elim h
      | cont => exact False.elim h
      | ret u =>
        obtain ⟨v, H', os, bare, un, ok', rel, q⟩ := h
        obtain rfl : v = .bl true := q
        obtain rfl : u = Value.bool true := rel
        refine ⟨rfl, OldK.of_keep
              fun b o e => ?_, os, bare⟩
        rcases frozen b with z | ⟨ob, xs, z⟩
        · exact un.keep b o e z (fun z => by cases z) (fun z => by cases z)
        · obtain ⟨e1, _⟩ := ok b _ z
          obtain ⟨e2, _⟩ := ok' b _ (un.frzs b ob _ z)
          rw [e] at e1
          cases e1
          exact e2
  cases hk : K.lookup a with
  | some o =>
    have e := inn a o hk
    rw [obj] at e
    cases e
    refine main (fun _ => none) (fun _ => .inl rfl) (.inr ⟨_, vs.toArray, _, hk, rfl, rfl, rfl, ?_, ?_⟩) (fun b u z => by cases (show (none : Option HO) = some u from z)) fun b z => absurd rfl z
    · rw [List.size_toArray, many]
      exact short
    · simpa using vals
  | none =>
    refine main (upd (fun _ => none) a (.frz { cls := .type "list", data := .seq vs.toArray } (.lst (ns.map V.int)))) (fun b => ?_) (.inl (.inr ⟨_, upd_same⟩)) (fun b u z => ?_) fun b z => ?_
    · by_cases hb : b = a
      · rw [hb]
        exact .inr ⟨_, _, upd_same⟩
      · exact .inl (upd_ne hb)
    · by_cases hb : b = a
      · subst hb
        rw [upd_same] at z
        cases z
        exact ⟨obj, by rw [List.length_map]; exact short, vs, _, vals, obj⟩
      · rw [upd_ne hb] at z
        cases z
    · by_cases hb : b = a
      · exact ⟨hb, by rw [hb]; exact hk⟩
      · exact absurd (upd_ne hb) z
/-- the goal that the head leaves -/
theorem caller_walk {l : PySem.W.OpenLaw} {n k : Nat} {q : Program} {loose : List Str} {XP : (Str → Option Value) → Heap → Prop} {YP : World → Heap → Prop} {d : DefRec} {K : Params → PySem.W.Frag} {sp : World → Sp} {x : Str}
    (most : l.most = some n) (small : n ≤ sizeLine) (plain : d.params.defaults = []) (room : Room k callerA)
    (Y : ∀ (w : World) (h : Heap), YP w h → (K w.params).In h)
    (F : ∀ (w : World) (mg : Str → Option Value) (fa : Addr) (h : Heap), (K w.params).In h → h.Ns mainGlobals mg → mg d.name = some (.ref fa) →
      ∃ fd : FuncData, (∀ (s : Shared) (u :
            Value), BindsTo s fd ⟨[u], []⟩ [(x, u)]) ∧
        ∀ base : Heap, (K w.params).In base → base.Ns mainGlobals mg → AtCaller l.prog w (K w.params) mg base CX0 k fa fd [x] (sp w))
    (want : ∀ (w : World) (H : Hp) (a : Addr) (ns : List Int), ns.length ≤ n → SqL (K w.params) H a (ns.map V.int) → sp w [.ref a] H (fun v _ => v = .bl true) fun _ _ _ => False) :
    PySem.W.WalkO q loose XP YP l.row.toRowW
          d [] (fun f vs => PySem.call f vs) := by
  refine Att.attach_call most plain fun w s₀ s₁ mg mb fa o pm cd doc a vs ns G y ho hd hcd hmg obj inz many gens => ?_
  obtain ⟨fd, bind, run⟩ := F w mg fa _ (Y w _ y) G.T.g hmg
  exact caller_runs (Y w _ y) G.T.g G.T.b G.T.builtins G.T.nolimit gens obj inz (Nat.le_trans many small) room run bind fun H seq => want w H a ns many seq
end XK

set_option maxRecDepth 100000
set_option maxHeartbeats 4100000
namespace LK
open PySem L2
/-! ### the text by places -/
def top (i : Nat) : Stmt := PySem.Challenge.pw_linestream_k36_errors_and_limits.main.body.getD i (.Pass ⟨0, 0, 0, 0⟩)
abbrev sPen : Stmt := top 29
abbrev sDraw : Stmt := top 30
abbrev sPick : Stmt := top 31
/-! ### the pen: a dict of cells, turn, left -/
abbrev kC : Key := Sum.inr "cells"
abbrev kT : Key := Sum.inr "turn"
abbrev kL : Key := Sum.inr "left"
theorem nCT : ¬ (kC = kT) := by decide +kernel
theorem nCL : ¬ (kC = kL) := by decide +kernel
theorem nTC : ¬ (kT = kC) := by decide +kernel
theorem nTL : ¬ (kT = kL) := by decide +kernel
theorem nLC : ¬ (kL = kC) := by decide +kernel
theorem nLT : ¬ (kL = kT) := by decide +kernel
theorem put_same_len {kvs : List (Key × V)} {k : Key} {v u : V} (h : valV kvs k = some u) : (putK kvs k v).length = kvs.length := by
  unfold putK
  rw [valV_any, h]
  simp
/-- the pen stands at d, at most n turns were drawn, its cells at c are the ints ns -/
structure Pen (H : Hp) (d c : Addr) (n : Int) (ns : List Int) (kvs : List (Key × V)) (t l : Int) : Prop where
  dc : H d = some (.dK kvs)
  vc : valV kvs kC = some (.ref c)
  vt : valV kvs kT = some (.int t)
  vl : valV kvs kL = some (.int l)
  t0 : 0 ≤ t
  tn : t ≤ n
  sz : kvs.length ≤ 3
  cs : H c = some (.lst (ns.map V.int))
  cl : ns.length ≤ 63
theorem Pen.getC {H d c n ns kvs t l} (p : Pen H d c n ns kvs t l) : DGet H d (.str "cells") (some (.ref c)) := by
  have h := DGet.k (k := kC) p.dc
  rw [p.vc] at h
  exact h
theorem Pen.getT {H d c n ns kvs t l} (p : Pen H d c n ns kvs t l) : DGet H d (.str "turn") (some (.int t)) := by
  have h := DGet.k (k := kT) p.dc
  rw [p.vt] at h
  exact h
theorem Pen.getL {H d c n ns kvs t l} (p : Pen H d c n ns kvs t l) : DGet H d (.str "left") (some (.int l)) := by
  have h := DGet.k (k := kL) p.dc
  rw [p.vl] at h
  exact h
theorem Pen.small {H d c n ns kvs t l} (p : Pen H d c n ns kvs t l) : kvs.length < sizeLine := small1000 (by have := p.sz; omega)
def PenAt (H : Hp) (d c : Addr) (n : Int) (ns : List Int) : Prop := ∃ kvs t l, Pen H d c n ns kvs t l
theorem Pen.ne {H d c n ns kvs t l} (p : Pen H d c n ns kvs t l) : c ≠ d := ne_of p.cs p.dc (by intro z; cases z)
theorem PenAt.ne {H d c n ns} (p : PenAt H d c n ns) : c ≠ d := by
  obtain ⟨_, _, _, p⟩ := p
  exact p.ne
theorem Pen.keep {H H' d c n ns kvs t l} (p : Pen H d c n ns kvs t l) (h : Same H H') : Pen H' d c n ns kvs t l :=
  ⟨h _ _ p.dc, p.vc, p.vt, p.vl, p.t0, p.tn, p.sz, h _ _ p.cs, p.cl⟩
theorem PenAt.keep {H H' d c n ns} (p : PenAt H d c n ns) (h : Same H H') : PenAt H' d c n ns := by
  obtain ⟨_, _, _, p⟩ := p
  exact ⟨_, _, _, p.keep h⟩
theorem Pen.putT {H d c n ns kvs t l} (p : Pen H d c n ns kvs t l) : Pen (upd H d (.dK (putK kvs kT (.int (t + 1))))) d c (n + 1) ns (putK kvs kT (.int (t + 1))) (t + 1) l :=
  ⟨upd_same, by rw [valV_put, if_neg nCT]; exact p.vc, by rw [valV_put, if_pos rfl], by rw [valV_put, if_neg nLT]; exact p.vl, by have := p.t0; omega, by have := p.tn; omega, by rw [put_same_len p.vt]; exact p.sz, by rw [upd_ne p.ne]; exact p.cs, p.cl⟩
theorem Pen.putL {H d c n ns kvs t l} (p : Pen H d c n ns kvs t l) (l' : Int) : Pen (upd H d (.dK (putK kvs kL (.int l')))) d c n ns (putK kvs kL (.int l')) t l' :=
  ⟨upd_same, by rw [valV_put, if_neg nCL]; exact p.vc, by rw [valV_put, if_neg nTL]; exact p.vt, by rw [valV_put, if_pos rfl], p.t0, p.tn, by rw [put_same_len p.vl]; exact p.sz, by rw [upd_ne p.ne]; exact p.cs, p.cl⟩
theorem Pen.more {H d c n m ns kvs t l} (p : Pen H d c n ns kvs t l) (h : n ≤ m) : PenAt H d c m ns :=
  ⟨_, _, _, p.dc, p.vc, p.vt, p.vl, p.t0, Int.le_trans p.tn h, p.sz, p.cs, p.cl⟩
/-- all that was tracked is as it was, but at d -/
def But (d : Addr) (H H' : Hp) : Prop := ∀ b o, H b = some o → b ≠ d → H' b = some o
theorem But.refl {d : Addr} {H : Hp} : But d H H := fun _ _ h _ => h
theorem But.trans {d : Addr} {H H1 H2 : Hp} (a : But d H H1) (b : But d H1 H2) : But d H H2 := fun c o h n => b c o (a c o h n) n
theorem But.same {d : Addr} {H H' : Hp} (a : Same H H') : But d H H' := fun c o h _ => a c o h
theorem same_upd {H : Hp} {p : Addr} {o : HO} (hp : H p = none) : Same H (upd H p o) := fun b u e => by
  rw [upd_ne (ne_of_none e hp)]
  exact e
theorem but_upd {H : Hp} {d : Addr} {o : HO} : But d H (upd H d o) := fun b u e n => by
  rw [upd_ne n]
  exact e
theorem dp_ints {K : PySem.W.Frag} {H : Hp} : ∀ ns : List Int, DpAll K H (ns.map V.int) (ns.map PyData.int)
  | [] => .nil
  | n :: r => .cons (.int n) (dp_ints r)
theorem canLay_ints : ∀ ns : List Int, PyData.canLayAll0 (ns.map PyData.int) = true
  | [] => rfl
  | n :: r => by
    show (PyData.canLay0 (.int n) && PyData.canLayAll0 (r.map PyData.int)) = true
    rw [canLay_ints r]
    rfl
theorem depth_ints : ∀ ns : List Int, PyData.depthAll (ns.map PyData.int) = 0
  | [] => rfl
  | n :: r => by
    show max (PyData.depth (.int n)) (PyData.depthAll (r.map PyData.int)) = 0
    rw [depth_ints r]
    rfl
theorem shaped_ints (ns : List Int) : SeqAt.shaped (.list (ns.map PyData.int)) = true := by
  unfold SeqAt.shaped
  have h1 : PyData.canLay0 (.list (ns.map PyData.int)) = true := by
    unfold PyData.canLay0
    exact canLay_ints ns
  have h2 : PyData.depth (.list (ns.map PyData.int)) ≤ 64 := by
    unfold PyData.depth
    rw [depth_ints]
    decide
  rw [h1, decide_eq_true h2]
  rfl
/-! ### the promises -/
def spPen (K : PySem.W.Frag) : Sp := fun vs H Q _ => ∃ (a : Addr) (ns : List Int), vs = [.ref a] ∧ SqL K H a (ns.map V.int) ∧ ns.length ≤ 63 ∧
  ∀ (d c : Addr) (ms : List Int) (H' : Hp), PenAt H' d c 0 ms → Same H H' → H d = none → H c = none → Q (.ref d) H'
/-- draw: any number below the span -/
def spDraw : Sp := fun vs H Q _ => ∃ (d c : Addr) (n : Int) (ns : List Int) (span : Int), vs = [.ref d, .int span] ∧ PenAt H d c n ns ∧ n < 1000000 ∧ 1 ≤ span ∧ span < 1000000 ∧
  ∀ (r : Int) (H' : Hp), 0 ≤ r → r < span → PenAt H' d c (n + 1) ns → But d H H' → Q (.int r) H'
structure Txt (mg : Str → Option Value) : Prop where
  len : mg "len" = none
  int : mg "int" = none
  list : mg "list" = none
  abs : mg "abs" = none
def primesI : List Int := [2147483629, 2147483647, 2147483587, 2147483563, 2147483579]
theorem prime_at {k : Int} : ∃ p : Int, atI (primesI.map V.int) (k.fmod 5) = some (.int p) ∧ 2 ≤ p ∧ p < 2147483648 := by
  have h0 := Int.fmod_nonneg_of_pos k (b := 5) (by decide)
  have h1 := Int.fmod_lt_of_pos k (b := 5) (by decide)
  generalize k.fmod 5 = r at h0 h1
  have : r = 0 ∨ r = 1 ∨ r = 2 ∨ r = 3 ∨ r = 4 := by omega
  rcases this with rfl | rfl | rfl | rfl | rfl
  · exact ⟨2147483629, atI_nat (j := 0) rfl, by decide, by decide⟩
  · exact ⟨2147483647, atI_nat (j := 1) rfl, by decide, by decide⟩
  · exact ⟨2147483587, atI_nat (j := 2) rfl, by decide, by decide⟩
  · exact ⟨2147483563, atI_nat (j := 3) rfl, by decide, by decide⟩
  · exact ⟨2147483579, atI_nat (j := 4) rfl, by decide, by decide⟩
theorem fmod_in {a b : Int} (h : 0 < b) : 0 ≤ a.fmod b ∧ a.fmod b < b := ⟨Int.fmod_nonneg_of_pos a h, Int.fmod_lt_of_pos a h⟩
theorem at_fmod {α : Type} {xs : List α} {k : Int} (h : 0 < (xs.length : Int)) : ∃ (j : Nat) (v : α), k.fmod (xs.length : Int) = (j : Int) ∧ xs[j]? = some v := by
  obtain ⟨h0, h1⟩ := fmod_in (a := k) h
  refine ⟨(k.fmod xs.length).toNat, xs[(k.fmod xs.length).toNat]'(by omega), by omega, List.getElem?_eq_getElem _⟩
section
variable {P : Program} {w : World} {K : PySem.W.Frag} {mg : Str → Option Value} {base : Heap}
theorem scD : FnScope ["_law_pen_here", "_law_span", "_law_digit", "_law_turn", "_law_cell", "_law_primes", "_law_prime", "_law_drawn"] ["_law_pen_here", "_law_span"] (defScope sDraw) := ⟨rfl, rfl, rfl, by decide +kernel, rfl, by decide +kernel, by decide +kernel⟩
theorem ok_draw {f : Addr} {fd : FuncData} (F : Fun K "_law_draw" "_law_draw" sDraw f fd) (T : Txt mg) : FnOk P w K mg base CX0 1 f fd ["_law_pen_here", "_law_span"] spDraw := by
  refine F.ok scD (fun vs H Q E h => ?_) (fun cdv A outer s H vs Q E hr h => ?_)
  · obtain ⟨d, c, n, ns, span, rfl, _⟩ := h
    rfl
  · obtain ⟨d, c, n, ns, span, rfl, ⟨kvs, t, l, p⟩, hn, s1, s2, k⟩ := h
    have hu := hu_of hr
    have hu6 := hr.units
    have t0 := p.t0
    have tn := p.tn
    refine ⟨_, pss_cons (by exact (ps_if (pt_cmpR op_gt (pe_dget hu (pv 0) pe_str (fun _ _ => rfl)) pe_int (nomark _))
          (pss_cons (ps_set (i := 2) scD.nd rfl (.inl rfl) (pe_op op_modN (pe_callTy call_int1 (by rfl) T.int (by decide +kernel) (pa_cons (pe_dget hu (pv 0) pe_str (fun _ _ => rfl)) pa_nil)) (pv 1)))
          (pss_cons (ps_dput hu (pv 0) pe_str (pe_op op_fdivN (pe_dget hu (pv 0) pe_str (fun _ _ => rfl)) (pv 1)) rfl)
          (pss_one (ps_ret (pv 2))))) pss_nil)) (
      pss_cons (by exact (ps_set (i := 3) scD.nd rfl (.inl rfl) (pe_dget hu (pv 0) pe_str (fun _ _ => rfl)))) (
      pss_cons (by exact (ps_dput hu (pv 0) pe_str (pe_op op_add (pv 3) pe_int) rfl)) (
      pss_cons (by exact (ps_set (i := 4) scD.nd rfl (.inl rfl) (pe_op op_add (pe_op op_mul pe_int (pv 3)) pe_int))) (
      pss_cons (by exact (ps_if (pt_cmpR (op_neD hu6) (pe_dget hu (pv 0) pe_str (fun _ _ => rfl)) (pe_lst pa_nil) (nomark _))
          (pss_one (ps_set (i := 4) scD.nd rfl (.inl rfl) (pe_ix ix_list (pe_dget hu (pv 0) pe_str (fun _ _ => rfl))
            (pe_op op_modN (pe_callTy call_int1 (by rfl) T.int (by decide +kernel) (pa_cons (pv 3) pa_nil)) (pe_callB call_len_seq (by rfl) T.len PySem.boot_len (pa_cons (pe_dget hu (pv 0) pe_str (fun _ _ => rfl)) pa_nil))) (fun _ _ => rfl)))) pss_nil)) (
      pss_cons (by exact (ps_if (PW.pt (pw_and (pt_cmpR op_lt (pv 3) (pe_callB call_len_seq (by rfl) T.len PySem.boot_len (pa_cons (pe_dget hu (pv 0) pe_str (fun _ _ => rfl)) pa_nil)) (nomark _))
            (pw_and1 (pt_cmpR op_ge (pe_callB call_abs (by rfl) T.abs (by decide +kernel) (pa_cons (pv 4) pa_nil)) (pe_op op_pow pe_int pe_int) (nomark _)))))
          (pss_cons (ps_dput hu (pv 0) pe_str (pe_op op_fdivN (pe_op op_sub (pe_callB call_abs (by rfl) T.abs (by decide +kernel) (pa_cons (pv 4) pa_nil)) (pe_op op_pow pe_int pe_int)) (pv 1)) rfl)
          (pss_one (ps_ret (pe_op op_modN (pe_op op_sub (pe_callB call_abs (by rfl) T.abs (by decide +kernel) (pa_cons (pv 4) pa_nil)) (pe_op op_pow pe_int pe_int)) (pv 1))))) pss_nil)) (
      pss_cons (by exact (ps_set (i := 5) scD.nd rfl (.inl rfl) (pe_lst (pa_cons pe_int (pa_cons pe_int (pa_cons pe_int (pa_cons pe_int (pa_cons pe_int pa_nil)))))))) (
      pss_cons (by exact (ps_set (i := 6) scD.nd rfl (.inl rfl) (pe_ix ix_list (pv 5) (pe_op op_modN (pe_callTy call_int1 (by rfl) T.int (by decide +kernel) (pa_cons (pv 3) pa_nil)) pe_int) (fun _ _ => rfl)))) (
      pss_cons (by exact (ps_set (i := 7) scD.nd rfl (.inl rfl) (pe_op op_modN (pe_callTy call_int1 (by rfl) T.int (by decide +kernel) (pa_cons
          (pe_op op_add (pe_op op_add (pe_op op_mul (pe_op op_modN (pe_callTy call_int1 (by rfl) T.int (by decide +kernel) (pa_cons (pv 4) pa_nil)) (pv 6)) pe_int)
            (pe_op op_mul (pv 3) (pe_op op_add (pe_op op_mul pe_int (pv 3)) pe_int))) pe_int) pa_nil)) (pv 6)))) (
      pss_cons (by exact (ps_set (i := 7) scD.nd rfl (.inl rfl) (pe_op op_modN (pe_callTy call_int1 (by rfl) T.int (by decide +kernel) (pa_cons (pe_op op_mul (pv 7) (pe_op op_add (pv 7) pe_int)) pa_nil))
          (pe_ix ix_list (pv 5) (pe_op op_modN (pe_callTy call_int1 (by rfl) T.int (by decide +kernel) (pa_cons (pe_op op_add (pv 3) pe_int) pa_nil)) pe_int) (fun _ _ => rfl))))) (
      pss_one (by exact (ps_ret (pe_op op_modN (pe_callTy call_int1 (by rfl) T.int (by decide +kernel) (pa_cons (pe_op op_fdiv (pe_op op_mod (pe_callTy call_int1 (by rfl) T.int (by decide +kernel) (pa_cons
          (pe_op op_add (pe_op op_add (pe_op op_mul (pv 7) (pv 7)) (pe_op op_mul pe_int (pv 7))) (pv 3)) pa_nil)) pe_int) pe_int) pa_nil)) (pv 1)))))))))))))), ?_⟩
    have ns0 : span ≠ 0 := by omega
    have nsb : span.natAbs < 1073741824 := by omega
    -- left > 0
    refine ⟨_, rfl, d, _, rfl, p.getL, _, _, rfl, rfl, _, rfl, ?_⟩
    refine ite2 (fun _ => ?_) (fun _ => ?_)
    · refine ⟨_, rfl, d, _, rfl, p.getL, .inl ⟨_, rfl, _, rfl, _, _, rfl, rfl, ns0, ?_⟩⟩
      refine ⟨_, rfl, d, _, rfl, p.getL, _, rfl, _, _, rfl, rfl, ⟨ns0, nsb⟩, _, rfl, d, _, rfl, DPut.k (k := kL) p.dc p.small, ?_⟩
      refine ⟨_, rfl, ?_⟩
      obtain ⟨r0, r1⟩ := fmod_in (a := l) (b := span) (by omega)
      exact k _ _ r0 r1 ((p.putL _).more (by omega)) but_upd
    -- turn, turn + 1, cell
    · refine ⟨_, rfl, d, _, rfl, p.getT, ?_⟩
      refine ⟨_, rfl, _, _, rfl, rfl, _, rfl, d, _, rfl, DPut.k (k := kT) p.dc p.small, ?_⟩
      have p1 := p.putT
      have b1 : But d H (upd H d (.dK (putK kvs kT (.int (t + 1))))) := but_upd
      generalize upd H d (.dK (putK kvs kT (.int (t + 1)))) = H1 at p1 b1
      clear p
      generalize putK kvs kT (.int (t + 1)) = kvs1 at p1
      have t1 := p1.t0
      have t2 := p1.tn
      refine ⟨_, rfl, _, _, rfl, rfl, .inl ⟨by decide, by decide⟩, _, _, rfl, rfl, ?_⟩
      -- the cell
      refine ⟨_, rfl, d, _, rfl, p1.getC, (by show 0 ≤ sizeLine; decide), fun l0 hl0 => ?_⟩
      have p2 := p1.keep (same_upd (o := .lst []) hl0)
      have b2 : But d H (upd H1 l0 (.lst [])) := b1.trans (But.same (same_upd hl0))
      refine ⟨.list (ns.map PyData.int), .list [], .lst (SqL.of p2.cs) (dp_ints ns), .lst (SqL.of upd_same) .nil, shaped_ints ns, rfl, _, rfl, ?_⟩
      generalize upd H1 l0 (.lst []) = H2 at p2 b2
      refine ite2 (fun hne => ?ga) (fun _ => ?gb)
      case' ga =>
        have npos : 0 < ((ns.map V.int).length : Int) := by
          cases ns with
          | nil => exact absurd hne (by decide)
          | cons a r => rw [List.map_cons, List.length_cons]; omega
        obtain ⟨j, v, e1, e2⟩ := at_fmod (xs := ns.map V.int) (k := t) npos
        obtain ⟨z, rfl⟩ : ∃ z, v = V.int z := by
          rw [List.getElem?_map] at e2
          cases e : ns[j]? with
          | none => rw [e]
                at e2; cases e2
          | some z => rw [e] at e2; exact ⟨z, (Option.some.inj e2).symm⟩
        refine ⟨_, rfl, d, _, rfl, p2.getC, _, rfl, .inl ⟨_, rfl, _, rfl, d, _, rfl, p2.getC, c, _, rfl, .inl (SqL.of p2.cs), _, _, rfl, rfl, (by omega), c, _, _, _, rfl, rfl, SqL.of p2.cs, (by rw [e1]; exact atI_nat e2), ?_⟩⟩
      case' gb =>
        (try dsimp only)
        generalize 43 * t + 19 = z
      all_goals
        refine ⟨_, rfl, _, rfl, d, _, rfl, p2.getC, c, _, rfl, .inl (SqL.of p2.cs), _, _, rfl, rfl, _, rfl, ?_⟩
        refine ite2 (fun _ => ?_) (fun _ => ?_)
      case' ga.refine_1 =>
        refine ⟨_, rfl, _, rfl, _, _, rfl, rfl, ⟨by decide, by decide, by decide⟩, _, _, rfl, rfl, _, rfl, ?_⟩
        refine ite2 (fun _ => ?u1) (fun _ => ?u2)
      case' gb.refine_1 =>
        refine ⟨_, rfl, _, rfl, _, _, rfl, rfl, ⟨by decide, by decide, by decide⟩, _, _, rfl, rfl, _, rfl, ?_⟩
        refine ite2 (fun _ => ?v1) (fun _ => ?v2)
      case' u1 =>
        refine ⟨_, rfl, _, rfl, _, _, rfl, rfl, ⟨by decide, by decide, by decide⟩, _, _, rfl, rfl, _, rfl, _, _, rfl, rfl, ⟨ns0, nsb⟩, _, rfl, d, _, rfl, DPut.k (k := kL) p2.dc p2.small, ?_⟩
        refine ⟨_, rfl, _, rfl, _, _, rfl, rfl, ⟨by decide, by decide, by decide⟩, _, _, rfl, rfl, _, rfl, _, _, rfl, rfl, ns0, ?_⟩
        generalize (if z < 0 then -z else z) - (10 : Int) ^ (18 : Int).toNat = y
        obtain ⟨r0, r1⟩ := fmod_in (a := y) (b := span) (by omega)
        exact k _ _ r0 r1 ((p2.putL _).more (by omega)) (b2.trans but_upd)
      case' v1 =>
        refine ⟨_, rfl, _, rfl, _, _, rfl, rfl, ⟨by decide, by decide, by decide⟩, _, _, rfl, rfl, _, rfl, _, _, rfl, rfl, ⟨ns0, nsb⟩, _, rfl, d, _, rfl, DPut.k (k := kL) p2.dc p2.small, ?_⟩
        refine ⟨_, rfl, _, rfl, _, _, rfl, rfl, ⟨by decide, by decide, by decide⟩, _, _, rfl, rfl, _, rfl, _, _, rfl, rfl, ns0, ?_⟩
        obtain ⟨r0, r1⟩ := fmod_in (a := (if z < 0 then -z else z) - (10 : Int) ^ (18 : Int).toNat) (b := span) (by omega)
        exact k _ _ r0 r1 ((p2.putL _).more (by omega)) (b2.trans but_upd)
      all_goals
        obtain ⟨q, e1, q2, q3⟩ := prime_at (k := t)
        obtain ⟨q', e1', q2', q3'⟩ := prime_at (k := t + 2)
        refine ⟨(by show 5 ≤ sizeLine; decide), fun l1 hl1 => ?_⟩
        have p3 := p2.keep (same_upd (o := .lst (primesI.map V.int)) hl1)
        have b3 : But d H (upd H2 l1 (.lst (primesI.map V.int))) := b2.trans (But.same (same_upd hl1))
        have hp : (upd H2 l1 (.lst (primesI.map V.int))) l1 = some (.lst (primesI.map V.int)) := upd_same
        refine ⟨_, rfl, _, rfl, .inl ⟨_, rfl, _, _, rfl, rfl, (by show (5 : Int) ≠ 0; decide), l1, primesI.map V.int, _, _, rfl, rfl, SqL.of hp, e1, ?_⟩⟩
        obtain ⟨x0, x1⟩ := fmod_in (a := z) (b := q) (by omega)
        refine ⟨_, rfl, .inl ⟨_, rfl, _, rfl, _, _, rfl, rfl, (by omega), _, _, rfl, rfl, .inr ⟨by decide, by decide⟩, _, rfl, _, rfl, _, _, rfl, rfl, .inl ⟨by decide, by decide⟩, _, _, rfl, rfl, _, _, rfl, rfl, .inl ⟨by omega, by omega⟩,
          _, _, rfl, rfl, _, _, rfl, rfl, .inl ⟨_, rfl, _, rfl, _, _, rfl, rfl, (by omega), ?_⟩⟩⟩
        obtain ⟨y0, y1⟩ := fmod_in (a := z.fmod q * 39373 + t * (30011 * t + 8117) + 23) (b := q) (by omega)
        (try dsimp only)
        generalize (z.fmod q * 39373 + t * (30011 * t + 8117) + 23).fmod q = y' at y0 y1 ⊢
        refine ⟨_, rfl, _, rfl, _, _, rfl, rfl, _, _, rfl, rfl, .inl ⟨by omega, by omega⟩, .inl ⟨_, rfl, _, rfl, _, rfl, _, _, rfl, rfl, .inl ⟨_, rfl, _, _, rfl, rfl, (by show (5 : Int) ≠ 0; decide), l1, primesI.map V.int, _, _, rfl, rfl, SqL.of hp, e1', _, _, rfl, rfl, (by omega), ?_⟩⟩⟩
        obtain ⟨w0, w1⟩ := fmod_in (a := y' * (y' + 69621)) (b := q') (by omega)
        (try dsimp only)
        generalize (y' * (y' + 69621)).fmod q' = w at w0 w1 ⊢
        refine ⟨_, rfl, _, rfl, _, _, rfl, rfl, .inl ⟨by omega, by omega⟩, _, rfl, _, _, rfl, rfl, .inl ⟨by decide, by decide⟩, _, _, rfl, rfl, _, rfl, _, _, rfl, rfl, .inl ⟨_, rfl, _, _, rfl, rfl, (by show (0 : Int) < 2147483549; decide), _, _, rfl, rfl, ⟨by decide, by decide⟩, .inl ⟨_, rfl, _, rfl, _, _, rfl, rfl, ns0, ?_⟩⟩⟩
        (try dsimp only)
        generalize (w * w + 16807 * w + t) % 2147483549 / 64 = u
        obtain ⟨r0, r1⟩ := fmod_in (a := u) (b := span) (by omega)
        exact k _ _ r0 r1 (p3.more (by omega)) b3
end
end LK

set_option maxRecDepth 100000
set_option maxHeartbeats 8000000
namespace LK
open PySem L2 XK
abbrev sAny : Stmt := top 32
theorem cutInts (ns : List Int) (lo hi : Option Int) : ∃ ms : List Int, cutV (ns.map V.int) lo hi = ms.map V.int ∧ ms.length ≤ ns.length := by
  unfold cutV
  rw [← List.map_drop, ← List.map_take]
  refine ⟨_, rfl, ?_⟩
  rw [List.length_take,
        List.length_drop]
  omega
/-- a thing of which repr tells the same, alone and twice in a list -/
def Good (K : PySem.W.Frag) (H : Hp) (v : V) : Prop := ∃ d : PyData, DX K H v d ∧ Shows d ∧ Shows (.list [d, d])
mutual
theorem dp_mono {K : PySem.W.Frag} {H H' : Hp} (s : Same H H') : ∀ (d : PyData) (v : V), Dp K H v d → Dp K H' v d
  | .none, _, h => by cases h; exact .non
  | .bool _, _, h => by cases h; exact .bl _
  | .int _, _, h => by cases h; exact .int _
  | .str _, _, h => by cases h; exact .str _
  | .list ds, _, h => by
    cases h with
    | lst a b => exact .lst (s.seq a) (dps_mono s ds _ b)
  | .tuple ds, _, h => by
    cases h with
    | tup a b =>
      refine .tup ?_ (dps_mono s ds _ b)
      rcases a with (a | ⟨o, a⟩) | a
      · exact .inl (.inl (s _ _ a))
      · exact .inl (.inr ⟨o, s _ _ a⟩)
      · exact .inr a
  | .dict _, _, h => by cases h
theorem dps_mono {K : PySem.W.Frag} {H H' : Hp} (s : Same H H') : ∀ (ds : List PyData) (vs : List V), DpAll K H vs ds → DpAll K H' vs ds
  | [], _, h => by cases h; exact .nil
  | d :: ds, _, h => by
    cases h with
    | cons a b => exact .cons (dp_mono s d _ a) (dps_mono s ds _ b)
end
theorem dx_mono {K : PySem.W.Frag} {H H' : Hp} (s : Same H H') {v : V} {d : PyData} (h : DX K H v d) : DX K H' v d := by
  cases h with
  | dp h => exact .dp (dp_mono s _ _ h)
  | dc a b c fk fv => exact .dc (s _ _ a) (dps_mono s _ _ b) (dps_mono s _ _ c) fk fv
theorem Good.mono {K : PySem.W.Frag} {H H' : Hp} (s : Same H H') {v : V} (h : Good K H v) : Good K H' v := by
  obtain ⟨d, a, b, c⟩ := h
  exact ⟨d, dx_mono s a, b, c⟩
theorem same_upd2 {H : Hp} {p : Addr} {o u : HO} (hp : H p = none) : Same H (upd (upd H p o) p u) := by
  rw [upd_upd]
  exact same_upd hp

theorem sw0 : Shows (.none) ∧ Shows (.list [.none, .none]) := ⟨⟨by decide +kernel, by decide +kernel, by decide +kernel⟩, ⟨by decide +kernel, by decide +kernel, by decide +kernel⟩⟩
theorem sw1 : Shows (.bool true) ∧ Shows (.list [.bool true, .bool true]) := ⟨⟨by decide +kernel, by decide +kernel, by decide +kernel⟩, ⟨by decide +kernel, by decide +kernel, by decide +kernel⟩⟩
theorem sw2 : Shows (.bool false) ∧ Shows (.list [.bool false, .bool false]) := ⟨⟨by decide +kernel, by decide +kernel, by decide +kernel⟩, ⟨by decide +kernel, by decide +kernel, by decide +kernel⟩⟩
theorem sw3 : Shows (.int 0) ∧ Shows (.list [.int 0, .int 0]) := ⟨⟨by decide +kernel, by decide +kernel, by decide +kernel⟩, ⟨by decide +kernel, by decide +kernel, by decide +kernel⟩⟩
theorem sw4 : Shows (.int 1) ∧ Shows (.list [.int 1, .int 1]) := ⟨⟨by decide +kernel, by decide +kernel, by decide +kernel⟩, ⟨by decide +kernel, by decide +kernel, by decide +kernel⟩⟩
theorem sw5 : Shows (.int (-1)) ∧ Shows (.list [.int (-1), .int (-1)]) := ⟨⟨by decide +kernel, by decide +kernel, by decide +kernel⟩, ⟨by decide +kernel, by decide +kernel, by decide +kernel⟩⟩
theorem sw6 : Shows (.int (10 ^ (59 : Int).toNat)) ∧ Shows (.list [.int (10 ^ (59 : Int).toNat), .int (10 ^ (59 : Int).toNat)]) := ⟨⟨by decide +kernel, by decide +kernel, by decide +kernel⟩, ⟨by decide +kernel, by decide +kernel, by decide +kernel⟩⟩
theorem sw7 : Shows (.str "") ∧ Shows (.list [.str "", .str ""]) := ⟨⟨by decide +kernel, by decide +kernel, by decide +kernel⟩, ⟨by decide +kernel, by decide +kernel, by decide +kernel⟩⟩
theorem sw8 : Shows (.str "a") ∧ Shows (.list [.str "a", .str "a"]) := ⟨⟨by decide +kernel, by decide +kernel, by decide +kernel⟩, ⟨by decide +kernel, by decide +kernel, by decide +kernel⟩⟩
theorem sw9 : Shows (.str "\t") ∧ Shows (.list [.str "\t", .str "\t"]) := ⟨⟨by decide +kernel, by decide +kernel, by decide +kernel⟩, ⟨by decide +kernel, by decide +kernel, by decide +kernel⟩⟩
theorem sw10 : Shows (.str "a\n") ∧ Shows (.list [.str "a\n", .str "a\n"]) := ⟨⟨by decide +kernel, by decide +kernel, by decide +kernel⟩, ⟨by decide +kernel, by decide +kernel, by decide +kernel⟩⟩
theorem sw11 : Shows (.str "ab") ∧ Shows (.list [.str "ab", .str "ab"]) := ⟨⟨by decide +kernel, by decide +kernel, by decide +kernel⟩, ⟨by decide +kernel, by decide +kernel, by decide +kernel⟩⟩
theorem sw12 : Shows (.tuple []) ∧ Shows (.list [.tuple [], .tuple []]) := ⟨⟨by decide +kernel, by decide +kernel, by decide +kernel⟩, ⟨by decide +kernel, by decide +kernel, by decide +kernel⟩⟩
theorem sw13 : Shows (.tuple [.str "a"]) ∧ Shows (.list [.tuple [.str "a"], .tuple [.str "a"]]) := ⟨⟨by decide +kernel, by decide +kernel, by decide +kernel⟩, ⟨by decide +kernel, by decide +kernel, by decide +kernel⟩⟩
theorem sw14 : Shows (.list [.str "a", .str "b"]) ∧ Shows (.list [.list [.str "a", .str "b"], .list [.str "a", .str "b"]]) := ⟨⟨by decide +kernel, by decide +kernel, by decide +kernel⟩, ⟨by decide +kernel, by decide +kernel, by decide +kernel⟩⟩
theorem sw15 : Shows (.dict (List.zip [] [])) ∧ Shows (.list [.dict (List.zip [] []), .dict (List.zip [] [])]) := ⟨⟨by decide +kernel, by decide +kernel, by decide +kernel⟩, ⟨by decide +kernel, by decide +kernel, by decide +kernel⟩⟩
theorem sw16 : Shows (.list [.int 1]) ∧ Shows (.list [.list [.int 1], .list [.int 1]]) := ⟨⟨by decide +kernel, by decide +kernel, by decide +kernel⟩, ⟨by decide +kernel, by decide +kernel, by decide +kernel⟩⟩
theorem sw17 : Shows (.tuple [.str "a", .int 1]) ∧ Shows (.list [.tuple [.str "a", .int 1], .tuple [.str "a", .int 1]]) := ⟨⟨by decide +kernel, by decide +kernel, by decide +kernel⟩, ⟨by decide +kernel, by decide +kernel, by decide +kernel⟩⟩
theorem sw18 : Shows (.dict (List.zip [.str "a"] [.str "b"])) ∧ Shows (.list [.dict (List.zip [.str "a"] [.str "b"]), .dict (List.zip [.str "a"] [.str "b"])]) := ⟨⟨by decide +kernel, by decide +kernel, by decide +kernel⟩, ⟨by decide +kernel, by decide +kernel, by decide +kernel⟩⟩
theorem sw19 : Shows (.str "print") ∧ Shows (.list [.str "print", .str "print"]) := ⟨⟨by decide +kernel, by decide +kernel, by decide +kernel⟩, ⟨by decide +kernel, by decide +kernel, by decide +kernel⟩⟩
theorem sw20 : Shows (.str (Txt.mul "a" 9)) ∧ Shows (.list [.str (Txt.mul "a" 9), .str (Txt.mul "a" 9)]) := ⟨⟨by decide +kernel, by decide +kernel, by decide +kernel⟩, ⟨by decide +kernel, by decide +kernel, by decide +kernel⟩⟩
theorem sw21 : Shows (.str (Txt.mul "a" 21)) ∧ Shows (.list [.str (Txt.mul "a" 21), .str (Txt.mul "a" 21)]) := ⟨⟨by decide +kernel, by decide +kernel, by decide +kernel⟩, ⟨by decide +kernel, by decide +kernel, by decide +kernel⟩⟩
theorem sw22 : Shows (.tuple [.str "a\tb"]) ∧ Shows (.list [.tuple [.str "a\tb"], .tuple [.str "a\tb"]]) := ⟨⟨by decide +kernel, by decide +kernel, by decide +kernel⟩, ⟨by decide +kernel, by decide +kernel, by decide +kernel⟩⟩
theorem sw23 : Shows (.list [.list [.str "a"]]) ∧ Shows (.list [.list [.list [.str "a"]], .list [.list [.str "a"]]]) := ⟨⟨by decide +kernel, by decide +kernel, by decide +kernel⟩, ⟨by decide +kernel, by decide +kernel, by decide +kernel⟩⟩
theorem sw24 : Shows (.tuple [.int 0, .int 1]) ∧ Shows (.list [.tuple [.int 0, .int 1], .tuple [.int 0, .int 1]]) := ⟨⟨by decide +kernel, by decide +kernel, by decide +kernel⟩, ⟨by decide +kernel, by decide +kernel, by decide +kernel⟩⟩
theorem sw25 : Shows (.str "aa") ∧ Shows (.list [.str "aa", .str "aa"]) := ⟨⟨by decide +kernel, by decide +kernel, by decide +kernel⟩, ⟨by decide +kernel, by decide +kernel, by decide +kernel⟩⟩
theorem sw26 : Shows (.list []) ∧ Shows (.list [.list [], .list []]) := ⟨⟨by decide +kernel, by decide +kernel, by decide +kernel⟩, ⟨by decide +kernel, by decide +kernel, by decide +kernel⟩⟩
theorem sw27 : Shows (.tuple [.str "number", .int 1]) ∧ Shows (.list [.tuple [.str "number", .int 1], .tuple [.str "number", .int 1]]) := ⟨⟨by decide +kernel, by decide +kernel, by decide +kernel⟩, ⟨by decide +kernel, by decide +kernel, by decide +kernel⟩⟩
theorem all_good {K : PySem.W.Frag} {H : Hp} {t1 t2 l3 d4 l5 t6 t8 l9 l10 t11 l12 t13 d7 : Addr} (f_t1 : H t1 = some (.tup [])) (f_t2 : H t2 = some (.tup [.str "a"])) (f_l3 : H l3 = some (.lst [.str "a", .str "b"])) (f_d4 : H d4 = some (.dK [])) (f_l5 : H l5 = some (.lst [.int 1])) (f_t6 : H t6 = some (.tup [.str "a", .int 1])) (f_t8 : H t8 = some (.tup [.str "a\tb"])) (f_l9 : H l9 = some (.lst [.str "a"])) (f_l10 : H l10 = some (.lst [.ref l9])) (f_t11 : H t11 = some (.tup [.int 0, .int 1])) (f_l12 : H l12 = some (.lst [])) (f_t13 : H t13 = some (.tup [.str "number", .int 1])) (f_d7 : H d7 = some (.dK [(Sum.inr "a", .str "b")])) :
    ∀ v ∈ ([.non, .bl true, .bl false, .int 0, .int 1, .int (-1), .int (10 ^ (59 : Int).toNat), .str "", .str "a", .str "\t", .str "a\n", .str "ab", .ref t1, .ref t2, .ref l3, .ref d4, .ref l5, .ref t6, .ref d7, .str "print", .str (Txt.mul "a" 9), .str (Txt.mul "a" 21), .ref t8, .ref l10, .ref t11, .str "aa", .ref l12, .ref t13] : List V), Good K H v := by
  intro v hv
  simp only [List.mem_cons, List.not_mem_nil, or_false] at hv
  rcases hv with rfl | rfl | rfl | rfl | rfl | rfl | rfl | rfl | rfl | rfl | rfl | rfl | rfl | rfl | rfl | rfl | rfl | rfl | rfl | rfl | rfl | rfl | rfl | rfl | rfl | rfl | rfl | rfl
  · exact ⟨.none, (.dp .non), sw0⟩
  · exact ⟨.bool true, (.dp (.bl _)), sw1⟩
  · exact ⟨.bool false, (.dp (.bl _)), sw2⟩
  · exact ⟨.int 0, (.dp (.int _)), sw3⟩
  · exact ⟨.int 1, (.dp (.int _)), sw4⟩
  · exact ⟨.int (-1), (.dp (.int _)), sw5⟩
  · exact ⟨.int (10 ^ (59 : Int).toNat), (.dp (.int _)), sw6⟩
  · exact ⟨.str "", (.dp (.str _)), sw7⟩
  · exact ⟨.str "a", (.dp (.str _)), sw8⟩
  · exact ⟨.str "\t", (.dp (.str _)), sw9⟩
  · exact ⟨.str "a\n", (.dp (.str _)), sw10⟩
  · exact ⟨.str "ab", (.dp (.str _)), sw11⟩
  · exact ⟨.tuple [], (.dp (.tup (.inl (.inl f_t1)) .nil)), sw12⟩
  · exact ⟨.tuple [.str "a"], (.dp (.tup (.inl (.inl f_t2)) (.cons (.str _) .nil))), sw13⟩
  · exact ⟨.list [.str "a", .str "b"], (.dp (.lst (SqL.of f_l3) (.cons (.str _) (.cons (.str _) .nil)))), sw14⟩
  · exact ⟨.dict (List.zip [] []), (.dc (ks := []) (vs := []) f_d4 .nil .nil rfl rfl), sw15⟩
  · exact ⟨.list [.int 1], (.dp (.lst (SqL.of f_l5) (.cons (.int _) .nil))), sw16⟩
  · exact ⟨.tuple [.str "a", .int 1], (.dp (.tup (.inl (.inl f_t6)) (.cons (.str _) (.cons (.int _) .nil)))), sw17⟩
  · exact ⟨.dict (List.zip [.str "a"] [.str "b"]), (.dc (ks := [.str "a"]) (vs := [.str "b"]) f_d7 (.cons (.str _) .nil) (.cons (.str _) .nil) rfl rfl), sw18⟩
  · exact ⟨.str "print", (.dp (.str _)), sw19⟩
  · exact ⟨.str (Txt.mul "a" 9), (.dp (.str _)), sw20⟩
  · exact ⟨.str (Txt.mul "a" 21), (.dp (.str _)), sw21⟩
  · exact ⟨.tuple [.str "a\tb"], (.dp (.tup (.inl (.inl f_t8)) (.cons (.str _) .nil))), sw22⟩
  · exact ⟨.list [.list [.str "a"]], (.dp (.lst (SqL.of f_l10) (.cons (.lst (SqL.of f_l9) (.cons (.str _) .nil)) .nil))), sw23⟩
  · exact ⟨.tuple [.int 0, .int 1], (.dp (.tup (.inl (.inl f_t11)) (.cons (.int _) (.cons (.int _) .nil)))), sw24⟩
  · exact ⟨.str "aa", (.dp (.str _)), sw25⟩
  · exact ⟨.list [], (.dp (.lst (SqL.of f_l12) .nil)), sw26⟩
  · exact ⟨.tuple [.str "number", .int 1], (.dp (.tup (.inl (.inl f_t13)) (.cons (.str _) (.cons (.int _) .nil)))), sw27⟩
section
variable {P : Program} {w : World} {K : PySem.W.Frag} {mg : Str → Option Value} {base : Heap}
theorem scN : FnScope ["_law_script"] ["_law_script"] (defScope sPen) := ⟨rfl, rfl, rfl, by decide +kernel, rfl, by decide +kernel, by decide +kernel⟩
theorem ok_pen {f : Addr} {fd : FuncData} (F : Fun K "_law_pen" "_law_pen" sPen f fd) (T : Txt mg) : FnOk P w K mg base CX0 1 f fd ["_law_script"] (spPen K) := by
  refine F.ok scN (fun vs H Q E h => ?_) (fun cdv A outer s H vs Q E hr h => ?_)
  · obtain ⟨a, ns, rfl, _⟩ := h
    rfl
  · obtain ⟨a, ns, rfl, hS, hl, k⟩ := h
    refine ⟨_, pss_one (by exact (ps_ret (pe_disp (pps_cons pe_str (pe_callTy call_list_of (by rfl) T.list (by decide +kernel) (pa_cons (pe_slice sl_list (pv 0) po_none (po_some pe_int)) pa_nil)) (pps_cons pe_str pe_int (pps_cons pe_str pe_int pps_nil))) (by rfl) (by rfl) (fun z => by cases z) (by decide)))), ?_⟩
    intro d nd
    have s1 : Same H (upd H d (.dK [])) := same_upd nd
    obtain ⟨ms, em, lm⟩ := cutInts ns none (some 63)
    refine ⟨_, rfl, _, rfl, a, _, rfl, s1.seq hS, fun p np => ?_⟩
    have s2 : Same (upd H d (.dK [])) (upd (upd H d (.dK [])) p (.lst (cutV (ns.map V.int) none (some 63)))) := same_upd np
    refine ⟨p, _, rfl, .inl (SqL.of upd_same), fun c nc => ?_⟩
    have s3 : Same (upd (upd H d (.dK [])) p (.lst (cutV (ns.map V.int) none (some 63)))) (upd (upd (upd H d (.dK [])) p (.lst (cutV (ns.map V.int) none (some 63)))) c (.lst (cutV (ns.map V.int) none (some 63)))) := same_upd nc
    have hd := (s2.trans s3) _ _ (upd_same (H := H) (a := d) (o := .dK []))
    refine ⟨hd, [(kC, .ref c), (kT, .int 0), (kL, .int 0)], rfl, by show 3 ≤ 15; decide, ?_⟩
    have ncd : c ≠ d := Ne.symm (ne_of_none (s2 _ _ upd_same) nc)
    refine k d c ms _ ⟨_, 0, 0, upd_same, ?_, ?_, ?_, Int.le_refl _, Int.le_refl _, ?_, ?_, by omega⟩ (fun b o e => ?_) nd ?_
    · show valV (putK (putK (putK [] kC (.ref c)) kT (.int 0)) kL (.int 0)) kC = _
      rw [valV_put, if_neg nCL, valV_put, if_neg nCT, valV_put, if_pos rfl]
    · show valV (putK (putK (putK [] kC (.ref c)) kT (.int 0)) kL (.int 0)) kT = _
      rw [valV_put, if_neg nTL, valV_put, if_pos rfl]
    · show valV (putK (putK (putK [] kC (.ref c)) kT (.int 0)) kL (.int 0)) kL = _
      rw [valV_put, if_pos rfl]
    · exact length_mergeK _ _
    · rw [upd_ne ncd, upd_same, em]
    · rw [upd_ne (ne_of_none e nd)]
      exact (s1.trans (s2.trans s3)) _ _ e
    · exact (s1.trans s2).free nc
/-- pick, of a list -/
def spPick : Sp := fun vs H Q _ => ∃ (d c l : Addr) (n : Int) (ns : List Int) (xs : List V), vs = [.ref d, .ref l] ∧ PenAt H d c n ns ∧ n < 1000000 ∧ H l = some (.lst xs) ∧ 0 < xs.length ∧ xs.length < 1000000 ∧
  ∀ (v : V) (H' : Hp), v ∈ xs → PenAt H' d c (n + 1) ns → But d H H' → Q v H'
theorem scP : FnScope ["_law_pen_here", "_law_options"] ["_law_pen_here", "_law_options"] (defScope sPick) := ⟨rfl, rfl, rfl, by decide +kernel, rfl, by decide +kernel, by decide +kernel⟩
theorem ok_pick {f fD : Addr} {fd fdD : FuncData} (F : Fun K "_law_pick" "_law_pick" sPick f fd) (T : Txt mg) (GD : FnOk P w K mg base CX0 1 fD fdD ["_law_pen_here", "_law_span"] spDraw) (mD : mg "_law_draw" = some (.ref fD)) (kD : PySem.W.keepIn K (.ref fD) = true) (bD : Binds K fdD ["_law_pen_here", "_law_span"] []) :
    FnOk P w K mg base CX0 2 f fd ["_law_pen_here", "_law_options"] spPick := by
  refine F.ok scP (fun vs H Q E h => ?_) (fun cdv A outer s H vs Q E hr h => ?_)
  · obtain ⟨d, c, l, n, ns, xs, rfl, _⟩ := h
    rfl
  · obtain ⟨d, c, l, n, ns, xs, rfl, pen, hn, hl, h0, h1, k⟩ := h
    refine ⟨_, pss_one (by exact (ps_ret (pe_ix ix_list (pv 1) (pe_call GD hr rfl mD kD bD .nil pass0 (pa_cons (pv 0) (pa_cons (pe_callB call_len_seq (by rfl) T.len PySem.boot_len (pa_cons (pv 1) pa_nil)) pa_nil))) (fun _ _ => rfl)))), ?_⟩
    have nld : l ≠ d := by
      obtain ⟨_, _, _, p⟩ := pen
      exact ne_of hl p.dc (by intro z; cases z)
    refine ⟨_, rfl, _, rfl, _, rfl, l, xs, rfl, .inl (SqL.of hl), ?_⟩
    refine ⟨d, c, n, ns, (xs.length : Int), rfl, pen, hn, by omega, by omega, fun r H' r0 r1 pen' but => ?_⟩
    obtain ⟨j, rfl⟩ := Int.eq_ofNat_of_zero_le r0
    have hj : j < xs.length := by omega
    refine ⟨l, xs, _, xs[j], rfl, rfl, SqL.of (but _ _ hl nld), atI_nat (List.getElem?_eq_getElem hj), ?_⟩
    exact k _ _ (List.getElem_mem hj) pen' but
theorem scA : FnScope ["_law_pen_here", "_law_some"] ["_law_pen_here"] (defScope sAny) := ⟨rfl, rfl, rfl, by decide +kernel, rfl, by decide +kernel, by decide +kernel⟩
/-- any of the things -/
def spAny (K : PySem.W.Frag) : Sp := fun vs H Q _ => ∃ (d c : Addr) (n : Int) (ns : List Int), vs = [.ref d] ∧ PenAt H d c n ns ∧ n < 1000000 ∧
  ∀ (v : V) (H' : Hp), Good K H' v → PenAt H' d c (n + 1) ns → But d H H' → Q v H'
theorem ok_any {f fP : Addr} {fd fdP : FuncData} (F : Fun K "_law_any_value" "_law_any_value" sAny f fd) (GP : FnOk P w K mg base CX0 2 fP fdP ["_law_pen_here", "_law_options"] spPick) (mP : mg "_law_pick" = some (.ref fP)) (kP : PySem.W.keepIn K (.ref fP) = true) (bP : Binds K fdP ["_law_pen_here", "_law_options"] []) :
    FnOk P w K mg base CX0 3 f fd ["_law_pen_here"] (spAny K) := by
  refine F.ok scA (fun vs H Q E h => ?_) (fun cdv A outer s H vs Q E hr h => ?_)
  · obtain ⟨d, c, n, ns, rfl, _⟩ := h
    rfl
  · obtain ⟨d, c, n, ns, rfl, pen, hn, k⟩ := h
    have hr2 : Room 2 _ := hr.mono (by decide)
    refine ⟨_, pss_cons (by exact (ps_set (i := 1) scA.nd rfl (.inl rfl) (pe_lst (pa_cons pe_non (pa_cons pe_bl (pa_cons pe_bl (pa_cons pe_int (pa_cons pe_int (pa_cons (pe_un un_neg pe_int) (pa_cons (pe_op op_pow pe_int pe_int) (pa_cons pe_str (pa_cons pe_str (pa_cons pe_str (pa_cons pe_str (pa_cons pe_str (pa_cons (pe_tup pa_nil) (pa_cons (pe_tup (pa_cons pe_str pa_nil)) (pa_cons (pe_lst (pa_cons pe_str (pa_cons pe_str pa_nil))) (pa_cons pe_dnewK (pa_cons (pe_lst (pa_cons pe_int pa_nil)) pa_nil))))))))))))))))))))
      (pss_cons (by exact (ps_set (i := 1) scA.nd rfl (.inl rfl) (pe_op op_cat (pv 1) (pe_lst (pa_cons (pe_tup (pa_cons pe_str (pa_cons pe_int pa_nil))) (pa_cons (pe_disp (pps_cons pe_str pe_str pps_nil) (by rfl) (by rfl) (fun z => by cases z) (by decide)) (pa_cons pe_str (pa_cons (pe_op XK.op_mul_str pe_str pe_int) (pa_cons (pe_op XK.op_mul_str pe_str pe_int) (pa_cons (pe_tup (pa_cons pe_str pa_nil)) (pa_cons (pe_lst (pa_cons (pe_lst (pa_cons pe_str pa_nil)) pa_nil)) (pa_cons (pe_tup (pa_cons pe_int (pa_cons pe_int pa_nil))) (pa_cons pe_str (pa_cons (pe_lst pa_nil) pa_nil))))))))))))))
      (pss_one (by exact (ps_ret (pe_call GP hr2 rfl mP kP bP .nil pass0 (pa_cons (pv 0) (pa_cons (pe_op op_cat (pv 1) (pe_lst (pa_cons (pe_tup (pa_cons pe_str (pa_cons pe_int pa_nil))) pa_nil))) pa_nil))))))), ?_⟩
    refine ⟨_, rfl, _, _, rfl, rfl, ⟨by decide, by decide, by decide⟩, (by show 0 ≤ sizeLine; decide), fun t1 n1 => ⟨(by show 1 ≤ sizeLine; decide), fun t2 n2 => ⟨(by show 2 ≤ sizeLine; decide), fun l3 n3 => fun d4 n4 => ⟨(by show 1 ≤ sizeLine; decide), fun l5 n5 => ⟨(by show 17 ≤ sizeLine; decide), fun L1 n6 => ?_⟩⟩⟩⟩⟩
    refine ⟨_, rfl, (by show 2 ≤ sizeLine; decide), fun t6 m1 => fun d7 m2 => ⟨upd_same, [(Sum.inr "a", .str "b")], rfl, by decide, _, _, rfl, rfl, by decide, by decide, by decide, _, _, rfl, rfl, by decide, by decide, by decide, (by show 1 ≤ sizeLine; decide), fun t8 m3 => ⟨(by show 1 ≤ sizeLine; decide), fun l9 m4 => ⟨(by show 1 ≤ sizeLine; decide), fun l10 m5 => ⟨(by show 2 ≤ sizeLine; decide), fun t11 m6 => ⟨(by show 0 ≤ sizeLine; decide), fun l12 m7 => ⟨(by show 10 ≤ sizeLine; decide), fun L2 m8 => ?_⟩⟩⟩⟩⟩⟩⟩
    have g2 := same_upd2 (o := .dK []) (u := .dK (mergeK [] [(Sum.inr "a", .str "b")])) m2
    refine ⟨L1, L2, _, _, rfl, rfl, (g2.trans ((same_upd m3).trans ((same_upd m4).trans ((same_upd m5).trans ((same_upd m6).trans ((same_upd m7).trans (same_upd m8))))))) _ _ ((same_upd m1) _ _ upd_same), upd_same, (by show 17 + 10 ≤ sizeLine; decide), fun L3 m9 => ?_⟩
    refine ⟨_, rfl, _, rfl, (by show 2 ≤ sizeLine; decide), fun t13 m10 => ⟨(by show 1 ≤ sizeLine; decide), fun L4 m11 => ⟨L3, L4, _, _, rfl, rfl, ((same_upd m10).trans (same_upd m11)) _ _ upd_same, upd_same, (by show 27 + 1 ≤ sizeLine; decide), fun L5 m12 => ?_⟩⟩⟩
    have T17 := fun o => same_upd (o := o) m12
    have T16 := fun o => (same_upd m11).trans (T17 o)
    have T15 := fun o => (same_upd m10).trans (T16 o)
    have T14 := fun o => (same_upd m9).trans (T15 o)
    have T13 := fun o => (same_upd m8).trans (T14 o)
    have T12 := fun o => (same_upd m7).trans (T13 o)
    have T11 := fun o => (same_upd m6).trans (T12 o)
    have T10 := fun o => (same_upd m5).trans (T11 o)
    have T9 := fun o => (same_upd m4).trans (T10 o)
    have T8 := fun o => (same_upd m3).trans (T9 o)
    have T7 := fun o => g2.trans (T8 o)
    have T6 := fun o => (same_upd m1).trans (T7 o)
    have T5 := fun o => (same_upd n6).trans (T6 o)
    have T4 := fun o => (same_upd n5).trans (T5 o)
    have T3 := fun o => (same_upd n4).trans (T4 o)
    have T2 := fun o => (same_upd n3).trans (T3 o)
    have T1 := fun o => (same_upd n2).trans (T2 o)
    have T0 := fun o => (same_upd n1).trans (T1 o)
    refine ⟨d, c, L5, n, ns, _, rfl, pen.keep (T0 _), hn, upd_same, (by show 0 < 28; decide), (by show 28 < 1000000; decide), fun v H' hv pen' but => ?_⟩
    refine k v H' ?_ pen' ((But.same (T0 _)).trans but)
    obtain ⟨kvs, _, _, p⟩ := pen
    have pd := p.dc
    have e4 : d4 ≠ d := Ne.symm (ne_of_none (((same_upd n1).trans ((same_upd n2).trans (same_upd n3))) _ _ pd) n4)
    have e7 : d7 ≠ d := Ne.symm (ne_of_none (((same_upd n1).trans ((same_upd n2).trans ((same_upd n3).trans ((same_upd n4).trans ((same_upd n5).trans ((same_upd n6).trans (same_upd m1))))))) _ _ pd) m2)
    have pf := fun o => (T0 o) _ _ pd
    exact all_good (but _ _ (T1 _ _ _ upd_same) (ne_of (T1 (.lst []) _ _ upd_same) (pf (.lst [])) (by intro z; cases z))) (but _ _ (T2 _ _ _ upd_same) (ne_of (T2 (.lst []) _ _ upd_same) (pf (.lst [])) (by intro z; cases z))) (but _ _ (T3 _ _ _ upd_same) (ne_of (T3 (.lst []) _ _ upd_same) (pf (.lst [])) (by intro z; cases z))) (but _ _ (T4 _ _ _ upd_same) e4) (but _ _ (T5 _ _ _ upd_same) (ne_of (T5 (.lst []) _ _ upd_same) (pf (.lst [])) (by intro z; cases z))) (but _ _ (T7 _ _ _ upd_same) (ne_of (T7 (.lst []) _ _ upd_same) (pf (.lst [])) (by intro z; cases z))) (but _ _ (T9 _ _ _ upd_same) (ne_of (T9 (.lst []) _ _ upd_same) (pf (.lst [])) (by intro z; cases z))) (but _ _ (T10 _ _ _ upd_same) (ne_of (T10 (.lst []) _ _ upd_same) (pf (.lst [])) (by intro z; cases z))) (but _ _ (T11 _ _ _ upd_same) (ne_of (T11 (.lst []) _ _ upd_same) (pf (.lst [])) (by intro z; cases z))) (but _ _ (T12 _ _ _ upd_same) (ne_of (T12 (.lst []) _ _ upd_same) (pf (.lst [])) (by intro z; cases z))) (but _ _ (T13 _ _ _ upd_same) (ne_of (T13 (.lst []) _ _ upd_same) (pf (.lst [])) (by intro z; cases z))) (but _ _ (T16 _ _ _ upd_same) (ne_of (T16 (.lst []) _ _ upd_same) (pf (.lst [])) (by intro z; cases z))) (but _ _ (T8 _ _ _ upd_same) e7) v hv
end
end LK

set_option maxRecDepth 100000
set_option maxHeartbeats 8000000
namespace LK
open PySem L2 XK
abbrev sErr : Stmt := top 33
structure ET (K : PySem.W.Frag) (mg : Str → Option Value) (C : Nat → Addr) : Prop where
  m0 : mg "InvalidTest" = some (.ref (C 0))
  x0 : XT K (C 0)
  i0 : XI K (C 0) "argument"
  m1 : mg "InvalidChange" = some (.ref (C 1))
  x1 : XT K (C 1)
  i1 : XI K (C 1) "argument"
  m2 : mg "InvalidAddress" = some (.ref (C 2))
  x2 : XT K (C 2)
  i2 : XI K (C 2) "argument"
  m3 : mg "InvalidCommand" = some (.ref (C 3))
  x3 : XT K (C 3)
  i3 : XI K (C 3) "argument"
  m4 : mg "InvalidLine" = some (.ref (C 4))
  x4 : XT K (C 4)
  i4 : XI K (C 4) "value"
  m5 : mg "InvalidText" = some (.ref (C 5))
  x5 : XT K (C 5)
  i5 : XI K (C 5) "value"
  m6 : mg "InvalidRoom" = some (.ref (C 6))
  x6 : XT K (C 6)
  i6 : XI K (C 6) "value"
  m7 : mg "InvalidCheckpoint" = some (.ref (C 7))
  x7 : XT K (C 7)
  i7 : XI K (C 7) "value"
  m8 : mg "InvalidSkip" = some (.ref (C 8))
  x8 : XT K (C 8)
  i8 : XI K (C 8) "index"
  m9 : mg "InvalidBlock" = some (.ref (C 9))
  x9 : XT K (C 9)
  i9 : XI K (C 9) "index"
  m10 : mg "Unreadable" = some (.ref (C 10))
  x10 : XT K (C 10)
  j10 : XJ K (C 10) "index" "place"
  m11 : mg "InvalidRow" = some (.ref (C 11))
  x11 : XT K (C 11)
  i11 : XI K (C 11) "row"
  m12 : mg "Beyond" = some (.ref (C 12))
  x12 : XT K (C 12)
  i12 : XI K (C 12) "bound"
  m13 : mg "OutOfRange" = some (.ref (C 13))
  x13 : XT K (C 13)
  i13 : XI K (C 13) "value"
  m14 : mg "NoName" = some (.ref (C 14))
  x14 : XT K (C 14)
  i14 : XI K (C 14) "name"
  m15 : mg "Nothing" = some (.ref (C 15))
  x15 : XT K (C 15)
  b15 : ExcBaseFacts "LookupError" "LookupError.__new__" "LookupError.__init__" [.type "LookupError", .type "Exception", .type "BaseException", .type "object"] ∧ PySem.W.excIn K (C 15) [.type "LookupError", .type "Exception", .type "BaseException", .type "object"] "LookupError.__new__" = true
  m16 : mg "TooMany" = some (.ref (C 16))
  x16 : XT K (C 16)
  i16 : XI K (C 16) "limit"
  m17 : mg "Finished" = some (.ref (C 17))
  x17 : XT K (C 17)
  b17 : ExcBaseFacts "RuntimeError" "RuntimeError.__new__" "RuntimeError.__init__" [.type "RuntimeError", .type "Exception", .type "BaseException", .type "object"] ∧ PySem.W.excIn K (C 17) [.type "RuntimeError", .type "Exception", .type "BaseException", .type "object"] "RuntimeError.__new__" = true
  kit : ∀ i j, i < 18 → j < 18 → PySem.W.kitOne K (.ref (C j)) (.ref (C i)) = some (decide (i = j))
  kiv : ∀ j, j < 18 → PySem.W.kitOne K (.ref (C j)) (.type "ValueError") = some (decide (j < 13))
  kil : ∀ j, j < 18 → PySem.W.kitOne K (.ref (C j)) (.type "LookupError") = some (decide (13 ≤ j ∧ j < 16))
  kio : ∀ j, j < 18 → PySem.W.kitOne K (.ref (C j)) (.type "OverflowError") = some (decide (j = 16))
  kir : ∀ j, j < 18 → PySem.W.kitOne K (.ref (C j)) (.type "RuntimeError") = some (decide (j = 17))
def sortS (j : Nat) : Str := if j < 13 then "value" else if j < 16 then "lookup" else if j = 16 then "overflow" else "runtime"
/-! ### what an expression makes -/
def Makes (T : TE) (σ : St) (H : Hp) (R : V → Hp → Prop) : Prop := ∀ Q : VK, (∀ u H', R u H' → Q u H') → T σ H Q
/-- an exception of the class at C stands at e -/
def ErrO (H : Hp) (e C : Addr) : Prop := ∃ d : Option Addr, H e = some (exo e C d) ∧ ∀ dd, d = some dd → ∃ fs, H dd = some (.xd fs)
/-- .. whose field f is v -/
def ErrF (H : Hp) (e C : Addr) (f : Str) (v : V) : Prop := ∃ (d : Addr) (fs : List (Str × V)), H e = some (exo e C (some d)) ∧ H d = some (.xd fs) ∧ fs.lookup f = some v
theorem ErrF.err {H e C f v} (h : ErrF H e C f v) : ErrO H e C := by
  obtain ⟨d, fs, a, b, _⟩ := h
  exact ⟨some d, a, fun dd z => by cases z; exact ⟨fs, b⟩⟩
theorem exo_lst {e C : Addr} {d : Option Addr} {xs : List V} : exo e C d ≠ .lst xs := fun z => by
  cases (show HO.ext _ = HO.lst xs from z)
theorem exo_dK {e C : Addr} {d : Option Addr} {xs : List (Key × V)} : exo e C d ≠ .dK xs := fun z => by
  cases (show HO.ext _ = HO.dK xs from z)
theorem ErrO.but {H H' e C l xs} (h : ErrO H e C) (hl : H l = some (.lst xs)) (b : But l H H') : ErrO H' e C := by
  obtain ⟨d, a, k⟩ := h
  refine ⟨d, b _ _ a (ne_of a hl exo_lst), fun dd z => ?_⟩
  obtain ⟨fs, q⟩ := k dd z
  exact ⟨fs, b _ _ q (ne_of q hl (by intro z; cases z))⟩
theorem ErrO.butK {H H' e C l xs} (h : ErrO H e C) (hl : H l = some (.dK xs)) (b : But l H H') : ErrO H' e C := by
  obtain ⟨d, a, k⟩ := h
  refine ⟨d, b _ _ a (ne_of a hl exo_dK), fun dd z => ?_⟩
  obtain ⟨fs, q⟩ := k dd z
  exact ⟨fs, b _ _ q (ne_of q hl (by intro z; cases z))⟩
theorem ErrO.same {H H' e C} (h : ErrO H e C) (s : Same H H') : ErrO H' e C := by
  obtain ⟨d, a, k⟩ := h
  refine ⟨d, s _ _ a, fun dd z => ?_⟩
  obtain ⟨fs, q⟩ := k dd z
  exact ⟨fs, s _ _ q⟩
theorem ErrF.same {H H' e C f v} (h : ErrF H e C f v) (s : Same H H') : ErrF H' e C f v := by
  obtain ⟨d, fs, a, b, c⟩ := h
  exact ⟨d, fs, s _ _ a, s _ _ b, c⟩
/-- (error, v, v, sort) -/
def Row (H : Hp) (t : Addr) (v : V) (C : Addr) (s : Str) : Prop := ∃ e, H t = some (.tup [.ref e, v, v, .str s]) ∧ ErrO H e C
theorem Row.but {H H' t v C s l xs} (h : Row H t v C s) (hl : H l = some (.lst xs)) (b : But l H H') : Row H' t v C s := by
  obtain ⟨e, a, k⟩ := h
  exact ⟨e, b _ _ a (ne_of a hl (by intro z; cases z)), k.but hl b⟩
theorem Row.same {H H' t v C s} (h : Row H t v C s) (b : Same H H') : Row H' t v C s := by
  obtain ⟨e, a, k⟩ := h
  exact ⟨e, b _ _ a, k.same b⟩
theorem same_two {H : Hp} {d e : Addr} {o u : HO} (nd : H d = none) (ne : H e = none) : Same H (upd (upd H d o) e u) := fun b q z => by
  rw [upd_ne (ne_of_none z ne), upd_ne (ne_of_none z nd)]
  exact z
theorem look_one {f : Str} {v : V} : List.lookup f [(f, v)] = some v := by simp [List.lookup]
section
variable {K : PySem.W.Frag} {C : Addr} {f f1 f2 : Str} {σ : St} {H : Hp} {v : V} {i : Nat}
theorem then1 {H1 : Hp} {Q : VK} (h : ∀ u H', (∃ e, u = .ref e ∧ Same H1 H' ∧ ErrF H' e C f v) → Q u H') : Then1 C f v H1 Q := fun d e nd ne n =>
  h _ _ ⟨e, rfl, same_two nd ne, d, _, upd_same, by rw [upd_ne n, upd_same], look_one⟩
theorem mk1 (hi : σ[i]? = some (some v)) : Makes (tEx1 C f (tCons (tVar i) tNil)) σ H (fun u H' => ∃ e, u = .ref e ∧ Same H H' ∧ ErrF H' e C f v) := fun Q k => ⟨v, hi, v, rfl, then1 k⟩
theorem get1 {T : TE} (x : XT K C) (no : PySem.W.findIn K (.ref C) f = some none) (M : Makes T σ H (fun u H' => ∃ e, u = .ref e ∧ Same H H' ∧ ErrF H' e C f v)) : Makes (tGetX K f T) σ H (fun u H' => u = v ∧ Same H H') := fun Q k =>
  M _ fun u H' ⟨e, eu, s, d, fs, a, b, c⟩ => ⟨e, C, d, fs, v, eu, x, no, a, b, c, k _ _ ⟨rfl, s⟩⟩
theorem var1 {e : Addr} (hi : σ[i]? = some (some (.ref e))) (h : ErrF H e C f v) : Makes (tVar i) σ H (fun u H' => ∃ e, u = .ref e ∧ Same H H' ∧ ErrF H' e C f v) := fun Q k => ⟨_, hi, k _ _ ⟨e, rfl, Same.refl H, h⟩⟩
theorem val1 (hi : σ[i]? = some (some v)) : Makes (tVar i) σ H (fun u H' => u = v ∧ Same H H') := fun Q k => ⟨_, hi, k _ _ ⟨rfl, Same.refl H⟩⟩
theorem mk0 : Makes (tEx0 C) σ H (fun u H' => ∃ e, u = .ref e ∧ Same H H' ∧ ErrO H' e C) := fun Q k e ne => k _ _ ⟨e, rfl, same_upd ne, none, upd_same, fun dd z => by cases z⟩
theorem Makes.err {T : TE} (M : Makes T σ H (fun u H' => ∃ e, u = .ref e ∧ Same H H' ∧ ErrF H' e C f v)) : Makes T σ H (fun u H' => ∃ e, u = .ref e ∧ Same H H' ∧ ErrO H' e C) := fun Q k => M Q fun u H' ⟨e, a, b, c⟩ => k _ _ ⟨e, a, b, c.err⟩
/-- Unreadable, by position, and by name -/
theorem mk2 {T1 T2 : TE} {u1 u2 : V} (n12 : f1 ≠ f2) (M1 : ∀ H, Makes T1 σ H (fun u H' => u = u1 ∧ Same H H')) (M2 : ∀ H, Makes T2 σ H (fun u H' => u = u2 ∧ Same H H')) :
    Makes (tEx2 C f1 f2 (tCons T1 (tCons T2 tNil))) σ H (fun u H' => ∃ e, u = .ref e ∧ Same H H' ∧ ErrF H' e C f1 u1 ∧ ErrF H' e C f2 u2) := fun Q k =>
  M1 H _ fun a H1 ⟨ea, s1⟩ => M2 H1 _ fun b H2 ⟨eb, s2⟩ => ⟨a, b, rfl, fun d e nd ne n => by
    subst ea
    subst eb
    refine k _ _ ⟨e, rfl, s1.trans (s2.trans (same_two nd ne)), ⟨d, _, upd_same, by rw [upd_ne n, upd_same], ?_⟩, ⟨d, _, upd_same, by rw [upd_ne n, upd_same], ?_⟩⟩
    · have q : (f1 == f2) = false := by simpa using n12
      simp [List.lookup, q]
    · simp [List.lookup]⟩
theorem mk2k {T1 T2 : TE} {u1 u2 : V} (n12 : f1 ≠ f2) (M2 : ∀ H, Makes T2 σ H (fun u H' => u = u2 ∧ Same H H')) (M1 : ∀ H, Makes T1 σ H (fun u H' => u = u1 ∧ Same H H')) :
    Makes (tEx2k C f1 f2 (tCons T2 (tCons T1 tNil))) σ H (fun u H' => ∃ e, u = .ref e ∧ Same H H' ∧ ErrF H' e C f1 u1 ∧ ErrF H' e C f2 u2) := fun Q k =>
  M2 H _ fun b H1 ⟨eb, s1⟩ => M1 H1 _ fun a H2 ⟨ea, s2⟩ => ⟨b, a, rfl, fun d e nd ne n => by
    subst ea
    subst eb
    refine k _ _ ⟨e, rfl, s1.trans (s2.trans (same_two nd ne)), ⟨d, _, upd_same, by rw [upd_ne n, upd_same], ?_⟩, ⟨d, _, upd_same, by rw [upd_ne n, upd_same], ?_⟩⟩
    · have q : (f1 == f2) = false := by simpa using n12
      simp [List.lookup, q]
    · simp [List.lookup]⟩
theorem Makes.fst {T : TE} {u1 u2 : V} (M : Makes T σ H (fun u H' => ∃ e, u = .ref e ∧ Same H H' ∧ ErrF H' e C f1 u1 ∧ ErrF H' e C f2 u2)) : Makes T σ H (fun u H' => ∃ e, u = .ref e ∧ Same H H' ∧ ErrF H' e C f1 u1) := fun Q k => M Q fun u H' ⟨e, a, b, c, _⟩ => k _ _ ⟨e, a, b, c⟩
theorem Makes.snd {T : TE} {u1 u2 : V} (M : Makes T σ H (fun u H' => ∃ e, u = .ref e ∧ Same H H' ∧ ErrF H' e C f1 u1 ∧ ErrF H' e C f2 u2)) : Makes T σ H (fun u H' => ∃ e, u = .ref e ∧ Same H H' ∧ ErrF H' e C f2 u2) := fun Q k => M Q fun u H' ⟨e, a, b, _, c⟩ => k _ _ ⟨e, a, b, c⟩
theorem cint {i : Int} : ∀ H, Makes (tC (.int i)) σ H (fun u H' => u = .int i ∧ Same H H') := fun H Q k => k _ _ ⟨rfl, Same.refl H⟩
/-- found.append((T1, T2, T3, s)) -/
theorem app {T1 T2 T3 : TE} {l : Addr} {xs : List V} {s : Str} {D : Ends} (hi : σ[1]? = some (some (.ref l))) (hl : H l = some (.lst xs)) (few : xs.length < 1000)
    (M1 : Makes T1 σ H (fun u H' => ∃ e, u = .ref e ∧ Same H H' ∧ ErrO H' e C)) (M2 : ∀ H', Same H H' → Makes T2 σ H' (fun u H'' => u = v ∧ Same H' H'')) (M3 : ∀ H', Same H H' → Makes T3 σ H' (fun u H'' => u = v ∧ Same H' H''))
    (k : ∀ t H', But l H H' → H' l = some (.lst (xs ++ [.ref t])) → Row H' t v C s → D.nx σ H') :
    tDrop (tBM K "list" rAppend (tVar 1) (tCons (tTup (tCons T1 (tCons T2 (tCons T3 (tCons (tC (.str s)) tNil))))) tNil)) D σ H := by
  refine ⟨_, hi, .inl ⟨rfl, _, SqL.of hl⟩, ?_⟩
  refine M1 _ fun u H1 ⟨e, eu, s1, er⟩ => M2 H1 s1 _ fun a H2 ⟨ea, s2⟩ => M3 H2 (s1.trans s2) _ fun b H3 ⟨eb, s3⟩ => ?_
  subst eu
  subst ea
  subst eb
  refine ⟨(by show 4 ≤ sizeLine; decide), fun t nt => ?_⟩
  have st : Same H (upd H3 t (.tup [.ref e, b, b, .str s])) := (s1.trans (s2.trans s3)).trans (same_upd nt)
  refine ⟨l, xs, _, rfl, rfl, st _ _ hl, small1000 (by omega), ?_⟩
  have lt : t ≠ l := ne_of (upd_same (H := H3) (a := t) (o := .tup [.ref e, b, b, .str s])) (st _ _ hl) (by intro z; cases z)
  have bt : But l (upd H3 t (.tup [.ref e, b, b, .str s])) (upd (upd H3 t (.tup [.ref e, b, b, .str s])) l (.lst (xs ++ [.ref t]))) := but_upd
  refine k t _ ((But.same st).trans bt) upd_same ⟨e, by rw [upd_ne lt, upd_same], ?_⟩
  exact ((er.same (s2.trans s3)).same (same_upd nt)).but (st _ _ hl) bt
end
/-- the errors that were found: rows of the list at l -/
structure Found (C : Nat → Addr) (H0 H : Hp) (l : Addr) (v : V) (ts : List Addr) : Prop where
  new : H0 l = none
  old : Same H0 H
  lst : H l = some (.lst (ts.map V.ref))
  few : ts.length ≤ 100
  row : ∀ t ∈ ts, ∃ j, j < 18 ∧ Row H t v (C j) (sortS j)
theorem Found.same {C H0 H H' l v ts} (F : Found C H0 H l v ts) (s : Same H H') : Found C H0 H' l v ts :=
  ⟨F.new, F.old.trans s, s _ _ F.lst, F.few, fun t ht => by
    obtain ⟨j, a, b⟩ := F.row t ht
    exact ⟨j, a, b.same s⟩⟩
theorem Found.step {C H0 H H' l v ts t} {j : Nat} (F : Found C H0 H l v ts) (n : ts.length < 100) (hj : j < 18) (b : But l H H') (h : H' l = some (.lst (ts.map V.ref ++ [.ref t]))) (r : Row H' t v (C j) (sortS j)) : Found C H0 H' l v (ts ++ [t]) :=
  ⟨F.new, fun c o z => b _ _ (F.old _ _ z) (ne_of_none z F.new), by rw [h, List.map_append]; rfl, by rw [List.length_append, List.length_cons, List.length_nil]; omega, fun u hu => by
    rcases List.mem_append.mp hu with q | q
    · obtain ⟨k, a, z⟩ := F.row u q
      exact ⟨k, a, z.but F.lst b⟩
    · obtain rfl := List.mem_singleton.mp q
      exact ⟨j, hj, r⟩⟩
/-- the list of all errors, each made thrice from v -/
def spErr (C : Nat → Addr) : Sp := fun vs H Q _ => ∃ v : V, vs = [v] ∧ ∀ (l : Addr) (ts : List Addr) (H' : Hp), Found C H H' l v ts → Q (.ref l) H'
section
variable {P : Program} {w : World} {K : PySem.W.Frag} {mg : Str → Option Value} {base : Heap}
theorem scE : FnScope ["_law_thing", "_law_found", "_law_error"] ["_law_thing"] (defScope sErr) := ⟨rfl, rfl, rfl, by decide +kernel, rfl, by decide +kernel, by decide +kernel⟩
theorem ok_err {f : Addr} {fd : FuncData} {C : Nat → Addr} (F : Fun K "_law_some_errors" "_law_some_errors" sErr f fd) (T : ET K mg C) : FnOk P w K mg base CX0 2 f fd ["_law_thing"] (spErr C) := by
  refine F.ok scE (fun vs H Q E h => ?_) (fun cdv A outer s H vs Q E hr h => ?_)
  · obtain ⟨v, rfl, _⟩ := h
    rfl
  · obtain ⟨v, rfl, k⟩ := h
    refine ⟨_, pss_cons (by exact (ps_set (i := 1) scE.nd rfl (.inl rfl) (pe_lst pa_nil))) (
      pss_cons (by exact (ps_expr (pe_bm PySem.F.plainAttrs_list PySem.F.slot_list_append PySem.F.type_list_append mt_append (pv 1) (pa_cons (pe_tup (pa_cons (pe_ex1 T.x0 T.i0 hr T.m0 (by decide) (pa_cons (pv 0) pa_nil)) (pa_cons (pe_getX (pe_ex1k T.x0 T.i0 hr T.m0 (by decide) (pv 0))) (pa_cons (pe_getX (pe_ex1 T.x0 T.i0 hr T.m0 (by decide) (pa_cons (pv 0) pa_nil))) (pa_cons pe_str pa_nil))))) pa_nil)))) (
      pss_cons (by exact (ps_expr (pe_bm PySem.F.plainAttrs_list PySem.F.slot_list_append PySem.F.type_list_append mt_append (pv 1) (pa_cons (pe_tup (pa_cons (pe_ex1 T.x1 T.i1 hr T.m1 (by decide) (pa_cons (pv 0) pa_nil)) (pa_cons (pe_getX (pe_ex1k T.x1 T.i1 hr T.m1 (by decide) (pv 0))) (pa_cons (pe_getX (pe_ex1 T.x1 T.i1 hr T.m1 (by decide) (pa_cons (pv 0) pa_nil))) (pa_cons pe_str pa_nil))))) pa_nil)))) (
      pss_cons (by exact (ps_set (i := 2) scE.nd rfl (.inl rfl) (pe_ex1k T.x2 T.i2 hr T.m2 (by decide) (pv 0)))) (
      pss_cons (by exact (ps_expr (pe_bm PySem.F.plainAttrs_list PySem.F.slot_list_append PySem.F.type_list_append mt_append (pv 1) (pa_cons (pe_tup (pa_cons (pe_ex1 T.x2 T.i2 hr T.m2 (by decide) (pa_cons (pv 0) pa_nil)) (pa_cons (pe_getX (pv 2)) (pa_cons (pe_getX (pe_ex1 T.x2 T.i2 hr T.m2 (by decide) (pa_cons (pv 0) pa_nil))) (pa_cons pe_str pa_nil))))) pa_nil)))) (
      pss_cons (by exact (ps_set (i := 2) scE.nd rfl (.inl rfl) (pe_ex1k T.x3 T.i3 hr T.m3 (by decide) (pv 0)))) (
      pss_cons (by exact (ps_expr (pe_bm PySem.F.plainAttrs_list PySem.F.slot_list_append PySem.F.type_list_append mt_append (pv 1) (pa_cons (pe_tup (pa_cons (pe_ex1 T.x3 T.i3 hr T.m3 (by decide) (pa_cons (pv 0) pa_nil)) (pa_cons (pe_getX (pv 2)) (pa_cons (pe_getX (pe_ex1 T.x3 T.i3 hr T.m3 (by decide) (pa_cons (pv 0) pa_nil))) (pa_cons pe_str pa_nil))))) pa_nil)))) (
      pss_cons (by exact (ps_expr (pe_bm PySem.F.plainAttrs_list PySem.F.slot_list_append PySem.F.type_list_append mt_append (pv 1) (pa_cons (pe_tup (pa_cons (pe_ex1 T.x4 T.i4 hr T.m4 (by decide) (pa_cons (pv 0) pa_nil)) (pa_cons (pe_getX (pe_ex1k T.x4 T.i4 hr T.m4 (by decide) (pv 0))) (pa_cons (pe_getX (pe_ex1 T.x4 T.i4 hr T.m4 (by decide) (pa_cons (pv 0) pa_nil))) (pa_cons pe_str pa_nil))))) pa_nil)))) (
      pss_cons (by exact (ps_expr (pe_bm PySem.F.plainAttrs_list PySem.F.slot_list_append PySem.F.type_list_append mt_append (pv 1) (pa_cons (pe_tup (pa_cons (pe_ex1 T.x5 T.i5 hr T.m5 (by decide) (pa_cons (pv 0) pa_nil)) (pa_cons (pe_getX (pe_ex1k T.x5 T.i5 hr T.m5 (by decide) (pv 0))) (pa_cons (pe_getX (pe_ex1 T.x5 T.i5 hr T.m5 (by decide) (pa_cons (pv 0) pa_nil))) (pa_cons pe_str pa_nil))))) pa_nil)))) (
      pss_cons (by exact (ps_expr (pe_bm PySem.F.plainAttrs_list PySem.F.slot_list_append PySem.F.type_list_append mt_append (pv 1) (pa_cons (pe_tup (pa_cons (pe_ex1 T.x6 T.i6 hr T.m6 (by decide) (pa_cons (pv 0) pa_nil)) (pa_cons (pe_getX (pe_ex1k T.x6 T.i6 hr T.m6 (by decide) (pv 0))) (pa_cons (pe_getX (pe_ex1 T.x6 T.i6 hr T.m6 (by decide) (pa_cons (pv 0) pa_nil))) (pa_cons pe_str pa_nil))))) pa_nil)))) (
      pss_cons (by exact (ps_set (i := 2) scE.nd rfl (.inl rfl) (pe_ex1k T.x7 T.i7 hr T.m7 (by decide) (pv 0)))) (
      pss_cons (by exact (ps_expr (pe_bm PySem.F.plainAttrs_list PySem.F.slot_list_append PySem.F.type_list_append mt_append (pv 1) (pa_cons (pe_tup (pa_cons (pe_ex1 T.x7 T.i7 hr T.m7 (by decide) (pa_cons (pv 0) pa_nil)) (pa_cons (pe_getX (pv 2)) (pa_cons (pe_getX (pe_ex1 T.x7 T.i7 hr T.m7 (by decide) (pa_cons (pv 0) pa_nil))) (pa_cons pe_str pa_nil))))) pa_nil)))) (
      pss_cons (by exact (ps_expr (pe_bm PySem.F.plainAttrs_list PySem.F.slot_list_append PySem.F.type_list_append mt_append (pv 1) (pa_cons (pe_tup (pa_cons (pe_ex1 T.x8 T.i8 hr T.m8 (by decide) (pa_cons (pv 0) pa_nil)) (pa_cons (pe_getX (pe_ex1k T.x8 T.i8 hr T.m8 (by decide) (pv 0))) (pa_cons (pe_getX (pe_ex1 T.x8 T.i8 hr T.m8 (by decide) (pa_cons (pv 0) pa_nil))) (pa_cons pe_str pa_nil))))) pa_nil)))) (
      pss_cons (by exact (ps_expr (pe_bm PySem.F.plainAttrs_list PySem.F.slot_list_append PySem.F.type_list_append mt_append (pv 1) (pa_cons (pe_tup (pa_cons (pe_ex1 T.x9 T.i9 hr T.m9 (by decide) (pa_cons (pv 0) pa_nil)) (pa_cons (pe_getX (pe_ex1k T.x9 T.i9 hr T.m9 (by decide) (pv 0))) (pa_cons (pe_getX (pe_ex1 T.x9 T.i9 hr T.m9 (by decide) (pa_cons (pv 0) pa_nil))) (pa_cons pe_str pa_nil))))) pa_nil)))) (
      pss_cons (by exact (ps_set (i := 2) scE.nd rfl (.inl rfl) (pe_ex2k T.x10 T.j10 hr T.m10 (by decide) (by decide) (pv 0) pe_int))) (
      pss_cons (by exact (ps_expr (pe_bm PySem.F.plainAttrs_list PySem.F.slot_list_append PySem.F.type_list_append mt_append (pv 1) (pa_cons (pe_tup (pa_cons (pe_ex2 T.x10 T.j10 hr T.m10 (by decide) (by decide) (pa_cons pe_int (pa_cons (pv 0) pa_nil))) (pa_cons (pe_getX (pv 2)) (pa_cons (pe_getX (pe_ex2 T.x10 T.j10 hr T.m10 (by decide) (by decide) (pa_cons (pv 0) (pa_cons pe_int pa_nil)))) (pa_cons pe_str pa_nil))))) pa_nil)))) (
      pss_cons (by exact (ps_expr (pe_bm PySem.F.plainAttrs_list PySem.F.slot_list_append PySem.F.type_list_append mt_append (pv 1) (pa_cons (pe_tup (pa_cons (pe_ex1 T.x11 T.i11 hr T.m11 (by decide) (pa_cons (pv 0) pa_nil)) (pa_cons (pe_getX (pe_ex1k T.x11 T.i11 hr T.m11 (by decide) (pv 0))) (pa_cons (pe_getX (pe_ex1 T.x11 T.i11 hr T.m11 (by decide) (pa_cons (pv 0) pa_nil))) (pa_cons pe_str pa_nil))))) pa_nil)))) (
      pss_cons (by exact (ps_expr (pe_bm PySem.F.plainAttrs_list PySem.F.slot_list_append PySem.F.type_list_append mt_append (pv 1) (pa_cons (pe_tup (pa_cons (pe_ex1 T.x12 T.i12 hr T.m12 (by decide) (pa_cons (pv 0) pa_nil)) (pa_cons (pe_getX (pe_ex1k T.x12 T.i12 hr T.m12 (by decide) (pv 0))) (pa_cons (pe_getX (pe_ex1 T.x12 T.i12 hr T.m12 (by decide) (pa_cons (pv 0) pa_nil))) (pa_cons pe_str pa_nil))))) pa_nil)))) (
      pss_cons (by exact (ps_expr (pe_bm PySem.F.plainAttrs_list PySem.F.slot_list_append PySem.F.type_list_append mt_append (pv 1) (pa_cons (pe_tup (pa_cons (pe_ex1 T.x13 T.i13 hr T.m13 (by decide) (pa_cons (pv 0) pa_nil)) (pa_cons (pe_getX (pe_ex1k T.x13 T.i13 hr T.m13 (by decide) (pv 0))) (pa_cons (pe_getX (pe_ex1 T.x13 T.i13 hr T.m13 (by decide) (pa_cons (pv 0) pa_nil))) (pa_cons pe_str pa_nil))))) pa_nil)))) (
      pss_cons (by exact (ps_expr (pe_bm PySem.F.plainAttrs_list PySem.F.slot_list_append PySem.F.type_list_append mt_append (pv 1) (pa_cons (pe_tup (pa_cons (pe_ex1 T.x14 T.i14 hr T.m14 (by decide) (pa_cons (pv 0) pa_nil)) (pa_cons (pe_getX (pe_ex1k T.x14 T.i14 hr T.m14 (by decide) (pv 0))) (pa_cons (pe_getX (pe_ex1 T.x14 T.i14 hr T.m14 (by decide) (pa_cons (pv 0) pa_nil))) (pa_cons pe_str pa_nil))))) pa_nil)))) (
      pss_cons (by exact (ps_expr (pe_bm PySem.F.plainAttrs_list PySem.F.slot_list_append PySem.F.type_list_append mt_append (pv 1) (pa_cons (pe_tup (pa_cons (pe_ex1 T.x16 T.i16 hr T.m16 (by decide) (pa_cons (pv 0) pa_nil)) (pa_cons (pe_getX (pe_ex1k T.x16 T.i16 hr T.m16 (by decide) (pv 0))) (pa_cons (pe_getX (pe_ex1 T.x16 T.i16 hr T.m16 (by decide) (pa_cons (pv 0) pa_nil))) (pa_cons pe_str pa_nil))))) pa_nil)))) (
      pss_cons (by exact (ps_expr (pe_bm PySem.F.plainAttrs_list PySem.F.slot_list_append PySem.F.type_list_append mt_append (pv 1) (pa_cons (pe_tup (pa_cons (pe_ex0 T.b15.1 T.b15.2 T.m15 T.x15.kC) (pa_cons (pv 0) (pa_cons (pv 0) (pa_cons pe_str pa_nil))))) pa_nil)))) (
      pss_cons (by exact (ps_expr (pe_bm PySem.F.plainAttrs_list PySem.F.slot_list_append PySem.F.type_list_append mt_append (pv 1) (pa_cons (pe_tup (pa_cons (pe_ex0 T.b17.1 T.b17.2 T.m17 T.x17.kC) (pa_cons (pv 0) (pa_cons (pv 0) (pa_cons pe_str pa_nil))))) pa_nil)))) (
      pss_one (by exact (ps_ret (pv 1)))))))))))))))))))))))))), ?_⟩
    refine ⟨(by show 0 ≤ sizeLine; decide), fun l nl => ?_⟩
    have G : Found C H (upd H l (.lst [])) l v [] := ⟨nl, same_upd nl, upd_same, Nat.zero_le _, fun t ht => by cases ht⟩
    generalize upd H l (.lst []) = H0 at G
    refine app (C := C 0) rfl G.lst (by rw [List.length_map]; have := G.few; omega) (mk1 rfl).err (fun H' s => get1 T.x0 T.i0.noN (mk1 rfl)) (fun H' s => get1 T.x0 T.i0.noN (mk1 rfl)) fun t0 H0 b0 h0 r0 => ?_
    replace G := G.step (j := 0) (by simp) (by decide) b0 h0 r0
    refine app (C := C 1) rfl G.lst (by rw [List.length_map]; have := G.few; omega) (mk1 rfl).err (fun H' s => get1 T.x1 T.i1.noN (mk1 rfl)) (fun H' s => get1 T.x1 T.i1.noN (mk1 rfl)) fun t1 H1 b1 h1 r1 => ?_
    replace G := G.step (j := 1) (by simp) (by decide) b1 h1 r1
    refine mk1 rfl _ fun u2 H2 ⟨e2, eu2, s2, ef2⟩ => ?_
    subst eu2
    replace G := G.same s2
    refine app (C := C 2) rfl G.lst (by rw [List.length_map]; have := G.few; omega) (mk1 rfl).err (fun H' s => get1 T.x2 T.i2.noN (var1 rfl (ef2.same s))) (fun H' s => get1 T.x2 T.i2.noN (mk1 rfl)) fun t3 H3 b3 h3 r3 => ?_
    replace G := G.step (j := 2) (by simp) (by decide) b3 h3 r3
    refine mk1 rfl _ fun u4 H4 ⟨e4, eu4, s4, ef4⟩ => ?_
    subst eu4
    replace G := G.same s4
    refine app (C := C 3) rfl G.lst (by rw [List.length_map]; have := G.few; omega) (mk1 rfl).err (fun H' s => get1 T.x3 T.i3.noN (var1 rfl (ef4.same s))) (fun H' s => get1 T.x3 T.i3.noN (mk1 rfl)) fun t5 H5 b5 h5 r5 => ?_
    replace G := G.step (j := 3) (by simp) (by decide) b5 h5 r5
    refine app (C := C 4) rfl G.lst (by rw [List.length_map]; have := G.few; omega) (mk1 rfl).err (fun H' s => get1 T.x4 T.i4.noN (mk1 rfl)) (fun H' s => get1 T.x4 T.i4.noN (mk1 rfl)) fun t6 H6 b6 h6 r6 => ?_
    replace G := G.step (j := 4) (by simp) (by decide) b6 h6 r6
    refine app (C := C 5) rfl G.lst (by rw [List.length_map]; have := G.few; omega) (mk1 rfl).err (fun H' s => get1 T.x5 T.i5.noN (mk1 rfl)) (fun H' s => get1 T.x5 T.i5.noN (mk1 rfl)) fun t7 H7 b7 h7 r7 => ?_
    replace G := G.step (j := 5) (by simp) (by decide) b7 h7 r7
    refine app (C := C 6) rfl G.lst (by rw [List.length_map]; have := G.few; omega) (mk1 rfl).err (fun H' s => get1 T.x6 T.i6.noN (mk1 rfl)) (fun H' s => get1 T.x6 T.i6.noN (mk1 rfl)) fun t8 H8 b8 h8 r8 => ?_
    replace G := G.step (j := 6) (by simp) (by decide) b8 h8 r8
    refine mk1 rfl _ fun u9 H9 ⟨e9, eu9, s9, ef9⟩ => ?_
    subst eu9
    replace G := G.same s9
    refine app (C := C 7) rfl G.lst (by rw [List.length_map]; have := G.few; omega) (mk1 rfl).err (fun H' s => get1 T.x7 T.i7.noN (var1 rfl (ef9.same s))) (fun H' s => get1 T.x7 T.i7.noN (mk1 rfl)) fun t10 H10 b10 h10 r10 => ?_
    replace G := G.step (j := 7) (by simp) (by decide) b10 h10 r10
    refine app (C := C 8) rfl G.lst (by rw [List.length_map]; have := G.few; omega) (mk1 rfl).err (fun H' s => get1 T.x8 T.i8.noN (mk1 rfl)) (fun H' s => get1 T.x8 T.i8.noN (mk1 rfl)) fun t11 H11 b11 h11 r11 => ?_
    replace G := G.step (j := 8) (by simp) (by decide) b11 h11 r11
    refine app (C := C 9) rfl G.lst (by rw [List.length_map]; have := G.few; omega) (mk1 rfl).err (fun H' s => get1 T.x9 T.i9.noN (mk1 rfl)) (fun H' s => get1 T.x9 T.i9.noN (mk1 rfl)) fun t12 H12 b12 h12 r12 => ?_
    replace G := G.step (j := 9) (by simp) (by decide) b12 h12 r12
    refine mk2k T.j10.ne (fun H => val1 rfl) cint _ fun u13 H13 ⟨e13, eu13, s13, ef13⟩ => ?_
    subst eu13
    replace G := G.same s13
    refine app (C := C 10) rfl G.lst (by rw [List.length_map]; have := G.few; omega) (mk2 T.j10.ne cint (fun H => val1 rfl)).snd.err (fun H' s => get1 T.x10 T.j10.no2 (var1 rfl (ef13.2.same s))) (fun H' s => get1 T.x10 T.j10.no1 (mk2 T.j10.ne (fun H => val1 rfl) cint).fst) fun t14 H14 b14 h14 r14 => ?_
    replace G := G.step (j := 10) (by simp) (by decide) b14 h14 r14
    refine app (C := C 11) rfl G.lst (by rw [List.length_map]; have := G.few; omega) (mk1 rfl).err (fun H' s => get1 T.x11 T.i11.noN (mk1 rfl)) (fun H' s => get1 T.x11 T.i11.noN (mk1 rfl)) fun t15 H15 b15 h15 r15 => ?_
    replace G := G.step (j := 11) (by simp) (by decide) b15 h15 r15
    refine app (C := C 12) rfl G.lst (by rw [List.length_map]; have := G.few; omega) (mk1 rfl).err (fun H' s => get1 T.x12 T.i12.noN (mk1 rfl)) (fun H' s => get1 T.x12 T.i12.noN (mk1 rfl)) fun t16 H16 b16 h16 r16 => ?_
    replace G := G.step (j := 12) (by simp) (by decide) b16 h16 r16
    refine app (C := C 13) rfl G.lst (by rw [List.length_map]; have := G.few; omega) (mk1 rfl).err (fun H' s => get1 T.x13 T.i13.noN (mk1 rfl)) (fun H' s => get1 T.x13 T.i13.noN (mk1 rfl)) fun t17 H17 b17 h17 r17 => ?_
    replace G := G.step (j := 13) (by simp) (by decide) b17 h17 r17
    refine app (C := C 14) rfl G.lst (by rw [List.length_map]; have := G.few; omega) (mk1 rfl).err (fun H' s => get1 T.x14 T.i14.noN (mk1 rfl)) (fun H' s => get1 T.x14 T.i14.noN (mk1 rfl)) fun t18 H18 b18 h18 r18 => ?_
    replace G := G.step (j := 14) (by simp) (by decide) b18 h18 r18
    refine app (C := C 16) rfl G.lst (by rw [List.length_map]; have := G.few; omega) (mk1 rfl).err (fun H' s => get1 T.x16 T.i16.noN (mk1 rfl)) (fun H' s => get1 T.x16 T.i16.noN (mk1 rfl)) fun t19 H19 b19 h19 r19 => ?_
    replace G := G.step (j := 16) (by simp) (by decide) b19 h19 r19
    refine app (C := C 15) rfl G.lst (by rw [List.length_map]; have := G.few; omega) mk0 (fun H' s => val1 rfl) (fun H' s => val1 rfl) fun t20 H20 b20 h20 r20 => ?_
    replace G := G.step (j := 15) (by simp) (by decide) b20 h20 r20
    refine app (C := C 17) rfl G.lst (by rw [List.length_map]; have := G.few; omega) mk0 (fun H' s => val1 rfl) (fun H' s => val1 rfl) fun t21 H21 b21 h21 r21 => ?_
    replace G := G.step (j := 17) (by simp) (by decide) b21 h21 r21
    exact ⟨_, rfl, k _ _ _ G⟩
end
end LK

set_option maxRecDepth 100000
set_option maxHeartbeats 8000000
namespace LK
open PySem L2 XK
abbrev sCls : Stmt := top 34
abbrev sSort : Stmt := top 35
section
variable {K : PySem.W.Frag} {C : Nat → Addr} {mg : Str → Option Value} {σ : St} {H : Hp} {e : Addr} {i : Nat}
/-- isinstance(e, c) -/
theorem isi {c : V} {u : Value} {D : Addr} {b : Bool} (x : XT K D) (hi : σ[i]? = some (some (.ref e))) (kc : ClsV c u) (kit : PySem.W.kitOne K (.ref D) u = some b) (h : ErrO H e D) : Makes (tCB (rIsX K) (tCons (tVar i) (tCons (tC c) tNil))) σ H (fun z H' => z = .bl b ∧ Same H H') := fun Q k => by
  obtain ⟨d, a, kd⟩ := h
  exact ⟨_, hi, e, D, d, c, u, b, rfl, kc, x, a, kd, kit, k _ _ ⟨rfl, Same.refl H⟩⟩
/-- found.extend([T1, T2]) -/
theorem ext {T1 T2 : TE} {l : Addr} {xs : List V} {b1 b2 : Bool} {D : Ends} (hi : σ[1]? = some (some (.ref l))) (hl : H l = some (.lst xs)) (few : xs.length < 900)
    (M1 : Makes T1 σ H (fun u H' => u = .bl b1 ∧ Same H H')) (M2 : ∀ H', Same H H' → Makes T2 σ H' (fun u H'' => u = .bl b2 ∧ Same H' H''))
    (k : ∀ H', But l H H' → H' l = some (.lst (xs ++ [.bl b1, .bl b2])) → D.nx σ H') :
    tDrop (tBM K "list" rExtend (tVar 1) (tCons (tLst (tCons T1 (tCons T2 tNil))) tNil)) D σ H := by
  refine ⟨_, hi, .inl ⟨rfl, _, SqL.of hl⟩, ?_⟩
  refine M1 _ fun a H1 ⟨ea, s1⟩ => M2 H1 s1 _ fun b H2 ⟨eb, s2⟩ => ?_
  subst ea
  subst eb
  refine ⟨(by show 2 ≤ sizeLine; decide), fun p np => ?_⟩
  have st : Same H (upd H2 p (.lst [.bl b1, .bl b2])) := (s1.trans s2).trans (same_upd np)
  refine ⟨l, p, xs, _, rfl, rfl, st _ _ hl, upd_same, Nat.le_of_lt (small1000 (show xs.length + 2 ≤ 1000 by omega)), ?_⟩
  exact k _ ((But.same st).trans but_upd) upd_same
end
/-- which of the classes: one of eighteen -/
def spCls (C : Nat → Addr) : Sp := fun vs H Q _ => ∃ (e : Addr) (j : Nat), vs = [.ref e] ∧ j < 18 ∧ ErrO H e (C j) ∧
  ∀ (l : Addr) (bs : List Bool) (H' : Hp), Same H H' → H' l = some (.lst (bs.map V.bl)) → bs.count true = 1 → Q (.ref l) H'
def cls18 (j : Nat) : List Bool := [decide (0 = j), decide (1 = j), decide (2 = j), decide (3 = j), decide (4 = j), decide (5 = j), decide (6 = j), decide (7 = j), decide (8 = j), decide (9 = j), decide (10 = j), decide (11 = j), decide (12 = j), decide (13 = j), decide (14 = j), decide (15 = j), decide (16 = j), decide (17 = j)]
theorem cls18_one : ∀ j, j < 18 → (cls18 j).count true = 1 := by decide
section
variable {P : Program} {w : World} {K : PySem.W.Frag} {mg : Str → Option Value} {base : Heap}
theorem scC : FnScope ["_law_error", "_law_found"] ["_law_error"] (defScope sCls) := ⟨rfl, rfl, rfl, by decide +kernel, rfl, by decide +kernel, by decide +kernel⟩
theorem ok_cls {f : Addr} {fd : FuncData} {C : Nat → Addr} (F : Fun K "_law_classes" "_law_classes" sCls f fd) (T : ET K mg C) (isM : mg "isinstance" = none) : FnOk P w K mg base CX0 1 f fd ["_law_error"] (spCls C) := by
  refine F.ok scC (fun vs H Q E h => ?_) (fun cdv A outer s H vs Q E hr h => ?_)
  · obtain ⟨e, j, rfl, _⟩ := h
    rfl
  · obtain ⟨e, j, rfl, hj, er, k⟩ := h
    have xj : XT K (C j) := by
      have all : ∀ j, j < 18 → XT K (C j) := fun j hj => by
        rcases j with _ | _ | _ | _ | _ | _ | _ | _ | _ | _ | _ | _ | _ | _ | _ | _ | _ | _ | j
        · exact T.x0
        · exact T.x1
        · exact T.x2
        · exact T.x3
        · exact T.x4
        · exact T.x5
        · exact T.x6
        · exact T.x7
        · exact T.x8
        · exact T.x9
        · exact T.x10
        · exact T.x11
        · exact T.x12
        · exact T.x13
        · exact T.x14
        · exact T.x15
        · exact T.x16
        · exact T.x17
        · omega
      exact all j hj
    refine ⟨_, pss_cons (by exact (ps_set (i := 1) scC.nd rfl (.inl rfl) (pe_lst pa_nil))) (
      pss_cons (by exact (ps_expr (pe_bm PySem.F.plainAttrs_list PySem.F.slot_list_extend PySem.F.type_list_extend mt_extend (pv 1) (pa_cons (pe_lst (pa_cons (pe_callB call_isX (by rfl) isM (by decide +kernel) (pa_cons (pv 0) (pa_cons (pe_glob (v := .ref (C 0)) rfl T.m0 rfl) pa_nil))) (pa_cons (pe_callB call_isX (by rfl) isM (by decide +kernel) (pa_cons (pv 0) (pa_cons (pe_glob (v := .ref (C 1)) rfl T.m1 rfl) pa_nil))) pa_nil))) pa_nil)))) (
      pss_cons (by exact (ps_expr (pe_bm PySem.F.plainAttrs_list PySem.F.slot_list_extend PySem.F.type_list_extend mt_extend (pv 1) (pa_cons (pe_lst (pa_cons (pe_callB call_isX (by rfl) isM (by decide +kernel) (pa_cons (pv 0) (pa_cons (pe_glob (v := .ref (C 2)) rfl T.m2 rfl) pa_nil))) (pa_cons (pe_callB call_isX (by rfl) isM (by decide +kernel) (pa_cons (pv 0) (pa_cons (pe_glob (v := .ref (C 3)) rfl T.m3 rfl) pa_nil))) pa_nil))) pa_nil)))) (
      pss_cons (by exact (ps_expr (pe_bm PySem.F.plainAttrs_list PySem.F.slot_list_extend PySem.F.type_list_extend mt_extend (pv 1) (pa_cons (pe_lst (pa_cons (pe_callB call_isX (by rfl) isM (by decide +kernel) (pa_cons (pv 0) (pa_cons (pe_glob (v := .ref (C 4)) rfl T.m4 rfl) pa_nil))) (pa_cons (pe_callB call_isX (by rfl) isM (by decide +kernel) (pa_cons (pv 0) (pa_cons (pe_glob (v := .ref (C 5)) rfl T.m5 rfl) pa_nil))) pa_nil))) pa_nil)))) (
      pss_cons (by exact (ps_expr (pe_bm PySem.F.plainAttrs_list PySem.F.slot_list_extend PySem.F.type_list_extend mt_extend (pv 1) (pa_cons (pe_lst (pa_cons (pe_callB call_isX (by rfl) isM (by decide +kernel) (pa_cons (pv 0) (pa_cons (pe_glob (v := .ref (C 6)) rfl T.m6 rfl) pa_nil))) (pa_cons (pe_callB call_isX (by rfl) isM (by decide +kernel) (pa_cons (pv 0) (pa_cons (pe_glob (v := .ref (C 7)) rfl T.m7 rfl) pa_nil))) pa_nil))) pa_nil)))) (
      pss_cons (by exact (ps_expr (pe_bm PySem.F.plainAttrs_list PySem.F.slot_list_extend PySem.F.type_list_extend mt_extend (pv 1) (pa_cons (pe_lst (pa_cons (pe_callB call_isX (by rfl) isM (by decide +kernel) (pa_cons (pv 0) (pa_cons (pe_glob (v := .ref (C 8)) rfl T.m8 rfl) pa_nil))) (pa_cons (pe_callB call_isX (by rfl) isM (by decide +kernel) (pa_cons (pv 0) (pa_cons (pe_glob (v := .ref (C 9)) rfl T.m9 rfl) pa_nil))) pa_nil))) pa_nil)))) (
      pss_cons (by exact (ps_expr (pe_bm PySem.F.plainAttrs_list PySem.F.slot_list_extend PySem.F.type_list_extend mt_extend (pv 1) (pa_cons (pe_lst (pa_cons (pe_callB call_isX (by rfl) isM (by decide +kernel) (pa_cons (pv 0) (pa_cons (pe_glob (v := .ref (C 10)) rfl T.m10 rfl) pa_nil))) (pa_cons (pe_callB call_isX (by rfl) isM (by decide +kernel) (pa_cons (pv 0) (pa_cons (pe_glob (v := .ref (C 11)) rfl T.m11 rfl) pa_nil))) pa_nil))) pa_nil)))) (
      pss_cons (by exact (ps_expr (pe_bm PySem.F.plainAttrs_list PySem.F.slot_list_extend PySem.F.type_list_extend mt_extend (pv 1) (pa_cons (pe_lst (pa_cons (pe_callB call_isX (by rfl) isM (by decide +kernel) (pa_cons (pv 0) (pa_cons (pe_glob (v := .ref (C 12)) rfl T.m12 rfl) pa_nil))) (pa_cons (pe_callB call_isX (by rfl) isM (by decide +kernel) (pa_cons (pv 0) (pa_cons (pe_glob (v := .ref (C 13)) rfl T.m13 rfl) pa_nil))) pa_nil))) pa_nil)))) (
      pss_cons (by exact (ps_expr (pe_bm PySem.F.plainAttrs_list PySem.F.slot_list_extend PySem.F.type_list_extend mt_extend (pv 1) (pa_cons (pe_lst (pa_cons (pe_callB call_isX (by rfl) isM (by decide +kernel) (pa_cons (pv 0) (pa_cons (pe_glob (v := .ref (C 14)) rfl T.m14 rfl) pa_nil))) (pa_cons (pe_callB call_isX (by rfl) isM (by decide +kernel) (pa_cons (pv 0) (pa_cons (pe_glob (v := .ref (C 15)) rfl T.m15 rfl) pa_nil))) pa_nil))) pa_nil)))) (
      pss_cons (by exact (ps_expr (pe_bm PySem.F.plainAttrs_list PySem.F.slot_list_extend PySem.F.type_list_extend mt_extend (pv 1) (pa_cons (pe_lst (pa_cons (pe_callB call_isX (by rfl) isM (by decide +kernel) (pa_cons (pv 0) (pa_cons (pe_glob (v := .ref (C 16)) rfl T.m16 rfl) pa_nil))) (pa_cons (pe_callB call_isX (by rfl) isM (by decide +kernel) (pa_cons (pv 0) (pa_cons (pe_glob (v := .ref (C 17)) rfl T.m17 rfl) pa_nil))) pa_nil))) pa_nil)))) (
      pss_one (by exact (ps_ret (pv 1))))))))))))), ?_⟩
    refine ⟨(by show 0 ≤ sizeLine; decide), fun l nl => ?_⟩
    have s0 : Same H (upd H l (.lst [])) := same_upd nl
    have hl0 : (upd H l (.lst [])) l = some (.lst ([] : List V)) := upd_same
    generalize upd H l (.lst []) = H0 at s0 hl0
    have keep : ∀ {H1 H2 : Hp}, Same H H1 → But l H1 H2 → Same H H2 := fun s b c o z => b _ _ (s _ _ z) (ne_of_none z nl)
    refine ext rfl hl0 (by simp) (isi xj rfl (.own _) (T.kit 0 j (by decide) hj) (er.same s0)) (fun H' s => isi xj rfl (.own _) (T.kit 1 j (by decide) hj) ((er.same s0).same s)) fun H1 b1 hl1 => ?_
    have s1 := keep s0 b1
    refine ext rfl hl1 (by simp) (isi xj rfl (.own _) (T.kit 2 j (by decide) hj) (er.same s1)) (fun H' s => isi xj rfl (.own _) (T.kit 3 j (by decide) hj) ((er.same s1).same s)) fun H2 b2 hl2 => ?_
    have s2 := keep s1 b2
    refine ext rfl hl2 (by simp) (isi xj rfl (.own _) (T.kit 4 j (by decide) hj) (er.same s2)) (fun H' s => isi xj rfl (.own _) (T.kit 5 j (by decide) hj) ((er.same s2).same s)) fun H3 b3 hl3 => ?_
    have s3 := keep s2 b3
    refine ext rfl hl3 (by simp) (isi xj rfl (.own _) (T.kit 6 j (by decide) hj) (er.same s3)) (fun H' s => isi xj rfl (.own _) (T.kit 7 j (by decide) hj) ((er.same s3).same s)) fun H4 b4 hl4 => ?_
    have s4 := keep s3 b4
    refine ext rfl hl4 (by simp) (isi xj rfl (.own _) (T.kit 8 j (by decide) hj) (er.same s4)) (fun H' s => isi xj rfl (.own _) (T.kit 9 j (by decide) hj) ((er.same s4).same s)) fun H5 b5 hl5 => ?_
    have s5 := keep s4 b5
    refine ext rfl hl5 (by simp) (isi xj rfl (.own _) (T.kit 10 j (by decide) hj) (er.same s5)) (fun H' s => isi xj rfl (.own _) (T.kit 11 j (by decide) hj) ((er.same s5).same s)) fun H6 b6 hl6 => ?_
    have s6 := keep s5 b6
    refine ext rfl hl6 (by simp) (isi xj rfl (.own _) (T.kit 12 j (by decide) hj) (er.same s6)) (fun H' s => isi xj rfl (.own _) (T.kit 13 j (by decide) hj) ((er.same s6).same s)) fun H7 b7 hl7 => ?_
    have s7 := keep s6 b7
    refine ext rfl hl7 (by simp) (isi xj rfl (.own _) (T.kit 14 j (by decide) hj) (er.same s7)) (fun H' s => isi xj rfl (.own _) (T.kit 15 j (by decide) hj) ((er.same s7).same s)) fun H8 b8 hl8 => ?_
    have s8 := keep s7 b8
    refine ext rfl hl8 (by simp) (isi xj rfl (.own _) (T.kit 16 j (by decide) hj) (er.same s8)) (fun H' s => isi xj rfl (.own _) (T.kit 17 j (by decide) hj) ((er.same s8).same s)) fun H9 b9 hl9 => ?_
    have s9 := keep s8 b9
    exact ⟨_, rfl, k l (cls18 j) _ s9 hl9 (cls18_one j hj)⟩
/-- one of four sorts -/
def spSort (C : Nat → Addr) : Sp := fun vs H Q _ => ∃ (e : Addr) (j : Nat), vs = [.ref e] ∧ j < 18 ∧ ErrO H e (C j) ∧
  ∀ (l : Addr) (H' : Hp), Same H H' → H' l = some (.lst [.str (sortS j)]) → Q (.ref l) H'
def nmS : List Str := ["value", "lookup", "overflow", "runtime"]
def flS (j : Nat) : List Bool := [decide (j < 13), decide (13 ≤ j ∧ j < 16), decide (j = 16), decide (j = 17)]
def accS (j n : Nat) : List V := (((nmS.zip (flS j)).take n).filter (·.2)).map fun p => V.str p.1
theorem accS_end : ∀ j, j < 18 → accS j 4 = [.str (sortS j)] := by decide +kernel
theorem accS_step {j i : Nat} {n : Str} {b : Bool} (h : (nmS.zip (flS j))[i]? = some (n, b)) : accS j (i + 1) = accS j i ++ (if b = true then [.str n] else []) := by
  unfold accS
  rw [List.take_succ, h, List.filter_append, List.map_append]
  cases b <;> rfl
theorem lc_zip {K : PySem.W.Frag} {a b : Addr} {xs ys : List V} {g : TG} {tt : TT} {te : TE} {vs : List Nat} {σ : St} {H1 : Hp} {D : Addr} {Qd : Hp → Prop} (hxy : xs.length = ys.length) (Pv : Nat → Hp → Prop) (h0 : Pv 0 (upd H1 D (.lst [])))
    (hl : ∀ i H, i ≤ xs.length → Pv i H → SqL K H a xs ∧ SqL K H b ys)
    (hs : ∀ i x y T H, xs[i]? = some x → ys[i]? = some y → Pv i H → H T = none → g (.ref T) (wipe σ vs) (upd H T (.tup [x, y])) fun σ2 H2 => wipe σ2 vs = wipe σ vs ∧ tt σ2 H2 fun b H3 =>
      if b = true then te σ2 H3 fun y H4 => ∃ acc, H4 D = some (.lst acc) ∧ acc.length < sizeLine ∧ Pv
            (i + 1) (upd H4 D (.lst (acc ++ [y]))) else Pv (i + 1) H3) (hd : ∀ H, Pv xs.length H → Qd H) :
    ∃ W : Nat → Nat → Hp → Prop, (∃ m, W 0 m
          (upd H1 D (.lst []))) ∧ ∀ i m H, W i m H →
      ((Itz K a b).stop i H ∧ Qd H) ∨ ((Itz K a b).go i H ∧ ∃ Nx : Hp → Prop, (∀ H', Nx H' → ∃ m', m' < m ∧ W (i + 1) m' H') ∧ ∀ x H', (Itz K a b).yld i H x H' → g x (wipe σ vs) H' fun σ2 H2 => wipe σ2 vs = wipe σ vs ∧ tt σ2 H2 fun b H3 =>
        if b = true then te σ2 H3 fun y H4 => ∃ acc, H4 D = some (.lst acc) ∧
              acc.length < sizeLine ∧ Nx (upd H4 D (.lst (acc ++ [y]))) else Nx H3) := by
  refine ⟨fun i m H => m = xs.length - i ∧ i ≤ xs.length
        ∧ Pv i H, ⟨xs.length, by simp, Nat.zero_le _, h0⟩, ?_⟩
  rintro i m H ⟨rfl, hi, p⟩
  obtain ⟨qx, qy⟩ := hl i H hi p
  rcases Nat.lt_or_ge i xs.length with lt | ge
  · refine .inr ⟨⟨xs, ys, xs[i], ys[i]'(by omega), qx, qy, List.getElem?_eq_getElem lt, List.getElem?_eq_getElem (by omega)⟩, Pv (i + 1), fun H' p' => ⟨xs.length - (i + 1), by omega, rfl, lt, p'⟩, fun v H' z => ?_⟩
    obtain ⟨T, x, y, rfl, nT, rfl, fx, fy⟩ := z
    exact hs i x y T H (fx xs qx) (fy ys qy) p nT
  · obtain rfl : i = xs.length := by omega
    exact .inl ⟨⟨xs, ys, qx, qy, .inl (Nat.le_refl _)⟩, hd H p⟩
theorem scS : FnScope ["_law_error", "_law_flags", "_law_one", "_law_flag"] ["_law_error"] (defScope sSort) := ⟨rfl, rfl, rfl, by decide +kernel, rfl, by decide +kernel, by decide +kernel⟩
structure TS4 (mg : Str → Option Value) : Prop where
  isM : mg "isinstance" = none
  zip : mg "zip" = none
  ve : mg "ValueError" = none
  le : mg "LookupError" = none
  oe : mg "OverflowError" = none
  re : mg "RuntimeError" = none
theorem ok_sort {f : Addr} {fd : FuncData} {C : Nat → Addr} (F : Fun K "_law_sorts" "_law_sorts" sSort f fd) (T : ET K mg C) (xs : ∀ j, j < 18 → XT K (C j)) (S : TS4 mg) : FnOk P w K mg base CX0 1 f fd ["_law_error"] (spSort C) := by
  refine F.ok scS (fun vs H Q E h => ?_) (fun cdv A outer s H vs Q E hr h => ?_)
  · obtain ⟨e, j, rfl, _⟩ := h
    rfl
  · obtain ⟨e, j, rfl, hj, er, k⟩ := h
    have xj := xs j hj
    refine ⟨_, pss_cons (by exact (ps_set (i := 1) scS.nd rfl (.inl rfl) (pe_lst (pa_cons (pe_callB call_isX (by rfl) S.isM (by decide +kernel) (pa_cons (pv 0) (pa_cons (pe_bltn (v := .ty "ValueError") (by rfl) S.ve (by decide +kernel) rfl) pa_nil))) (pa_cons (pe_callB call_isX (by rfl) S.isM (by decide +kernel) (pa_cons (pv 0) (pa_cons (pe_bltn (v := .ty "LookupError") (by rfl) S.le (by decide +kernel) rfl) pa_nil))) pa_nil))))) (
      pss_cons (by exact (ps_set (i := 1) scS.nd rfl (.inl rfl) (pe_op op_cat (pv 1) (pe_lst (pa_cons (pe_callB call_isX (by rfl) S.isM (by decide +kernel) (pa_cons (pv 0) (pa_cons (pe_bltn (v := .ty "OverflowError") (by rfl) S.oe (by decide +kernel) rfl) pa_nil))) (pa_cons (pe_callB call_isX (by rfl) S.isM (by decide +kernel) (pa_cons (pv 0) (pa_cons (pe_bltn (v := .ty "RuntimeError") (by rfl) S.re (by decide +kernel) rfl) pa_nil))) pa_nil)))))) (
      pss_one (by exact (ps_ret (pe_lc (own := [("_law_one", 2), ("_law_flag", 3)]) (g := gTup K 2 (gCons (gName 2) (gCons (gName 3) gNil))) (tt := tTest (tVar 3)) (te := tVar 2) rfl scS.nd (pi_zip (by rfl) S.zip (pa_cons (pe_lst (pa_cons pe_str (pa_cons pe_str (pa_cons pe_str (pa_cons pe_str pa_nil))))) (pa_cons (pv 1) pa_nil)))
        (blkOk_by (N := ["_law_error", "_law_flags", "_law_one", "_law_flag"]) (sc := defScope sSort) (by decide +kernel))
        (fun _ _ _ _ _ => by exact (pg_tup rfl (pgs_cons (by exact (pg_name (i := 2) scS.nd rfl (Or.inl rfl))) (pgs_cons (by exact (pg_name (i := 3) scS.nd rfl (Or.inl rfl))) pgs_nil))))
        (fun _ _ _ _ _ => by exact (pts_one (pt_val (pv 3))))
        (fun _ _ _ _ _ => by exact (pv 2))))))), ?_⟩
    refine isi xj rfl (.ty _) (T.kiv j hj) er _ fun b1 H1 ⟨e1, s1⟩ => isi xj rfl (.ty _) (T.kil j hj) (er.same s1) _ fun b2 H2 ⟨e2, s2⟩ => ?_
    subst e1
    subst e2
    refine ⟨(by show 2 ≤ sizeLine; decide), fun p1 n1 => ?_⟩
    have t1 := (s1.trans s2).trans (same_upd (o := .lst [.bl (decide (j < 13)), .bl (decide (13 ≤ j ∧ j < 16))]) n1)
    refine ⟨_, rfl, isi xj rfl (.ty _) (T.kio j hj) (er.same t1) _ fun b3 H3 ⟨e3, s3⟩ => isi xj rfl (.ty _) (T.kir j hj) ((er.same t1).same s3) _ fun b4 H4 ⟨e4, s4⟩ => ?_⟩
    subst e3
    subst e4
    refine ⟨(by show 2 ≤ sizeLine; decide), fun p2 n2 => ⟨p1, p2, _, _, rfl, rfl, ((s3.trans s4).trans (same_upd n2)) _ _ upd_same, upd_same, (by show 2 + 2 ≤ sizeLine; decide), fun p3 n3 => ?_⟩⟩
    have t2 := (t1.trans ((s3.trans s4).trans (same_upd (o := .lst [.bl (decide (j = 16)), .bl (decide (j = 17))]) n2))).trans (same_upd (o := .lst ((flS j).map V.bl)) n3)
    have f3 : (upd (upd H4 p2 (.lst [.bl (decide (j = 16)), .bl (decide (j = 17))])) p3 (.lst ((flS j).map V.bl))) p3 = some (.lst ((flS j).map V.bl)) := upd_same
    refine ⟨(by show 4 ≤ sizeLine; decide), fun pn nn => ⟨_, rfl, pn, p3, nmS.map V.str, (flS j).map V.bl, rfl, SqL.of upd_same, SqL.of ((same_upd nn) _ _ f3), fun D nD => ?_⟩⟩
    have t3 := t2.trans (same_upd (o := .lst (nmS.map V.str)) nn)
    have f4 := (same_upd (o := .lst (nmS.map V.str)) nn) _ _ f3
    have fn : (upd (upd (upd H4 p2 (.lst [.bl (decide (j = 16)), .bl (decide (j = 17))])) p3 (.lst ((flS j).map V.bl))) pn (.lst (nmS.map V.str))) pn = some (.lst (nmS.map V.str)) := upd_same
    refine lc_zip (K := K) (a := pn) (b := p3) (xs := nmS.map V.str) (ys := (flS j).map V.bl) rfl (fun i G => G D = some (.lst (accS j i)) ∧ G pn = some (.lst (nmS.map V.str)) ∧ G p3 = some (.lst ((flS j).map V.bl)) ∧ Same H G)
      ⟨upd_same, (same_upd nD) _ _ fn, (same_upd nD) _ _ f4, t3.trans (same_upd nD)⟩ (fun i G _ p => ⟨SqL.of p.2.1, SqL.of p.2.2.1⟩) (fun i x y T' G hx hy p nT => ?_) (fun G p => ?_)
    · obtain ⟨pD, pN, pF, pS⟩ := p
      rw [List.getElem?_map] at hx hy
      obtain ⟨n, hn, rfl⟩ := Option.map_eq_some_iff.mp hx
      obtain ⟨b, hb, rfl⟩ := Option.map_eq_some_iff.mp hy
      have st := accS_step (j := j) (i := i) (n := n) (b := b) (by rw [List.getElem?_zip_eq_some]; exact ⟨hn, hb⟩)
      have u := same_upd (o := .tup [.str n, .bl b]) nT
      refine ⟨T', _, rfl, .inl (.inl upd_same), rfl, _, _, rfl, _, _, rfl, rfl, rfl, _, rfl, b, rfl, ?_⟩
      cases b with
      | false =>
        refine iteF ?_
        rw [if_neg (by decide), List.append_nil] at st
        exact ⟨by rw [st]; exact u _ _ pD, u _ _ pN, u _ _ pF, pS.trans u⟩
      | true =>
        refine iteT ?_
        rw [if_pos rfl] at st
        have small : (accS j i).length ≤ 1000 := by
          unfold accS
          rw [List.length_map]
          refine Nat.le_trans (List.length_filter_le _ _) ?_
          rw [List.length_take]
          exact Nat.le_trans (Nat.min_le_right _ _) (by show 4 ≤ 1000; decide)
        refine ⟨_, rfl, accS j i, u _ _ pD, small1000 small, ?_⟩
        have dn : pn ≠ D := ne_of_none fn nD
        have d3 : p3 ≠ D := ne_of_none f4 nD
        exact ⟨by rw [st]; exact upd_same, by rw [upd_ne dn]; exact u _ _ pN, by rw [upd_ne d3]; exact u _ _ pF, fun c o q => by rw [upd_ne (ne_of_none (t3 _ _ q) nD)]; exact u _ _ (pS _ _ q)⟩
    · obtain ⟨pD, _, _, pS⟩ := p
      have z := accS_end j hj
      exact k D G pS (by rw [← z]; exact pD)
end
end LK

set_option maxRecDepth 100000
set_option maxHeartbeats 8000000
namespace LK
open PySem L2 XK
abbrev sLaw : Stmt := top 36
def spLaw (K : PySem.W.Frag) : Sp := fun vs H Q _ => ∃ (a : Addr) (ns : List Int), vs = [.ref a] ∧ SqL K H a (ns.map V.int) ∧ ns.length ≤ 63 ∧ ∀ H', Q (.bl true) H'
structure TL (mg : Str → Option Value) : Prop where
  rep : mg "repr" = none
  ran : mg "range" = none
  min : mg "min" = none
  len : mg "len" = none
  c1 : ∃ t, mg "MAX_WORD" = some (.int 8 t)
  c2 : ∃ t, mg "MAX_LINE" = some (.int 20 t)
  c3 : ∃ t, mg "MAX_DEPTH" = some (.int 8 t)
  c4 : ∃ t, mg "MAX_COMMANDS" = some (.int 12 t)
  c5 : ∃ t, mg "MAX_ROOM" = some (.int 3 t)
  c6 : ∃ t, mg "MAX_CLASSES" = some (.int 32 t)
  c7 : ∃ t, mg "MAX_BLOCKS" = some (.int 10 t)
  c8 : ∃ t, mg "MAX_LINES" = some (.int 4 t)
  c9 : ∃ t, mg "MAX_TIMES" = some (.int (10 ^ (30 : Int).toNat) t)
structure Calls (P : Program) (w : World) (K : PySem.W.Frag) (mg : Str → Option Value) (base : Heap) (C : Nat → Addr) (fN fA fE fS fC : Addr) (dN dA dE dS dC : FuncData) : Prop where
  gN : FnOk P w K mg base CX0 1 fN dN ["_law_script"] (spPen K)
  mN : mg "_law_pen" = some (.ref fN)
  kN : PySem.W.keepIn K (.ref fN) = true
  bN : Binds K dN ["_law_script"] []
  gA : FnOk P w K mg base CX0 3 fA dA ["_law_pen_here"] (spAny K)
  mA : mg "_law_any_value" = some (.ref fA)
  kA : PySem.W.keepIn K (.ref fA) = true
  bA : Binds K dA ["_law_pen_here"] []
  gE : FnOk P w K mg base CX0 2 fE dE ["_law_thing"] (spErr C)
  mE : mg "_law_some_errors" = some (.ref fE)
  kE : PySem.W.keepIn K (.ref fE) = true
  bE : Binds K dE ["_law_thing"] []
  gS : FnOk P w K mg base CX0 1 fS dS ["_law_error"] (spSort C)
  mS : mg "_law_sorts" = some (.ref fS)
  kS : PySem.W.keepIn K (.ref fS) = true
  bS : Binds K dS ["_law_error"] []
  gC : FnOk P w K mg base CX0 1 fC dC ["_law_error"] (spCls C)
  mC : mg "_law_classes" = some (.ref fC)
  kC : PySem.W.keepIn K (.ref fC) = true
  bC : Binds K dC ["_law_error"] []
section
variable {P : Program} {w : World} {K : PySem.W.Frag} {mg : Str → Option Value} {base : Heap}
theorem shapedS : ∀ j, j < 18 → SeqAt.shaped (.list [.str (sortS j)]) = true := by decide +kernel
theorem eqvS : ∀ j, j < 18 → PyData.eqv (.list [.str (sortS j)]) (.list [.str (sortS j)]) = true := by decide +kernel
theorem dp_one {K : PySem.W.Frag} {H : Hp} {p : Addr} {x : Str} (h : H p = some (.lst [.str x])) : Dp K H (.ref p) (.list [.str x]) := .lst (SqL.of h) (.cons (.str x) .nil)
theorem shows8 : Shows (.list ([8, 20, 8, 12, 3, 32, 10, 4].map PyData.int)) := ⟨by decide +kernel, by decide +kernel, by decide +kernel⟩
theorem text8 : (PyData.list ([8, 20, 8, 12, 3, 32, 10, 4].map PyData.int)).shown = "[8, 20, 8, 12, 3, 32, 10, 4]" := by decide +kernel
theorem showsM : Shows (.int (10 ^ (30 : Int).toNat)) := ⟨by decide +kernel, by decide +kernel, by decide +kernel⟩
theorem scL : FnScope ["_law_script", "_law_pen_here", "_law_turn", "_law_thing", "_law_kept", "_law_error", "_law_titled", "_law_placed", "_law_sort", "_law_some"] ["_law_script"] (defScope sLaw) := ⟨rfl, rfl, rfl, by decide +kernel, rfl, by decide +kernel, by decide +kernel⟩
theorem ok_law {f fN fA fE fS fC : Addr} {fd dN dA dE dS dC : FuncData} {C : Nat → Addr} (F : Fun K "law" "law" sLaw f fd) (M : Calls P w K mg base C fN fA fE fS fC dN dA dE dS dC) (T : TL mg) : AtCaller P w K mg base CX0 4 f fd ["_law_script"] (spLaw K) := by
  refine atCaller F scL (fun vs H Q E h => ?_) (fun cdv outer s H vs Q E hr h => ?_)
  · obtain ⟨a, ns, rfl, _⟩ := h
    rfl
  · obtain ⟨a, ns, rfl, hS, hl, k⟩ := h
    have hu6 := hr.units
    have hr1 : Room 1 _ := hr.mono (by decide)
    have hr2 : Room 2 _ := hr.mono (by decide)
    have hg : (callerA.deeper (PyProof.Rows.envOfC "law" (defScope sLaw) s.heap.objs.size f cdv)).guards = some [] := rfl
    obtain ⟨k1, c1⟩ := T.c1
    obtain ⟨k2, c2⟩ := T.c2
    obtain ⟨k3, c3⟩ := T.c3
    obtain ⟨k4, c4⟩ := T.c4
    obtain ⟨k5, c5⟩ := T.c5
    obtain ⟨k6, c6⟩ := T.c6
    obtain ⟨k7, c7⟩ := T.c7
    obtain ⟨k8, c8⟩ := T.c8
    obtain ⟨k9, c9⟩ := T.c9
    refine ⟨_, pss_cons (by exact (ps_set (i := 1) scL.nd rfl (.inl rfl) (pe_call M.gN hr1 rfl M.mN M.kN M.bN .nil pass0 (pa_cons (pv 0) pa_nil)))) (
        pss_cons (by exact (ps_for PassesOwn.never rfl (pi_range1 rfl T.ran (pa_cons (pe_op op_add pe_int (pe_callB (call_min2 rfl) (by rfl) T.min (by decide +kernel) (pa_cons pe_int (pa_cons (pe_callB call_len_seq (by rfl) T.len PySem.boot_len (pa_cons (pv 0) pa_nil)) pa_nil)))) pa_nil)) (pg_name (i := 2) scL.nd rfl (Or.inl rfl)) (pss_cons (by exact (ps_set (i := 3) scL.nd rfl (.inl rfl) (pe_call M.gA hr rfl M.mA M.kA M.bA .nil pass0 (pa_cons (pv 1) pa_nil)))) (
        pss_cons (by exact (ps_set (i := 4) scL.nd rfl (.inl rfl) (pe_callB (call_repr hg hu6) (by rfl) T.rep (by decide +kernel) (pa_cons (pv 3) pa_nil)))) (
        pss_one (by exact (ps_for PassesOwn.never rfl (pi_list (pe_call M.gE hr2 rfl M.mE M.kE M.bE .nil pass0 (pa_cons (pv 3) pa_nil))) (pg_tup rfl (pgs_cons (pg_name (i := 5) scL.nd rfl (Or.inl rfl)) (pgs_cons (pg_name (i := 6) scL.nd rfl (Or.inl rfl)) (pgs_cons (pg_name (i := 7) scL.nd rfl (Or.inl rfl)) (pgs_cons (pg_name (i := 8) scL.nd rfl (Or.inl rfl)) pgs_nil))))) (pss_cons (by exact (ps_if (PW.pt (pw_or (pt_cmpR op_ne (pe_callB (call_reprL hg hu6) (by rfl) T.rep (by decide +kernel) (pa_cons (pe_lstS (pa_cons (pv 6) (pa_cons (pv 7) pa_nil))) pa_nil)) (pe_callB (call_reprL hg hu6) (by rfl) T.rep (by decide +kernel) (pa_cons (pe_lstS (pa_cons (pv 3) (pa_cons (pv 3) pa_nil))) pa_nil)) (nomark _)) (pw_or1 (pt_cmpR (op_neD hu6) (pe_call M.gS hr1 rfl M.mS M.kS M.bS .nil pass0 (pa_cons (pv 5) pa_nil)) (pe_lst (pa_cons (pv 8) pa_nil)) (nomark _))))) (pss_one (ps_ret pe_bl)) pss_nil)) (
        pss_one (by exact (ps_if (PW.pt (pw_or (pt_cmpR op_ne (pe_bm PySem.F.plainAttrs_list PySem.F.slot_list_count PySem.F.type_list_count mt_count_bool (pe_call M.gC hr1 rfl M.mC M.kC M.bC .nil pass0 (pa_cons (pv 5) pa_nil)) (pa_cons pe_bl pa_nil)) pe_int (nomark _)) (pw_or1 (pt_cmpR op_ne (pe_callB (call_repr hg hu6) (by rfl) T.rep (by decide +kernel) (pa_cons (pv 3) pa_nil)) (pv 4) (nomark _))))) (pss_one (ps_ret pe_bl)) pss_nil))))))))))) (
        pss_cons (by exact (ps_set (i := 9) scL.nd rfl (.inl rfl) (pe_lst (pa_cons (pe_glob (v := .int 8) rfl c1 ⟨_, rfl⟩) (pa_cons (pe_glob (v := .int 20) rfl c2 ⟨_, rfl⟩) (pa_cons (pe_glob (v := .int 8) rfl c3 ⟨_, rfl⟩) (pa_cons (pe_glob (v := .int 12) rfl c4 ⟨_, rfl⟩) (pa_cons (pe_glob (v := .int 3) rfl c5 ⟨_, rfl⟩) (pa_cons (pe_glob (v := .int 32) rfl c6 ⟨_, rfl⟩) (pa_cons (pe_glob (v := .int 10) rfl c7 ⟨_, rfl⟩) (pa_cons (pe_glob (v := .int 4) rfl c8 ⟨_, rfl⟩) pa_nil))))))))))) (
        pss_one (by exact (ps_ret (pe_and (pe_cmpR op_eq (pe_callB (call_repr hg hu6) (by rfl) T.rep (by decide +kernel) (pa_cons (pv 9) pa_nil)) pe_str (nomark _)) (pe_one (pe_cmpR op_eq (pe_callB (call_repr hg hu6) (by rfl) T.rep (by decide +kernel) (pa_cons (pe_glob (v := .int (10 ^ (30 : Int).toNat)) rfl c9 ⟨_, rfl⟩) pa_nil)) (pe_callB (call_repr hg hu6) (by rfl) T.rep (by decide +kernel) (pa_cons (pe_op op_pow pe_int pe_int) pa_nil)) (nomark _))))))))), ?_⟩
    -- the pen
    refine ⟨_, rfl, a, ns, rfl, hS, hl, fun d c ms H1 pen s1 nd nc => ?_⟩
    have hS1 := s1.seq hS
    refine ⟨_, rfl, a, _, rfl, .inl hS1, 5, _, rfl, 3, _, rfl, rfl, ?_⟩
    have hn : (3 + (if ((ns.map V.int).length : Int) < 5 then ((ns.map V.int).length : Int) else 5)).toNat ≤ 8 := by
      split <;> omega
    refine ⟨_, rfl, (by show -2 ^ 62 ≤ 3 + (if ((ns.map V.int).length : Int) < 5 then ((ns.map V.int).length : Int) else 5); split <;> omega), (by show 3 + (if ((ns.map V.int).length : Int) < 5 then ((ns.map V.int).length : Int) else 5) < 2 ^ 62; split <;> omega),
      for_range (lo := 0) (n := (3 + (if ((ns.map V.int).length : Int) < 5 then ((ns.map V.int).length : Int) else 5)).toNat) (fun i σ G => ∃ x2 x3 x4 x5 x6 x7 x8 x9 : Option V, σ = [some (.ref a), some (.ref d), x2, x3, x4, x5, x6, x7, x8, x9] ∧ PenAt G d c (i : Int) ms) ⟨_, _, _, _, _, _, _, _, rfl, pen⟩ ?_ ?_⟩
    · rintro i σ G hi ⟨x2, x3, x4, x5, x6, x7, x8, x9, rfl, pen⟩
      refine ⟨_, rfl, d, c, i, ms, rfl, pen, by omega, fun v G1 good pen1 but1 => ?_⟩
      obtain ⟨dd, dx, sh, sh2⟩ := good
      refine ⟨_, rfl, v, dd, rfl, dx, sh, ?_⟩
      refine ⟨_, rfl, v, rfl, fun l ts G2 fd => ⟨l, rfl, ⟨_, SqL.of fd.lst⟩, for_list (K := K) (a := l) (xs := ts.map V.ref) (fun n σ G3 => ∃ y5 y6 y7 y8 : Option V, σ = [some (.ref a), some (.ref d), some (.int (0 + (i : Int))), some v, some (.str dd.shown), y5, y6, y7, y8, x9] ∧ Same G2 G3)
        ⟨_, _, _, _, rfl, Same.refl _⟩ (fun n σ G3 _ ⟨_, _, _, _, _, s3⟩ => SqL.of (s3 _ _ fd.lst)) ?_ ?_⟩⟩
      · rintro n y σ G3 hy ⟨y5, y6, y7, y8, rfl, s3⟩
        rw [List.getElem?_map] at hy
        obtain ⟨t, ht, rfl⟩ := Option.map_eq_some_iff.mp hy
        obtain ⟨j, hj, e, et, er⟩ := fd.row t (List.mem_of_getElem? ht)
        refine ⟨t, _, rfl, .inl (.inl (s3 _ _ et)), rfl, _, _, rfl, _, _, rfl, _, _, rfl, _, _, rfl, rfl, ?_⟩
        have dx3 : DX K G3 v dd := dx_mono (fd.old.trans s3) dx
        have er3 := er.same s3
        -- repr of both lists
        refine ⟨_, rfl, _, rfl, (by show 2 ≤ sizeLine; decide), fun p np nsys => ⟨p, [v, v], [dd, dd], dd.hasDict, rfl, upd_same, nsys, ?_, ?_, sh2, ?_⟩⟩
        · exact .cons (dx_mono (same_upd np) dx3) (.cons (dx_mono (same_upd np) dx3) .nil)
        · intro x hx
          simp only [List.mem_cons, List.not_mem_nil, or_false, or_self] at hx
          rw [hx]
        have u1 := same_upd (o := .lst [v, v]) np
        refine ⟨_, rfl, _, rfl, (by show 2 ≤ sizeLine; decide), fun q nq qsys => ⟨q, [v, v], [dd, dd], dd.hasDict, rfl, upd_same, qsys, ?_, ?_, sh2, ?_⟩⟩
        · exact .cons (dx_mono (u1.trans (same_upd nq)) dx3) (.cons (dx_mono (u1.trans (same_upd nq)) dx3) .nil)
        · intro x hx
          simp only [List.mem_cons, List.not_mem_nil, or_false, or_self] at hx
          rw [hx]
        have u2 := u1.trans (same_upd (o := .lst [v, v]) nq)
        refine ⟨rfl, _, rfl, iteNS rfl ?_⟩
        -- the sorts
        refine ⟨_, rfl, e, j, rfl, hj, er3.same u2, fun l5 G5 u3 h5 => ⟨_, rfl, (by show 1 ≤ sizeLine; decide), fun p6 n6 => ?_⟩⟩
        have u4 := u3.trans (same_upd (o := .lst [.str (sortS j)]) n6)
        refine ⟨_, _, dp_one ((same_upd n6) _ _ h5), dp_one upd_same, shapedS j hj, shapedS j hj, false, (by rw [eqvS j hj]; rfl), iteF ?_⟩
        have u5 := u2.trans u4
        -- the classes
        refine ⟨_, rfl, e, j, rfl, hj, er3.same u5, fun l7 bs G7 u6 h7 one => ⟨.inl ⟨rfl, _, SqL.of h7⟩, l7, bs, true, rfl, rfl, SqL.of h7, rfl, false, (by rw [one]; rfl), iteF ?_⟩⟩
        have u7 := u5.trans u6
        refine ⟨_, rfl, v, dd, rfl, dx_mono u7 dx3, sh, _, rfl, rfl, false, (by rw [decide_eq_true rfl]; rfl), iteF ?_⟩
        exact ⟨_, _, _, _, rfl, s3.trans u7⟩
      · rintro σ G3 ⟨y5, y6, y7, y8, rfl, s3⟩
        exact ⟨_, _, _, _, _, _, _, _, rfl, by show PenAt G3 d c ((i : Int) + 1) ms; exact pen1.keep (fd.old.trans s3)⟩
    · rintro σ G ⟨x2, x3, x4, x5, x6, x7, x8, x9, rfl, pen⟩
      refine ⟨(by show 8 ≤ sizeLine; decide), fun L nL => ?_⟩
      refine ⟨_, rfl, .ref L, .list ([8, 20, 8, 12, 3, 32, 10, 4].map PyData.int), rfl, .dp (.lst (SqL.of upd_same) (dp_ints [8, 20, 8, 12, 3, 32, 10, 4])), shows8, rfl, true, (by rw [text8]; rfl), iteT ?_⟩
      refine ⟨_, .int (10 ^ (30 : Int).toNat), rfl, .dp (.int _), showsM, _, _, rfl, rfl, ⟨by decide, by decide, by decide⟩, _, .int (10 ^ (30 : Int).toNat), rfl, .dp (.int _), showsM, rfl, ?_⟩
      rw [decide_eq_true rfl]
      exact k _
end
end LK

set_option maxRecDepth 100000
set_option maxHeartbeats 8000000
namespace LK
open PySem PySem.W L2 XK
abbrev bV : List Value := [.type "ValueError", .type "Exception", .type "BaseException", .type "object"]
abbrev bL : List Value := [.type "LookupError", .type "Exception", .type "BaseException", .type "object"]
abbrev bO : List Value := [.type "OverflowError", .type "ArithmeticError", .type "Exception", .type "BaseException", .type "object"]
abbrev bR : List Value := [.type "RuntimeError", .type "Exception", .type "BaseException", .type "object"]
/-- the class's own mro: itself, then the built-in one's -/
def bareOver (K : Frag) (C : Addr) (bm : List Value) : Bool := match clsIn K C with
  | some cd => cd.mro == .ref C :: bm && cd.hasDict
  | none => false
theorem bare_cls {K : Frag} {C : Addr} {bm : List Value} (h : bareOver K C bm = true) : ∃ cd, clsIn K C = some cd ∧ cd.mro = .ref C :: bm ∧ cd.hasDict = true := by
  unfold bareOver at h
  split at h
  · rename_i cd e
    rw [Bool.and_eq_true] at h
    exact ⟨cd, e, eq_of_beq h.1, h.2⟩
  · cases h
/-- what the written part says of an own exception class -/
structure ClsF (K : Frag) (x : Str) (newId : String) (bm : List Value) (C : Addr) : Prop where
  ns : nsIn K mainGlobals x = some (some (.ref C))
  bare : bareOver K C bm = true
  ini : excInitIn K C bm newId = true
  sa : findIn K (.ref C) "__setattr__" = some (some (.builtin "object.__setattr__"))
  ga : findIn K (.ref C) "__getattribute__" = some (some (.builtin "BaseException.__getattribute__"))
  gg : findIn K (.ref C) "__getattr__" = some none
  exC : subIn K (.ref C) (.type "BaseException") = some true
  kC : keepIn K (.ref C) = true
  hd : hasDictIn K C = true
  ac : findIn K (.ref C) "__class__" = some (some (.builtin "object.__class__"))
  gn : specialIn K (.builtin "object.__class__") "__get__" = some (some (.builtin "getset_descriptor.__get__"))
  tk : takesIn K (.builtin "object.__class__") = some true
  mo : mroIn K C (.type "object") = some true
  ty : typeIn K (.ref C) = some (.type "type")
theorem ClsF.xt {K : Frag} {x : Str} {B newId initId : String} {bm : List Value} {C : Addr} (F : ClsF K x newId bm C) (E : ExcBaseFacts B newId initId bm) (S : StoreFacts B bm "object.__setattr__" "object") : XT K C := by
  obtain ⟨cd, hc, hm, hd⟩ := bare_cls F.bare
  refine ⟨⟨B, newId, initId, bm, E, F.ini⟩, ⟨cd, hc, ?_, ?_, fun self => ?_, hd⟩, F.sa, F.ga, F.gg, F.exC, F.kC, F.hd, F.ac, F.gn, F.tk, F.mo⟩
  · rw [hm]
    rfl
  · rw [hm, List.contains_cons, S.hasOwner, Bool.or_true]
  · rw [hm, refuseLoop_ref]
    exact S.passes self
/-- isinstance, by the mro -/
theorem ClsF.kitT {K : Frag} {x : Str} {newId T : String} {bm : List Value} {C : Addr} {r : Bool} (F : ClsF K x newId bm C) (hT : kitMeta T = true) (hr : bm.contains (.type T) = r) : kitOne K (.ref C) (.type T) = some r := by
  obtain ⟨cd, hc, hm, _⟩ := bare_cls F.bare
  have e1 : (Value.ref C == Value.type T) = false := rfl
  unfold kitOne
  rw [e1, if_neg
        Bool.false_ne_true]
  show (if kitMeta T = true then ((clsIn K C).bind fun cd => if cd.mro.isEmpty = true then none else some (cd.mro.contains (.type T))) else none) = some r
  rw [if_pos hT, hc, Option.bind_some, hm, if_neg (by simp), List.contains_cons, hr]
  have e2 : (Value.type T == Value.ref C) = false := rfl
  rw [e2, Bool.false_or]
theorem ClsF.kitC {K : Frag} {x y : Str} {n1 n2 : String} {bm bm' : List Value} {C D : Addr} (F : ClsF K x n1 bm C) (G : ClsF K y n2 bm' D) (ne : (D == C) = false) (hb : ∀ v ∈ bm, (v == Value.ref D) = false) : kitOne K (.ref C) (.ref D) = some false := by
  obtain ⟨cd, hc, hm, _⟩ := bare_cls F.bare
  obtain ⟨cd', hc', _⟩ := bare_cls G.bare
  have e1 : (Value.ref C == Value.ref D) = false := by
    have n : ¬ C = D := fun z => by
      rw [z] at ne
      simp at ne
    simpa using n
  have e2 : (Value.ref D == Value.ref C) = false := by
    have n : ¬ D = C := by simpa using ne
    simpa using n
  unfold kitOne
  rw [e1, if_neg
        Bool.false_ne_true]
  have e3 : ((clsIn K D).isSome && typeIn K (.ref D) == some (.type "type")) = true := by
    rw [hc', G.ty]
    rfl
  have e4 : bm.contains (Value.ref D) = false := by
    rw [← Bool.not_eq_true, List.contains_iff_exists_mem_beq]
    rintro ⟨v, hv, hq⟩
    have := hb v hv
    rw [BEq.comm] at hq
    rw [this] at hq
    cases hq
  show (if ((clsIn K D).isSome && typeIn K (.ref D) == some (.type "type")) = true then _ else none) = _
  rw [if_pos e3]
  show ((clsIn K C).bind fun cd => if cd.mro.isEmpty = true then none else some (cd.mro.contains (.ref D))) = _
  rw [hc, Option.bind_some, hm, if_neg (by simp), List.contains_cons, e2, e4]
  rfl
theorem noRef (D : Addr) : (∀ v ∈ bV, (v == Value.ref D) = false) ∧ (∀ v ∈ bL, (v == Value.ref D) = false) ∧ (∀ v ∈ bO, (v == Value.ref D) = false) ∧ (∀ v ∈ bR, (v == Value.ref D) = false) := by
  refine ⟨?_, ?_, ?_, ?_⟩ <;> (intro v hv; simp only [List.mem_cons, List.not_mem_nil, or_false] at hv; rcases hv with rfl | rfl | rfl | rfl | rfl <;> rfl) <;> skip
/-- what it says of an __init__ -/
structure InitF (K : Frag) (C : Addr) (qn : Str) (st : Stmt) : Prop where
  ex : ∃ (fI : Addr) (oc : Value) (od : Option Addr) (doc pm : Value) (an : Option Addr) (cdv ct : Value) (osl : Array (Option Value)), findIn K (.ref C) "__init__" = some (some (.ref fI)) ∧ typeIn K (.ref fI) = some (.type "function") ∧
    K.lookup fI = some ⟨oc, od, .func (fnOf "__init__" qn (defArgs st) (defBody st) (defScope st) .none .none doc pm an cdv ct), osl⟩ ∧ codeIn K cdv qn = true

theorem xi0 {K : Frag} {C : Addr} (F : InitF K C "InvalidTest.__init__" (inClass (top 1) 0)) (no : findIn K (.ref C) "argument" = some none) : XI K C "argument" := by
  obtain ⟨fI, oc, od, doc, pm, an, cdv, ct, osl, a, b, c, d⟩ := F.ex
  exact ⟨no, by decide, fI, _, oc, od, doc, pm, an, cdv, ct, osl, _, _, _, _, _, _, a, b, c, d, fun s x v => .of_eq rfl, fun s x v => .of_eq rfl⟩
theorem xi1 {K : Frag} {C : Addr} (F : InitF K C "InvalidChange.__init__" (inClass (top 2) 0)) (no : findIn K (.ref C) "argument" = some none) : XI K C "argument" := by
  obtain ⟨fI, oc, od, doc, pm, an, cdv, ct, osl, a, b, c, d⟩ := F.ex
  exact ⟨no, by decide, fI, _, oc, od, doc, pm, an, cdv, ct, osl, _, _, _, _, _, _, a, b, c, d, fun s x v => .of_eq rfl, fun s x v => .of_eq rfl⟩
theorem xi2 {K : Frag} {C : Addr} (F : InitF K C "InvalidAddress.__init__" (inClass (top 3) 0)) (no : findIn K (.ref C) "argument" = some none) : XI K C "argument" := by
  obtain ⟨fI, oc, od, doc, pm, an, cdv, ct, osl, a, b, c, d⟩ := F.ex
  exact ⟨no, by decide, fI, _, oc, od, doc, pm, an, cdv, ct, osl, _, _, _, _, _, _, a, b, c, d, fun s x v => .of_eq rfl, fun s x v => .of_eq rfl⟩
theorem xi3 {K : Frag} {C : Addr} (F : InitF K C "InvalidCommand.__init__" (inClass (top 4) 0)) (no : findIn K (.ref C) "argument" = some none) : XI K C "argument" := by
  obtain ⟨fI, oc, od, doc, pm, an, cdv, ct, osl, a, b, c, d⟩ := F.ex
  exact ⟨no, by decide, fI, _, oc, od, doc, pm, an, cdv, ct, osl, _, _, _, _, _, _, a, b, c, d, fun s x v => .of_eq rfl, fun s x v => .of_eq rfl⟩
theorem xi4 {K : Frag} {C : Addr} (F : InitF K C "InvalidLine.__init__" (inClass (top 5) 0)) (no : findIn K (.ref C) "value" = some none) : XI K C "value" := by
  obtain ⟨fI, oc, od, doc, pm, an, cdv, ct, osl, a, b, c, d⟩ := F.ex
  exact ⟨no, by decide, fI, _, oc, od, doc, pm, an, cdv, ct, osl, _, _, _, _, _, _, a, b, c, d, fun s x v => .of_eq rfl, fun s x v => .of_eq rfl⟩
theorem xi5 {K : Frag} {C : Addr} (F : InitF K C "InvalidText.__init__" (inClass (top 6) 0)) (no : findIn K (.ref C) "value" = some none) : XI K C "value" := by
  obtain ⟨fI, oc, od, doc, pm, an, cdv, ct, osl, a, b, c, d⟩ := F.ex
  exact ⟨no, by decide, fI, _, oc, od, doc, pm, an, cdv, ct, osl, _, _, _, _, _, _, a, b, c, d, fun s x v => .of_eq rfl, fun s x v => .of_eq rfl⟩
theorem xi6 {K : Frag} {C : Addr} (F : InitF K C "InvalidRoom.__init__" (inClass (top 7) 0)) (no : findIn K (.ref C) "value" = some none) : XI K C "value" := by
  obtain ⟨fI, oc, od, doc, pm, an, cdv, ct, osl, a, b, c, d⟩ := F.ex
  exact ⟨no, by decide, fI, _, oc, od, doc, pm, an, cdv, ct, osl, _, _, _, _, _, _, a, b, c, d, fun s x v => .of_eq rfl, fun s x v => .of_eq rfl⟩
theorem xi7 {K : Frag} {C : Addr} (F : InitF K C "InvalidCheckpoint.__init__" (inClass (top 8) 0)) (no : findIn K (.ref C) "value" = some none) : XI K C "value" := by
  obtain ⟨fI, oc, od, doc, pm, an, cdv, ct, osl, a, b, c, d⟩ := F.ex
  exact ⟨no, by decide, fI, _, oc, od, doc, pm, an, cdv, ct, osl, _, _, _, _, _, _, a, b, c, d, fun s x v => .of_eq rfl, fun s x v => .of_eq rfl⟩
theorem xi8 {K : Frag} {C : Addr} (F : InitF K C "InvalidSkip.__init__" (inClass (top 9) 0)) (no : findIn K (.ref C) "index" = some none) : XI K C "index" := by
  obtain ⟨fI, oc, od, doc, pm, an, cdv, ct, osl, a, b, c, d⟩ := F.ex
  exact ⟨no, by decide, fI, _, oc, od, doc, pm, an, cdv, ct, osl, _, _, _, _, _, _, a, b, c, d, fun s x v => .of_eq rfl, fun s x v => .of_eq rfl⟩
theorem xi9 {K : Frag} {C : Addr} (F : InitF K C "InvalidBlock.__init__" (inClass (top 10) 0)) (no : findIn K (.ref C) "index" = some none) : XI K C "index" := by
  obtain ⟨fI, oc, od, doc, pm, an, cdv, ct, osl, a, b, c, d⟩ := F.ex
  exact ⟨no, by decide, fI, _, oc, od, doc, pm, an, cdv, ct, osl, _, _, _, _, _, _, a, b, c, d, fun s x v => .of_eq rfl, fun s x v => .of_eq rfl⟩
theorem xj10 {K : Frag} {C : Addr} (F : InitF K C "Unreadable.__init__" (inClass (top 11) 0)) (no : findIn K (.ref C) "index" = some none) (no2 : findIn K (.ref C) "place" = some none) : XJ K C "index" "place" := by
  obtain ⟨fI, oc, od, doc, pm, an, cdv, ct, osl, a, b, c, d⟩ := F.ex
  exact ⟨no, no2, by decide, by decide, by decide, fI, _, oc, od, doc, pm, an, cdv, ct, osl, _, _, _, _, _, _, _, _, _, _, _, a, b, c, d, fun s x u v => .of_eq rfl, fun s x u v => .of_eq rfl⟩
theorem xi11 {K : Frag} {C : Addr} (F : InitF K C "InvalidRow.__init__" (inClass (top 12) 0)) (no : findIn K (.ref C) "row" = some none) : XI K C "row" := by
  obtain ⟨fI, oc, od, doc, pm, an, cdv, ct, osl, a, b, c, d⟩ := F.ex
  exact ⟨no, by decide, fI, _, oc, od, doc, pm, an, cdv, ct, osl, _, _, _, _, _, _, a, b, c, d, fun s x v => .of_eq rfl, fun s x v => .of_eq rfl⟩
theorem xi12 {K : Frag} {C : Addr} (F : InitF K C "Beyond.__init__" (inClass (top 13) 0)) (no : findIn K (.ref C) "bound" = some none) : XI K C "bound" := by
  obtain ⟨fI, oc, od, doc, pm, an, cdv, ct, osl, a, b, c, d⟩ := F.ex
  exact ⟨no, by decide, fI, _, oc, od, doc, pm, an, cdv, ct, osl, _, _, _, _, _, _, a, b, c, d, fun s x v => .of_eq rfl, fun s x v => .of_eq rfl⟩
theorem xi13 {K : Frag} {C : Addr} (F : InitF K C "OutOfRange.__init__" (inClass (top 14) 0)) (no : findIn K (.ref C) "value" = some none) : XI K C "value" := by
  obtain ⟨fI, oc, od, doc, pm, an, cdv, ct, osl, a, b, c, d⟩ := F.ex
  exact ⟨no, by decide, fI, _, oc, od, doc, pm, an, cdv, ct, osl, _, _, _, _, _, _, a, b, c, d, fun s x v => .of_eq rfl, fun s x v => .of_eq rfl⟩
theorem xi14 {K : Frag} {C : Addr} (F : InitF K C "NoName.__init__" (inClass (top 15) 0)) (no : findIn K (.ref C) "name" = some none) : XI K C "name" := by
  obtain ⟨fI, oc, od, doc, pm, an, cdv, ct, osl, a, b, c, d⟩ := F.ex
  exact ⟨no, by decide, fI, _, oc, od, doc, pm, an, cdv, ct, osl, _, _, _, _, _, _, a, b, c, d, fun s x v => .of_eq rfl, fun s x v => .of_eq rfl⟩
theorem xi16 {K : Frag} {C : Addr} (F : InitF K C "TooMany.__init__" (inClass (top 17) 0)) (no : findIn K (.ref C) "limit" = some none) : XI K C "limit" := by
  obtain ⟨fI, oc, od, doc, pm, an, cdv, ct, osl, a, b, c, d⟩ := F.ex
  exact ⟨no, by decide, fI, _, oc, od, doc, pm, an, cdv, ct, osl, _, _, _, _, _, _, a, b, c, d, fun s x v => .of_eq rfl, fun s x v => .of_eq rfl⟩
def Cn (C0 C1 C2 C3 C4 C5 C6 C7 C8 C9 C10 C11 C12 C13 C14 C15 C16 C17 : Addr) (n : Nat) : Addr := match n with
  | 0 => C0
  | 1 => C1
  | 2 => C2
  | 3 => C3
  | 4 => C4
  | 5 => C5
  | 6 => C6
  | 7 => C7
  | 8 => C8
  | 9 => C9
  | 10 => C10
  | 11 => C11
  | 12 => C12
  | 13 => C13
  | 14 => C14
  | 15 => C15
  | 16 => C16
  | _ => C17
theorem et {K : Frag} {h : Heap} {mg : Str → Option Value} {C0 C1 C2 C3 C4 C5 C6 C7 C8 C9 C10 C11 C12 C13 C14 C15 C16 C17 : Addr} (X : K.In h) (G : h.Ns mainGlobals mg) (f0 : ClsF K "InvalidTest" "ValueError.__new__" bV C0) (f1 : ClsF K "InvalidChange" "ValueError.__new__" bV C1) (f2 : ClsF K "InvalidAddress" "ValueError.__new__" bV C2) (f3 : ClsF K "InvalidCommand" "ValueError.__new__" bV C3) (f4 : ClsF K "InvalidLine" "ValueError.__new__" bV C4) (f5 : ClsF K "InvalidText" "ValueError.__new__" bV C5) (f6 : ClsF K "InvalidRoom" "ValueError.__new__" bV C6) (f7 : ClsF K "InvalidCheckpoint" "ValueError.__new__" bV C7) (f8 : ClsF K "InvalidSkip" "ValueError.__new__" bV C8) (f9 : ClsF K "InvalidBlock" "ValueError.__new__" bV C9) (f10 : ClsF K "Unreadable" "ValueError.__new__" bV C10) (f11 : ClsF K "InvalidRow" "ValueError.__new__" bV C11) (f12 : ClsF K "Beyond" "ValueError.__new__" bV C12) (f13 : ClsF K "OutOfRange" "LookupError.__new__" bL C13) (f14 : ClsF K "NoName" "LookupError.__new__" bL C14) (f15 : ClsF K "Nothing" "LookupError.__new__" bL C15) (f16 : ClsF K "TooMany" "OverflowError.__new__" bO C16) (f17 : ClsF K "Finished" "RuntimeError.__new__" bR C17) (i0 : InitF K C0 "InvalidTest.__init__" (inClass (top 1) 0)) (n0 : findIn K (.ref C0) "argument" = some none) (i1 : InitF K C1 "InvalidChange.__init__" (inClass (top 2) 0)) (n1 : findIn K (.ref C1) "argument" = some none) (i2 : InitF K C2 "InvalidAddress.__init__" (inClass (top 3) 0)) (n2 : findIn K (.ref C2) "argument" = some none) (i3 : InitF K C3 "InvalidCommand.__init__" (inClass (top 4) 0)) (n3 : findIn K (.ref C3) "argument" = some none) (i4 : InitF K C4 "InvalidLine.__init__" (inClass (top 5) 0)) (n4 : findIn K (.ref C4) "value" = some none) (i5 : InitF K C5 "InvalidText.__init__" (inClass (top 6) 0)) (n5 : findIn K (.ref C5) "value" = some none) (i6 : InitF K C6 "InvalidRoom.__init__" (inClass (top 7) 0)) (n6 : findIn K (.ref C6) "value" = some none) (i7 : InitF K C7 "InvalidCheckpoint.__init__" (inClass (top 8) 0)) (n7 : findIn K (.ref C7) "value" = some none) (i8 : InitF K C8 "InvalidSkip.__init__" (inClass (top 9) 0)) (n8 : findIn K (.ref C8) "index" = some none) (i9 : InitF K C9 "InvalidBlock.__init__" (inClass (top 10) 0)) (n9 : findIn K (.ref C9) "index" = some none) (i10 : InitF K C10 "Unreadable.__init__" (inClass (top 11) 0)) (n10 : findIn K (.ref C10) "index" = some none) (m10 : findIn K (.ref C10) "place" = some none) (i11 : InitF K C11 "InvalidRow.__init__" (inClass (top 12) 0)) (n11 : findIn K (.ref C11) "row" = some none) (i12 : InitF K C12 "Beyond.__init__" (inClass (top 13) 0)) (n12 : findIn K (.ref C12) "bound" = some none) (i13 : InitF K C13 "OutOfRange.__init__" (inClass (top 14) 0)) (n13 : findIn K (.ref C13) "value" = some none) (i14 : InitF K C14 "NoName.__init__" (inClass (top 15) 0)) (n14 : findIn K (.ref C14) "name" = some none) (i16 : InitF K C16 "TooMany.__init__" (inClass (top 17) 0)) (n16 : findIn K (.ref C16) "limit" = some none) (e15 : excIn K C15 bL "LookupError.__new__" = true) (e17 : excIn K C17 bR "RuntimeError.__new__" = true)
    (ne : ([C0, C1, C2, C3, C4, C5, C6, C7, C8, C9, C10, C11, C12, C13, C14, C15, C16, C17] : List Addr).Nodup) : ET K mg (Cn C0 C1 C2 C3 C4 C5 C6 C7 C8 C9 C10 C11 C12 C13 C14 C15 C16 C17) := by
  have nn : ∀ i j, i < 18 → j < 18 → i ≠ j → (Cn C0 C1 C2 C3 C4 C5 C6 C7 C8 C9 C10 C11 C12 C13 C14 C15 C16 C17 i == Cn C0 C1 C2 C3 C4 C5 C6 C7 C8 C9 C10 C11 C12 C13 C14 C15 C16 C17 j) = false := fun i j hi hj hij => by
    have gi : ∀ k, k < 18 → ([C0, C1, C2, C3, C4, C5, C6, C7, C8, C9, C10, C11, C12, C13, C14, C15, C16, C17] : List Addr)[k]? = some (Cn C0 C1 C2 C3 C4 C5 C6 C7 C8 C9 C10 C11 C12 C13 C14 C15 C16 C17 k) := fun k hk => by
      rcases k with _ | _ | _ | _ | _ | _ | _ | _ | _ | _ | _ | _ | _ | _ | _ | _ | _ | _ | k <;> first | rfl | omega
    have q : Cn C0 C1 C2 C3 C4 C5 C6 C7 C8 C9 C10 C11 C12 C13 C14 C15 C16 C17 i ≠ Cn C0 C1 C2 C3 C4 C5 C6 C7 C8 C9 C10 C11 C12 C13 C14 C15 C16 C17 j := fun z => by
      have a := gi i hi
      have b := gi j hj
      rw [z] at a
      exact hij ((List.getElem?_inj (by simpa using hi) ne).mp (a.trans b.symm))
    simpa using q
  refine ⟨mg_of X G f0.ns, f0.xt PySem.F.excBase_ValueError PySem.F.store_ValueError, xi0 i0 n0, mg_of X G f1.ns, f1.xt PySem.F.excBase_ValueError PySem.F.store_ValueError, xi1 i1 n1, mg_of X G f2.ns, f2.xt PySem.F.excBase_ValueError PySem.F.store_ValueError, xi2 i2 n2, mg_of X G f3.ns, f3.xt PySem.F.excBase_ValueError PySem.F.store_ValueError, xi3 i3 n3, mg_of X G f4.ns, f4.xt PySem.F.excBase_ValueError PySem.F.store_ValueError, xi4 i4 n4, mg_of X G f5.ns, f5.xt PySem.F.excBase_ValueError PySem.F.store_ValueError, xi5 i5 n5, mg_of X G f6.ns, f6.xt PySem.F.excBase_ValueError PySem.F.store_ValueError, xi6 i6 n6, mg_of X G f7.ns, f7.xt PySem.F.excBase_ValueError PySem.F.store_ValueError, xi7 i7 n7, mg_of X G f8.ns, f8.xt PySem.F.excBase_ValueError PySem.F.store_ValueError, xi8 i8 n8, mg_of X G f9.ns, f9.xt PySem.F.excBase_ValueError PySem.F.store_ValueError, xi9 i9 n9, mg_of X G f10.ns, f10.xt PySem.F.excBase_ValueError PySem.F.store_ValueError, xj10 i10 n10 m10, mg_of X G f11.ns, f11.xt PySem.F.excBase_ValueError PySem.F.store_ValueError, xi11 i11 n11, mg_of X G f12.ns, f12.xt PySem.F.excBase_ValueError PySem.F.store_ValueError, xi12 i12 n12, mg_of X G f13.ns, f13.xt PySem.F.excBase_LookupError PySem.F.store_LookupError, xi13 i13 n13, mg_of X G f14.ns, f14.xt PySem.F.excBase_LookupError PySem.F.store_LookupError, xi14 i14 n14, mg_of X G f15.ns, f15.xt PySem.F.excBase_LookupError PySem.F.store_LookupError, ⟨PySem.F.excBase_LookupError, e15⟩, mg_of X G f16.ns, f16.xt PySem.F.excBase_OverflowError PySem.F.store_OverflowError, xi16 i16 n16, mg_of X G f17.ns, f17.xt PySem.F.excBase_RuntimeError PySem.F.store_RuntimeError, ⟨PySem.F.excBase_RuntimeError, e17⟩, ?_, ?_, ?_, ?_, ?_⟩
  · intro i j hi hj
    by_cases hij : i = j
    · subst hij
      rw [decide_eq_true rfl]
      unfold kitOne
      rw [if_pos (by simp)]
    · rw [decide_eq_false hij]
      have z := nn i j hi hj hij
      have row : ∀ {x : Str} {n1 : String} {bm : List Value} {C : Addr}, ClsF K x n1 bm C → (∀ D v, v ∈ bm → (v == Value.ref D) = false) → (Cn C0 C1 C2 C3 C4 C5 C6 C7 C8 C9 C10 C11 C12 C13 C14 C15 C16 C17 i == C) = false → kitOne K (.ref C) (.ref (Cn C0 C1 C2 C3 C4 C5 C6 C7 C8 C9 C10 C11 C12 C13 C14 C15 C16 C17 i)) = some false := fun {x n1 bm C} F hb ne => by
        rcases i with _ | _ | _ | _ | _ | _ | _ | _ | _ | _ | _ | _ | _ | _ | _ | _ | _ | _ | i
        · exact F.kitC f0 ne (fun v hv => hb _ v hv)
        · exact F.kitC f1 ne (fun v hv => hb _ v hv)
        · exact F.kitC f2 ne (fun v hv => hb _ v hv)
        · exact F.kitC f3 ne (fun v hv => hb _ v hv)
        · exact F.kitC f4 ne (fun v hv => hb _ v hv)
        · exact F.kitC f5 ne (fun v hv => hb _ v hv)
        · exact F.kitC f6 ne (fun v hv => hb _ v hv)
        · exact F.kitC f7 ne (fun v hv => hb _ v hv)
        · exact F.kitC f8 ne (fun v hv => hb _ v hv)
        · exact F.kitC f9 ne (fun v hv => hb _ v hv)
        · exact F.kitC f10 ne (fun v hv => hb _ v hv)
        · exact F.kitC f11 ne (fun v hv => hb _ v hv)
        · exact F.kitC f12 ne (fun v hv => hb _ v hv)
        · exact F.kitC f13 ne (fun v hv => hb _ v hv)
        · exact F.kitC f14 ne (fun v hv => hb _ v hv)
        · exact F.kitC f15 ne (fun v hv => hb _ v hv)
        · exact F.kitC f16 ne (fun v hv => hb _ v hv)
        · exact F.kitC f17 ne (fun v hv => hb _ v hv)
        · omega
      rcases j with _ | _ | _ | _ | _ | _ | _ | _ | _ | _ | _ | _ | _ | _ | _ | _ | _ | _ | j
      · exact row f0 (fun D => (noRef D).1) z
      · exact row f1 (fun D => (noRef D).1) z
      · exact row f2 (fun D => (noRef D).1) z
      · exact row f3 (fun D => (noRef D).1) z
      · exact row f4 (fun D => (noRef D).1) z
      · exact row f5 (fun D => (noRef D).1) z
      · exact row f6 (fun D => (noRef D).1) z
      · exact row f7 (fun D => (noRef D).1) z
      · exact row f8 (fun D => (noRef D).1) z
      · exact row f9 (fun D => (noRef D).1) z
      · exact row f10 (fun D => (noRef D).1) z
      · exact row f11 (fun D => (noRef D).1) z
      · exact row f12 (fun D => (noRef D).1) z
      · exact row f13 (fun D => (noRef D).2.1) z
      · exact row f14 (fun D => (noRef D).2.1) z
      · exact row f15 (fun D => (noRef D).2.1) z
      · exact row f16 (fun D => (noRef D).2.2.1) z
      · exact row f17 (fun D => (noRef D).2.2.2) z
      · omega
  · intro j hj
    rcases j with _ | _ | _ | _ | _ | _ | _ | _ | _ | _ | _ | _ | _ | _ | _ | _ | _ | _ | j
    · exact f0.kitT (by decide +kernel) (by decide +kernel)
    · exact f1.kitT (by decide +kernel) (by decide +kernel)
    · exact f2.kitT (by decide +kernel) (by decide +kernel)
    · exact f3.kitT (by decide +kernel) (by decide +kernel)
    · exact f4.kitT (by decide +kernel) (by decide +kernel)
    · exact f5.kitT (by decide +kernel) (by decide +kernel)
    · exact f6.kitT (by decide +kernel) (by decide +kernel)
    · exact f7.kitT (by decide +kernel) (by decide +kernel)
    · exact f8.kitT (by decide +kernel) (by decide +kernel)
    · exact f9.kitT (by decide +kernel) (by decide +kernel)
    · exact f10.kitT (by decide +kernel) (by decide +kernel)
    · exact f11.kitT (by decide +kernel) (by decide +kernel)
    · exact f12.kitT (by decide +kernel) (by decide +kernel)
    · exact f13.kitT (by decide +kernel) (by decide +kernel)
    · exact f14.kitT (by decide +kernel) (by decide +kernel)
    · exact f15.kitT (by decide +kernel) (by decide +kernel)
    · exact f16.kitT (by decide +kernel) (by decide +kernel)
    · exact f17.kitT (by decide +kernel) (by decide +kernel)
    · omega
  · intro j hj
    rcases j with _ | _ | _ | _ | _ | _ | _ | _ | _ | _ | _ | _ | _ | _ | _ | _ | _ | _ | j
    · exact f0.kitT (by decide +kernel) (by decide +kernel)
    · exact f1.kitT (by decide +kernel) (by decide +kernel)
    · exact f2.kitT (by decide +kernel) (by decide +kernel)
    · exact f3.kitT (by decide +kernel) (by decide +kernel)
    · exact f4.kitT (by decide +kernel) (by decide +kernel)
    · exact f5.kitT (by decide +kernel) (by decide +kernel)
    · exact f6.kitT (by decide +kernel) (by decide +kernel)
    · exact f7.kitT (by decide +kernel) (by decide +kernel)
    · exact f8.kitT (by decide +kernel) (by decide +kernel)
    · exact f9.kitT (by decide +kernel) (by decide +kernel)
    · exact f10.kitT (by decide +kernel) (by decide +kernel)
    · exact f11.kitT (by decide +kernel) (by decide +kernel)
    · exact f12.kitT (by decide +kernel) (by decide +kernel)
    · exact f13.kitT (by decide +kernel) (by decide +kernel)
    · exact f14.kitT (by decide +kernel) (by decide +kernel)
    · exact f15.kitT (by decide +kernel) (by decide +kernel)
    · exact f16.kitT (by decide +kernel) (by decide +kernel)
    · exact f17.kitT (by decide +kernel) (by decide +kernel)
    · omega
  · intro j hj
    rcases j with _ | _ | _ | _ | _ | _ | _ | _ | _ | _ | _ | _ | _ | _ | _ | _ | _ | _ | j
    · exact f0.kitT (by decide +kernel) (by decide +kernel)
    · exact f1.kitT (by decide +kernel) (by decide +kernel)
    · exact f2.kitT (by decide +kernel) (by decide +kernel)
    · exact f3.kitT (by decide +kernel) (by decide +kernel)
    · exact f4.kitT (by decide +kernel) (by decide +kernel)
    · exact f5.kitT (by decide +kernel) (by decide +kernel)
    · exact f6.kitT (by decide +kernel) (by decide +kernel)
    · exact f7.kitT (by decide +kernel) (by decide +kernel)
    · exact f8.kitT (by decide +kernel) (by decide +kernel)
    · exact f9.kitT (by decide +kernel) (by decide +kernel)
    · exact f10.kitT (by decide +kernel) (by decide +kernel)
    · exact f11.kitT (by decide +kernel) (by decide +kernel)
    · exact f12.kitT (by decide +kernel) (by decide +kernel)
    · exact f13.kitT (by decide +kernel) (by decide +kernel)
    · exact f14.kitT (by decide +kernel) (by decide +kernel)
    · exact f15.kitT (by decide +kernel) (by decide +kernel)
    · exact f16.kitT (by decide +kernel) (by decide +kernel)
    · exact f17.kitT (by decide +kernel) (by decide +kernel)
    · omega
  · intro j hj
    rcases j with _ | _ | _ | _ | _ | _ | _ | _ | _ | _ | _ | _ | _ | _ | _ | _ | _ | _ | j
    · exact f0.kitT (by decide +kernel) (by decide +kernel)
    · exact f1.kitT (by decide +kernel) (by decide +kernel)
    · exact f2.kitT (by decide +kernel) (by decide +kernel)
    · exact f3.kitT (by decide +kernel) (by decide +kernel)
    · exact f4.kitT (by decide +kernel) (by decide +kernel)
    · exact f5.kitT (by decide +kernel) (by decide +kernel)
    · exact f6.kitT (by decide +kernel) (by decide +kernel)
    · exact f7.kitT (by decide +kernel) (by decide +kernel)
    · exact f8.kitT (by decide +kernel) (by decide +kernel)
    · exact f9.kitT (by decide +kernel) (by decide +kernel)
    · exact f10.kitT (by decide +kernel) (by decide +kernel)
    · exact f11.kitT (by decide +kernel) (by decide +kernel)
    · exact f12.kitT (by decide +kernel) (by decide +kernel)
    · exact f13.kitT (by decide +kernel) (by decide +kernel)
    · exact f14.kitT (by decide +kernel) (by decide +kernel)
    · exact f15.kitT (by decide +kernel) (by decide +kernel)
    · exact f16.kitT (by decide +kernel) (by decide +kernel)
    · exact f17.kitT (by decide +kernel) (by decide +kernel)
    · omega
end LK

set_option maxRecDepth 100000
set_option maxHeartbeats 8000000
namespace LK
open PySem PySem.W L2 XK
theorem initF_mk {K : Frag} {C fI : Addr} {qn : Str} {st : Stmt} {oc : Value} {od : Option Addr} {doc pm : Value} {an : Option Addr} {cdv ct : Value} {osl : Array (Option Value)} (a : findIn K (.ref C) "__init__" = some (some (.ref fI))) (b : typeIn K (.ref fI) = some (.type "function"))
    (c : K.lookup fI = some ⟨oc, od, .func (fnOf "__init__" qn (defArgs st) (defBody st) (defScope st) .none .none doc pm an cdv ct), osl⟩) (d : codeIn K cdv qn = true) : InitF K C qn st := ⟨⟨fI, oc, od, doc, pm, an, cdv, ct, osl, a, b, c, d⟩⟩
theorem all_mk {P : Program} {w : World} {K : Frag} {h : Heap} {mg : Str → Option Value} {fa C0 C1 C2 C3 C4 C5 C6 C7 C8 C9 C10 C11 C12 C13 C14 C15 C16 C17 aN aD aP aA aE aC aS aL : Addr} (X : K.In h) (G : h.Ns mainGlobals mg) (hfa : mg "law" = some (.ref fa))
    {odN anN : Option Addr} {slN : Array (Option Value)} {ocN kVN dcN pmN cdN ctN : Value} {odD anD : Option Addr} {slD : Array (Option Value)} {ocD kVD dcD pmD cdD ctD : Value} {odP anP : Option Addr} {slP : Array (Option Value)} {ocP kVP dcP pmP cdP ctP : Value} {odA anA : Option Addr} {slA : Array (Option Value)} {ocA kVA dcA pmA cdA ctA : Value} {odE anE : Option Addr} {slE : Array (Option Value)} {ocE kVE dcE pmE cdE ctE : Value} {odC anC : Option Addr} {slC : Array (Option Value)} {ocC kVC dcC pmC cdC ctC : Value} {odS anS : Option Addr} {slS : Array (Option Value)} {ocS kVS dcS pmS cdS ctS : Value} {odL anL : Option Addr} {slL : Array (Option Value)} {ocL kVL dcL pmL cdL ctL : Value} {t0 t1 t2 t3 t4 t5 t6 t7 t8 : Tok}
    (gN : nsIn K mainGlobals "_law_pen" = some (some (.ref aN))) (lN : K.lookup aN = some ⟨ocN, odN, .func (fnOf "_law_pen" "_law_pen" (defArgs sPen) (defBody sPen) (defScope sPen) .none kVN dcN pmN anN cdN ctN), slN⟩) (cN : codeIn K cdN "_law_pen" = true) (kN : keepIn K (.ref aN) = true)
    (gD : nsIn K mainGlobals "_law_draw" = some (some (.ref aD))) (lD : K.lookup aD = some ⟨ocD, odD, .func (fnOf "_law_draw" "_law_draw" (defArgs sDraw) (defBody sDraw) (defScope sDraw) .none kVD dcD pmD anD cdD ctD), slD⟩) (cD : codeIn K cdD "_law_draw" = true) (kD : keepIn K (.ref aD) = true)
    (gP : nsIn K mainGlobals "_law_pick" = some (some (.ref aP))) (lP : K.lookup aP = some ⟨ocP, odP, .func (fnOf "_law_pick" "_law_pick" (defArgs sPick) (defBody sPick) (defScope sPick) .none kVP dcP pmP anP cdP ctP), slP⟩) (cP : codeIn K cdP "_law_pick" = true) (kP : keepIn K (.ref aP) = true)
    (gA : nsIn K mainGlobals "_law_any_value" = some (some (.ref aA))) (lA : K.lookup aA = some ⟨ocA, odA, .func (fnOf "_law_any_value" "_law_any_value" (defArgs sAny) (defBody sAny) (defScope sAny) .none kVA dcA pmA anA cdA ctA), slA⟩) (cA : codeIn K cdA "_law_any_value" = true) (kA : keepIn K (.ref aA) = true)
    (gE : nsIn K mainGlobals "_law_some_errors" = some (some (.ref aE))) (lE : K.lookup aE = some ⟨ocE, odE, .func (fnOf "_law_some_errors" "_law_some_errors" (defArgs sErr) (defBody sErr) (defScope sErr) .none kVE dcE pmE anE cdE ctE), slE⟩) (cE : codeIn K cdE "_law_some_errors" = true) (kE : keepIn K (.ref aE) = true)
    (gC : nsIn K mainGlobals "_law_classes" = some (some (.ref aC))) (lC : K.lookup aC = some ⟨ocC, odC, .func (fnOf "_law_classes" "_law_classes" (defArgs sCls) (defBody sCls) (defScope sCls) .none kVC dcC pmC anC cdC ctC), slC⟩) (cC : codeIn K cdC "_law_classes" = true) (kC : keepIn K (.ref aC) = true)
    (gS : nsIn K mainGlobals "_law_sorts" = some (some (.ref aS))) (lS : K.lookup aS = some ⟨ocS, odS, .func (fnOf "_law_sorts" "_law_sorts" (defArgs sSort) (defBody sSort) (defScope sSort) .none kVS dcS pmS anS cdS ctS), slS⟩) (cS : codeIn K cdS "_law_sorts" = true) (kS : keepIn K (.ref aS) = true)
    (gL : nsIn K mainGlobals "law" = some (some (.ref aL))) (lL : K.lookup aL = some ⟨ocL, odL, .func (fnOf "law" "law" (defArgs sLaw) (defBody sLaw) (defScope sLaw) .none kVL dcL pmL anL cdL ctL), slL⟩) (cL : codeIn K cdL "law" = true) (kL : keepIn K (.ref aL) = true)
    (f0 : ClsF K "InvalidTest" "ValueError.__new__" bV C0) (f1 : ClsF K "InvalidChange" "ValueError.__new__" bV C1) (f2 : ClsF K "InvalidAddress" "ValueError.__new__" bV C2) (f3 : ClsF K "InvalidCommand" "ValueError.__new__" bV C3) (f4 : ClsF K "InvalidLine" "ValueError.__new__" bV C4) (f5 : ClsF K "InvalidText" "ValueError.__new__" bV C5) (f6 : ClsF K "InvalidRoom" "ValueError.__new__" bV C6) (f7 : ClsF K "InvalidCheckpoint" "ValueError.__new__" bV C7) (f8 : ClsF K "InvalidSkip" "ValueError.__new__" bV C8) (f9 : ClsF K "InvalidBlock" "ValueError.__new__" bV C9) (f10 : ClsF K "Unreadable" "ValueError.__new__" bV C10) (f11 : ClsF K "InvalidRow" "ValueError.__new__" bV C11) (f12 : ClsF K "Beyond" "ValueError.__new__" bV C12) (f13 : ClsF K "OutOfRange" "LookupError.__new__" bL C13) (f14 : ClsF K "NoName" "LookupError.__new__" bL C14) (f15 : ClsF K "Nothing" "LookupError.__new__" bL C15) (f16 : ClsF K "TooMany" "OverflowError.__new__" bO C16) (f17 : ClsF K "Finished" "RuntimeError.__new__" bR C17)
    (i0 : InitF K C0 "InvalidTest.__init__" (inClass (top 1) 0)) (n0 : findIn K (.ref C0) "argument" = some none) (i1 : InitF K C1 "InvalidChange.__init__" (inClass (top 2) 0)) (n1 : findIn K (.ref C1) "argument" = some none) (i2 : InitF K C2 "InvalidAddress.__init__" (inClass (top 3) 0)) (n2 : findIn K (.ref C2) "argument" = some none) (i3 : InitF K C3 "InvalidCommand.__init__" (inClass (top 4) 0)) (n3 : findIn K (.ref C3) "argument" = some none) (i4 : InitF K C4 "InvalidLine.__init__" (inClass (top 5) 0)) (n4 : findIn K (.ref C4) "value" = some none) (i5 : InitF K C5 "InvalidText.__init__" (inClass (top 6) 0)) (n5 : findIn K (.ref C5) "value" = some none) (i6 : InitF K C6 "InvalidRoom.__init__" (inClass (top 7) 0)) (n6 : findIn K (.ref C6) "value" = some none) (i7 : InitF K C7 "InvalidCheckpoint.__init__" (inClass (top 8) 0)) (n7 : findIn K (.ref C7) "value" = some none) (i8 : InitF K C8 "InvalidSkip.__init__" (inClass (top 9) 0)) (n8 : findIn K (.ref C8) "index" = some none) (i9 : InitF K C9 "InvalidBlock.__init__" (inClass (top 10) 0)) (n9 : findIn K (.ref C9) "index" = some none) (i10 : InitF K C10 "Unreadable.__init__" (inClass (top 11) 0)) (n10 : findIn K (.ref C10) "index" = some none) (m10 : findIn K (.ref C10) "place" = some none) (i11 : InitF K C11 "InvalidRow.__init__" (inClass (top 12) 0)) (n11 : findIn K (.ref C11) "row" = some none) (i12 : InitF K C12 "Beyond.__init__" (inClass (top 13) 0)) (n12 : findIn K (.ref C12) "bound" = some none) (i13 : InitF K C13 "OutOfRange.__init__" (inClass (top 14) 0)) (n13 : findIn K (.ref C13) "value" = some none) (i14 : InitF K C14 "NoName.__init__" (inClass (top 15) 0)) (n14 : findIn K (.ref C14) "name" = some none) (i16 : InitF K C16 "TooMany.__init__" (inClass (top 17) 0)) (n16 : findIn K (.ref C16) "limit" = some none)
    (e15 : excIn K C15 bL "LookupError.__new__" = true) (e17 : excIn K C17 bR "RuntimeError.__new__" = true)
    (ne : ([C0, C1, C2, C3, C4, C5, C6, C7, C8, C9, C10, C11, C12, C13, C14, C15, C16, C17] : List Addr).Nodup)
    (z0 : nsIn K mainGlobals "len" = some none) (z1 : nsIn K mainGlobals "int" = some none) (z2 : nsIn K mainGlobals "list" = some none) (z3 : nsIn K mainGlobals "abs" = some none) (z4 : nsIn K mainGlobals "repr" = some none) (z5 : nsIn K mainGlobals "range" = some none) (z6 : nsIn K mainGlobals "min" = some none) (z7 : nsIn K mainGlobals "isinstance" = some none) (z8 : nsIn K mainGlobals "zip" = some none) (z9 : nsIn K mainGlobals "ValueError" = some none) (z10 : nsIn K mainGlobals "LookupError" = some none) (z11 : nsIn K mainGlobals "OverflowError" = some none) (z12 : nsIn K mainGlobals "RuntimeError" = some none)
    (y0 : nsIn K mainGlobals "MAX_WORD" = some (some (.int 8 t0))) (y1 : nsIn K mainGlobals "MAX_LINE" = some (some (.int 20 t1))) (y2 : nsIn K mainGlobals "MAX_DEPTH" = some (some (.int 8 t2))) (y3 : nsIn K mainGlobals "MAX_COMMANDS" = some (some (.int 12 t3))) (y4 : nsIn K mainGlobals "MAX_ROOM" = some (some (.int 3 t4))) (y5 : nsIn K mainGlobals "MAX_CLASSES" = some (some (.int 32 t5))) (y6 : nsIn K mainGlobals "MAX_BLOCKS" = some (some (.int 10 t6))) (y7 : nsIn K mainGlobals "MAX_LINES" = some (some (.int 4 t7))) (y8 : nsIn K mainGlobals "MAX_TIMES" = some (some (.int 1000000000000000000000000000000 t8))) :
    ∃ fd : FuncData, (∀ (s : Shared) (v : Value), BindsTo s fd ⟨[v], []⟩ [("_law_script", v)]) ∧ ∀ base : Heap, K.In base → base.Ns mainGlobals mg → AtCaller P w K mg base CX0 4 fa fd ["_law_script"] (spLaw K) := by
  have e := hfa.symm.trans (mg_of X G gL)
  cases e
  have E : ET K mg (Cn C0 C1 C2 C3 C4 C5 C6 C7 C8 C9 C10 C11 C12 C13 C14 C15 C16 C17) := et X G f0 f1 f2 f3 f4 f5 f6 f7 f8 f9 f10 f11 f12 f13 f14 f15 f16 f17 i0 n0 i1 n1 i2 n2 i3 n3 i4 n4 i5 n5 i6 n6 i7 n7 i8 n8 i9 n9 i10 n10 m10 i11 n11 i12 n12 i13 n13 i14 n14 i16 n16 e15 e17 ne
  have T : Txt mg := ⟨mg_none_of X G z0, mg_none_of X G z1, mg_none_of X G z2, mg_none_of X G z3⟩
  have S : TS4 mg := ⟨mg_none_of X G z7, mg_none_of X G z8, mg_none_of X G z9, mg_none_of X G z10, mg_none_of X G z11, mg_none_of X G z12⟩
  have L : TL mg := ⟨mg_none_of X G z4, mg_none_of X G z5, mg_none_of X G z6, mg_none_of X G z0, ⟨t0, mg_of X G y0⟩, ⟨t1, mg_of X G y1⟩, ⟨t2, mg_of X G y2⟩, ⟨t3, mg_of X G y3⟩, ⟨t4, mg_of X G y4⟩, ⟨t5, mg_of X G y5⟩, ⟨t6, mg_of X G y6⟩, ⟨t7, mg_of X G y7⟩, ⟨t8, mg_of X G y8⟩⟩
  have FN := fun_mk (st := sPen) lN cN kN
  have FD := fun_mk (st := sDraw) lD cD kD
  have FP := fun_mk (st := sPick) lP cP kP
  have FA := fun_mk (st := sAny) lA cA kA
  have FE := fun_mk (st := sErr) lE cE kE
  have FC := fun_mk (st := sCls) lC cC kC
  have FS := fun_mk (st := sSort) lS cS kS
  have FL := fun_mk (st := sLaw) lL cL kL
  have bN := FN.binds (ps := ["_law_script"]) fun _ _ _ _ _ _ us hl => match us, hl with | [_], _ => rfl
  have bD := FD.binds (ps := ["_law_pen_here", "_law_span"]) fun _ _ _ _ _ _ us hl => match us, hl with | [_, _], _ => rfl
  have bP := FP.binds (ps := ["_law_pen_here", "_law_options"]) fun _ _ _ _ _ _ us hl => match us, hl with | [_, _], _ => rfl
  have bA := FA.binds (ps := ["_law_pen_here"]) fun _ _ _ _ _ _ us hl => match us, hl with | [_], _ => rfl
  have bE := FE.binds (ps := ["_law_thing"]) fun _ _ _ _ _ _ us hl => match us, hl with | [_], _ => rfl
  have bC := FC.binds (ps := ["_law_error"]) fun _ _ _ _ _ _ us hl => match us, hl with | [_], _ => rfl
  have bS := FS.binds (ps := ["_law_error"]) fun _ _ _ _ _ _ us hl => match us, hl with | [_], _ => rfl
  have xs : ∀ j, j < 18 → XT K (Cn C0 C1 C2 C3 C4 C5 C6 C7 C8 C9 C10 C11 C12 C13 C14 C15 C16 C17 j) := fun j hj => by
    rcases j with _ | _ | _ | _ | _ | _ | _ | _ | _ | _ | _ | _ | _ | _ | _ | _ | _ | _ | j
    · exact E.x0
    · exact E.x1
    · exact E.x2
    · exact E.x3
    · exact E.x4
    · exact E.x5
    · exact E.x6
    · exact E.x7
    · exact E.x8
    · exact E.x9
    · exact E.x10
    · exact E.x11
    · exact E.x12
    · exact E.x13
    · exact E.x14
    · exact E.x15
    · exact E.x16
    · exact E.x17
    · omega
  refine ⟨fnOf "law" "law" (defArgs sLaw) (defBody sLaw) (defScope sLaw) .none kVL dcL pmL anL cdL ctL, fun s v => .of_eq rfl, fun base _ _ => ?_⟩
  have GD : FnOk P w K mg base CX0 1 aD _ ["_law_pen_here", "_law_span"] spDraw := ok_draw FD T
  have GP : FnOk P w K mg base CX0 2 aP _ ["_law_pen_here", "_law_options"] spPick := ok_pick FP T GD (mg_of X G gD) kD bD
  have GA : FnOk P w K mg base CX0 3 aA _ ["_law_pen_here"] (spAny K) := ok_any FA GP (mg_of X G gP) kP bP
  exact ok_law FL ⟨ok_pen FN T, mg_of X G gN, kN, bN, GA, mg_of X G gA, kA, bA, ok_err FE E, mg_of X G gE, kE, bE, ok_sort FS E xs S, mg_of X G gS, kS, bS, ok_cls FC E S.isM, mg_of X G gC, kC, bC⟩ L
end LK

open PySem PySem.W PyProof.Rows
set_option maxRecDepth 100000
set_option maxHeartbeats 0
open_top LK36head for PySem.Challenge.rw_linestream_k36_errors_and_limits

open PySem PySem.W PyProof.Rows
set_option maxRecDepth 100000 in
set_option maxHeartbeats 0 in
theorem PySem.Challenge.cw_linestream_k36_errors_and_limits_holds : PySem.Challenge.rw_linestream_k36_errors_and_limits.Holds :=
  LK36head (by
    k_fill
    refine XK.caller_walk (l := PySem.Challenge.rw_linestream_k36_errors_and_limits) (n := 63) (k := 4) (x := "_law_script") (sp := fun w => LK.spLaw _) rfl (by decide) rfl ⟨rfl, by decide, by decide⟩ (fun w h Y => PySem.W.kIn_of Y) ?F (fun w H a ns hl hS => ⟨a, ns, rfl, hS, hl, fun _ => rfl⟩)
    case F =>
      intro w mg fa h KX G hmg0
      have hmg : mg "law" = some (.ref fa) := hmg0
      clear hmg0
      refine' LK.all_mk KX G hmg ?h_gN ?h_lN ?h_cN ?h_kN ?h_gD ?h_lD ?h_cD ?h_kD ?h_gP ?h_lP ?h_cP ?h_kP ?h_gA ?h_lA ?h_cA ?h_kA ?h_gE ?h_lE ?h_cE ?h_kE ?h_gC ?h_lC ?h_cC ?h_kC ?h_gS ?h_lS ?h_cS ?h_kS ?h_gL ?h_lL ?h_cL ?h_kL ?h_f0 ?h_f1 ?h_f2 ?h_f3 ?h_f4 ?h_f5 ?h_f6 ?h_f7 ?h_f8 ?h_f9 ?h_f10 ?h_f11 ?h_f12 ?h_f13 ?h_f14 ?h_f15 ?h_f16 ?h_f17 ?h_i0 ?h_n0 ?h_i1 ?h_n1 ?h_i2 ?h_n2 ?h_i3 ?h_n3 ?h_i4 ?h_n4 ?h_i5 ?h_n5 ?h_i6 ?h_n6 ?h_i7 ?h_n7 ?h_i8 ?h_n8 ?h_i9 ?h_n9 ?h_i10 ?h_n10 ?h_m10 ?h_i11 ?h_n11 ?h_i12 ?h_n12 ?h_i13 ?h_n13 ?h_i14 ?h_n14 ?h_i16 ?h_n16 ?h_e15 ?h_e17 ?h_ne ?h_z0 ?h_z1 ?h_z2 ?h_z3 ?h_z4 ?h_z5 ?h_z6 ?h_z7 ?h_z8 ?h_z9 ?h_z10 ?h_z11 ?h_z12 ?h_y0 ?h_y1 ?h_y2 ?h_y3 ?h_y4 ?h_y5 ?h_y6 ?h_y7 ?h_y8
      (case h_gN => k_is)
      (case h_lN => k_is)
      (case h_cN => k_is)
      (case h_kN => k_is)
      (case h_gD => k_is)
      (case h_lD => k_is)
      (case h_cD => k_is)
      (case h_kD => k_is)
      (case h_gP => k_is)
      (case h_lP => k_is)
      (case h_cP => k_is)
      (case h_kP => k_is)
      (case h_gA => k_is)
      (case h_lA => k_is)
      (case h_cA => k_is)
      (case h_kA => k_is)
      (case h_gE => k_is)
      (case h_lE => k_is)
      (case h_cE => k_is)
      (case h_kE => k_is)
      (case h_gC => k_is)
      (case h_lC => k_is)
      (case h_cC => k_is)
      (case h_kC => k_is)
      (case h_gS => k_is)
      (case h_lS => k_is)
      (case h_cS => k_is)
      (case h_kS => k_is)
      (case h_gL => k_is)
      (case h_lL => k_is)
      (case h_cL => k_is)
      (case h_kL => k_is)
      (case h_f0 => (refine' ⟨?q1, ?q2, ?q3, ?q4, ?q5, ?q6, ?q7, ?q8, ?q9, ?q10, ?q11, ?q12, ?q13, ?q14⟩; (case q1 => k_is); (case q2 => kernel_rfl); (case q3 => kernel_rfl); (case q4 => k_is); (case q5 => k_is); (case q6 => k_is); (case q7 => k_is); (case q8 => k_is); (case q9 => k_is); (case q10 => k_is); (case q11 => k_is); (case q12 => k_is); (case q13 => k_is); (case q14 => k_is)))
      (case h_f1 => (refine' ⟨?q1, ?q2, ?q3, ?q4, ?q5, ?q6, ?q7, ?q8, ?q9, ?q10, ?q11, ?q12, ?q13, ?q14⟩; (case q1 => k_is); (case q2 => kernel_rfl); (case q3 => kernel_rfl); (case q4 => k_is); (case q5 => k_is); (case q6 => k_is); (case q7 => k_is); (case q8 => k_is); (case q9 => k_is); (case q10 => k_is); (case q11 => k_is); (case q12 => k_is); (case q13 => k_is); (case q14 => k_is)))
      (case h_f2 => (refine' ⟨?q1, ?q2, ?q3, ?q4, ?q5, ?q6, ?q7, ?q8, ?q9, ?q10, ?q11, ?q12, ?q13, ?q14⟩; (case q1 => k_is); (case q2 => kernel_rfl); (case q3 => kernel_rfl); (case q4 => k_is); (case q5 => k_is); (case q6 => k_is); (case q7 => k_is); (case q8 => k_is); (case q9 => k_is); (case q10 => k_is); (case q11 => k_is); (case q12 => k_is); (case q13 => k_is); (case q14 => k_is)))
      (case h_f3 => (refine' ⟨?q1, ?q2, ?q3, ?q4, ?q5, ?q6, ?q7, ?q8, ?q9, ?q10, ?q11, ?q12, ?q13, ?q14⟩; (case q1 => k_is); (case q2 => kernel_rfl); (case q3 => kernel_rfl); (case q4 => k_is); (case q5 => k_is); (case q6 => k_is); (case q7 => k_is); (case q8 => k_is); (case q9 => k_is); (case q10 => k_is); (case q11 => k_is); (case q12 => k_is); (case q13 => k_is); (case q14 => k_is)))
      (case h_f4 => (refine' ⟨?q1, ?q2, ?q3, ?q4, ?q5, ?q6, ?q7, ?q8, ?q9, ?q10, ?q11, ?q12, ?q13, ?q14⟩; (case q1 => k_is); (case q2 => kernel_rfl); (case q3 => kernel_rfl); (case q4 => k_is); (case q5 => k_is); (case q6 => k_is); (case q7 => k_is); (case q8 => k_is); (case q9 => k_is); (case q10 => k_is); (case q11 => k_is); (case q12 => k_is); (case q13 => k_is); (case q14 => k_is)))
      (case h_f5 => (refine' ⟨?q1, ?q2, ?q3, ?q4, ?q5, ?q6, ?q7, ?q8, ?q9, ?q10, ?q11, ?q12, ?q13, ?q14⟩; (case q1 => k_is); (case q2 => kernel_rfl); (case q3 => kernel_rfl); (case q4 => k_is); (case q5 => k_is); (case q6 => k_is); (case q7 => k_is); (case q8 => k_is); (case q9 => k_is); (case q10 => k_is); (case q11 => k_is); (case q12 => k_is); (case q13 => k_is); (case q14 => k_is)))
      (case h_f6 => (refine' ⟨?q1, ?q2, ?q3, ?q4, ?q5, ?q6, ?q7, ?q8, ?q9, ?q10, ?q11, ?q12, ?q13, ?q14⟩; (case q1 => k_is); (case q2 => kernel_rfl); (case q3 => kernel_rfl); (case q4 => k_is); (case q5 => k_is); (case q6 => k_is); (case q7 => k_is); (case q8 => k_is); (case q9 => k_is); (case q10 => k_is); (case q11 => k_is); (case q12 => k_is); (case q13 => k_is); (case q14 => k_is)))
      (case h_f7 => (refine' ⟨?q1, ?q2, ?q3, ?q4, ?q5, ?q6, ?q7, ?q8, ?q9, ?q10, ?q11, ?q12, ?q13, ?q14⟩; (case q1 => k_is); (case q2 => kernel_rfl); (case q3 => kernel_rfl); (case q4 => k_is); (case q5 => k_is); (case q6 => k_is); (case q7 => k_is); (case q8 => k_is); (case q9 => k_is); (case q10 => k_is); (case q11 => k_is); (case q12 => k_is); (case q13 => k_is); (case q14 => k_is)))
      (case h_f8 => (refine' ⟨?q1, ?q2, ?q3, ?q4, ?q5, ?q6, ?q7, ?q8, ?q9, ?q10, ?q11, ?q12, ?q13, ?q14⟩; (case q1 => k_is); (case q2 => kernel_rfl); (case q3 => kernel_rfl); (case q4 => k_is); (case q5 => k_is); (case q6 => k_is); (case q7 => k_is); (case q8 => k_is); (case q9 => k_is); (case q10 => k_is); (case q11 => k_is); (case q12 => k_is); (case q13 => k_is); (case q14 => k_is)))
      (case h_f9 => (refine' ⟨?q1, ?q2, ?q3, ?q4, ?q5, ?q6, ?q7, ?q8, ?q9, ?q10, ?q11, ?q12, ?q13, ?q14⟩; (case q1 => k_is); (case q2 => kernel_rfl); (case q3 => kernel_rfl); (case q4 => k_is); (case q5 => k_is); (case q6 => k_is); (case q7 => k_is); (case q8 => k_is); (case q9 => k_is); (case q10 => k_is); (case q11 => k_is); (case q12 => k_is); (case q13 => k_is); (case q14 => k_is)))
      (case h_f10 => (refine' ⟨?q1, ?q2, ?q3, ?q4, ?q5, ?q6, ?q7, ?q8, ?q9, ?q10, ?q11, ?q12, ?q13, ?q14⟩; (case q1 => k_is); (case q2 => kernel_rfl); (case q3 => kernel_rfl); (case q4 => k_is); (case q5 => k_is); (case q6 => k_is); (case q7 => k_is); (case q8 => k_is); (case q9 => k_is); (case q10 => k_is); (case q11 => k_is); (case q12 => k_is); (case q13 => k_is); (case q14 => k_is)))
      (case h_f11 => (refine' ⟨?q1, ?q2, ?q3, ?q4, ?q5, ?q6, ?q7, ?q8, ?q9, ?q10, ?q11, ?q12, ?q13, ?q14⟩; (case q1 => k_is); (case q2 => kernel_rfl); (case q3 => kernel_rfl); (case q4 => k_is); (case q5 => k_is); (case q6 => k_is); (case q7 => k_is); (case q8 => k_is); (case q9 => k_is); (case q10 => k_is); (case q11 => k_is); (case q12 => k_is); (case q13 => k_is); (case q14 => k_is)))
      (case h_f12 => (refine' ⟨?q1, ?q2, ?q3, ?q4, ?q5, ?q6, ?q7, ?q8, ?q9, ?q10, ?q11, ?q12, ?q13, ?q14⟩; (case q1 => k_is); (case q2 => kernel_rfl); (case q3 => kernel_rfl); (case q4 => k_is); (case q5 => k_is); (case q6 => k_is); (case q7 => k_is); (case q8 => k_is); (case q9 => k_is); (case q10 => k_is); (case q11 => k_is); (case q12 => k_is); (case q13 => k_is); (case q14 => k_is)))
      (case h_f13 => (refine' ⟨?q1, ?q2, ?q3, ?q4, ?q5, ?q6, ?q7, ?q8, ?q9, ?q10, ?q11, ?q12, ?q13, ?q14⟩; (case q1 => k_is); (case q2 => kernel_rfl); (case q3 => kernel_rfl); (case q4 => k_is); (case q5 => k_is); (case q6 => k_is); (case q7 => k_is); (case q8 => k_is); (case q9 => k_is); (case q10 => k_is); (case q11 => k_is); (case q12 => k_is); (case q13 => k_is); (case q14 => k_is)))
      (case h_f14 => (refine' ⟨?q1, ?q2, ?q3, ?q4, ?q5, ?q6, ?q7, ?q8, ?q9, ?q10, ?q11, ?q12, ?q13, ?q14⟩; (case q1 => k_is); (case q2 => kernel_rfl); (case q3 => kernel_rfl); (case q4 => k_is); (case q5 => k_is); (case q6 => k_is); (case q7 => k_is); (case q8 => k_is); (case q9 => k_is); (case q10 => k_is); (case q11 => k_is); (case q12 => k_is); (case q13 => k_is); (case q14 => k_is)))
      (case h_f15 => (refine' ⟨?q1, ?q2, ?q3, ?q4, ?q5, ?q6, ?q7, ?q8, ?q9, ?q10, ?q11, ?q12, ?q13, ?q14⟩; (case q1 => k_is); (case q2 => kernel_rfl); (case q3 => kernel_rfl); (case q4 => k_is); (case q5 => k_is); (case q6 => k_is); (case q7 => k_is); (case q8 => k_is); (case q9 => k_is); (case q10 => k_is); (case q11 => k_is); (case q12 => k_is); (case q13 => k_is); (case q14 => k_is)))
      (case h_f16 => (refine' ⟨?q1, ?q2, ?q3, ?q4, ?q5, ?q6, ?q7, ?q8, ?q9, ?q10, ?q11, ?q12, ?q13, ?q14⟩; (case q1 => k_is); (case q2 => kernel_rfl); (case q3 => kernel_rfl); (case q4 => k_is); (case q5 => k_is); (case q6 => k_is); (case q7 => k_is); (case q8 => k_is); (case q9 => k_is); (case q10 => k_is); (case q11 => k_is); (case q12 => k_is); (case q13 => k_is); (case q14 => k_is)))
      (case h_f17 => (refine' ⟨?q1, ?q2, ?q3, ?q4, ?q5, ?q6, ?q7, ?q8, ?q9, ?q10, ?q11, ?q12, ?q13, ?q14⟩; (case q1 => k_is); (case q2 => kernel_rfl); (case q3 => kernel_rfl); (case q4 => k_is); (case q5 => k_is); (case q6 => k_is); (case q7 => k_is); (case q8 => k_is); (case q9 => k_is); (case q10 => k_is); (case q11 => k_is); (case q12 => k_is); (case q13 => k_is); (case q14 => k_is)))
      (case h_i0 => (refine' LK.initF_mk ?q1 ?q2 ?q3 ?q4; (case q1 => k_is); (case q2 => k_is); (case q3 => k_is); (case q4 => k_is)))
      (case h_n0 => k_is)
      (case h_i1 => (refine' LK.initF_mk ?q1 ?q2 ?q3 ?q4; (case q1 => k_is); (case q2 => k_is); (case q3 => k_is); (case q4 => k_is)))
      (case h_n1 => k_is)
      (case h_i2 => (refine' LK.initF_mk ?q1 ?q2 ?q3 ?q4; (case q1 => k_is); (case q2 => k_is); (case q3 => k_is); (case q4 => k_is)))
      (case h_n2 => k_is)
      (case h_i3 => (refine' LK.initF_mk ?q1 ?q2 ?q3 ?q4; (case q1 => k_is); (case q2 => k_is); (case q3 => k_is); (case q4 => k_is)))
      (case h_n3 => k_is)
      (case h_i4 => (refine' LK.initF_mk ?q1 ?q2 ?q3 ?q4; (case q1 => k_is); (case q2 => k_is); (case q3 => k_is); (case q4 => k_is)))
      (case h_n4 => k_is)
      (case h_i5 => (refine' LK.initF_mk ?q1 ?q2 ?q3 ?q4; (case q1 => k_is); (case q2 => k_is); (case q3 => k_is); (case q4 => k_is)))
      (case h_n5 => k_is)
      (case h_i6 => (refine' LK.initF_mk ?q1 ?q2 ?q3 ?q4; (case q1 => k_is); (case q2 => k_is); (case q3 => k_is); (case q4 => k_is)))
      (case h_n6 => k_is)
      (case h_i7 => (refine' LK.initF_mk ?q1 ?q2 ?q3 ?q4; (case q1 => k_is); (case q2 => k_is); (case q3 => k_is); (case q4 => k_is)))
      (case h_n7 => k_is)
      (case h_i8 => (refine' LK.initF_mk ?q1 ?q2 ?q3 ?q4; (case q1 => k_is); (case q2 => k_is); (case q3 => k_is); (case q4 => k_is)))
      (case h_n8 => k_is)
      (case h_i9 => (refine' LK.initF_mk ?q1 ?q2 ?q3 ?q4; (case q1 => k_is); (case q2 => k_is); (case q3 => k_is); (case q4 => k_is)))
      (case h_n9 => k_is)
      (case h_i10 => (refine' LK.initF_mk ?q1 ?q2 ?q3 ?q4; (case q1 => k_is); (case q2 => k_is); (case q3 => k_is); (case q4 => k_is)))
      (case h_n10 => k_is)
      (case h_m10 => k_is)
      (case h_i11 => (refine' LK.initF_mk ?q1 ?q2 ?q3 ?q4; (case q1 => k_is); (case q2 => k_is); (case q3 => k_is); (case q4 => k_is)))
      (case h_n11 => k_is)
      (case h_i12 => (refine' LK.initF_mk ?q1 ?q2 ?q3 ?q4; (case q1 => k_is); (case q2 => k_is); (case q3 => k_is); (case q4 => k_is)))
      (case h_n12 => k_is)
      (case h_i13 => (refine' LK.initF_mk ?q1 ?q2 ?q3 ?q4; (case q1 => k_is); (case q2 => k_is); (case q3 => k_is); (case q4 => k_is)))
      (case h_n13 => k_is)
      (case h_i14 => (refine' LK.initF_mk ?q1 ?q2 ?q3 ?q4; (case q1 => k_is); (case q2 => k_is); (case q3 => k_is); (case q4 => k_is)))
      (case h_n14 => k_is)
      (case h_i16 => (refine' LK.initF_mk ?q1 ?q2 ?q3 ?q4; (case q1 => k_is); (case q2 => k_is); (case q3 => k_is); (case q4 => k_is)))
      (case h_n16 => k_is)
      (case h_e15 => kernel_rfl)
      (case h_e17 => kernel_rfl)
      (case h_ne => decide)
      (case h_z0 => k_is)
      (case h_z1 => k_is)
      (case h_z2 => k_is)
      (case h_z3 => k_is)
      (case h_z4 => k_is)
      (case h_z5 => k_is)
      (case h_z6 => k_is)
      (case h_z7 => k_is)
      (case h_z8 => k_is)
      (case h_z9 => k_is)
      (case h_z10 => k_is)
      (case h_z11 => k_is)
      (case h_z12 => k_is)
      (case h_y0 => k_is)
      (case h_y1 => k_is)
      (case h_y2 => k_is)
      (case h_y3 => k_is)
      (case h_y4 => k_is)
      (case h_y5 => k_is)
      (case h_y6 => k_is)
      (case h_y7 => k_is)
      (case h_y8 => k_is)
    )
