import PyProof.Rows.All
import Wide.All
import OpenK.AllK
import Wide.FinOn
import KE.KExcInit
import HandS.ForMost
import HandS.Exc
import HandS.ExcOwn
import HandS.ExcInit
import HandS.ExcValue
import HandS.IsInst
import HandS.ExcIs
import KE.KExcIs
import HandS.MakeKwOnly
import HandS.SetFor
import HandS.RaiseMore
import KE.KxIndex
import HandS.ReplaceLit
import HandS.Codes
import HandS.SortKw
import HandS.SetTxt0
import HandS.Strs
import HandS.More
import HandS.Style
import HandS.TryOnly
import HandS.Wide
import HandS.Walk
import HandS.Property
import HandS.TupLe
import PySem.Challenge.RW_linestream_k02_whole_tests_by_rules
set_option Elab.async false
set_option linter.all false
section
set_option Elab.async false
set_option linter.all false
set_option maxRecDepth 100000
set_option maxHeartbeats 5000000
namespace XK
open PySem PySem.W PySem.Calls PySem.HandSPX
section
variable {pg : Program} {w : World} {A : Around} {E : Value → Shared → Prop} {R : Result → Shared → Prop} {h : Heap} {gs : Array GenState} {dr : Drawn} {tk0 : Nat} {ost : OsState}
variable {nam q : Str} {C N : Addr} {bss bml bmb : List Value} {hdc : Bool} {snl : List Str} {subc : List Value} {abst : Bool} {coll : Option Bool} {ddc : Option Addr} {k0 k1 k2 k3 k5 : Option Value} {B nid iid : String}
variable {us : List Value} {kw : List (Str × Value)}
theorem free_check {B : String} {a b : String} {n : Nat} {names : List Str} :
    Bind.check ⟨.any, B, B, .cls, [⟨"args", .varPos, false⟩, ⟨"kwargs", .varKw, false⟩]⟩ a b n names = pure () := by
  cases names with
  | nil => rfl
  | cons x r => rfl
theorem new_checked {M : Model} (F : ExcBaseFacts B nid iid bmb) (hT : ∀ X : String, bml.contains (.type X) = bmb.contains (.type X)) {Q : Unit → Shared → Prop}
    (hC : h.get? C = some (excClassObj nam q C N bss bml hdc snl subc abst coll ddc k0 k1 k2 k3 k5 nid)) (hq : Q () ⟨h, gs, dr, tk0, ost⟩) :
    wpAny M A (checkBuiltinCall nid ⟨.ref C :: us, kw⟩) Q E ⟨h, gs, dr, tk0, ost⟩ := by
  have c1 : (Value.ref C :: bml).contains (.type B) = true := by
    rw [List.contains_cons, hT, F.hasB, Bool.or_true]
  have c2 := F.noStar
  simp only [F.newKind, F.newSplit, F.newRow,
    checkBuiltinCall]
  repeat (first
    | refine wpAny_loadPart_at hC ?_
    | (refine wpAny_isSubtype_exc hC ?_; rw [c1])
    | refine wpAny_staticBase_exc hC ?_
    | refine wpAny_madeBy_exc hC ?_
    | simp only [bne_self_eq_false, Bool.false_eq_true, if_false]
    | wp_step)
  exact hq
/-- the object is laid, behind the tuple of what was passed by position -/
theorem new_laid (F : ExcBaseFacts B nid iid bmb) (hT : ∀ X : String, bml.contains (.type X) = bmb.contains (.type X)) (hu : us.length ≤ sizeLine)
    (hC : h.get? C = some (excClassObj nam q C N bss bml hdc snl subc abst coll ddc k0 k1 k2 k3 k5 nid))
    (hq : R (.ok (.ret (.ref (h.objs.size + 1)))) ⟨(h.push (kdv_tup us)).push (excO C h.objs.size), gs, dr, tk0, ost⟩) :
    codeAny (model pg w) A (.builtin nid ⟨.ref C :: us, kw⟩) R ⟨h, gs, dr, tk0, ost⟩ := by
  have ends := F.ends
  have c1 : (Value.ref C :: bml).contains (.type B) = true := by
    rw [List.contains_cons, hT, F.hasB, Bool.or_true]
  have c2 : (Value.ref C :: bml).contains (.type "AttributeError") = false := by
    rw [List.contains_cons, hT, F.noAttr]
    rfl
  have c3 : (Value.ref C :: bml).contains (.type "NameError") = false := by
    rw [List.contains_cons, hT, F.noName]
    rfl
  refine codeAny_builtinAt
    F.entry ?_
  unfold
    Builtin.«BaseException.__new__»
  refine wpAt_bind ?_
  show wpAt _ _ _ (stack >>= _)
    _ _ _
  refine wpAt_bind (wpAt_stack fun pp qq => wpAt_of_wpAny ?_)
  wp_walk
  refine wpAt_of_wpAny ?_
  rw [F.owner]
  repeat (first
    | with_reducible refine wpAny_madeHere_exc F.canon hC ?_
    | with_reducible refine wpAny_loadPart_at hC ?_
    | (with_reducible refine wpAny_isSubtype_exc hC ?_
       first | rw [c1] | rw [c2] | rw [c3])
    | wp_step)
  show R _ _
  rw [Heap.size_push]
  exact hq
theorem type_called {fI : Addr} {Q : Fin → Shared → Prop} (F : ExcBaseFacts B nid iid bmb) (hT : ∀ X : String, bml.contains (.type X) = bmb.contains (.type X)) (hu : us.length ≤ sizeLine)
    (hC : h.get? C = some (excClassObj nam q C N bss bml hdc snl subc abst coll ddc k0 k1 k2 k3 k5 nid))
    (hi : Looks (model pg w) h (typeLookup (.ref C) "__init__") (some (.ref fI)))
    (hb : ∀ self, Looks (model pg w) h (bindSpecial (.ref fI) self) (.ref fI, [self]))
    (hq : codeAny (model pg w) A (.call (.ref fI) ⟨.ref (h.objs.size + 1) :: us, kw⟩)
      (fun res s' => match res with | .ok (.ret v) => v = .none ∧ Q (.done (.ret (.ref (h.objs.size + 1)))) s' | .ok _ => False | .error e => E e s')
      ⟨(h.push (kdv_tup us)).push (excO C h.objs.size), gs, dr, tk0, ost⟩) :
    wpAny (model pg w) A (Builtin.«type.__call__» ⟨.ref C :: us, kw⟩) Q E ⟨h, gs, dr, tk0, ost⟩ := by
  repeat (first
    | with_reducible refine wpAny_loadPart_at hC ?_
    | with_reducible refine wpAny_madeBy_exc hC ?_
    | wp_step)
  refine codeAny_call_builtin_code (Code.quiet_builtin _ F.quiet) (new_checked F hT hC ?_)
  refine new_laid F hT hu hC ?_
  show wpAny _ _ _ _ _ _
  have kk : ∀ b o, h.get? b = some o → ((h.push (kdv_tup us)).push (excO C h.objs.size)).get? b = some o := fun b o e =>
    Heap.get?_push_of_some _ (Heap.get?_push_of_some _ e)
  have got : ((h.push (kdv_tup us)).push (excO C h.objs.size)).get? (h.objs.size + 1) = some (excO C h.objs.size) := by heap_get
  have gotC := kk _ _ hC
  have self : (Value.ref C :: bml).contains (.ref C) = true := by simp
  have i1 := hi.keeps kk
  have b1 := (hb (.ref (h.objs.size + 1))).keeps kk
  unfold isInstance
  repeat (first
    | with_reducible refine wpAny_loadPart_at got ?_
    | (with_reducible refine wpAny_isSubtype_exc gotC ?_
       rw [self])
    | wp_step)
  show wpAny _ _ (typeLookup (.ref C) _)
    _ _ _
  refine i1.at (wpAny_holding (wpAny_bind (b1.at ?_)))
  refine wpAny_bind (wpAny_call (codeAny_mono hq fun res s' z => ?_))
  rcases res with er | (vv | _ | _ | _) <;> first | exact z | exact z.elim | skip
  obtain ⟨rfl, z⟩ := z
  first
    | exact wpAny_pure
        (wpAny_pure z)
    | (wp_walk; exact z)
theorem called {fI : Addr} (F : ExcBaseFacts B nid iid bmb) (hT : ∀ X : String, bml.contains (.type X) = bmb.contains (.type X)) (hu : us.length ≤ sizeLine)
    (hC : h.get? C = some (excClassObj nam q C N bss bml hdc snl subc abst coll ddc k0 k1 k2 k3 k5 nid))
    (hi : Looks (model pg w) h (typeLookup (.ref C) "__init__") (some (.ref fI)))
    (hb : ∀ self, Looks (model pg w) h (bindSpecial (.ref fI) self) (.ref fI, [self]))
    (hq : codeAny (model pg w) (A.under (.builtin "type.__call__" ⟨.ref C :: us, kw⟩)) (.call (.ref fI) ⟨.ref (h.objs.size + 1) :: us, kw⟩) (InitBack (h.objs.size + 1) R)
      ⟨(h.push (kdv_tup us)).push (excO C h.objs.size), gs, dr, tk0, ost⟩) :
    codeAny (model pg w) A (.call (.ref C) ⟨us, kw⟩) R ⟨h, gs, dr, tk0, ost⟩ := by
  have f1 := tc_lookup
  have f2 := tc_bind (.ref C)
  have isT : (⟨h, gs, dr, tk0, ost⟩ : Shared).TypeIs (.ref C) "type" := ⟨_, hC, rfl⟩
  refine codeAny_of_tree ?_
  show wpAny _ _ (callAny (.ref C) _)
    _ _ _
  repeat (any_goals (first
    | assumption
    | with_reducible refine wpAny_loadPart_at hC ?_
    | wp_step))
  refine ⟨rfl, ?_⟩
  refine codeAny_call_builtin_at (Code.quiet_builtin _ (by decide +kernel)) entry_typeCall (wpAny_check_type_call_sub hC (type_called F hT hu hC hi hb ?_))
  refine codeAny_mono hq fun res s' z => ?_
  rcases res with er | (vv | _ | _ | _) <;> exact z
end
/-! ### self.f = v on an exception of any built-in base, that has no dict yet -/
section
open Builtin.ObjectAttr Builtin
variable {pg : Program} {w : World} {A : Around} {E : Value → Shared → Prop} {R : Result → Shared → Prop} {hpz : Heap} {gs : Array GenState} {dr : Drawn} {tk0 : Nat} {ost : OsState}
variable {K : Frag} {name : Str} {tk : Tok} {v : Value} {x C dx : Addr} {fv : Array Value} {cd : ClassData} {bmb : List Value}
/-- what a class over a built-in exception says of stores -/
structure Opn (cd : ClassData) : Prop where
  ne : cd.mro.isEmpty = false
  ob : cd.mro.contains (.type "object") = true
  ps : ∀ self : Value, refuseLoop self "__setattr__" cd.mro = pure ()
  hd : cd.hasDict = true
theorem first_field (X : K.In hpz) (hx : hpz.get? x = some { cls := .ref C, data := .fields fv }) (hcd : clsIn K C = some cd) (O : Opn cd) (ha : findIn K (.ref C) name = some none)
    (hq : ∀ h' tk' dx, (∀ b o, b ≠ x → hpz.get? b = some o → h'.get? b = some o) → hpz.objs.size ≤ dx → dx ≠ x → h'.get? x = some { cls := .ref C, dict := some dx, data := .fields fv } →
      h'.Ns1 dx (fun y => if y = name then some v else none) → R (.ok (.ret .none)) ⟨h', gs, dr, tk', ost⟩) :
    codeAny (model pg w) A (.call (.builtin "object.__setattr__") ⟨[.ref x, .str name tk, v], []⟩) R ⟨hpz, gs, dr, tk0, ost⟩ := by
  have J : InstAt hpz x { cls := .ref C, data := .fields fv } C none := ⟨hx, rfl, rfl, trivial⟩
  have S := F.store_object
  have far : x ≠ hpz.objs.size := Nat.ne_of_lt (Heap.lt_size hx)
  have subc : Looks (model pg w) hpz (isInstance (.ref x) (.type "object")) true :=
    J.type.andThen (looks_mroIn X (by
      unfold mroIn
      rw [hcd, Option.bind_some, if_neg (by rw [O.ne]; decide), O.ob]))
  refine codeAny_call_builtin S.slot.plain S.entry ?_
  refine @check_slot (model pg w) _ _ ⟨hpz, gs, dr, tk0, ost⟩ "object.__setattr__" "object" "__setattr__" (.ref x) [.str name tk, v] [] _ S.kind S.split subc (S.args (.ref x) (.str name tk) v) ?_
  have m1 : Looks (model pg w) hpz (mroOf (.ref C)) cd.mro := (looks_clsIn X hcd).andThen .now
  have m2 : Looks (model pg w) hpz (storeTaker? none) none := .now
  have m3 : Looks (model pg w) hpz (classData C) cd := looks_clsIn X hcd
  rw [osa_eq, refuse_eq]
  refine wpAny_bind (wpAny_bind (J.type.at (wpAny_bind (m1.at ?_))))
  rw [O.ps]
  refine wpAny_pure (wpAny_bind (J.type.at (wpAny_bind ((looks_findIn X ha).at (wpAny_bind (m2.at ?_))))))
  show wpAny _ _ (storeInOwnDict (.ref x) (.ref C) (.str name tk) name v false)
    _ _ _
  have hh := O.hd
  obtain ⟨nam, bss, mro, ns, qn, hdd, snl, sb, abst, coll, del⟩ := cd
  dsimp only at hh
  subst hh
  unfold storeInOwnDict
    ownDictForStores
  repeat (first
    | with_reducible refine store_in_new ?_ ?_
    | with_reducible refine wpAny_loadPart_at hx ?_
    | with_reducible refine m3.at ?_
    | wp_step)
  · refine ⟨_, #[], _, (Heap.get?_update_ne _ _ _ _ far.symm).trans (Heap.get?_push_at rfl rfl), rfl, fun e he => absurd he (by simp), fun _ => rfl⟩
  · intro h' tk' hn' same
    have hx₁ : (hpz.push { cls := .type "dict", data := .dict #[] }).get? x = some { cls := .ref C, data := .fields fv } := Heap.get?_push_of_some _ hx
    refine hq h' tk' hpz.objs.size (fun b o hb ho => ?_) (Nat.le_refl _) far.symm ?_ hn'
    · have e1 := same.2 b (Nat.ne_of_lt (Heap.lt_size ho))
      exact e1.trans ((Heap.get?_update_ne _ _ _ _ hb).trans (Heap.get?_push_of_some _ ho))
    · have e2 := same.2 x far
      exact e2.trans (Heap.get?_update_self _ hx₁ rfl)
theorem next_field {m0 : Str → Option Value} {nl : List Str} (X : K.In hpz) (hx : hpz.get? x = some { cls := .ref C, dict := some dx, data := .fields fv }) (hns : hpz.Ns1 dx m0) (hw : Within m0 nl) (hz : nl.length ≤ 1000)
    (hcd : clsIn K C = some cd) (O : Opn cd) (ha : findIn K (.ref C) name = some none)
    (hq : ∀ h' tk', (∀ b o, b ≠ dx → hpz.get? b = some o → h'.get? b = some o) → h'.Ns1 dx (fun y => if y = name then some v else m0 y) → R (.ok (.ret .none)) ⟨h', gs, dr, tk', ost⟩) :
    codeAny (model pg w) A (.call (.builtin "object.__setattr__") ⟨[.ref x, .str name tk, v], []⟩) R ⟨hpz, gs, dr, tk0, ost⟩ := by
  obtain ⟨oD, _, _, hoD, _, _⟩ := hns.count hw
  have J : InstAt hpz x { cls := .ref C, dict := some dx, data := .fields fv } C (some oD) := ⟨hx, rfl, rfl, hoD⟩
  have S := F.store_object
  have subc : Looks (model pg w) hpz (isInstance (.ref x) (.type "object")) true :=
    J.type.andThen (looks_mroIn X (by
      unfold mroIn
      rw [hcd, Option.bind_some, if_neg (by rw [O.ne]; decide), O.ob]))
  refine codeAny_call_builtin S.slot.plain S.entry ?_
  refine @check_slot (model pg w) _ _ ⟨hpz, gs, dr, tk0, ost⟩ "object.__setattr__" "object" "__setattr__" (.ref x) [.str name tk, v] [] _ S.kind S.split subc (S.args (.ref x) (.str name tk) v) ?_
  have m1 : Looks (model pg w) hpz (mroOf (.ref C)) cd.mro := (looks_clsIn X hcd).andThen .now
  have m2 : Looks (model pg w) hpz (storeTaker? none) none := .now
  have m3 : Looks (model pg w) hpz (classData C) cd := looks_clsIn X hcd
  rw [osa_eq, refuse_eq]
  refine wpAny_bind (wpAny_bind (J.type.at (wpAny_bind (m1.at ?_))))
  rw [O.ps]
  refine wpAny_pure (wpAny_bind (J.type.at (wpAny_bind ((looks_findIn X ha).at (wpAny_bind (m2.at ?_))))))
  show wpAny _ _ (storeInOwnDict (.ref x) (.ref C) (.str name tk) name v false)
    _ _ _
  have hh := O.hd
  obtain ⟨nam, bss, mro, ns, qn, hdd, snl, sb, abst, coll, del⟩ := cd
  dsimp only at hh
  subst hh
  unfold storeInOwnDict
    ownDictForStores
  repeat (first
    | with_reducible refine OEX.store_in_old hns hw hz ?_
    | with_reducible refine wpAny_loadPart_at hx ?_
    | with_reducible refine m3.at ?_
    | wp_step)
  intro h' tk' hn' same
  exact hq h' tk' (fun b o hb ho => (same.2 b hb).trans ho) hn'
end
end XK
end
section
set_option Elab.async false
set_option linter.all false
set_option maxRecDepth 100000
set_option maxHeartbeats 4100000
namespace XK
open PySem PySem.W PySem.Calls PySem.HandSPX
open PyProof.Rows (envOfC)
/-! ### the text of an __init__ that keeps one field -/
def aOne (f : Str) (p1 p2 : Pos) : Arguments := { posonlyargs := [], args := [{ arg := "self", annotation := none, pos := p1 }, { arg := f, annotation := none, pos := p2 }], vararg := none, kwonlyargs := [], kw_defaults := [], kwarg := none, defaults := [] }
def bOne (f : Str) (q1 q2 q3 q4 : Pos) : List Stmt := [.Assign [.Attribute (.Name "self" q1) f q2] (.Name f q3) q4]
def sOne (f : Str) : Scope := { kind := .function, names := [(PySem.Str.ofString "self", .local), (f, .local)], isGenerator := false, isCoroutine := false, more := [] }
/-- what the written part says of an own exception class -/
structure XT (K : Frag) (C : Addr) : Prop where
  base : ∃ (B newId initId : String) (bmB : List Value), ExcBaseFacts B newId initId bmB ∧ excInitIn K C bmB newId = true
  opn : ∃ cd, clsIn K C = some cd ∧ Opn cd
  sa : findIn K (.ref C) "__setattr__" = some (some (.builtin "object.__setattr__"))
  ga : findIn K (.ref C) "__getattribute__" = some (some (.builtin "BaseException.__getattribute__"))
  gg : findIn K (.ref C) "__getattr__" = some none
  exC : subIn K (.ref C) (.type "BaseException") = some true
  kC : keepIn K (.ref C) = true
  hd : hasDictIn K C = true
  ac : findIn K (.ref C) "__class__" = some (some (.builtin "object.__class__"))
  gn : specialIn K (.builtin "object.__class__") "__get__" = some (some (.builtin "getset_descriptor.__get__"))
  tk : takesIn K (.builtin "object.__class__") = some true
  mo : mroIn K C (.type "object") = some true
/-- .. and of its __init__, which keeps the one field f -/
structure XI (K : Frag) (C : Addr) (f : Str) : Prop where
  noN : findIn K (.ref C) f = some none
  ne : f ≠ "self"
  fn : ∃ (fI : Addr) (qn : Str) (oc : Value) (od : Option Addr) (doc pm : Value) (an : Option Addr) (cdv ct : Value) (osl : Array (Option Value)) (p1 p2 q1 q2 q3 q4 : Pos),
    findIn K (.ref C) "__init__" = some (some (.ref fI)) ∧ typeIn K (.ref fI) = some (.type "function") ∧
    K.lookup fI = some ⟨oc, od, .func (fnOf "__init__" qn (aOne f p1 p2) (bOne f q1 q2 q3 q4) (sOne f) .none .none doc pm an cdv ct), osl⟩ ∧ codeIn K cdv qn = true ∧
    (∀ s x v, BindsTo s (fnOf "__init__" qn (aOne f p1 p2) (bOne f q1 q2 q3 q4) (sOne f) .none .none doc pm an cdv ct) ⟨[x, v], []⟩ [("self", x), (f, v)]) ∧
    (∀ s x v, BindsTo s (fnOf "__init__" qn (aOne f p1 p2) (bOne f q1 q2 q3 q4) (sOne f) .none .none doc pm an cdv ct) ⟨[x], [(f, v)]⟩ [("self", x), (f, v)])
theorem look_self (f : Str) : (sOne f).names.lookup ("self" : Str) = some NameKind.local := rfl
theorem look_f (f : Str) : (sOne f).names.lookup f = some NameKind.local := by
  show List.lookup f [(PySem.Str.ofString "self", NameKind.local), (f, NameKind.local)] = some .local
  by_cases h : f = PySem.Str.ofString "self"
  · rw [h]
    simp [List.lookup]
  · have e : (f == PySem.Str.ofString "self") = false := by simpa using h
    simp [List.lookup, e]
theorem load_local {M : Model} {s : Shared} {name : Str} {scope : Scope} {L a : Addr} {cd : Value} {m : Str → Option Value} {x : Str} {pos : Pos} {v : Value} {Q : Value → Shared → Prop} {A : Around} {E : Value → Shared → Prop}
    (hk : scope.kind = .function) (hl : scope.names.lookup x = some .local) (hd : (x == ("__debug__" : Str)) = false) (hn : s.heap.Ns L m) (hv : m x = some v) (h : Q v s) :
    wpAny M A (eval (.Name x pos) (envOfC name scope L a cd)) Q E s := wpAny_Name (wpAny_loadName_local hk hl hn hv h) hd
/-- a made exception: e, its own dict at d with the fields m -/
structure Made (h h' : Heap) (e C d : Addr) (m : Str → Option Value) : Prop where
  keep : ∀ b o, h.get? b = some o → h'.get? b = some o
  eb : h.objs.size ≤ e
  db : h.objs.size ≤ d
  ne : d ≠ e
  obj : ∃ t0 : Addr, h'.get? e = some ({ cls := .ref C, dict := some d, data := .fields #[.ref t0, .none, .none, .none, .bool false, .none] } : Obj)
  ns : h'.Ns1 d m
section
variable {prog : Program} {w : World} {A : Around} {E : Value → Shared → Prop} {R : Result → Shared → Prop} {s : Shared} {K : Frag} {C : Addr} {f : Str} {v : Value}
theorem made_one (T : XT K C) (I : XI K C f) (hdb : (f == ("__debug__" : Str)) = false) (X : K.In s.heap) (hlim : s.heap.NoLimit) (room : A.depth + 1 < recursionLimit) (us : List Value) (kw : List (Str × Value)) (hp : (us = [v] ∧ kw = []) ∨ (us = [] ∧ kw = [(f, v)]))
    (hq : ∀ h' tk e d, Made s.heap h' e C d (fun y => if y = f then some v else none) → R (.ok (.ret (.ref e))) { s with heap := h', toks := tk }) :
    codeAny (model prog w) A (.call (.ref C) ⟨us, kw⟩) R s := by
  obtain ⟨B, newId, initId, bmB, F, ini⟩ := T.base
  obtain ⟨cd, hcd, O⟩ := T.opn
  obtain ⟨fI, qn, oc, od, doc, pm, an, cdv, ct, osl, p1, p2, q1, q2, q3, q4, iC, tC, lf, co, b1, b2⟩ := I.fn
  obtain ⟨nm, N, q, bs, bm, hdct, sn, sub, ab, col, dd, k0, k1, k2, k3, k5, gC, hT⟩ := excInit_of X ini
  obtain ⟨hp0, g, dr, tk, os⟩ := s
  have ul : us.length ≤ sizeLine := by
    rcases hp with ⟨rfl, _⟩ | ⟨rfl, _⟩
    · show 1 ≤ sizeLine
      rw [sizeLine_eq]
      decide
    · exact Nat.zero_le _
  have bd : ∀ s x, BindsTo s (fnOf "__init__" qn (aOne f p1 p2) (bOne f q1 q2 q3 q4) (sOne f) .none .none doc pm an cdv ct) ⟨x :: us, kw⟩ [("self", x), (f, v)] := fun s x => by
    rcases hp with ⟨rfl, rfl⟩ | ⟨rfl, rfl⟩
    · exact b1 s x v
    · exact b2 s x v
  have k : ∀ b o, hp0.get? b = some o → ((hp0.push (kdv_tup us)).push (excO C hp0.objs.size)).get? b = some o := fun b o e => Heap.get?_push_of_some _ (Heap.get?_push_of_some _ e)
  have got : ((hp0.push (kdv_tup us)).push (excO C hp0.objs.size)).get? (hp0.objs.size + 1) = some (excO C hp0.objs.size) := by heap_get
  refine called F hT ul gC (looks_findIn X iC) (fun self => bind_fn X self tC) ?_
  have X1 := X.keeps k
  refine Att.call_fn (binds := [("self", .ref (hp0.objs.size + 1)), (f, v)]) (s := ⟨(hp0.push (kdv_tup us)).push (excO C hp0.objs.size), g, dr, tk, os⟩) X1 (hlim.keeps k) lf co ?_ (bd _ _) ?_ (fun s₁ IC => ?_) rfl rfl rfl
  · show A.depth + 1 < recursionLimit
    exact room
  · simp only [List.all_cons, List.all_nil, look_f f, Bool.and_true]
    rfl
  · obtain ⟨h₁, tk₁, rfl⟩ := IC.toInCall.same
    have k1 := IC.toInCall.keep
    have hn := IC.toInCall.ns
    have hx := k1 _ _ got
    have X2 : K.In h₁ := X1.keeps k1
    have e1 : (envOfC qn (sOne f) ((hp0.push (kdv_tup us)).push (excO C hp0.objs.size)).objs.size fI cdv).kindOf "self" = some .local := look_self f
    have e2 : (envOfC qn (sOne f) ((hp0.push (kdv_tup us)).push (excO C hp0.objs.size)).objs.size fI cdv).kindOf f = some .local := look_f f
    show wpAny _ _ (execs _ _) _ _ _
    refine wpAny_execs_cons (plainObj_wpAny_Assign_Attribute ?_)
    refine load_local (v := v) rfl (look_f f) hdb hn ?_ (load_local (v := .ref (hp0.objs.size + 1)) rfl (look_self f) (by decide) hn ?_ ?_)
    · simp only [bindL, e1, e2, if_true]
    · simp only [bindL, e1, e2, if_true]
      rw [if_neg (fun z => I.ne z.symm)]
    refine set_plain X2 (ox := excO C hp0.objs.size) (od := none) ⟨hx, rfl, rfl, trivial⟩ T.sa ?_
    refine first_field X2 hx hcd O I.noN fun h₃ tk₃ dx k₃ dn dne hx₃ hn₃ => ?_
    show wpAny _ _ (execs _ _) _ _ _
    have z0 : hp0.objs.size ≤ h₁.objs.size := Nat.le_of_lt (Nat.lt_of_succ_lt (show hp0.objs.size + 1 < h₁.objs.size from Heap.lt_size hx))
    refine wpAny_execs_nil ⟨rfl, hq h₃ tk₃ (hp0.objs.size + 1) dx ⟨fun b o e => ?_, Nat.le_succ _, Nat.le_trans z0 dn, dne, ⟨_, hx₃⟩, hn₃⟩⟩
    exact k₃ b o (Nat.ne_of_lt (Nat.lt_succ_of_lt (Heap.lt_size e))) (k1 _ _ (k _ _ e))
end
/-! ### two fields -/
def aTwo (f1 f2 : Str) (p1 p2 p3 : Pos) : Arguments := { posonlyargs := [], args := [{ arg := "self", annotation := none, pos := p1 }, { arg := f1, annotation := none, pos := p2 }, { arg := f2, annotation := none, pos := p3 }], vararg := none, kwonlyargs := [], kw_defaults := [], kwarg := none, defaults := [] }
def bTwo (f1 f2 : Str) (q1 q2 q3 q4 r1 r2 r3 r4 : Pos) : List Stmt := [.Assign [.Attribute (.Name "self" q1) f1 q2] (.Name f1 q3) q4, .Assign [.Attribute (.Name "self" r1) f2 r2] (.Name f2 r3) r4]
def sTwo (f1 f2 : Str) : Scope := { kind := .function, names := [(PySem.Str.ofString "self", .local), (f1, .local), (f2, .local)], isGenerator := false, isCoroutine := false, more := [] }
structure XJ (K : Frag) (C : Addr) (f1 f2 : Str) : Prop where
  no1 : findIn K (.ref C) f1 = some none
  no2 : findIn K (.ref C) f2 = some none
  ne1 : f1 ≠ "self"
  ne2 : f2 ≠ "self"
  ne : f1 ≠ f2
  fn : ∃ (fI : Addr) (qn : Str) (oc : Value) (od : Option Addr) (doc pm : Value) (an : Option Addr) (cdv ct : Value) (osl : Array (Option Value)) (p1 p2 p3 q1 q2 q3 q4 r1 r2 r3 r4 : Pos),
    findIn K (.ref C) "__init__" = some (some (.ref fI)) ∧ typeIn K (.ref fI) = some (.type "function") ∧
    K.lookup fI = some ⟨oc, od, .func (fnOf "__init__" qn (aTwo f1 f2 p1 p2 p3) (bTwo f1 f2 q1 q2 q3 q4 r1 r2 r3 r4) (sTwo f1 f2) .none .none doc pm an cdv ct), osl⟩ ∧ codeIn K cdv qn = true ∧
    (∀ s x u v, BindsTo s (fnOf "__init__" qn (aTwo f1 f2 p1 p2 p3) (bTwo f1 f2 q1 q2 q3 q4 r1 r2 r3 r4) (sTwo f1 f2) .none .none doc pm an cdv ct) ⟨[x, u, v], []⟩ [("self", x), (f1, u), (f2, v)]) ∧
    (∀ s x u v, BindsTo s (fnOf "__init__" qn (aTwo f1 f2 p1 p2 p3) (bTwo f1 f2 q1 q2 q3 q4 r1 r2 r3 r4) (sTwo f1 f2) .none .none doc pm an cdv ct) ⟨[x], [(f2, v), (f1, u)]⟩ [("self", x), (f1, u), (f2, v)])
theorem look2_self (f1 f2 : Str) : (sTwo f1 f2).names.lookup ("self" : Str) = some NameKind.local := rfl
theorem look2_1 (f1 f2 : Str) : (sTwo f1 f2).names.lookup f1 = some NameKind.local := by
  show List.lookup f1 [(PySem.Str.ofString "self", NameKind.local), (f1, NameKind.local), (f2, NameKind.local)] = some .local
  by_cases h : f1 = PySem.Str.ofString "self"
  · rw [h]
    simp [List.lookup]
  · have e : (f1 == PySem.Str.ofString "self") = false := by simpa using h
    simp [List.lookup, e]
theorem look2_2 (f1 f2 : Str) : (sTwo f1 f2).names.lookup f2 = some NameKind.local := by
  show List.lookup f2 [(PySem.Str.ofString "self", NameKind.local), (f1, NameKind.local), (f2, NameKind.local)] = some .local
  by_cases h : f2 = PySem.Str.ofString "self"
  · rw [h]
    simp [List.lookup]
  · have e : (f2 == PySem.Str.ofString "self") = false := by simpa using h
    by_cases h1 : f2 = f1
    · subst h1
      simp [List.lookup, e]
    · have e1 : (f2 == f1) = false := by simpa using h1
      simp [List.lookup, e, e1]
section
variable {prog : Program} {w : World} {A : Around} {E : Value → Shared → Prop} {R : Result → Shared → Prop} {s : Shared} {K : Frag} {C : Addr} {f1 f2 : Str} {u v : Value}
theorem made_two (T : XT K C) (I : XJ K C f1 f2) (hd1 : (f1 == ("__debug__" : Str)) = false) (hd2 : (f2 == ("__debug__" : Str)) = false) (X : K.In s.heap) (hlim : s.heap.NoLimit) (room : A.depth + 1 < recursionLimit) (us : List Value) (kw : List (Str × Value))
    (hp : (us = [u, v] ∧ kw = []) ∨ (us = [] ∧ kw = [(f2, v), (f1, u)]))
    (hq : ∀ h' tk e d, Made s.heap h' e C d (fun y => if y = f2 then some v else if y = f1 then some u else none) → R (.ok (.ret (.ref e))) { s with heap := h', toks := tk }) :
    codeAny (model prog w) A (.call (.ref C) ⟨us, kw⟩) R s := by
  obtain ⟨B, newId, initId, bmB, F, ini⟩ := T.base
  obtain ⟨cd, hcd, O⟩ := T.opn
  obtain ⟨fI, qn, oc, od, doc, pm, an, cdv, ct, osl, p1, p2, p3, q1, q2, q3, q4, r1, r2, r3, r4, iC, tC, lf, co, b1, b2⟩ := I.fn
  obtain ⟨nm, N, q, bs, bm, hdct, sn, sub, ab, col, dd, k0, k1, k2, k3, k5, gC, hT⟩ := excInit_of X ini
  obtain ⟨hp0, g, dr, tk, os⟩ := s
  have ul : us.length ≤ sizeLine := by
    rcases hp with ⟨rfl, _⟩ | ⟨rfl, _⟩
    · show 2 ≤ sizeLine
      rw [sizeLine_eq]
      decide
    · exact Nat.zero_le _
  have bd : ∀ s x, BindsTo s (fnOf "__init__" qn (aTwo f1 f2 p1 p2 p3) (bTwo f1 f2 q1 q2 q3 q4 r1 r2 r3 r4) (sTwo f1 f2) .none .none doc pm an cdv ct) ⟨x :: us, kw⟩ [("self", x), (f1, u), (f2, v)] := fun s x => by
    rcases hp with ⟨rfl, rfl⟩ | ⟨rfl, rfl⟩
    · exact b1 s x u v
    · exact b2 s x u v
  have k : ∀ b o, hp0.get? b = some o → ((hp0.push (kdv_tup us)).push (excO C hp0.objs.size)).get? b = some o := fun b o e => Heap.get?_push_of_some _ (Heap.get?_push_of_some _ e)
  have got : ((hp0.push (kdv_tup us)).push (excO C hp0.objs.size)).get? (hp0.objs.size + 1) = some (excO C hp0.objs.size) := by heap_get
  refine called F hT ul gC (looks_findIn X iC) (fun self => bind_fn X self tC) ?_
  have X1 := X.keeps k
  refine Att.call_fn (binds := [("self", .ref (hp0.objs.size + 1)), (f1, u), (f2, v)]) (s := ⟨(hp0.push (kdv_tup us)).push (excO C hp0.objs.size), g, dr, tk, os⟩) X1 (hlim.keeps k) lf co ?_ (bd _ _) ?_ (fun s₁ IC => ?_) rfl rfl rfl
  · show A.depth + 1 < recursionLimit
    exact room
  · simp only [List.all_cons, List.all_nil, look2_1 f1 f2, look2_2 f1 f2, Bool.and_true]
    rfl
  · obtain ⟨h₁, tk₁, rfl⟩ := IC.toInCall.same
    have k1 := IC.toInCall.keep
    have hn := IC.toInCall.ns
    have hx := k1 _ _ got
    have X2 : K.In h₁ := X1.keeps k1
    have e0 : (envOfC qn (sTwo f1 f2) ((hp0.push (kdv_tup us)).push (excO C hp0.objs.size)).objs.size fI cdv).kindOf "self" = some .local := look2_self f1 f2
    have e1 : (envOfC qn (sTwo f1 f2) ((hp0.push (kdv_tup us)).push (excO C hp0.objs.size)).objs.size fI cdv).kindOf f1 = some .local := look2_1 f1 f2
    have e2 : (envOfC qn (sTwo f1 f2) ((hp0.push (kdv_tup us)).push (excO C hp0.objs.size)).objs.size fI cdv).kindOf f2 = some .local := look2_2 f1 f2
    show wpAny _ _ (execs _ _) _ _ _
    refine wpAny_execs_cons (plainObj_wpAny_Assign_Attribute ?_)
    refine load_local (v := u) rfl (look2_1 f1 f2) hd1 hn ?_ (load_local (v := .ref (hp0.objs.size + 1)) rfl (look2_self f1 f2) (by decide) hn ?_ ?_)
    · simp only [bindL, e0, e1, e2, if_true]
      rw [if_neg I.ne]
    · simp only [bindL, e0, e1, e2, if_true]
      rw [if_neg (fun z => I.ne2 z.symm), if_neg (fun z => I.ne1 z.symm)]
    refine set_plain X2 (ox := excO C hp0.objs.size) (od := none) ⟨hx, rfl, rfl, trivial⟩ T.sa ?_
    refine first_field X2 hx hcd O I.no1 fun h₃ tk₃ dx k₃ dn dne hx₃ hn₃ => ?_
    have z1 : hp0.objs.size + 1 < h₁.objs.size := Heap.lt_size hx
    have z0 : hp0.objs.size ≤ h₁.objs.size := Nat.le_of_lt (Nat.lt_of_succ_lt z1)
    have nx : ∀ {b : Addr} {o : Obj}, hp0.get? b = some o → b ≠ hp0.objs.size + 1 := fun {b o} e => Nat.ne_of_lt (Nat.lt_succ_of_lt (Heap.lt_size e))
    have Lx : ((hp0.push (kdv_tup us)).push (excO C hp0.objs.size)).objs.size ≠ hp0.objs.size + 1 := by
      rw [Heap.size_push,
            Heap.size_push]
      exact Nat.succ_ne_self _
    have hn3 : h₃.Ns ((hp0.push (kdv_tup us)).push (excO C hp0.objs.size)).objs.size _ := Heap.Ns.at hn fun o e => k₃ _ o Lx e
    have X3 : K.In h₃ := fun b o e => k₃ b o (nx (X _ _ e)) (X2 b o e)
    show wpAny _ _ (execs _ _) _ _ _
    refine wpAny_execs_cons (plainObj_wpAny_Assign_Attribute ?_)
    refine load_local (v := v) rfl (look2_2 f1 f2) hd2 hn3 ?_ (load_local (v := .ref (hp0.objs.size + 1)) rfl (look2_self f1 f2) (by decide) hn3 ?_ ?_)
    · simp only [bindL, e0, e1, e2, if_true]
    · simp only [bindL, e0, e1, e2, if_true]
      rw [if_neg (fun z => I.ne2 z.symm), if_neg (fun z => I.ne1 z.symm)]
    have hw : Within (fun y => if y = f1 then some u else none) [f1] := fun y hy => by
      by_cases e : y = f1
      · rw [e]
        exact List.mem_cons_self ..
      · exact absurd (if_neg e) hy
    obtain ⟨oD, _, _, hoD, _, _⟩ := hn₃.count hw
    refine set_plain X3 (ox := { cls := .ref C, dict := some dx, data := .fields #[.ref hp0.objs.size, .none, .none, .none, .bool false, .none] }) (od := some oD) ⟨hx₃, rfl, rfl, hoD⟩ T.sa ?_
    refine next_field X3 hx₃ hn₃ hw (by show 1 ≤ 1000; decide) hcd O I.no2 fun h₄ tk₄ k₄ hn₄ => ?_
    show wpAny _ _ (execs _ _) _ _ _
    have nd : ∀ {b : Addr} {o : Obj}, hp0.get? b = some o → b ≠ dx := fun {b o} e => Nat.ne_of_lt (Nat.lt_of_lt_of_le (Nat.lt_of_lt_of_le (Heap.lt_size e) z0) dn)
    refine wpAny_execs_nil ⟨rfl, hq h₄ tk₄ (hp0.objs.size + 1) dx ⟨fun b o e => ?_, Nat.le_succ _, Nat.le_trans z0 dn, dne, ⟨_, k₄ _ _ (Ne.symm dne) hx₃⟩, hn₄⟩⟩
    exact k₄ b o (nd e) (k₃ b o (nx e) (k1 _ _ (k _ _ e)))
end
end XK
end
section
set_option Elab.async false
set_option linter.all false
set_option maxRecDepth 100000
set_option maxHeartbeats 4100000
namespace XK
open PySem PySem.Spec PyProof.Rows L2
section
variable {X : Cx} {pins : List (Addr × Obj)} {σ : L2.St} {H : Hp} {s : Shared} {C : Addr}
/-- a made exception is tracked, and its own dict -/
theorem tracked {h' : Heap} {e d : Addr} {m : Str → Option Value} {fs : List (Str × V)} (t' : Nat) (I : Inv X pins σ H s) (M : Made s.heap h' e C d m) (r : ∀ f, RelO (fs.lookup f) (m f)) :
    Inv X pins σ (upd (upd H d (.xd fs)) e (exo e C (some d))) { s with heap := h', toks := t' } := by
  have nd : H d = none := I.hok.fresh M.db
  have ne : H e = none := I.hok.fresh M.eb
  have ned : upd H d (.xd fs) e = none := by
    rw [upd_ne (Ne.symm M.ne)]
    exact ne
  have U1 : Un X.fs [] H (upd H d (.xd fs)) s.heap s.heap := Un.laid (fun _ _ q => q) M.db nd
  have U2 : Un X.fs [] (upd H d (.xd fs)) (upd (upd H d (.xd fs)) e (exo e C (some d))) s.heap h' := Un.laid M.keep M.eb ned
  obtain ⟨t0, ho⟩ := M.obj
  refine I.un (t' := t') (U1.trans U2) fun b o q => ?_
  by_cases hb : b = e
  · subst hb
    rw [upd_same] at q
    cases q
    exact exo_ok ho
  · rw [upd_ne hb] at q
    by_cases hd : b = d
    · subst hd
      rw [upd_same] at q
      cases q
      exact ⟨m, M.ns, r⟩
    · rw [upd_ne hd] at q
      refine (I.hok b o q).stay (fun c v _ z => M.keep c v z) (fun c z => ?_) fun c xs z => ?_
      · rw [upd_ne (ne_of_none z ne), upd_ne (ne_of_none z nd)]
        exact z
      · rw [upd_ne (ne_of_none z ne), upd_ne (ne_of_none z nd)]
        exact z
theorem rel_one {f : Str} {y : V} {u : Value} (r : RelV y u) (g : Str) : RelO ([(f, y)].lookup g) (if g = f then some u else none) := relO_put (fs := []) (mA := fun _ => none) r (fun _ => trivial) g
theorem rel_two {f1 f2 : Str} {y z : V} {u v : Value} (r : RelV y u) (r' : RelV z v) (g : Str) : RelO ([(f2, z), (f1, y)].lookup g) (if g = f2 then some v else if g = f1 then some u else none) :=
  relO_put (fs := [(f1, y)]) r' (rel_one r) g
/-- what follows a made exception -/
def Then1 (C : Addr) (f : Str) (v : V) (H : Hp) (Q : VK) : Prop := ∀ d e, H d = none → H e = none → d ≠ e → Q (.ref e) (upd (upd H d (.xd [(f, v)])) e (exo e C (some d)))
def Then2 (C : Addr) (f1 f2 : Str) (u v : V) (H : Hp) (Q : VK) : Prop := ∀ d e, H d = none → H e = none → d ≠ e → Q (.ref e) (upd (upd H d (.xd [(f2, v), (f1, u)])) e (exo e C (some d)))
def tEx1 (C : Addr) (f : Str) (ta : TA) : TE := fun σ H Q => ta σ H fun vs H1 => ∃ v, vs = [v] ∧ Then1 C f v H1 Q
def tEx2 (C : Addr) (f1 f2 : Str) (ta : TA) : TE := fun σ H Q => ta σ H fun vs H1 => ∃ u v, vs = [u, v] ∧ Then2 C f1 f2 u v H1 Q
def tEx2k (C : Addr) (f1 f2 : Str) (ta : TA) : TE := fun σ H Q => ta σ H fun vs H1 => ∃ v u, vs = [v, u] ∧ Then2 C f1 f2 u v H1 Q
end
section
variable {X : Cx} {x f f1 f2 : Str} {C : Addr} {k : Nat} {a b : Expr} {ta : TA} {te : TE} {p pos k1 k2 : Pos}
/-- x(a), an own exception class whose __init__ keeps one field -/
theorem pe_ex1 (T : XT X.K C) (J : XI X.K C f) (hr : Room k X.A) (gC : X.mg x = some (.ref C)) (hfd : (f == ("__debug__" : Str)) = false) (ha : PA X [a] ta) (hg : Gl X x := by rfl) (hdb : (x == ("__debug__" : Str)) = false := by decide)
    (he : starEach (a :: []) X.env = (false, eval a X.env) :: starEach [] X.env := by rfl) (hpl : (backTo pos (starEach [] X.env)).any (·.1) = false := by rfl) :
    PE X (.Call (.Name x p) [a] [] pos) (tEx1 C f ta) := by
  refine ⟨fun pins s σ H Q I h => ?_⟩
  refine wpAny_Call_Name_kw
        (ld_glob I hg gC ?_ hdb)
  refine PySem.W.callWith_K (h₀ := X.base) I.ok.mod.kin T.kC (thn (ha.run pos pins s σ H _ I h) fun us s1 hh => ?_) he hpl
  obtain ⟨vs, H1, I1, r1, v, ev, q1⟩ := hh
  subst ev
  refine ⟨I1.kIn, ?_⟩
  cases r1 with
  | cons rv rn =>
    rename_i v' us'
    cases rn
    show wpAny _ _ (call (.ref C) [v']) _ _ _
    refine wpAny_call (made_one (v := v') T J hfd I1.kIn I1.nolimit (by have := hr.dp; omega) [v'] [] (.inl ⟨rfl, rfl⟩) fun h' tk e d M => ?_)
    exact ⟨.ref e, _, tracked tk I1 M (rel_one rv), rfl, q1 d e (I1.hok.fresh M.db) (I1.hok.fresh M.eb) M.ne⟩
/-- x(f = a) -/
theorem pe_ex1k (T : XT X.K C) (J : XI X.K C f) (hr : Room k X.A) (gC : X.mg x = some (.ref C)) (hfd : (f == ("__debug__" : Str)) = false) (ha : PE X a te) (hg : Gl X x := by rfl) (hdb : (x == ("__debug__" : Str)) = false := by decide)
    (hpl : ((backTo pos (starEach [] X.env)).any (·.1) || (backToKw pos (keywordEach [⟨some f, a, k1⟩] X.env)).any (·.1.isNone)) = false := by rfl) :
    PE X (.Call (.Name x p) [] [⟨some f, a, k1⟩] pos) (tEx1 C f (tCons te tNil)) := by
  refine ⟨fun pins s σ H Q I h => ?_⟩
  refine wpAny_Call_Name_kw
        (ld_glob I hg gC ?_ hdb)
  refine PySem.W.callWith_KW0 (h₀ := X.base) I.ok.mod.kin T.kC rfl ?_ hpl
  refine thn ((pk_cons ha pk_nil).run pos pins s σ H _ I h) fun us s1 hh => ?_
  obtain ⟨vs, H1, I1, r1, v, ev, q1⟩ := hh
  subst ev
  refine ⟨I1.kIn, ?_⟩
  cases r1 with
  | cons rv rn =>
    rename_i v' us'
    cases rn
    show wpAny _ _ (call (.ref C) [] [(f, v')]) _ _ _
    refine wpAny_call (made_one (v := v') T J hfd I1.kIn I1.nolimit (by have := hr.dp; omega) [] [(f, v')] (.inr ⟨rfl, rfl⟩) fun h' tk e d M => ?_)
    exact ⟨.ref e, _, tracked tk I1 M (rel_one rv), rfl, q1 d e (I1.hok.fresh M.db) (I1.hok.fresh M.eb) M.ne⟩
/-- x(a, b) -/
theorem pe_ex2 (T : XT X.K C) (J : XJ X.K C f1 f2) (hr : Room k X.A) (gC : X.mg x = some (.ref C)) (h1 : (f1 == ("__debug__" : Str)) = false) (h2 : (f2 == ("__debug__" : Str)) = false) (ha : PA X [a, b] ta) (hg : Gl X x := by rfl) (hdb : (x == ("__debug__" : Str)) = false := by decide)
    (he : starEach (a :: [b]) X.env = (false, eval a X.env) :: starEach [b] X.env := by rfl) (hpl : (backTo pos (starEach [b] X.env)).any (·.1) = false := by rfl) :
    PE X (.Call (.Name x p) [a, b] [] pos) (tEx2 C f1 f2 ta) := by
  refine ⟨fun pins s σ H Q I h => ?_⟩
  refine wpAny_Call_Name_kw
        (ld_glob I hg gC ?_ hdb)
  refine PySem.W.callWith_K (h₀ := X.base) I.ok.mod.kin T.kC (thn (ha.run pos pins s σ H _ I h) fun us s1 hh => ?_) he hpl
  obtain ⟨vs, H1, I1, r1, u, v, ev, q1⟩ := hh
  subst ev
  refine ⟨I1.kIn, ?_⟩
  cases r1 with
  | @cons _ u' _ _ ru rn =>
    cases rn with
    | @cons _ v' _ _ rv rn =>
      cases rn
      show wpAny _ _ (call (.ref C) [u', v']) _ _ _
      refine wpAny_call (made_two (u := u') (v := v') T J h1 h2 I1.kIn I1.nolimit (by have := hr.dp; omega) [u', v'] [] (.inl ⟨rfl, rfl⟩) fun h' tk e d M => ?_)
      exact ⟨.ref e, _, tracked tk I1 M (rel_two ru rv), rfl, q1 d e (I1.hok.fresh M.db) (I1.hok.fresh M.eb) M.ne⟩
/-- x(f2 = b, f1 = a) -/
theorem pe_ex2k {te1 te2 : TE} (T : XT X.K C) (J : XJ X.K C f1 f2) (hr : Room k X.A) (gC : X.mg x = some (.ref C)) (h1 : (f1 == ("__debug__" : Str)) = false) (h2 : (f2 == ("__debug__" : Str)) = false) (hb : PE X b te2) (ha : PE X a te1) (hg : Gl X x := by rfl) (hdb : (x == ("__debug__" : Str)) = false := by decide)
    (hpl : ((backTo pos (starEach [] X.env)).any (·.1) || (backToKw pos (keywordEach [⟨some f2, b, k2⟩, ⟨some f1, a, k1⟩] X.env)).any (·.1.isNone)) = false := by rfl) :
    PE X (.Call (.Name x p) [] [⟨some f2, b, k2⟩, ⟨some f1, a, k1⟩] pos) (tEx2k C f1 f2 (tCons te2 (tCons te1 tNil))) := by
  refine ⟨fun pins s σ H Q I h => ?_⟩
  refine wpAny_Call_Name_kw
        (ld_glob I hg gC ?_ hdb)
  refine PySem.W.callWith_KW0 (h₀ := X.base) I.ok.mod.kin T.kC rfl ?_ hpl
  refine thn ((pk_cons hb (pk_cons ha pk_nil)).run pos pins s σ H _ I h) fun us s1 hh => ?_
  obtain ⟨vs, H1, I1, r1, v, u, ev, q1⟩ := hh
  subst ev
  refine ⟨I1.kIn, ?_⟩
  cases r1 with
  | @cons _ v' _ _ rv rn =>
    cases rn with
    | @cons _ u' _ _ ru rn =>
      cases rn
      show wpAny _ _ (call (.ref C) [] [(f2, v'), (f1, u')]) _ _ _
      refine wpAny_call (made_two (u := u') (v := v') T J h1 h2 I1.kIn I1.nolimit (by have := hr.dp; omega) [] [(f2, v'), (f1, u')] (.inr ⟨rfl, rfl⟩) fun h' tk e d M => ?_)
      exact ⟨.ref e, _, tracked tk I1 M (rel_two ru rv), rfl, q1 d e (I1.hok.fresh M.db) (I1.hok.fresh M.eb) M.ne⟩
/-- x(), an own exception class without __init__ -/
def tEx0 (C : Addr) : TE := fun σ H Q => ∀ e, H e = none → Q (.ref e) (upd H e (exo e C none))
theorem pe_ex0 {B newId initId : String} {bmB : List Value} (F : ExcBaseFacts B newId initId bmB) (q : PySem.W.excIn X.K C bmB newId = true) (gC : X.mg x = some (.ref C)) (kC : PySem.W.keepIn X.K (.ref C) = true) (hg : Gl X x := by rfl) (hdb : (x == ("__debug__" : Str)) = false := by decide) :
    PE X (.Call (.Name x p) [] [] pos) (tEx0 C) := by
  refine ⟨fun pins s σ H Q I h => ?_⟩
  refine wpAny_Call_Name_kw
        (ld_glob I hg gC ?_ hdb)
  refine PySem.W.callWith_K0 I.kIn kC ?_
  show wpAny _ _ (call (.ref C) []) _ _ _
  obtain ⟨bm, N, nm, qn, bs, hdct, sn, sub, ab, col, dd, k0, k1, k2, k3, k5, mN, hC, hN, hni, T⟩ := exc_obj I.kIn q
  obtain ⟨hp, g, dr, tk, os⟩ := s
  refine wpAny_call_exc_subT F T hC hN hni (fun h' a hm => ?_) (Nat.zero_le _)
  have hn : H a = none := I.hok.gone hm.new
  obtain ⟨t, ht, _,
        _⟩ := hm.there
  exact ⟨.ref a, upd H a (exo a C none), I.laidN hm.keeps hm.new hn (exo_ok (t1 := t) ht), rfl, h a hn⟩
/-- e.f, e an exception that is told, f one of its fields -/
def tGetX (K : PySem.W.Frag) (f : Str) (te : TE) : TE := fun σ H Q => te σ H fun y H1 => ∃ (e C d : Addr) (fs : List (Str × V)) (v : V), y = .ref e ∧ XT K C ∧ PySem.W.findIn K (.ref C) f = some none ∧ H1 e = some (exo e C (some d)) ∧ H1 d = some (.xd fs) ∧ fs.lookup f = some v ∧ Q v H1
theorem pe_getX {te : TE} (he : PE X a te) (hb : attributeBase a f X.env (eval a X.env) = eval a X.env := by rfl) : PE X (.Attribute a f pos) (tGetX X.K f te) := by
  refine ⟨fun pins s σ H Q I h => ?_⟩
  refine attr_of hb (thn (he.run pins s σ H _ I h) fun u s1 hh => ?_)
  obtain ⟨y, H1, I1, rx, e, C, d, fs, v, ey, T, no, ea, ed, l, q⟩ := hh
  subst ey
  obtain rfl : u = Value.ref e := rx
  obtain ⟨t0, ho⟩ := exo_at I1.hok ea
  obtain ⟨mA, hns, hrel⟩ := (show ObjOk X.prog X.w H1 s1.heap d (.xd fs) from I1.hok d _ ed)
  obtain ⟨od, hod, hl⟩ := lookIn_ns hns
  obtain ⟨w, hw, rw'⟩ := RelO.some_of (v := v) (o := mA f) (by rw [← l]; exact hrel f)
  have J : PySem.W.InstAt s1.heap e _ C (some od) := ⟨ho, rfl, rfl, hod⟩
  exact HandSPX.exc_get I1.kIn J T.ga T.gg T.exC (PySem.W.findObj_own T.hd no rfl (by rw [hl, hw])) (handed_of rw') ⟨v, H1, I1.tok _, rw', q⟩
/-- isinstance(e, c), e an exception that is told -/
def rIsX (K : PySem.W.Frag) : List V → Hp → VK → Prop := fun xs H Q => ∃ (e C : Addr) (d : Option Addr) (c : V) (u : Value) (r : Bool), xs = [.ref e, c] ∧ ClsV c u ∧ XT K C ∧ H e = some (exo e C d) ∧ (∀ dd, d = some dd → ∃ fs, H dd = some (.xd fs)) ∧ PySem.W.kitOne K (.ref C) u = some r ∧ Q (.bl r) H
theorem call_isX : CallR X (.builtin "isinstance") (rIsX X.K) := by
  intro pins s σ
        H xs us Q I r h
  obtain ⟨e, C, d, c, u, z, rfl, k, T, ea, hd, ek, q⟩ := h
  obtain ⟨u1, u2, rfl,
        r1, r2⟩ := vals2 r
  have e2 := k.eq r2
  subst e2
  cases (show u1 = Value.ref e from r1)
  obtain ⟨t0, ho⟩ := exo_at I.hok ea
  have J : ∃ od, PySem.W.InstAt s.heap e ({ cls := .ref C, dict := d, data := .fields #[.ref t0, .none, .none, .none, .bool false, .none] } : Obj) C od := by
    cases d with
    | none => exact ⟨none, ho, rfl, rfl, trivial⟩
    | some dd =>
      obtain ⟨fs, hf⟩ := hd dd rfl
      obtain ⟨mA, hns, _⟩ := (show ObjOk X.prog X.w H s.heap dd (.xd fs) from I.hok dd _ hf)
      obtain ⟨od, hod, _⟩ := lookIn_ns hns
      exact ⟨some od, ho, rfl, rfl, hod⟩
  obtain ⟨od, J⟩ := J
  have hc : (PySem.W.clsIn
        X.K C).isSome = true := by
    obtain ⟨cd, h1, _⟩ := T.opn
    rw [h1]
    rfl
  exact PySem.W.kia_one (PySem.W.kitx_exc hc T.ga T.gg T.exC T.ac T.gn T.tk T.mo) I.kIn J ek (fun z => nomatch z) fun tk => ⟨.bl z, H, I.tok tk, rfl, q⟩
end
end XK
end
section
set_option Elab.async false
set_option linter.all false
set_option maxRecDepth 100000
set_option maxHeartbeats 4100000
namespace XK
open PySem PySem.Spec PyProof.Rows L2
/-! ### repr of data -/
/-- what v is as data, dicts with keys of text or int at the outside as well -/
def flatD : PyData → Bool
  | .none => true
  | .bool _ => true
  | .int _ => true
  | .str _ => true
  | _ => false
theorem flat_reads {h : Heap} {u : Value} {d : PyData} {as : List Addr} (r : Reads h u d as) (f : flatD d = true) : as = [] := by
  cases r <;> first | rfl | cases f
theorem flats_read {h : Heap} : ∀ {us : List Value} {ds : List PyData} {as : List Addr}, ReadsAll h us ds as → ds.all flatD = true → as = []
  | _, _, _, .nil, _ => rfl
  | _, _, _, .cons r t, f => by
    rw [List.all_cons,
          Bool.and_eq_true] at f
    rw [flat_reads r f.1, flats_read t f.2]
    rfl
inductive DX (K : PySem.W.Frag) (H : Hp) : V → PyData → Prop
  | dp {v : V} {d : PyData} : Dp K H v d → DX K H v d
  | dc {a : Addr} {kvs : List (Key × V)} {ks vs : List PyData} : H a = some (.dK kvs) → DpAll K H (kvs.map fun p => kV p.1) ks → DpAll K H (kvs.map (·.2)) vs → ks.all flatD = true → vs.all flatD = true → DX K H (.ref a) (.dict (ks.zip vs))
inductive DXAll (K : PySem.W.Frag) (H : Hp) : List V → List PyData → Prop
  | nil : DXAll K H [] []
  | cons {v : V} {vs : List V} {d : PyData} {ds : List PyData} : DX K H v d → DXAll K H vs ds → DXAll K H (v :: vs) (d :: ds)
mutual
theorem noD {K : PySem.W.Frag} {H : Hp} : ∀ (d : PyData) (v : V), Dp K H v d → d.hasDict = false
  | .none, _, _ => by simp [PyData.hasDict]
  | .bool _, _, _ => by simp [PyData.hasDict]
  | .int _, _, _ => by simp [PyData.hasDict]
  | .str _, _, _ => by simp [PyData.hasDict]
  | .list ds, _, h => by
    cases h with
    | lst _ ha =>
      unfold PyData.hasDict
      exact noDs ds _ ha
  | .tuple ds, _, h => by
    cases h with
    | tup _ ha =>
      unfold PyData.hasDict
      exact noDs ds _ ha
  | .dict _, _, h => by cases h
theorem noDs {K : PySem.W.Frag} {H : Hp} : ∀ (ds : List PyData) (vs : List V), DpAll K H vs ds → PyData.hasDictAll ds = false
  | [], _, _ => by simp [PyData.hasDictAll]
  | d :: ds, _, h => by
    cases h with
    | cons a b =>
      unfold PyData.hasDictAll
      rw [noD d _ a, noDs ds _ b]
      rfl
end
theorem dpAll_length {K : PySem.W.Frag} {H : Hp} : ∀ {vs : List V} {ds : List PyData}, DpAll K H vs ds → vs.length = ds.length
  | _, _, .nil => rfl
  | _, _, .cons _ h => congrArg Nat.succ (dpAll_length h)
section
variable {X : Cx} {pins : List (Addr ×
      Obj)} {σ : L2.St} {H : Hp} {s : Shared}
theorem pairs_vals {P : Program} {w : World} : ∀ {kvs : List (Key × V)} {vs : List (Key × Value)} {es : List DictEntry}, KV kvs vs → Pairs (mixKind P w) es vs →
    Vals (kvs.map fun p => kV p.1) (es.map (·.key)) ∧ Vals (kvs.map (·.2)) (es.map (·.val))
  | _, _, _, .nil, .nil => ⟨.nil, .nil⟩
  | _, _, _, .cons r t, .cons hk hv hp => by
    obtain ⟨a, b⟩ := pairs_vals t hp
    obtain ⟨r1, r2⟩ := r
    refine ⟨.cons ?_ a, .cons ?_ b⟩
    · show RelV (kV _) _
      rw [r1]
      rcases keyIs_shape (show keyIs _ _ = true from hk) with ⟨i, tk, e1, e2⟩ | ⟨x, tk, e1, e2⟩
      · rw [e1]
        show RelV _ (DictEntry.key _)
        rw [e2]
        exact ⟨tk, rfl⟩
      · rw [e1]
        show RelV _ (DictEntry.key _)
        rw [e2]
        exact ⟨tk, rfl⟩
    · show RelV _ (DictEntry.val _)
      rw [hv]
      exact r2
theorem zip_fst : ∀ {ks vs : List PyData}, ks.length = vs.length → (ks.zip vs).map (·.1) = ks
  | [], [], _ => rfl
  | k :: ks, v :: vs, h => by
    rw [List.zip_cons_cons, List.map_cons, zip_fst (Nat.succ.inj h)]
theorem zip_snd : ∀ {ks vs : List PyData}, ks.length = vs.length → (ks.zip vs).map (·.2) = vs
  | [], [], _ => rfl
  | k :: ks, v :: vs, h => by
    rw [List.zip_cons_cons, List.map_cons, zip_snd (Nat.succ.inj h)]
/-- read off the heap; no address but lists' is met that may be the modules' dict -/
theorem DX.reads (I : Inv X pins σ H s) {v : V} {d : PyData} {u : Value} (h : DX X.K H v d) (r : RelV v u) : ∃ as, Reads s.heap u d as ∧ (d.hasDict = true → sysModules ∉ as) := by
  cases h with
  | dp h =>
    obtain ⟨as, q⟩ := Dp.reads I _ _ _ h r
    exact ⟨as, q, fun z => by rw [noD _ _ h] at z; cases z⟩
  | @dc a kvs ks vs ha hk hv fk fv =>
    cases (show u = Value.ref a from r)
    obtain ⟨_, hsys, us, rel, o, es, ep, ho, hx, hd, _, hp, _⟩ := (show ObjOk X.prog X.w H s.heap a (.dK kvs) from I.hok a _ ha)
    obtain ⟨rk, rv⟩ := pairs_vals rel hp
    obtain ⟨as, q1⟩ := Dp.readsAll I ks _ _ hk rk
    obtain ⟨bs, q2⟩ := Dp.readsAll I vs _ _ hv rv
    have hl : ks.length = vs.length := by
      rw [← dpAll_length hk, ← dpAll_length hv, List.length_map, List.length_map]
    refine ⟨a :: as ++ bs, Reads.dict ho hx.1 hd (by rw [zip_fst hl]; exact q1) (by rw [zip_snd hl]; exact q2), fun _ hm => ?_⟩
    rw [flats_read q1 fk, flats_read q2 fv] at hm
    have e : sysModules = a := by simpa using hm
    rw [e] at hsys
    simp at hsys
theorem DXAll.reads {b : Bool} (I : Inv X pins σ H s) : ∀ {vs : List V} {ds : List PyData} {us : List Value}, DXAll X.K H vs ds → (∀ d ∈ ds, d.hasDict = b) → Vals vs us → ∃ as, ReadsAll s.heap us ds as ∧ (b = true → sysModules ∉ as)
  | _, _, _, .nil, _, .nil => ⟨[], .nil, fun _ h => by cases h⟩
  | _, _, _, .cons a r, e, .cons q t => by
    obtain ⟨as, h1, n1⟩ := a.reads I q
    obtain ⟨bs, h2, n2⟩ := DXAll.reads I r (fun d hd => e d (List.mem_cons_of_mem _ hd)) t
    refine ⟨as ++ bs, .cons h1 h2, fun hb hm => ?_⟩
    rcases List.mem_append.mp hm with z | z
    · exact n1 ((e _ (List.mem_cons_self ..)).trans hb) z
    · exact n2 hb z
theorem dictAll_of {b : Bool} : ∀ {ds : List PyData}, (∀ d ∈ ds, d.hasDict = b) → PyData.hasDictAll ds = true → b = true
  | [], _, h => by
    unfold PyData.hasDictAll at h
    cases h
  | d :: ds, e, h => by
    unfold PyData.hasDictAll at h
    rw [Bool.or_eq_true] at h
    rcases h with h | h
    · rw [e d (List.mem_cons_self ..)] at h
      exact h
    · exact dictAll_of (fun x hx => e x (List.mem_cons_of_mem _ hx)) h
end
/-- the answer's size and depth are small -/
structure Shows (d : PyData) : Prop where
  sh : d.showable = true
  sz : d.shown.length ≤ sizeLine
  dp : d.depth ≤ 60
def rRepr (K : PySem.W.Frag) : List V → Hp → VK → Prop := fun xs H Q => ∃ v d, xs = [v] ∧ DX K H v d ∧ Shows d ∧ Q (.str d.shown) H
section
variable {X : Cx}
theorem call_repr (hg : X.A.guards = some []) (hu : X.A.units + 64 < cLine) : CallR X (.builtin "repr") (rRepr X.K) := by
  intro pins s σ
        H xs us Q I r h
  obtain ⟨v, d, rfl, hd, S, q⟩ := h
  cases r with
  | @cons _ u _ _ rv rn =>
    cases rn
    obtain ⟨as, hr, hs⟩ := hd.reads I rv
    have fin : ∀ h' t k, (∀ b o, s.heap.get? b = some o → h'.get? b = some o) → EP X pins σ Q (.str d.shown t) { s with heap := h', toks := k } := fun h' t k kk => ⟨.str d.shown, H, I.kept kk, ⟨_, rfl⟩, q⟩
    cases hr with
    | none => exact PySem.P.repr_of_none (by rw [PyData.shown_none] at fin; exact fin s.heap s.toks _ fun _ _ z => z)
    | bool b => exact PySem.P.repr_of_bool (by rw [PyData.shown_bool] at fin; exact fin s.heap s.toks _ fun _ _ z => z)
    | int i t =>
      have hi : i.natAbs.log2 < 1920 := by
        have z := S.sh
        unfold PyData.showable at z
        exact of_decide_eq_true z
      exact PySem.P.repr_of_int hi (by rw [PyData.shown_int] at fin; exact fin s.heap s.toks _ fun _ _ z => z)
    | str x t =>
      have z := S.sz
      rw [PyData.shown_str] at z fin
      exact PySem.P.repr_of_str (fin s.heap s.toks _ fun _ _ z => z) z
    | list h1 h2 h3 h4 => exact repr_of_reads' (.list h1 h2 h3 h4) S.sh hs hg (by have := S.dp; omega) (fun _ _ z => z) (fun h' t k kk => fin h' t k kk) S.sz
    | tuple h1 h2 h3 h4 => exact repr_of_reads' (.tuple h1 h2 h3 h4) S.sh hs hg (by have := S.dp; omega) (fun _ _ z => z) (fun h' t k kk => fin h' t k kk) S.sz
    | dict h1 h2 h3 h4 h5 => exact repr_of_reads' (.dict h1 h2 h3 h4 h5) S.sh hs hg (by have := S.dp; omega) (fun _ _ z => z) (fun h' t k kk => fin h' t k kk) S.sz
/-- repr of a list that was laid in the call: not the modules' dict -/
def rReprL (K : PySem.W.Frag) : List V → Hp → VK → Prop := fun xs H Q => ∃ (p : Addr) (vs : List V) (ds : List PyData) (b : Bool), xs = [.ref p] ∧ H p = some (.lst vs) ∧ p ≠ sysModules ∧ DXAll K H vs ds ∧ (∀ d ∈ ds, d.hasDict = b) ∧ Shows (.list ds) ∧ Q (.str (PyData.list ds).shown) H
theorem call_reprL (hg : X.A.guards = some []) (hu : X.A.units + 64 < cLine) : CallR X (.builtin "repr") (rReprL X.K) := by
  intro pins s σ
        H xs us Q I r h
  obtain ⟨p, vs, ds, b, rfl, hp, np, hd, hb, S, q⟩ := h
  cases r with
  | @cons _ u _ _ rv rn =>
    cases rn
    cases (show u = Value.ref p from rv)
    obtain ⟨_, its, n, rvs, ho⟩ := (show ObjOk X.prog X.w H s.heap p (.lst vs) from I.hok p _ hp)
    obtain ⟨as, hr, hs⟩ := hd.reads I hb rvs
    refine repr_of_reads' (Reads.list ho rfl rfl hr) S.sh (fun z => ?_) hg (by have := S.dp; omega) (fun _ _ z => z) (fun h' t k kk => ⟨.str (PyData.list ds).shown, H, I.kept kk, ⟨_, rfl⟩, q⟩) S.sz
    unfold PyData.hasDict at z
    intro hm
    rcases List.mem_cons.mp
          hm with e | e
    · exact np e.symm
    · exact hs (dictAll_of hb z) e
/-- a list display, and its address -/
def tLstS (t : TA) : TE := fun σ H Q => t σ H fun xs H1 => xs.length ≤ sizeLine ∧ ∀ p, H1 p = none → p ≠ sysModules → Q (.ref p) (upd H1 p (.lst xs))
theorem pe_lstS {es : List Expr} {t : TA} {pos : Pos} (h : PA X es t) : PE X (.List es pos) (tLstS t) := by
  refine ⟨fun pins s
        σ H Q I hq => ?_⟩
  refine wpAny_List_spliced (thn (h.run pos pins s σ H _ I hq) fun us s1 hh => ?_)
  obtain ⟨xs, H1, I1, r, z, q⟩ := hh
  refine ⟨by rw [← r.length]; exact z, ?_⟩
  have free : H1 s1.heap.objs.size = none := I1.hok.fresh (Nat.le_refl _)
  have big := Inv.big I1
  refine ⟨.ref s1.heap.objs.size, upd H1 s1.heap.objs.size (.lst xs), I1.laid (t' := s1.toks) (fun b u e => Heap.get?_push_of_some _ e) (Nat.le_refl _) ?_, rfl, q _ free (Ne.symm (Nat.ne_of_lt big))⟩
  exact ⟨z, us, 0, r,
        Heap.get?_push_size _ rfl⟩
/-- xs.count(b), truth values -/
def eqb (k : Bool) (v : Value) : Bool := match v with
  | .bool n => n == k
  | _ => false
theorem eqb_gives {k : Bool} {A : Around} {s : Shared} : ∀ {us : List Value} {bs : List Bool}, Vals (bs.map V.bl) us → ∀ y ∈ us, SeqAt.EqAt A s y (.bool k) (eqb k y)
  | _, [], .nil => fun y hy => by cases hy
  | _, b :: bs, .cons r h => fun y hy => by
    rcases List.mem_cons.mp
          hy with e | e
    · rw [e, show _ = Value.bool b from r]
      exact SeqAt.EqAt.bool_bool b k
    · exact eqb_gives h y e
theorem eqb_count {k : Bool} : ∀ {us : List Value} {bs : List Bool}, Vals (bs.map V.bl) us → us.countP (eqb k) = bs.count k
  | _, [], .nil => rfl
  | _, b :: bs, .cons r h => by
    rw [List.countP_cons, List.count_cons, eqb_count (k := k) h, show _ = Value.bool b from r]
    rfl
def rCntB (K : PySem.W.Frag) : V → List V → Hp → VK → Prop := fun x xs H Q => ∃ (p : Addr) (bs : List Bool) (k : Bool), x = .ref p ∧ xs = [.bl k] ∧ SqL K H p (bs.map V.bl) ∧ Q (.int (bs.count k : Nat)) H
theorem mt_count_bool : MtR X "list.count" (rCntB X.K) := by
  intro pins s σ H x
        xs v us Q I rx rxs h
  obtain ⟨p, bs, k, rfl, rfl, hs, q⟩ := h
  cases rx
  obtain ⟨u, rfl,
        ru⟩ := rxs.one
  cases (show u = Value.bool k from ru)
  obtain ⟨its, rv, ⟨⟨cls, dd, data, sl⟩,
        n, ho, hc, hdn, hd⟩, hlen⟩ := I.list hs
  simp only at hc hd
  subst hc hd
  refine call_meets PySem.F.slot_list_count ⟨_, ho, rfl⟩ PySem.F.entry_list_count (PySem.F.args_list_count_2 _ _) (SeqAt.list_countAt p its.toArray n dd sl (.bool k) (eqb k))
    ⟨ho, fun y hy => eqb_gives rv y (by simpa using hy), ?_⟩
  have ec : its.toArray.toList.countP (eqb k) = bs.count k := eqb_count rv
  refine ⟨.int (bs.count k : Nat), H, I.tok _, ⟨s.toks, ?_⟩, q⟩
  show Value.int ((its.toArray.toList.countP (eqb k) : Nat) : Int) s.toks = Value.int ((bs.count k : Nat) : Int) s.toks
  rw [ec]
/-- a short text, many times -/
theorem op_mul_str : OpR X (binaryOp .Mult) (fun x y H Q => ∃ (z : Str) (i : Int), x = .str z ∧ y = .int i ∧ z.length ≤ 16 ∧ 0 ≤ i ∧ i ≤ 1000 ∧ Q (.str (Txt.mul z i)) H) := by
  intro pins s σ H x
        y v u Q I rx ry h
  obtain ⟨z, i, rfl, rfl, hz, h0, h1, q⟩ := h
  obtain ⟨t, rfl⟩ := rx
  obtain ⟨t', rfl⟩ := ry
  refine PySem.W.KXi.mul rfl hz (by omega) (by omega) fun tk k _ _ => ?_
  exact ⟨.str (Txt.mul z i), H, I.tok _, ⟨_, rfl⟩, q⟩
end
end XK
end
section
set_option Elab.async false
set_option linter.all false
set_option maxRecDepth 100000
set_option maxHeartbeats 4100000
namespace XK
open PySem PySem.Spec PyProof.Rows L2
/-! ### a law's own def: it is called where no repr is under way -/
section
variable {P : Program} {w : World} {K : PySem.W.Frag} {mg : Str → Option Value} {base : Heap} {CX : CXT} {k : Nat} {f : Addr} {fd : FuncData} {N ps : List Str} {sp : Sp}
/-- a def's promise where the claim's caller calls it -/
structure AtCaller (P : Program) (w : World) (K : PySem.W.Frag) (mg : Str → Option Value) (base : Heap) (CX : CXT) (k : Nat) (f : Addr) (fd : FuncData) (ps : List Str) (sp : Sp) : Prop where
  go : ∀ (outer : List Env) (s : Shared) (H : Hp) (args : Args) (us : List Value) (vs : List V) (Q : VK) (E : XK), Room k callerA → Env0 P w K mg base callerA outer s H → BindsTo s fd args (ps.zip us) → Vals vs us → sp vs H Q E →
    codeAny (model P w) callerA (.call (.ref f) args) (CR CX outer P w H s Q E) s
theorem atCaller {x qual : Str} {st : Stmt} (F : Fun K x qual st f fd) (S : FnScope N ps (defScope st)) (len : ∀ vs H Q E, sp vs H Q E → vs.length = ps.length)
    (body : ∀ (cdv : Value) (outer : List Env) (s : Shared) (H : Hp) (vs : List V) (Q : VK) (E : XK), Room k (callerA.deeper (envOfC qual (defScope st) s.heap.objs.size f cdv)) → sp vs H Q E →
      ∃ t, PSs (cxOf CX P w K mg base N qual (defScope st) f cdv callerA outer s H E).nox (defBody st) t ∧ t { nx := fun _ H' => Q .non H', rt := Q } (start N vs) H) :
    AtCaller P w K mg base CX (k + 1) f fd ps sp := by
  obtain ⟨oc, od, kV, doc, pm, an,
        cdv, ct, osl, rfl, lk, hcd⟩ := F.ex
  constructor
  intro outer s H args us vs Q E room env bind rel want
  have count := len _ _ _ _ want
  have inn : K.In s.heap := env.mod.kin.keeps fun b o e => (env.bs b o e).1
  have lim : s.heap.NoLimit := env.mod.nolimit.keeps fun b o e => (env.bs b o e).1
  have kinds : ∀ y ∈ ps.zip us, (defScope st).names.lookup y.1 = some .local ∨ ((defScope st).names.lookup y.1 = some .cell ∧ ((cellsFrom (s.heap.objs.size + 1) (defScope st).names []).lookup y.1).isSome = true) := by
    rintro ⟨n, v⟩ hy
    cases S.par n (List.of_mem_zip hy).1 with
    | inl q => exact .inl q
    | inr q => exact .inr ⟨q, PySem.W.cellsFrom_some _ _ _ (.inl q)⟩
  refine codeAny_call_function room.depth (inn _ _ lk) rfl S.co S.gen rfl (PySem.W.codeRec_of inn hcd) (bind _ _ _ _ ?_)
  refine wpAny_newFunctionEnv_cells S.kind kinds fun en hen s1 entered => ?_
  subst hen
  refine ⟨lim.keeps entered.toInCall.keep, codeAny_func ?_⟩
  obtain ⟨t, der, rd⟩ := body cdv outer s H vs Q E (room.deeper _) want
  have I0 : Inv (cxOf CX P w K mg base N qual (defScope st) f cdv callerA outer s H E) [] (start N vs) H s1 := inv_start S room.hd env count rel entered
  refine wpAny_mono (der.nox.run [] s1 (start N vs) H _ I0 rd) (fun flow s' res => ?_) fun _ _ res => res
  cases flow with
  | ret u =>
    obtain ⟨v, σ', H', J, rv, q⟩ := res
    exact ⟨v, H', J.os, J.bare, J.base, J.hok, rv, q⟩
  | next =>
    obtain ⟨σ', H', J, q⟩ := res
    exact ⟨V.non, H', J.os, J.bare, J.base, J.hok, rfl, q⟩
  | brk =>
    obtain ⟨_, _, _, no⟩ := res
    exact no.elim
  | cont =>
    obtain ⟨_, _, _, no⟩ := res
    exact no.elim
end
/-- the law's call: nothing but the script may be tracked at its entry -/
theorem caller_runs {P : Program} {w : World} {K : PySem.W.Frag} {mg mb : Str → Option Value} {k : Nat} {fa a : Addr} {fd : FuncData} {x : Str} {sp : Sp} {s₁ : Shared} {vs : List Value} {ns : List Int}
    (inn : K.In s₁.heap) (glob : s₁.heap.Ns mainGlobals mg) (bns : s₁.heap.Ns builtinsNs mb) (boot : ∀ x : Str, x ≠ "__name__" → mb x = bootBuiltins x) (lim : s₁.heap.NoLimit) (gens : s₁.gens = #[])
    (obj : s₁.heap.get? a = some { cls := .type "list", data := .seq vs.toArray }) (inz : IntsAre vs ns) (short : ns.length ≤ sizeLine) (room : Room k callerA)
    (F : ∀ base : Heap, K.In base → base.Ns mainGlobals mg → AtCaller P w K mg base CX0 k fa fd [x] sp) (bind : ∀ (s : Shared) (u : Value), BindsTo s fd ⟨[u], []⟩ [(x, u)])
    (want : ∀ H : Hp, SqL K H a (ns.map V.int) → sp [.ref a] H (fun v _ => v = .bl true) fun _ _ _ => False) :
    codeAny (model P w) callerA (.call (.ref fa) ⟨[.ref a], []⟩) (fun r s' => r = .ok
          (.ret (.bool true)) ∧ OldK s₁.heap s'.heap ∧ s'.os = s₁.os ∧ AllBare s'.gens) s₁ := by
  have vals := vals_ints inz
  have many := inz.length
  have main : ∀ H : Hp, (∀ b, H b = none ∨ ∃ ob xs, H b = some (.frz ob xs)) → SqL K H a (ns.map V.int) → HOk P w H s₁.heap → (∀ b, H b ≠ none → b = a ∧ K.lookup b = none) →
      codeAny (model P w) callerA (.call (.ref fa) ⟨[.ref a], []⟩) (fun r s' => r = .ok
            (.ret (.bool true)) ∧ OldK s₁.heap s'.heap ∧ s'.os = s₁.os ∧ AllBare s'.gens) s₁ := by
    intro H frozen seq ok alone
    have plain : ∀ {b : Addr} {o : Obj}, s₁.heap.get? b = some o → (b = a → False) → H b = none := fun {b o} _ nb => by
      cases q : H b with
      | none => rfl
      | some u => exact (nb (alone b (by rw [q]; simp)).1).elim
    have space : ∀ {b : Addr} {m : Str → Option Value}, s₁.heap.Ns b m → (hidT s₁.heap H).Ns b m := fun {b m} ⟨o, es, ep, e, d, r⟩ =>
      ⟨o, es, ep, hidT_get e (plain e fun z => by
        rw [z, obj] at e
        cases e
        cases (show Data.seq vs.toArray _ = Data.dict es ep from d)), d, r⟩
    have kept : K.In (hidT s₁.heap H) := fun b o e => hidT_get (inn b o e) (by
      cases q : H b with
      | none => rfl
      | some u =>
        have z := (alone b (by rw [q]; simp)).2
        rw [z] at e
        cases e)
    have md : Mod K mg (hidT s₁.heap H) := ⟨kept, space glob, ⟨mb, space bns, boot⟩, by
      obtain ⟨mc, h1, h2⟩ := lim
      exact ⟨mc, space h1, h2⟩⟩
    have env : Env0 P w K mg (hidT s₁.heap H) callerA [] s₁ H :=
      ⟨rfl, md, fun b o e => of_hidT e, Nat.le_of_eq (hidT_size _ _), trivial, fun b hb => (by cases hb), ok, AllBare.of_eq gens⟩
    have res := (F _ kept (space glob)).go [] s₁ H ⟨[.ref a], []⟩ [.ref a] [.ref a] _ _ room env (bind s₁ (.ref a)) (.cons rfl .nil) (want H seq)
    refine codeAny_mono res fun r s' h => ?_
    cases r with
    | error e => exact False.elim h
    | ok fl =>
      cases fl with
      | next => exact False.elim h
      | brk => exact False.elim h
      | cont => exact False.elim h
      | ret u =>
        obtain ⟨v, H', os, bare, un, ok', rel, q⟩ := h
        obtain rfl : v = .bl true := q
        obtain rfl : u = Value.bool true := rel
        refine ⟨rfl, OldK.of_keep
              fun b o e => ?_, os, bare⟩
        rcases frozen b with z | ⟨ob, xs, z⟩
        · exact un.keep b o e z (fun z => by cases z) (fun z => by cases z)
        · obtain ⟨e1, _⟩ := ok b _ z
          obtain ⟨e2, _⟩ := ok' b _ (un.frzs b ob _ z)
          rw [e] at e1
          cases e1
          exact e2
  cases hk : K.lookup a with
  | some o =>
    have e := inn a o hk
    rw [obj] at e
    cases e
    refine main (fun _ => none) (fun _ => .inl rfl) (.inr ⟨_, vs.toArray, _, hk, rfl, rfl, rfl, ?_, ?_⟩) (fun b u z => by cases (show (none : Option HO) = some u from z)) fun b z => absurd rfl z
    · rw [List.size_toArray, many]
      exact short
    · simpa using vals
  | none =>
    refine main (upd (fun _ => none) a (.frz { cls := .type "list", data := .seq vs.toArray } (.lst (ns.map V.int)))) (fun b => ?_) (.inl (.inr ⟨_, upd_same⟩)) (fun b u z => ?_) fun b z => ?_
    · by_cases hb : b = a
      · rw [hb]
        exact .inr ⟨_, _, upd_same⟩
      · exact .inl (upd_ne hb)
    · by_cases hb : b = a
      · subst hb
        rw [upd_same] at z
        cases z
        exact ⟨obj, by rw [List.length_map]; exact short, vs, _, vals, obj⟩
      · rw [upd_ne hb] at z
        cases z
    · by_cases hb : b = a
      · exact ⟨hb, by rw [hb]; exact hk⟩
      · exact absurd (upd_ne hb) z
/-- the goal that the head leaves -/
theorem caller_walk {l : PySem.W.OpenLaw} {n k : Nat} {q : Program} {loose : List Str} {XP : (Str → Option Value) → Heap → Prop} {YP : World → Heap → Prop} {d : DefRec} {K : Params → PySem.W.Frag} {sp : World → Sp} {x : Str}
    (most : l.most = some n) (small : n ≤ sizeLine) (plain : d.params.defaults = []) (room : Room k callerA)
    (Y : ∀ (w : World) (h : Heap), YP w h → (K w.params).In h)
    (F : ∀ (w : World) (mg : Str → Option Value) (fa : Addr) (h : Heap), (K w.params).In h → h.Ns mainGlobals mg → mg d.name = some (.ref fa) →
      ∃ fd : FuncData, (∀ (s : Shared) (u :
            Value), BindsTo s fd ⟨[u], []⟩ [(x, u)]) ∧
        ∀ base : Heap, (K w.params).In base → base.Ns mainGlobals mg → AtCaller l.prog w (K w.params) mg base CX0 k fa fd [x] (sp w))
    (want : ∀ (w : World) (H : Hp) (a : Addr) (ns : List Int), ns.length ≤ n → SqL (K w.params) H a (ns.map V.int) → sp w [.ref a] H (fun v _ => v = .bl true) fun _ _ _ => False) :
    PySem.W.WalkO q loose XP YP l.row.toRowW
          d [] (fun f vs => PySem.call f vs) := by
  refine Att.attach_call most plain fun w s₀ s₁ mg mb fa o pm cd doc a vs ns G y ho hd hcd hmg obj inz many gens => ?_
  obtain ⟨fd, bind, run⟩ := F w mg fa _ (Y w _ y) G.T.g hmg
  exact caller_runs (Y w _ y) G.T.g G.T.b G.T.builtins G.T.nolimit gens obj inz (Nat.le_trans many small) room run bind fun H seq => want w H a ns many seq
end XK
end
section
set_option Elab.async false
set_option linter.all false
set_option maxRecDepth 100000
set_option maxHeartbeats 4100000
namespace XS
open PySem PySem.Spec PyProof.Rows L2
section
variable {X : Cx} {pins : List (Addr × Obj)} {σ : L2.St} {H : Hp} {s : Shared} {f : Addr} {fd : FuncData} {x qual : Str} {st : Stmt} {z : Str} {k : Nat}
/-- a def without parameters that hands back a written text: a token is out behind it -/
theorem run_lit {j : Nat} {p1 p2 : Pos} (F : Fun X.K x qual st f fd) (S : FnScope [] [] (defScope st)) (hb : defBody st = [.Return (some (.Constant (.str z) j p1)) p2]) (bind : ∀ s, BindsTo s fd ⟨[], []⟩ []) (nc : (defScope st).names = []) (hr : Room k X.A)
    (I : Inv X pins σ H s) : wpAny (model X.prog X.w) X.A (call (.ref f) []) (fun v s1 => 1 ≤ s1.toks ∧ ∃ t, v = .str z t ∧ Inv X pins σ H s1) X.xe s := by
  obtain ⟨oc, od, kV, doc, pm, an, cdv, ct, osl, rfl, lk, co⟩ := F.ex
  refine wpAny_call (Att.call_fn (binds := []) I.kIn I.nolimit lk co hr.depth (bind s) rfl (fun s₁ IC => ?_) S.co S.gen S.kind)
  obtain ⟨h₁, tk₁, rfl⟩ := IC.toInCall.same
  rw [hb]
  show wpAny _ _ (execs _ _) _ _ _
  refine wpAny_execs_cons (wpAny_Return_some (Calls.Constant_str ?_))
  refine ⟨Nat.succ_le_succ (Nat.zero_le _), tk₁, rfl, ?_⟩
  exact I.kept (t' := tk₁ + 1) fun b o e => IC.toInCall.keep b o e
/-- signs().replace(y, w) -/
theorem pe_litRepl {j j0 j1 : Nat} {y w : Str} {p p1 p2 q apos pos c0 c1 : Pos} (F : Fun X.K x qual st f fd) (S : FnScope [] [] (defScope st)) (hb : defBody st = [.Return (some (.Constant (.str z) j p1)) p2]) (bind : ∀ s, BindsTo s fd ⟨[], []⟩ []) (nc : (defScope st).names = []) (hr : Room k X.A)
    (gF : X.mg x = some (.ref f)) (hyz : (y == w) = false) (hl : z.length + (z.length + 1) * w.length ≤ 16777216) (hg : Gl X x := by rfl) (hdb : (x == ("__debug__" : Str)) = false := by decide)
    (hst : starEach [.Constant (.str y) j0 c0, .Constant (.str w) j1 c1] X.env = [(false, eval (.Constant (.str y) j0 c0) X.env), (false, eval (.Constant (.str w) j1 c1) X.env)] := by rfl)
    (hbase : attributeBase (.Call (.Name x p) [] [] q) "replace" X.env (eval (.Call (.Name x p) [] [] q) X.env) = eval (.Call (.Name x p) [] [] q) X.env := by rfl) (hline : (apos.endLine == pos.line) = true := by rfl) :
    PE X (.Call (.Attribute (.Call (.Name x p) [] [] q) "replace" apos) [.Constant (.str y) j0 c0, .Constant (.str w) j1 c1] [] pos) (tC (.str (Txt.replace z y w))) := by
  refine ⟨fun pins s σ H Q I h => ?_⟩
  refine PySem.Call_method2 hbase hst hline ?_
  refine wpAny_Call_Name_kw (ld_glob I hg gF ?_ hdb)
  refine PySem.W.callWith_K0 I.kIn F.kp ?_
  refine wpAny_mono (run_lit F S hb bind nc hr I) (fun v s1 hv => ?_) fun _ _ e => e
  obtain ⟨one, tx, rfl, I1⟩ := hv
  refine ⟨"str", _, PySem.F.plainAttrs_str, PySem.F.slot_str_replace, PySem.F.type_str_replace, typeIs_str _ _ _, (fun _ e => nomatch e), Calls.callWith_builtin rfl (Calls.evalArgs_plain (Calls.spliced_cons ?_))⟩
  refine Calls.Constant_str (Calls.spliced_cons (Calls.Constant_str (Calls.spliced_nil ?_)))
  refine PySem.SC.replace (by show s1.toks ≠ 0; omega) (by show s1.toks + 1 ≠ 0; omega) (by show s1.toks ≠ s1.toks + 1; omega) hyz hl fun t' k => ?_
  exact ⟨.str (Txt.replace z y w), H, I1.tok k, ⟨t', rfl⟩, h⟩
end
/-! ### texts by their codes -/
/-- a text's codes -/
abbrev cod (z : Str) : List Nat := z.cps.toList
theorem len_cod (z : Str) : (cod z).length = z.length := by
  show z.cps.toList.length = z.cps.size
  simp
theorem cod_ext {a b : Str} (h : cod a = cod b) : a = b := by
  obtain ⟨⟨x⟩⟩ := a
  obtain ⟨⟨y⟩⟩ := b
  have h' : x = y := h
  rw [h']
/-- the text of one sign -/
def sg (c : Nat) : Str := ⟨#[c]⟩
theorem joinL_sg : ∀ cs : List Nat, TL.joinL [] (cs.map fun c => [c]) = cs := by
  intro cs
  induction cs with
  | nil => rfl
  | cons c r ih =>
    cases r with
    | nil => rfl
    | cons d r' =>
      show [c] ++ [] ++ TL.joinL [] ((d :: r').map fun c => [c]) = c :: d :: r'
      rw [ih]
      rfl
theorem join_sg (cs : List Nat) : cod (Txt.join ⟨#[]⟩ (cs.map sg)) = cs := by
  have h := SX.join_S [] (cs.map fun c => [c])
  rw [joinL_sg] at h
  have e : (cs.map fun c => [c]).map SX.S = cs.map sg := by
    rw [List.map_map]
    rfl
  rw [e] at h
  show (Txt.join (SX.S []) (cs.map sg)).cps.toList = cs
  rw [h]
theorem sg_inj {c d : Nat} (h : sg c = sg d) : c = d := by
  have e : #[c] = #[d] := congrArg Str.cps h
  simpa using e
end XS
end
section
set_option Elab.async false
set_option linter.all false
set_option maxRecDepth 100000
set_option maxHeartbeats 4100000
namespace XT
open PySem PySem.Spec PyProof.Rows L2
/-! ### max of a list of ints, with what stands for none -/
section
variable {prog : Program} {w : World} {A : Around} {R : Result → Shared → Prop} {I S : Addr} {fp wr : List Addr} {n : Nat} {P : Nat → Value → Prop} {St : Nat → Heap → Prop} {bt : Nat → Nat → Bool} {d : Value}
def heldBy : Option Value → Array Value
  | none => #[]
  | some v => #[v, v]
def BestOf (P : Nat → Value → Prop) (bt : Nat → Nat → Bool) (d : Value) (n : Nat) (v : Value) : Prop := (n = 0 ∧ v = d) ∨ (0 < n ∧ P (argBest bt (n - 1)) v)
def Have (P : Nat → Value → Prop) (bt : Nat → Nat → Bool) (i : Nat) : Option Value → Prop
  | none => i = 0
  | some v => 0 < i ∧ P (argBest bt (i - 1)) v
theorem max_turns (W : Walks prog w A.in1 I fp wr n P St) (C : CmpOf prog w A.in1 .Gt P bt) (nS : S ∉ fp) : ∀ (k i : Nat) (s : Shared) (b : Option Value) (c : Nat), n = i + k → St i s.heap → Have P bt i b →
    s.heap.get? S = some { cls := .type "list", data := .seq (heldBy b) c } →
    (∀ v h' tk, BestOf P bt d n v → (∀ x o, x ∉ wr → x ≠ S → s.heap.get? x = some o → h'.get? x = some o) → R (.ok (.ret v)) { s with heap := h', toks := tk }) →
    codeAny (model prog w) A (.builtin "max.loop" ⟨[.ref I, .none, .ref S], [("default", d)]⟩) R s := by
  have nW : S ∉ wr := fun h => nS (W.sub _ h)
  intro k
  induction k with
  | zero =>
    intro i s b c e st hb hS q
    obtain rfl : n = i := e
    refine codeAny_builtin
          F.entry_max_loop ?_
    rw [Around.under_plainId
          F.plain_max_loop _]
    show wpAny _ _ (seqItems? (.ref S) >>= _) _ _ s
    refine wpAny_bind
          (wpAny_seqItems hS rfl ?_)
    show wpAny _ _ (tryCatch (pyNext (.ref I)) _ >>= _) _ _ s
    refine wpAny_bind (wpAny_tryCatch (W.done s _ _ st fun h' tk keep => ?_))
    cases b with
    | none =>
      obtain rfl : n = 0 := hb
      show wpAny _ _ (rule _ >>= _) _ _ _
      exact wpAny_bind (wpAny_rule (wpAny_pure (q d h' tk (.inl ⟨rfl, rfl⟩) fun x o h1 _ h3 => keep x o h1 h3)))
    | some v =>
      have hS2 := keep S _ nW hS
      show wpAny _ _ (updateSeq S (fun _ => #[]) >>= _) _ _ _
      refine wpAny_bind (wpAny_updateSeq hS2 rfl (wpAny_bind (wpAny_letGo (wpAny_pure ?_))) (hz := by show 2 ≤ sizeLine; decide))
      exact q v _ tk (.inr hb) fun x o h1 h2 h3 => (Heap.get?_update_other _ _ h2.symm).trans (keep x o h1 h3)
  | succ k ih =>
    intro i s b c e st hb hS q
    have lt : i < n := by omega
    have name : (toString "max" ++ toString ".loop" : String) = "max.loop" := by decide
    refine codeAny_builtin
          F.entry_max_loop ?_
    rw [Around.under_plainId
          F.plain_max_loop _]
    show wpAny _ _ (seqItems? (.ref S) >>= _) _ _ s
    refine wpAny_bind
          (wpAny_seqItems hS rfl ?_)
    show wpAny _ _ (tryCatch (pyNext (.ref I)) _ >>= _) _ _ s
    refine wpAny_bind (wpAny_tryCatch (W.item i s _ _ lt st fun v h' tk hv st2 keep => ?_))
    have hS2 := keep S _ nW hS
    have put : ∀ (x : Array Value), St (i + 1) (h'.update S (Obj.mapSeq fun _ => x)) := fun x => W.frame _ _ _ st2 fun y hy o ey => (Heap.get?_update_other _ _ (fun h : S = y => nS (h ▸ hy))).trans ey
    have old : ∀ (x : Array Value) (y : Addr) (o : Obj), y ∉ wr → y ≠ S → s.heap.get? y = some o → (h'.update S (Obj.mapSeq fun _ => x)).get? y = some o := fun x y o h1 h2 h3 => (Heap.get?_update_other _ _ h2.symm).trans (keep y o h1 h3)
    cases b with
    | none =>
      obtain rfl : i = 0 := hb
      show wpAny _ _ (updateSeq S (fun _ => #[v, v]) >>= _) _ _ _
      refine wpAny_bind
            (wpAny_updateSeq hS2 rfl ?_)
      rw [name]
      refine wpAny_pure ⟨plainId_quiet F.plain_max_loop _, ih 1 _ (some v) _ (by omega) (put _) ⟨Nat.one_pos, hv⟩ (Heap.get?_update_self _ hS2 rfl) fun z h2 t2 hz k2 => ?_⟩
      exact q z h2 t2 hz fun y o h1 h3 h4 => k2 y o h1 h3 (old _ y o h1 h3 h4)
    | some u =>
      obtain ⟨ip, hu⟩ := hb
      show wpAny _ _ (tryCatch (holding [v, v] (richCompare .Gt v u >>= _)) _ >>= _) _ _ _
      refine wpAny_bind (wpAny_tryCatch (wpAny_holding (wpAny_bind (C i (argBest bt (i - 1)) v u _ _ _ hv hu ?_))))
      refine wpAny_bind (wpAny_holding
            (wpAny_truthy_bool ?_))
      refine wpAny_bind
            (wpAny_letGo (wpAny_pure ?_))
      have step : argBest bt i = if bt i (argBest bt (i - 1)) then i else argBest bt (i - 1) := by
        cases i with
        | zero => exact absurd ip (Nat.lt_irrefl 0)
        | succ j => rfl
      cases hc : bt i (argBest bt (i - 1)) with
      | true =>
        rw [hc, if_pos rfl] at step
        simp only [if_true]
        refine wpAny_bind (wpAny_updateSeq hS2 rfl (wpAny_bind (wpAny_letGo ?_)) (hz := by show 2 ≤ sizeLine; decide))
        rw [name]
        refine wpAny_pure ⟨plainId_quiet F.plain_max_loop _, ih (i + 1) _ (some v) _ (by omega) (put _) ⟨Nat.succ_pos _, by rw [Nat.add_sub_cancel, step]; exact hv⟩ (Heap.get?_update_self _ hS2 rfl) fun z h2 t2 hz k2 => ?_⟩
        exact q z h2 t2 hz fun y o h1 h3 h4 => k2 y o h1 h3 (old _ y o h1 h3 h4)
      | false =>
        rw [hc, if_neg (by decide)] at step
        simp only [Bool.false_eq_true,
              if_false]
        refine wpAny_bind
              (wpAny_letGo ?_)
        rw [name]
        refine wpAny_pure ⟨plainId_quiet F.plain_max_loop _, ih (i + 1) _ (some u) c (by omega) st2 ⟨Nat.succ_pos _, by rw [Nat.add_sub_cancel, step]; exact hu⟩ hS2 fun z h2 t2 hz k2 => ?_⟩
        exact q z h2 t2 hz fun y o h1 h3 h4 => k2 y o h1 h3 (keep y o h1 h4)
end
section
variable {prog : Program} {w : World} {A : Around} {E : Value → Shared → Prop} {s : Shared} {l : Addr} {its : List Value} {ns : List Int} {Q : Value → Shared → Prop} {d : Value}
/-- a built-in function by keywords that goes on in a loop of its own -/
theorem call_goes {id : String} {b : Builtin} {args : List Value} {kw : List (Str × Value)} (hk : builtinKind id = none) (hp : plainId id = true) (hb : entryFor table id = some b) (ha : argsOk id ⟨args, kw⟩)
    (hc : wpAny (model prog w) A.in1 (b ⟨args, kw⟩) (fun fin s' => ∃ c, fin = .again c ∧ c.quiet = true ∧ codeAny (model prog w) A c (fun r s₁ => ∃ v, r = .ok (.ret v) ∧ Q v s₁) s') E s) :
    wpAny (model prog w) A (call
          (.builtin id) args kw) Q E s := by
  refine wpAny_call
        (codeAny_call_builtin hp hb ?_)
  have go : wpAny (model prog w) A.in1 (b ⟨args, kw⟩) (fun fin s' => match fin with
      | .done f => (match (Except.ok f : Result) with
        | .ok (.ret v) => Q v s'
        | .ok _ => False
        | .error e => E e s')
      | .again c' => c'.quiet = true ∧ codeAny (model prog w) A c' (fun r s' => match r with | .ok (.ret v) => Q v s' | .ok _ => False | .error e => E e s') s') E s := by
    refine wpAny_mono hc (fun fin s' q => ?_) fun _ _ e => e
    obtain ⟨c, rfl, q1, q2⟩ := q
    refine ⟨q1, codeAny_mono q2 fun r s1 q3 => ?_⟩
    obtain ⟨v, rfl, q4⟩ := q3
    exact q4
  simp only
        [checkBuiltinCall, hk]
  cases sg : Manifest.signature? id with
  | none => exact wpAny_pure go
  | some y =>
    have ok : Bind.checkArgs id y ⟨args, kw⟩ = pure () := by simpa only [argsOk, sg] using ha
    simp only [ok]
    exact wpAny_pure go
theorem max_dflt (hh : A.handled = none) (hl : s.heap.IsList l its.toArray) (hi : IntsAre its ns)
    (h : ∀ h' tk v, (∀ b o, s.heap.get? b = some o → h'.get? b = some o) → (ns = [] ∧ v = d) ∨ (∃ M t, v = .int M t ∧ M ∈ ns ∧ ∀ a ∈ ns, a ≤ M) → Q v { s with heap := h', toks := tk }) : wpAny (model prog w) A (call (.builtin "max") [.ref l] [("default", d)]) Q E s := by
  obtain ⟨xs, e⟩ :=
        hi.allInts.items
  have hn : numsOf (intItems xs).toList
        = ns := by rw [← e]; exact hi.numsOf
  rw [nums_intItems] at hn
  subst hn
  rw [e] at hl
  have name : (toString "max" ++ toString ".loop" : String) = "max.loop" := by decide
  have okA : argsOk "max" ⟨[.ref l], [("default", d)]⟩ := by unfold argsOk; kernel_rfl
  refine call_goes F.kind_max F.plain_max F.entry_max okA ?_
  show wpAny _ A.in1 (Builtin.Builtins.bindParams "max" ["key", "default"] 0 ⟨[], [("default", d)]⟩ >>= _) _ _ s
  refine wpAny_bind (wpAny_of_eq (show Builtin.Builtins.bindParams "max" ["key", "default"] 0 ⟨[], [("default", d)]⟩ = pure [none, some d] from rfl) ?_)
  refine wpAny_bind
        (wpAny_pure ?_)
  refine wpAny_bind (iter_intList hl fun s2 e st fp ne => ?_)
  subst e
  refine wpAny_bind
        (wpAny_newObj_type ?_)
  rw [name]
  have W := Walks.list (prog := prog) (w := w) (A := A.in1) (by exact hh) s.heap.objs.size l ne (intItems xs)
  refine wpAny_pure ⟨_, rfl, plainId_quiet F.plain_max_loop _, ?_⟩
  refine max_turns (d := d) W (CmpOf.ints_gt (numAt xs) fun _ _ => intItems_at) (fun z => Nat.lt_irrefl _ (fp _ z)) _ 0 _ none _ (by rw [Nat.zero_add]) (W.frame _ _ _ st fun b _ o e => Heap.get?_push_of_some _ e) rfl (Heap.get?_push_size _ rfl) fun v h' tk hv keep => ⟨v, rfl, ?_⟩
  refine h h' tk v (fun b o e => ?_) ?_
  · have lt := Heap.lt_size e
    refine keep b o (fun z => ?_) (fun z => ?_) (Heap.get?_push_of_some _ (Heap.get?_push_of_some _ e))
    · exact Nat.ne_of_lt lt (List.mem_singleton.mp z)
    · subst z
      rw [Heap.size_push] at lt
      exact Nat.lt_irrefl _ (Nat.lt_of_succ_lt lt)
  · rcases hv with ⟨n0, rfl⟩ | ⟨np, hv⟩
    · left
      refine ⟨?_, rfl⟩
      have z : xs.size = 0 := by simpa [intItems] using n0
      rw [Array.eq_empty_of_size_eq_zero z]
      rfl
    · right
      obtain ⟨t, rfl⟩
            := intItems_at hv
      have np' : 0 < xs.size := by simpa [intItems] using np
      have e : (intItems xs).size = xs.size := by simp [intItems]
      rw [e]
      obtain ⟨h1, h2⟩ := argBest_gt
            (numAt xs) (xs.size - 1)
      refine ⟨_, t, rfl, ?_, fun a ha => ?_⟩
      · rw [numAt_eq]
        exact PySem.getD_mem (by rw [List.length_map, Array.length_toList]; omega)
      · obtain ⟨j, hj,
            rfl⟩ := mem_getD ha
        rw [List.length_map,
              Array.length_toList] at hj
        rw [← numAt_eq]
        exact h2 j (by omega)
end
section
variable {X : Cx}
/-- max(xs, default=v) of a list of ints: the reading -/
def rMaxOr (K : PySem.W.Frag) : List V → List V → Hp → VK → Prop := fun vs zs H Q => ∃ (a : Addr) (ns : List Int) (i : Int), vs = [V.ref a] ∧ zs = [V.int i] ∧ SqL K H a (ns.map V.int) ∧ ∀ m : Int, (ns = [] ∧ m = i) ∨ (m ∈ ns ∧ ∀ y ∈ ns, y ≤ m) → Q (.int m) H
theorem cr_maxOr (hc : X.calm = true) : CallRK X (.builtin "max") ["default"] (rMaxOr X.K) := by
  intro pins s σ H vs zs us ws Q I r r2 h
  obtain ⟨a, ns, i, rfl, rfl, hs, q⟩ := h
  obtain ⟨its, rv,
        hl, _⟩ := I.list hs
  rw [Vals.ref1 r]
  obtain ⟨u, rfl, t, rfl⟩ := vals1 r2
  refine max_dflt (I.ok.hd hc) hl.isList rv.ints fun h' tk v keep hv => ?_
  rcases hv with ⟨e, rfl⟩ | ⟨M, t2, rfl, h1, h2⟩
  · exact ⟨.int i, H, I.kept keep, ⟨_, rfl⟩, q i (.inl ⟨e, rfl⟩)⟩
  · exact ⟨.int M, H, I.kept keep, ⟨_, rfl⟩, q M (.inr ⟨h1, h2⟩)⟩
/-- any of several readings -/
theorem pe_ex {ι : Sort _} {e : Expr} {t : ι → TE} (h : ∀ i, PE X e (t i)) : PE X e (fun σ H Q => ∃ i, t i σ H Q) :=
  ⟨fun pins s σ H Q I ⟨i, q⟩ => (h i).run pins s σ H Q I q⟩
end
end XT
end
section
set_option Elab.async false
set_option linter.all false
set_option maxRecDepth 100000
set_option maxHeartbeats 4100000
namespace XT
open PySem PySem.Spec PyProof.Rows L2
/-! ### sum of lists, from a list on -/
def lsO (xs : List Value) (c : Nat) : Obj := { cls := .type "list", data := .seq xs.toArray c }
def restOf (L : Nat → List Value) : Nat → Nat → List Value
  | _, 0 => []
  | i, k + 1 => L i ++ restOf L (i + 1) k
section
variable {prog : Program} {w : World} {A : Around} {R : Result → Shared → Prop} {I S : Addr} {fp wr : List Addr} {n : Nat} {P : Nat → Value → Prop} {St : Nat → Heap → Prop}
theorem sum_turns (W : Walks prog w A.in1 I fp wr n P St) (nS : S ∉ fp) (wS : ∀ b ∈ wr, b < S) (B : Nat → Addr) (L : Nat → List Value) (isB : ∀ i v, P i v → v = .ref (B i)) (nB : ∀ i, i < n → B i ∉ wr ∧ B i ≠ S) :
    ∀ (k i : Nat) (s : Shared) (t : Addr) (cur : List Value) (c c1 : Nat), n = i + k → St i s.heap → (∀ j, j < n → ∃ c, s.heap.get? (B j) = some (lsO (L j) c)) →
    s.heap.get? S = some (lsO [.ref t] c) → s.heap.get? t = some (lsO cur c1) → t ≠ S → t ∉ wr → cur.length + (restOf L i k).length ≤ sizeLine →
    (∀ h' tk t' c', h'.get? t' = some (lsO (cur ++ restOf L i k) c') → (S < t ∨ 0 < k → S < t') → (∀ x o, x ∉ wr → x ≠ S → s.heap.get? x = some o → h'.get? x = some o) → R (.ok (.ret (.ref t'))) { s with heap := h', toks := tk }) →
    codeAny (model prog w) A (.builtin "sum.loop" ⟨[.ref I, .ref S, rawInt 2, rawInt 0], []⟩) R s := by
  have nW : S ∉ wr := fun h => nS (W.sub _ h)
  intro k
  induction k with
  | zero =>
    intro i s t cur c c1 e st ls hS ht tS tw fit q
    obtain rfl : n = i := e
    refine codeAny_builtin
          F.entry_sum_loop ?_
    rw [Around.under_plainId
          F.plain_sum_loop _]
    show wpAny _ _ (seqItems? (.ref S) >>= _) _ _ s
    refine wpAny_bind
          (wpAny_seqItems hS rfl ?_)
    show wpAny _ _ (tryCatch (pyNext (.ref I)) _ >>= _) _ _ s
    refine wpAny_bind (wpAny_tryCatch (W.done s _ _ st fun h' tk keep => ?_))
    exact wpAny_pure (q h' tk t c1 (by show _ = some (lsO (cur ++ []) _); rw [List.append_nil]; exact keep t _ tw ht) (fun z => z.elim id fun y => absurd y (Nat.lt_irrefl 0)) fun x o h1 _ h3 => keep x o h1 h3)
  | succ k ih =>
    intro i s t cur c c1 e st ls hS ht tS tw fit q
    have lt : i < n := by omega
    have eR : restOf L i (k + 1) = L i ++ restOf L (i + 1) k := rfl
    rw [eR, List.length_append] at fit
    refine codeAny_builtin
          F.entry_sum_loop ?_
    rw [Around.under_plainId
          F.plain_sum_loop _]
    show wpAny _ _ (seqItems? (.ref S) >>= _) _ _ s
    refine wpAny_bind
          (wpAny_seqItems hS rfl ?_)
    show wpAny _ _ (tryCatch (pyNext (.ref I)) _ >>= _) _ _ s
    refine wpAny_bind (wpAny_tryCatch (W.item i s _ _ lt st fun v h' tk hv st2 keep => ?_))
    obtain rfl := isB i v hv
    obtain ⟨nb1, nb2⟩ := nB i lt
    obtain ⟨cb, hb⟩ := ls i lt
    have hS2 := keep S _ nW hS
    have ht2 := keep t _ tw ht
    have hb2 := keep _ _ nb1 hb
    show wpAny _ _ (Sem.attempt (holding [.ref (B i)] (binaryOp .Add (.ref t) (.ref (B i)))) >>= _) _ _ _
    refine wpAny_bind (wpAny_attempt (wpAny_holding (PySem.P.add_list ht2 hb2 ?_ (by simp only [List.size_toArray]; omega))))
    have eA : cur.toArray ++ (L i).toArray = (cur ++ L i).toArray := by simp
    rw [eA]
    have big : ∀ x o, h'.get? x = some o → (h'.push (lsO (cur ++ L i) 0)).get? x = some o := fun x o e => Heap.get?_push_of_some _ e
    have lS : S < h'.objs.size := Heap.lt_size hS2
    have hS3 := big S _ hS2
    show wpAny _ _ (updateSeq S (fun _ => #[.ref h'.objs.size]) >>= _) _ _ _
    refine wpAny_bind (wpAny_updateSeq hS3 rfl (wpAny_bind (wpAny_letGo ?_)))
    have hS4 := Heap.get?_update_self (Obj.mapSeq fun _ => #[Value.ref h'.objs.size]) hS3 rfl
    show wpAny _ _ (updateSeq S (fun _ => #[.ref h'.objs.size]) >>= _) _ _ _
    refine wpAny_bind (wpAny_updateSeq hS4 rfl ?_)
    have hS5 := Heap.get?_update_self (Obj.mapSeq fun _ => #[Value.ref h'.objs.size]) hS4 rfl
    have far : ∀ x o, x ≠ S → h'.get? x = some o → (((h'.push (lsO (cur ++ L i) 0)).update S (Obj.mapSeq fun _ => #[Value.ref h'.objs.size])).update S (Obj.mapSeq fun _ => #[Value.ref h'.objs.size])).get? x = some o :=
      fun x o h1 h2 => (Heap.get?_update_other _ _ h1.symm).trans ((Heap.get?_update_other _ _ h1.symm).trans (big x o h2))
    have nn : h'.objs.size ≠ S := (Nat.ne_of_lt lS).symm
    have hn : (((h'.push (lsO (cur ++ L i) 0)).update S (Obj.mapSeq fun _ => #[Value.ref h'.objs.size])).update S (Obj.mapSeq fun _ => #[Value.ref h'.objs.size])).get? h'.objs.size = some (lsO (cur ++ L i) 0) :=
      (Heap.get?_update_other _ _ nn.symm).trans ((Heap.get?_update_other _ _ nn.symm).trans (Heap.get?_push_size _ rfl))
    refine wpAny_pure ⟨plainId_quiet F.plain_sum_loop _, ?_⟩
    refine ih (i + 1) { s with heap := ((h'.push (lsO (cur ++ L i) 0)).update S (Obj.mapSeq fun _ => #[Value.ref h'.objs.size])).update S (Obj.mapSeq fun _ => #[Value.ref h'.objs.size]), toks := tk } h'.objs.size (cur ++ L i) _ 0 (by omega) (W.frame _ _ _ st2 fun y hy o ey => far y o (fun z => nS (z ▸ hy)) ey) (fun j hj => ?_) hS5 hn nn ?_ (by rw [List.length_append]; omega) fun h2 t2 u c2 e1 e2 e3 => ?_
    · obtain ⟨cj, hj2⟩ := ls j hj
      obtain ⟨m1, m2⟩ := nB j hj
      exact ⟨cj, far _ _ m2 (keep _ _ m1 hj2)⟩
    · exact fun z => Nat.lt_irrefl _ (Nat.lt_trans lS (wS _ z))
    · refine q h2 t2 u c2 ?_ (fun _ => e2 (.inl lS)) fun x o h1 h3 h4 => e3 x o h1 h3 (far x o h3 (keep x o h1 h4))
      rw [eR, ← List.append_assoc]
      exact e1
end
section
variable {prog : Program} {w : World} {A : Around} {E : Value → Shared → Prop} {s : Shared} {l b : Addr} {items : Array Value} {Q : Value → Shared → Prop} {cur : List Value} {cb : Nat}
theorem sum_lists (hh : A.handled = none) (hl : s.heap.IsList l items) (B : Nat → Addr) (L : Nat → List Value) (hB : ∀ i, i < items.size → items[i]? = some (.ref (B i))) (hL : ∀ i, i < items.size → ∃ c, s.heap.get? (B i) = some (lsO (L i) c))
    (hb : s.heap.get? b = some (lsO cur cb)) (np : 0 < items.size) (fit : cur.length + (restOf L 0 items.size).length ≤ sizeLine)
    (h : ∀ h' tk t' c', h'.get? t' = some (lsO (cur ++ restOf L 0 items.size) c') → s.heap.objs.size ≤ t' → (∀ x o, s.heap.get? x = some o → h'.get? x = some o) → Q (.ref t') { s with heap := h', toks := tk }) :
    wpAny (model prog w) A (call (.builtin "sum") [.ref l, .ref b] []) Q E s := by
  have okA : argsOk "sum" ⟨[.ref l, .ref b], []⟩ := by unfold argsOk; kernel_rfl
  have ll := Heap.lt_size hl.choose_spec.1
  have lb := Heap.lt_size hb
  refine call_goes F.kind_sum F.plain_sum F.entry_sum okA ?_
  unfold Builtin.«sum»
  simp only [List.length_cons,
        List.length_nil]
  rw [if_neg (by decide)]
  refine wpAny_bind (wpAny_of_eq (show Builtin.Builtins.bindParams "sum" ["start"] 0 { pos := [Value.ref b] } = pure [some (.ref b)] from rfl) ?_)
  refine wpAny_bind
        (wpAny_pyIter_list hl ?_)
  refine wpAny_bind
        (wpAny_pure ?_)
  have hb2 : (s.heap.push { cls := .type "list_iterator", data := .fields #[.ref l, .int 0 0] }).get? b = some (lsO cur cb) := Heap.get?_push_of_some _ hb
  have ty : Shared.TypeIs { s with heap := s.heap.push { cls := .type "list_iterator", data := .fields #[.ref l, .int 0 0] } } (.ref b) "list" := ⟨_, hb2, rfl⟩
  simp only [List.forIn_cons,
        List.forIn_nil]
  refine wpAny_bind (wpAny_bind (wpAny_bind (wpAny_isInstance (T := "list") (b := false) ty PySem.F.sub_list_str ?_)))
  simp only [Bool.false_eq_true,
        if_false]
  refine wpAny_pure (wpAny_bind (wpAny_bind (wpAny_isInstance (T := "list") (b := false) ty PySem.F.sub_list_bytes ?_)))
  simp only [Bool.false_eq_true,
        if_false]
  refine wpAny_pure (wpAny_bind (wpAny_bind (wpAny_isInstance (T := "list") (b := false) ty PySem.F.sub_list_bytearray ?_)))
  simp only [Bool.false_eq_true,
        if_false]
  refine wpAny_pure
        (wpAny_pure ?_)
  refine wpAny_bind
        (wpAny_newObj_type ?_)
  have eS : (s.heap.push { cls := .type "list_iterator", data := .fields #[.ref l, .int 0 0] }).objs.size = s.heap.objs.size + 1 := Heap.size_push _ _
  have old : ∀ x o, s.heap.get? x = some o → ((s.heap.push { cls := .type "list_iterator", data := .fields #[.ref l, .int 0 0] }).push { cls := .type "list", data := .seq #[.ref b] }).get? x = some o := fun x o e => Heap.get?_push_of_some _ (Heap.get?_push_of_some _ e)
  have W := Walks.list (prog := prog) (w := w) (A := A.in1) (by exact hh) s.heap.objs.size l (Nat.ne_of_lt ll) items
  rw [eS]
  refine wpAny_pure ⟨_, rfl, plainId_quiet F.plain_sum_loop _, ?_⟩
  refine sum_turns W (S := s.heap.objs.size + 1) (fun z => ?_) (fun x z => ?_) B L (fun i v hv => ?_) (fun i hi => ?_) items.size 0 { s with heap := (s.heap.push { cls := .type "list_iterator", data := .fields #[.ref l, .int 0 0] }).push { cls := .type "list", data := .seq #[.ref b] } } b cur 0 cb (by rw [Nat.zero_add]) ⟨?_, hl.at fun o e => old _ _ e⟩ (fun j hj => ?_) ?_ (old _ _ hb) ?_ ?_ fit fun h' tk t' c' e1 e2 e3 => ⟨_, rfl, ?_⟩
  · rcases List.mem_cons.mp z with e | e
    · exact Nat.succ_ne_self _ e
    · have e2 := List.mem_singleton.mp e
      rw [← e2] at ll
      exact Nat.lt_irrefl _ (Nat.lt_of_succ_lt ll)
  · rw [List.mem_singleton.mp
        z]
    exact Nat.lt_succ_self _
  · have z : i < items.size := (Array.getElem?_eq_some_iff.mp hv).1
    exact Option.some.inj (hv.symm.trans (hB i z))
  · obtain ⟨c, e⟩ := hL i hi
    have z := Heap.lt_size e
    exact ⟨fun y => Nat.ne_of_lt z (List.mem_singleton.mp y), Nat.ne_of_lt (Nat.lt_succ_of_lt z)⟩
  · exact ⟨_, Heap.get?_push_of_some _ (Heap.get?_push_size _ rfl), rfl, rfl⟩
  · obtain ⟨c, e⟩ := hL j hj
    exact ⟨c, old _ _ e⟩
  · rw [← eS]
    exact
          Heap.get?_push_size _ rfl
  · exact Nat.ne_of_lt (Nat.lt_succ_of_lt lb)
  · exact fun y => Nat.ne_of_lt lb (List.mem_singleton.mp y)
  · refine h h' tk t' c' e1 (Nat.le_of_lt (Nat.lt_trans (Nat.lt_succ_self _) (e2 (.inr np)))) fun x o e => ?_
    have z := Heap.lt_size e
    exact e3 x o (fun y => Nat.ne_of_lt z (List.mem_singleton.mp y)) (Nat.ne_of_lt (Nat.lt_succ_of_lt z)) (old x o e)
end
theorem rest_vals {L : Nat → List Value} : ∀ (ps : List (Addr × List V)) (i : Nat), (∀ j p, ps[j]? = some p → Vals p.2 (L (i + j))) → Vals (ps.map (·.2)).flatten (restOf L i ps.length)
  | [], _, _ => .nil
  | p :: r, i, h => by
    show Vals (p.2 ++ (r.map (·.2)).flatten) (L i ++ restOf L (i + 1) r.length)
    refine Vals.append (h 0 p rfl) (rest_vals r (i + 1) fun j q e => ?_)
    have z := h (j + 1) q (by rw [List.getElem?_cons_succ]; exact e)
    rw [Nat.add_assoc, Nat.add_comm 1 j]
    exact z
section
variable {X : Cx}
/-- sum(lists, list): one list or more, each on its own -/
def rSumL : List V → Hp → VK → Prop := fun vs H Q => ∃ (a b : Addr) (ps : List (Addr × List V)) (zs : List V), vs = [V.ref a, V.ref b] ∧ H a = some (.lst (ps.map fun p => .ref p.1)) ∧ H b = some (.lst zs) ∧ 0 < ps.length ∧ (∀ p ∈ ps, H p.1 = some (.lst p.2)) ∧
  zs.length + ((ps.map (·.2)).flatten).length ≤ sizeLine ∧ ∀ p, H p = none → Q (.ref p) (upd H p (.lst (zs ++ (ps.map (·.2)).flatten)))
theorem cr_sumL (hc : X.calm = true) : CallR X (.builtin "sum") rSumL := by
  intro pins s σ
        H vs us Q I r h
  obtain ⟨a, b, ps, zs, rfl, ha, hb, np, hp, fit, q⟩ := h
  obtain ⟨u, us2, rfl, ru, r2⟩ : ∃ u us2, us = u :: us2 ∧ RelV (V.ref a) u ∧ Vals [V.ref b] us2 := by
    cases r with
    | cons x y => exact
          ⟨_, _, rfl, x, y⟩
  rw [Vals.ref1 r2]
  obtain rfl : u =
        Value.ref a := ru
  obtain ⟨_, ia, na, va, la, ea⟩ := I.lstM ha
  obtain ⟨_, ib, nb, vb, lb, eb⟩ := I.lstM hb
  have lps : ps.length = ia.length := by rw [← la, List.length_map]
  have ex : ∀ i, i < ps.length → ∃ (xs : List Value) (c : Nat) (p : Addr × List V), ps[i]? = some p ∧ Vals p.2 xs ∧ s.heap.get? p.1 = some (lsO xs c) := fun i hi => by
    obtain ⟨_, xs, c, v, _, e⟩ := I.lstM (hp ps[i] (List.getElem_mem hi))
    exact ⟨xs, c, ps[i], List.getElem?_eq_getElem hi, v, e⟩
  have sz : ia.toArray.size = ps.length := by rw [List.size_toArray, lps]
  have rv : Vals (ps.map (·.2)).flatten (restOf (fun i => if h : i < ps.length then (ex i h).choose else []) 0 ps.length) := by
    refine rest_vals ps 0 fun j p e => ?_
    have hj : j < ps.length := (List.getElem?_eq_some_iff.mp e).1
    rw [Nat.zero_add, dif_pos hj]
    obtain ⟨c, p2, e2, v2, _⟩ := (ex j hj).choose_spec
    obtain rfl : p2 = p := Option.some.inj (e2.symm.trans e)
    exact v2
  refine sum_lists (items := ia.toArray) (cur := ib) (cb := nb) (I.ok.hd hc) ⟨_, ea, rfl, _, rfl⟩ (fun i => if h : i < ps.length then ps[i].1 else 0) (fun i => if h : i < ps.length then (ex i h).choose else []) (fun i hi => ?_) (fun i hi => ?_) eb (by rw [sz]; exact np) ?_ fun h' tk t' c' e1 e2 e3 => ?_
  · rw [sz] at hi
    rw [dif_pos hi]
    have ev : (ps.map fun p => V.ref p.1)[i]? = some (V.ref ps[i].1) := by
      rw [List.getElem?_map, List.getElem?_eq_getElem hi]
      rfl
    obtain ⟨u, h1, h2⟩ := Vals.get va ev
    obtain rfl : u = Value.ref ps[i].1 := h2
    simpa using h1
  · rw [sz] at hi
    rw [dif_pos hi, dif_pos hi]
    obtain ⟨c, p2, e2, _, e3⟩ := (ex i hi).choose_spec
    obtain rfl : p2 = ps[i] := Option.some.inj (e2.symm.trans (List.getElem?_eq_getElem hi))
    exact ⟨c, e3⟩
  · rw [sz, ← rv.length, ← vb.length]
    exact fit
  · rw [sz] at e1
    have vv := vb.append rv
    exact ⟨.ref t', _, I.laid (t' := tk) (o := .lst (zs ++ (ps.map (·.2)).flatten)) e3 e2 ⟨by rw [List.length_append]; exact fit, _, c', vv, e1⟩, rfl, q t' (I.hok.fresh e2)⟩
end
end XT
end
section
set_option Elab.async false
set_option linter.all false
set_option maxRecDepth 100000
set_option maxHeartbeats 4100000
namespace XT
open PySem PySem.Spec PyProof.Rows L2 XS
/-! ### how many unlike signs a text has: len(set(text)) -/
/-- the texts of one sign that stand among the first i signs -/
def among (cs : List Nat) (i : Nat) : Str → Bool := fun z => (cs.take i).any fun c => sg c == z
theorem among_iff {cs : List Nat} {i c : Nat} : among cs i (sg c) = true ↔ c ∈ cs.take i := by
  unfold among
  rw [List.any_eq_true]
  refine ⟨fun ⟨d, h1, h2⟩ => ?_, fun h => ⟨c, h, by simp⟩⟩
  rw [beq_iff_eq] at h2
  exact sg_inj h2 ▸ h1
theorem among_succ {cs : List Nat} {i c : Nat} (h : cs[i]? = some c) (z : Str) : (among cs i z || decide (z = sg c)) = among cs (i + 1) z := by
  unfold among
  rw [List.take_succ, h]
  simp only [Option.toList, List.any_append, List.any_cons, List.any_nil, Bool.or_false]
  congr 1
  by_cases e : z = sg c
  · subst e
    simp
  · rw [decide_eq_false e]
    symm
    rw [beq_eq_false_iff_ne]
    exact fun y => e y.symm
section
variable {prog : Program} {w : World} {A : Around} {R : Result → Shared → Prop} {I S : Addr} {fp wr : List Addr} {St : Nat → Heap → Prop} {x : Str}
theorem set_turns (W : Walks prog w A.in1 I fp wr x.cps.size (SignAt x) St) (nS : S ∉ fp) (small : x.length < 4000) :
    ∀ (k i m : Nat) (s : Shared), x.cps.size = i + k → St i s.heap → s.heap.SetOf (PySem.strKind prog w) S (among (cod x) i) m → m ≤ i → (m = i ↔ ((cod x).take i).Nodup) →
      (∀ h' tk m', h'.SetOf (PySem.strKind prog w) S (among (cod x) x.cps.size) m' → m' ≤ x.cps.size → (m' = x.cps.size ↔ (cod x).Nodup) → (∀ y o, y ∉ wr → y ≠ S → s.heap.get? y = some o → h'.get? y = some o) → R (.ok (.ret .none)) { s with heap := h', toks := tk }) →
      codeAny (model prog w) A (.builtin
            "set.update.loop" ⟨[.ref S, .ref I], []⟩) R s := by
  have nW : S ∉ wr := fun h => nS (W.sub _ h)
  intro k
  induction k with
  | zero =>
    intro i m s e st hS le iff q
    obtain rfl : x.cps.size = i := e
    refine codeAny_builtin
          PyProof.Rows.F.entry_set_update_loop ?_
    rw [Around.under_plainId
          PyProof.Rows.F.plain_set_update_loop _]
    show wpAny _ _ (pyNext (.ref I) >>= _) _ _ s
    refine wpAny_bind (W.done s _ _ st fun h' tk keep => ?_)
    show wpAny _ _ (ret
          Value.none) _ _ _
    refine wpAny_pure (q h' tk m ?_ le ?_ fun y o h1 _ h3 => keep y o h1 h3)
    · obtain ⟨o, es, ep, t, ho, rest⟩ := hS
      exact ⟨o, es, ep, t, keep S _ nW ho, rest⟩
    · rw [iff, List.take_of_length_le (by rw [len_cod]; exact Nat.le_refl _)]
  | succ k ih =>
    intro i m s e st hS le iff q
    have lt : i < x.cps.size := by omega
    have lx : x.length = x.cps.size := rfl
    refine codeAny_builtin
          PyProof.Rows.F.entry_set_update_loop ?_
    rw [Around.under_plainId
          PyProof.Rows.F.plain_set_update_loop _]
    show wpAny _ _ (pyNext (.ref I) >>= _) _ _ s
    refine wpAny_bind (W.item i s _ _ lt st fun v h' tk hv st2 keep => ?_)
    obtain ⟨c, u, hc, rfl⟩ := hv
    have hc2 : (cod x)[i]? = some c := by
      show x.cps.toList[i]? = some c
      rw [Array.getElem?_toList]
      exact hc
    have hS2 : h'.SetOf (PySem.strKind prog w) S (among (cod x) i) m := by
      obtain ⟨o, es, ep,
            t, ho, rest⟩ := hS
      exact ⟨o, es, ep, t, keep S _ nW ho, rest⟩
    show wpAny _ _ (holding [Value.str (sg c) u] (setAdd S (.str (sg c) u)) >>= _) _ _ _
    refine wpAny_bind
          (wpAny_holding ?_)
    unfold setAdd
    refine wpAny_holding ?_
    refine wpAny_bind ((PySem.strKind prog w).pyHash (k := sg c) (strKind_is _ _ _ _) ?_)
    refine wpAny_setAddHashed_of (knd := PySem.strKind prog w) (s := { s with heap := h', toks := tk + 1 }) (strKind_is _ _ _ _) rfl hS2 (by unfold scanBound; omega) fun h2 sb hS3 => ?_
    have step : h2.SetOf (PySem.strKind prog w) S (among (cod x) (i + 1)) (if among (cod x) i (sg c) then m else m + 1) := SetOf_congr hS3 (fun z => among_succ hc2 z) rfl
    have tk1 : (cod x).take (i + 1) = (cod x).take i ++ [c] := by rw [List.take_succ, hc2]; rfl
    refine wpAny_pure ⟨plainId_quiet PyProof.Rows.F.plain_set_update_loop _, ih (i + 1) _ _ (by omega) (W.frame _ _ _ st2 fun y hy o ey => ?_) step ?_ ?_ fun h3 t3 m3 e1 e2 e3 e4 => ?_⟩
    · exact (sb.2 y fun h : y = S => nS (h ▸ hy)).trans ey
    · split <;> omega
    · rw [tk1, List.nodup_append]
      cases ha : among (cod x) i (sg c) with
      | true =>
        have mem := among_iff.mp ha
        rw [if_pos rfl]
        refine ⟨fun z => by omega, fun z => absurd rfl (z.2.2 c mem c (by simp))⟩
      | false =>
        have mem : ¬ c ∈ (cod x).take i := fun z => by rw [among_iff.mpr z] at ha; cases ha
        rw [if_neg (by decide)]
        refine ⟨fun z => ⟨iff.mp (by omega), by simp, fun y hy z2 hz => ?_⟩, fun z => by rw [iff.mpr z.1]⟩
        rw [List.mem_singleton] at hz
        subst hz
        exact fun z3 => mem (z3 ▸ hy)
    · exact q h3 t3 m3 e1 e2 e3 fun y o h1 h3 h4 => e4 y o h1 h3 ((sb.2 y h3).trans (keep y o h1 h4))
end
section
variable {prog : Program} {w : World} {A : Around} {E : Value → Shared → Prop} {s : Shared} {x : Str} {u : Tok} {Q : Value → Shared → Prop}
theorem set_text (hh : A.handled = none) (small : x.length < 4000)
    (h : ∀ (h' : Heap) (tk m : Nat), h'.SetOf (PySem.strKind prog w) s.heap.objs.size (among (cod x) x.cps.size) m → m ≤ x.cps.size → (m = x.cps.size ↔ (cod x).Nodup) → (∀ b o, s.heap.get? b = some o → h'.get? b = some o) → Q (.ref s.heap.objs.size) { s with heap := h', toks := tk }) :
    wpAny (model prog w) A (call (.type "set") [.str x u]) Q E s := by
  obtain ⟨c, tl, order⟩ := PySem.F.called_set.mro
  have made := PySem.F.called_set.made
  have below := PySem.F.called_set.sub
  refine wpAny_call
        (codeAny_of_tree ?_)
  show wpAny _ _ (callAny
        (.type "set") _) _ _ _
  refine wpAny_pure ⟨Code.quiet_builtin _ (by
        decide +kernel), codeAny_builtin PySem.F.entry_type_call ?_⟩
  rw [Around.under_plain (weight_type_call_type "set" [.str x u] []) rfl]
  have no1 := PySem.F.called_set.notType
  have can := PySem.F.called_set.canCreate
  have ct := PySem.F.typeCall_set_1 (.str x u)
  repeat (any_goals (first
        | assumption | wp_step))
  refine codeAny_mono (code_set_new_1 (.str x u) (E := E) (Q₁ := fun obj s₁ => ∃ led : Bool, obj = .ref s.heap.objs.size ∧ s₁ = { s with heap := s.heap.push { cls := .type "set", dict := none, data := .set #[] 0 (.fresh 0 0 led) } }) fun led => ⟨led, rfl, rfl⟩) fun r s₁ hr => ?_
  cases r with
  | error e => exact hr
  | ok fl =>
    cases fl with
    | ret obj =>
      obtain ⟨led, rfl, rfl⟩ := hr
      have hS : (s.heap.push { cls := .type "set", dict := none, data := .set #[] 0 (.fresh 0 0 led) }).get? s.heap.objs.size
            = some { cls := .type "set", dict := none, data := .set #[] 0 (.fresh 0 0 led) } := Heap.get?_push_size _ rfl
      have hT : Shared.TypeIs { s with heap := (s.heap.push { cls := .type "set", dict := none, data := .set #[] 0 (.fresh 0 0 led) }) } (.ref s.heap.objs.size) "set" := ⟨_, hS, rfl⟩
      have lookI := PySem.F.called_set.init.lookup
      have bindI := PySem.F.called_set.init.bind (.ref s.heap.objs.size)
      repeat (any_goals (first
            | assumption | wp_step))
      refine codeAny_mono (codeAny_call_builtin (R := wants (fun r s₂ => r = .none ∧ ∃ h' tk m, s₂ = { s with heap := h', toks := tk } ∧ h'.SetOf (PySem.strKind prog w) s.heap.objs.size (among (cod x) x.cps.size) m ∧ m ≤ x.cps.size ∧ (m = x.cps.size ↔ (cod x).Nodup) ∧
          (∀ b o, s.heap.get? b = some o → h'.get? b = some o)) E) PySem.F.called_set.init.plain PySem.F.entry_set_init (check_set_init_1 hT ?_)) fun r₂ s₂ hr₂ => ?_
      · have n1 := PySem.F.sub_str_set
        have n2 := PySem.F.sub_str_frozenset
        have n3 : (Value.type "str" == Value.type "dict") = false := by decide
        unfold Builtin.«set.__init__»
              noKeywords Builtin.Frozenset.updateFrom
        generalize hPI : pyIter = PI
        wp_walk
        subst hPI
        refine wpAny_pyIter_str fun o St W st => ?_
        refine wpAny_bind
              (wpAny_runValue ?_)
        have eS : (s.heap.push { cls := .type "set", dict := none, data := .set #[] 0 (.fresh 0 0 led) }).objs.size = s.heap.objs.size + 1 := Heap.size_push _ _
        have get : ((s.heap.push { cls := .type "set", dict := none, data := .set #[] 0 (.fresh 0 0 led) }).push o).get? s.heap.objs.size = some { cls := .type "set", dict := none, data := .set #[] 0 (.fresh 0 0 led) } := Heap.get?_push_of_some _ hS
        have start : ((s.heap.push { cls := .type "set", dict := none, data := .set #[] 0 (.fresh 0 0 led) }).push o).SetOf (PySem.strKind prog w) s.heap.objs.size (among (cod x) 0) 0 := SetOf_congr ((PyProof.Rows.setObjOf_fresh (knd := PySem.strKind prog w) led).setOf get (by unfold scanBound; omega)) (fun _ => rfl) rfl
        refine set_turns (W _ (by simp [hh])) (fun z => ?_) small x.cps.size 0 0 _ (by rw [Nat.zero_add]) st start (Nat.le_refl _) ⟨fun _ => by simp, fun _ => rfl⟩ fun h' tk m e1 e2 e3 e4 => ?_
        · have e := List.mem_singleton.mp z
          rw [eS] at e
          exact Nat.succ_ne_self _ e.symm
        · show wpAny _ _ _ _ _ _
          refine wpAny_pure ?_
          show wpAny _ _ (ret
                Value.none) _ _ _
          refine wpAny_pure ⟨rfl, h', tk, m, rfl, e1, e2, e3, fun b o2 e => ?_⟩
          have lt := Heap.lt_size e
          refine e4 b o2 (fun z => ?_) (Nat.ne_of_lt lt) (Heap.get?_push_of_some _ (Heap.get?_push_of_some _ e))
          have e5 := List.mem_singleton.mp z
          rw [eS] at e5
          rw [e5] at lt
          exact Nat.lt_irrefl _ (Nat.lt_of_succ_lt lt)
      · cases r₂ with
        | error e => exact hr₂
        | ok fl₂ =>
          cases fl₂ with
          | ret r =>
            obtain ⟨rfl, h', tk, m, rfl, e1, e2, e3, e4⟩ := hr₂
            repeat (any_goals (first
                  | assumption | wp_step))
            exact h _ _ _ e1 e2 e3 e4
          | _ => exact hr₂.elim
    | _ => exact hr.elim
end
section
variable {X : Cx}
/-- len(set(text)): as many as the text has signs exactly if no sign stands twice -/
def tLenSetX (ta : TE) : TE := fun σ H Q => ta σ H fun v H1 => ∃ z : Str, v = .str z ∧ z.length < 4000 ∧ ∀ m : Nat, (m = z.length ↔ (cod z).Nodup) → Q (.int (m : Int)) H1
theorem pe_lenSetX {a : Expr} {ta : TE} {p p2 q pos : Pos} (hc : X.calm = true) (hg : Gl X "len") (hm : X.mg "len" = none) (hg2 : Gl X "set") (hm2 : X.mg "set" = none) (ha : PE X a ta)
    (na : starEach [a] X.env = (false, eval a X.env) :: starEach [] X.env := by rfl) : PE X (.Call (.Name "len" p) [.Call (.Name "set" p2) [a] [] q] [] pos) (tLenSetX ta) := by
  refine ⟨fun pins s σ H Q I h => ?_⟩
  refine Call_ (ld_blt
        I hg hm boot_len ?_)
  refine PyProof.Rows.callWith_builtin1
        (PyProof.Rows.args_cons ?_ rfl) rfl rfl
  refine Call_ (ld_blt
        I hg2 hm2 boot_set ?_)
  refine PyProof.Rows.callWith_type1 (PyProof.Rows.args_cons (thn (ha.run pins s σ H _ I h) fun v s1 ⟨x, H1, I1, r1, z, e, small, q1⟩ => PyProof.Rows.args_nil ?_) na) na rfl
  subst e
  obtain ⟨t, rfl⟩ := r1
  refine set_text (I1.ok.hd hc) small fun h' tk m hS le iff keep => ?_
  refine
        PyProof.Rows.args_nil ?_
  obtain ⟨o, es, ep, t2, ho, hex, hd, _, _, _, hf, hn⟩ := hS
  have I2 : Inv X pins σ H1 { s1 with heap := h', toks := tk } := I1.kept keep
  have lz : z.length = z.cps.size := rfl
  refine call_len_set ho hex hd hf (by rw [hn]; omega) ⟨.int m, H1, I2.tok _, ⟨_, by rw [hn]⟩, q1 m iff⟩
end
end XT
end
section
set_option Elab.async false
set_option linter.all false
set_option maxRecDepth 100000
set_option maxHeartbeats 4100000
namespace XT
open PySem PySem.Spec PyProof.Rows L2
section
variable {X : Cx}
/-- repr of a truth -/
def rReprB : List V → Hp → VK → Prop := fun xs H Q => ∃ b : Bool, xs = [.bl b] ∧ Q (.str (if b then "True" else "False")) H
theorem call_reprB : CallR X (.builtin "repr") rReprB := by
  intro pins s σ
        H xs us Q I r h
  obtain ⟨b, rfl, q⟩ := h
  obtain ⟨u, rfl, e⟩ := vals1 r
  cases e
  exact PySem.P.repr_of_bool ⟨.str _, H, I.tok _, ⟨_, rfl⟩, q⟩
end
section
variable {X : Cx} {CX : CXT} {k : Nat} {f C : Addr} {fd : FuncData} {ps ks : List Str} {sp : Sp} {E : XK} {m : Str} {apos pos : Pos} {o : Expr} {kws : List Keyword} {ta : TE} {tk : TA} {g : List Value → List Value → List Value} {gV : List V → List V → List V} {pl : Sem Bool}
/-- a method by keywords alone: what it asks -/
def tMethKw (C : Addr) (m : Str) (sp : Sp) (gV : List V → List V → List V) (E : XK) (ta : TE) (tk : TA) : TE := fun σ H Q => ta σ H fun x H1 => ∃ a dx fs, x = .ref a ∧ H1 a = some (.ins C dx fs) ∧ fs.lookup m = none ∧ tk σ H1 fun zs H2 => sp (gV [x] zs) H2 Q E
theorem pe_methKw (he : PE X o ta) (c : Cls X.K C) (hm : Meth X.K C m f) (F : FnOk X.prog X.w X.K X.mg X.base CX k f fd ps sp) (hr : Room k X.A) (hb : KBinds X.K fd ps ks g gV) (hx : Passes CX X E) (hkw : PK X kws tk)
    (hall : (backToKw pos (keywordEach kws X.env)).all (·.1.isSome) = true := by rfl) (hks : (backToKw pos (keywordEach kws X.env)).filterMap (·.1) = ks := by rfl)
    (hpl : ((backTo pos (starEach [] X.env)).any (·.1) || (backToKw pos (keywordEach kws X.env)).any (·.1.isNone)) = false := by rfl)
    (ht : eval (.Call (.Attribute o m apos) [] kws pos) X.env = (do
      let ov ← eval o X.env
      standAt apos.atName
      let (f, first) ← holding [ov] (getMethod ov m pl)
      callWith pos f first (backTo pos (starEach [] X.env)) (backToKw pos (keywordEach kws X.env))) := by rfl) :
    PE X (.Call (.Attribute o m apos) [] kws pos) (tMethKw C m sp gV E ta tk) := by
  refine ⟨fun pins s σ H Q I h => ?_⟩
  refine PySem.W.methodCall_KW (pl := pl) (thn (he.run pins s σ H _ I h) fun u s1 ⟨x, H1, I1, rx, a, dx, fs, ex, ea, l, q⟩ => ?_) ht
  subst ex
  obtain rfl : u = Value.ref a := rx
  refine getmeth_ok I1 ea c hm l ?_
  refine PySem.W.callWith_KW0 (first := [.ref a]) (h₀ := X.base) I.ok.mod.kin hm.kp hall (thn (hkw.run pos pins s1 σ H1 _ I1 q) fun ws s2 ⟨zs, H2, I2, rz, q2⟩ => ⟨I2.kIn, ?_⟩) hpl
  rw [hks]
  exact run_fnk (us := [.ref a]) (vs := [.ref a]) F hr hb hx I2 (.cons rfl .nil) rz q2
end
end XT
end
section
set_option Elab.async false
set_option linter.all false
set_option maxRecDepth 100000
set_option maxHeartbeats 4100000
namespace XT
open PySem PySem.Spec PyProof.Rows L2 XS PySem.Froz
/-! ### sorted(set(text)): the signs, each once, in a new list -/
/-- the text of an entry of a set of texts -/
def kS (e : Int × Value) : Str := match e.2 with
  | .str k _ => k
  | _ => ""
/-- a payload that holds the texts l, whose table can be walked -/
structure TxR (P : Program) (w : World) (D : SD) (l : List Str) : Prop where
  ok : TxOk P w D l
  keys : (D.1.toList.map kS).Perm l
  ris : Ris D.2.2.place.toList
  led : w.params.followText "set-order" = true ∨ D.2.2.led = true
section
variable {P : Program} {w : World} {A : Around} {E : Value → Shared → Prop} {s : Shared}
theorem tail_perm {ep : Nat} {es : Array (Int × Value)} {t : SetTable} {b : Bool} : (tailTx ep es t b).1.toList.Perm es.toList ∧ (Ris t.place.toList → Ris (tailTx ep es t b).2.2.place.toList) ∧ (tailTx ep es t b).2.2.led = t.led := by
  unfold tailTx
  by_cases c : (!b && t.tooFull) = true
  · rw [if_pos c]
    exact ⟨relayAll_perm .., fun _ => relayAll_ris .., relayAll_led ..⟩
  · rw [if_neg c]
    exact ⟨.refl _, id, rfl⟩
theorem plain_off (t : SetTable) : (if t.plain = true then { t with plain := false } else t).place = t.place ∧ (if t.plain = true then { t with plain := false } else t).led = t.led := by
  split <;> exact ⟨rfl, rfl⟩
theorem add_perm (h : Int) (v : Value) (D : SD) : (addTx h v D).1.toList.Perm ((h, v) :: D.1.toList) := by
  unfold addTx
  refine (tail_perm).1.trans ((layNew_perm ..).trans ?_)
  rw [Array.toList_push]
  exact List.perm_append_singleton ..
theorem TxR.add {D : SD} {l : List Str} {k : Str} (u : Tok) (F : TxR P w D l) : TxR P w (addTx (hashStr w k) (.str k u) D) (k :: l) := by
  refine ⟨add_ok u F.ok, ((add_perm ..).map kS).trans (F.keys.cons k), ?_, ?_⟩
  · unfold addTx
    refine (tail_perm).2.1 ?_
    rw [(plain_off _).1]
    exact layNew_ris _ _ _ _ F.ris
  · refine F.led.imp id fun z => ?_
    unfold addTx
    rw [(tail_perm).2.2, (plain_off _).2, layNew_led]
    exact z
/-- a text that is in the set already -/
theorem had_x {a : Addr} {T : String} {D : SD} {l : List Str} {k : Str} {u : Tok} {Q : Bool → Shared → Prop} (ho : s.heap.get? a = some (sObj T D)) (F : TxOk P w D l) (hk : k ∈ l) (hb : l.length < scanBound)
    (h : Q false s) : wpAny (model P w) A (setAddHashed a (.str k u) (hashStr w k)) Q E s := by
  obtain ⟨es, ep, t⟩ := D
  have same : es.size = l.length := F.sz
  obtain ⟨e, he, z⟩ := (F.mem k).mp hk
  have few : es.size < scanBound := by omega
  have key : (strKind P w).is k (.str k u) = true := is_str k u
  unfold setAddHashed setAddHashedIn
  refine wpAny_holding (wpAny_bind
        (wpAny_setState_of ho rfl F.fit ?_))
  dsimp only
  rw [byScan_of (knd := strKind P w) rfl few F.el]
  simp only [↓reduceIte]
  unfold setAddByScan
  refine wpAny_bind
        (wpAny_bind (wpAny_rule ?_))
  refine wpAny_bind (wpAny_setScan_of (knd := strKind P w) (k := k) key ho rfl F.fit F.el ?_)
  cases hr : List.findIdx? (fun e => (strKind P w).is k e.2) es.toList with
  | none =>
    have no := List.findIdx?_eq_none_iff.mp hr e he
    rw [z] at no
    cases no
  | some j =>
    dsimp only
    exact wpAny_pure
          (wpAny_pure h)
end
section
variable {prog : Program} {w : World} {A : Around} {R : Result → Shared → Prop} {I S : Addr} {fp wr : List Addr} {St : Nat → Heap → Prop} {x : Str}
theorem turnsR (W : Walks prog w A.in1 I fp wr x.cps.size (SignAt x) St) (nS : S ∉ fp) (small : x.length < 4000) :
    ∀ (k i : Nat) (D : SD) (l : List Str) (s : Shared), x.cps.size = i + k → St i s.heap → s.heap.get? S = some (sObj "set" D) → TxR prog w D l → l.Nodup → (∀ z, z ∈ l ↔ ∃ c ∈ (cod x).take i, z = sg c) → l.length ≤ i →
      (∀ h' tk D' l', h'.get? S = some (sObj "set" D') → TxR prog w D' l' → l'.Nodup → (∀ z, z ∈ l' ↔ ∃ c ∈ cod x, z = sg c) → l'.length ≤ x.cps.size → (∀ y o, y ∉ wr → y ≠ S → s.heap.get? y = some o → h'.get? y = some o) → R (.ok (.ret .none)) { s with heap := h', toks := tk }) →
      codeAny (model prog w) A (.builtin
            "set.update.loop" ⟨[.ref S, .ref I], []⟩) R s := by
  have nW : S ∉ wr := fun h => nS (W.sub _ h)
  have lx : x.length = x.cps.size := rfl
  have lim : (4000 : Nat) < scanBound := by unfold scanBound; omega
  intro k
  induction k with
  | zero =>
    intro i D l s e st hS F nd mem le q
    obtain rfl : x.cps.size = i := e
    refine codeAny_builtin
          PyProof.Rows.F.entry_set_update_loop ?_
    rw [Around.under_plainId
          PyProof.Rows.F.plain_set_update_loop _]
    show wpAny _ _ (pyNext (.ref I) >>= _) _ _ s
    refine wpAny_bind (W.done s _ _ st fun h' tk keep => ?_)
    show wpAny _ _ (ret
          Value.none) _ _ _
    rw [List.take_of_length_le (by rw [len_cod]; exact Nat.le_refl _)] at mem
    exact wpAny_pure (q h' tk D l (keep S _ nW hS) F nd mem le fun y o h1 _ h3 => keep y o h1 h3)
  | succ k ih =>
    intro i D l s e st hS F nd mem le q
    have lt : i < x.cps.size := by omega
    refine codeAny_builtin
          PyProof.Rows.F.entry_set_update_loop ?_
    rw [Around.under_plainId
          PyProof.Rows.F.plain_set_update_loop _]
    show wpAny _ _ (pyNext (.ref I) >>= _) _ _ s
    refine wpAny_bind (W.item i s _ _ lt st fun v h' tk hv st2 keep => ?_)
    obtain ⟨c, u, hc, rfl⟩ := hv
    have hc2 : (cod x)[i]? = some c := by
      show x.cps.toList[i]? = some c
      rw [Array.getElem?_toList]
      exact hc
    have tk1 : (cod x).take (i + 1) = (cod x).take i ++ [c] := by rw [List.take_succ, hc2]; rfl
    have hS2 := keep S _ nW hS
    show wpAny _ _ (holding [Value.str (sg c) u] (setAdd S (.str (sg c) u)) >>= _) _ _ _
    refine wpAny_bind
          (wpAny_holding ?_)
    unfold setAdd
    refine wpAny_holding ?_
    refine wpAny_bind ((PySem.strKind prog w).pyHash (k := sg c) (strKind_is _ _ _ _) ?_)
    by_cases hm : sg c ∈ l
    · refine had_x (l := l) (D := D) (k := sg c) (s := { s with heap := h', toks := tk + 1 }) hS2 F.ok hm (by omega) ?_
      refine wpAny_pure ⟨plainId_quiet PyProof.Rows.F.plain_set_update_loop _, ih (i + 1) D l _ (by omega) st2 hS2 F nd (fun z => ?_) (by omega) fun h3 t3 D3 l3 e1 e2 e3 e4 e5 e6 => ?_⟩
      · rw [mem, tk1]
        refine ⟨fun ⟨d, hd, e⟩ => ⟨d, List.mem_append_left _ hd, e⟩, fun ⟨d, hd, e⟩ => ?_⟩
        rcases List.mem_append.mp hd with hd | hd
        · exact ⟨d, hd, e⟩
        · rw [List.mem_singleton] at hd
          subst hd
          subst e
          exact (mem _).mp hm
      · exact q h3 t3 D3 l3 e1 e2 e3 e4 e5 fun y o h1 h2 h4 => e6 y o h1 h2 (keep y o h1 h4)
    · refine add_x (l := l) (D := D) (k := sg c) (s := { s with heap := h', toks := tk + 1 }) hS2 F.ok hm (by omega) ?_
      have got : (h'.update S (fun _ => sObj "set" (addTx (hashStr w (sg c)) (.str (sg c) u) D))).get? S = some (sObj "set" (addTx (hashStr w (sg c)) (.str (sg c) u) D)) := get_upd _ hS2 rfl
      refine wpAny_pure ⟨plainId_quiet PyProof.Rows.F.plain_set_update_loop _, ih (i + 1) _ (sg c :: l) _ (by omega) (W.frame _ _ _ st2 fun y hy o ey => ?_) got (F.add u) (List.nodup_cons.mpr ⟨hm, nd⟩) (fun z => ?_) (by rw [List.length_cons]; omega) fun h3 t3 D3 l3 e1 e2 e3 e4 e5 e6 => ?_⟩
      · exact PySem.Heap.get?_update_of_ne _ (fun h : S = y => nS (h ▸ hy)) ey
      · rw [List.mem_cons, mem, tk1]
        refine ⟨fun h => h.elim (fun e => ⟨c, by simp, e⟩) fun ⟨d, hd, e⟩ => ⟨d, List.mem_append_left _ hd, e⟩, fun ⟨d, hd, e⟩ => ?_⟩
        rcases List.mem_append.mp hd with hd | hd
        · exact .inr ⟨d, hd, e⟩
        · rw [List.mem_singleton] at hd
          subst hd
          exact .inl e
      · exact q h3 t3 D3 l3 e1 e2 e3 e4 e5 fun y o h1 h2 h4 => e6 y o h1 h2 (PySem.Heap.get?_update_of_ne _ (Ne.symm h2) (keep y o h1 h4))
end
end XT
end
section
set_option Elab.async false
set_option linter.all false
set_option maxRecDepth 100000
set_option maxHeartbeats 4100000
namespace XT
open PySem PySem.Spec PyProof.Rows L2 XS PySem.Froz
section
variable {prog : Program} {w : World} {A : Around} {E : Value → Shared → Prop} {s : Shared} {x : Str} {u : Tok} {Q : Value → Shared → Prop}
/-- the fresh set, its payload -/
def freshD (w : World) : SD := (#[], 0, .fresh 0 0 (!w.params.followText "set-order"))
theorem freshR : TxR prog w (freshD w) [] := by
  refine ⟨.nil rfl, .refl _, List.Pairwise.nil, ?_⟩
  show _ ∨ (!w.params.followText "set-order") = true
  cases w.params.followText "set-order"
  · exact .inr rfl
  · exact .inl rfl
/-- set(text) -/
theorem set_textR (hh : A.handled = none) (small : x.length < 4000)
    (h : ∀ (h' : Heap) (tk : Tok) (D : SD) (l : List Str), h'.get? s.heap.objs.size = some (sObj "set" D) → TxR prog w D l → l.Nodup → (∀ z, z ∈ l ↔ ∃ c ∈ cod x, z = sg c) → l.length ≤ x.cps.size → (∀ b o, s.heap.get? b = some o → h'.get? b = some o) → Q (.ref s.heap.objs.size) { s with heap := h', toks := tk }) :
    wpAny (model prog w) A (call (.type "set") [.str x u]) Q E s := by
  obtain ⟨c, tl, order⟩ := PySem.F.called_set.mro
  have made := PySem.F.called_set.made
  have below := PySem.F.called_set.sub
  refine wpAny_call
        (codeAny_of_tree ?_)
  show wpAny _ _ (callAny
        (.type "set") _) _ _ _
  refine wpAny_pure ⟨Code.quiet_builtin _ (by
        decide +kernel), codeAny_builtin PySem.F.entry_type_call ?_⟩
  rw [Around.under_plain (weight_type_call_type "set" [.str x u] []) rfl]
  have no1 := PySem.F.called_set.notType
  have can := PySem.F.called_set.canCreate
  have ct := PySem.F.typeCall_set_1 (.str x u)
  repeat (any_goals (first
        | assumption | wp_step))
  refine codeAny_mono (code_set_led1 (.str x u) (E := E) (Q₁ := fun obj s₁ => obj = .ref s.heap.objs.size ∧ s₁ = { s with heap := s.heap.push (sObj "set" (freshD w)) }) ⟨rfl, rfl⟩) fun r s₁ hr => ?_
  cases r with
  | error e => exact hr
  | ok fl =>
    cases fl with
    | ret obj =>
      obtain ⟨rfl, rfl⟩ := hr
      have hS : (s.heap.push (sObj "set" (freshD w))).get? s.heap.objs.size = some (sObj "set" (freshD w)) := Heap.get?_push_size _ rfl
      have hT : Shared.TypeIs { s with heap := (s.heap.push (sObj "set" (freshD w))) } (.ref s.heap.objs.size) "set" := ⟨_, hS, rfl⟩
      have lookI := PySem.F.called_set.init.lookup
      have bindI := PySem.F.called_set.init.bind (.ref s.heap.objs.size)
      repeat (any_goals (first
            | assumption | wp_step))
      refine codeAny_mono (codeAny_call_builtin (R := wants (fun r s₂ => r = .none ∧ ∃ h' tk D l, s₂ = { s with heap := h', toks := tk } ∧ h'.get? s.heap.objs.size = some (sObj "set" D) ∧ TxR prog w D l ∧ l.Nodup ∧ (∀ z, z ∈ l ↔ ∃ c ∈ cod x, z = sg c) ∧ l.length ≤ x.cps.size ∧
          (∀ b o, s.heap.get? b = some o → h'.get? b = some o)) E) PySem.F.called_set.init.plain PySem.F.entry_set_init (check_set_init_1 hT ?_)) fun r₂ s₂ hr₂ => ?_
      · have n1 := PySem.F.sub_str_set
        have n2 := PySem.F.sub_str_frozenset
        have n3 : (Value.type "str" == Value.type "dict") = false := by decide
        unfold Builtin.«set.__init__»
              noKeywords Builtin.Frozenset.updateFrom
        generalize hPI : pyIter = PI
        wp_walk
        subst hPI
        refine wpAny_pyIter_str fun o St W st => ?_
        refine wpAny_bind
              (wpAny_runValue ?_)
        have eS : (s.heap.push (sObj "set" (freshD w))).objs.size = s.heap.objs.size + 1 := Heap.size_push _ _
        have get : ((s.heap.push (sObj "set" (freshD w))).push o).get? s.heap.objs.size = some (sObj "set" (freshD w)) := Heap.get?_push_of_some _ hS
        refine turnsR (W _ (by simp [hh])) (fun z => ?_) small x.cps.size 0 (freshD w) [] _ (by rw [Nat.zero_add]) st get freshR List.nodup_nil (fun z => by simp) (Nat.le_refl _) fun h' tk D l e1 e2 e3 e4 e5 e6 => ?_
        · have e := List.mem_singleton.mp z
          rw [eS] at e
          exact Nat.succ_ne_self _ e.symm
        · show wpAny _ _ _ _ _ _
          refine wpAny_pure ?_
          show wpAny _ _ (ret
                Value.none) _ _ _
          refine wpAny_pure ⟨rfl, h', tk, D, l, rfl, e1, e2, e3, e4, e5, fun b o2 e => ?_⟩
          have lt := Heap.lt_size e
          refine e6 b o2 (fun z => ?_) (Nat.ne_of_lt lt) (Heap.get?_push_of_some _ (Heap.get?_push_of_some _ e))
          have e5 := List.mem_singleton.mp z
          rw [eS] at e5
          rw [e5] at lt
          exact Nat.lt_irrefl _ (Nat.lt_of_succ_lt lt)
      · cases r₂ with
        | error e => exact hr₂
        | ok fl₂ =>
          cases fl₂ with
          | ret r =>
            obtain ⟨rfl, h', tk, D, l, rfl, e1, e2, e3, e4, e5, e6⟩ := hr₂
            repeat (any_goals (first
                  | assumption | wp_step))
            exact h _ _ _ _ e1 e2 e3 e4 e5 e6
          | _ => exact hr₂.elim
    | _ => exact hr.elim
theorem strs_kS : ∀ l : List (Int × Value), (∀ e ∈ l, ∃ k t, e.2 = Value.str k t) → StrsAre (l.map (·.2)) (l.map kS)
  | [], _ => .nil
  | e :: r, h => by
    obtain ⟨k, t, z⟩ := h e (List.mem_cons_self ..)
    have zk : kS e = k := by unfold kS; rw [z]
    rw [List.map_cons, List.map_cons, zk, show e.2 = _ from z]
    exact .cons k t (strs_kS r fun y hy => h y (List.mem_cons_of_mem _ hy))
def strV : Value → Str
  | .str k _ => k
  | _ => ""
theorem strs_of_val : ∀ l : List Value, (∀ v ∈ l, ∃ k t, v = Value.str k t) → StrsAre l (l.map strV)
  | [], _ => .nil
  | v :: r, h => by
    obtain ⟨k, t, z⟩ := h v (List.mem_cons_self ..)
    subst z
    exact .cons k t (strs_of_val r fun y hy => h y (List.mem_cons_of_mem _ hy))
/-- sorted(a set of texts) -/
theorem sortedR {a : Addr} {D : SD} {l : List Str} (ho : s.heap.get? a = some (sObj "set" D)) (F : TxR prog w D l) (hh : A.handled = none) (few : l.length < 64)
    (hQ : ∀ (s' : Shared) (p : Addr) (out : Array Value) (c : Nat) (ys : List Str), (∀ b o, s.heap.get? b = some o → s'.heap.get? b = some o) → s'.gens = s.gens → s'.os = s.os → s.heap.objs.size ≤ p →
      s'.heap.get? p = some (seqObj "list" out c) → StrsAre out.toList ys → ys.Perm l → sortedS ys = true → Q (.ref p) s') :
    wpAny (model prog w) A (call (.builtin "sorted") [.ref a]) Q E s := by
  obtain ⟨es, ep, t⟩ := D
  have sz : es.size = l.length := F.ok.sz
  have lim : (64 : Nat) < scanBound := by unfold scanBound; omega
  refine Calls.call_function_entry kind_sorted plain_sorted entry_sorted
        (args_sorted1 _) ?_
  unfold Builtin.«sorted»
  refine wpAny_bind (m := checkCount "sorted" 1 1 _)
        (wpAny_pure ?_)
  refine wpAny_bind (collect_set (es := es) (ep := ep) (t := t) (A := A.in1) hh ⟨_, ho, rfl, rfl⟩ F.ok.fit (by omega) F.ris F.led fun s1 vs k1 hz g1 o1 pm => ?_)
  have vl : vs.length = l.length := by rw [pm.length_eq, List.length_map, Array.length_toList]; exact sz
  have isS : ∀ v ∈ vs, ∃ k t, v = Value.str k t := fun v hv => by
    obtain ⟨e, he, q⟩ := List.mem_map.mp (pm.mem_iff.mp hv)
    obtain ⟨⟨k, h1, _⟩, _⟩ := F.ok.el e he
    obtain ⟨tk, e1⟩ := Value.isStrOf_shape (x := k) (v := e.2) h1
    exact ⟨k, tk, by rw [← q]; exact e1⟩
  have hS := strs_of_val vs isS
  have pk : (vs.map strV).Perm l := by
    refine (pm.map strV).trans ?_
    rw [List.map_map]
    refine List.Perm.trans (List.Perm.of_eq (List.map_congr_left fun e he => ?_)) F.keys
    rfl
  refine wpAny_bind (wpAny_newList ?_ (by rw [vl, sizeLine_eq]; omega))
  have hoL : (s1.heap.push (seqObj "list" vs.toArray 0)).get? s1.heap.objs.size = some (seqObj "list" vs.toArray 0) :=
    Heap.get?_push_size _ rfl
  refine wpAny_bind (wpAny_holding (wpAny_call_entry slot_list_sort ⟨_, hoL, rfl⟩ entry_list_sort
        (list_sort_treeK strKind_oneLt hoL hS.keysOf (fun v₁ v₂ rest e => keyKind_strs (by rw [← e]; exact hS)) (by rw [vl]; exact few) fun st' hp hs => ⟨_, rfl, ?_⟩) (args_list_sort _)))
  obtain ⟨ys, y1, y2, y3⟩ := sorted_out_str hS hp hs
  obtain ⟨c, hc⟩ := sortedHeap_at (vs := vs) (out := (arrOf st').map (·.2)) hoL
  refine wpAny_pure ⟨_, rfl, hQ _ s1.heap.objs.size _ c ys (fun b o e => ?_) g1 o1 hz hc y1 (y2.trans pk) y3⟩
  have q := k1 b o e
  have lt := Heap.lt_size q
  show (sortedHeap (s1.heap.push (seqObj "list" vs.toArray 0)) s1.heap.objs.size vs _).get? b = some o
  rw [sortedHeap_old
        (Nat.ne_of_lt lt) (by rw [size_push']; exact Nat.lt_succ_of_lt lt)]
  exact Heap.get?_push_of_some _ q
end
theorem ds_of (ys : List Str) (l : List Nat) (h : ∀ z ∈ ys, ∃ c ∈ l, z = sg c) : ∃ ds : List Nat, ys = ds.map sg := by
  induction ys with
  | nil => exact ⟨[], rfl⟩
  | cons y r ih =>
    obtain ⟨ds, e⟩ := ih fun z hz => h z (List.mem_cons_of_mem _ hz)
    obtain ⟨c, _, rfl⟩ := h y (List.mem_cons_self ..)
    exact ⟨c :: ds, by rw [e]; rfl⟩
section
variable {X : Cx}
/-- sorted(set(text)): a new list of the signs, each once -/
def tSortSet (ta : TE) : TE := fun σ H Q => ta σ H fun v H1 => ∃ z : Str, v = .str z ∧ z.length < 64 ∧ ∀ (ds : List Nat) (p : Addr), ds.Nodup → (∀ c, c ∈ ds ↔ c ∈ cod z) → sortedS (ds.map sg) = true → ds.length ≤ z.length → H1 p = none → Q (.ref p) (upd H1 p (.lst ((ds.map sg).map V.str)))
theorem pe_sortSet {a : Expr} {ta : TE} {p p2 q pos : Pos} (hc : X.calm = true) (hg : Gl X "sorted") (hm : X.mg "sorted" = none) (hg2 : Gl X "set") (hm2 : X.mg "set" = none) (hb : bootBuiltins "sorted" = some (.builtin "sorted")) (ha : PE X a ta)
    (na : starEach [a] X.env = (false, eval a X.env) :: starEach [] X.env := by rfl) : PE X (.Call (.Name "sorted" p) [.Call (.Name "set" p2) [a] [] q] [] pos) (tSortSet ta) := by
  refine ⟨fun pins s σ H Q I h => ?_⟩
  refine Call_ (ld_blt
        I hg hm hb ?_)
  refine PyProof.Rows.callWith_builtin1
        (PyProof.Rows.args_cons ?_ rfl) rfl rfl
  refine Call_ (ld_blt
        I hg2 hm2 boot_set ?_)
  refine PyProof.Rows.callWith_type1 (PyProof.Rows.args_cons (thn (ha.run pins s σ H _ I h) fun v s1 ⟨x, H1, I1, r1, z, e, few, q1⟩ => PyProof.Rows.args_nil ?_) na) na rfl
  subst e
  obtain ⟨t, rfl⟩ := r1
  refine set_textR (I1.ok.hd hc) (by omega) fun h' tk D l e1 e2 e3 e4 e5 e6 => ?_
  refine
        PyProof.Rows.args_nil ?_
  have I2 : Inv X pins σ H1 { s1 with heap := h', toks := tk } := I1.kept e6
  have zl : z.length = z.cps.size := rfl
  have e1' : ({ s1 with heap := h', toks := tk } : Shared).heap.get? s1.heap.objs.size = some (sObj "set" D) := e1
  generalize ({ s1 with heap := h', toks := tk } : Shared) = s2 at I2 e1' ⊢
  refine sortedR e1' e2 (I1.ok.hd hc) (by omega) fun s' p out c ys k g o hp hg hi pm srt => ?_
  have mem : ∀ y, y ∈ ys ↔ ∃ c ∈ cod z, y = sg c := fun y => by rw [pm.mem_iff]; exact e4 y
  obtain ⟨ds, rfl⟩ := ds_of ys (cod z) fun y hy => (mem y).mp hy
  have nd : (ds.map sg).Nodup := pm.nodup_iff.mpr e3
  have dl : ds.length ≤ z.length := by
    have := pm.length_eq
    rw [List.length_map] at this
    omega
  have len : ((ds.map sg).map V.str).length ≤ sizeLine := by
    rw [List.length_map, List.length_map, sizeLine_eq]
    omega
  have new : H1 p = none := I2.hok.fresh hp
  have J : Inv X pins σ (upd H1 p (.lst ((ds.map sg).map V.str))) { s2 with heap := s'.heap, gens := s'.gens, drawn := s'.drawn, toks := s'.toks } :=
    I2.call (ch := []) (Un.laid k hp new) (I2.hok.laid k hp ⟨len, out.toList, c, vals_of_strs hi, hg⟩) (by rw [g]; exact I2.bare) (fun _ y => nomatch y)
  have e : s' = { s2 with heap := s'.heap, gens := s'.gens, drawn := s'.drawn, toks := s'.toks } := by
    cases s'
    cases s2
    cases o
    rfl
  rw [e]
  refine ⟨.ref p, _, J, rfl, q1 ds p (List.Pairwise.of_map sg (fun _ _ h y => h (y ▸ rfl)) nd) (fun c => ?_) srt dl new⟩
  refine ⟨fun hc => ?_, fun hc => ?_⟩
  · obtain ⟨d, hd, e⟩ := (mem _).mp (List.mem_map.mpr ⟨c, hc, rfl⟩)
    exact sg_inj e ▸ hd
  · obtain ⟨d, hd, e⟩ := List.mem_map.mp ((mem _).mpr ⟨c, hc, rfl⟩)
    exact sg_inj e ▸ hd
end
end XT
end
section
set_option Elab.async false
set_option linter.all false
set_option maxRecDepth 100000
set_option maxHeartbeats 4100000
namespace XT
open PySem PySem.Spec PyProof.Rows L2 XS
/-! ### text[::-1] -/
/-- the text turned round -/
def revS (z : Str) : Str := ⟨z.cps.toList.reverse.toArray⟩
theorem cod_rev (z : Str) : cod (revS z) = (cod z).reverse := rfl
theorem len_rev (z : Str) : (revS z).length = z.length := by
  rw [← len_cod, cod_rev, List.length_reverse, len_cod]
theorem rev_picked (z : Str) : (Builtin.Str.strSliceIndices none none (-1) z.length).filterMap (z.cps[·]?) = z.cps.toList.reverse := by
  show (sliceRange ((z.cps.size : Int) - 1) (-1) (-1)).filterMap (z.cps[·]?) = _
  rw [PySem.W.krv_sliceRange, PySem.W.krv_range, List.filterMap_reverse, PySem.W.krv_all]
section
variable {X : Cx}
def tRevS (te : TE) : TE := fun σ H Q => te σ H fun x H1 => ∃ z : Str, x = .str z ∧ z.length ≤ sizeLine ∧ Q (.str (revS z)) H1
theorem pe_revS {e : Expr} {te : TE} {k : Nat} {p1 p2 p3 pos : Pos} (he : PE X e te) : PE X (.Subscript e (.Slice none none (some (.UnaryOp .USub (.Constant (.int 1) k p1) p2)) p3) pos) (tRevS te) := by
  refine ⟨fun pins s σ H Q I h => ?_⟩
  refine Subscript_ (thn (he.run pins s σ H _ I h) fun v s1 ⟨x, H1, I1, r1, z, ex, lz, q⟩ => ?_)
  subst ex
  obtain ⟨t, rfl⟩ := r1
  have part : PO X (some (.UnaryOp .USub (.Constant (.int 1) k p1) p2)) (tPart (tUn (rU fun i => .int (-i)) (tC (.int 1)))) := po_some (pe_un un_neg pe_int)
  refine wpAny_Slice (thn (po_none.run pins s1 σ H1 (fun o H2 => o = none ∧ H2 = H1) I1 ⟨rfl, rfl⟩) fun vl s2 ⟨l, H2, I2, pl, el, e2⟩ => ?_)
  subst el e2
  refine thn (po_none.run pins s2 σ H2 (fun o H3 => o = none ∧ H3 = H2) I2 ⟨rfl, rfl⟩) fun vu s3 ⟨u, H3, I3, pu, eu, e3⟩ => ?_
  subst eu e3
  refine thn (part.run pins s3 σ H3 (fun o H4 => o = some (-1) ∧ H4 = H3) I3 ⟨1, rfl, -1, rfl, rfl, rfl⟩) fun vs s4 ⟨o, H4, I4, ps, eo, e4⟩ => ?_
  subst eo e4
  obtain ⟨l, rfl, el⟩ := IsPart.raw pl
  obtain ⟨u, rfl, eu⟩ := IsPart.raw pu
  obtain ⟨st, rfl, es⟩ := IsPart.raw ps
  have I5 : Inv X pins σ H4 { s4 with heap := s4.heap.push { cls := .type "slice", data := .fields #[partValue l, partValue u, partValue st] } } := I4.kept (t' := s4.toks) fun b ob q => Heap.get?_push_of_some _ q
  show wpAny (model X.prog X.w) X.A (subscriptTail e (.Slice none none (some (.UnaryOp .USub (.Constant (.int 1) k p1) p2)) p3) (.str z t) (.ref s4.heap.objs.size)) (EP X pins σ Q) X.xe { s4 with heap := s4.heap.push { cls := .type "slice", data := .fields #[partValue l, partValue u, partValue st] } }
  refine tail_any (ops := [.str z t, .ref s4.heap.objs.size]) (typeIs_str _ _ _) PySem.F.slot_str_getitem.lookup ?_ (by with_unfolding_all rfl)
  refine wpAny_getItem_str_slice (l := l) (u := u) (st := st) ⟨_, Heap.get?_push_size _ rfl, rfl, rfl⟩ (by rw [es]; rfl) ?_
  have made : sliceMade z t l u st = .str (revS z) := by
    unfold sliceMade slicePicked
    rw [el, eu, es]
    show (if ((-1 : Int) == 1 && _) = true then _ else _) = _
    rw [if_neg (by simp)]
    show Made.str ⟨((Builtin.Str.strSliceIndices none none (-1) z.length).filterMap (z.cps[·]?)).toArray⟩ = _
    rw [rev_picked]
    rfl
  rw [made]
  exact ⟨by rw [len_rev]; exact lz, .str _, H4, I5.tok _, ⟨_, rfl⟩, q⟩
end
end XT
end
section
set_option Elab.async false
set_option linter.all false
set_option maxRecDepth 100000
set_option maxHeartbeats 4100000
namespace LA
open PySem L2
/-! ### the text by places -/
def top (i : Nat) : Stmt := PySem.Challenge.pw_linestream_k02_whole_tests_by_rules.main.body.getD i (.Pass ⟨0, 0, 0, 0⟩)
abbrev sPen : Stmt := top 34
abbrev sDraw : Stmt := top 35
abbrev sPick : Stmt := top 36
/-! ### the pen: a dict of cells, turn, left -/
abbrev kC : Key := Sum.inr "cells"
abbrev kT : Key := Sum.inr "turn"
abbrev kL : Key := Sum.inr "left"
theorem nCT : ¬ (kC = kT) := by decide +kernel
theorem nCL : ¬ (kC = kL) := by decide +kernel
theorem nTC : ¬ (kT = kC) := by decide +kernel
theorem nTL : ¬ (kT = kL) := by decide +kernel
theorem nLC : ¬ (kL = kC) := by decide +kernel
theorem nLT : ¬ (kL = kT) := by decide +kernel
theorem put_same_len {kvs : List (Key × V)} {k : Key} {v u : V} (h : valV kvs k = some u) : (putK kvs k v).length = kvs.length := by
  unfold putK
  rw [valV_any, h]
  simp
/-- the pen stands at d, at most n turns were drawn, its cells at c are the ints ns -/
structure Pen (H : Hp) (d c : Addr) (n : Int) (ns : List Int) (kvs : List (Key × V)) (t l : Int) : Prop where
  dc : H d = some (.dK kvs)
  vc : valV kvs kC = some (.ref c)
  vt : valV kvs kT = some (.int t)
  vl : valV kvs kL = some (.int l)
  t0 : 0 ≤ t
  tn : t ≤ n
  sz : kvs.length ≤ 3
  cs : H c = some (.lst (ns.map V.int))
  cl : ns.length ≤ 63
theorem Pen.getC {H d c n ns kvs t l} (p : Pen H d c n ns kvs t l) : DGet H d (.str "cells") (some (.ref c)) := by
  have h := DGet.k (k := kC) p.dc
  rw [p.vc] at h
  exact h
theorem Pen.getT {H d c n ns kvs t l} (p : Pen H d c n ns kvs t l) : DGet H d (.str "turn") (some (.int t)) := by
  have h := DGet.k (k := kT) p.dc
  rw [p.vt] at h
  exact h
theorem Pen.getL {H d c n ns kvs t l} (p : Pen H d c n ns kvs t l) : DGet H d (.str "left") (some (.int l)) := by
  have h := DGet.k (k := kL) p.dc
  rw [p.vl] at h
  exact h
theorem Pen.small {H d c n ns kvs t l} (p : Pen H d c n ns kvs t l) : kvs.length < sizeLine := small1000 (by have := p.sz; omega)
def PenAt (H : Hp) (d c : Addr) (n : Int) (ns : List Int) : Prop := ∃ kvs t l, Pen H d c n ns kvs t l
theorem Pen.ne {H d c n ns kvs t l} (p : Pen H d c n ns kvs t l) : c ≠ d := ne_of p.cs p.dc (by intro z; cases z)
theorem PenAt.ne {H d c n ns} (p : PenAt H d c n ns) : c ≠ d := by
  obtain ⟨_, _, _, p⟩ := p
  exact p.ne
theorem Pen.keep {H H' d c n ns kvs t l} (p : Pen H d c n ns kvs t l) (h : Same H H') : Pen H' d c n ns kvs t l :=
  ⟨h _ _ p.dc, p.vc, p.vt, p.vl, p.t0, p.tn, p.sz, h _ _ p.cs, p.cl⟩
theorem PenAt.keep {H H' d c n ns} (p : PenAt H d c n ns) (h : Same H H') : PenAt H' d c n ns := by
  obtain ⟨_, _, _, p⟩ := p
  exact ⟨_, _, _, p.keep h⟩
theorem Pen.putT {H d c n ns kvs t l} (p : Pen H d c n ns kvs t l) : Pen (upd H d (.dK (putK kvs kT (.int (t + 1))))) d c (n + 1) ns (putK kvs kT (.int (t + 1))) (t + 1) l :=
  ⟨upd_same, by rw [valV_put, if_neg nCT]; exact p.vc, by rw [valV_put, if_pos rfl], by rw [valV_put, if_neg nLT]; exact p.vl, by have := p.t0; omega, by have := p.tn; omega, by rw [put_same_len p.vt]; exact p.sz, by rw [upd_ne p.ne]; exact p.cs, p.cl⟩
theorem Pen.putL {H d c n ns kvs t l} (p : Pen H d c n ns kvs t l) (l' : Int) : Pen (upd H d (.dK (putK kvs kL (.int l')))) d c n ns (putK kvs kL (.int l')) t l' :=
  ⟨upd_same, by rw [valV_put, if_neg nCL]; exact p.vc, by rw [valV_put, if_neg nTL]; exact p.vt, by rw [valV_put, if_pos rfl], p.t0, p.tn, by rw [put_same_len p.vl]; exact p.sz, by rw [upd_ne p.ne]; exact p.cs, p.cl⟩
theorem Pen.more {H d c n m ns kvs t l} (p : Pen H d c n ns kvs t l) (h : n ≤ m) : PenAt H d c m ns :=
  ⟨_, _, _, p.dc, p.vc, p.vt, p.vl, p.t0, Int.le_trans p.tn h, p.sz, p.cs, p.cl⟩
/-- all that was tracked is as it was, but at d -/
def But (d : Addr) (H H' : Hp) : Prop := ∀ b o, H b = some o → b ≠ d → H' b = some o
theorem But.refl {d : Addr} {H : Hp} : But d H H := fun _ _ h _ => h
theorem But.trans {d : Addr} {H H1 H2 : Hp} (a : But d H H1) (b : But d H1 H2) : But d H H2 := fun c o h n => b c o (a c o h n) n
theorem But.same {d : Addr} {H H' : Hp} (a : Same H H') : But d H H' := fun c o h _ => a c o h
theorem same_upd {H : Hp} {p : Addr} {o : HO} (hp : H p = none) : Same H (upd H p o) := fun b u e => by
  rw [upd_ne (ne_of_none e hp)]
  exact e
theorem but_upd {H : Hp} {d : Addr} {o : HO} : But d H (upd H d o) := fun b u e n => by
  rw [upd_ne n]
  exact e
theorem dp_ints {K : PySem.W.Frag} {H : Hp} : ∀ ns : List Int, DpAll K H (ns.map V.int) (ns.map PyData.int)
  | [] => .nil
  | n :: r => .cons (.int n) (dp_ints r)
theorem canLay_ints : ∀ ns : List Int, PyData.canLayAll0 (ns.map PyData.int) = true
  | [] => rfl
  | n :: r => by
    show (PyData.canLay0 (.int n) && PyData.canLayAll0 (r.map PyData.int)) = true
    rw [canLay_ints r]
    rfl
theorem depth_ints : ∀ ns : List Int, PyData.depthAll (ns.map PyData.int) = 0
  | [] => rfl
  | n :: r => by
    show max (PyData.depth (.int n)) (PyData.depthAll (r.map PyData.int)) = 0
    rw [depth_ints r]
    rfl
theorem shaped_ints (ns : List Int) : SeqAt.shaped (.list (ns.map PyData.int)) = true := by
  unfold SeqAt.shaped
  have h1 : PyData.canLay0 (.list (ns.map PyData.int)) = true := by
    unfold PyData.canLay0
    exact canLay_ints ns
  have h2 : PyData.depth (.list (ns.map PyData.int)) ≤ 64 := by
    unfold PyData.depth
    rw [depth_ints]
    decide
  rw [h1, decide_eq_true h2]
  rfl
/-! ### the promises -/
def spPen (K : PySem.W.Frag) : Sp := fun vs H Q _ => ∃ (a : Addr) (ns : List Int), vs = [.ref a] ∧ SqL K H a (ns.map V.int) ∧ ns.length ≤ 63 ∧
  ∀ (d c : Addr) (ms : List Int) (H' : Hp), PenAt H' d c 0 ms → Same H H' → H d = none → H c = none → Q (.ref d) H'
/-- draw: any number below the span -/
def spDraw : Sp := fun vs H Q _ => ∃ (d c : Addr) (n : Int) (ns : List Int) (span : Int), vs = [.ref d, .int span] ∧ PenAt H d c n ns ∧ n < 1000000 ∧ 1 ≤ span ∧ span < 1000000 ∧
  ∀ (r : Int) (H' : Hp), 0 ≤ r → r < span → PenAt H' d c (n + 1) ns → But d H H' → Q (.int r) H'
structure Txt (mg : Str → Option Value) : Prop where
  len : mg "len" = none
  int : mg "int" = none
  list : mg "list" = none
  abs : mg "abs" = none
def primesI : List Int := [2147483629, 2147483647, 2147483587, 2147483563, 2147483579]
theorem prime_at {k : Int} : ∃ p : Int, atI (primesI.map V.int) (k.fmod 5) = some (.int p) ∧ 2 ≤ p ∧ p < 2147483648 := by
  have h0 := Int.fmod_nonneg_of_pos k (b := 5) (by decide)
  have h1 := Int.fmod_lt_of_pos k (b := 5) (by decide)
  generalize k.fmod 5 = r at h0 h1
  have : r = 0 ∨ r = 1 ∨ r = 2 ∨ r = 3 ∨ r = 4 := by omega
  rcases this with rfl | rfl | rfl | rfl | rfl
  · exact ⟨2147483629, atI_nat (j := 0) rfl, by decide, by decide⟩
  · exact ⟨2147483647, atI_nat (j := 1) rfl, by decide, by decide⟩
  · exact ⟨2147483587, atI_nat (j := 2) rfl, by decide, by decide⟩
  · exact ⟨2147483563, atI_nat (j := 3) rfl, by decide, by decide⟩
  · exact ⟨2147483579, atI_nat (j := 4) rfl, by decide, by decide⟩
theorem fmod_in {a b : Int} (h : 0 < b) : 0 ≤ a.fmod b ∧ a.fmod b < b := ⟨Int.fmod_nonneg_of_pos a h, Int.fmod_lt_of_pos a h⟩
theorem at_fmod {α : Type} {xs : List α} {k : Int} (h : 0 < (xs.length : Int)) : ∃ (j : Nat) (v : α), k.fmod (xs.length : Int) = (j : Int) ∧ xs[j]? = some v := by
  obtain ⟨h0, h1⟩ := fmod_in (a := k) h
  refine ⟨(k.fmod xs.length).toNat, xs[(k.fmod xs.length).toNat]'(by omega), by omega, List.getElem?_eq_getElem _⟩
section
variable {P : Program} {w : World} {K : PySem.W.Frag} {mg : Str → Option Value} {base : Heap}
theorem scD : FnScope ["_law_pen_here", "_law_span", "_law_digit", "_law_turn", "_law_cell", "_law_primes", "_law_prime", "_law_drawn"] ["_law_pen_here", "_law_span"] (defScope sDraw) := ⟨rfl, rfl, rfl, by decide +kernel, rfl, by decide +kernel, by decide +kernel⟩
theorem ok_draw {f : Addr} {fd : FuncData} (F : Fun K "_law_draw" "_law_draw" sDraw f fd) (T : Txt mg) : FnOk P w K mg base CX0 1 f fd ["_law_pen_here", "_law_span"] spDraw := by
  refine F.ok scD (fun vs H Q E h => ?_) (fun cdv A outer s H vs Q E hr h => ?_)
  · obtain ⟨d, c, n, ns, span, rfl, _⟩ := h
    rfl
  · obtain ⟨d, c, n, ns, span, rfl, ⟨kvs, t, l, p⟩, hn, s1, s2, k⟩ := h
    have hu := hu_of hr
    have hu6 := hr.units
    have t0 := p.t0
    have tn := p.tn
    refine ⟨_, pss_cons (by exact (ps_if (pt_cmpR op_gt (pe_dget hu (pv 0) pe_str (fun _ _ => rfl)) pe_int (nomark _))
          (pss_cons (ps_set (i := 2) scD.nd rfl (.inl rfl) (pe_op op_modN (pe_callTy call_int1 (by rfl) T.int (by decide +kernel) (pa_cons (pe_dget hu (pv 0) pe_str (fun _ _ => rfl)) pa_nil)) (pv 1)))
          (pss_cons (ps_dput hu (pv 0) pe_str (pe_op op_fdivN (pe_dget hu (pv 0) pe_str (fun _ _ => rfl)) (pv 1)) rfl)
          (pss_one (ps_ret (pv 2))))) pss_nil)) (
      pss_cons (by exact (ps_set (i := 3) scD.nd rfl (.inl rfl) (pe_dget hu (pv 0) pe_str (fun _ _ => rfl)))) (
      pss_cons (by exact (ps_dput hu (pv 0) pe_str (pe_op op_add (pv 3) pe_int) rfl)) (
      pss_cons (by exact (ps_set (i := 4) scD.nd rfl (.inl rfl) (pe_op op_add (pe_op op_mul pe_int (pv 3)) pe_int))) (
      pss_cons (by exact (ps_if (pt_cmpR (op_neD hu6) (pe_dget hu (pv 0) pe_str (fun _ _ => rfl)) (pe_lst pa_nil) (nomark _))
          (pss_one (ps_set (i := 4) scD.nd rfl (.inl rfl) (pe_ix ix_list (pe_dget hu (pv 0) pe_str (fun _ _ => rfl))
            (pe_op op_modN (pe_callTy call_int1 (by rfl) T.int (by decide +kernel) (pa_cons (pv 3) pa_nil)) (pe_callB call_len_seq (by rfl) T.len PySem.boot_len (pa_cons (pe_dget hu (pv 0) pe_str (fun _ _ => rfl)) pa_nil))) (fun _ _ => rfl)))) pss_nil)) (
      pss_cons (by exact (ps_if (PW.pt (pw_and (pt_cmpR op_lt (pv 3) (pe_callB call_len_seq (by rfl) T.len PySem.boot_len (pa_cons (pe_dget hu (pv 0) pe_str (fun _ _ => rfl)) pa_nil)) (nomark _))
            (pw_and1 (pt_cmpR op_ge (pe_callB call_abs (by rfl) T.abs (by decide +kernel) (pa_cons (pv 4) pa_nil)) (pe_op op_pow pe_int pe_int) (nomark _)))))
          (pss_cons (ps_dput hu (pv 0) pe_str (pe_op op_fdivN (pe_op op_sub (pe_callB call_abs (by rfl) T.abs (by decide +kernel) (pa_cons (pv 4) pa_nil)) (pe_op op_pow pe_int pe_int)) (pv 1)) rfl)
          (pss_one (ps_ret (pe_op op_modN (pe_op op_sub (pe_callB call_abs (by rfl) T.abs (by decide +kernel) (pa_cons (pv 4) pa_nil)) (pe_op op_pow pe_int pe_int)) (pv 1))))) pss_nil)) (
      pss_cons (by exact (ps_set (i := 5) scD.nd rfl (.inl rfl) (pe_lst (pa_cons pe_int (pa_cons pe_int (pa_cons pe_int (pa_cons pe_int (pa_cons pe_int pa_nil)))))))) (
      pss_cons (by exact (ps_set (i := 6) scD.nd rfl (.inl rfl) (pe_ix ix_list (pv 5) (pe_op op_modN (pe_callTy call_int1 (by rfl) T.int (by decide +kernel) (pa_cons (pv 3) pa_nil)) pe_int) (fun _ _ => rfl)))) (
      pss_cons (by exact (ps_set (i := 7) scD.nd rfl (.inl rfl) (pe_op op_modN (pe_callTy call_int1 (by rfl) T.int (by decide +kernel) (pa_cons
          (pe_op op_add (pe_op op_add (pe_op op_mul (pe_op op_modN (pe_callTy call_int1 (by rfl) T.int (by decide +kernel) (pa_cons (pv 4) pa_nil)) (pv 6)) pe_int)
            (pe_op op_mul (pv 3) (pe_op op_add (pe_op op_mul pe_int (pv 3)) pe_int))) pe_int) pa_nil)) (pv 6)))) (
      pss_cons (by exact (ps_set (i := 7) scD.nd rfl (.inl rfl) (pe_op op_modN (pe_callTy call_int1 (by rfl) T.int (by decide +kernel) (pa_cons (pe_op op_mul (pv 7) (pe_op op_add (pv 7) pe_int)) pa_nil))
          (pe_ix ix_list (pv 5) (pe_op op_modN (pe_callTy call_int1 (by rfl) T.int (by decide +kernel) (pa_cons (pe_op op_add (pv 3) pe_int) pa_nil)) pe_int) (fun _ _ => rfl))))) (
      pss_one (by exact (ps_ret (pe_op op_modN (pe_callTy call_int1 (by rfl) T.int (by decide +kernel) (pa_cons (pe_op op_fdiv (pe_op op_mod (pe_callTy call_int1 (by rfl) T.int (by decide +kernel) (pa_cons
          (pe_op op_add (pe_op op_add (pe_op op_mul (pv 7) (pv 7)) (pe_op op_mul pe_int (pv 7))) (pv 3)) pa_nil)) pe_int) pe_int) pa_nil)) (pv 1)))))))))))))), ?_⟩
    have ns0 : span ≠ 0 := by omega
    have nsb : span.natAbs < 1073741824 := by omega
    -- left > 0
    refine ⟨_, rfl, d, _, rfl, p.getL, _, _, rfl, rfl, _, rfl, ?_⟩
    refine ite2 (fun _ => ?_) (fun _ => ?_)
    · refine ⟨_, rfl, d, _, rfl, p.getL, .inl ⟨_, rfl, _, rfl, _, _, rfl, rfl, ns0, ?_⟩⟩
      refine ⟨_, rfl, d, _, rfl, p.getL, _, rfl, _, _, rfl, rfl, ⟨ns0, nsb⟩, _, rfl, d, _, rfl, DPut.k (k := kL) p.dc p.small, ?_⟩
      refine ⟨_, rfl, ?_⟩
      obtain ⟨r0, r1⟩ := fmod_in (a := l) (b := span) (by omega)
      exact k _ _ r0 r1 ((p.putL _).more (by omega)) but_upd
    -- turn, turn + 1, cell
    · refine ⟨_, rfl, d, _, rfl, p.getT, ?_⟩
      refine ⟨_, rfl, _, _, rfl, rfl, _, rfl, d, _, rfl, DPut.k (k := kT) p.dc p.small, ?_⟩
      have p1 := p.putT
      have b1 : But d H (upd H d (.dK (putK kvs kT (.int (t + 1))))) := but_upd
      generalize upd H d (.dK (putK kvs kT (.int (t + 1)))) = H1 at p1 b1
      clear p
      generalize putK kvs kT (.int (t + 1)) = kvs1 at p1
      have t1 := p1.t0
      have t2 := p1.tn
      refine ⟨_, rfl, _, _, rfl, rfl, .inl ⟨by decide, by decide⟩, _, _, rfl, rfl, ?_⟩
      -- the cell
      refine ⟨_, rfl, d, _, rfl, p1.getC, (by show 0 ≤ sizeLine; decide), fun l0 hl0 => ?_⟩
      have p2 := p1.keep (same_upd (o := .lst []) hl0)
      have b2 : But d H (upd H1 l0 (.lst [])) := b1.trans (But.same (same_upd hl0))
      refine ⟨.list (ns.map PyData.int), .list [], .lst (SqL.of p2.cs) (dp_ints ns), .lst (SqL.of upd_same) .nil, shaped_ints ns, rfl, _, rfl, ?_⟩
      generalize upd H1 l0 (.lst []) = H2 at p2 b2
      refine ite2 (fun hne => ?ga) (fun _ => ?gb)
      case' ga =>
        have npos : 0 < ((ns.map V.int).length : Int) := by
          cases ns with
          | nil => exact absurd hne (by decide)
          | cons a r => rw [List.map_cons, List.length_cons]; omega
        obtain ⟨j, v, e1, e2⟩ := at_fmod (xs := ns.map V.int) (k := t) npos
        obtain ⟨z, rfl⟩ : ∃ z, v = V.int z := by
          rw [List.getElem?_map] at e2
          cases e : ns[j]? with
          | none => rw [e]
                at e2; cases e2
          | some z => rw [e] at e2; exact ⟨z, (Option.some.inj e2).symm⟩
        refine ⟨_, rfl, d, _, rfl, p2.getC, _, rfl, .inl ⟨_, rfl, _, rfl, d, _, rfl, p2.getC, c, _, rfl, .inl (SqL.of p2.cs), _, _, rfl, rfl, (by omega), c, _, _, _, rfl, rfl, SqL.of p2.cs, (by rw [e1]; exact atI_nat e2), ?_⟩⟩
      case' gb =>
        (try dsimp only)
        generalize 43 * t + 19 = z
      all_goals
        refine ⟨_, rfl, _, rfl, d, _, rfl, p2.getC, c, _, rfl, .inl (SqL.of p2.cs), _, _, rfl, rfl, _, rfl, ?_⟩
        refine ite2 (fun _ => ?_) (fun _ => ?_)
      case' ga.refine_1 =>
        refine ⟨_, rfl, _, rfl, _, _, rfl, rfl, ⟨by decide, by decide, by decide⟩, _, _, rfl, rfl, _, rfl, ?_⟩
        refine ite2 (fun _ => ?u1) (fun _ => ?u2)
      case' gb.refine_1 =>
        refine ⟨_, rfl, _, rfl, _, _, rfl, rfl, ⟨by decide, by decide, by decide⟩, _, _, rfl, rfl, _, rfl, ?_⟩
        refine ite2 (fun _ => ?v1) (fun _ => ?v2)
      case' u1 =>
        refine ⟨_, rfl, _, rfl, _, _, rfl, rfl, ⟨by decide, by decide, by decide⟩, _, _, rfl, rfl, _, rfl, _, _, rfl, rfl, ⟨ns0, nsb⟩, _, rfl, d, _, rfl, DPut.k (k := kL) p2.dc p2.small, ?_⟩
        refine ⟨_, rfl, _, rfl, _, _, rfl, rfl, ⟨by decide, by decide, by decide⟩, _, _, rfl, rfl, _, rfl, _, _, rfl, rfl, ns0, ?_⟩
        generalize (if z < 0 then -z else z) - (10 : Int) ^ (18 : Int).toNat = y
        obtain ⟨r0, r1⟩ := fmod_in (a := y) (b := span) (by omega)
        exact k _ _ r0 r1 ((p2.putL _).more (by omega)) (b2.trans but_upd)
      case' v1 =>
        refine ⟨_, rfl, _, rfl, _, _, rfl, rfl, ⟨by decide, by decide, by decide⟩, _, _, rfl, rfl, _, rfl, _, _, rfl, rfl, ⟨ns0, nsb⟩, _, rfl, d, _, rfl, DPut.k (k := kL) p2.dc p2.small, ?_⟩
        refine ⟨_, rfl, _, rfl, _, _, rfl, rfl, ⟨by decide, by decide, by decide⟩, _, _, rfl, rfl, _, rfl, _, _, rfl, rfl, ns0, ?_⟩
        obtain ⟨r0, r1⟩ := fmod_in (a := (if z < 0 then -z else z) - (10 : Int) ^ (18 : Int).toNat) (b := span) (by omega)
        exact k _ _ r0 r1 ((p2.putL _).more (by omega)) (b2.trans but_upd)
      all_goals
        obtain ⟨q, e1, q2, q3⟩ := prime_at (k := t)
        obtain ⟨q', e1', q2', q3'⟩ := prime_at (k := t + 2)
        refine ⟨(by show 5 ≤ sizeLine; decide), fun l1 hl1 => ?_⟩
        have p3 := p2.keep (same_upd (o := .lst (primesI.map V.int)) hl1)
        have b3 : But d H (upd H2 l1 (.lst (primesI.map V.int))) := b2.trans (But.same (same_upd hl1))
        have hp : (upd H2 l1 (.lst (primesI.map V.int))) l1 = some (.lst (primesI.map V.int)) := upd_same
        refine ⟨_, rfl, _, rfl, .inl ⟨_, rfl, _, _, rfl, rfl, (by show (5 : Int) ≠ 0; decide), l1, primesI.map V.int, _, _, rfl, rfl, SqL.of hp, e1, ?_⟩⟩
        obtain ⟨x0, x1⟩ := fmod_in (a := z) (b := q) (by omega)
        refine ⟨_, rfl, .inl ⟨_, rfl, _, rfl, _, _, rfl, rfl, (by omega), _, _, rfl, rfl, .inr ⟨by decide, by decide⟩, _, rfl, _, rfl, _, _, rfl, rfl, .inl ⟨by decide, by decide⟩, _, _, rfl, rfl, _, _, rfl, rfl, .inl ⟨by omega, by omega⟩,
          _, _, rfl, rfl, _, _, rfl, rfl, .inl ⟨_, rfl, _, rfl, _, _, rfl, rfl, (by omega), ?_⟩⟩⟩
        obtain ⟨y0, y1⟩ := fmod_in (a := z.fmod q * 39373 + t * (30011 * t + 8117) + 23) (b := q) (by omega)
        (try dsimp only)
        generalize (z.fmod q * 39373 + t * (30011 * t + 8117) + 23).fmod q = y' at y0 y1 ⊢
        refine ⟨_, rfl, _, rfl, _, _, rfl, rfl, _, _, rfl, rfl, .inl ⟨by omega, by omega⟩, .inl ⟨_, rfl, _, rfl, _, rfl, _, _, rfl, rfl, .inl ⟨_, rfl, _, _, rfl, rfl, (by show (5 : Int) ≠ 0; decide), l1, primesI.map V.int, _, _, rfl, rfl, SqL.of hp, e1', _, _, rfl, rfl, (by omega), ?_⟩⟩⟩
        obtain ⟨w0, w1⟩ := fmod_in (a := y' * (y' + 69621)) (b := q') (by omega)
        (try dsimp only)
        generalize (y' * (y' + 69621)).fmod q' = w at w0 w1 ⊢
        refine ⟨_, rfl, _, rfl, _, _, rfl, rfl, .inl ⟨by omega, by omega⟩, _, rfl, _, _, rfl, rfl, .inl ⟨by decide, by decide⟩, _, _, rfl, rfl, _, rfl, _, _, rfl, rfl, .inl ⟨_, rfl, _, _, rfl, rfl, (by show (0 : Int) < 2147483549; decide), _, _, rfl, rfl, ⟨by decide, by decide⟩, .inl ⟨_, rfl, _, rfl, _, _, rfl, rfl, ns0, ?_⟩⟩⟩
        (try dsimp only)
        generalize (w * w + 16807 * w + t) % 2147483549 / 64 = u
        obtain ⟨r0, r1⟩ := fmod_in (a := u) (b := span) (by omega)
        exact k _ _ r0 r1 (p3.more (by omega)) b3
end
theorem cutInts (ns : List Int) (lo hi : Option Int) : ∃ ms : List Int, cutV (ns.map V.int) lo hi = ms.map V.int ∧ ms.length ≤ ns.length := by
  unfold cutV
  rw [← List.map_drop, ← List.map_take]
  refine ⟨_, rfl, ?_⟩
  rw [List.length_take,
        List.length_drop]
  omega
section
variable {P : Program} {w : World} {K : PySem.W.Frag} {mg : Str → Option Value} {base : Heap}
theorem scN : FnScope ["_law_script"] ["_law_script"] (defScope sPen) := ⟨rfl, rfl, rfl, by decide +kernel, rfl, by decide +kernel, by decide +kernel⟩
theorem ok_pen {f : Addr} {fd : FuncData} (F : Fun K "_law_pen" "_law_pen" sPen f fd) (T : Txt mg) : FnOk P w K mg base CX0 1 f fd ["_law_script"] (spPen K) := by
  refine F.ok scN (fun vs H Q E h => ?_) (fun cdv A outer s H vs Q E hr h => ?_)
  · obtain ⟨a, ns, rfl, _⟩ := h
    rfl
  · obtain ⟨a, ns, rfl, hS, hl, k⟩ := h
    refine ⟨_, pss_one (by exact (ps_ret (pe_disp (pps_cons pe_str (pe_callTy call_list_of (by rfl) T.list (by decide +kernel) (pa_cons (pe_slice sl_list (pv 0) po_none (po_some pe_int)) pa_nil)) (pps_cons pe_str pe_int (pps_cons pe_str pe_int pps_nil))) (by rfl) (by rfl) (fun z => by cases z) (by decide)))), ?_⟩
    intro d nd
    have s1 : Same H (upd H d (.dK [])) := same_upd nd
    obtain ⟨ms, em, lm⟩ := cutInts ns none (some 63)
    refine ⟨_, rfl, _, rfl, a, _, rfl, s1.seq hS, fun p np => ?_⟩
    have s2 : Same (upd H d (.dK [])) (upd (upd H d (.dK [])) p (.lst (cutV (ns.map V.int) none (some 63)))) := same_upd np
    refine ⟨p, _, rfl, .inl (SqL.of upd_same), fun c nc => ?_⟩
    have s3 : Same (upd (upd H d (.dK [])) p (.lst (cutV (ns.map V.int) none (some 63)))) (upd (upd (upd H d (.dK [])) p (.lst (cutV (ns.map V.int) none (some 63)))) c (.lst (cutV (ns.map V.int) none (some 63)))) := same_upd nc
    have hd := (s2.trans s3) _ _ (upd_same (H := H) (a := d) (o := .dK []))
    refine ⟨hd, [(kC, .ref c), (kT, .int 0), (kL, .int 0)], rfl, by show 3 ≤ 15; decide, ?_⟩
    have ncd : c ≠ d := Ne.symm (ne_of_none (s2 _ _ upd_same) nc)
    refine k d c ms _ ⟨_, 0, 0, upd_same, ?_, ?_, ?_, Int.le_refl _, Int.le_refl _, ?_, ?_, by omega⟩ (fun b o e => ?_) nd ?_
    · show valV (putK (putK (putK [] kC (.ref c)) kT (.int 0)) kL (.int 0)) kC = _
      rw [valV_put, if_neg nCL, valV_put, if_neg nCT, valV_put, if_pos rfl]
    · show valV (putK (putK (putK [] kC (.ref c)) kT (.int 0)) kL (.int 0)) kT = _
      rw [valV_put, if_neg nTL, valV_put, if_pos rfl]
    · show valV (putK (putK (putK [] kC (.ref c)) kT (.int 0)) kL (.int 0)) kL = _
      rw [valV_put, if_pos rfl]
    · exact length_mergeK _ _
    · rw [upd_ne ncd, upd_same, em]
    · rw [upd_ne (ne_of_none e nd)]
      exact (s1.trans (s2.trans s3)) _ _ e
    · exact (s1.trans s2).free nc
end
end LA
end
section
set_option Elab.async false
set_option linter.all false
set_option maxRecDepth 100000
set_option maxHeartbeats 4100000
namespace LA
open PySem L2 XS
abbrev sSigns : Stmt := top 37
abbrev sFew : Stmt := top 38
abbrev sRow : Stmt := top 39
def Lt (c : Nat) : Prop := 32 ≤ c ∧ c ≤ 126 ∧ c ≠ 37
instance : DecidablePred Lt := fun c => inferInstanceAs (Decidable (_ ∧ _ ∧ _))
/-- two or three unlike letters -/
structure Sgn (z : Str) : Prop where
  lets : ∀ c ∈ cod z, Lt c
  nd : (cod z).Nodup
  two : 2 ≤ z.length
  three : z.length ≤ 3
def sgsZ : Str := " !\"#$&'()*+,-./0123456789:;<=>?@ABCDEFGHIJKLMNOPQRSTUVWXYZ[\\]^_`abcdefghijklmnopqrstuvwxyz{|}~"
theorem few_lets : ∀ c ∈ cod (Txt.replace sgsZ "q" ""), Lt c := by decide +kernel
theorem few_len : (Txt.replace sgsZ "q" "").length = 93 := by decide +kernel
theorem sg_str (c : Nat) : (V.str (sg c)) = V.str ⟨#[c]⟩ := rfl
theorem len_sg (c : Nat) : (sg c).length = 1 := rfl
section
variable {P : Program} {w : World} {K : PySem.W.Frag} {mg : Str → Option Value} {base : Heap}
/-- pick: of a list, or of a text -/
def spPick : Sp := fun vs H Q _ => ∃ (d c : Addr) (n : Int) (ns : List Int) (o : V), vs = [.ref d, o] ∧ PenAt H d c n ns ∧ n < 1000000 ∧
  ((∃ (l : Addr) (xs : List V), o = .ref l ∧ H l = some (.lst xs) ∧ 0 < xs.length ∧ xs.length < 1000000 ∧ ∀ (v : V) (H' : Hp), v ∈ xs → PenAt H' d c (n + 1) ns → But d H H' → Q v H') ∨
   (∃ (z : Str), o = .str z ∧ 0 < z.length ∧ z.length < 1000000 ∧ ∀ (k : Nat) (H' : Hp), k ∈ cod z → PenAt H' d c (n + 1) ns → But d H H' → Q (.str (sg k)) H'))
theorem scP : FnScope ["_law_pen_here", "_law_options"] ["_law_pen_here", "_law_options"] (defScope sPick) := ⟨rfl, rfl, rfl, by decide +kernel, rfl, by decide +kernel, by decide +kernel⟩
theorem ok_pick {f fD : Addr} {fd fdD : FuncData} (F : Fun K "_law_pick" "_law_pick" sPick f fd) (T : Txt mg) (GD : FnOk P w K mg base CX0 1 fD fdD ["_law_pen_here", "_law_span"] spDraw) (mD : mg "_law_draw" = some (.ref fD)) (kD : PySem.W.keepIn K (.ref fD) = true) (bD : Binds K fdD ["_law_pen_here", "_law_span"] []) :
    FnOk P w K mg base CX0 2 f fd ["_law_pen_here", "_law_options"] spPick := by
  refine F.ok scP (fun vs H Q E h => ?_) (fun cdv A outer s H vs Q E hr h => ?_)
  · obtain ⟨d, c, n, ns, o, rfl, _⟩ := h
    rfl
  · obtain ⟨d, c, n, ns, o, rfl, pen, hn, k⟩ := h
    refine ⟨_, pss_one (by exact (ps_ret (pe_ix ix_seq (pv 1) (pe_call GD hr rfl mD kD bD .nil pass0 (pa_cons (pv 0) (pa_cons (pe_callB call_len (by rfl) T.len PySem.boot_len (pa_cons (pv 1) pa_nil)) pa_nil))) (fun _ _ => rfl)))), ?_⟩
    rcases k with ⟨l, xs, rfl, hl, h0, h1, k⟩ | ⟨z, rfl, h0, h1, k⟩
    · have nld : l ≠ d := by
        obtain ⟨_, _, _, p⟩ := pen
        exact ne_of hl p.dc (by intro z; cases z)
      refine ⟨_, rfl, _, rfl, _, rfl, _, xs.length, rfl, .inl ⟨_, SqL.of hl, rfl⟩, ?_⟩
      refine ⟨d, c, n, ns, (xs.length : Int), rfl, pen, hn, by omega, by omega, fun r H' r0 r1 pen' but => ?_⟩
      obtain ⟨j, rfl⟩ := Int.eq_ofNat_of_zero_le r0
      have hj : j < xs.length := by omega
      refine .inl ⟨l, xs, _, xs[j], rfl, rfl, SqL.of (but _ _ hl nld), atI_nat (List.getElem?_eq_getElem hj), ?_⟩
      exact k _ _ (List.getElem_mem hj) pen' but
    · refine ⟨_, rfl, _, rfl, _, rfl, _, z.length, rfl, ⟨Nat.le_trans (Nat.le_of_lt h1) (by decide), rfl⟩, ?_⟩
      refine ⟨d, c, n, ns, (z.length : Int), rfl, pen, hn, by omega, by omega, fun r H' r0 r1 pen' but => ?_⟩
      obtain ⟨j, rfl⟩ := Int.eq_ofNat_of_zero_le r0
      have hj : j < (cod z).length := by rw [len_cod]; omega
      refine .inr (.inr ⟨z, _, (cod z)[j], rfl, rfl, Nat.le_trans (Nat.le_of_lt h1) (by decide), atI_nat (List.getElem?_eq_getElem hj), ?_⟩)
      exact k _ _ (List.getElem_mem hj) pen' but
structure PickAt (P : Program) (w : World) (K : PySem.W.Frag) (mg : Str → Option Value) (base : Heap) (f : Addr) (fd : FuncData) : Prop where
  ok : FnOk P w K mg base CX0 2 f fd ["_law_pen_here", "_law_options"] spPick
  m : mg "_law_pick" = some (.ref f)
  k : PySem.W.keepIn K (.ref f) = true
  b : Binds K fd ["_law_pen_here", "_law_options"] []
/-- few: two or three unlike letters -/
def spFew : Sp := fun vs H Q _ => ∃ (d c : Addr) (n : Int) (ns : List Int), vs = [.ref d] ∧ PenAt H d c n ns ∧ n + 4 < 1000000 ∧
  ∀ (z : Str) (H' : Hp), Sgn z → PenAt H' d c (n + 4) ns → But d H H' → Q (.str z) H'
theorem scF : FnScope ["_law_pen_here", "_law_some", "_law_rare", "_law_k"] ["_law_pen_here"] (defScope sFew) := ⟨rfl, rfl, rfl, by decide +kernel, rfl, by decide +kernel, by decide +kernel⟩
theorem scG : FnScope [] [] (defScope sSigns) := ⟨rfl, rfl, rfl, by decide +kernel, rfl, by decide +kernel, by decide +kernel⟩
def cs (l : List Nat) : List V := l.map fun c => V.str (sg c)
theorem cs_flat (l : List Nat) : (cs l).all flatV = true := by
  simp [cs, flatV]
theorem cs_in (c : Nat) (l : List Nat) : inV (.str (sg c)) (cs l) = decide (c ∈ l) := by
  induction l with
  | nil => rfl
  | cons a r ih =>
    have h : inV (.str (sg c)) (cs (a :: r)) = (eqV (.str (sg a)) (.str (sg c)) || inV (.str (sg c)) (cs r)) := rfl
    rw [h, ih]
    show ((sg a == sg c) || _) = _
    by_cases e : a = c
    · subst e
      simp
    · have : (sg a == sg c) = false := by
        rw [beq_eq_false_iff_ne]
        exact fun z => e (sg_inj z)
      rw [this, Bool.false_or]
      have e' : ¬ c = a := fun z => e z.symm
      simp [e']
theorem cs_cut (l : List Nat) (i : Nat) : cutV (cs l) none (some (i : Int)) = cs (l.take i) := by
  unfold cutV cs
  rw [HT.sIx_nat, HT.sIx_none, List.drop_zero, List.length_map, Nat.sub_zero, ← List.map_take]
  congr 1
  rw [List.take_eq_take_iff]
  omega
theorem cs_strs (l : List Nat) : cs l = (l.map sg).map V.str := by
  unfold cs
  rw [List.map_map]
  rfl
theorem sum_sg (l : List Nat) : ((l.map sg).map (·.length)).sum = l.length := by
  induction l with
  | nil => rfl
  | cons a r ih =>
    rw [List.map_cons, List.map_cons, List.sum_cons, ih, len_sg, List.length_cons]
    omega
theorem sgn_some : ∀ z ∈ (["ab", "abc", "a ", "x~", "01", "\"\\"] : List Str), Sgn z := by
  intro z hz
  simp only [List.mem_cons, List.not_mem_nil, or_false] at hz
  rcases hz with rfl | rfl | rfl | rfl | rfl | rfl <;> exact ⟨by decide +kernel, by decide +kernel, by decide +kernel, by decide +kernel⟩
theorem yz_lets : ∀ c ∈ cod "yz", Lt c ∧ c ≠ 40 := by decide +kernel
theorem par_is : ∀ c ∈ cod "(", c = 40 := by decide +kernel
theorem PenAt.put {H : Hp} {d c D : Addr} {n : Int} {ns : List Int} {o : HO} (p : PenAt H d c n ns) (h1 : D ≠ d) (h2 : D ≠ c) : PenAt (upd H D o) d c n ns := by
  obtain ⟨kvs, t, l, q⟩ := p
  exact ⟨kvs, t, l, by rw [upd_ne h1.symm]; exact q.dc, q.vc, q.vt, q.vl, q.t0, q.tn, q.sz, by rw [upd_ne h2.symm]; exact q.cs, q.cl⟩
theorem PenAt.fresh {H : Hp} {d c D : Addr} {n : Int} {ns : List Int} (p : PenAt H d c n ns) (h : H D = none) : D ≠ d ∧ D ≠ c := by
  obtain ⟨kvs, t, l, q⟩ := p
  exact ⟨(ne_of_none q.dc h).symm, (ne_of_none q.cs h).symm⟩
theorem PenAt.n0 {H : Hp} {d c : Addr} {n : Int} {ns : List Int} (p : PenAt H d c n ns) : 0 ≤ n := by
  obtain ⟨kvs, t, l, q⟩ := p
  exact Int.le_trans q.t0 q.tn
theorem But.none {d D : Addr} {H G : Hp} (b : But d H G) (n : D ≠ d) (h : G D = Option.none) : H D = Option.none := by
  cases e : H D with
  | none => rfl
  | some o => exact absurd ((b _ _ e n).symm.trans h) (by simp)
theorem But.put {d D : Addr} {H G : Hp} {o : HO} (b : But d H G) (h : H D = Option.none) : But d H (upd G D o) := fun c u e n => by
  rw [upd_ne (ne_of_none e h)]
  exact b c u e n
theorem ok_few {f fS fP : Addr} {fd fdS fdP : FuncData} (F : Fun K "_law_few" "_law_few" sFew f fd) (T : Txt mg) (mR : mg "range" = none) (M : PickAt P w K mg base fP fdP) (FS : Fun K "_law_signs" "_law_signs" sSigns fS fdS) (bS : ∀ s, BindsTo s fdS ⟨[], []⟩ []) (mS : mg "_law_signs" = some (.ref fS)) :
    FnOk P w K mg base CX0 3 f fd ["_law_pen_here"] spFew := by
  refine F.ok scF (fun vs H Q E h => ?_) (fun cdv A outer s H vs Q E hr h => ?_)
  · obtain ⟨d, c, n, ns, rfl, _⟩ := h
    rfl
  · obtain ⟨d, c, n, ns, rfl, pen, hn, k⟩ := h
    have hr2 : Room 2 _ := hr.mono (by decide)
    have hr1 : Room 1 _ := hr.mono (by decide)
    refine ⟨_, pss_cons (by exact (ps_set (i := 1) scF.nd rfl (Or.inr rfl) (pe_lst (pa_cons (pe_call M.ok hr2 rfl M.m M.k M.b .nil pass0 (pa_cons (pv 0) (pa_cons (XS.pe_litRepl FS scG rfl bS rfl hr1 mS (by decide +kernel) (by decide +kernel)) pa_nil))) (pa_cons (pe_call M.ok hr2 rfl M.m M.k M.b .nil pass0 (pa_cons (pv 0) (pa_cons pe_str pa_nil))) (pa_cons (pe_call M.ok hr2 rfl M.m M.k M.b .nil pass0 (pa_cons (pv 0) (pa_cons pe_str pa_nil))) pa_nil)))))) (
      pss_cons (by exact (ps_set (i := 2) scF.nd rfl (.inl rfl) (pe_join pe_str (pe_lc (own := [("_law_k", 3)]) (g := gName 3) (tt := tTest (tOp (rIn K true) (tOp (rIxL K) (tVar 1) (tVar 3)) (tSl (rSlL K) (tVar 1) tNoPart (tPart (tVar 3))))) (te := tOp (rIxL K) (tVar 1) (tVar 3)) rfl scF.nd (pi_range1 rfl mR (pa_cons pe_int pa_nil))
        (blkOk_by (N := ["_law_pen_here", "_law_some", "_law_rare", "_law_k"]) (sc := defScope sFew) (by decide +kernel))
        (fun _ _ _ _ _ => by exact (pg_name (i := 3) scF.nd rfl (Or.inl rfl)))
        (fun _ _ _ _ _ => by exact (pts_one (pt_cmpR op_notIn_seq (pe_ix ix_list (pv 1) (pv 3) (fun _ _ => rfl)) (pe_slice sl_list (pv 1) po_none (po_some (pv 3))) (by rfl))))
        (fun _ _ _ _ _ => by exact (pe_ix ix_list (pv 1) (pv 3) (fun _ _ => rfl))))))) (
      pss_one (by exact (ps_ret (pe_call M.ok hr2 rfl M.m M.k M.b .nil pass0 (pa_cons (pv 0) (pa_cons (pe_lst (pa_cons pe_str (pa_cons pe_str (pa_cons pe_str (pa_cons pe_str (pa_cons pe_str (pa_cons pe_str (pa_cons pe_str (pa_cons pe_str (pa_cons (pv 2) pa_nil)))))))))) pa_nil))))))), ?_⟩
    refine ⟨_, rfl, d, c, n, ns, _, rfl, pen, by omega, .inr ⟨_, rfl, (by show 0 < (Txt.replace sgsZ "q" "").length; rw [few_len]; decide), (by show (Txt.replace sgsZ "q" "").length < 1000000; rw [few_len]; decide), fun a H1 ha pen1 b1 => ?_⟩⟩
    refine ⟨_, rfl, d, c, n + 1, ns, _, rfl, pen1, by omega, .inr ⟨_, rfl, (by decide +kernel), (by decide +kernel), fun b H2 hb pen2 b2 => ?_⟩⟩
    refine ⟨_, rfl, d, c, n + 1 + 1, ns, _, rfl, pen2, by omega, .inr ⟨_, rfl, (by decide +kernel), (by decide +kernel), fun e H3 he pen3 b3 => ?_⟩⟩
    obtain ⟨lb, nb⟩ := yz_lets b hb
    have la := few_lets a ha
    have le := par_is e he
    subst le
    refine ⟨(by show 3 ≤ sizeLine; decide), fun L nL => ?_⟩
    have bb : But d H (upd H3 L (.lst (cs [a, b, 40]))) := ((b1.trans b2).trans b3).trans (But.same (same_upd nL))
    have pen4 := pen3.keep (same_upd (o := .lst (cs [a, b, 40])) nL)
    have hL : (upd H3 L (.lst (cs [a, b, 40]))) L = some (.lst (cs [a, b, 40])) := upd_same
    refine ⟨⟨_, rfl⟩, ?_⟩
    refine ⟨3, rfl, by decide, by decide, fun D nD => ?_⟩
    have nLD : L ≠ D := ne_of_none hL nD
    obtain ⟨nDd, nDc⟩ := pen4.fresh nD
    have nH : H D = none := bb.none nDd nD
    have hb0 : ∀ i, i < 3 → ∃ x, [a, b, 40][i]? = some x := fun i hi => ⟨[a, b, 40][i], List.getElem?_eq_getElem hi⟩
    refine lc_range (fun i G => ∃ ds : List Nat, G D = some (.lst (cs ds)) ∧ ds.Nodup ∧ (∀ x, x ∈ ds ↔ x ∈ [a, b, 40].take i) ∧ ds.length ≤ i ∧ G L = some (.lst (cs [a, b, 40])) ∧ PenAt G d c (n + 1 + 1 + 1) ns ∧ But d H G)
      ⟨[], upd_same, List.nodup_nil, fun x => by simp, Nat.le_refl _, (same_upd nD) _ _ hL, pen4.keep (same_upd nD), bb.trans (But.same (same_upd nD))⟩ (fun i G hi p => ?_) (fun G p => ?_)
    · obtain ⟨ds, pD, nd, mem, len, pL, pP, pB⟩ := p
      obtain ⟨x, hx⟩ := hb0 i hi
      have hx' : (cs [a, b, 40])[i]? = some (V.str (sg x)) := by
        unfold cs
        rw [List.getElem?_map, hx]
        rfl
      refine ⟨rfl, ?_⟩
      refine ⟨_, rfl, _, rfl, L, _, _, _, rfl, rfl, SqL.of pL, (by rw [Int.zero_add]; exact atI_nat hx'), ?_⟩
      refine ⟨_, rfl, _, rfl, _, rfl, L, _, rfl, SqL.of pL, fun S nS => ?_⟩
      rw [Int.zero_add, cs_cut]
      refine ⟨S, cs ([a, b, 40].take i), rfl, .inl (SqL.of upd_same), rfl, cs_flat _, _, rfl, ?_⟩
      rw [if_pos rfl, cs_in]
      have sm := fun o => same_upd (o := o) nS
      have tk : [a, b, 40].take (i + 1) = [a, b, 40].take i ++ [x] := by rw [List.take_succ, hx]; rfl
      by_cases mx : x ∈ [a, b, 40].take i
      · rw [decide_eq_true mx]
        refine iteF ⟨ds, sm _ _ _ pD, nd, fun y => ?_, by omega, sm _ _ _ pL, pP.keep (sm _), pB.trans (But.same (sm _))⟩
        rw [mem, tk, List.mem_append, List.mem_singleton]
        exact ⟨.inl, fun h => h.elim id fun e => e ▸ mx⟩
      · rw [decide_eq_false mx]
        refine iteT ?_
        refine ⟨_, rfl, _, rfl, L, _, _, _, rfl, rfl, SqL.of (sm _ _ _ pL), (atI_nat hx'), ?_⟩
        refine ⟨_, sm _ _ _ pD, Nat.lt_of_le_of_lt (by unfold cs; rw [List.length_map]; omega : _ ≤ 3) (by decide), ds ++ [x], ?_, ?_, ?_, ?_, ?_, ?_, ?_⟩
        · unfold cs
          rw [List.map_append]
          exact upd_same
        · rw [List.nodup_append]
          refine ⟨nd, List.nodup_cons.mpr ⟨by simp, List.nodup_nil⟩, fun y hy z hz => ?_⟩
          rw [List.mem_singleton] at hz
          subst hz
          exact fun e => mx (e ▸ (mem y).mp hy)
        · intro y
          rw [List.mem_append, mem, tk, List.mem_append]
        · rw [List.length_append]
          exact Nat.add_le_add len (Nat.le_refl 1)
        · rw [upd_ne nLD]
          exact sm _ _ _ pL
        · exact (pP.keep (sm _)).put nDd nDc
        · exact (pB.trans (But.same (sm _))).put nH
    · obtain ⟨ds, pD, nd, mem, len, pL, pP, pB⟩ := p
      replace mem : ∀ x, x ∈ ds ↔ x ∈ [a, b, 40] := mem
      replace len : ds.length ≤ 3 := len
      have hl : 2 ≤ ds.length := by
        rcases ds with _ | ⟨x, _ | ⟨y, r⟩⟩
        · exact absurd ((mem 40).mpr (by simp)) (by simp)
        · have h1 := (mem 40).mpr (by simp)
          have h2 := (mem b).mpr (by simp)
          rw [List.mem_singleton] at h1 h2
          exact absurd (h2.trans h1.symm) nb
        · simp
      refine ⟨_, D, ds.map sg, rfl, rfl, .inl (by rw [← cs_strs]; exact SqL.of pD), (by rw [sum_sg, List.length_map]; show ds.length + ds.length * 0 ≤ 16777216; omega), ?_⟩
      have ej : cod (Txt.join "" (ds.map sg)) = ds := join_sg ds
      have sj : Sgn (Txt.join "" (ds.map sg)) := by
        refine ⟨?_, ?_, ?_, ?_⟩
        · rw [ej]
          intro x hx
          have h := (mem x).mp hx
          simp only [List.mem_cons, List.not_mem_nil, or_false] at h
          rcases h with rfl | rfl | rfl
          · exact la
          · exact lb
          · decide
        · rw [ej]
          exact nd
        · rw [← len_cod, ej]
          exact hl
        · rw [← len_cod, ej]
          exact len
      generalize Txt.join "" (ds.map sg) = rare at sj
      refine ⟨_, rfl, _, rfl, (by show 9 ≤ sizeLine; decide), fun N nN => ?_⟩
      have sN := same_upd (o := .lst [.str "ab", .str "ab", .str "abc", .str "abc", .str "a ", .str "x~", .str "01", .str "\"\\", .str rare]) nN
      refine ⟨d, c, n + 1 + 1 + 1, ns, _, rfl, pP.keep sN, by omega, .inl ⟨N, _, rfl, upd_same, (by show 0 < 9; decide), (by show 9 < 1000000; decide), fun v H' hv pen5 b5 => ?_⟩⟩
      have hs : ∃ z, v = .str z ∧ Sgn z := by
        simp only [List.mem_cons, List.not_mem_nil, or_false] at hv
        rcases hv with rfl | rfl | rfl | rfl | rfl | rfl | rfl | rfl | rfl
        all_goals first | exact ⟨_, rfl, sj⟩ | exact ⟨_, rfl, sgn_some _ (by simp)⟩
      obtain ⟨z, rfl, sz⟩ := hs
      exact k z H' sz (by have e : n + 1 + 1 + 1 + 1 = n + 4 := by omega
                          rw [← e]; exact pen5) ((pB.trans (But.same sN)).trans b5)
/-- row: a line of the letters -/
def spRow : Sp := fun vs H Q _ => ∃ (d c : Addr) (n : Int) (ns : List Int) (z : Str) (a b : Int), vs = [.ref d, .str z, .int a, .int b] ∧ PenAt H d c n ns ∧ n + 1 + b < 1000000 ∧ 0 < z.length ∧ z.length < 1000000 ∧ 0 ≤ a ∧ a ≤ b ∧
  ∀ (y : Str) (H' : Hp), (∀ c ∈ cod y, c ∈ cod z) → a ≤ y.length → (y.length : Int) ≤ b → PenAt H' d c (n + 1 + b) ns → But d H H' → Q (.str y) H'
theorem scR : FnScope ["_law_pen_here", "_law_signs_here", "_law_least", "_law_most_letters", "_law_span", "_law_k"] ["_law_pen_here", "_law_signs_here", "_law_least", "_law_most_letters"] (defScope sRow) := ⟨rfl, rfl, rfl, by decide +kernel, rfl, by decide +kernel, by decide +kernel⟩
theorem ok_row {f fD fP : Addr} {fd fdD fdP : FuncData} (F : Fun K "_law_row" "_law_row" sRow f fd) (T : Txt mg) (mR : mg "range" = none) (M : PickAt P w K mg base fP fdP) (GD : FnOk P w K mg base CX0 1 fD fdD ["_law_pen_here", "_law_span"] spDraw) (mD : mg "_law_draw" = some (.ref fD)) (kD : PySem.W.keepIn K (.ref fD) = true) (bD : Binds K fdD ["_law_pen_here", "_law_span"] []) :
    FnOk P w K mg base CX0 3 f fd ["_law_pen_here", "_law_signs_here", "_law_least", "_law_most_letters"] spRow := by
  refine F.ok scR (fun vs H Q E h => ?_) (fun cdv A outer s H vs Q E hr h => ?_)
  · obtain ⟨d, c, n, ns, z, a, b, rfl, _⟩ := h
    rfl
  · obtain ⟨d, c, n, ns, z, a, b, rfl, pen, hn, z0, z1, ha, hb, k⟩ := h
    have hr2 : Room 2 _ := hr.mono (by decide)
    have hr1 : Room 1 _ := hr.mono (by decide)
    refine ⟨_, pss_cons (by exact (ps_set (i := 4) scR.nd rfl (.inl rfl) (pe_op op_add (pv 2) (pe_call GD hr1 rfl mD kD bD .nil pass0 (pa_cons (pv 0) (pa_cons (pe_op op_add (pe_op op_sub (pv 3) (pv 2)) pe_int) pa_nil)))))) (
      pss_one (by exact (ps_ret (pe_join pe_str (pe_lc (own := [("_law_k", 5)]) (g := gName 5) (tt := tYes) (te := tCall spPick [] (fun _ _ _ => False) (tCons (tVar 0) (tCons (tVar 1) tNil))) rfl scR.nd (pi_range1 rfl mR (pa_cons (pv 4) pa_nil))
        (blkOk_by (N := ["_law_pen_here", "_law_signs_here", "_law_least", "_law_most_letters", "_law_span", "_law_k"]) (sc := defScope sRow) (by decide +kernel))
        (fun _ _ _ _ _ => by exact (pg_name (i := 5) scR.nd rfl (Or.inl rfl)))
        (fun _ _ _ _ _ => by exact pts_nil)
        (fun _ _ _ _ _ => by exact (pe_call M.ok hr2 rfl M.m M.k M.b .nil pass0 (pa_cons (pv 0) (pa_cons (pv 1) pa_nil))))))))), ?_⟩
    refine ⟨_, rfl, _, rfl, _, rfl, _, rfl, _, _, rfl, rfl, _, _, rfl, rfl, ?_⟩
    have n0 := pen.n0
    refine ⟨d, c, n, ns, _, rfl, pen, by omega, by omega, by omega, fun r H1 r0 r1 pen1 b1 => ?_⟩
    refine ⟨_, _, rfl, rfl, ⟨_, rfl⟩, ?_⟩
    refine ⟨_, rfl, a + r, rfl, by omega, by omega, fun D nD => ?_⟩
    obtain ⟨nDd, nDc⟩ := pen1.fresh nD
    have nH : H D = none := b1.none nDd nD
    refine lc_range (fun i G => ∃ ds : List Nat, G D = some (.lst (cs ds)) ∧ (∀ x ∈ ds, x ∈ cod z) ∧ ds.length = i ∧ PenAt G d c (n + 1 + i) ns ∧ But d H G)
      ⟨[], upd_same, (fun x hx => absurd hx (by simp)), rfl, (show PenAt _ d c (n + 1 + (0 : Int)) ns from (Int.add_zero (n + 1)).symm ▸ pen1.put nDd nDc), b1.put nH⟩ (fun i G hi p => ?_) (fun G p => ?_)
    · obtain ⟨ds, pD, mem, len, pP, pB⟩ := p
      refine ⟨rfl, ?_⟩
      dsimp only [tYes]
      rw [if_pos rfl]
      refine ⟨_, rfl, _, rfl, d, c, n + 1 + i, ns, _, rfl, pP, by omega, .inr ⟨z, rfl, z0, z1, fun x G1 hx pP1 b2 => ?_⟩⟩
      refine ⟨_, b2 _ _ pD nDd, Nat.lt_of_le_of_lt (by unfold cs; rw [List.length_map]; omega : _ ≤ 1000000) (by decide), ds ++ [x], ?_, ?_, ?_, ?_, ?_⟩
      · unfold cs
        rw [List.map_append]
        exact upd_same
      · intro y hy
        rcases List.mem_append.mp hy with h | h
        · exact mem y h
        · rw [List.mem_singleton] at h
          exact h ▸ hx
      · rw [List.length_append, len]
        rfl
      · have e : n + 1 + ((i + 1 : Nat) : Int) = n + 1 + i + 1 := by omega
        rw [e]
        exact pP1.put nDd nDc
      · exact (pB.trans b2).put nH
    · obtain ⟨ds, pD, mem, len, pP, pB⟩ := p
      replace len : ds.length = (a + r).toNat := len
      refine ⟨_, D, ds.map sg, rfl, rfl, .inl (by rw [← cs_strs]; exact SqL.of pD), (by rw [sum_sg, List.length_map]; show ds.length + ds.length * 0 ≤ 16777216; omega), ?_⟩
      have ej : cod (Txt.join "" (ds.map sg)) = ds := join_sg ds
      have el : (Txt.join "" (ds.map sg)).length = (a + r).toNat := by rw [← len_cod, ej, len]
      refine k _ _ (by rw [ej]; exact mem) (by rw [el]; omega) (by rw [el]; omega) ?_ pB
      obtain ⟨kvs, t', l', q⟩ := pP
      exact q.more (by show n + 1 + (((a + r).toNat : Nat) : Int) ≤ _; omega)
end
end LA
end
section
set_option Elab.async false
set_option linter.all false
set_option maxRecDepth 100000
set_option maxHeartbeats 4100000
namespace LA
open PySem L2 XS XT
abbrev sLetter : Stmt := top 9
abbrev sLine : Stmt := top 10
abbrev sWord : Stmt := top 11
abbrev sShort : Stmt := top 12
abbrev sDiff : Stmt := top 13
abbrev sChkW : Stmt := top 31
/-- a branch that is never gone -/
theorem pss_never {X : Cx} {ss : List Stmt} : PSs X ss (fun _ _ _ => False) := ⟨fun _ _ _ _ _ _ h => h.elim⟩
/-- what the program's modules give -/
structure PkT (mg : Str → Option Value) (t1 t2 t3 t4 : Tok) : Prop where
  len : mg "len" = none
  set : mg "set" = none
  all : mg "all" = none
  ord : mg "ord" = none
  isM : mg "isinstance" = none
  str : mg "str" = none
  first : mg "FIRST_LETTER" = some (.int 32 t1)
  last : mg "LAST_LETTER" = some (.int 126 t2)
  per : mg "PERCENT_SIGN" = some (.int 37 t3)
  word : mg "MAX_WORD" = some (.int 8 t4)
def lineB (z : Str) : Bool := (cod z).all fun c => decide (Lt c)
section
variable {P : Program} {w : World} {K : PySem.W.Frag} {mg : Str → Option Value} {base : Heap} {t1 t2 t3 t4 : Tok}
structure CallOf (P : Program) (w : World) (K : PySem.W.Frag) (mg : Str → Option Value) (base : Heap) (k : Nat) (x : Str) (ps : List Str) (sp : Sp) (f : Addr) (fd : FuncData) : Prop where
  ok : FnOk P w K mg base CX0 k f fd ps sp
  m : mg x = some (.ref f)
  k : PySem.W.keepIn K (.ref f) = true
  b : Binds K fd ps []
/-- is_letter of a text of one sign -/
def spLetter : Sp := fun vs H Q _ => ∃ c, vs = [.str (sg c)] ∧ Q (.bl (decide (Lt c))) H
theorem scLe : FnScope ["character", "code"] ["character"] (defScope sLetter) := ⟨rfl, rfl, rfl, by decide +kernel, rfl, by decide +kernel, by decide +kernel⟩
theorem ok_letter {f : Addr} {fd : FuncData} (F : Fun K "is_letter" "is_letter" sLetter f fd) (T : PkT mg t1 t2 t3 t4) : FnOk P w K mg base CX0 1 f fd ["character"] spLetter := by
  refine F.ok scLe (fun vs H Q E h => ?_) (fun cdv A outer s H vs Q E hr h => ?_)
  · obtain ⟨c, rfl, _⟩ := h
    rfl
  · obtain ⟨c, rfl, q⟩ := h
    refine ⟨_, pss_cons (by exact (ps_set (i := 1) scLe.nd rfl (.inl rfl) (pe_callB call_ord (by rfl) T.ord (by decide +kernel) (pa_cons (pv 0) pa_nil)))) (
      pss_one (by exact (ps_ret (pe_and (pe_chain op_le op_le (pe_glob (v := .int 32) rfl T.first ⟨_, rfl⟩) (pv 1) (pe_glob (v := .int 126) rfl T.last ⟨_, rfl⟩)) (pe_one (pe_cmpR op_ne (pv 1) (pe_glob (v := .int 37) rfl T.per ⟨_, rfl⟩) (nomark _))))))), ?_⟩
    refine ⟨_, rfl, _, rfl, rfl, ?_⟩
    have e0 : (((sg c).cps.getD 0 0 : Nat) : Int) = (c : Int) := rfl
    rw [e0]
    refine ⟨_, rfl, _, _, rfl, rfl, _, rfl, ?_⟩
    by_cases h1 : (32 : Int) ≤ (c : Int)
    · rw [decide_eq_true h1]
      refine iteT ?_
      refine ⟨_, _, rfl, rfl, _, rfl, ?_⟩
      by_cases h2 : (c : Int) ≤ 126
      · rw [decide_eq_true h2]
        refine iteT ?_
        refine ⟨_, rfl, rfl, ?_⟩
        have e : (!decide (V.int (c : Int) = V.int 37)) = decide (Lt c) := by
          by_cases h3 : c = 37
          · subst h3
            decide
          · rw [decide_eq_false (fun z => h3 (by injection z; omega))]
            exact (decide_eq_true ⟨by omega, by omega, h3⟩).symm
        rw [e]
        exact q
      · rw [decide_eq_false h2]
        refine iteF ?_
        have e : decide (Lt c) = false := decide_eq_false (fun z => h2 (by have := z.2.1; omega))
        rw [e] at q
        exact q
    · rw [decide_eq_false h1]
      refine iteF ?_
      refine ⟨_, rfl, ?_⟩
      refine iteF ?_
      have e : decide (Lt c) = false := decide_eq_false (fun z => h1 (by have := z.1; omega))
      rw [e] at q
      exact q
/-- is_line of any value -/
def spLine (K : PySem.W.Frag) : Sp := fun vs H Q _ => ∃ x, vs = [x] ∧ ((∃ z : Str, x = .str z ∧ z.length < 1000000 ∧ ∀ H', Same H H' → Q (.bl (lineB z)) H') ∨
  ((∀ z, x ≠ .str z) ∧ (∃ t, TyX K H x t ∧ PySem.W.kitOne K t (.type "str") = some false) ∧ Q (.bl false) H))
theorem scLi : FnScope ["value", "character"] ["value"] (defScope sLine) := ⟨rfl, rfl, rfl, by decide +kernel, rfl, by decide +kernel, by decide +kernel⟩
theorem ok_line {f f1 : Addr} {fd fd1 : FuncData} (F : Fun K "is_line" "is_line" sLine f fd) (T : PkT mg t1 t2 t3 t4) (M : CallOf P w K mg base 1 "is_letter" ["character"] spLetter f1 fd1) : FnOk P w K mg base CX0 2 f fd ["value"] (spLine K) := by
  refine F.ok scLi (fun vs H Q E h => ?_) (fun cdv A outer s H vs Q E hr h => ?_)
  · obtain ⟨x, rfl, _⟩ := h
    rfl
  · obtain ⟨x, rfl, q⟩ := h
    refine ⟨_, pss_one (by exact (ps_ret (pe_and (pe_callB call_isi (by rfl) T.isM (by decide +kernel) (pa_cons (pv 0) (pa_cons (pe_bltn (v := .ty "str") (by rfl) T.str (by decide +kernel) rfl) pa_nil)))
      (pe_one (pe_callB (cr_all rfl) (by rfl) T.all (by decide +kernel) (pa_cons (pe_lc (own := [("character", 1)]) (g := gName 1) (tt := tYes) (te := tCall spLetter [] (fun _ _ _ => False) (tCons (tVar 1) tNil)) rfl scLi.nd (pi_str (pv 0))
        (blkOk_by (N := ["value", "character"]) (sc := defScope sLine) (by decide +kernel))
        (fun _ _ _ _ _ => by exact (pg_name (i := 1) scLi.nd rfl (Or.inl rfl)))
        (fun _ _ _ _ _ => by exact pts_nil)
        (fun _ _ _ _ _ => by exact (pe_call M.ok hr rfl M.m M.k M.b .nil pass0 (pa_cons (pv 1) pa_nil)))) pa_nil)))))), ?_⟩
    refine ⟨_, rfl, ?_⟩
    rcases q with ⟨z, rfl, small, q⟩ | ⟨nz, ⟨t, ty, ki⟩, q⟩
    · refine ⟨_, _, _, _, true, rfl, .ty _, .base (.str _), kit_ty (by decide +kernel), _, rfl, ?_⟩
      refine iteT ?_
      refine ⟨_, rfl, z, rfl, fun D nD => ?_⟩
      refine lc_it walk_str (fun i G => G D = some (.lst (((cod z).take i).map fun c => V.bl (decide (Lt c)))) ∧ Same H G) ⟨upd_same, same_upd nD⟩ (fun _ _ _ _ => True.intro) (fun i x G G' hi p y => ?_) (fun G p => ?_)
      · obtain ⟨pD, pS⟩ := p
        obtain ⟨rfl, c, hc, rfl⟩ := y
        have hc2 : (cod z)[i]? = some c := by
          show z.cps.toList[i]? = some c
          rw [Array.getElem?_toList]
          exact hc
        refine ⟨rfl, ?_⟩
        dsimp only [tYes]
        rw [if_pos rfl]
        refine ⟨_, rfl, c, rfl, _, pD, ?_, ?_, ?_⟩
        · rw [List.length_map, List.length_take]
          exact Nat.lt_of_le_of_lt (Nat.min_le_right _ _) (by rw [len_cod]; exact Nat.lt_trans small (by decide))
        · rw [List.take_succ, hc2, List.map_append]
          exact upd_same
        · intro b o e
          rw [upd_ne]
          · exact pS b o e
          · exact ne_of_none e nD
      · obtain ⟨pD, pS⟩ := p
        refine ⟨_, ((cod z).map fun c => decide (Lt c)), rfl, ?_, ?_⟩
        · have e : ((cod z).take z.cps.size) = cod z := List.take_of_length_le (by rw [len_cod]; exact Nat.le_refl _)
          rw [e] at pD
          rw [List.map_map]
          exact SqL.of pD
        · have e : ((cod z).map fun c => decide (Lt c)).all id = lineB z := by
            unfold lineB
            rw [List.all_map]
            rfl
          rw [e]
          exact q G pS
    · refine ⟨_, _, _, _, false, rfl, .ty _, ty, ki, _, rfl, ?_⟩
      exact iteF q
/-- a question on any value that asks a text for b, and says no of all else -/
def spAsk (K : PySem.W.Frag) (b : Str → Bool) : Sp := fun vs H Q _ => ∃ x, vs = [x] ∧ ((∃ z : Str, x = .str z ∧ z.length < 1000000 ∧ ∀ H', Same H H' → Q (.bl (b z)) H') ∨
  ((∀ z, x ≠ .str z) ∧ (∃ t, TyX K H x t ∧ PySem.W.kitOne K t (.type "str") = some false) ∧ Q (.bl false) H))
theorem ask_line {K : PySem.W.Frag} : spAsk K lineB = spLine K := rfl
def wordB (z : Str) : Bool := lineB z && decide (0 < z.length)
def shortB (z : Str) : Bool := wordB z && decide (z.length ≤ 8)
theorem str_empty (z : Str) : (!decide (V.str z = V.str "")) = decide (0 < z.length) := by
  by_cases h : z.length = 0
  · have e : z = "" := cod_ext (by
      have : (cod z).length = 0 := by rw [len_cod]; exact h
      rw [List.length_eq_zero_iff.mp this]
      rfl)
    subst e
    decide
  · have e : ¬ V.str z = V.str "" := fun y => h (by injection y with y; subst y; rfl)
    rw [decide_eq_false e, decide_eq_true (Nat.pos_of_ne_zero h)]
    rfl
theorem scWo : FnScope ["value"] ["value"] (defScope sWord) := ⟨rfl, rfl, rfl, by decide +kernel, rfl, by decide +kernel, by decide +kernel⟩
theorem ok_word {f f1 : Addr} {fd fd1 : FuncData} (F : Fun K "is_word" "is_word" sWord f fd) (M : CallOf P w K mg base 2 "is_line" ["value"] (spLine K) f1 fd1) : FnOk P w K mg base CX0 3 f fd ["value"] (spAsk K wordB) := by
  refine F.ok scWo (fun vs H Q E h => ?_) (fun cdv A outer s H vs Q E hr h => ?_)
  · obtain ⟨x, rfl, _⟩ := h
    rfl
  · obtain ⟨x, rfl, q⟩ := h
    refine ⟨_, pss_one (by exact (ps_ret (pe_and (pe_call M.ok hr rfl M.m M.k M.b .nil pass0 (pa_cons (pv 0) pa_nil)) (pe_one (pe_cmpR op_ne (pv 0) pe_str (nomark _)))))), ?_⟩
    rcases q with ⟨z, rfl, small, q⟩ | ⟨nz, ty, q⟩
    · refine ⟨_, rfl, _, rfl, .inl ⟨z, rfl, small, fun H' sm => ⟨_, rfl, ?_⟩⟩⟩
      cases hl : lineB z with
      | true =>
        refine iteT ⟨_, rfl, rfl, ?_⟩
        rw [str_empty]
        have e : wordB z = decide (0 < z.length) := by unfold wordB; rw [hl, Bool.true_and]
        rw [← e]
        exact q H' sm
      | false =>
        refine iteF ?_
        have e : wordB z = false := by unfold wordB; rw [hl, Bool.false_and]
        rw [← e]
        exact q H' sm
    · exact ⟨_, rfl, _, rfl, .inr ⟨nz, ty, _, rfl, iteF q⟩⟩
theorem scSh : FnScope ["value"] ["value"] (defScope sShort) := ⟨rfl, rfl, rfl, by decide +kernel, rfl, by decide +kernel, by decide +kernel⟩
theorem ok_short {f f1 : Addr} {fd fd1 : FuncData} (F : Fun K "is_short_word" "is_short_word" sShort f fd) (T : PkT mg t1 t2 t3 t4) (M : CallOf P w K mg base 3 "is_word" ["value"] (spAsk K wordB) f1 fd1) : FnOk P w K mg base CX0 4 f fd ["value"] (spAsk K shortB) := by
  refine F.ok scSh (fun vs H Q E h => ?_) (fun cdv A outer s H vs Q E hr h => ?_)
  · obtain ⟨x, rfl, _⟩ := h
    rfl
  · obtain ⟨x, rfl, q⟩ := h
    refine ⟨_, pss_one (by exact (ps_ret (pe_and (pe_call M.ok hr rfl M.m M.k M.b .nil pass0 (pa_cons (pv 0) pa_nil)) (pe_one (pe_cmpR op_le (pe_callB call_len_str (by rfl) T.len PySem.boot_len (pa_cons (pv 0) pa_nil)) (pe_glob (v := .int 8) rfl T.word ⟨_, rfl⟩) (nomark _)))))), ?_⟩
    rcases q with ⟨z, rfl, small, q⟩ | ⟨nz, ty, q⟩
    · refine ⟨_, rfl, _, rfl, .inl ⟨z, rfl, small, fun H' sm => ⟨_, rfl, ?_⟩⟩⟩
      cases hl : wordB z with
      | true =>
        refine iteT ⟨_, rfl, z, rfl, Nat.le_of_lt (Nat.lt_trans small (by decide)), _, _, rfl, rfl, ?_⟩
        have e : shortB z = decide ((z.length : Int) ≤ 8) := by
          unfold shortB
          rw [hl, Bool.true_and]
          by_cases h : z.length ≤ 8
          · rw [decide_eq_true h, decide_eq_true (by omega)]
          · rw [decide_eq_false h, decide_eq_false (by omega)]
        show Q (.bl (decide ((z.length : Int) ≤ 8))) H'
        rw [← e]
        exact q H' sm
      | false =>
        refine iteF ?_
        have e : shortB z = false := by unfold shortB; rw [hl, Bool.false_and]
        rw [← e]
        exact q H' sm
    · exact ⟨_, rfl, _, rfl, .inr ⟨nz, ty, _, rfl, iteF q⟩⟩
/-- are_different of a text -/
def spDiffT : Sp := fun vs H Q _ => ∃ z : Str, vs = [.str z] ∧ z.length < 4000 ∧ Q (.bl (decide (cod z).Nodup)) H
theorem scDi : FnScope ["line"] ["line"] (defScope sDiff) := ⟨rfl, rfl, rfl, by decide +kernel, rfl, by decide +kernel, by decide +kernel⟩
theorem ok_diff {f : Addr} {fd : FuncData} (F : Fun K "are_different" "are_different" sDiff f fd) (T : PkT mg t1 t2 t3 t4) : FnOk P w K mg base CX0 1 f fd ["line"] spDiffT := by
  refine F.ok scDi (fun vs H Q E h => ?_) (fun cdv A outer s H vs Q E hr h => ?_)
  · obtain ⟨z, rfl, _⟩ := h
    rfl
  · obtain ⟨z, rfl, small, q⟩ := h
    refine ⟨_, pss_one (by exact (ps_ret (pe_cmpR op_eq (pe_lenSetX rfl (by rfl) T.len (by rfl) T.set (pv 0)) (pe_callB call_len_str (by rfl) T.len PySem.boot_len (pa_cons (pv 0) pa_nil)) (nomark _)))), ?_⟩
    refine ⟨_, rfl, z, rfl, small, fun m iff => ⟨_, rfl, z, rfl, Nat.le_of_lt (Nat.lt_trans small (by decide)), rfl, ?_⟩⟩
    have e : decide (V.int (m : Int) = V.int (z.length : Int)) = decide (cod z).Nodup := by
      by_cases h : (cod z).Nodup
      · rw [decide_eq_true h, iff.mpr h]
        exact decide_eq_true rfl
      · rw [decide_eq_false h]
        exact decide_eq_false fun y => h (iff.mp (by injection y; omega))
    rw [e]
    exact q
/-- check_word of a word that may be taken -/
def spChkW : Sp := fun vs H Q _ => ∃ z : Str, vs = [.str z] ∧ shortB z = true ∧ ∀ H', Same H H' → Q .non H'
theorem scCw : FnScope ["word"] ["word"] (defScope sChkW) := ⟨rfl, rfl, rfl, by decide +kernel, rfl, by decide +kernel, by decide +kernel⟩
theorem ok_chkW {f f1 : Addr} {fd fd1 : FuncData} (F : Fun K "check_word" "check_word" sChkW f fd) (M : CallOf P w K mg base 4 "is_short_word" ["value"] (spAsk K shortB) f1 fd1) : FnOk P w K mg base CX0 5 f fd ["word"] spChkW := by
  refine F.ok scCw (fun vs H Q E h => ?_) (fun cdv A outer s H vs Q E hr h => ?_)
  · obtain ⟨z, rfl, _⟩ := h
    rfl
  · obtain ⟨z, rfl, ok, q⟩ := h
    have small : z.length < 1000000 := by
      unfold shortB at ok
      have := (Bool.and_eq_true_iff.mp ok).2
      have := of_decide_eq_true this
      omega
    refine ⟨_, pss_one (by exact (ps_if (pt_not (pt_val (pe_call M.ok hr rfl M.m M.k M.b .nil pass0 (pa_cons (pv 0) pa_nil)))) pss_never pss_nil)), ?_⟩
    refine ⟨_, rfl, _, rfl, .inl ⟨z, rfl, small, fun H' sm => ⟨_, rfl, ?_⟩⟩⟩
    rw [ok]
    exact iteF (q H' sm)
end
end LA
end
section
set_option Elab.async false
set_option linter.all false
set_option maxRecDepth 100000
set_option maxHeartbeats 4100000
namespace LA
open PySem L2 XS XT
/-- the def at place j of the class at place i -/
def cb (i j : Nat) : Stmt := match top i with
  | .ClassDef (body := b) .. => b.getD j (.Pass ⟨0, 0, 0, 0⟩)
  | _ => .Pass ⟨0, 0, 0, 0⟩
/-- a class whose objects keep one value, under the name fld -/
structure C1 (K : PySem.W.Frag) (C : Addr) (fld : Str) : Prop where
  cls : Cls K C
  no : NoAttr K C fld
section
variable {P : Program} {w : World} {K : PySem.W.Frag} {mg : Str → Option Value} {base : Heap} {t1 t2 t3 t4 : Tok}
/-- the making of a test without tests in it -/
def spInit1 (C : Addr) (fld : Str) (ok : Str → Prop) : Sp := fun vs H Q _ => ∃ (a dx : Addr) (z : Str), vs = [.ref a, .str z] ∧ H a = some (.ins C dx []) ∧ ok z ∧ ∀ H', H' a = some (.ins C dx [(fld, .str z)]) → But a H H' → Q .non H'
theorem But.same_put {a : Addr} {H H' : Hp} {o : HO} (s : Same H H') : But a H (upd H' a o) := fun b u e n => by
  rw [upd_ne n]
  exact s b u e
abbrev sIHas : Stmt := cb 17 0
theorem scIHas : FnScope ["self", "word"] ["self", "word"] (defScope sIHas) := ⟨rfl, rfl, rfl, by decide +kernel, rfl, by decide +kernel, by decide +kernel⟩
theorem ok_IHas {f f1 C : Addr} {fd fd1 : FuncData} (F : Fun K "__init__" "Has.__init__" sIHas f fd) (T : C1 K C "_word") (M : CallOf P w K mg base 5 "check_word" ["word"] spChkW f1 fd1) :
    FnOk P w K mg base CX0 6 f fd ["self", "word"] (spInit1 C "_word" fun z => shortB z = true) := by
  refine F.ok scIHas (fun vs H Q E h => ?_) (fun cdv A outer s H vs Q E hr h => ?_)
  · obtain ⟨a, dx, z, rfl, _⟩ := h
    rfl
  · obtain ⟨a, dx, z, rfl, ha, ok, q⟩ := h
    refine ⟨_, pss_cons (by exact (ps_expr (pe_call M.ok hr rfl M.m M.k M.b .nil pass0 (pa_cons (pv 1) pa_nil)))) (pss_one (by exact (ps_fld (pv 0) (pv 1) rfl))), ?_⟩
    refine ⟨_, rfl, z, rfl, ok, fun H' sm => ⟨_, rfl, _, rfl, a, C, dx, [], rfl, sm _ _ ha, T.cls, T.no, by decide, ?_⟩⟩
    exact q _ upd_same (But.same_put sm)
abbrev sIBegins : Stmt := cb 18 0
theorem scIBegins : FnScope ["self", "word"] ["self", "word"] (defScope sIBegins) := ⟨rfl, rfl, rfl, by decide +kernel, rfl, by decide +kernel, by decide +kernel⟩
theorem ok_IBegins {f f1 C : Addr} {fd fd1 : FuncData} (F : Fun K "__init__" "Begins.__init__" sIBegins f fd) (T : C1 K C "_word") (M : CallOf P w K mg base 5 "check_word" ["word"] spChkW f1 fd1) :
    FnOk P w K mg base CX0 6 f fd ["self", "word"] (spInit1 C "_word" fun z => shortB z = true) := by
  refine F.ok scIBegins (fun vs H Q E h => ?_) (fun cdv A outer s H vs Q E hr h => ?_)
  · obtain ⟨a, dx, z, rfl, _⟩ := h
    rfl
  · obtain ⟨a, dx, z, rfl, ha, ok, q⟩ := h
    refine ⟨_, pss_cons (by exact (ps_expr (pe_call M.ok hr rfl M.m M.k M.b .nil pass0 (pa_cons (pv 1) pa_nil)))) (pss_one (by exact (ps_fld (pv 0) (pv 1) rfl))), ?_⟩
    refine ⟨_, rfl, z, rfl, ok, fun H' sm => ⟨_, rfl, _, rfl, a, C, dx, [], rfl, sm _ _ ha, T.cls, T.no, by decide, ?_⟩⟩
    exact q _ upd_same (But.same_put sm)
abbrev sIEnds : Stmt := cb 19 0
theorem scIEnds : FnScope ["self", "word"] ["self", "word"] (defScope sIEnds) := ⟨rfl, rfl, rfl, by decide +kernel, rfl, by decide +kernel, by decide +kernel⟩
theorem ok_IEnds {f f1 C : Addr} {fd fd1 : FuncData} (F : Fun K "__init__" "Ends.__init__" sIEnds f fd) (T : C1 K C "_word") (M : CallOf P w K mg base 5 "check_word" ["word"] spChkW f1 fd1) :
    FnOk P w K mg base CX0 6 f fd ["self", "word"] (spInit1 C "_word" fun z => shortB z = true) := by
  refine F.ok scIEnds (fun vs H Q E h => ?_) (fun cdv A outer s H vs Q E hr h => ?_)
  · obtain ⟨a, dx, z, rfl, _⟩ := h
    rfl
  · obtain ⟨a, dx, z, rfl, ha, ok, q⟩ := h
    refine ⟨_, pss_cons (by exact (ps_expr (pe_call M.ok hr rfl M.m M.k M.b .nil pass0 (pa_cons (pv 1) pa_nil)))) (pss_one (by exact (ps_fld (pv 0) (pv 1) rfl))), ?_⟩
    refine ⟨_, rfl, z, rfl, ok, fun H' sm => ⟨_, rfl, _, rfl, a, C, dx, [], rfl, sm _ _ ha, T.cls, T.no, by decide, ?_⟩⟩
    exact q _ upd_same (But.same_put sm)
abbrev sIIs : Stmt := cb 20 0
theorem scIIs : FnScope ["self", "line"] ["self", "line"] (defScope sIIs) := ⟨rfl, rfl, rfl, by decide +kernel, rfl, by decide +kernel, by decide +kernel⟩
theorem ok_IIs {f f1 C : Addr} {fd fd1 : FuncData} {t5 : Tok} (F : Fun K "__init__" "Is.__init__" sIIs f fd) (T : C1 K C "_line") (L : PkT mg t1 t2 t3 t4) (mM : mg "MAX_LINE" = some (.int 20 t5)) (M : CallOf P w K mg base 2 "is_line" ["value"] (spLine K) f1 fd1) :
    FnOk P w K mg base CX0 6 f fd ["self", "line"] (spInit1 C "_line" fun z => lineB z = true ∧ z.length ≤ 20) := by
  refine F.ok scIIs (fun vs H Q E h => ?_) (fun cdv A outer s H vs Q E hr h => ?_)
  · obtain ⟨a, dx, z, rfl, _⟩ := h
    rfl
  · obtain ⟨a, dx, z, rfl, ha, ⟨ok, len⟩, q⟩ := h
    have hr2 : Room 2 _ := hr.mono (by decide)
    refine ⟨_, pss_cons (by exact (ps_if (PW.pt (pw_or (pt_not (pt_val (pe_call M.ok hr2 rfl M.m M.k M.b .nil pass0 (pa_cons (pv 1) pa_nil)))) (pw_or1 (pt_cmpR op_gt (pe_callB call_len_str (by rfl) L.len PySem.boot_len (pa_cons (pv 1) pa_nil)) (pe_glob (v := .int 20) rfl mM ⟨_, rfl⟩) (nomark _))))) pss_never pss_nil)) (pss_one (by exact (ps_fld (pv 0) (pv 1) rfl))), ?_⟩
    refine ⟨_, rfl, _, rfl, .inl ⟨z, rfl, by omega, fun H' sm => ⟨_, rfl, ?_⟩⟩⟩
    rw [ok]
    refine iteF ⟨_, rfl, z, rfl, Nat.le_trans len (by decide), _, _, rfl, rfl, _, rfl, ?_⟩
    rw [decide_eq_false
          (by omega)]
    refine iteF ⟨_, rfl, _, rfl, a, C, dx, [], rfl, sm _ _ ha, T.cls, T.no, by decide, ?_⟩
    exact q _ upd_same (But.same_put sm)
abbrev sIOn : Stmt := cb 21 0
theorem scIOn : FnScope ["self", "letters"] ["self", "letters"] (defScope sIOn) := ⟨rfl, rfl, rfl, by decide +kernel, rfl, by decide +kernel, by decide +kernel⟩
theorem ok_IOn {f f1 f2 C : Addr} {fd fd1 fd2 : FuncData} (F : Fun K "__init__" "Only.__init__" sIOn f fd) (T : C1 K C "_letters") (M : CallOf P w K mg base 2 "is_line" ["value"] (spLine K) f1 fd1) (D : CallOf P w K mg base 1 "are_different" ["line"] spDiffT f2 fd2) :
    FnOk P w K mg base CX0 6 f fd ["self", "letters"] (spInit1 C "_letters" fun z => lineB z = true ∧ (cod z).Nodup ∧ z.length < 4000) := by
  refine F.ok scIOn (fun vs H Q E h => ?_) (fun cdv A outer s H vs Q E hr h => ?_)
  · obtain ⟨a, dx, z, rfl, _⟩ := h
    rfl
  · obtain ⟨a, dx, z, rfl, ha, ⟨ok, nd, len⟩, q⟩ := h
    have hr2 : Room 2 _ := hr.mono (by decide)
    have hr1 : Room 1 _ := hr.mono (by decide)
    refine ⟨_, pss_cons (by exact (ps_if (PW.pt (pw_or (pt_not (pt_val (pe_call M.ok hr2 rfl M.m M.k M.b .nil pass0 (pa_cons (pv 1) pa_nil)))) (pw_or1 (pt_not (pt_val (pe_call D.ok hr1 rfl D.m D.k D.b .nil pass0 (pa_cons (pv 1) pa_nil))))))) pss_never pss_nil)) (pss_one (by exact (ps_fld (pv 0) (pv 1) rfl))), ?_⟩
    refine ⟨_, rfl, _, rfl, .inl ⟨z, rfl, by omega, fun H' sm => ⟨_, rfl, ?_⟩⟩⟩
    rw [ok]
    refine iteF ⟨_, rfl, z, rfl, len, _, rfl, ?_⟩
    rw [decide_eq_true nd]
    refine iteF ⟨_, rfl, _, rfl, a, C, dx, [], rfl, sm _ _ ha, T.cls, T.no, by decide, ?_⟩
    exact q _ upd_same (But.same_put sm)
end
end LA
end
section
set_option Elab.async false
set_option linter.all false
set_option maxRecDepth 100000
set_option maxHeartbeats 4100000
namespace LA
open PySem L2 XS XT
/-- a plain test: a simple one of a sort, one that fails, one of two -/
inductive G where
  | leaf (s : Nat) (z : Str)
  | fails (g : G)
  | pair (s : Nat) (a b : G)
def hasB (z y : Str) : Bool := !(Builtin.Str.occurrences y z 0 y.length 1).isEmpty
def onlyB (z y : Str) : Bool := (cod y).all fun c => decide (c ∈ cod z)
def leafB : Nat → Str → Str → Bool
  | 0, z, y => hasB z y
  | 1, z, y => Txt.startswith y z
  | 2, z, y => Txt.endswith y z
  | 3, z, y => decide (V.str y = V.str z)
  | _, z, y => onlyB z y
def G.val : G → Str → Bool
  | .leaf s z, y => leafB s z y
  | .fails g, y => !g.val y
  | .pair 0 a b, y => a.val y && b.val y
  | .pair _ a b, y => a.val y || b.val y
section
variable {P : Program} {w : World} {K : PySem.W.Frag} {mg : Str → Option Value} {base : Heap} {t1 t2 t3 t4 : Tok}
/-- holds of a simple test -/
def spHoldL (C : Addr) (fld : Str) (b : Str → Str → Bool) : Sp := fun vs H Q _ => ∃ (a dx : Addr) (z y : Str), vs = [.ref a, .str y] ∧ H a = some (.ins C dx [(fld, .str z)]) ∧ y.length < 1000000 ∧ ∀ H', Same H H' → Q (.bl (b z y)) H'
/-- one sign in a text -/
def rSg : R2 := fun x y H Q => ∃ (c : Nat) (z : Str), x = .str ⟨#[c]⟩ ∧ y = .str z ∧ Q (.bl (decide (c ∈ z.cps.toList))) H
theorem look1 {f : Str} {v : V} : ([(f, v)] : List (Str × V)).lookup f = some v := by
  simp
abbrev sHHas : Stmt := cb 17 2
theorem scHHas : FnScope ["self", "line"] ["self", "line"] (defScope sHHas) := ⟨rfl, rfl, rfl, by decide +kernel, rfl, by decide +kernel, by decide +kernel⟩
theorem ok_HHas {f C : Addr} {fd : FuncData} (F : Fun K "holds" "Has.holds" sHHas f fd) (T : C1 K C "_word") : FnOk P w K mg base CX0 1 f fd ["self", "line"] (spHoldL C "_word" (leafB 0)) := by
  refine F.ok scHHas (fun vs H Q E h => ?_) (fun cdv A outer s H vs Q E hr h => ?_)
  · obtain ⟨a, dx, z, y, rfl, _⟩ := h
    rfl
  · obtain ⟨a, dx, z, y, rfl, ha, small, q⟩ := h
    refine ⟨_, pss_one (by exact (ps_ret (pe_cmpR op_in_str (pe_fld (pv 0) rfl) (pv 1) (by rfl)))), ?_⟩
    exact ⟨_, rfl, a, C, dx, _, _, rfl, ha, T.cls, T.no, look1, _, rfl, _, _, rfl, rfl, q H (fun _ _ e => e)⟩
abbrev sHBegins : Stmt := cb 18 2
theorem scHBegins : FnScope ["self", "line"] ["self", "line"] (defScope sHBegins) := ⟨rfl, rfl, rfl, by decide +kernel, rfl, by decide +kernel, by decide +kernel⟩
theorem ok_HBegins {f C : Addr} {fd : FuncData} (F : Fun K "holds" "Begins.holds" sHBegins f fd) (T : C1 K C "_word") : FnOk P w K mg base CX0 1 f fd ["self", "line"] (spHoldL C "_word" (leafB 1)) := by
  refine F.ok scHBegins (fun vs H Q E h => ?_) (fun cdv A outer s H vs Q E hr h => ?_)
  · obtain ⟨a, dx, z, y, rfl, _⟩ := h
    rfl
  · obtain ⟨a, dx, z, y, rfl, ha, small, q⟩ := h
    refine ⟨_, pss_one (by exact (ps_ret (pe_m1 PySem.F.slot_str_startswith PySem.F.type_str_startswith mt_startswith (pv 1) (pe_fld (pv 0) rfl)))), ?_⟩
    exact ⟨_, rfl, ⟨_, rfl⟩, _, rfl, a, C, dx, _, _, rfl, ha, T.cls, T.no, look1, _, _, rfl, rfl, q H (fun _ _ e => e)⟩
abbrev sHEnds : Stmt := cb 19 2
theorem scHEnds : FnScope ["self", "line"] ["self", "line"] (defScope sHEnds) := ⟨rfl, rfl, rfl, by decide +kernel, rfl, by decide +kernel, by decide +kernel⟩
theorem ok_HEnds {f C : Addr} {fd : FuncData} (F : Fun K "holds" "Ends.holds" sHEnds f fd) (T : C1 K C "_word") : FnOk P w K mg base CX0 1 f fd ["self", "line"] (spHoldL C "_word" (leafB 2)) := by
  refine F.ok scHEnds (fun vs H Q E h => ?_) (fun cdv A outer s H vs Q E hr h => ?_)
  · obtain ⟨a, dx, z, y, rfl, _⟩ := h
    rfl
  · obtain ⟨a, dx, z, y, rfl, ha, small, q⟩ := h
    refine ⟨_, pss_one (by exact (ps_ret (pe_m1 PySem.F.slot_str_endswith PySem.F.type_str_endswith mt_endswith (pv 1) (pe_fld (pv 0) rfl)))), ?_⟩
    exact ⟨_, rfl, ⟨_, rfl⟩, _, rfl, a, C, dx, _, _, rfl, ha, T.cls, T.no, look1, _, _, rfl, rfl, q H (fun _ _ e => e)⟩
abbrev sHIs : Stmt := cb 20 2
theorem scHIs : FnScope ["self", "line"] ["self", "line"] (defScope sHIs) := ⟨rfl, rfl, rfl, by decide +kernel, rfl, by decide +kernel, by decide +kernel⟩
theorem ok_HIs {f C : Addr} {fd : FuncData} (F : Fun K "holds" "Is.holds" sHIs f fd) (T : C1 K C "_line") : FnOk P w K mg base CX0 1 f fd ["self", "line"] (spHoldL C "_line" (leafB 3)) := by
  refine F.ok scHIs (fun vs H Q E h => ?_) (fun cdv A outer s H vs Q E hr h => ?_)
  · obtain ⟨a, dx, z, y, rfl, _⟩ := h
    rfl
  · obtain ⟨a, dx, z, y, rfl, ha, small, q⟩ := h
    refine ⟨_, pss_one (by exact (ps_ret (pe_cmpR op_eq (pv 1) (pe_fld (pv 0) rfl) (nomark _)))), ?_⟩
    exact ⟨_, rfl, _, rfl, a, C, dx, _, _, rfl, ha, T.cls, T.no, look1, rfl, q H (fun _ _ e => e)⟩
abbrev sHOn : Stmt := cb 21 2
theorem scHOn : FnScope ["self", "line", "letter"] ["self", "line"] (defScope sHOn) := ⟨rfl, rfl, rfl, by decide +kernel, rfl, by decide +kernel, by decide +kernel⟩
theorem ok_HOn {f C : Addr} {fd : FuncData} (F : Fun K "holds" "Only.holds" sHOn f fd) (T : C1 K C "_letters") (mA : mg "all" = none) : FnOk P w K mg base CX0 1 f fd ["self", "line"] (spHoldL C "_letters" (leafB 4)) := by
  refine F.ok scHOn (fun vs H Q E h => ?_) (fun cdv A outer s H vs Q E hr h => ?_)
  · obtain ⟨a, dx, z, y, rfl, _⟩ := h
    rfl
  · obtain ⟨a, dx, z, y, rfl, ha, small, q⟩ := h
    refine ⟨_, pss_one (by exact (ps_ret (pe_callB (cr_all rfl) (by rfl) mA (by decide +kernel) (pa_cons (pe_lc (own := [("letter", 2)]) (g := gName 2) (tt := tYes) (te := tOp rSg (tVar 2) (tFld K (tVar 0) "_letters")) rfl scHOn.nd (pi_str (pv 1))
        (blkOk_by (N := ["self", "line", "letter"]) (sc := defScope sHOn) (by decide +kernel))
        (fun _ _ _ _ _ => by exact (pg_name (i := 2) scHOn.nd rfl (Or.inl rfl)))
        (fun _ _ _ _ _ => by exact pts_nil)
        (fun _ _ _ _ _ => by exact (pe_cmpR op_in_sign (pv 2) (pe_fld (pv 0) rfl) (by rfl)))) pa_nil)))), ?_⟩
    refine ⟨_, rfl, y, rfl, fun D nD => ?_⟩
    refine lc_it walk_str (fun i X => X D = some (.lst (((cod y).take i).map fun c => V.bl (decide (c ∈ cod z)))) ∧ Same H X) ⟨upd_same, same_upd nD⟩ (fun _ _ _ _ => True.intro) (fun i x X X' hi p yl => ?_) (fun X p => ?_)
    · obtain ⟨pD, pS⟩ := p
      obtain ⟨rfl, c, hc, rfl⟩ := yl
      have hc2 : (cod y)[i]? = some c := by
        show y.cps.toList[i]? = some c
        rw [Array.getElem?_toList]
        exact hc
      refine ⟨rfl, ?_⟩
      dsimp only [tYes]
      rw [if_pos rfl]
      refine ⟨_, rfl, _, rfl, a, C, dx, _, _, rfl, pS _ _ ha, T.cls, T.no, look1, c, z, rfl, rfl, _, pD, ?_, ?_, ?_⟩
      · rw [List.length_map, List.length_take]
        exact Nat.lt_of_le_of_lt (Nat.min_le_right _ _) (by rw [len_cod]; exact Nat.lt_trans small (by decide))
      · rw [List.take_succ, hc2, List.map_append]
        exact upd_same
      · intro b o e
        rw [upd_ne]
        · exact pS b o e
        · exact ne_of_none e nD
    · obtain ⟨pD, pS⟩ := p
      refine ⟨_, ((cod y).map fun c => decide (c ∈ cod z)), rfl, ?_, ?_⟩
      · have e : ((cod y).take y.cps.size) = cod y := List.take_of_length_le (by rw [len_cod]; exact Nat.le_refl _)
        rw [e] at pD
        rw [List.map_map]
        exact SqL.of pD
      · have e : ((cod y).map fun c => decide (c ∈ cod z)).all id = leafB 4 z y := by
          show _ = onlyB z y
          unfold onlyB
          rw [List.all_map]
          rfl
        rw [e]
        exact q X pS
end
end LA
end
section
set_option Elab.async false
set_option linter.all false
set_option maxRecDepth 100000
set_option maxHeartbeats 4100000
namespace LA
open PySem L2 XS XT
def fldL : Nat → Str
  | 3 => "_line"
  | 4 => "_letters"
  | _ => "_word"
def G.dep : G → Nat
  | .leaf _ _ => 1
  | .fails g => 1 + g.dep
  | .pair _ a b => 1 + max a.dep b.dep
def G.lv : G → Nat
  | .leaf _ _ => 1
  | .fails g => g.lv
  | .pair _ a b => a.lv + b.lv
def G.kids : G → List G
  | .leaf _ _ => []
  | .fails g => [g]
  | .pair _ a b => [a, b]
/-- the program's object of a plain test -/
def TA (C : Nat → Addr) (H : Hp) : G → V → Prop
  | .leaf s z, v => s < 5 ∧ ∃ a dx, v = .ref a ∧ H a = some (.ins (C s) dx [(fldL s, .str z)])
  | .fails g, v => ∃ a dx u, v = .ref a ∧ H a = some (.ins (C 5) dx [("_test", u)]) ∧ TA C H g u
  | .pair s x y, v => s < 2 ∧ ∃ a dx u1 u2, v = .ref a ∧ H a = some (.ins (C (6 + s)) dx [("_one", u1), ("_other", u2)]) ∧ TA C H x u1 ∧ TA C H y u2
theorem TA.keep {C : Nat → Addr} {H H' : Hp} (k : ∀ a D dx fs, H a = some (.ins D dx fs) → H' a = some (.ins D dx fs)) : ∀ {g : G} {v : V}, TA C H g v → TA C H' g v
  | .leaf s z, v, ⟨h, a, dx, e, ha⟩ => ⟨h, a, dx, e, k _ _ _ _ ha⟩
  | .fails g, v, ⟨a, dx, u, e, ha, hu⟩ => ⟨a, dx, u, e, k _ _ _ _ ha, TA.keep k hu⟩
  | .pair s x y, v, ⟨h, a, dx, u1, u2, e, ha, h1, h2⟩ => ⟨h, a, dx, u1, u2, e, k _ _ _ _ ha, TA.keep k h1, TA.keep k h2⟩
theorem TA.same {C : Nat → Addr} {H H' : Hp} (s : Same H H') {g : G} {v : V} (h : TA C H g v) : TA C H' g v := h.keep fun a D dx fs e => s _ _ e
theorem TA.but {C : Nat → Addr} {H H' : Hp} {d : Addr} {kvs : List (Key × V)} (b : But d H H') (hd : H d = some (.dK kvs)) {g : G} {v : V} (h : TA C H g v) : TA C H' g v :=
  h.keep fun a D dx fs e => b _ _ e (ne_of e hd (by intro z; cases z))
/-- the class of a plain test's object -/
def G.cls : G → Nat
  | .leaf s _ => s
  | .fails _ => 5
  | .pair s _ _ => 6 + s
theorem TA.at_ {C : Nat → Addr} {H : Hp} : ∀ {g : G} {v : V}, TA C H g v → g.cls < 8 ∧ ∃ a dx fs, v = .ref a ∧ H a = some (.ins (C g.cls) dx fs)
  | .leaf s z, v, ⟨h, a, dx, e, ha⟩ => ⟨by show s < 8; omega, a, dx, _, e, ha⟩
  | .fails g, v, ⟨a, dx, u, e, ha, hu⟩ => ⟨by show 5 < 8; omega, a, dx, _, e, ha⟩
  | .pair s x y, v, ⟨h, a, dx, u1, u2, e, ha, h1, h2⟩ => ⟨by show 6 + s < 8; omega, a, dx, _, e, ha⟩
theorem G.dep_pos : ∀ g : G, 1 ≤ g.dep
  | .leaf _ _ => Nat.le_refl 1
  | .fails g => by show 1 ≤ 1 + g.dep; omega
  | .pair _ a b => by show 1 ≤ 1 + max a.dep b.dep; omega
/-- the eight classes -/
structure KC (K : PySem.W.Frag) (C : Nat → Addr) : Prop where
  cls : ∀ i, i < 8 → Cls K (C i)
  cl : ∀ i, i < 8 → PySem.W.findIn K (.ref (C i)) "__class__" = some (some (.builtin "object.__class__"))
  get : PySem.W.specialIn K (.builtin "object.__class__") "__get__" = some (some (.builtin "getset_descriptor.__get__"))
  tak : PySem.W.takesIn K (.builtin "object.__class__") = some true
  obj : ∀ i, i < 8 → PySem.W.mroIn K (C i) (.type "object") = some true
  kit : ∀ i j, i < 8 → j < 8 → PySem.W.kitOne K (.ref (C i)) (.ref (C j)) = some (decide (i = j))
theorem TA.ty {K : PySem.W.Frag} {C : Nat → Addr} {H : Hp} (k : KC K C) {g : G} {v : V} (h : TA C H g v) : TyX K H v (.ref (C g.cls)) := by
  obtain ⟨lt, a, dx, fs, rfl, ha⟩ := h.at_
  exact .base (.ins ha (k.cls _ lt) (k.cl _ lt) k.get k.tak (k.obj _ lt))
section
variable {P : Program} {w : World} {K : PySem.W.Frag} {mg : Str → Option Value} {base : Heap} {C : Nat → Addr}
/-- a property that hands a kept value out -/
def spGet (D : Addr) (fld : Str) : Sp := fun vs H Q _ => ∃ (a dx : Addr) (fs : List (Str × V)) (v : V), vs = [.ref a] ∧ H a = some (.ins D dx fs) ∧ fs.lookup fld = some v ∧ Q v H
abbrev sGFtest : Stmt := cb 22 1
theorem scGFtest : FnScope ["self"] ["self"] (defScope sGFtest) := ⟨rfl, rfl, rfl, by decide +kernel, rfl, by decide +kernel, by decide +kernel⟩
theorem ok_GFtest {f D : Addr} {fd : FuncData} (F : Fun K "test" "Fails.test" sGFtest f fd) (c : Cls K D) (no : NoAttr K D "_test") : FnOk P w K mg base CX0 1 f fd ["self"] (spGet D "_test") := by
  refine F.ok scGFtest (fun vs H Q E h => ?_) (fun cdv A outer s H vs Q E hr h => ?_)
  · obtain ⟨a, dx, fs, v, rfl, _⟩ := h
    rfl
  · obtain ⟨a, dx, fs, v, rfl, ha, lk, q⟩ := h
    refine ⟨_, pss_one (by exact (ps_ret (pe_fld (pv 0) rfl))), ?_⟩
    exact ⟨_, rfl, a, D, dx, fs, v, rfl, ha, c, no, lk, q⟩
abbrev sGBone : Stmt := cb 23 1
theorem scGBone : FnScope ["self"] ["self"] (defScope sGBone) := ⟨rfl, rfl, rfl, by decide +kernel, rfl, by decide +kernel, by decide +kernel⟩
theorem ok_GBone {f D : Addr} {fd : FuncData} (F : Fun K "one" "Both.one" sGBone f fd) (c : Cls K D) (no : NoAttr K D "_one") : FnOk P w K mg base CX0 1 f fd ["self"] (spGet D "_one") := by
  refine F.ok scGBone (fun vs H Q E h => ?_) (fun cdv A outer s H vs Q E hr h => ?_)
  · obtain ⟨a, dx, fs, v, rfl, _⟩ := h
    rfl
  · obtain ⟨a, dx, fs, v, rfl, ha, lk, q⟩ := h
    refine ⟨_, pss_one (by exact (ps_ret (pe_fld (pv 0) rfl))), ?_⟩
    exact ⟨_, rfl, a, D, dx, fs, v, rfl, ha, c, no, lk, q⟩
abbrev sGBother : Stmt := cb 23 2
theorem scGBother : FnScope ["self"] ["self"] (defScope sGBother) := ⟨rfl, rfl, rfl, by decide +kernel, rfl, by decide +kernel, by decide +kernel⟩
theorem ok_GBother {f D : Addr} {fd : FuncData} (F : Fun K "other" "Both.other" sGBother f fd) (c : Cls K D) (no : NoAttr K D "_other") : FnOk P w K mg base CX0 1 f fd ["self"] (spGet D "_other") := by
  refine F.ok scGBother (fun vs H Q E h => ?_) (fun cdv A outer s H vs Q E hr h => ?_)
  · obtain ⟨a, dx, fs, v, rfl, _⟩ := h
    rfl
  · obtain ⟨a, dx, fs, v, rfl, ha, lk, q⟩ := h
    refine ⟨_, pss_one (by exact (ps_ret (pe_fld (pv 0) rfl))), ?_⟩
    exact ⟨_, rfl, a, D, dx, fs, v, rfl, ha, c, no, lk, q⟩
abbrev sGEone : Stmt := cb 24 1
theorem scGEone : FnScope ["self"] ["self"] (defScope sGEone) := ⟨rfl, rfl, rfl, by decide +kernel, rfl, by decide +kernel, by decide +kernel⟩
theorem ok_GEone {f D : Addr} {fd : FuncData} (F : Fun K "one" "Either.one" sGEone f fd) (c : Cls K D) (no : NoAttr K D "_one") : FnOk P w K mg base CX0 1 f fd ["self"] (spGet D "_one") := by
  refine F.ok scGEone (fun vs H Q E h => ?_) (fun cdv A outer s H vs Q E hr h => ?_)
  · obtain ⟨a, dx, fs, v, rfl, _⟩ := h
    rfl
  · obtain ⟨a, dx, fs, v, rfl, ha, lk, q⟩ := h
    refine ⟨_, pss_one (by exact (ps_ret (pe_fld (pv 0) rfl))), ?_⟩
    exact ⟨_, rfl, a, D, dx, fs, v, rfl, ha, c, no, lk, q⟩
abbrev sGEother : Stmt := cb 24 2
theorem scGEother : FnScope ["self"] ["self"] (defScope sGEother) := ⟨rfl, rfl, rfl, by decide +kernel, rfl, by decide +kernel, by decide +kernel⟩
theorem ok_GEother {f D : Addr} {fd : FuncData} (F : Fun K "other" "Either.other" sGEother f fd) (c : Cls K D) (no : NoAttr K D "_other") : FnOk P w K mg base CX0 1 f fd ["self"] (spGet D "_other") := by
  refine F.ok scGEother (fun vs H Q E h => ?_) (fun cdv A outer s H vs Q E hr h => ?_)
  · obtain ⟨a, dx, fs, v, rfl, _⟩ := h
    rfl
  · obtain ⟨a, dx, fs, v, rfl, ha, lk, q⟩ := h
    refine ⟨_, pss_one (by exact (ps_ret (pe_fld (pv 0) rfl))), ?_⟩
    exact ⟨_, rfl, a, D, dx, fs, v, rfl, ha, c, no, lk, q⟩
structure PropAt (P : Program) (w : World) (K : PySem.W.Frag) (mg : Str → Option Value) (base : Heap) (D : Addr) (nm fld : Str) (p g : Addr) (fd : FuncData) : Prop where
  prop : PropOf K D nm p g
  ok : FnOk P w K mg base CX0 1 g fd ["self"] (spGet D fld)
  b : Binds K fd ["self"] []
theorem pe_or2 {X : Cx} {e : Expr} {t u : TE} (h1 : PE X e t) (h2 : PE X e u) : PE X e (fun σ H Q => t σ H Q ∨ u σ H Q) :=
  ⟨fun pins s σ H Q I h => h.elim (h1.run pins s σ H Q I) (h2.run pins s σ H Q I)⟩
abbrev sParts : Stmt := top 26
/-- what stands right within a test, in a new tuple -/
def spParts (C : Nat → Addr) : Sp := fun vs H Q _ => ∃ (g : G) (v : V), vs = [v] ∧ TA C H g v ∧ ∀ (p : Addr) (us : List V) (H' : Hp), H' p = some (.tup us) → Paired (fun g u => TA C H' g u) g.kids us → Same H H' → Q (.ref p) H'
theorem scPa : FnScope ["test"] ["test"] (defScope sParts) := ⟨rfl, rfl, rfl, by decide +kernel, rfl, by decide +kernel, by decide +kernel⟩
structure GetT (P : Program) (w : World) (K : PySem.W.Frag) (mg : Str → Option Value) (base : Heap) (C p g : Nat → Addr) (fd : Nat → FuncData) : Prop where
  t : PropAt P w K mg base (C 5) "test" "_test" (p 0) (g 0) (fd 0)
  b1 : PropAt P w K mg base (C 6) "one" "_one" (p 1) (g 1) (fd 1)
  b2 : PropAt P w K mg base (C 6) "other" "_other" (p 2) (g 2) (fd 2)
  e1 : PropAt P w K mg base (C 7) "one" "_one" (p 3) (g 3) (fd 3)
  e2 : PropAt P w K mg base (C 7) "other" "_other" (p 4) (g 4) (fd 4)
structure NamT (mg : Str → Option Value) (C : Nat → Addr) : Prop where
  isM : mg "isinstance" = none
  n0 : mg "Has" = some (.ref (C 0))
  n1 : mg "Begins" = some (.ref (C 1))
  n2 : mg "Ends" = some (.ref (C 2))
  n3 : mg "Is" = some (.ref (C 3))
  n4 : mg "Only" = some (.ref (C 4))
  n5 : mg "Fails" = some (.ref (C 5))
  n6 : mg "Both" = some (.ref (C 6))
  n7 : mg "Either" = some (.ref (C 7))
theorem kit2 {i j k : Nat} (k0 : KC K C) (hi : i < 8) (hj : j < 8) (hk : k < 8) : PySem.W.kitAny K (.ref (C i)) [.ref (C j), .ref (C k)] = some (decide (i = j ∨ i = k)) := by
  refine kitAny_cons (k0.kit i j hi hj) (fun h => ?_) (fun h => ?_)
  · have n1 := of_decide_eq_false h
    refine kitAny_cons (k0.kit i k hi hk) (fun h2 => ?_) (fun h2 => ?_)
    · have n2 := of_decide_eq_false h2
      rw [kitAny_nil, decide_eq_false (by omega)]
    · have y := of_decide_eq_true h2
      exact decide_eq_true (.inr y)
  · exact decide_eq_true (.inl (of_decide_eq_true h))
theorem ok_parts {f : Addr} {fd : FuncData} {p g : Nat → Addr} {fg : Nat → FuncData} (F : Fun K "parts" "parts" sParts f fd) (N : NamT mg C) (k0 : KC K C) (M : GetT P w K mg base C p g fg) : FnOk P w K mg base CX0 3 f fd ["test"] (spParts C) := by
  refine F.ok scPa (fun vs H Q E h => ?_) (fun cdv A outer s H vs Q E hr h => ?_)
  · obtain ⟨g, v, rfl, _⟩ := h
    rfl
  · obtain ⟨t, v, rfl, ht, q⟩ := h
    refine ⟨_, pss_cons (by exact (ps_if (pt_val (pe_callB call_isi (by rfl) N.isM (by decide +kernel) (pa_cons (pv 0) (pa_cons (pe_glob (v := .ref (C 5)) rfl N.n5 rfl) pa_nil)))) (pss_one (by exact (ps_ret (pe_tup (pa_cons (pe_prop (pv 0) (k0.cls 5 (by decide)) M.t.prop M.t.ok hr M.t.b .nil pass0 rfl) pa_nil))))) pss_nil)) (
      pss_cons (by exact (ps_if (pt_val (pe_callB call_isiT (by rfl) N.isM (by decide +kernel) (pa_cons (pv 0) (pa_cons (pe_tup (pa_cons (pe_glob (v := .ref (C 6)) rfl N.n6 rfl) (pa_cons (pe_glob (v := .ref (C 7)) rfl N.n7 rfl) pa_nil))) pa_nil)))) (pss_one (by exact (ps_ret (pe_tup (pa_cons (pe_or2 (pe_prop (pv 0) (k0.cls 6 (by decide)) M.b1.prop M.b1.ok hr M.b1.b .nil pass0 rfl) (pe_prop (pv 0) (k0.cls 7 (by decide)) M.e1.prop M.e1.ok hr M.e1.b .nil pass0 rfl)) (pa_cons (pe_or2 (pe_prop (pv 0) (k0.cls 6 (by decide)) M.b2.prop M.b2.ok hr M.b2.b .nil pass0 rfl) (pe_prop (pv 0) (k0.cls 7 (by decide)) M.e2.prop M.e2.ok hr M.e2.b .nil pass0 rfl)) pa_nil)))))) pss_nil)) (
      pss_one (by exact (ps_ret (pe_tup pa_nil))))), ?_⟩
    refine ⟨_, rfl, _, _, _, _, _, rfl, .own (C 5), ht.ty k0, k0.kit _ _ ht.at_.1 (by decide), _, rfl, ?_⟩
    cases t with
    | leaf s z =>
      have s5 : s < 5 := ht.1
      rw [decide_eq_false (show ¬ (G.leaf s z).cls = 5 by show ¬ s = 5; omega)]
      refine iteF ⟨_, rfl, (by show 2 ≤ sizeLine; decide), fun T nT => ?_⟩
      have sm := same_upd (o := .tup [.ref (C 6), .ref (C 7)]) nT
      refine ⟨_, T, _, _, _, _, rfl, upd_same, .cons (.own _) (.cons (.own _) .nil), (ht.same sm).ty k0, kit2 k0 ht.at_.1 (by decide) (by decide), _, rfl, ?_⟩
      rw [decide_eq_false (show ¬ ((G.leaf s z).cls = 6 ∨ (G.leaf s z).cls = 7) by show ¬ (s = 6 ∨ s = 7); omega)]
      refine iteF ⟨(by show 0 ≤ sizeLine; decide), fun U nU => ?_⟩
      exact q U [] _ upd_same .nil (sm.trans (same_upd nU))
    | fails g =>
      rw [decide_eq_true (show (G.fails g).cls = 5 from rfl)]
      obtain ⟨a, dx, u, rfl, ha, hu⟩ := ht
      refine iteT ⟨_, rfl, a, dx, _, rfl, ha, a, dx, _, u, rfl, ha, look1, (by show 1 ≤ sizeLine; decide), fun T nT => ?_⟩
      exact q T [u] _ upd_same (.cons (hu.same (same_upd nT)) .nil) (same_upd nT)
    | pair s x y =>
      have s2 : s < 2 := ht.1
      rw [decide_eq_false (show ¬ (G.pair s x y).cls = 5 by show ¬ 6 + s = 5; omega)]
      refine iteF ⟨_, rfl, (by show 2 ≤ sizeLine; decide), fun T nT => ?_⟩
      have sm := same_upd (o := .tup [.ref (C 6), .ref (C 7)]) nT
      refine ⟨_, T, _, _, _, _, rfl, upd_same, .cons (.own _) (.cons (.own _) .nil), (ht.same sm).ty k0, kit2 k0 ht.at_.1 (by decide) (by decide), _, rfl, ?_⟩
      rw [decide_eq_true (show ((G.pair s x y).cls = 6 ∨ (G.pair s x y).cls = 7) by show (6 + s = 6 ∨ 6 + s = 7); omega)]
      obtain ⟨_, a, dx, u1, u2, rfl, ha, h1, h2⟩ := ht
      have ha2 := sm _ _ ha
      have e0 : s = 0 ∨ s = 1 := by omega
      rcases e0 with rfl | rfl
      · refine iteT (.inl ⟨_, rfl, a, dx, _, rfl, ha2, a, dx, _, u1, rfl, ha2, by simp, .inl ⟨_, rfl, a, dx, _, rfl, ha2, a, dx, _, u2, rfl, ha2, rfl, (by show 2 ≤ sizeLine; decide), fun U nU => ?_⟩⟩)
        have sn := sm.trans (same_upd (o := .tup [u1, u2]) nU)
        exact q U [u1, u2] _ upd_same (.cons (h1.same sn) (.cons (h2.same sn) .nil)) sn
      · refine iteT (.inr ⟨_, rfl, a, dx, _, rfl, ha2, a, dx, _, u1, rfl, ha2, by simp, .inr ⟨_, rfl, a, dx, _, rfl, ha2, a, dx, _, u2, rfl, ha2, rfl, (by show 2 ≤ sizeLine; decide), fun U nU => ?_⟩⟩)
        have sn := sm.trans (same_upd (o := .tup [u1, u2]) nU)
        exact q U [u1, u2] _ upd_same (.cons (h1.same sn) (.cons (h2.same sn) .nil)) sn
abbrev sDepth : Stmt := top 27
abbrev sIsT : Stmt := top 25
abbrev sFits : Stmt := top 29
/-- depth_of of a test of at most n -/
def spDepth (C : Nat → Addr) (n : Nat) : Sp := fun vs H Q _ => ∃ (g : G) (v : V), vs = [v] ∧ TA C H g v ∧ g.dep ≤ n ∧ ∀ H', Same H H' → Q (.int (g.dep : Int)) H'
theorem scDe : FnScope ["test", "part"] ["test"] (defScope sDepth) := ⟨rfl, rfl, rfl, by decide +kernel, rfl, by decide +kernel, by decide +kernel⟩
theorem kids_dep : ∀ g : G, ∀ k ∈ g.kids, k.dep + 1 ≤ g.dep
  | .leaf _ _, k, h => absurd h (by simp [G.kids])
  | .fails g, k, h => by
    obtain rfl : k = g := by simpa [G.kids] using h
    show k.dep + 1 ≤ 1 + k.dep
    omega
  | .pair _ a b, k, h => by
    have e : k = a ∨ k = b := by simpa [G.kids] using h
    show k.dep + 1 ≤ 1 + max a.dep b.dep
    rcases e with rfl | rfl <;> omega
theorem kids_max (g : G) (m : Int) (h : ((g.kids.map fun k => (k.dep : Int)) = [] ∧ m = 0) ∨ (m ∈ (g.kids.map fun k => (k.dep : Int)) ∧ ∀ y ∈ (g.kids.map fun k => (k.dep : Int)), y ≤ m)) : 1 + m = (g.dep : Int) := by
  cases g with
  | leaf s z =>
    rcases h with ⟨_, rfl⟩ | ⟨h, _⟩
    · rfl
    · exact absurd h (by simp [G.kids])
  | fails g =>
    rcases h with ⟨h, _⟩ | ⟨h, _⟩
    · exact absurd h (by simp [G.kids])
    · obtain rfl : m = (g.dep : Int) := by simpa [G.kids] using h
      show 1 + (g.dep : Int) = ((1 + g.dep : Nat) : Int)
      omega
  | pair s a b =>
    rcases h with ⟨h, _⟩ | ⟨h, h2⟩
    · exact absurd h (by simp [G.kids])
    · have e : m = (a.dep : Int) ∨ m = (b.dep : Int) := by simpa [G.kids] using h
      have ha := h2 (a.dep : Int) (by simp [G.kids])
      have hb := h2 (b.dep : Int) (by simp [G.kids])
      show 1 + m = ((1 + max a.dep b.dep : Nat) : Int)
      omega
theorem paired_get {C : Nat → Addr} {H : Hp} : ∀ {gs : List G} {us : List V} {i : Nat} {u : V}, Paired (fun g u => TA C H g u) gs us → us[i]? = some u → ∃ g, gs[i]? = some g ∧ TA C H g u
  | _, _, i, u, .nil, h => by simp at h
  | _, _, 0, u, .cons a b, h => by
    rw [List.getElem?_cons_zero] at h
    cases h
    exact ⟨_, rfl, a⟩
  | _, _, i + 1, u, .cons a b, h => by
    rw [List.getElem?_cons_succ] at h ⊢
    exact paired_get b h
theorem paired_len {C : Nat → Addr} {H : Hp} : ∀ {gs : List G} {us : List V}, Paired (fun g u => TA C H g u) gs us → gs.length = us.length
  | _, _, .nil => rfl
  | _, _, .cons a b => by rw [List.length_cons, List.length_cons, paired_len b]
theorem kids_two (g : G) : g.kids.length ≤ 2 := by cases g <;> simp [G.kids]
theorem ok_depth {f f1 : Addr} {fd fd1 : FuncData} (F : Fun K "depth_of" "depth_of" sDepth f fd) (mX : mg "max" = none) (mD : mg "depth_of" = some (.ref f)) (kD : PySem.W.keepIn K (.ref f) = true) (bD : Binds K fd ["test"] []) (M : CallOf P w K mg base 3 "parts" ["test"] (spParts C) f1 fd1) :
    ∀ n, FnOk P w K mg base CX0 (n + 3) f fd ["test"] (spDepth C n) := by
  intro n
  induction n with
  | zero =>
    refine F.ok scDe (fun vs H Q E h => ?_) (fun cdv A outer s H vs Q E hr h => ?_)
    · obtain ⟨g, v, rfl, _⟩ := h
      rfl
    · obtain ⟨g, v, rfl, _, d, _⟩ := h
      have := g.dep_pos
      omega
  | succ n ih =>
    refine F.ok scDe (fun vs H Q E h => ?_) (fun cdv A outer s H vs Q E hr h => ?_)
    · obtain ⟨g, v, rfl, _⟩ := h
      rfl
    · obtain ⟨t, v, rfl, ht, hd, q⟩ := h
      have hr3 : Room 3 _ := hr.mono (by omega)
      refine ⟨_, pss_one (by exact (ps_ret (pe_op op_add pe_int (pe_callBK (cr_maxOr rfl) (by rfl) mX (by decide +kernel) (pa_cons (pe_lc (own := [("part", 1)]) (g := gName 1) (tt := tYes) (te := tCall (spDepth C n) [] (fun _ _ _ => False) (tCons (tVar 1) tNil)) rfl scDe.nd (pi_tup (pe_call M.ok hr3 rfl M.m M.k M.b .nil pass0 (pa_cons (pv 0) pa_nil)))
        (blkOk_by (N := ["test", "part"]) (sc := defScope sDepth) (by decide +kernel))
        (fun _ _ _ _ _ => by exact (pg_name (i := 1) scDe.nd rfl (Or.inl rfl)))
        (fun _ _ _ _ _ => by exact pts_nil)
        (fun _ _ _ _ _ => by exact (pe_call ih hr rfl mD kD bD .nil pass0 (pa_cons (pv 1) pa_nil)))) pa_nil) (pk_cons pe_int pk_nil))))), ?_⟩
      refine ⟨_, rfl, t, v, rfl, ht, fun p us H1 hp kids s1 => ?_⟩
      refine ⟨p, rfl, ⟨us, SqT.of hp⟩, fun D nD => ?_⟩
      have nDp : p ≠ D := ne_of_none hp nD
      refine lc_it (walk_tup (xs := us)) (fun i X => X D = some (.lst ((t.kids.take i).map fun k => V.int (k.dep : Int))) ∧ Same H1 X) ⟨upd_same, same_upd nD⟩ (fun i X _ p2 => SqT.of (p2.2 _ _ hp)) (fun i x X X' hi p2 yl => ?_) (fun X p2 => ?_)
      · obtain ⟨pD, pS⟩ := p2
        obtain ⟨rfl, hx⟩ := yl
        obtain ⟨k, hk, tk⟩ := paired_get kids hx
        refine ⟨rfl, ?_⟩
        dsimp only [tYes]
        rw [if_pos rfl]
        have kd := kids_dep t k (List.mem_of_getElem? hk)
        refine ⟨_, rfl, k, _, rfl, tk.same pS, by omega, fun X2 s2 => ⟨_, s2 _ _ pD, ?_, ?_, ?_⟩⟩
        · rw [List.length_map, List.length_take]
          have := kids_two t
          exact Nat.lt_of_le_of_lt (Nat.le_trans (Nat.min_le_right _ _) this) (by decide)
        · rw [List.take_succ, hk, List.map_append]
          exact upd_same
        · intro b o e
          rw [upd_ne (ne_of_none e nD)]
          exact s2 _ _ (pS b o e)
      · obtain ⟨pD, pS⟩ := p2
        have e : t.kids.take us.length = t.kids := List.take_of_length_le (by rw [paired_len kids]; exact Nat.le_refl _)
        rw [e] at pD
        refine ⟨D, t.kids.map fun k => (k.dep : Int), 0, rfl, rfl, SqL.of (by rw [pD, List.map_map]; rfl), fun m hm => ⟨_, _, rfl, rfl, ?_⟩⟩
        show Q (.int (1 + m)) X
        rw [kids_max t m hm]
        exact q X (s1.trans pS)
/-- is_test: a test, or a text -/
def spIsT (C : Nat → Addr) : Sp := fun vs H Q _ => ∃ (g : G) (v : V), vs = [v] ∧ TA C H g v ∧ ∀ H', Same H H' → Q (.bl true) H'
theorem scIt : FnScope ["value"] ["value"] (defScope sIsT) := ⟨rfl, rfl, rfl, by decide +kernel, rfl, by decide +kernel, by decide +kernel⟩
theorem kit_in {i : Nat} (k0 : KC K C) (hi : i < 8) : ∀ (l : List Nat), (∀ j ∈ l, j < 8) → i ∈ l → PySem.W.kitAny K (.ref (C i)) (l.map fun j => Value.ref (C j)) = some true
  | [], _, h => absurd h (by simp)
  | j :: r, hl, h => by
    refine kitAny_cons (k0.kit i j hi (hl j (by simp))) (fun e => ?_) (fun _ => rfl)
    have ne := of_decide_eq_false e
    rcases List.mem_cons.mp h with y | y
    · exact absurd y ne
    · exact kit_in k0 hi r (fun x hx => hl x (List.mem_cons_of_mem _ hx)) y
theorem ok_isT {f : Addr} {fd : FuncData} (F : Fun K "is_test" "is_test" sIsT f fd) (N : NamT mg C) (k0 : KC K C) : FnOk P w K mg base CX0 1 f fd ["value"] (spIsT C) := by
  refine F.ok scIt (fun vs H Q E h => ?_) (fun cdv A outer s H vs Q E hr h => ?_)
  · obtain ⟨g, v, rfl, _⟩ := h
    rfl
  · obtain ⟨g, v, rfl, hg, q⟩ := h
    refine ⟨_, pss_one (by exact (ps_ret (pe_callB call_isiT (by rfl) N.isM (by decide +kernel) (pa_cons (pv 0) (pa_cons (pe_tup (pa_cons (pe_glob (v := .ref (C 0)) rfl N.n0 rfl) (pa_cons (pe_glob (v := .ref (C 1)) rfl N.n1 rfl) (pa_cons (pe_glob (v := .ref (C 2)) rfl N.n2 rfl) (pa_cons (pe_glob (v := .ref (C 3)) rfl N.n3 rfl)
      (pa_cons (pe_glob (v := .ref (C 4)) rfl N.n4 rfl) (pa_cons (pe_glob (v := .ref (C 5)) rfl N.n5 rfl) (pa_cons (pe_glob (v := .ref (C 6)) rfl N.n6 rfl) (pa_cons (pe_glob (v := .ref (C 7)) rfl N.n7 rfl) pa_nil))))))))) pa_nil))))), ?_⟩
    refine ⟨_, rfl, (by show 8 ≤ sizeLine; decide), fun T nT => ?_⟩
    have sm := same_upd (o := .tup [.ref (C 0), .ref (C 1), .ref (C 2), .ref (C 3), .ref (C 4), .ref (C 5), .ref (C 6), .ref (C 7)]) nT
    have lt := hg.at_.1
    have kk := kit_in k0 lt [0, 1, 2, 3, 4, 5, 6, 7] (by decide) (by
      have : ∀ i, i < 8 → i ∈ [0, 1, 2, 3, 4, 5, 6, 7] := by decide
      exact this _ lt)
    exact ⟨_, T, _, _, _, true, rfl, upd_same, .cons (.own _) (.cons (.own _) (.cons (.own _) (.cons (.own _) (.cons (.own _) (.cons (.own _) (.cons (.own _) (.cons (.own _) .nil))))))), (hg.same sm).ty k0, kk, q _ sm⟩
/-- fits_within of a test that is not too deep -/
def spFits (C : Nat → Addr) : Sp := fun vs H Q _ => ∃ (g : G) (v : V), vs = [v] ∧ TA C H g v ∧ g.dep < 8 ∧ ∀ H', Same H H' → Q (.bl true) H'
theorem scFi : FnScope ["value"] ["value"] (defScope sFits) := ⟨rfl, rfl, rfl, by decide +kernel, rfl, by decide +kernel, by decide +kernel⟩
theorem ok_fits {f f1 f2 : Addr} {fd fd1 fd2 : FuncData} {t5 : Tok} (F : Fun K "fits_within" "fits_within" sFits f fd) (mM : mg "MAX_DEPTH" = some (.int 8 t5)) (M : CallOf P w K mg base 1 "is_test" ["value"] (spIsT C) f1 fd1) (D : CallOf P w K mg base 11 "depth_of" ["test"] (spDepth C 8) f2 fd2) :
    FnOk P w K mg base CX0 12 f fd ["value"] (spFits C) := by
  refine F.ok scFi (fun vs H Q E h => ?_) (fun cdv A outer s H vs Q E hr h => ?_)
  · obtain ⟨g, v, rfl, _⟩ := h
    rfl
  · obtain ⟨g, v, rfl, hg, d8, q⟩ := h
    have hr1 : Room 1 _ := hr.mono (by decide)
    refine ⟨_, pss_one (by exact (ps_ret (pe_and (pe_call M.ok hr1 rfl M.m M.k M.b .nil pass0 (pa_cons (pv 0) pa_nil)) (pe_one (pe_cmpR op_lt (pe_call D.ok hr rfl D.m D.k D.b .nil pass0 (pa_cons (pv 0) pa_nil)) (pe_glob (v := .int 8) rfl mM ⟨_, rfl⟩) (nomark _)))))), ?_⟩
    refine ⟨_, rfl, g, v, rfl, hg, fun H1 s1 => ⟨_, rfl, iteT ⟨_, rfl, g, v, rfl, hg.same s1, by omega, fun H2 s2 => ⟨_, _, rfl, rfl, ?_⟩⟩⟩⟩
    show Q (.bl (decide ((g.dep : Int) < 8))) H2
    rw [decide_eq_true
          (by omega)]
    exact q H2 (s1.trans s2)
end
end LA
end
section
set_option Elab.async false
set_option linter.all false
set_option maxRecDepth 100000
set_option maxHeartbeats 4100000
namespace LA
open PySem L2 XS XT
/-- the inner walk of two -/
theorem walk_in {J : It} {n : Nat} {G0 : Hp → Prop} {Y : Nat → Hp → V → Hp → Prop} {B : V → Hp → (Hp → Prop) → Prop} {Nx : Hp → Prop} {H1 : Hp} (w : Walk J n G0 Y) (Pv : Nat → Hp → Prop) (h0 : Pv 0 H1) (hG : ∀ i H, i ≤ n → Pv i H → G0 H)
    (hs : ∀ i x H H', i < n → Pv i H → Y i H x H' → B x H' (Pv (i + 1))) (hd : ∀ H, Pv n H → Nx H) :
    ∃ W : Nat → Nat → Hp → Prop, (∃ m, W 0 m H1) ∧ ∀ i m H, W i m H → (J.stop i H ∧ Nx H) ∨ (J.go i H ∧ ∃ Nx1 : Hp → Prop, (∀ H', Nx1 H' → ∃ m', m' < m ∧ W (i + 1) m' H') ∧ ∀ x H', J.yld i H x H' → B x H' Nx1) := by
  refine ⟨fun i m H => m = n - i ∧ i ≤ n ∧ Pv
        i H, ⟨n, by simp, Nat.zero_le _, h0⟩, ?_⟩
  rintro i m H ⟨rfl, le, p⟩
  have q := hG i H le p
  by_cases lt : i < n
  · exact .inr ⟨w.goes i H lt q, Pv (i + 1), fun H' p' => ⟨n - (i + 1), by omega, rfl, lt, p'⟩, fun x H' y => hs i x H H' lt p (w.yields i H x H' lt q y)⟩
  · obtain rfl : i = n := by omega
    exact .inl ⟨w.stops
          H q, hd H p⟩
abbrev sSimple : Stmt := top 28
section
variable {P : Program} {w : World} {K : PySem.W.Frag} {mg : Str → Option Value} {base : Heap} {C : Nat → Addr}
theorem fresh_back {H H' : Hp} {p : Addr} (s : Same H H') (n : H' p = none) : H p = none := by
  cases e : H p with
  | none => rfl
  | some o => exact absurd ((s _ _ e).symm.trans n) (by simp)
/-- simple_tests of a test of at most n: a new list of so many -/
def spSimple (C : Nat → Addr) (n : Nat) : Sp := fun vs H Q _ => ∃ (g : G) (v : V), vs = [v] ∧ TA C H g v ∧ g.dep ≤ n ∧ g.lv ≤ 1000 ∧ ∀ (p : Addr) (xs : List V) (H' : Hp), H' p = some (.lst xs) → xs.length = g.lv → H p = none → Same H H' → Q (.ref p) H'
theorem scSi : FnScope ["test", "inner", "part", "simple"] ["test"] (defScope sSimple) := ⟨rfl, rfl, rfl, by decide +kernel, rfl, by decide +kernel, by decide +kernel⟩
def lvs : List G → Nat
  | [] => 0
  | g :: r => g.lv + lvs r
theorem lvs_kids (g : G) (h : g.kids ≠ []) : lvs g.kids = g.lv := by
  cases g with
  | leaf s z => exact absurd rfl h
  | fails g => rfl
  | pair s a b => rfl
theorem lvs_take : ∀ (l : List G) (i : Nat) (k : G), l[i]? = some k → lvs (l.take (i + 1)) = lvs (l.take i) + k.lv
  | [], i, k, h => by simp at h
  | g :: r, 0, k, h => by
    rw [List.getElem?_cons_zero] at h
    cases h
    show g.lv + 0 = 0 + g.lv
    omega
  | g :: r, i + 1, k, h => by
    rw [List.getElem?_cons_succ] at h
    show g.lv + lvs (r.take (i + 1)) = g.lv + lvs (r.take i) + k.lv
    rw [lvs_take r i k h]
    omega
theorem lvs_le : ∀ (l : List G) (k : G), k ∈ l → k.lv ≤ lvs l
  | g :: r, k, h => by
    show k.lv ≤ g.lv + lvs r
    rcases List.mem_cons.mp h with rfl | y
    · omega
    · have := lvs_le r k y
      omega
theorem lvs_take_le : ∀ (l : List G) (i : Nat), lvs (l.take i) ≤ lvs l
  | [], i => by simp
  | g :: r, 0 => Nat.zero_le _
  | g :: r, i + 1 => by
    show g.lv + lvs (r.take i) ≤ g.lv + lvs r
    have := lvs_take_le r i
    omega
theorem ok_simple {f f1 : Addr} {fd fd1 : FuncData} (F : Fun K "simple_tests" "simple_tests" sSimple f fd) (mD : mg "simple_tests" = some (.ref f)) (kD : PySem.W.keepIn K (.ref f) = true) (bD : Binds K fd ["test"] []) (M : CallOf P w K mg base 3 "parts" ["test"] (spParts C) f1 fd1) :
    ∀ n, FnOk P w K mg base CX0 (n + 3) f fd ["test"] (spSimple C n) := by
  intro n
  induction n with
  | zero =>
    refine F.ok scSi (fun vs H Q E h => ?_) (fun cdv A outer s H vs Q E hr h => ?_)
    · obtain ⟨g, v, rfl, _⟩ := h
      rfl
    · obtain ⟨g, v, rfl, _, d, _⟩ := h
      have := g.dep_pos
      omega
  | succ n ih =>
    refine F.ok scSi (fun vs H Q E h => ?_) (fun cdv A outer s H vs Q E hr h => ?_)
    · obtain ⟨g, v, rfl, _⟩ := h
      rfl
    · obtain ⟨t, v, rfl, ht, hd, hv, q⟩ := h
      have hr3 : Room 3 _ := hr.mono (by omega)
      refine ⟨_, pss_cons (by exact (ps_set (i := 1) scSi.nd rfl (.inl rfl) (pe_call M.ok hr3 rfl M.m M.k M.b .nil pass0 (pa_cons (pv 0) pa_nil)))) (
        pss_cons (by exact (ps_if (pt_not (pt_truth (pv 1) (fun _ => rfl))) (pss_one (by exact (ps_ret (pe_lst (pa_cons (pv 0) pa_nil))))) pss_nil)) (
        pss_one (by exact (ps_ret (pe_lc2 (own := [("part", 2), ("simple", 3)]) (vs1 := [3]) (g := gName 2) (tt := tYes) (g1 := gName 3) (tt1 := tYes) (wi1 := iList K (tCall (spSimple C n) [] (fun _ _ _ => False) (tCons (tVar 2) tNil))) (te := tVar 3) rfl scSi.nd (pi_tup (pv 1))
          (blkOk_by (N := ["test", "inner", "part", "simple"]) (sc := defScope sSimple) (by decide +kernel)) (by decide)
          (fun _ _ _ _ _ => by exact (pg_name (i := 2) scSi.nd rfl (Or.inl rfl)))
          (fun _ _ _ _ _ => by exact pts_nil)
          (fun _ _ _ _ _ => by exact (pi_list (pe_call ih hr rfl mD kD bD .nil pass0 (pa_cons (pv 2) pa_nil))))
          (fun _ _ _ _ _ => by exact (pg_name (i := 3) scSi.nd rfl (Or.inl rfl)))
          (fun _ _ _ _ _ => by exact pts_nil)
          (fun _ _ _ _ _ => by exact (pv 3))))))), ?_⟩
      refine ⟨_, rfl, t, v, rfl, ht, fun p us H1 hp kids s1 => ?_⟩
      refine ⟨_, rfl, !us.isEmpty, .inr (.inl ⟨us, SqT.of hp, rfl⟩), ?_⟩
      cases us with
      | nil =>
        refine iteT ⟨_, rfl, (by show 1 ≤ sizeLine; decide), fun L nL => ?_⟩
        have e : t.lv = 1 := by
          cases t with
          | leaf s z => rfl
          | fails g => cases kids
          | pair s a b => cases kids
        exact q L _ _ upd_same (by rw [e]; rfl) (fresh_back s1 nL) (s1.trans (same_upd nL))
      | cons u0 r0 =>
        have ne : t.kids ≠ [] := by
          intro z
          rw [z] at kids
          cases kids
        refine iteF ⟨_, rfl, p, rfl, ⟨_, SqT.of hp⟩, fun D nD => ?_⟩
        generalize hus : u0 :: r0 = us at hp kids
        have nDp : p ≠ D := ne_of_none hp nD
        have tot := lvs_kids t ne
        refine walk_in (walk_tup (K := K) (a := p) (xs := us)) (fun i X => ∃ acc, X D = some (.lst acc) ∧ acc.length = lvs (t.kids.take i) ∧ Same H1 X) ⟨[], upd_same, rfl, same_upd nD⟩ (fun i X _ ⟨_, _, _, p2⟩ => SqT.of (p2 _ _ hp)) (fun i x X X' hi p2 yl => ?_) (fun X p2 => ?_)
        · obtain ⟨acc, pD, pl, pS⟩ := p2
          obtain ⟨rfl, hx⟩ := yl
          obtain ⟨k, hk, tk⟩ := paired_get kids hx
          refine ⟨rfl, ?_⟩
          dsimp only [tYes]
          rw [if_pos rfl]
          have kd := kids_dep t k (List.mem_of_getElem? hk)
          have kl := lvs_le t.kids k (List.mem_of_getElem? hk)
          refine ⟨_, rfl, k, _, rfl, tk.same pS, by omega, by omega, fun L xs X2 hL lx nL s2 => ⟨L, rfl, ⟨xs, SqL.of hL⟩, ?_⟩⟩
          have nLD : L ≠ D := fun z => by rw [z, pD] at nL; cases nL
          refine walk_in (walk_list (K := K) (a := L) (xs := xs)) (fun j Z => ∃ acc, Z D = some (.lst acc) ∧ acc.length = lvs (t.kids.take i) + j ∧ Same H1 Z ∧ Z L = some (.lst xs)) ⟨acc, s2 _ _ pD, pl, pS.trans s2, hL⟩ (fun j Z _ ⟨_, _, _, _, z⟩ => SqL.of z) (fun j y Z Z' hj p3 yl2 => ?_) (fun Z p3 => ?_)
          · obtain ⟨acc2, qD, ql, qS, qL⟩ := p3
            obtain ⟨rfl, hy⟩ := yl2
            refine ⟨rfl, ?_⟩
            dsimp only [tYes]
            rw [if_pos rfl]
            have bound := lvs_take_le t.kids i
            refine ⟨_, rfl, acc2, qD, Nat.lt_of_le_of_lt (show acc2.length ≤ 2000 by omega) (by decide), _, upd_same, ?_, ?_, ?_⟩
            · rw [List.length_append, ql]
              rfl
            · intro b o e
              rw [upd_ne (ne_of_none e nD)]
              exact qS b o e
            · rw [upd_ne nLD]
              exact qL
          · obtain ⟨acc2, qD, ql, qS, qL⟩ := p3
            exact ⟨acc2, qD, by rw [lvs_take _ _ _ hk, ← lx]; exact ql, qS⟩
        · obtain ⟨acc, pD, pl, pS⟩ := p2
          have e : t.kids.take us.length = t.kids := List.take_of_length_le (by rw [paired_len kids]; exact Nat.le_refl _)
          rw [e, tot] at pl
          exact q D acc X pD pl (fresh_back s1 nD) (s1.trans pS)
end
end LA
end
section
set_option Elab.async false
set_option linter.all false
set_option maxRecDepth 100000
set_option maxHeartbeats 4100000
namespace LA
open PySem L2 XS XT
abbrev sFitT : Stmt := top 30
abbrev sChkP : Stmt := top 32
/-- a class whose objects keep two values -/
structure C2 (K : PySem.W.Frag) (C : Addr) : Prop where
  cls : Cls K C
  one : NoAttr K C "_one"
  oth : NoAttr K C "_other"
section
variable {P : Program} {w : World} {K : PySem.W.Frag} {mg : Str → Option Value} {base : Heap} {C : Nat → Addr}
/-- two tests that may stand within one -/
structure Pair8 (a b : G) : Prop where
  da : a.dep < 8
  db : b.dep < 8
  l : a.lv + b.lv ≤ 8
def spTwo (C : Nat → Addr) (r : V) : Sp := fun vs H Q _ => ∃ (a b : G) (u v : V), vs = [u, v] ∧ TA C H a u ∧ TA C H b v ∧ Pair8 a b ∧ ∀ H', Same H H' → Q r H'
theorem scFt : FnScope ["one", "other"] ["one", "other"] (defScope sFitT) := ⟨rfl, rfl, rfl, by decide +kernel, rfl, by decide +kernel, by decide +kernel⟩
theorem ok_fitT {f f1 : Addr} {fd fd1 : FuncData} {t5 : Tok} (F : Fun K "fit_together" "fit_together" sFitT f fd) (mL : mg "len" = none) (mM : mg "MOST_SIMPLE" = some (.int 8 t5)) (M : CallOf P w K mg base 11 "simple_tests" ["test"] (spSimple C 8) f1 fd1) :
    FnOk P w K mg base CX0 12 f fd ["one", "other"] (spTwo C (.bl true)) := by
  refine F.ok scFt (fun vs H Q E h => ?_) (fun cdv A outer s H vs Q E hr h => ?_)
  · obtain ⟨a, b, u, v, rfl, _⟩ := h
    rfl
  · obtain ⟨a, b, u, v, rfl, ha, hb, p8, q⟩ := h
    obtain ⟨da, db, l8⟩ := p8
    refine ⟨_, pss_one (by exact (ps_ret (pe_cmpR op_le (pe_op op_add (pe_callB call_len_seq (by rfl) mL PySem.boot_len (pa_cons (pe_call M.ok hr rfl M.m M.k M.b .nil pass0 (pa_cons (pv 0) pa_nil)) pa_nil)) (pe_callB call_len_seq (by rfl) mL PySem.boot_len (pa_cons (pe_call M.ok hr rfl M.m M.k M.b .nil pass0 (pa_cons (pv 1) pa_nil)) pa_nil))) (pe_glob (v := .int 8) rfl mM ⟨_, rfl⟩) (nomark _)))), ?_⟩
    refine ⟨_, rfl, a, u, rfl, ha, by omega, by omega, fun p xs H1 h1 l1 _ s1 => ⟨p, xs, rfl, .inl (SqL.of h1), ?_⟩⟩
    refine ⟨_, rfl, b, v, rfl, hb.same s1, by omega, by omega, fun p2 ys H2 h2 l2 _ s2 => ⟨p2, ys, rfl, .inl (SqL.of h2), _, _, rfl, rfl, _, _, rfl, rfl, ?_⟩⟩
    show Q (.bl (decide ((xs.length : Int) + (ys.length : Int) ≤ 8))) H2
    rw [decide_eq_true
          (by omega)]
    exact q H2 (s1.trans s2)
theorem scCp : FnScope ["one", "other"] ["one", "other"] (defScope sChkP) := ⟨rfl, rfl, rfl, by decide +kernel, rfl, by decide +kernel, by decide +kernel⟩
theorem ok_chkP {f f1 f2 : Addr} {fd fd1 fd2 : FuncData} (F : Fun K "check_pair" "check_pair" sChkP f fd) (M : CallOf P w K mg base 12 "fits_within" ["value"] (spFits C) f1 fd1) (N : CallOf P w K mg base 12 "fit_together" ["one", "other"] (spTwo C (.bl true)) f2 fd2) :
    FnOk P w K mg base CX0 13 f fd ["one", "other"] (spTwo C .non) := by
  refine F.ok scCp (fun vs H Q E h => ?_) (fun cdv A outer s H vs Q E hr h => ?_)
  · obtain ⟨a, b, u, v, rfl, _⟩ := h
    rfl
  · obtain ⟨a, b, u, v, rfl, ha, hb, p8, q⟩ := h
    refine ⟨_, pss_cons (by exact (ps_if (pt_not (pt_val (pe_call M.ok hr rfl M.m M.k M.b .nil pass0 (pa_cons (pv 0) pa_nil)))) pss_never pss_nil)) (
      pss_one (by exact (ps_if (PW.pt (pw_or (pt_not (pt_val (pe_call M.ok hr rfl M.m M.k M.b .nil pass0 (pa_cons (pv 1) pa_nil)))) (pw_or1 (pt_not (pt_val (pe_call N.ok hr rfl N.m N.k N.b .nil pass0 (pa_cons (pv 0) (pa_cons (pv 1) pa_nil)))))))) pss_never pss_nil))), ?_⟩
    refine ⟨_, rfl, a, u, rfl, ha, p8.da, fun H1 s1 => ⟨_, rfl, iteF ?_⟩⟩
    refine ⟨_, rfl, b, v, rfl, hb.same s1, p8.db, fun H2 s2 => ⟨_, rfl, iteF ?_⟩⟩
    have s3 := s1.trans s2
    exact ⟨_, rfl, _, rfl, a, b, u, v, rfl, ha.same s3, hb.same s3, p8, fun H3 s4 => ⟨_, rfl, iteF (q H3 (s3.trans s4))⟩⟩
/-- the making of a test of one -/
def spInitF (C : Nat → Addr) : Sp := fun vs H Q _ => ∃ (a dx : Addr) (g : G) (u : V), vs = [.ref a, u] ∧ H a = some (.ins (C 5) dx []) ∧ TA C H g u ∧ g.dep < 8 ∧ ∀ H', H' a = some (.ins (C 5) dx [("_test", u)]) → But a H H' → Q .non H'
abbrev sIFa : Stmt := cb 22 0
theorem scIFa : FnScope ["self", "test"] ["self", "test"] (defScope sIFa) := ⟨rfl, rfl, rfl, by decide +kernel, rfl, by decide +kernel, by decide +kernel⟩
theorem ok_IFa {f f1 : Addr} {fd fd1 : FuncData} (F : Fun K "__init__" "Fails.__init__" sIFa f fd) (T : C1 K (C 5) "_test") (M : CallOf P w K mg base 12 "fits_within" ["value"] (spFits C) f1 fd1) : FnOk P w K mg base CX0 14 f fd ["self", "test"] (spInitF C) := by
  refine F.ok scIFa (fun vs H Q E h => ?_) (fun cdv A outer s H vs Q E hr h => ?_)
  · obtain ⟨a, dx, g, u, rfl, _⟩ := h
    rfl
  · obtain ⟨a, dx, g, u, rfl, ha, hg, d8, q⟩ := h
    have hr2 : Room 12 _ := hr.mono (by decide)
    refine ⟨_, pss_cons (by exact (ps_if (pt_not (pt_val (pe_call M.ok hr2 rfl M.m M.k M.b .nil pass0 (pa_cons (pv 1) pa_nil)))) pss_never pss_nil)) (pss_one (by exact (ps_fld (pv 0) (pv 1) rfl))), ?_⟩
    refine ⟨_, rfl, g, u, rfl, hg, d8, fun H1 s1 => ⟨_, rfl, iteF ⟨_, rfl, _, rfl, a, C 5, dx, [], rfl, s1 _ _ ha, T.cls, T.no, by decide, ?_⟩⟩⟩
    exact q _ upd_same (But.same_put s1)
/-- the making of a test of two -/
def spInitP (C : Nat → Addr) (D : Addr) : Sp := fun vs H Q _ => ∃ (a dx : Addr) (x y : G) (u v : V), vs = [.ref a, u, v] ∧ H a = some (.ins D dx []) ∧ TA C H x u ∧ TA C H y v ∧ Pair8 x y ∧ ∀ H', H' a = some (.ins D dx [("_one", u), ("_other", v)]) → But a H H' → Q .non H'
abbrev sIBoth : Stmt := cb 23 0
theorem scIBoth : FnScope ["self", "one", "other"] ["self", "one", "other"] (defScope sIBoth) := ⟨rfl, rfl, rfl, by decide +kernel, rfl, by decide +kernel, by decide +kernel⟩
theorem ok_IBoth {f f1 D : Addr} {fd fd1 : FuncData} (F : Fun K "__init__" "Both.__init__" sIBoth f fd) (T : C2 K D) (M : CallOf P w K mg base 13 "check_pair" ["one", "other"] (spTwo C .non) f1 fd1) : FnOk P w K mg base CX0 14 f fd ["self", "one", "other"] (spInitP C D) := by
  refine F.ok scIBoth (fun vs H Q E h => ?_) (fun cdv A outer s H vs Q E hr h => ?_)
  · obtain ⟨a, dx, x, y, u, v, rfl, _⟩ := h
    rfl
  · obtain ⟨a, dx, x, y, u, v, rfl, ha, hx, hy, p8, q⟩ := h
    refine ⟨_, pss_cons (by exact (ps_expr (pe_call M.ok hr rfl M.m M.k M.b .nil pass0 (pa_cons (pv 1) (pa_cons (pv 2) pa_nil))))) (pss_cons (by exact (ps_fld (pv 0) (pv 1) rfl)) (pss_one (by exact (ps_fld (pv 0) (pv 2) rfl)))), ?_⟩
    refine ⟨_, rfl, _, rfl, x, y, u, v, rfl, hx, hy, p8, fun H1 s1 => ⟨_, rfl, _, rfl, a, D, dx, [], rfl, s1 _ _ ha, T.cls, T.one, by decide, ?_⟩⟩
    refine ⟨_, rfl, _, rfl, a, D, dx, _, rfl, upd_same, T.cls, T.oth, (by show 1 < 1000; decide), ?_⟩
    rw [upd_upd]
    exact q _ upd_same (But.same_put s1)
abbrev sIEither : Stmt := cb 24 0
theorem scIEither : FnScope ["self", "one", "other"] ["self", "one", "other"] (defScope sIEither) := ⟨rfl, rfl, rfl, by decide +kernel, rfl, by decide +kernel, by decide +kernel⟩
theorem ok_IEither {f f1 D : Addr} {fd fd1 : FuncData} (F : Fun K "__init__" "Either.__init__" sIEither f fd) (T : C2 K D) (M : CallOf P w K mg base 13 "check_pair" ["one", "other"] (spTwo C .non) f1 fd1) : FnOk P w K mg base CX0 14 f fd ["self", "one", "other"] (spInitP C D) := by
  refine F.ok scIEither (fun vs H Q E h => ?_) (fun cdv A outer s H vs Q E hr h => ?_)
  · obtain ⟨a, dx, x, y, u, v, rfl, _⟩ := h
    rfl
  · obtain ⟨a, dx, x, y, u, v, rfl, ha, hx, hy, p8, q⟩ := h
    refine ⟨_, pss_cons (by exact (ps_expr (pe_call M.ok hr rfl M.m M.k M.b .nil pass0 (pa_cons (pv 1) (pa_cons (pv 2) pa_nil))))) (pss_cons (by exact (ps_fld (pv 0) (pv 1) rfl)) (pss_one (by exact (ps_fld (pv 0) (pv 2) rfl)))), ?_⟩
    refine ⟨_, rfl, _, rfl, x, y, u, v, rfl, hx, hy, p8, fun H1 s1 => ⟨_, rfl, _, rfl, a, D, dx, [], rfl, s1 _ _ ha, T.cls, T.one, by decide, ?_⟩⟩
    refine ⟨_, rfl, _, rfl, a, D, dx, _, rfl, upd_same, T.cls, T.oth, (by show 1 < 1000; decide), ?_⟩
    rw [upd_upd]
    exact q _ upd_same (But.same_put s1)
end
end LA
end
section
set_option Elab.async false
set_option linter.all false
set_option maxRecDepth 100000
set_option maxHeartbeats 4100000
namespace LA
open PySem L2 XS XT
section
variable {P : Program} {w : World} {K : PySem.W.Frag} {mg : Str → Option Value} {base : Heap} {C h : Nat → Addr} {fh : Nat → FuncData}
/-- holds of a test of class i and of at most n -/
def spHold (C : Nat → Addr) (i n : Nat) : Sp := fun vs H Q _ => ∃ (g : G) (v : V) (y : Str), vs = [v, .str y] ∧ TA C H g v ∧ g.cls = i ∧ g.dep ≤ n ∧ y.length < 1000000 ∧ ∀ H', Same H H' → Q (.bl (g.val y)) H'
theorem look_holds {s : Nat} (hs : s < 5) {v : V} : ([(fldL s, v)] : List (Str × V)).lookup ("holds" : Str) = none := by
  have e : s = 0 ∨ s = 1 ∨ s = 2 ∨ s = 3 ∨ s = 4 := by omega
  rcases e with rfl | rfl | rfl | rfl | rfl <;> rfl
theorem TA.call {H : Hp} {g : G} {v : V} (t : TA C H g v) : ∃ a dx fs, v = .ref a ∧ H a = some (.ins (C g.cls) dx fs) ∧ fs.lookup ("holds" : Str) = none := by
  cases g with
  | leaf s z =>
    obtain ⟨s5, a, dx, e, ha⟩ := t
    exact ⟨a, dx, _, e, ha, look_holds s5⟩
  | fails g =>
    obtain ⟨a, dx, u, e, ha, _⟩ := t
    exact ⟨a, dx, _, e, ha, rfl⟩
  | pair s x y =>
    obtain ⟨_, a, dx, u1, u2, e, ha, _, _⟩ := t
    exact ⟨a, dx, _, e, ha, rfl⟩
theorem hold_leaf {s n : Nat} {f : Addr} {fd : FuncData} (hs : s < 5) (ok : FnOk P w K mg base CX0 1 f fd ["self", "line"] (spHoldL (C s) (fldL s) (leafB s))) : FnOk P w K mg base CX0 (n + 1) f fd ["self", "line"] (spHold C s n) := by
  refine (ok.mono (by omega)).imp fun vs H Q E q => ?_
  obtain ⟨g, v, y, rfl, t, c, _, sm, q⟩ := q
  cases g with
  | leaf r z =>
    obtain rfl : r = s := c
    obtain ⟨_, a, dx, rfl, ha⟩ := t
    exact ⟨a, dx, z, y, rfl, ha, sm, q⟩
  | fails g =>
    have : 5 = s := c
    omega
  | pair r a b =>
    have : 6 + r = s := c
    omega
structure HoldT (K : PySem.W.Frag) (C h : Nat → Addr) (fh : Nat → FuncData) : Prop where
  m : ∀ i : Fin 8, Meth K (C i) "holds" (h i)
  b : ∀ i : Fin 8, Binds K (fh i) ["self", "line"] []
/-- every class's holds keeps its promise for tests of at most n -/
def AllHold (P : Program) (w : World) (K : PySem.W.Frag) (mg : Str → Option Value) (base : Heap) (C h : Nat → Addr) (fh : Nat → FuncData) (n : Nat) : Prop := ∀ i : Fin 8, FnOk P w K mg base CX0 (n + 1) (h i) (fh i) ["self", "line"] (spHold C i n)
abbrev sHFa : Stmt := cb 22 2
theorem scHFa : FnScope ["self", "line"] ["self", "line"] (defScope sHFa) := ⟨rfl, rfl, rfl, by decide +kernel, rfl, by decide +kernel, by decide +kernel⟩
theorem ok_HFa {n : Nat} {f : Addr} {fd : FuncData} (F : Fun K "holds" "Fails.holds" sHFa f fd) (k0 : KC K C) (T : C1 K (C 5) "_test") (M : HoldT K C h fh) (ih : AllHold P w K mg base C h fh n) : FnOk P w K mg base CX0 (n + 2) f fd ["self", "line"] (spHold C 5 (n + 1)) := by
  refine F.ok scHFa (fun vs H Q E h => ?_) (fun cdv A outer s H vs Q E hr h => ?_)
  · obtain ⟨g, v, y, rfl, _⟩ := h
    rfl
  · obtain ⟨g, v, y, rfl, t, c, d, sm, q⟩ := h
    refine ⟨_, pss_one (by exact (ps_ret (pe_not (pe_ex fun i : Fin 8 => pe_meth (pe_fld (pv 0) rfl) (k0.cls i i.isLt) (M.m i) (ih i) hr (M.b i) .nil pass0 (pa_cons (pv 1) pa_nil))))), ?_⟩
    cases g with
    | leaf r z =>
      have z5 : r < 5 := t.1
      have : r = 5 := c
      omega
    | pair r a b =>
      have : 6 + r = 5 := c
      omega
    | fails g =>
      obtain ⟨a, dx, u, rfl, ha, hu⟩ := t
      obtain ⟨b, dy, fs, rfl, hb, nl⟩ := hu.call
      have dd : g.dep + 1 ≤ n + 1 := by
        have : 1 + g.dep ≤ n + 1 := d
        omega
      refine ⟨⟨g.cls, hu.at_.1⟩, _, rfl, a, C 5, dx, _, _, rfl, ha, T.cls, T.no, look1, b, dy, fs, rfl, hb, nl, _, rfl, g, _, y, rfl, hu, rfl, by omega, sm, fun H1 s1 => ⟨_, rfl, ?_⟩⟩
      exact q H1 s1
abbrev sHBoth : Stmt := cb 23 3
theorem scHBoth : FnScope ["self", "line"] ["self", "line"] (defScope sHBoth) := ⟨rfl, rfl, rfl, by decide +kernel, rfl, by decide +kernel, by decide +kernel⟩
theorem ok_HBoth {n : Nat} {f : Addr} {fd : FuncData} (F : Fun K "holds" "Both.holds" sHBoth f fd) (k0 : KC K C) (T : C2 K (C 6)) (M : HoldT K C h fh) (ih : AllHold P w K mg base C h fh n) : FnOk P w K mg base CX0 (n + 2) f fd ["self", "line"] (spHold C 6 (n + 1)) := by
  refine F.ok scHBoth (fun vs H Q E h => ?_) (fun cdv A outer s H vs Q E hr h => ?_)
  · obtain ⟨g, v, y, rfl, _⟩ := h
    rfl
  · obtain ⟨g, v, y, rfl, t, c, d, sm, q⟩ := h
    refine ⟨_, pss_one (by exact (ps_ret (pe_and (pe_ex fun i : Fin 8 => pe_meth (pe_fld (pv 0) rfl) (k0.cls i i.isLt) (M.m i) (ih i) hr (M.b i) .nil pass0 (pa_cons (pv 1) pa_nil)) (pe_one (pe_ex fun i : Fin 8 => pe_meth (pe_fld (pv 0) rfl) (k0.cls i i.isLt) (M.m i) (ih i) hr (M.b i) .nil pass0 (pa_cons (pv 1) pa_nil)))))), ?_⟩
    cases g with
    | leaf r z =>
      have z5 : r < 5 := t.1
      have : r = 6 := c
      omega
    | fails g => exact absurd c (by show ¬ 5 = 6; decide)
    | pair r x1 x2 =>
      have r0 : 6 + r = 6 := c
      obtain rfl : r = 0 := by omega
      obtain ⟨_, a, dx, u1, u2, rfl, ha, h1, h2⟩ := t
      obtain ⟨b1, dy1, fs1, rfl, hb1, nl1⟩ := h1.call
      obtain ⟨b2, dy2, fs2, rfl, hb2, nl2⟩ := h2.call
      have dd : 1 + max x1.dep x2.dep ≤ n + 1 := d
      refine ⟨⟨x1.cls, h1.at_.1⟩, _, rfl, a, C 6, dx, _, _, rfl, ha, T.cls, T.one, rfl, b1, dy1, fs1, rfl, hb1, nl1, _, rfl, x1, _, y, rfl, h1, rfl, by omega, sm, fun H1 s1 => ⟨_, rfl, ?_⟩⟩
      have s12 := h2.same s1
      cases e1 : x1.val y with
      | true =>
        refine iteT ⟨⟨x2.cls, h2.at_.1⟩, _, rfl, a, C 6, dx, _, _, rfl, s1 _ _ ha, T.cls, T.oth, rfl, b2, dy2, fs2, rfl, s1 _ _ hb2, nl2, _, rfl, x2, _, y, rfl, s12, rfl, by omega, sm, fun H2 s2 => ?_⟩
        have e : (G.pair 0 x1 x2).val y = x2.val y := by
          show (x1.val y && x2.val y) = _
          rw [e1]
          rfl
        rw [← e]
        exact q H2 (s1.trans s2)
      | false =>
        have e : (G.pair 0 x1 x2).val y = false := by
          show (x1.val y && x2.val y) = _
          rw [e1]
          rfl
        rw [e] at q
        exact iteF (q H1 s1)
abbrev sHEither : Stmt := cb 24 3
theorem scHEither : FnScope ["self", "line"] ["self", "line"] (defScope sHEither) := ⟨rfl, rfl, rfl, by decide +kernel, rfl, by decide +kernel, by decide +kernel⟩
theorem ok_HEither {n : Nat} {f : Addr} {fd : FuncData} (F : Fun K "holds" "Either.holds" sHEither f fd) (k0 : KC K C) (T : C2 K (C 7)) (M : HoldT K C h fh) (ih : AllHold P w K mg base C h fh n) : FnOk P w K mg base CX0 (n + 2) f fd ["self", "line"] (spHold C 7 (n + 1)) := by
  refine F.ok scHEither (fun vs H Q E h => ?_) (fun cdv A outer s H vs Q E hr h => ?_)
  · obtain ⟨g, v, y, rfl, _⟩ := h
    rfl
  · obtain ⟨g, v, y, rfl, t, c, d, sm, q⟩ := h
    refine ⟨_, pss_one (by exact (ps_ret (pe_or (pe_ex fun i : Fin 8 => pe_meth (pe_fld (pv 0) rfl) (k0.cls i i.isLt) (M.m i) (ih i) hr (M.b i) .nil pass0 (pa_cons (pv 1) pa_nil)) (pe_one (pe_ex fun i : Fin 8 => pe_meth (pe_fld (pv 0) rfl) (k0.cls i i.isLt) (M.m i) (ih i) hr (M.b i) .nil pass0 (pa_cons (pv 1) pa_nil)))))), ?_⟩
    cases g with
    | leaf r z =>
      have z5 : r < 5 := t.1
      have : r = 7 := c
      omega
    | fails g => exact absurd c (by show ¬ 5 = 7; decide)
    | pair r x1 x2 =>
      have r0 : 6 + r = 7 := c
      obtain rfl : r = 1 := by omega
      obtain ⟨_, a, dx, u1, u2, rfl, ha, h1, h2⟩ := t
      obtain ⟨b1, dy1, fs1, rfl, hb1, nl1⟩ := h1.call
      obtain ⟨b2, dy2, fs2, rfl, hb2, nl2⟩ := h2.call
      have dd : 1 + max x1.dep x2.dep ≤ n + 1 := d
      refine ⟨⟨x1.cls, h1.at_.1⟩, _, rfl, a, C 7, dx, _, _, rfl, ha, T.cls, T.one, rfl, b1, dy1, fs1, rfl, hb1, nl1, _, rfl, x1, _, y, rfl, h1, rfl, by omega, sm, fun H1 s1 => ⟨_, rfl, ?_⟩⟩
      have s12 := h2.same s1
      cases e1 : x1.val y with
      | false =>
        refine iteF ⟨⟨x2.cls, h2.at_.1⟩, _, rfl, a, C 7, dx, _, _, rfl, s1 _ _ ha, T.cls, T.oth, rfl, b2, dy2, fs2, rfl, s1 _ _ hb2, nl2, _, rfl, x2, _, y, rfl, s12, rfl, by omega, sm, fun H2 s2 => ?_⟩
        have e : (G.pair 1 x1 x2).val y = x2.val y := by
          show (x1.val y || x2.val y) = _
          rw [e1]
          rfl
        rw [← e]
        exact q H2 (s1.trans s2)
      | true =>
        have e : (G.pair 1 x1 x2).val y = true := by
          show (x1.val y || x2.val y) = _
          rw [e1]
          rfl
        rw [e] at q
        exact iteT (q H1 s1)
theorem hold_zero {i : Nat} {f : Addr} {fd : FuncData} {sc : Scope} {ss : Stmt} {N : List Str} {x qual : Str} (F : Fun K x qual ss f fd) (S : FnScope N ["self", "line"] (defScope ss)) : FnOk P w K mg base CX0 1 f fd ["self", "line"] (spHold C i 0) := by
  refine F.ok S (fun vs H Q E h => ?_) (fun cdv A outer s H vs Q E hr h => ?_)
  · obtain ⟨g, v, y, rfl, _⟩ := h
    rfl
  · obtain ⟨g, v, y, rfl, t, c, d, sm, q⟩ := h
    have := g.dep_pos
    omega
end
end LA
end
section
set_option Elab.async false
set_option linter.all false
set_option maxRecDepth 100000
set_option maxHeartbeats 4100000
namespace LA
open PySem L2 XS XT
section
variable {P : Program} {w : World} {K : PySem.W.Frag} {mg : Str → Option Value} {base : Heap} {C h : Nat → Addr} {fh : Nat → FuncData}
/-- the defs of holds, one for each class -/
structure HoldF (K : PySem.W.Frag) (C h : Nat → Addr) (fh : Nat → FuncData) : Prop where
  f0 : Fun K "holds" "Has.holds" sHHas (h 0) (fh 0)
  f1 : Fun K "holds" "Begins.holds" sHBegins (h 1) (fh 1)
  f2 : Fun K "holds" "Ends.holds" sHEnds (h 2) (fh 2)
  f3 : Fun K "holds" "Is.holds" sHIs (h 3) (fh 3)
  f4 : Fun K "holds" "Only.holds" sHOn (h 4) (fh 4)
  f5 : Fun K "holds" "Fails.holds" sHFa (h 5) (fh 5)
  f6 : Fun K "holds" "Both.holds" sHBoth (h 6) (fh 6)
  f7 : Fun K "holds" "Either.holds" sHEither (h 7) (fh 7)
  t0 : C1 K (C 0) "_word"
  t1 : C1 K (C 1) "_word"
  t2 : C1 K (C 2) "_word"
  t3 : C1 K (C 3) "_line"
  t4 : C1 K (C 4) "_letters"
  t5 : C1 K (C 5) "_test"
  t6 : C2 K (C 6)
  t7 : C2 K (C 7)
theorem all_hold (k0 : KC K C) (M : HoldT K C h fh) (F : HoldF K C h fh) (mA : mg "all" = none) : ∀ n, AllHold P w K mg base C h fh n := by
  intro n
  induction n with
  | zero =>
    intro i
    match i with
    | ⟨0, _⟩ => exact hold_zero (sc := defScope sHHas) F.f0 scHHas
    | ⟨1, _⟩ => exact hold_zero (sc := defScope sHHas) F.f1 scHBegins
    | ⟨2, _⟩ => exact hold_zero (sc := defScope sHHas) F.f2 scHEnds
    | ⟨3, _⟩ => exact hold_zero (sc := defScope sHHas) F.f3 scHIs
    | ⟨4, _⟩ => exact hold_zero (sc := defScope sHHas) F.f4 scHOn
    | ⟨5, _⟩ => exact hold_zero (sc := defScope sHHas) F.f5 scHFa
    | ⟨6, _⟩ => exact hold_zero (sc := defScope sHHas) F.f6 scHBoth
    | ⟨7, _⟩ => exact hold_zero (sc := defScope sHHas) F.f7 scHEither
  | succ n ih =>
    intro i
    match i with
    | ⟨0, _⟩ => exact hold_leaf (show 0 < 5 by decide) (ok_HHas F.f0 F.t0)
    | ⟨1, _⟩ => exact hold_leaf (show 1 < 5 by decide) (ok_HBegins F.f1 F.t1)
    | ⟨2, _⟩ => exact hold_leaf (show 2 < 5 by decide) (ok_HEnds F.f2 F.t2)
    | ⟨3, _⟩ => exact hold_leaf (show 3 < 5 by decide) (ok_HIs F.f3 F.t3)
    | ⟨4, _⟩ => exact hold_leaf (show 4 < 5 by decide) (ok_HOn F.f4 F.t4 mA)
    | ⟨5, _⟩ => exact ok_HFa F.f5 k0 F.t5 M ih
    | ⟨6, _⟩ => exact ok_HBoth F.f6 k0 F.t6 M ih
    | ⟨7, _⟩ => exact ok_HEither F.f7 k0 F.t7 M ih
end
/-! ### what the law's own look at places says -/
theorem cod_cut (y : Str) (k m : Nat) (hk : k ≤ y.length) : cod (cutS y (some (k : Int)) (some ((k : Int) + (m : Int)))) = ((cod y).drop k).take m := by
  have e : (k : Int) + (m : Int) = ((k + m : Nat) : Int) := by omega
  rw [e]
  show ((((cod y).drop (HT.sIx y.length 0 (some (k : Int)))).take (HT.sIx y.length y.length (some ((k + m : Nat) : Int)) - HT.sIx y.length 0 (some (k : Int)))).toArray).toList = _
  rw [HT.sIx_nat, HT.sIx_nat, Nat.min_eq_left hk]
  show ((cod y).drop k).take (min (k + m) y.length - k) = _
  rw [List.take_eq_take_iff, List.length_drop, len_cod]
  omega
theorem eq_sub {y z : Str} {l : Str} {k : Nat} (h : cod l = ((cod y).drop k).take z.length) : decide (V.str l = V.str z) = Builtin.Str.subAt y z k := by
  rw [StrLaws.subAt_eq]
  by_cases e : l = z
  · subst e
    rw [decide_eq_true rfl]
    symm
    rw [beq_iff_eq]
    exact h.symm
  · rw [decide_eq_false (fun x => e (by injection x))]
    symm
    rw [beq_eq_false_iff_ne]
    intro x
    exact e (cod_ext (h.trans x))
theorem has_law {z y : Str} (hz : 0 < z.length) : hasB z y = decide (((List.range y.length).filter fun k => Builtin.Str.subAt y z k) ≠ []) := by
  rw [Bool.eq_iff_iff]
  unfold hasB
  rw [StrLaws.found_iff, decide_eq_true_iff]
  refine ⟨fun ⟨i, h1, h2⟩ e => ?_, fun h => ?_⟩
  · have mem : i ∈ (List.range y.length).filter fun k => Builtin.Str.subAt y z k := List.mem_filter.mpr ⟨List.mem_range.mpr (by omega), h2⟩
    rw [e] at mem
    cases mem
  · obtain ⟨i, hi⟩ := List.exists_mem_of_ne_nil _ h
    obtain ⟨h1, h2⟩ := List.mem_filter.mp hi
    have lt := List.mem_range.mp h1
    have sz := StrLaws.subAt_size h2
    exact ⟨i, by omega, h2⟩
theorem begins_law (z y : Str) : Txt.startswith y z = decide (V.str (cutS y none (some (z.length : Int))) = V.str z) := by
  have e : cod (cutS y none (some (z.length : Int))) = ((cod y).drop 0).take z.length := by
    show ((((cod y).drop (HT.sIx y.length 0 none)).take (HT.sIx y.length y.length (some (z.length : Int)) - HT.sIx y.length 0 none)).toArray).toList = _
    rw [HT.sIx_nat, HT.sIx_none]
    show ((cod y).drop 0).take (min z.length y.length - 0) = _
    rw [List.take_eq_take_iff, List.length_drop, len_cod]
    omega
  rw [eq_sub e]
  show (decide (0 + z.length ≤ y.length) && Builtin.Str.subAt y z 0) = _
  cases hs : Builtin.Str.subAt y z 0 with
  | false => rw [Bool.and_false]
  | true =>
    have := StrLaws.subAt_zero_le hs
    rw [decide_eq_true (by omega), Bool.true_and]
theorem ends_law {z y : Str} (hl : z.length ≤ y.length) : Txt.endswith y z = decide (V.str (cutS y (some ((y.length : Int) - (z.length : Int))) none) = V.str z) := by
  have e0 : (y.length : Int) - (z.length : Int) = ((y.length - z.length : Nat) : Int) := by omega
  have e : cod (cutS y (some ((y.length : Int) - (z.length : Int))) none) = ((cod y).drop (y.length - z.length)).take z.length := by
    rw [e0]
    show ((((cod y).drop (HT.sIx y.length 0 (some ((y.length - z.length : Nat) : Int)))).take (HT.sIx y.length y.length none - HT.sIx y.length 0 (some ((y.length - z.length : Nat) : Int)))).toArray).toList = _
    rw [HT.sIx_nat, HT.sIx_none, Nat.min_eq_left (by omega)]
    show ((cod y).drop (y.length - z.length)).take (y.length - (y.length - z.length)) = _
    congr 1
    omega
  rw [eq_sub e]
  show (decide (0 + z.length ≤ y.length) && Builtin.Str.subAt y z (y.length - z.length)) = _
  rw [decide_eq_true (by omega), Bool.true_and]
theorem ends_short {z y : Str} (hl : ¬ z.length ≤ y.length) : Txt.endswith y z = false := by
  show (decide (0 + z.length ≤ y.length) && Builtin.Str.subAt y z (y.length - z.length)) = _
  rw [decide_eq_false (by omega), Bool.false_and]
theorem only_law (z y : Str) : onlyB z y = decide (((cod y).filter fun c => !decide (c ∈ cod z)) = []) := by
  rw [Bool.eq_iff_iff, decide_eq_true_iff, List.filter_eq_nil_iff]
  unfold onlyB
  rw [List.all_eq_true]
  simp
end LA
end
section
set_option Elab.async false
set_option linter.all false
set_option maxRecDepth 100000
set_option maxHeartbeats 4100000
namespace LA
open PySem L2 XS XT
def nmL : Nat → Str
  | 0 => "has"
  | 1 => "begins"
  | 2 => "ends"
  | 3 => "is"
  | _ => "only"
def nmP : Nat → Str
  | 0 => "both"
  | _ => "either"
/-- the law's tuple of a plain test -/
def GA (H : Hp) : G → V → Prop
  | .leaf s z, v => s < 5 ∧ ∃ p, v = .ref p ∧ H p = some (.tup [.str (nmL s), .str z])
  | .fails g, v => ∃ p u, v = .ref p ∧ H p = some (.tup [.str "fails", u]) ∧ GA H g u
  | .pair s x y, v => s < 2 ∧ ∃ p u1 u2, v = .ref p ∧ H p = some (.tup [.str (nmP s), u1, u2]) ∧ GA H x u1 ∧ GA H y u2
theorem GA.keep {H H' : Hp} (k : ∀ a xs, H a = some (.tup xs) → H' a = some (.tup xs)) : ∀ {g : G} {v : V}, GA H g v → GA H' g v
  | .leaf s z, v, ⟨h, p, e, hp⟩ => ⟨h, p, e, k _ _ hp⟩
  | .fails g, v, ⟨p, u, e, hp, hu⟩ => ⟨p, u, e, k _ _ hp, GA.keep k hu⟩
  | .pair s x y, v, ⟨h, p, u1, u2, e, hp, h1, h2⟩ => ⟨h, p, u1, u2, e, k _ _ hp, GA.keep k h1, GA.keep k h2⟩
theorem GA.same {H H' : Hp} (s : Same H H') {g : G} {v : V} (h : GA H g v) : GA H' g v := h.keep fun a xs e => s _ _ e
theorem GA.but {H H' : Hp} {d : Addr} {kvs : List (Key × V)} (b : But d H H') (hd : H d = some (.dK kvs)) {g : G} {v : V} (h : GA H g v) : GA H' g v :=
  h.keep fun a xs e => b _ _ e (ne_of e hd (by intro z; cases z))
/-- the words, lines and letters may be taken -/
def G.wf : G → Prop
  | .leaf s z => (s < 3 → shortB z = true) ∧ (s = 3 → lineB z = true ∧ z.length ≤ 20) ∧ (s = 4 → lineB z = true ∧ (cod z).Nodup) ∧ z.length < 100
  | .fails g => g.wf
  | .pair _ a b => a.wf ∧ b.wf
theorem short_pos {z : Str} (h : shortB z = true) : 0 < z.length := by
  unfold shortB wordB at h
  exact of_decide_eq_true (Bool.and_eq_true_iff.mp (Bool.and_eq_true_iff.mp h).1).2
section
variable {P : Program} {w : World} {K : PySem.W.Frag} {mg : Str → Option Value} {base : Heap}
theorem eqv_nil (ds : List PyData) : PyData.eqv (.list ds) (.list []) = ds.isEmpty := by
  cases ds <;> rfl
theorem dp_cs {H : Hp} : ∀ l : List Nat, DpAll K H (cs l) (l.map fun c => PyData.str (sg c))
  | [] => .nil
  | c :: r => .cons (.str (sg c)) (dp_cs r)
theorem lay_cs : ∀ l : List Nat, (∀ c ∈ l, Lt c) → PyData.canLayAll0 (l.map fun c => PyData.str (sg c)) = true
  | [], _ => rfl
  | c :: r, h => by
    have hc := h c
          (List.mem_cons_self ..)
    have h1 : PyData.strOk (sg c) = true := by
      show (#[c] : Array Nat).all (· < 0x110000) = true
      simp
      have := hc.2.1
      omega
    simp only [List.map, PyData.canLayAll0, PyData.canLay0, h1, lay_cs r (fun x hx => h x (List.mem_cons_of_mem _ hx)), Bool.and_self]
theorem deep_cs : ∀ l : List Nat, PyData.depthAll (l.map fun c => PyData.str (sg c)) = 0
  | [] => rfl
  | c :: r => by
    show max (PyData.depth (.str (sg c))) (PyData.depthAll (r.map fun c => PyData.str (sg c))) = 0
    rw [deep_cs r]
    rfl
theorem shaped_cs (l : List Nat) (h : ∀ c ∈ l, Lt c) : SeqAt.shaped (.list (l.map fun c => PyData.str (sg c))) = true := by
  unfold SeqAt.shaped
  have h1 : PyData.canLay0 (.list (l.map fun c => PyData.str (sg c))) = true := by
    unfold PyData.canLay0
    exact lay_cs l h
  have h2 : PyData.depth (.list (l.map fun c => PyData.str (sg c))) ≤ 64 := by
    unfold PyData.depth
    rw [deep_cs]
    decide
  rw [h1, decide_eq_true h2]
  rfl
def rAddI : R2 := fun x y H Q => ∃ i j, x = .int i ∧ y = .int j ∧ Q (.int (i + j)) H
def rNotS : R2 := fun x y H Q => ∃ i j, x = .str i ∧ y = .str j ∧ Q (.bl (!(!(Builtin.Str.occurrences j i 0 j.length 1).isEmpty))) H
def rLenT2 : List V → Hp → VK → Prop := fun xs H Q => ∃ z, xs = [.str z] ∧ z.length ≤ sizeLine ∧ Q (.int z.length) H
end
end LA
end
section
set_option Elab.async false
set_option linter.all false
set_option maxRecDepth 100000
set_option maxHeartbeats 4100000
namespace LA
open PySem L2 XS XT
abbrev sMG : Stmt := top 41
def okS : Nat → Str → Prop
  | 3, z => lineB z = true ∧ z.length ≤ 20
  | 4, z => lineB z = true ∧ (cod z).Nodup ∧ z.length < 4000
  | _, z => shortB z = true
section
variable {P : Program} {w : World} {K : PySem.W.Frag} {mg : Str → Option Value} {base : Heap} {C fi : Nat → Addr} {fdi : Nat → FuncData}
structure MkAt (P : Program) (w : World) (K : PySem.W.Frag) (mg : Str → Option Value) (base : Heap) (k : Nat) (D : Addr) (ps : List Str) (sp : Sp) (f : Addr) (fd : FuncData) : Prop where
  made : Mk K D f
  ok : FnOk P w K mg base CX0 k f fd ps sp
  b : Binds K fd ps []
/-- how the eight classes are made -/
structure Makers (P : Program) (w : World) (K : PySem.W.Frag) (mg : Str → Option Value) (base : Heap) (C fi : Nat → Addr) (fdi : Nat → FuncData) : Prop where
  m0 : MkAt P w K mg base 6 (C 0) ["self", "word"] (spInit1 (C 0) "_word" fun z => shortB z = true) (fi 0) (fdi 0)
  m1 : MkAt P w K mg base 6 (C 1) ["self", "word"] (spInit1 (C 1) "_word" fun z => shortB z = true) (fi 1) (fdi 1)
  m2 : MkAt P w K mg base 6 (C 2) ["self", "word"] (spInit1 (C 2) "_word" fun z => shortB z = true) (fi 2) (fdi 2)
  m3 : MkAt P w K mg base 6 (C 3) ["self", "line"] (spInit1 (C 3) "_line" fun z => lineB z = true ∧ z.length ≤ 20) (fi 3) (fdi 3)
  m4 : MkAt P w K mg base 6 (C 4) ["self", "letters"] (spInit1 (C 4) "_letters" fun z => lineB z = true ∧ (cod z).Nodup ∧ z.length < 4000) (fi 4) (fdi 4)
  m5 : MkAt P w K mg base 14 (C 5) ["self", "test"] (spInitF C) (fi 5) (fdi 5)
  m6 : MkAt P w K mg base 14 (C 6) ["self", "one", "other"] (spInitP C (C 6)) (fi 6) (fdi 6)
  m7 : MkAt P w K mg base 14 (C 7) ["self", "one", "other"] (spInitP C (C 7)) (fi 7) (fdi 7)
/-- what a new instance leaves -/
theorem made_same {H H' : Hp} {x dx D : Addr} (nx : H x = none) (nd : H dx = none) (b : But x (upd (upd H dx (.own x)) x (.ins D dx [])) H') : Same H H' := fun a o e => by
  have h1 := ne_of_none e nx
  have h2 := ne_of_none e nd
  exact b a o (by rw [upd_ne h1, upd_ne h2]; exact e) h1
theorem made_start {H : Hp} {x dx D : Addr} (nx : H x = none) (nd : H dx = none) : Same H (upd (upd H dx (.own x)) x (.ins D dx [])) := fun a o e => by
  rw [upd_ne (ne_of_none e nx), upd_ne (ne_of_none e nd)]
  exact e
/-- made_goal of a plain test of at most n -/
def spMG (C : Nat → Addr) (n : Nat) : Sp := fun vs H Q _ => ∃ (g : G) (v : V), vs = [v] ∧ GA H g v ∧ g.wf ∧ g.dep ≤ n ∧ g.dep ≤ 8 ∧ g.lv ≤ 8 ∧ ∀ (u : V) (H' : Hp), TA C H' g u → Same H H' → Q u H'
theorem scMG : FnScope ["_law_goal_here", "_law_sort", "_law_first", "_law_second"] ["_law_goal_here"] (defScope sMG) := ⟨rfl, rfl, rfl, by decide +kernel, rfl, by decide +kernel, by decide +kernel⟩
theorem ok_MG {f : Addr} {fd : FuncData} (F : Fun K "_law_made_goal" "_law_made_goal" sMG f fd) (N : NamT mg C) (M : Makers P w K mg base C fi fdi) (mD : mg "_law_made_goal" = some (.ref f)) (kD : PySem.W.keepIn K (.ref f) = true) (bD : Binds K fd ["_law_goal_here"] []) :
    ∀ n, FnOk P w K mg base CX0 (n + 16) f fd ["_law_goal_here"] (spMG C n) := by
  intro n
  induction n with
  | zero =>
    refine F.ok scMG (fun vs H Q E h => ?_) (fun cdv A outer s H vs Q E hr h => ?_)
    · obtain ⟨g, v, rfl, _⟩ := h
      rfl
    · obtain ⟨g, v, rfl, _, _, d, _⟩ := h
      have := g.dep_pos
      omega
  | succ n ih =>
    refine F.ok scMG (fun vs H Q E h => ?_) (fun cdv A outer s H vs Q E hr h => ?_)
    · obtain ⟨g, v, rfl, _⟩ := h
      rfl
    · obtain ⟨g, v, rfl, hg, wf, hd, d8, l8, q⟩ := h
      have hr7 : Room 7 _ := hr.mono (by omega)
      have hr15 : Room 15 _ := hr.mono (by omega)
      refine ⟨_, pss_cons (by exact (ps_set (i := 1) scMG.nd rfl (.inl rfl) (pe_ix ix_tup (pv 0) pe_int (fun _ _ => rfl)))) (
        pss_cons (by exact (ps_if (pt_cmpR op_eq (pv 1) pe_str (nomark _)) (pss_one (by exact (ps_ret (pe_make M.m0.made M.m0.ok hr7 rfl N.n0 M.m0.b .nil pass0 (pa_cons (pe_ix ix_tup (pv 0) pe_int (fun _ _ => rfl)) pa_nil))))) pss_nil)) (
        pss_cons (by exact (ps_if (pt_cmpR op_in_seq (pv 1) (pe_tup (pa_cons pe_str (pa_cons pe_str pa_nil))) (by rfl)) (pss_one (by exact (ps_ret (pe_ifExp (pt_cmpR op_eq (pv 1) pe_str (nomark _)) (pe_make M.m1.made M.m1.ok hr7 rfl N.n1 M.m1.b .nil pass0 (pa_cons (pe_ix ix_tup (pv 0) pe_int (fun _ _ => rfl)) pa_nil)) (pe_make M.m2.made M.m2.ok hr7 rfl N.n2 M.m2.b .nil pass0 (pa_cons (pe_ix ix_tup (pv 0) pe_int (fun _ _ => rfl)) pa_nil)))))) pss_nil)) (
        pss_cons (by exact (ps_if (pt_cmpR op_in_seq (pv 1) (pe_tup (pa_cons pe_str (pa_cons pe_str pa_nil))) (by rfl)) (pss_one (by exact (ps_ret (pe_ifExp (pt_cmpR op_eq (pv 1) pe_str (nomark _)) (pe_make M.m3.made M.m3.ok hr7 rfl N.n3 M.m3.b .nil pass0 (pa_cons (pe_ix ix_tup (pv 0) pe_int (fun _ _ => rfl)) pa_nil)) (pe_make M.m4.made M.m4.ok hr7 rfl N.n4 M.m4.b .nil pass0 (pa_cons (pe_ix ix_tup (pv 0) pe_int (fun _ _ => rfl)) pa_nil)))))) pss_nil)) (
        pss_cons (by exact (ps_if (pt_cmpR op_eq (pv 1) pe_str (nomark _)) (pss_one (by exact (ps_ret (pe_make M.m5.made M.m5.ok hr15 rfl N.n5 M.m5.b .nil pass0 (pa_cons (pe_call ih hr rfl mD kD bD .nil pass0 (pa_cons (pe_ix ix_tup (pv 0) pe_int (fun _ _ => rfl)) pa_nil)) pa_nil))))) pss_nil)) (
        pss_cons (by exact (ps_par (i := 2) (j := 3) (by rfl) scMG.nd rfl rfl (by decide) rfl rfl (pa_cons (pe_call ih hr rfl mD kD bD .nil pass0 (pa_cons (pe_ix ix_tup (pv 0) pe_int (fun _ _ => rfl)) pa_nil)) (pa_cons (pe_call ih hr rfl mD kD bD .nil pass0 (pa_cons (pe_ix ix_tup (pv 0) pe_int (fun _ _ => rfl)) pa_nil)) pa_nil)) (by rfl))) (
        pss_one (by exact (ps_ret (pe_ifExp (pt_cmpR op_eq (pv 1) pe_str (nomark _)) (pe_make M.m6.made M.m6.ok hr15 rfl N.n6 M.m6.b .nil pass0 (pa_cons (pv 2) (pa_cons (pv 3) pa_nil))) (pe_make M.m7.made M.m7.ok hr15 rfl N.n7 M.m7.b .nil pass0 (pa_cons (pv 2) (pa_cons (pv 3) pa_nil)))))))))))), ?_⟩
      cases g with
      | leaf s z =>
        obtain ⟨s5, p, rfl, hp⟩ := hg
        obtain ⟨w1, w2, w3, w4⟩ := wf
        refine ⟨_, rfl, p, _, _, _, rfl, rfl, SqT.of hp, atI_nat (j := 0) rfl, ?_⟩
        have e5 : s = 0 ∨ s = 1 ∨ s = 2 ∨ s = 3 ∨ s = 4 := by omega
        rcases e5 with rfl | rfl | rfl | rfl | rfl
        case' inl =>
          refine ⟨_, rfl, rfl, _, rfl, ?_⟩
          rw [show decide (V.str (nmL 0) = V.str "has") = true by decide +kernel]
          refine iteT ⟨_, rfl, p, _, _, _, rfl, rfl, SqT.of hp, atI_nat (j := 1) rfl, fun x dx nx nd ne => ⟨x, dx, z, rfl, upd_same, w1 (by decide), fun H2 hx b => ⟨rfl, ?_⟩⟩⟩
          exact q (.ref x) H2 ⟨s5, x, dx, rfl, hx⟩ (made_same nx nd b)
        case' inr.inl =>
          refine ⟨_, rfl, rfl, _, rfl, ?_⟩
          rw [show decide (V.str (nmL 1) = V.str "has") = false by decide +kernel]
          refine iteF ?_
          refine ⟨_, rfl, (by show 2 ≤ sizeLine; decide), fun T1 nT1 => ⟨T1, _, rfl, .inr (SqT.of upd_same), rfl, rfl, _, rfl, ?_⟩⟩
          have sm1 := same_upd (o := .tup [.str "begins", .str "ends"]) nT1
          rw [show (if false = true then !inV (V.str (nmL 1)) [V.str "begins", V.str "ends"] else inV (V.str (nmL 1)) [V.str "begins", V.str "ends"]) = true by decide +kernel]
          refine iteT ?_
          refine ⟨_, rfl, rfl, _, rfl, ?_⟩
          rw [show decide (V.str (nmL 1) = V.str "begins") = true by decide +kernel]
          refine iteT ⟨_, rfl, p, _, _, _, rfl, rfl, SqT.of (sm1 _ _ hp), atI_nat (j := 1) rfl, fun x dx nx nd ne => ⟨x, dx, z, rfl, upd_same, w1 (by decide), fun H2 hx b => ⟨rfl, ?_⟩⟩⟩
          exact q (.ref x) H2 ⟨s5, x, dx, rfl, hx⟩ (sm1.trans (made_same nx nd b))
        case' inr.inr.inl =>
          refine ⟨_, rfl, rfl, _, rfl, ?_⟩
          rw [show decide (V.str (nmL 2) = V.str "has") = false by decide +kernel]
          refine iteF ?_
          refine ⟨_, rfl, (by show 2 ≤ sizeLine; decide), fun T1 nT1 => ⟨T1, _, rfl, .inr (SqT.of upd_same), rfl, rfl, _, rfl, ?_⟩⟩
          have sm1 := same_upd (o := .tup [.str "begins", .str "ends"]) nT1
          rw [show (if false = true then !inV (V.str (nmL 2)) [V.str "begins", V.str "ends"] else inV (V.str (nmL 2)) [V.str "begins", V.str "ends"]) = true by decide +kernel]
          refine iteT ?_
          refine ⟨_, rfl, rfl, _, rfl, ?_⟩
          rw [show decide (V.str (nmL 2) = V.str "begins") = false by decide +kernel]
          refine iteF ⟨_, rfl, p, _, _, _, rfl, rfl, SqT.of (sm1 _ _ hp), atI_nat (j := 1) rfl, fun x dx nx nd ne => ⟨x, dx, z, rfl, upd_same, w1 (by decide), fun H2 hx b => ⟨rfl, ?_⟩⟩⟩
          exact q (.ref x) H2 ⟨s5, x, dx, rfl, hx⟩ (sm1.trans (made_same nx nd b))
        case' inr.inr.inr.inl =>
          refine ⟨_, rfl, rfl, _, rfl, ?_⟩
          rw [show decide (V.str (nmL 3) = V.str "has") = false by decide +kernel]
          refine iteF ?_
          refine ⟨_, rfl, (by show 2 ≤ sizeLine; decide), fun T1 nT1 => ⟨T1, _, rfl, .inr (SqT.of upd_same), rfl, rfl, _, rfl, ?_⟩⟩
          have sm1 := same_upd (o := .tup [.str "begins", .str "ends"]) nT1
          rw [show (if false = true then !inV (V.str (nmL 3)) [V.str "begins", V.str "ends"] else inV (V.str (nmL 3)) [V.str "begins", V.str "ends"]) = false by decide +kernel]
          refine iteF ?_
          refine ⟨_, rfl, (by show 2 ≤ sizeLine; decide), fun T2 nT2 => ⟨T2, _, rfl, .inr (SqT.of upd_same), rfl, rfl, _, rfl, ?_⟩⟩
          have sm2 := (sm1).trans (same_upd (o := .tup [.str "is", .str "only"]) nT2)
          rw [show (if false = true then !inV (V.str (nmL 3)) [V.str "is", V.str "only"] else inV (V.str (nmL 3)) [V.str "is", V.str "only"]) = true by decide +kernel]
          refine iteT ?_
          refine ⟨_, rfl, rfl, _, rfl, ?_⟩
          rw [show decide (V.str (nmL 3) = V.str "is") = true by decide +kernel]
          refine iteT ⟨_, rfl, p, _, _, _, rfl, rfl, SqT.of (sm2 _ _ hp), atI_nat (j := 1) rfl, fun x dx nx nd ne => ⟨x, dx, z, rfl, upd_same, w2 rfl, fun H2 hx b => ⟨rfl, ?_⟩⟩⟩
          exact q (.ref x) H2 ⟨s5, x, dx, rfl, hx⟩ (sm2.trans (made_same nx nd b))
        case' inr.inr.inr.inr =>
          refine ⟨_, rfl, rfl, _, rfl, ?_⟩
          rw [show decide (V.str (nmL 4) = V.str "has") = false by decide +kernel]
          refine iteF ?_
          refine ⟨_, rfl, (by show 2 ≤ sizeLine; decide), fun T1 nT1 => ⟨T1, _, rfl, .inr (SqT.of upd_same), rfl, rfl, _, rfl, ?_⟩⟩
          have sm1 := same_upd (o := .tup [.str "begins", .str "ends"]) nT1
          rw [show (if false = true then !inV (V.str (nmL 4)) [V.str "begins", V.str "ends"] else inV (V.str (nmL 4)) [V.str "begins", V.str "ends"]) = false by decide +kernel]
          refine iteF ?_
          refine ⟨_, rfl, (by show 2 ≤ sizeLine; decide), fun T2 nT2 => ⟨T2, _, rfl, .inr (SqT.of upd_same), rfl, rfl, _, rfl, ?_⟩⟩
          have sm2 := (sm1).trans (same_upd (o := .tup [.str "is", .str "only"]) nT2)
          rw [show (if false = true then !inV (V.str (nmL 4)) [V.str "is", V.str "only"] else inV (V.str (nmL 4)) [V.str "is", V.str "only"]) = true by decide +kernel]
          refine iteT ?_
          refine ⟨_, rfl, rfl, _, rfl, ?_⟩
          rw [show decide (V.str (nmL 4) = V.str "is") = false by decide +kernel]
          refine iteF ⟨_, rfl, p, _, _, _, rfl, rfl, SqT.of (sm2 _ _ hp), atI_nat (j := 1) rfl, fun x dx nx nd ne => ⟨x, dx, z, rfl, upd_same, ⟨(w3 rfl).1, (w3 rfl).2, by omega⟩, fun H2 hx b => ⟨rfl, ?_⟩⟩⟩
          exact q (.ref x) H2 ⟨s5, x, dx, rfl, hx⟩ (sm2.trans (made_same nx nd b))
      | fails g =>
        obtain ⟨p, u, rfl, hp, hu⟩ := hg
        have dd : 1 + g.dep ≤ n + 1 := hd
        have d9 : 1 + g.dep ≤ 8 := d8
        have l9 : g.lv ≤ 8 := l8
        refine ⟨_, rfl, p, _, _, _, rfl, rfl, SqT.of hp, atI_nat (j := 0) rfl, ?_⟩
        refine ⟨_, rfl, rfl, _, rfl, ?_⟩
        rw [show decide (V.str ("fails") = V.str "has") = false by decide +kernel]
        refine iteF ?_
        refine ⟨_, rfl, (by show 2 ≤ sizeLine; decide), fun T1 nT1 => ⟨T1, _, rfl, .inr (SqT.of upd_same), rfl, rfl, _, rfl, ?_⟩⟩
        have sm1 := same_upd (o := .tup [.str "begins", .str "ends"]) nT1
        rw [show (if false = true then !inV (V.str ("fails")) [V.str "begins", V.str "ends"] else inV (V.str ("fails")) [V.str "begins", V.str "ends"]) = false by decide +kernel]
        refine iteF ?_
        refine ⟨_, rfl, (by show 2 ≤ sizeLine; decide), fun T2 nT2 => ⟨T2, _, rfl, .inr (SqT.of upd_same), rfl, rfl, _, rfl, ?_⟩⟩
        have sm2 := (sm1).trans (same_upd (o := .tup [.str "is", .str "only"]) nT2)
        rw [show (if false = true then !inV (V.str ("fails")) [V.str "is", V.str "only"] else inV (V.str ("fails")) [V.str "is", V.str "only"]) = false by decide +kernel]
        refine iteF ?_
        refine ⟨_, rfl, rfl, _, rfl, ?_⟩
        rw [show decide (V.str ("fails") = V.str "fails") = true by decide +kernel]
        refine iteT ⟨_, rfl, p, _, _, _, rfl, rfl, SqT.of (sm2 _ _ hp), atI_nat (j := 1) rfl, g, u, rfl, hu.same sm2, wf, by omega, by omega, l9, fun t H3 ht s3 => ?_⟩
        intro x dx nx nd ne
        refine ⟨x, dx, g, t, rfl, upd_same, ht.same (made_start nx nd), by omega, fun H4 hx b => ⟨rfl, ?_⟩⟩
        have s4 := made_same nx nd b
        exact q (.ref x) H4 ⟨x, dx, t, rfl, hx, ht.same s4⟩ ((sm2.trans s3).trans s4)
      | pair s a b =>
        obtain ⟨s2, p, u1, u2, rfl, hp, h1, h2⟩ := hg
        have dd : 1 + max a.dep b.dep ≤ n + 1 := hd
        have d9 : 1 + max a.dep b.dep ≤ 8 := d8
        have l9 : a.lv + b.lv ≤ 8 := l8
        refine ⟨_, rfl, p, _, _, _, rfl, rfl, SqT.of hp, atI_nat (j := 0) rfl, ?_⟩
        have es : s = 0 ∨ s = 1 := by omega
        rcases es with rfl | rfl
        case' inl =>
          refine ⟨_, rfl, rfl, _, rfl, ?_⟩
          rw [show decide (V.str (nmP 0) = V.str "has") = false by decide +kernel]
          refine iteF ?_
          refine ⟨_, rfl, (by show 2 ≤ sizeLine; decide), fun T1 nT1 => ⟨T1, _, rfl, .inr (SqT.of upd_same), rfl, rfl, _, rfl, ?_⟩⟩
          have sm1 := same_upd (o := .tup [.str "begins", .str "ends"]) nT1
          rw [show (if false = true then !inV (V.str (nmP 0)) [V.str "begins", V.str "ends"] else inV (V.str (nmP 0)) [V.str "begins", V.str "ends"]) = false by decide +kernel]
          refine iteF ?_
          refine ⟨_, rfl, (by show 2 ≤ sizeLine; decide), fun T2 nT2 => ⟨T2, _, rfl, .inr (SqT.of upd_same), rfl, rfl, _, rfl, ?_⟩⟩
          have sm2 := (sm1).trans (same_upd (o := .tup [.str "is", .str "only"]) nT2)
          rw [show (if false = true then !inV (V.str (nmP 0)) [V.str "is", V.str "only"] else inV (V.str (nmP 0)) [V.str "is", V.str "only"]) = false by decide +kernel]
          refine iteF ?_
          refine ⟨_, rfl, rfl, _, rfl, ?_⟩
          rw [show decide (V.str (nmP 0) = V.str "fails") = false by decide +kernel]
          refine iteF ?_
          refine ⟨_, rfl, p, _, _, _, rfl, rfl, SqT.of (sm2 _ _ hp), atI_nat (j := 1) rfl, a, u1, rfl, h1.same sm2, wf.1, by omega, by omega, by omega, fun t1 H3 ht1 s3 => ?_⟩
          have sm3 := sm2.trans s3
          refine ⟨_, rfl, p, _, _, _, rfl, rfl, SqT.of (sm3 _ _ hp), atI_nat (j := 2) rfl, b, u2, rfl, h2.same sm3, wf.2, by omega, by omega, by omega, fun t2 H4 ht2 s4 => ?_⟩
          refine ⟨_, _, rfl, ?_⟩
          refine ⟨_, rfl, rfl, _, rfl, ?_⟩
          rw [show decide (V.str (nmP 0) = V.str "both") = true by decide +kernel]
          refine iteT ⟨_, rfl, _, rfl, fun x dx nx nd ne => ?_⟩
          have s5 := made_start (D := C 6) nx nd
          refine ⟨x, dx, a, b, t1, t2, rfl, upd_same, (ht1.same s4).same s5, ht2.same s5, ⟨by omega, by omega, l9⟩, fun H5 hx bb => ⟨rfl, ?_⟩⟩
          have s6 := made_same nx nd bb
          exact q (.ref x) H5 ⟨by decide, x, dx, t1, t2, rfl, hx, (ht1.same s4).same s6, ht2.same s6⟩ ((sm3.trans s4).trans s6)
        case' inr =>
          refine ⟨_, rfl, rfl, _, rfl, ?_⟩
          rw [show decide (V.str (nmP 1) = V.str "has") = false by decide +kernel]
          refine iteF ?_
          refine ⟨_, rfl, (by show 2 ≤ sizeLine; decide), fun T1 nT1 => ⟨T1, _, rfl, .inr (SqT.of upd_same), rfl, rfl, _, rfl, ?_⟩⟩
          have sm1 := same_upd (o := .tup [.str "begins", .str "ends"]) nT1
          rw [show (if false = true then !inV (V.str (nmP 1)) [V.str "begins", V.str "ends"] else inV (V.str (nmP 1)) [V.str "begins", V.str "ends"]) = false by decide +kernel]
          refine iteF ?_
          refine ⟨_, rfl, (by show 2 ≤ sizeLine; decide), fun T2 nT2 => ⟨T2, _, rfl, .inr (SqT.of upd_same), rfl, rfl, _, rfl, ?_⟩⟩
          have sm2 := (sm1).trans (same_upd (o := .tup [.str "is", .str "only"]) nT2)
          rw [show (if false = true then !inV (V.str (nmP 1)) [V.str "is", V.str "only"] else inV (V.str (nmP 1)) [V.str "is", V.str "only"]) = false by decide +kernel]
          refine iteF ?_
          refine ⟨_, rfl, rfl, _, rfl, ?_⟩
          rw [show decide (V.str (nmP 1) = V.str "fails") = false by decide +kernel]
          refine iteF ?_
          refine ⟨_, rfl, p, _, _, _, rfl, rfl, SqT.of (sm2 _ _ hp), atI_nat (j := 1) rfl, a, u1, rfl, h1.same sm2, wf.1, by omega, by omega, by omega, fun t1 H3 ht1 s3 => ?_⟩
          have sm3 := sm2.trans s3
          refine ⟨_, rfl, p, _, _, _, rfl, rfl, SqT.of (sm3 _ _ hp), atI_nat (j := 2) rfl, b, u2, rfl, h2.same sm3, wf.2, by omega, by omega, by omega, fun t2 H4 ht2 s4 => ?_⟩
          refine ⟨_, _, rfl, ?_⟩
          refine ⟨_, rfl, rfl, _, rfl, ?_⟩
          rw [show decide (V.str (nmP 1) = V.str "both") = false by decide +kernel]
          refine iteF ⟨_, rfl, _, rfl, fun x dx nx nd ne => ?_⟩
          have s5 := made_start (D := C 7) nx nd
          refine ⟨x, dx, a, b, t1, t2, rfl, upd_same, (ht1.same s4).same s5, ht2.same s5, ⟨by omega, by omega, l9⟩, fun H5 hx bb => ⟨rfl, ?_⟩⟩
          have s6 := made_same nx nd bb
          exact q (.ref x) H5 ⟨by decide, x, dx, t1, t2, rfl, hx, (ht1.same s4).same s6, ht2.same s6⟩ ((sm3.trans s4).trans s6)
end
end LA
end
section
set_option Elab.async false
set_option linter.all false
set_option maxRecDepth 100000
set_option maxHeartbeats 4100000
namespace LA
open PySem L2 XS XT
abbrev sJW : Stmt := top 42
abbrev sJL : Stmt := top 44
def G.words : G → List Str
  | .leaf _ z => [z]
  | .fails g => g.words
  | .pair _ a b => a.words ++ b.words
def RW (g : G) (xs : List V) : Prop := xs = g.words.map V.str
def RL (g : G) (xs : List V) : Prop := xs.length = g.lv
theorem words_len : ∀ g : G, g.words.length = g.lv
  | .leaf _ _ => rfl
  | .fails g => words_len g
  | .pair _ a b => by
    show (a.words ++ b.words).length = a.lv + b.lv
    rw [List.length_append, words_len a, words_len b]
theorem RW.len {g : G} {xs : List V} (h : RW g xs) : xs.length = g.lv := by
  rw [show xs = g.words.map V.str from h, List.length_map, words_len]
theorem pget {α β : Type} {F : α → β → Prop} : ∀ {gs : List α} {us : List β} {i : Nat} {u : β}, Paired F gs us → us[i]? = some u → ∃ g, gs[i]? = some g ∧ F g u
  | _, _, i, u, .nil, h => by simp at h
  | _, _, 0, u, .cons a b, h => by
    rw [List.getElem?_cons_zero] at h
    cases h
    exact ⟨_, rfl, a⟩
  | _, _, i + 1, u, .cons a b, h => by
    rw [List.getElem?_cons_succ] at h ⊢
    exact pget b h
/-- the lists of the kids, joined, belong to the test -/
structure Joins (R : G → List V → Prop) : Prop where
  f : ∀ g xs, R g xs → R (.fails g) xs
  p : ∀ s a b xs ys, R a xs → R b ys → R (.pair s a b) (xs ++ ys)
  l : ∀ g xs, R g xs → xs.length = g.lv
theorem joinsW : Joins RW := ⟨fun _ _ h => h, fun s a b xs ys h1 h2 => by
  show xs ++ ys = (a.words ++ b.words).map V.str
  rw [show xs = a.words.map V.str from h1, show ys = b.words.map V.str from h2, List.map_append], fun _ _ h => RW.len h⟩
theorem joinsL : Joins RL := ⟨fun _ _ h => h, fun s a b xs ys h1 h2 => by
  show (xs ++ ys).length = a.lv + b.lv
  rw [List.length_append, show xs.length = a.lv from h1, show ys.length = b.lv from h2], fun _ _ h => h⟩
theorem Joins.all {R : G → List V → Prop} (J : Joins R) {g : G} {ps : List (Addr × List V)} (ne : g.kids ≠ []) (h : Paired (fun k p => R k p.2) g.kids ps) : R g (ps.map (·.2)).flatten ∧ 0 < ps.length := by
  cases g with
  | leaf s z => exact absurd rfl ne
  | fails g =>
    cases h with
    | cons a b =>
      cases b
      refine ⟨J.f _ _ ?_, Nat.one_pos⟩
      simpa using a
  | pair s x y =>
    cases h with
    | cons a b =>
      cases b with
      | cons b c =>
        cases c
        refine ⟨?_, Nat.succ_pos _⟩
        have z := J.p s _ _ _ _ a b
        simpa using z
section
variable {P : Program} {w : World} {K : PySem.W.Frag} {mg : Str → Option Value} {base : Heap}
/-- a new list that belongs to a test of at most n -/
def spJ (R : G → List V → Prop) (n : Nat) : Sp := fun vs H Q _ => ∃ (g : G) (v : V), vs = [v] ∧ GA H g v ∧ g.dep ≤ n ∧ g.lv ≤ 1000 ∧ ∀ (p : Addr) (xs : List V) (H' : Hp), R g xs → H' p = some (.lst xs) → H p = none → Same H H' → Q (.ref p) H'
/-- what stands behind the sort's name in the law's tuple -/
theorem GA.tail {H : Hp} {g : G} {v : V} (h : GA H g v) (ne : g.kids ≠ []) : ∃ (nm : Str) (p : Addr) (us : List V), v = .ref p ∧ H p = some (.tup (.str nm :: us)) ∧ Paired (fun g u => GA H g u) g.kids us ∧ nm ∈ (["fails", "both", "either"] : List Str) := by
  cases g with
  | leaf s z => exact absurd rfl ne
  | fails g =>
    obtain ⟨p, u, e, hp, hu⟩ := h
    exact ⟨"fails", p, [u], e, hp, .cons hu .nil, by simp⟩
  | pair s x y =>
    obtain ⟨s2, p, u1, u2, e, hp, h1, h2⟩ := h
    have es : s = 0 ∨ s = 1 := by omega
    rcases es with rfl | rfl
    · exact ⟨"both", p, [u1, u2], e, hp, .cons h1 (.cons h2 .nil), by simp⟩
    · exact ⟨"either", p, [u1, u2], e, hp, .cons h1 (.cons h2 .nil), by simp⟩
theorem in_three : ∀ nm ∈ (["fails", "both", "either"] : List Str), inV (V.str nm) [V.str "fails", V.str "both", V.str "either"] = true := by decide +kernel
theorem not_three : ∀ s, s < 5 → inV (V.str (nmL s)) [V.str "fails", V.str "both", V.str "either"] = false := by decide +kernel
theorem cut_tail (x : V) (us : List V) : cutV (x :: us) (some 1) none = us := by
  unfold cutV
  show ((x :: us).drop (HT.sIx (us.length + 1) 0 (some ((1 : Nat) : Int)))).take (HT.sIx (us.length + 1) (us.length + 1) none - HT.sIx (us.length + 1) 0 (some ((1 : Nat) : Int))) = us
  rw [HT.sIx_nat, HT.sIx_none, Nat.min_eq_left (by omega)]
  show us.take (us.length + 1 - 1) = us
  rw [Nat.add_sub_cancel, List.take_length]
theorem not_whole (x : V) (us : List V) : ¬ (HT.sIx (x :: us).length 0 (some 1) = 0 ∧ HT.sIx (x :: us).length (x :: us).length none = (x :: us).length) := by
  intro z
  have e : HT.sIx (us.length + 1) 0 (some ((1 : Nat) : Int)) = 0 := z.1
  rw [HT.sIx_nat, Nat.min_eq_left (by omega)] at e
  cases e
theorem scJW : FnScope ["_law_goal_here", "_law_part"] ["_law_goal_here"] (defScope sJW) := ⟨rfl, rfl, rfl, by decide +kernel, rfl, by decide +kernel, by decide +kernel⟩
theorem ok_JW {f : Addr} {fd : FuncData} (F : Fun K "_law_jwords" "_law_jwords" sJW f fd) (mS : mg "sum" = none) (mL : mg "list" = none) (mD : mg "_law_jwords" = some (.ref f)) (kD : PySem.W.keepIn K (.ref f) = true) (bD : Binds K fd ["_law_goal_here"] []) :
    ∀ n, FnOk P w K mg base CX0 (n + 1) f fd ["_law_goal_here"] (spJ RW n) := by
  intro n
  induction n with
  | zero =>
    refine F.ok scJW (fun vs H Q E h => ?_) (fun cdv A outer s H vs Q E hr h => ?_)
    · obtain ⟨g, v, rfl, _⟩ := h
      rfl
    · obtain ⟨g, v, rfl, _, d, _⟩ := h
      have := g.dep_pos
      omega
  | succ n ih =>
    refine F.ok scJW (fun vs H Q E h => ?_) (fun cdv A outer s H vs Q E hr h => ?_)
    · obtain ⟨g, v, rfl, _⟩ := h
      rfl
    · obtain ⟨g, v, rfl, hg, hd, hl, q⟩ := h
      refine ⟨_, pss_cons (by exact (ps_if (pt_cmpR op_in_seq (pe_ix ix_tup (pv 0) pe_int (fun _ _ => rfl)) (pe_tup (pa_cons pe_str (pa_cons pe_str (pa_cons pe_str pa_nil)))) (by rfl)) (pss_one (by exact (ps_ret (pe_callB (cr_sumL rfl) (by rfl) mS (by decide +kernel) (pa_cons (pe_lc (own := [("_law_part", 1)]) (g := gName 1) (tt := tYes) (te := tCall (spJ RW n) [] (fun _ _ _ => False) (tCons (tVar 1) tNil)) rfl scJW.nd (pi_tup (pe_slice sl_tup (pv 0) (po_some pe_int) po_none))
          (blkOk_by (N := ["_law_goal_here", "_law_part"]) (sc := defScope sJW) (by decide +kernel))
          (fun _ _ _ _ _ => by exact (pg_name (i := 1) scJW.nd rfl (Or.inl rfl)))
          (fun _ _ _ _ _ => by exact pts_nil)
          (fun _ _ _ _ _ => by exact (pe_call ih hr rfl mD kD bD .nil pass0 (pa_cons (pv 1) pa_nil)))) (pa_cons (pe_lst pa_nil) pa_nil)))))) pss_nil)) (
        pss_one (by exact (ps_ret (pe_callTy call_list_of (by rfl) mL (by decide +kernel) (pa_cons (pe_slice sl_tup (pv 0) (po_some pe_int) po_none) pa_nil))))), ?_⟩
      by_cases ne : g.kids = []
      · obtain ⟨s, z, rfl⟩ : ∃ s z, g = .leaf s z := by
          cases g with
          | leaf s z => exact ⟨s, z, rfl⟩
          | fails g => cases ne
          | pair s a b => cases ne
        obtain ⟨s5, p, rfl, hp⟩ := hg
        refine ⟨_, rfl, p, _, _, _, rfl, rfl, SqT.of hp, atI_nat (j := 0) rfl, (by show 3 ≤ sizeLine; decide), fun T nT => ⟨T, _, rfl, .inr (SqT.of upd_same), rfl, rfl, _, rfl, ?_⟩⟩
        have sm := same_upd (o := .tup [.str "fails", .str "both", .str "either"]) nT
        rw [if_neg (by decide), not_three s s5]
        refine iteF ⟨_, rfl, _, rfl, p, _, rfl, SqT.of (sm _ _ hp), not_whole _ _, fun t nt => ?_⟩
        rw [cut_tail] at *
        refine ⟨t, _, rfl, .inr (SqT.of upd_same), fun r nr => ?_⟩
        have s1 := sm.trans (same_upd (o := .tup [.str z]) nt)
        exact q r _ _ rfl upd_same (fresh_back s1 nr) (s1.trans (same_upd nr))
      · obtain ⟨nm, p, us, rfl, hp, kids, mem⟩ := hg.tail ne
        refine ⟨_, rfl, p, _, _, _, rfl, rfl, SqT.of hp, atI_nat (j := 0) rfl, (by show 3 ≤ sizeLine; decide), fun T nT => ⟨T, _, rfl, .inr (SqT.of upd_same), rfl, rfl, _, rfl, ?_⟩⟩
        have sm := same_upd (o := .tup [.str "fails", .str "both", .str "either"]) nT
        rw [if_neg (by decide), in_three nm mem]
        refine iteT ⟨_, rfl, _, rfl, p, _, rfl, SqT.of (sm _ _ hp), not_whole _ _, fun t nt => ⟨t, rfl, ⟨_, SqT.of upd_same⟩, fun D nD => ?_⟩⟩
        rw [cut_tail] at nD ⊢
        have s1 := sm.trans (same_upd (o := .tup us) nt)
        have nDt : t ≠ D := ne_of_none upd_same nD
        have total : ∀ k ∈ g.kids, k.lv ≤ 1000 := fun k hk => Nat.le_trans (lvs_le _ _ hk) (by rw [lvs_kids g ne]; exact hl)
        generalize hG : upd (upd H T (.tup [.str "fails", .str "both", .str "either"])) t (.tup us) = G0 at nD s1
        have ht : G0 t = some (.tup us) := by rw [← hG]; exact upd_same
        refine lc_it (walk_tup (xs := us)) (fun i X => ∃ ps : List (Addr × List V), X D = some (.lst (ps.map fun p => .ref p.1)) ∧ (∀ p ∈ ps, p.1 ≠ D ∧ X p.1 = some (.lst p.2)) ∧ Paired (fun k p => RW k p.2) (g.kids.take i) ps ∧ Same G0 X) ⟨[], upd_same, (fun p hp => absurd hp (by simp)), by rw [List.take_zero]; exact .nil, same_upd nD⟩ (fun i X _ ⟨_, _, _, _, z⟩ => SqT.of (z _ _ ht)) (fun i x X X' hi p2 yl => ?_) (fun X p2 => ?_)
        · obtain ⟨ps, pD, pa, pp, pS⟩ := p2
          obtain ⟨rfl, hx⟩ := yl
          obtain ⟨k, hk, gk⟩ := pget kids hx
          refine ⟨rfl, ?_⟩
          dsimp only [tYes]
          rw [if_pos rfl]
          have mk := List.mem_of_getElem? hk
          have kd := kids_dep g k mk
          refine ⟨_, rfl, k, _, rfl, (gk.same s1).same pS, by omega, total k mk, fun L xs X2 rx hL nL s2 => ?_⟩
          have nLD : L ≠ D := fun z => by rw [z, pD] at nL; cases nL
          have lps : ps.length ≤ 2 := by
            rw [← pp.length]
            exact Nat.le_trans (List.length_take_le' _ _) (kids_two g)
          refine ⟨_, s2 _ _ pD, Nat.lt_of_le_of_lt (by rw [List.length_map]; exact lps) (by decide), ps ++ [(L, xs)], ?_, ?_, ?_, ?_⟩
          · rw [List.map_append]
            exact upd_same
          · intro p3 h3
            rcases List.mem_append.mp h3 with h3 | h3
            · obtain ⟨n3, e3⟩ := pa p3 h3
              exact ⟨n3, by rw [upd_ne n3]; exact s2 _ _ e3⟩
            · rw [List.mem_singleton] at h3
              subst h3
              exact ⟨nLD, by rw [upd_ne nLD]; exact hL⟩
          · rw [List.take_succ, hk]
            exact pp.snoc rx
          · intro b o e
            rw [upd_ne (ne_of_none e nD)]
            exact s2 _ _ (pS b o e)
        · obtain ⟨ps, pD, pa, pp, pS⟩ := p2
          have ek : g.kids.take us.length = g.kids := List.take_of_length_le (by rw [kids.length]; exact Nat.le_refl _)
          rw [ek] at pp
          obtain ⟨rg, np⟩ := (joinsW).all ne pp
          refine ⟨(by show 0 ≤ sizeLine; decide), fun Z nZ => ?_⟩
          have sZ := same_upd (o := .lst []) nZ
          refine ⟨D, Z, ps, [], rfl, sZ _ _ pD, upd_same, np, fun p3 h3 => sZ _ _ (pa p3 h3).2, ?_, fun r nr => ?_⟩
          · have := (joinsW).l _ _ rg
            show 0 + _ ≤ sizeLine
            rw [this]
            exact Nat.le_trans (by omega : 0 + g.lv ≤ 1000) (by decide)
          · have sR := ((s1.trans pS).trans sZ)
            exact q r _ _ rg upd_same (fresh_back sR nr) (sR.trans (same_upd nr))
theorem scJL : FnScope ["_law_goal_here", "_law_part"] ["_law_goal_here"] (defScope sJL) := ⟨rfl, rfl, rfl, by decide +kernel, rfl, by decide +kernel, by decide +kernel⟩
theorem ok_JL {f : Addr} {fd : FuncData} (F : Fun K "_law_jleaves" "_law_jleaves" sJL f fd) (mS : mg "sum" = none) (mL : mg "list" = none) (mD : mg "_law_jleaves" = some (.ref f)) (kD : PySem.W.keepIn K (.ref f) = true) (bD : Binds K fd ["_law_goal_here"] []) :
    ∀ n, FnOk P w K mg base CX0 (n + 1) f fd ["_law_goal_here"] (spJ RL n) := by
  intro n
  induction n with
  | zero =>
    refine F.ok scJL (fun vs H Q E h => ?_) (fun cdv A outer s H vs Q E hr h => ?_)
    · obtain ⟨g, v, rfl, _⟩ := h
      rfl
    · obtain ⟨g, v, rfl, _, d, _⟩ := h
      have := g.dep_pos
      omega
  | succ n ih =>
    refine F.ok scJL (fun vs H Q E h => ?_) (fun cdv A outer s H vs Q E hr h => ?_)
    · obtain ⟨g, v, rfl, _⟩ := h
      rfl
    · obtain ⟨g, v, rfl, hg, hd, hl, q⟩ := h
      refine ⟨_, pss_cons (by exact (ps_if (pt_cmpR op_in_seq (pe_ix ix_tup (pv 0) pe_int (fun _ _ => rfl)) (pe_tup (pa_cons pe_str (pa_cons pe_str (pa_cons pe_str pa_nil)))) (by rfl)) (pss_one (by exact (ps_ret (pe_callB (cr_sumL rfl) (by rfl) mS (by decide +kernel) (pa_cons (pe_lc (own := [("_law_part", 1)]) (g := gName 1) (tt := tYes) (te := tCall (spJ RL n) [] (fun _ _ _ => False) (tCons (tVar 1) tNil)) rfl scJL.nd (pi_tup (pe_slice sl_tup (pv 0) (po_some pe_int) po_none))
          (blkOk_by (N := ["_law_goal_here", "_law_part"]) (sc := defScope sJL) (by decide +kernel))
          (fun _ _ _ _ _ => by exact (pg_name (i := 1) scJL.nd rfl (Or.inl rfl)))
          (fun _ _ _ _ _ => by exact pts_nil)
          (fun _ _ _ _ _ => by exact (pe_call ih hr rfl mD kD bD .nil pass0 (pa_cons (pv 1) pa_nil)))) (pa_cons (pe_lst pa_nil) pa_nil)))))) pss_nil)) (
        pss_one (by exact (ps_ret (pe_lst (pa_cons (pv 0) pa_nil))))), ?_⟩
      by_cases ne : g.kids = []
      · obtain ⟨s, z, rfl⟩ : ∃ s z, g = .leaf s z := by
          cases g with
          | leaf s z => exact ⟨s, z, rfl⟩
          | fails g => cases ne
          | pair s a b => cases ne
        obtain ⟨s5, p, rfl, hp⟩ := hg
        refine ⟨_, rfl, p, _, _, _, rfl, rfl, SqT.of hp, atI_nat (j := 0) rfl, (by show 3 ≤ sizeLine; decide), fun T nT => ⟨T, _, rfl, .inr (SqT.of upd_same), rfl, rfl, _, rfl, ?_⟩⟩
        have sm := same_upd (o := .tup [.str "fails", .str "both", .str "either"]) nT
        rw [if_neg (by decide), not_three s s5]
        refine iteF ⟨_, rfl, (by show 1 ≤ sizeLine; decide), fun r nr => ?_⟩
        exact q r [.ref p] _ rfl upd_same (fresh_back sm nr) (sm.trans (same_upd nr))
      · obtain ⟨nm, p, us, rfl, hp, kids, mem⟩ := hg.tail ne
        refine ⟨_, rfl, p, _, _, _, rfl, rfl, SqT.of hp, atI_nat (j := 0) rfl, (by show 3 ≤ sizeLine; decide), fun T nT => ⟨T, _, rfl, .inr (SqT.of upd_same), rfl, rfl, _, rfl, ?_⟩⟩
        have sm := same_upd (o := .tup [.str "fails", .str "both", .str "either"]) nT
        rw [if_neg (by decide), in_three nm mem]
        refine iteT ⟨_, rfl, _, rfl, p, _, rfl, SqT.of (sm _ _ hp), not_whole _ _, fun t nt => ⟨t, rfl, ⟨_, SqT.of upd_same⟩, fun D nD => ?_⟩⟩
        rw [cut_tail] at nD ⊢
        have s1 := sm.trans (same_upd (o := .tup us) nt)
        have nDt : t ≠ D := ne_of_none upd_same nD
        have total : ∀ k ∈ g.kids, k.lv ≤ 1000 := fun k hk => Nat.le_trans (lvs_le _ _ hk) (by rw [lvs_kids g ne]; exact hl)
        generalize hG : upd (upd H T (.tup [.str "fails", .str "both", .str "either"])) t (.tup us) = G0 at nD s1
        have ht : G0 t = some (.tup us) := by rw [← hG]; exact upd_same
        refine lc_it (walk_tup (xs := us)) (fun i X => ∃ ps : List (Addr × List V), X D = some (.lst (ps.map fun p => .ref p.1)) ∧ (∀ p ∈ ps, p.1 ≠ D ∧ X p.1 = some (.lst p.2)) ∧ Paired (fun k p => RL k p.2) (g.kids.take i) ps ∧ Same G0 X) ⟨[], upd_same, (fun p hp => absurd hp (by simp)), by rw [List.take_zero]; exact .nil, same_upd nD⟩ (fun i X _ ⟨_, _, _, _, z⟩ => SqT.of (z _ _ ht)) (fun i x X X' hi p2 yl => ?_) (fun X p2 => ?_)
        · obtain ⟨ps, pD, pa, pp, pS⟩ := p2
          obtain ⟨rfl, hx⟩ := yl
          obtain ⟨k, hk, gk⟩ := pget kids hx
          refine ⟨rfl, ?_⟩
          dsimp only [tYes]
          rw [if_pos rfl]
          have mk := List.mem_of_getElem? hk
          have kd := kids_dep g k mk
          refine ⟨_, rfl, k, _, rfl, (gk.same s1).same pS, by omega, total k mk, fun L xs X2 rx hL nL s2 => ?_⟩
          have nLD : L ≠ D := fun z => by rw [z, pD] at nL; cases nL
          have lps : ps.length ≤ 2 := by
            rw [← pp.length]
            exact Nat.le_trans (List.length_take_le' _ _) (kids_two g)
          refine ⟨_, s2 _ _ pD, Nat.lt_of_le_of_lt (by rw [List.length_map]; exact lps) (by decide), ps ++ [(L, xs)], ?_, ?_, ?_, ?_⟩
          · rw [List.map_append]
            exact upd_same
          · intro p3 h3
            rcases List.mem_append.mp h3 with h3 | h3
            · obtain ⟨n3, e3⟩ := pa p3 h3
              exact ⟨n3, by rw [upd_ne n3]; exact s2 _ _ e3⟩
            · rw [List.mem_singleton] at h3
              subst h3
              exact ⟨nLD, by rw [upd_ne nLD]; exact hL⟩
          · rw [List.take_succ, hk]
            exact pp.snoc rx
          · intro b o e
            rw [upd_ne (ne_of_none e nD)]
            exact s2 _ _ (pS b o e)
        · obtain ⟨ps, pD, pa, pp, pS⟩ := p2
          have ek : g.kids.take us.length = g.kids := List.take_of_length_le (by rw [kids.length]; exact Nat.le_refl _)
          rw [ek] at pp
          obtain ⟨rg, np⟩ := (joinsL).all ne pp
          refine ⟨(by show 0 ≤ sizeLine; decide), fun Z nZ => ?_⟩
          have sZ := same_upd (o := .lst []) nZ
          refine ⟨D, Z, ps, [], rfl, sZ _ _ pD, upd_same, np, fun p3 h3 => sZ _ _ (pa p3 h3).2, ?_, fun r nr => ?_⟩
          · have := (joinsL).l _ _ rg
            show 0 + _ ≤ sizeLine
            rw [this]
            exact Nat.le_trans (by omega : 0 + g.lv ≤ 1000) (by decide)
          · have sR := ((s1.trans pS).trans sZ)
            exact q r _ _ rg upd_same (fresh_back sR nr) (sR.trans (same_upd nr))
end
end LA
end
section
set_option Elab.async false
set_option linter.all false
set_option maxRecDepth 100000
set_option maxHeartbeats 4100000
namespace LA
open PySem L2 XS XT
abbrev sGoal : Stmt := top 40
/-- how many draws a plain test of so many levels takes -/
def cost (b : Int) : Nat → Int
  | 0 => 4 + b
  | k + 1 => 4 + b + 2 * cost b k
theorem PenAt.le {H : Hp} {d c : Addr} {n m : Int} {ns : List Int} (p : PenAt H d c n ns) (h : n ≤ m) : PenAt H d c m ns := by
  obtain ⟨kvs, t, l, q⟩ := p
  exact q.more h
theorem But.ne {d D : Addr} {H G : Hp} (b : But d H G) (n : D ≠ d) (h : G D = Option.none) : H D = Option.none := b.none n h
theorem line_of {y z : Str} (h : ∀ c ∈ cod y, c ∈ cod z) (sz : Sgn z) : lineB y = true := by
  unfold lineB
  rw [List.all_eq_true]
  exact fun c hc => decide_eq_true (sz.lets c (h c hc))
theorem short_of {y z : Str} (h : ∀ c ∈ cod y, c ∈ cod z) (sz : Sgn z) (h1 : 1 ≤ y.length) (h8 : y.length ≤ 8) : shortB y = true := by
  unfold shortB wordB
  rw [line_of h sz, decide_eq_true (show 0 < y.length by omega), decide_eq_true h8]
  rfl
theorem cost_pos {b : Int} (hb : 1 ≤ b) : ∀ k, 5 ≤ cost b k
  | 0 => by show 5 ≤ 4 + b; omega
  | k + 1 => by
    have := cost_pos hb k
    show 5 ≤ 4 + b + 2 * cost b k
    omega
theorem cod_pre (z : Str) (i : Nat) : cod (cutS z none (some (i : Int))) = (cod z).take i := by
  show ((((cod z).drop (HT.sIx z.length 0 none)).take (HT.sIx z.length z.length (some (i : Int)) - HT.sIx z.length 0 none)).toArray).toList = _
  rw [HT.sIx_nat, HT.sIx_none]
  show (cod z).take (min i z.length - 0) = _
  rw [List.take_eq_take_iff, len_cod]
  omega
section
variable {P : Program} {w : World} {K : PySem.W.Frag} {mg : Str → Option Value} {base : Heap}
structure Draws (P : Program) (w : World) (K : PySem.W.Frag) (mg : Str → Option Value) (base : Heap) (f : Addr) (fd : FuncData) : Prop where
  ok : FnOk P w K mg base CX0 1 f fd ["_law_pen_here", "_law_span"] spDraw
  m : mg "_law_draw" = some (.ref f)
  k : PySem.W.keepIn K (.ref f) = true
  b : Binds K fd ["_law_pen_here", "_law_span"] []
/-- goal: a plain test of at most k + 1 levels, of words of at most b letters -/
def spGoal (k : Nat) : Sp := fun vs H Q _ => ∃ (d c : Addr) (n : Int) (ns : List Int) (z : Str) (b : Int), vs = [.ref d, .str z, .int b, .int k] ∧ PenAt H d c n ns ∧ n + cost b k < 1000000 ∧ Sgn z ∧ 1 ≤ b ∧ b ≤ 8 ∧
  ∀ (v : V) (g : G) (H' : Hp), GA H' g v → g.wf → g.dep ≤ k + 1 → g.lv ≤ 2 ^ k → PenAt H' d c (n + cost b k) ns → But d H H' → Q v H'
theorem scGo : FnScope ["_law_pen_here", "_law_signs_here", "_law_wide", "_law_deep", "_law_way", "_law_first"] ["_law_pen_here", "_law_signs_here", "_law_wide", "_law_deep"] (defScope sGoal) := ⟨rfl, rfl, rfl, by decide +kernel, rfl, by decide +kernel, by decide +kernel⟩
theorem ok_goal {f fD fR fP : Addr} {fd fdD fdR fdP : FuncData} (F : Fun K "_law_goal" "_law_goal" sGoal f fd) (D : Draws P w K mg base fD fdD) (M : PickAt P w K mg base fP fdP)
    (R : CallOf P w K mg base 3 "_law_row" ["_law_pen_here", "_law_signs_here", "_law_least", "_law_most_letters"] spRow fR fdR)
    (mG : mg "_law_goal" = some (.ref f)) (kG : PySem.W.keepIn K (.ref f) = true) (bG : Binds K fd ["_law_pen_here", "_law_signs_here", "_law_wide", "_law_deep"] []) :
    ∀ k, FnOk P w K mg base CX0 (k + 4) f fd ["_law_pen_here", "_law_signs_here", "_law_wide", "_law_deep"] (spGoal k) := by
  intro k
  induction k with
  | zero =>
    refine F.ok scGo (fun vs H Q E h => ?_) (fun cdv A outer s H vs Q E hr h => ?_)
    · obtain ⟨d, c, n, ns, z, b, rfl, _⟩ := h
      rfl
    · obtain ⟨d, c, n, ns, z, b, rfl, pen, hn, sz, b1, b8, q⟩ := h
      have hr3 : Room 3 _ := hr.mono (by omega)
      have hr2 : Room 2 _ := hr.mono (by omega)
      have hr1 : Room 1 _ := hr.mono (by omega)
      have cp := cost_pos b1 0
      have cb : 4 + b ≤ cost b 0 := by
        show 4 + b ≤ 4 + b
        exact Int.le_refl _
        
      have n0 := pen.n0
      have zl : z.length ≤ sizeLine := Nat.le_trans sz.three (by decide)
      have lv1 : 1 ≤ 2 ^ 0 := Nat.one_le_two_pow
      refine ⟨_, pss_cons (by exact (ps_set (i := 4) scGo.nd rfl (.inl rfl) (pe_ifExp (pt_cmpR op_gt (pv 3) pe_int (nomark _)) (pe_call D.ok hr1 rfl D.m D.k D.b .nil pass0 (pa_cons (pv 0) (pa_cons pe_int pa_nil))) (pe_call D.ok hr1 rfl D.m D.k D.b .nil pass0 (pa_cons (pv 0) (pa_cons pe_int pa_nil)))))) (
        pss_cons (by exact (ps_if (pt_cmpR op_lt (pv 4) pe_int (nomark _)) (pss_one (by exact (ps_ret (pe_tup (pa_cons (pe_call M.ok hr2 rfl M.m M.k M.b .nil pass0 (pa_cons (pv 0) (pa_cons (pe_lst (pa_cons pe_str (pa_cons pe_str (pa_cons pe_str pa_nil)))) pa_nil))) (pa_cons (pe_call R.ok hr3 rfl R.m R.k R.b .nil pass0 (pa_cons (pv 0) (pa_cons (pv 1) (pa_cons pe_int (pa_cons (pv 2) pa_nil))))) pa_nil)))))) pss_nil)) (
        pss_cons (by exact (ps_if (pt_cmpR op_eq (pv 4) pe_int (nomark _)) (pss_one (by exact (ps_ret (pe_tup (pa_cons pe_str (pa_cons (pe_call R.ok hr3 rfl R.m R.k R.b .nil pass0 (pa_cons (pv 0) (pa_cons (pv 1) (pa_cons pe_int (pa_cons (pv 2) pa_nil))))) pa_nil)))))) pss_nil)) (
        pss_cons (by exact (ps_if (pt_cmpR op_lt (pv 4) pe_int (nomark _)) (pss_one (by exact (ps_ret (pe_call M.ok hr2 rfl M.m M.k M.b .nil pass0 (pa_cons (pv 0) (pa_cons (pe_lst (pa_cons (pe_tup (pa_cons pe_str (pa_cons (pe_slice sl_str (pv 1) po_none (po_some pe_int)) pa_nil))) (pa_cons (pe_tup (pa_cons pe_str (pa_cons (pe_slice sl_str (pv 1) po_none (po_some pe_int)) pa_nil))) (pa_cons (pe_tup (pa_cons pe_str (pa_cons pe_str pa_nil))) (pa_cons (pe_tup (pa_cons pe_str (pa_cons (pe_ix ix_str (pv 1) pe_int (fun _ _ => rfl)) pa_nil))) pa_nil))))) pa_nil)))))) pss_nil)) (
        pss_never)))), ?_⟩
      refine ⟨_, rfl, _, _, rfl, rfl, _, rfl, ?_⟩
      rw [decide_eq_false (show ¬ (((0 : Nat) : Int) > 0) by omega)]
      refine iteF ⟨_, rfl, d, c, n, ns, 6, rfl, pen, by omega, by decide, by decide, fun r H1 r0 r1 pen1 bb1 => ?_⟩
      refine ⟨_, rfl, _, _, rfl, rfl, _, rfl, ?_⟩
      by_cases c1 : r < 3
      · rw [decide_eq_true c1]
        refine iteT ⟨_, rfl, (by show 3 ≤ sizeLine; decide), fun L nL => ?_⟩
        have sL := same_upd (o := .lst [.str "has", .str "begins", .str "ends"]) nL
        refine ⟨d, c, n + 1, ns, _, rfl, pen1.keep sL, by omega, .inl ⟨L, _, rfl, upd_same, (by show 0 < 3; decide), (by show 3 < 1000000; decide), fun v H2 hv pen2 bb2 => ?_⟩⟩
        obtain ⟨w, rfl, hw⟩ : ∃ w : Nat, v = .str (nmL w) ∧ w < 3 := by
          simp only [List.mem_cons, List.not_mem_nil, or_false] at hv
          rcases hv with rfl | rfl | rfl
          · exact ⟨0, rfl, by decide⟩
          · exact ⟨1, rfl, by decide⟩
          · exact ⟨2, rfl, by decide⟩
        refine ⟨_, rfl, _, rfl, _, rfl, d, c, n + 1 + 1, ns, z, 1, b, rfl, pen2, by omega, by have := sz.two; omega, by have := sz.three; omega, by decide, b1, fun y H3 hy l1 l2 pen3 bb3 => ⟨(by show 2 ≤ sizeLine; decide), fun T nT => ?_⟩⟩
        have sT := same_upd (o := .tup [.str (nmL w), .str y]) nT
        refine q (.ref T) (.leaf w y) _ ⟨by omega, T, rfl, upd_same⟩ ⟨fun _ => short_of hy sz (by omega) (by omega), fun e => absurd hw (by omega), fun e => absurd hw (by omega), by omega⟩ (by show 1 ≤ _; omega) lv1 ((pen3.keep sT).le (by omega)) ((((bb1.trans (But.same sL)).trans bb2).trans bb3).trans (But.same sT))
      · rw [decide_eq_false c1]
        refine iteF ⟨_, rfl, rfl, _, rfl, ?_⟩
        by_cases c2 : r = 3
        · subst c2
          rw [decide_eq_true rfl]
          refine iteT ⟨_, rfl, _, rfl, _, rfl, d, c, n + 1, ns, z, 0, b, rfl, pen1, by omega, by have := sz.two; omega, by have := sz.three; omega, by decide, by omega, fun y H3 hy l1 l2 pen3 bb3 => ⟨(by show 2 ≤ sizeLine; decide), fun T nT => ?_⟩⟩
          have sT := same_upd (o := .tup [.str "is", .str y]) nT
          exact q (.ref T) (.leaf 3 y) _ ⟨by decide, T, rfl, upd_same⟩ ⟨fun e => absurd e (by decide), fun _ => ⟨line_of hy sz, by omega⟩, fun e => absurd e (by decide), by omega⟩ (by show 1 ≤ _; omega) lv1 ((pen3.keep sT).le (by omega)) ((bb1.trans bb3).trans (But.same sT))
        · rw [decide_eq_false (fun e => c2 (by injection e))]
          refine iteF ⟨_, rfl, _, _, rfl, rfl, _, rfl, ?_⟩
          by_cases c3 : r < 6
          · rw [decide_eq_true c3]
            have zc : 0 < (cod z).length := by
              rw [len_cod]
              have := sz.two
              omega
            have c0 := (cod z)[0]'zc
            have at0 : atI z.cps.toList 0 = some ((cod z)[0]'zc) := atI_nat (j := 0) (List.getElem?_eq_getElem zc)
            refine iteT ⟨_, rfl, _, rfl, _, rfl, z, rfl, zl, (by show 2 ≤ sizeLine; decide), fun u1 m1 => ⟨_, rfl, _, rfl, z, rfl, zl, (by show 2 ≤ sizeLine; decide), fun u2 m2 => ⟨(by show 2 ≤ sizeLine; decide), fun u3 m3 => ⟨_, rfl, z, 0, (cod z)[0]'zc, rfl, rfl, zl, at0, (by show 2 ≤ sizeLine; decide), fun u4 m4 => ⟨(by show 4 ≤ sizeLine; decide), fun L nL => ?_⟩⟩⟩⟩⟩
            have q5 := same_upd (o := .lst [.ref u1, .ref u2, .ref u3, .ref u4]) nL
            have q4 := (same_upd (o := .tup [.str "has", .str ⟨#[(cod z)[0]'zc]⟩]) m4).trans q5
            have q3 := (same_upd (o := .tup [.str "only", .str ""]) m3).trans q4
            have q2 := (same_upd (o := .tup [.str "only", .str (cutS z none (some 2))]) m2).trans q3
            have q1 := (same_upd (o := .tup [.str "only", .str (cutS z none (some 1))]) m1).trans q2
            have penL := pen1.keep q1
            refine ⟨d, c, n + 1, ns, _, rfl, penL, by omega, .inl ⟨L, _, rfl, upd_same, (by show 0 < 4; decide), (by show 4 < 1000000; decide), fun v H2 hv pen2 bb2 => ?_⟩⟩
            obtain ⟨kv, _, _, pp⟩ := penL
            have bb := (bb1.trans (But.same q1)).trans bb2
            have far : ∀ (u : Addr) (xs : List V) (G1 : Hp), G1 u = some (.tup xs) → Same G1 _ → H2 u = some (.tup xs) := fun u xs G1 hu sm => bb2 _ _ (sm _ _ hu) (ne_of (sm _ _ hu) pp.dc (by intro w; cases w))
            have pre : ∀ i : Nat, i ≤ 2 → lineB (cutS z none (some (i : Int))) = true ∧ (cod (cutS z none (some (i : Int)))).Nodup := fun i _ => by
              refine ⟨line_of (fun x hx => ?_) sz, ?_⟩
              · rw [cod_pre] at hx
                exact List.mem_of_mem_take hx
              · rw [cod_pre]
                exact sz.nd.sublist (List.take_sublist _ _)
            have len : ∀ o : Option Int, (cutS z none o).length < 100 := fun o => Nat.lt_of_le_of_lt (cutS_length z none o) (by have := sz.three; omega)
            simp only [List.mem_cons, List.not_mem_nil, or_false] at hv
            have pend := pen2.le (show n + 1 + 1 ≤ n + cost b 0 by omega)
            rcases hv with rfl | rfl | rfl | rfl
            · exact q _ (.leaf 4 (cutS z none (some 1))) H2 ⟨by decide, u1, rfl, far u1 _ _ upd_same q2⟩ ⟨fun e => absurd e (by decide), fun e => absurd e (by decide), fun _ => pre 1 (by decide), len _⟩ (by show 1 ≤ _; omega) lv1 pend bb
            · exact q _ (.leaf 4 (cutS z none (some 2))) H2 ⟨by decide, u2, rfl, far u2 _ _ upd_same q3⟩ ⟨fun e => absurd e (by decide), fun e => absurd e (by decide), fun _ => pre 2 (by decide), len _⟩ (by show 1 ≤ _; omega) lv1 pend bb
            · exact q _ (.leaf 4 "") H2 ⟨by decide, u3, rfl, far u3 _ _ upd_same q4⟩ ⟨fun e => absurd e (by decide), fun e => absurd e (by decide), fun _ => ⟨by decide +kernel, by decide +kernel⟩, by decide⟩ (by show 1 ≤ _; omega) lv1 pend bb
            · exact q _ (.leaf 0 ⟨#[(cod z)[0]'zc]⟩) H2 ⟨by decide, u4, rfl, far u4 _ _ upd_same q5⟩ ⟨fun _ => short_of (fun x hx => by
                have e : x = (cod z)[0]'zc := by simpa using hx
                rw [e]
                exact List.getElem_mem zc) sz (by show 1 ≤ 1; omega) (by show 1 ≤ 8; omega), fun e => absurd e (by decide), fun e => absurd e (by decide), by show 1 < 100; omega⟩ (by show 1 ≤ _; omega) lv1 pend bb
          · omega
  | succ k ih =>
    refine F.ok scGo (fun vs H Q E h => ?_) (fun cdv A outer s H vs Q E hr h => ?_)
    · obtain ⟨d, c, n, ns, z, b, rfl, _⟩ := h
      rfl
    · obtain ⟨d, c, n, ns, z, b, rfl, pen, hn, sz, b1, b8, q⟩ := h
      have hr3 : Room 3 _ := hr.mono (by omega)
      have hr2 : Room 2 _ := hr.mono (by omega)
      have hr1 : Room 1 _ := hr.mono (by omega)
      have cp := cost_pos b1 (k + 1)
      have cb : 4 + b ≤ cost b (k + 1) := by
        have := cost_pos b1 k
        show 4 + b ≤ 4 + b + 2 * cost b k
        omega
      have n0 := pen.n0
      have zl : z.length ≤ sizeLine := Nat.le_trans sz.three (by decide)
      have lv1 : 1 ≤ 2 ^ (k + 1) := Nat.one_le_two_pow
      refine ⟨_, pss_cons (by exact (ps_set (i := 4) scGo.nd rfl (.inl rfl) (pe_ifExp (pt_cmpR op_gt (pv 3) pe_int (nomark _)) (pe_call D.ok hr1 rfl D.m D.k D.b .nil pass0 (pa_cons (pv 0) (pa_cons pe_int pa_nil))) (pe_call D.ok hr1 rfl D.m D.k D.b .nil pass0 (pa_cons (pv 0) (pa_cons pe_int pa_nil)))))) (
        pss_cons (by exact (ps_if (pt_cmpR op_lt (pv 4) pe_int (nomark _)) (pss_one (by exact (ps_ret (pe_tup (pa_cons (pe_call M.ok hr2 rfl M.m M.k M.b .nil pass0 (pa_cons (pv 0) (pa_cons (pe_lst (pa_cons pe_str (pa_cons pe_str (pa_cons pe_str pa_nil)))) pa_nil))) (pa_cons (pe_call R.ok hr3 rfl R.m R.k R.b .nil pass0 (pa_cons (pv 0) (pa_cons (pv 1) (pa_cons pe_int (pa_cons (pv 2) pa_nil))))) pa_nil)))))) pss_nil)) (
        pss_cons (by exact (ps_if (pt_cmpR op_eq (pv 4) pe_int (nomark _)) (pss_one (by exact (ps_ret (pe_tup (pa_cons pe_str (pa_cons (pe_call R.ok hr3 rfl R.m R.k R.b .nil pass0 (pa_cons (pv 0) (pa_cons (pv 1) (pa_cons pe_int (pa_cons (pv 2) pa_nil))))) pa_nil)))))) pss_nil)) (
        pss_cons (by exact (ps_if (pt_cmpR op_lt (pv 4) pe_int (nomark _)) (pss_one (by exact (ps_ret (pe_call M.ok hr2 rfl M.m M.k M.b .nil pass0 (pa_cons (pv 0) (pa_cons (pe_lst (pa_cons (pe_tup (pa_cons pe_str (pa_cons (pe_slice sl_str (pv 1) po_none (po_some pe_int)) pa_nil))) (pa_cons (pe_tup (pa_cons pe_str (pa_cons (pe_slice sl_str (pv 1) po_none (po_some pe_int)) pa_nil))) (pa_cons (pe_tup (pa_cons pe_str (pa_cons pe_str pa_nil))) (pa_cons (pe_tup (pa_cons pe_str (pa_cons (pe_ix ix_str (pv 1) pe_int (fun _ _ => rfl)) pa_nil))) pa_nil))))) pa_nil)))))) pss_nil)) (
        pss_cons (by exact (ps_if (pt_cmpR op_eq (pv 4) pe_int (nomark _)) (pss_one (by exact (ps_ret (pe_tup (pa_cons pe_str (pa_cons (pe_call ih hr rfl mG kG bG .nil pass0 (pa_cons (pv 0) (pa_cons (pv 1) (pa_cons (pv 2) (pa_cons (pe_op op_sub (pv 3) pe_int) pa_nil))))) pa_nil)))))) pss_nil)) (
        pss_cons (by exact (ps_set (i := 5) scGo.nd rfl (.inl rfl) (pe_call ih hr rfl mG kG bG .nil pass0 (pa_cons (pv 0) (pa_cons (pv 1) (pa_cons (pv 2) (pa_cons (pe_op op_sub (pv 3) pe_int) pa_nil))))))) (
        pss_one (by exact (ps_ret (pe_tup (pa_cons (pe_call M.ok hr2 rfl M.m M.k M.b .nil pass0 (pa_cons (pv 0) (pa_cons (pe_lst (pa_cons pe_str (pa_cons pe_str pa_nil))) pa_nil))) (pa_cons (pv 5) (pa_cons (pe_call ih hr rfl mG kG bG .nil pass0 (pa_cons (pv 0) (pa_cons (pv 1) (pa_cons (pv 2) (pa_cons (pe_op op_sub (pv 3) pe_int) pa_nil))))) pa_nil)))))))))))), ?_⟩
      refine ⟨_, rfl, _, _, rfl, rfl, _, rfl, ?_⟩
      rw [decide_eq_true (show (((k + 1 : Nat) : Int) > 0) by omega)]
      refine iteT ⟨_, rfl, d, c, n, ns, 9, rfl, pen, by omega, by decide, by decide, fun r H1 r0 r1 pen1 bb1 => ?_⟩
      refine ⟨_, rfl, _, _, rfl, rfl, _, rfl, ?_⟩
      by_cases c1 : r < 3
      · rw [decide_eq_true c1]
        refine iteT ⟨_, rfl, (by show 3 ≤ sizeLine; decide), fun L nL => ?_⟩
        have sL := same_upd (o := .lst [.str "has", .str "begins", .str "ends"]) nL
        refine ⟨d, c, n + 1, ns, _, rfl, pen1.keep sL, by omega, .inl ⟨L, _, rfl, upd_same, (by show 0 < 3; decide), (by show 3 < 1000000; decide), fun v H2 hv pen2 bb2 => ?_⟩⟩
        obtain ⟨w, rfl, hw⟩ : ∃ w : Nat, v = .str (nmL w) ∧ w < 3 := by
          simp only [List.mem_cons, List.not_mem_nil, or_false] at hv
          rcases hv with rfl | rfl | rfl
          · exact ⟨0, rfl, by decide⟩
          · exact ⟨1, rfl, by decide⟩
          · exact ⟨2, rfl, by decide⟩
        refine ⟨_, rfl, _, rfl, _, rfl, d, c, n + 1 + 1, ns, z, 1, b, rfl, pen2, by omega, by have := sz.two; omega, by have := sz.three; omega, by decide, b1, fun y H3 hy l1 l2 pen3 bb3 => ⟨(by show 2 ≤ sizeLine; decide), fun T nT => ?_⟩⟩
        have sT := same_upd (o := .tup [.str (nmL w), .str y]) nT
        refine q (.ref T) (.leaf w y) _ ⟨by omega, T, rfl, upd_same⟩ ⟨fun _ => short_of hy sz (by omega) (by omega), fun e => absurd hw (by omega), fun e => absurd hw (by omega), by omega⟩ (by show 1 ≤ _; omega) lv1 ((pen3.keep sT).le (by omega)) ((((bb1.trans (But.same sL)).trans bb2).trans bb3).trans (But.same sT))
      · rw [decide_eq_false c1]
        refine iteF ⟨_, rfl, rfl, _, rfl, ?_⟩
        by_cases c2 : r = 3
        · subst c2
          rw [decide_eq_true rfl]
          refine iteT ⟨_, rfl, _, rfl, _, rfl, d, c, n + 1, ns, z, 0, b, rfl, pen1, by omega, by have := sz.two; omega, by have := sz.three; omega, by decide, by omega, fun y H3 hy l1 l2 pen3 bb3 => ⟨(by show 2 ≤ sizeLine; decide), fun T nT => ?_⟩⟩
          have sT := same_upd (o := .tup [.str "is", .str y]) nT
          exact q (.ref T) (.leaf 3 y) _ ⟨by decide, T, rfl, upd_same⟩ ⟨fun e => absurd e (by decide), fun _ => ⟨line_of hy sz, by omega⟩, fun e => absurd e (by decide), by omega⟩ (by show 1 ≤ _; omega) lv1 ((pen3.keep sT).le (by omega)) ((bb1.trans bb3).trans (But.same sT))
        · rw [decide_eq_false (fun e => c2 (by injection e))]
          refine iteF ⟨_, rfl, _, _, rfl, rfl, _, rfl, ?_⟩
          by_cases c3 : r < 6
          · rw [decide_eq_true c3]
            have zc : 0 < (cod z).length := by
              rw [len_cod]
              have := sz.two
              omega
            have c0 := (cod z)[0]'zc
            have at0 : atI z.cps.toList 0 = some ((cod z)[0]'zc) := atI_nat (j := 0) (List.getElem?_eq_getElem zc)
            refine iteT ⟨_, rfl, _, rfl, _, rfl, z, rfl, zl, (by show 2 ≤ sizeLine; decide), fun u1 m1 => ⟨_, rfl, _, rfl, z, rfl, zl, (by show 2 ≤ sizeLine; decide), fun u2 m2 => ⟨(by show 2 ≤ sizeLine; decide), fun u3 m3 => ⟨_, rfl, z, 0, (cod z)[0]'zc, rfl, rfl, zl, at0, (by show 2 ≤ sizeLine; decide), fun u4 m4 => ⟨(by show 4 ≤ sizeLine; decide), fun L nL => ?_⟩⟩⟩⟩⟩
            have q5 := same_upd (o := .lst [.ref u1, .ref u2, .ref u3, .ref u4]) nL
            have q4 := (same_upd (o := .tup [.str "has", .str ⟨#[(cod z)[0]'zc]⟩]) m4).trans q5
            have q3 := (same_upd (o := .tup [.str "only", .str ""]) m3).trans q4
            have q2 := (same_upd (o := .tup [.str "only", .str (cutS z none (some 2))]) m2).trans q3
            have q1 := (same_upd (o := .tup [.str "only", .str (cutS z none (some 1))]) m1).trans q2
            have penL := pen1.keep q1
            refine ⟨d, c, n + 1, ns, _, rfl, penL, by omega, .inl ⟨L, _, rfl, upd_same, (by show 0 < 4; decide), (by show 4 < 1000000; decide), fun v H2 hv pen2 bb2 => ?_⟩⟩
            obtain ⟨kv, _, _, pp⟩ := penL
            have bb := (bb1.trans (But.same q1)).trans bb2
            have far : ∀ (u : Addr) (xs : List V) (G1 : Hp), G1 u = some (.tup xs) → Same G1 _ → H2 u = some (.tup xs) := fun u xs G1 hu sm => bb2 _ _ (sm _ _ hu) (ne_of (sm _ _ hu) pp.dc (by intro w; cases w))
            have pre : ∀ i : Nat, i ≤ 2 → lineB (cutS z none (some (i : Int))) = true ∧ (cod (cutS z none (some (i : Int)))).Nodup := fun i _ => by
              refine ⟨line_of (fun x hx => ?_) sz, ?_⟩
              · rw [cod_pre] at hx
                exact List.mem_of_mem_take hx
              · rw [cod_pre]
                exact sz.nd.sublist (List.take_sublist _ _)
            have len : ∀ o : Option Int, (cutS z none o).length < 100 := fun o => Nat.lt_of_le_of_lt (cutS_length z none o) (by have := sz.three; omega)
            simp only [List.mem_cons, List.not_mem_nil, or_false] at hv
            have pend := pen2.le (show n + 1 + 1 ≤ n + cost b (k + 1) by omega)
            rcases hv with rfl | rfl | rfl | rfl
            · exact q _ (.leaf 4 (cutS z none (some 1))) H2 ⟨by decide, u1, rfl, far u1 _ _ upd_same q2⟩ ⟨fun e => absurd e (by decide), fun e => absurd e (by decide), fun _ => pre 1 (by decide), len _⟩ (by show 1 ≤ _; omega) lv1 pend bb
            · exact q _ (.leaf 4 (cutS z none (some 2))) H2 ⟨by decide, u2, rfl, far u2 _ _ upd_same q3⟩ ⟨fun e => absurd e (by decide), fun e => absurd e (by decide), fun _ => pre 2 (by decide), len _⟩ (by show 1 ≤ _; omega) lv1 pend bb
            · exact q _ (.leaf 4 "") H2 ⟨by decide, u3, rfl, far u3 _ _ upd_same q4⟩ ⟨fun e => absurd e (by decide), fun e => absurd e (by decide), fun _ => ⟨by decide +kernel, by decide +kernel⟩, by decide⟩ (by show 1 ≤ _; omega) lv1 pend bb
            · exact q _ (.leaf 0 ⟨#[(cod z)[0]'zc]⟩) H2 ⟨by decide, u4, rfl, far u4 _ _ upd_same q5⟩ ⟨fun _ => short_of (fun x hx => by
                have e : x = (cod z)[0]'zc := by simpa using hx
                rw [e]
                exact List.getElem_mem zc) sz (by show 1 ≤ 1; omega) (by show 1 ≤ 8; omega), fun e => absurd e (by decide), fun e => absurd e (by decide), by show 1 < 100; omega⟩ (by show 1 ≤ _; omega) lv1 pend bb
          · rw [decide_eq_false c3]
            have cost2 : cost b (k + 1) = 4 + b + 2 * cost b k := rfl
            have cpk := cost_pos b1 k
            have pw : 2 ^ (k + 1) = 2 ^ k + 2 ^ k := by rw [Nat.pow_succ]; omega
            have ek : (((k + 1 : Nat) : Int) - 1) = (k : Int) := by omega
            refine iteF ⟨_, rfl, rfl, _, rfl, ?_⟩
            by_cases c4 : r = 6
            · subst c4
              rw [decide_eq_true rfl]
              refine iteT ⟨_, rfl, _, rfl, _, rfl, _, rfl, _, _, rfl, rfl, d, c, n + 1, ns, z, b, (by show [V.ref d, V.str z, V.int b, V.int (((k + 1 : Nat) : Int) - 1)] = _; rw [ek]), pen1, by omega, sz, b1, b8, fun v g H2 hg wf dg lg pen2 bb2 => ⟨(by show 2 ≤ sizeLine; decide), fun T nT => ?_⟩⟩
              have sT := same_upd (o := .tup [.str "fails", v]) nT
              exact q (.ref T) (.fails g) _ ⟨T, v, rfl, upd_same, hg.same sT⟩ wf (by show 1 + g.dep ≤ _; omega) (by show g.lv ≤ _; omega) ((pen2.keep sT).le (by omega)) ((bb1.trans bb2).trans (But.same sT))
            · rw [decide_eq_false (fun e => c4 (by injection e))]
              refine iteF ⟨_, rfl, _, rfl, _, rfl, _, rfl, _, _, rfl, rfl, d, c, n + 1, ns, z, b, (by show [V.ref d, V.str z, V.int b, V.int (((k + 1 : Nat) : Int) - 1)] = _; rw [ek]), pen1, by omega, sz, b1, b8, fun v g H2 hg wf dg lg pen2 bb2 => ?_⟩
              refine ⟨_, rfl, (by show 2 ≤ sizeLine; decide), fun L nL => ?_⟩
              have sL := same_upd (o := .lst [.str "both", .str "either"]) nL
              have penL := pen2.keep sL
              refine ⟨d, c, n + 1 + cost b k, ns, _, rfl, penL, by omega, .inl ⟨L, _, rfl, upd_same, (by show 0 < 2; decide), (by show 2 < 1000000; decide), fun v2 H3 hv pen3 bb3 => ?_⟩⟩
              obtain ⟨kvs, _, _, pp⟩ := penL
              have hg3 := (hg.same sL).but bb3 pp.dc
              obtain ⟨w, rfl, hw⟩ : ∃ w : Nat, v2 = .str (nmP w) ∧ w < 2 := by
                simp only [List.mem_cons, List.not_mem_nil, or_false] at hv
                rcases hv with rfl | rfl
                · exact ⟨0, rfl, by decide⟩
                · exact ⟨1, rfl, by decide⟩
              have pen3' := pen3
              obtain ⟨kv3, _, _, pp3⟩ := pen3'
              refine ⟨_, rfl, _, rfl, _, rfl, _, rfl, _, rfl, _, _, rfl, rfl, d, c, n + 1 + cost b k + 1, ns, z, b, (by show [V.ref d, V.str z, V.int b, V.int (((k + 1 : Nat) : Int) - 1)] = _; rw [ek]), pen3, by omega, sz, b1, b8, fun v4 g4 H4 hg4 wf4 dg4 lg4 pen4 bb4 => ⟨(by show 3 ≤ sizeLine; decide), fun T nT => ?_⟩⟩
              have sT := same_upd (o := .tup [.str (nmP w), v, v4]) nT
              have hgT := (hg3.but bb4 pp3.dc).same sT
              exact q (.ref T) (.pair w g g4) _ ⟨hw, T, v, v4, rfl, upd_same, hgT, hg4.same sT⟩ ⟨wf, wf4⟩ (by show 1 + max g.dep g4.dep ≤ _; omega) (by show g.lv + g4.lv ≤ _; omega) ((pen4.keep sT).le (by omega)) (((((bb1.trans bb2).trans (But.same sL)).trans bb3).trans bb4).trans (But.same sT))
end
end LA
end
section
set_option Elab.async false
set_option linter.all false
set_option maxRecDepth 100000
set_option maxHeartbeats 4100000
namespace LA
open PySem L2 XS XT
abbrev sJline : Stmt := top 43
abbrev sJlight : Stmt := top 45
theorem pe_never {X : Cx} {e : Expr} : PE X e (fun _ _ _ => False) := ⟨fun _ _ _ _ _ _ h => h.elim⟩
theorem cod_app (a b : Str) : cod (a ++ b) = cod a ++ cod b := TL.tl_append a b
theorem cut_mem {w : Str} {lo hi : Option Int} {x : Nat} (h : x ∈ cod (cutS w lo hi)) : x ∈ cod w := List.mem_of_mem_drop (List.mem_of_mem_take h)
theorem lineB_of {y : Str} : lineB y = true ↔ ∀ c ∈ cod y, Lt c := by
  unfold lineB
  rw [List.all_eq_true]
  exact ⟨fun h c hc => of_decide_eq_true (h c hc), fun h c hc => decide_eq_true (h c hc)⟩
section
variable {P : Program} {w : World} {K : PySem.W.Frag} {mg : Str → Option Value} {base : Heap}
def spJlight : Sp := fun vs H Q _ => ∃ (d c : Addr) (n : Int) (ns : List Int) (z : Str), vs = [.ref d, .str z, .int 2, .int 2] ∧ PenAt H d c n ns ∧ n + 42 < 1000000 ∧ Sgn z ∧
  ∀ (v : V) (g : G) (H' : Hp), GA H' g v → g.wf → g.dep ≤ 3 → g.lv ≤ 2 → PenAt H' d c (n + 42) ns → But d H H' → Q v H'
theorem scJi : FnScope ["_law_pen_here", "_law_signs_here", "_law_most_leaves", "_law_wide", "_law_goal_here"] ["_law_pen_here", "_law_signs_here", "_law_most_leaves", "_law_wide"] (defScope sJlight) := ⟨rfl, rfl, rfl, by decide +kernel, rfl, by decide +kernel, by decide +kernel⟩
theorem ok_jlight {f fG fJ : Addr} {fd fdG fdJ : FuncData} (F : Fun K "_law_jlight" "_law_jlight" sJlight f fd) (mL : mg "len" = none) (N : CallOf P w K mg base 6 "_law_goal" ["_law_pen_here", "_law_signs_here", "_law_wide", "_law_deep"] (spGoal 2) fG fdG) (J : CallOf P w K mg base 4 "_law_jleaves" ["_law_goal_here"] (spJ RL 3) fJ fdJ) :
    FnOk P w K mg base CX0 7 f fd ["_law_pen_here", "_law_signs_here", "_law_most_leaves", "_law_wide"] spJlight := by
  refine F.ok scJi (fun vs H Q E h => ?_) (fun cdv A outer s H vs Q E hr h => ?_)
  · obtain ⟨d, c, n, ns, z, rfl, _⟩ := h
    rfl
  · obtain ⟨d, c, n, ns, z, rfl, pen, hn, sz, q⟩ := h
    have hr4 : Room 4 _ := hr.mono (by decide)
    have c2 : cost 2 2 = 42 := rfl
    refine ⟨_, pss_cons (by exact (ps_set (i := 4) scJi.nd rfl (.inl rfl) (pe_call N.ok hr rfl N.m N.k N.b .nil pass0 (pa_cons (pv 0) (pa_cons (pv 1) (pa_cons (pv 3) (pa_cons pe_int pa_nil))))))) (
      pss_one (by exact (ps_ret (pe_ifExp (pt_cmpR op_le (pe_callB call_len_seq (by rfl) mL PySem.boot_len (pa_cons (pe_call J.ok hr4 rfl J.m J.k J.b .nil pass0 (pa_cons (pv 4) pa_nil)) pa_nil)) (pv 2) (nomark _)) (pv 4)
        (pe_tup (pa_cons pe_str (pa_cons (pe_tup (pa_cons pe_str (pa_cons (pe_slice sl_str (pv 1) po_none (po_some pe_int)) pa_nil))) pa_nil))))))), ?_⟩
    refine ⟨_, rfl, _, rfl, _, rfl, d, c, n, ns, z, 2, rfl, pen, by omega, sz, by decide, by decide, fun v g H1 hg wf dg lg pen1 bb1 => ?_⟩
    have l4 : g.lv ≤ 4 := lg
    refine ⟨_, rfl, g, v, rfl, hg, dg, by omega, fun p xs H2 rx hp np s2 => ⟨p, xs, rfl, .inl (SqL.of hp), _, rfl, _, _, rfl, rfl, _, rfl, ?_⟩⟩
    have ln : xs.length = g.lv := rx
    by_cases le : (xs.length : Int) ≤ 2
    · rw [decide_eq_true le]
      refine iteT ⟨_, rfl, ?_⟩
      exact q v g H2 (hg.same s2) wf dg (by omega) ((pen1.keep s2).le (by omega)) (bb1.trans (But.same s2))
    · rw [decide_eq_false le]
      have zl : z.length ≤ sizeLine := Nat.le_trans sz.three (by decide)
      refine iteF ⟨_, rfl, _, rfl, z, rfl, zl, (by show 2 ≤ sizeLine; decide), fun T nT => ⟨(by show 2 ≤ sizeLine; decide), fun U nU => ?_⟩⟩
      have sT := same_upd (o := .tup [.str "has", .str (cutS z none (some 1))]) nT
      have sU := same_upd (o := .tup [.str "fails", .ref T]) nU
      have s3 := (s2.trans sT).trans sU
      have e1 : cod (cutS z none (some ((1 : Nat) : Int))) = (cod z).take 1 := cod_pre z 1
      have l1 : (cutS z none (some ((1 : Nat) : Int))).length = 1 := by
        rw [← len_cod, e1, List.length_take, len_cod]
        have := sz.two
        omega
      exact q (.ref U) (.fails (.leaf 0 (cutS z none (some ((1 : Nat) : Int))))) _ ⟨U, .ref T, rfl, upd_same, by decide, T, rfl, sU _ _ upd_same⟩
        ⟨fun _ => short_of (fun x hx => cut_mem hx) sz (by omega) (by omega), fun e => absurd e (by decide), fun e => absurd e (by decide), by omega⟩ (by show 1 + 1 ≤ 3; decide) (by show 1 ≤ 2; decide) ((pen1.keep s3).le (by omega)) (bb1.trans (But.same s3))
def spJline : Sp := fun vs H Q _ => ∃ (d c L : Addr) (n : Int) (ns : List Int) (ws : List Str) (z : Str), vs = [.ref d, .ref L, .str z, .int 12] ∧ PenAt H d c n ns ∧ n + 25 < 1000000 ∧ H L = some (.lst (ws.map V.str)) ∧ ws.length ≤ 8 ∧ (∀ y ∈ ws, lineB y = true ∧ y.length ≤ 100) ∧ Sgn z ∧
  ∀ (y : Str) (H' : Hp), lineB y = true → y.length ≤ 12 → PenAt H' d c (n + 25) ns → But d H H' → Q (.str y) H'
theorem scJn : FnScope ["_law_pen_here", "_law_words", "_law_signs_here", "_law_most_letters", "_law_found", "_law_k", "_law_was", "_law_cut"] ["_law_pen_here", "_law_words", "_law_signs_here", "_law_most_letters"] (defScope sJline) := ⟨rfl, rfl, rfl, by decide +kernel, rfl, by decide +kernel, by decide +kernel⟩
theorem ok_jline {f fD fR fP : Addr} {fd fdD fdR fdP : FuncData} (F : Fun K "_law_jline" "_law_jline" sJline f fd) (T : Txt mg) (mR : mg "range" = none) (D : Draws P w K mg base fD fdD) (M : PickAt P w K mg base fP fdP)
    (R : CallOf P w K mg base 3 "_law_row" ["_law_pen_here", "_law_signs_here", "_law_least", "_law_most_letters"] spRow fR fdR) :
    FnOk P w K mg base CX0 4 f fd ["_law_pen_here", "_law_words", "_law_signs_here", "_law_most_letters"] spJline := by
  refine F.ok scJn (fun vs H Q E h => ?_) (fun cdv A outer s H vs Q E hr h => ?_)
  · obtain ⟨d, c, L, n, ns, ws, z, rfl, _⟩ := h
    rfl
  · obtain ⟨d, c, L, n, ns, ws, z, rfl, pen, hn, hL, lw, aw, sz, q⟩ := h
    have hr2 : Room 2 _ := hr.mono (by decide)
    have hr1 : Room 1 _ := hr.mono (by decide)
    refine ⟨_, (pss_cons (by exact (ps_set (i := 4) scJn.nd rfl (.inl rfl) pe_str)) (pss_cons (by exact (ps_for PassesOwn.never rfl (pi_range1 rfl mR (pa_cons (pe_call D.ok hr1 rfl D.m D.k D.b .nil pass0 (pa_cons (pv 0) (pa_cons pe_int pa_nil))) pa_nil)) (pg_name (i := 5) scJn.nd rfl (Or.inl rfl)) (pss_cons (by exact (ps_set (i := 6) scJn.nd rfl (.inl rfl) (pe_call M.ok hr2 rfl M.m M.k M.b .nil pass0 (pa_cons (pv 0) (pa_cons (pe_op op_cat (pe_callTy call_list_of (by rfl) T.list (by decide +kernel) (pa_cons (pv 1) pa_nil)) (pe_lst (pa_cons (pv 2) pa_nil))) pa_nil))))) (pss_cons (by exact (ps_set (i := 7) scJn.nd rfl (.inl rfl) (pe_call D.ok hr1 rfl D.m D.k D.b .nil pass0 (pa_cons (pv 0) (pa_cons (pe_op op_add (pe_callB call_len_str (by rfl) T.len PySem.boot_len (pa_cons (pv 6) pa_nil)) pe_int) pa_nil))))) (pss_one (by exact (ps_set (i := 4) scJn.nd rfl (.inl rfl) (pe_op op_add_str (pv 4) (pe_call M.ok hr2 rfl M.m M.k M.b .nil pass0 (pa_cons (pv 0) (pa_cons (pe_lst (pa_cons (pv 6) (pa_cons (pe_slice sl_str (pv 6) po_none (po_some (pv 7))) (pa_cons (pe_slice sl_str (pv 6) (po_some (pv 7)) po_none) (pa_cons (pe_call R.ok hr rfl R.m R.k R.b .nil pass0 (pa_cons (pv 0) (pa_cons (pe_op op_add_str (pv 2) pe_str) (pa_cons pe_int (pa_cons pe_int pa_nil))))) pa_nil))))) pa_nil))))))))))) (pss_one (by exact (ps_ret (pe_slice sl_str (pv 4) po_none (po_some (pv 3)))))))), ?_⟩
    have n0 := pen.n0
    refine ⟨_, rfl, d, c, n, ns, 5, rfl, pen, by omega, by decide, by decide, fun r H1 r0 r1 pen1 bb1 => ?_⟩
    refine ⟨r, rfl, by omega, by omega, ?_⟩
    refine for_range (lo := 0) (n := r.toNat) (fun i σ X => ∃ (y : Str) (x5 x6 x7 : Option V), σ = [some (.ref d), some (.ref L), some (.str z), some (.int 12), some (.str y), x5, x6, x7] ∧ lineB y = true ∧ y.length ≤ 100 * i ∧ PenAt X d c (n + 1 + 6 * i) ns ∧ But d H X)
      ⟨"", _, _, _, rfl, by decide +kernel, Nat.zero_le _, (show PenAt _ d c (n + 1 + 6 * (0 : Int)) ns from pen1.le (by omega)), bb1⟩ (fun i σ X hi p => ?_) (fun σ X p => ?_)
    · obtain ⟨y, x5, x6, x7, rfl, ly, yl, pX, bX⟩ := p
      have il : i < 5 := by omega
      have nLd : L ≠ d := by
        obtain ⟨kvs, _, _, pp⟩ := pen
        exact ne_of hL pp.dc (by intro e; cases e)
      have hLX := bX _ _ hL nLd
      have zl : z.length ≤ 3 := sz.three
      refine ⟨_, rfl, _, rfl, L, _, rfl, .inl (SqL.of hLX), fun l1 n1 => ⟨_, rfl, (by show 1 ≤ sizeLine; decide), fun l2 n2 => ⟨l1, l2, _, _, rfl, rfl, (same_upd n2) _ _ upd_same, upd_same, ?_, fun l3 n3 => ?_⟩⟩⟩
      · rw [List.length_map]
        exact Nat.le_trans (Nat.add_le_add_right lw 1) (by decide)
      have s3 := ((same_upd (o := .lst (ws.map V.str)) n1).trans (same_upd (o := .lst [.str z]) n2)).trans (same_upd (o := .lst (ws.map V.str ++ [.str z])) n3)
      refine ⟨d, c, n + 1 + 6 * i, ns, _, rfl, pX.keep s3, by omega, .inl ⟨l3, _, rfl, upd_same, by rw [List.length_append]; exact Nat.succ_pos _, by rw [List.length_append, List.length_map]; exact Nat.lt_of_le_of_lt (Nat.add_le_add_right lw 1) (by decide), fun v H2 hv pen2 bb2 => ?_⟩⟩
      obtain ⟨wv, rfl, lwv, wl⟩ : ∃ wv : Str, v = .str wv ∧ lineB wv = true ∧ wv.length ≤ 100 := by
        rcases List.mem_append.mp hv with hv | hv
        · obtain ⟨x, hx, rfl⟩ := List.mem_map.mp hv
          exact ⟨x, rfl, (aw x hx).1, (aw x hx).2⟩
        · rw [List.mem_singleton] at hv
          subst hv
          exact ⟨z, rfl, lineB_of.mpr sz.lets, by omega⟩
      have wlL : wv.length ≤ sizeLine := Nat.le_trans wl (by decide)
      refine ⟨_, rfl, _, rfl, wv, rfl, wlL, _, _, rfl, rfl, d, c, n + 1 + 6 * i + 1, ns, (wv.length : Int) + 1, rfl, pen2, by omega, by omega, by omega, fun cut H3 c0 c1 pen3 bb3 => ?_⟩
      have lzq : ∀ x ∈ cod (z ++ "q"), Lt x := fun x hx => by
        rw [cod_app] at hx
        rcases List.mem_append.mp
              hx with hx | hx
        · exact sz.lets x hx
        · exact (by decide +kernel : ∀ x ∈ cod "q", Lt x) x hx
      have lq : (z ++ "q").length = z.length + 1 := by
        rw [← len_cod, cod_app, List.length_append, len_cod]
        rfl
      refine ⟨_, rfl, _, rfl, _, rfl, _, rfl, _, rfl, cut, rfl, wv, rfl, wlL, _, rfl, _, rfl, cut, rfl, wv, rfl, wlL, ?_⟩
      refine ⟨_, rfl, _, rfl, z, "q", rfl, rfl, Nat.le_trans (Nat.add_le_add_right zl 1) (by decide), ?_⟩
      refine ⟨d, c, n + 1 + 6 * i + 1 + 1, ns, z ++ "q", 0, 2, rfl, pen3, by omega, by omega, by omega, by decide, by decide, fun y2 H4 hy2 m1 m2 pen4 bb4 => ⟨(by show 4 ≤ sizeLine; decide), fun l4 n4 => ?_⟩⟩
      have s4 := same_upd (o := .lst [.str wv, .str (cutS wv none (some cut)), .str (cutS wv (some cut) none), .str y2]) n4
      refine ⟨d, c, n + 1 + 6 * i + 1 + 1 + 1 + 2, ns, _, rfl, pen4.keep s4, by omega, .inl ⟨l4, _, rfl, upd_same, (by show 0 < 4; decide), (by show 4 < 1000000; decide), fun v2 H5 hv2 pen5 bb5 => ?_⟩⟩
      obtain ⟨u, rfl, lu, ul⟩ : ∃ u : Str, v2 = .str u ∧ lineB u = true ∧ u.length ≤ 100 := by
        simp only [List.mem_cons, List.not_mem_nil, or_false] at hv2
        rcases hv2 with rfl | rfl | rfl | rfl
        · exact ⟨wv, rfl, lwv, wl⟩
        · exact ⟨_, rfl, lineB_of.mpr fun x hx => lineB_of.mp lwv x (cut_mem hx), Nat.le_trans (cutS_length _ _ _) wl⟩
        · exact ⟨_, rfl, lineB_of.mpr fun x hx => lineB_of.mp lwv x (cut_mem hx), Nat.le_trans (cutS_length _ _ _) wl⟩
        · exact ⟨y2, rfl, lineB_of.mpr fun x hx => lzq x (hy2 x hx), by omega⟩
      have lyu : (y ++ u).length = y.length + u.length := by rw [← len_cod, cod_app, List.length_append, len_cod, len_cod]
      refine ⟨y, u, rfl, rfl, Nat.le_trans (show y.length + u.length ≤ 600 by omega) (by decide), y ++ u, _, _, _, rfl, lineB_of.mpr fun x hx => ?_, by omega, pen5.le (by omega), ((((bX.trans (But.same s3)).trans bb2).trans bb3).trans bb4).trans ((But.same s4).trans bb5)⟩
      rw [cod_app] at hx
      rcases List.mem_append.mp
            hx with hx | hx
      · exact lineB_of.mp ly x hx
      · exact lineB_of.mp lu x hx
    · obtain ⟨y, x5, x6, x7, rfl, ly, yl, pX, bX⟩ := p
      refine ⟨_, rfl, _, rfl, _, rfl, y, rfl, Nat.le_trans yl (Nat.le_trans (by omega : 100 * r.toNat ≤ 500) (by decide)), ?_⟩
      refine q _ X (lineB_of.mpr fun x hx => lineB_of.mp ly x (cut_mem hx)) ?_ (pX.le (by omega)) bX
      rw [← len_cod]
      show (cod (cutS y none (some ((12 : Nat) : Int)))).length ≤ 12
      rw [cod_pre]
      exact List.length_take_le _ _
end
end LA
end
section
set_option Elab.async false
set_option linter.all false
set_option maxRecDepth 100000
set_option maxHeartbeats 8000000
namespace LA
open PySem L2 XS XT
abbrev sSame : Stmt := top 46
abbrev sRules : Stmt := top 47
/-- one of several readings -/
def tEx {ι : Type} (t : ι → TE) : TE := fun σ H Q => ∃ i, t i σ H Q
section
variable {P : Program} {w : World} {K : PySem.W.Frag} {mg : Str → Option Value} {base : Heap} {C fi h : Nat → Addr} {fdi fh : Nat → FuncData}
/-- same of two tests of at most n that hold of the same ones of some lines -/
def spSame (C : Nat → Addr) (n : Nat) : Sp := fun vs H Q _ => ∃ (a b : G) (u v : V) (L : Addr) (ws : List Str), vs = [u, v, .ref L] ∧ TA C H a u ∧ TA C H b v ∧ a.dep ≤ n ∧ b.dep ≤ n ∧ H L = some (.lst (ws.map V.str)) ∧ (∀ y ∈ ws, y.length < 1000000 ∧ a.val y = b.val y) ∧
  ∀ H', Same H H' → Q (.bl true) H'
theorem scSm : FnScope ["_law_one", "_law_other", "_law_rows", "_law_row_here"] ["_law_one", "_law_other", "_law_rows"] (defScope sSame) := ⟨rfl, rfl, rfl, by decide +kernel, rfl, by decide +kernel, by decide +kernel⟩
theorem ok_same {n : Nat} {f : Addr} {fd : FuncData} (F : Fun K "_law_same" "_law_same" sSame f fd) (k0 : KC K C) (M : HoldT K C h fh) (AH : AllHold P w K mg base C h fh n) : FnOk P w K mg base CX0 (n + 2) f fd ["_law_one", "_law_other", "_law_rows"] (spSame C n) := by
  refine F.ok scSm (fun vs H Q E h => ?_) (fun cdv A outer s H vs Q E hr h => ?_)
  · obtain ⟨a, b, u, v, L, ws, rfl, _⟩ := h
    rfl
  · obtain ⟨a, b, u, v, L, ws, rfl, ta, tb, da, db, hL, good, q⟩ := h
    have hu6 := hr.units
    refine ⟨_, pss_one (by exact (ps_ret (pe_cmpR (op_eqD hu6) (pe_lc (own := [("_law_row_here", 3)]) (g := gName 3)
        (tt := tTest (tOp rNe (tEx fun i : Fin 8 => tMeth (C i) "holds" (spHold C i n) [] (fun _ _ _ => False) (tVar 0) (tCons (tVar 3) tNil)) (tEx fun i : Fin 8 => tMeth (C i) "holds" (spHold C i n) [] (fun _ _ _ => False) (tVar 1) (tCons (tVar 3) tNil)))) (te := tVar 3) rfl scSm.nd (pi_list (pv 2))
        (blkOk_by (N := ["_law_one", "_law_other", "_law_rows", "_law_row_here"]) (sc := defScope sSame) (by decide +kernel))
        (fun _ _ _ _ _ => by exact (pg_name (i := 3) scSm.nd rfl (Or.inl rfl)))
        (fun _ _ _ _ _ => by exact (pts_one (pt_cmpR op_ne (pe_ex fun i : Fin 8 => pe_meth (pv 0) (k0.cls i i.isLt) (M.m i) (AH i) hr (M.b i) .nil pass0 (pa_cons (pv 3) pa_nil)) (pe_ex fun i : Fin 8 => pe_meth (pv 1) (k0.cls i i.isLt) (M.m i) (AH i) hr (M.b i) .nil pass0 (pa_cons (pv 3) pa_nil)) (nomark _))))
        (fun _ _ _ _ _ => by exact (pv 3))) (pe_lst pa_nil) (nomark _)))), ?_⟩
    refine ⟨_, rfl, L, rfl, ⟨_, SqL.of hL⟩, fun D nD => ?_⟩
    refine lc_it (walk_list (xs := ws.map V.str)) (fun i X => X D = some (.lst []) ∧ Same H X) ⟨upd_same, same_upd nD⟩ (fun i X _ p => SqL.of (p.2 _ _ hL)) (fun i x X X' hi p yl => ?_) (fun X p => ?_)
    · obtain ⟨pD, pS⟩ := p
      obtain ⟨rfl, hx⟩ := yl
      rw [List.getElem?_map] at hx
      obtain ⟨y, hy, rfl⟩ := Option.map_eq_some_iff.mp hx
      obtain ⟨sm, ev⟩ := good y (List.mem_of_getElem? hy)
      refine ⟨rfl, ?_⟩
      have ta1 := ta.same pS
      obtain ⟨b1, dy1, fs1, rfl, hb1, nl1⟩ := ta1.call
      refine ⟨⟨a.cls, ta1.at_.1⟩, _, rfl, b1, dy1, fs1, rfl, hb1, nl1, _, rfl, a, _, y, rfl, ta1, rfl, da, sm, fun H1 s1 => ?_⟩
      have tb1 := tb.same (pS.trans s1)
      obtain ⟨b2, dy2, fs2, rfl, hb2, nl2⟩ := tb1.call
      refine ⟨⟨b.cls, tb1.at_.1⟩, _, rfl, b2, dy2, fs2, rfl, hb2, nl2, _, rfl, b, _, y, rfl, tb1, rfl, db, sm, fun H2 s2 => ⟨rfl, _, rfl, ?_⟩⟩
      have no : (!decide (V.bl (a.val y) = V.bl (b.val y))) = false := by rw [ev, decide_eq_true rfl]; rfl
      rw [no]
      refine iteF ⟨?_, (pS.trans s1).trans s2⟩
      exact s2 _ _ (s1 _ _ pD)
    · obtain ⟨pD, pS⟩ := p
      refine ⟨(by show 0 ≤ sizeLine; decide), fun N nN => ?_⟩
      have sN := same_upd (o := .lst []) nN
      refine ⟨.list [], .list [], .lst (SqL.of (sN _ _ pD)) .nil, .lst (SqL.of upd_same) .nil, by rfl, by rfl, ?_⟩
      rw [eqv_nil]
      exact q _ (pS.trans sN)
/-! ### new tests of made ones -/
theorem made_F {H : Hp} {g : G} {u : V} (t : TA C H g u) (d8 : g.dep < 8) {x dx : Addr} (nx : H x = none) (nd : H dx = none) {R : Hp → Prop} {E : XK} (q : ∀ H', TA C H' (.fails g) (.ref x) → Same H H' → R H') :
    spInitF C (.ref x :: ([u] ++ [])) (upd (upd H dx (.own x)) x (.ins (C 5) dx [])) (fun v H2 => v = .non ∧ R H2) E :=
  ⟨x, dx, g, u, rfl, upd_same, t.same (made_start nx nd), d8, fun H4 hx b => ⟨rfl, q H4 ⟨x, dx, u, rfl, hx, t.same (made_same nx nd b)⟩ (made_same nx nd b)⟩⟩
theorem made_P (s : Nat) (hs : s < 2) {H : Hp} {a b : G} {u v : V} (ta : TA C H a u) (tb : TA C H b v) (p8 : Pair8 a b) {x dx : Addr} (nx : H x = none) (nd : H dx = none) {R : Hp → Prop} {E : XK} (q : ∀ H', TA C H' (.pair s a b) (.ref x) → Same H H' → R H') :
    spInitP C (C (6 + s)) (.ref x :: ([u, v] ++ [])) (upd (upd H dx (.own x)) x (.ins (C (6 + s)) dx [])) (fun v H2 => v = .non ∧ R H2) E :=
  ⟨x, dx, a, b, u, v, rfl, upd_same, ta.same (made_start nx nd), tb.same (made_start nx nd), p8, fun H4 hx bb => ⟨rfl, q H4 ⟨hs, x, dx, u, v, rfl, hx, ta.same (made_same nx nd bb), tb.same (made_same nx nd bb)⟩ (made_same nx nd bb)⟩⟩
end
end LA
end
section
set_option Elab.async false
set_option linter.all false
set_option maxRecDepth 100000
set_option maxHeartbeats 8000000
namespace LA
open PySem L2 XS XT
section
variable {P : Program} {w : World} {K : PySem.W.Frag} {mg : Str → Option Value} {base : Heap} {C fi h : Nat → Addr} {fdi fh : Nat → FuncData}
def spRules (C : Nat → Addr) : Sp := fun vs H Q _ => ∃ (a b c : G) (u v x : V) (L : Addr) (ws : List Str), vs = [u, v, x, .ref L] ∧ TA C H a u ∧ TA C H b v ∧ TA C H c x ∧ (a.dep ≤ 3 ∧ b.dep ≤ 3 ∧ c.dep ≤ 3) ∧ (a.lv ≤ 2 ∧ b.lv ≤ 2 ∧ c.lv ≤ 2) ∧ H L = some (.lst (ws.map V.str)) ∧ (∀ y ∈ ws, y.length < 1000000) ∧
  ∀ H', Same H H' → Q (.bl true) H'
theorem scRu : FnScope ["_law_a", "_law_b", "_law_c", "_law_rows"] ["_law_a", "_law_b", "_law_c", "_law_rows"] (defScope sRules) := ⟨rfl, rfl, rfl, by decide +kernel, rfl, by decide +kernel, by decide +kernel⟩
theorem ok_rules {f f1 : Addr} {fd fd1 : FuncData} (F : Fun K "_law_rules_right" "_law_rules_right" sRules f fd) (N : NamT mg C) (MK : Makers P w K mg base C fi fdi) (S : CallOf P w K mg base 7 "_law_same" ["_law_one", "_law_other", "_law_rows"] (spSame C 5) f1 fd1) : FnOk P w K mg base CX0 16 f fd ["_law_a", "_law_b", "_law_c", "_law_rows"] (spRules C) := by
  refine F.ok scRu (fun vs H Q E h => ?_) (fun cdv A outer s H vs Q E hr h => ?_)
  · obtain ⟨a, b, c, u, v, x, L, ws, rfl, _⟩ := h
    rfl
  · obtain ⟨a, b, c, u, v, x, L, ws, rfl, ta, tb, tc, ⟨da, db, dc⟩, ⟨la, lb, lc⟩, hL, small, q⟩ := h
    have hr15 : Room 15 _ := hr.mono (by decide)
    have hr7 : Room 7 _ := hr.mono (by decide)
    have pa := a.dep_pos
    refine ⟨_, pss_cons (by exact (ps_if (PW.pt (pw_or (pt_not (pt_val (pe_call S.ok hr7 rfl S.m S.k S.b .nil pass0 (pa_cons (pe_make MK.m5.made MK.m5.ok hr15 rfl N.n5 MK.m5.b .nil pass0 (pa_cons (pe_make MK.m5.made MK.m5.ok hr15 rfl N.n5 MK.m5.b .nil pass0 (pa_cons (pv 0) pa_nil)) pa_nil)) (pa_cons (pv 0) (pa_cons (pv 3) pa_nil)))))) (pw_or1 (pt_not (pt_val (pe_call S.ok hr7 rfl S.m S.k S.b .nil pass0 (pa_cons (pe_make MK.m6.made MK.m6.ok hr15 rfl N.n6 MK.m6.b .nil pass0 (pa_cons (pv 0) (pa_cons (pv 0) pa_nil))) (pa_cons (pe_make MK.m7.made MK.m7.ok hr15 rfl N.n7 MK.m7.b .nil pass0 (pa_cons (pv 0) (pa_cons (pv 0) pa_nil))) (pa_cons (pv 3) pa_nil))))))))) pss_never pss_nil)) (
      pss_cons (by exact (ps_if (pt_not (pt_val (pe_call S.ok hr7 rfl S.m S.k S.b .nil pass0 (pa_cons (pe_make MK.m5.made MK.m5.ok hr15 rfl N.n5 MK.m5.b .nil pass0 (pa_cons (pe_make MK.m6.made MK.m6.ok hr15 rfl N.n6 MK.m6.b .nil pass0 (pa_cons (pv 0) (pa_cons (pv 1) pa_nil))) pa_nil)) (pa_cons (pe_make MK.m7.made MK.m7.ok hr15 rfl N.n7 MK.m7.b .nil pass0 (pa_cons (pe_make MK.m5.made MK.m5.ok hr15 rfl N.n5 MK.m5.b .nil pass0 (pa_cons (pv 0) pa_nil)) (pa_cons (pe_make MK.m5.made MK.m5.ok hr15 rfl N.n5 MK.m5.b .nil pass0 (pa_cons (pv 1) pa_nil)) pa_nil))) (pa_cons (pv 3) pa_nil)))))) pss_never pss_nil)) (
      pss_cons (by exact (ps_if (pt_not (pt_val (pe_call S.ok hr7 rfl S.m S.k S.b .nil pass0 (pa_cons (pe_make MK.m6.made MK.m6.ok hr15 rfl N.n6 MK.m6.b .nil pass0 (pa_cons (pv 0) (pa_cons (pe_make MK.m7.made MK.m7.ok hr15 rfl N.n7 MK.m7.b .nil pass0 (pa_cons (pv 1) (pa_cons (pv 2) pa_nil))) pa_nil))) (pa_cons (pe_make MK.m7.made MK.m7.ok hr15 rfl N.n7 MK.m7.b .nil pass0 (pa_cons (pe_make MK.m6.made MK.m6.ok hr15 rfl N.n6 MK.m6.b .nil pass0 (pa_cons (pv 0) (pa_cons (pv 1) pa_nil))) (pa_cons (pe_make MK.m6.made MK.m6.ok hr15 rfl N.n6 MK.m6.b .nil pass0 (pa_cons (pv 0) (pa_cons (pv 2) pa_nil))) pa_nil))) (pa_cons (pv 3) pa_nil)))))) pss_never pss_nil)) (
      pss_one (by exact (ps_ret (pe_call S.ok hr7 rfl S.m S.k S.b .nil pass0 (pa_cons (pe_make MK.m7.made MK.m7.ok hr15 rfl N.n7 MK.m7.b .nil pass0 (pa_cons (pv 0) (pa_cons (pe_make MK.m6.made MK.m6.ok hr15 rfl N.n6 MK.m6.b .nil pass0 (pa_cons (pv 1) (pa_cons (pv 2) pa_nil))) pa_nil))) (pa_cons (pe_make MK.m6.made MK.m6.ok hr15 rfl N.n6 MK.m6.b .nil pass0 (pa_cons (pe_make MK.m7.made MK.m7.ok hr15 rfl N.n7 MK.m7.b .nil pass0 (pa_cons (pv 0) (pa_cons (pv 1) pa_nil))) (pa_cons (pe_make MK.m7.made MK.m7.ok hr15 rfl N.n7 MK.m7.b .nil pass0 (pa_cons (pv 0) (pa_cons (pv 2) pa_nil))) pa_nil))) (pa_cons (pv 3) pa_nil))))))))), ?_⟩
    have sm : Same H H := fun _ _ e => e
    refine ⟨_, rfl, ?_⟩
    intro y1 d1 m1 n1 o1
    refine made_F ta (by first | omega | (simp only [G.dep]; omega)) m1 n1 fun H1 t1 s1 => ?_
    replace ta := ta.same s1
    replace tb := tb.same s1
    replace tc := tc.same s1
    replace hL := s1 _ _ hL
    replace sm := sm.trans s1
    intro y2 d2 m2 n2 o2
    refine made_F t1 (by first | omega | (simp only [G.dep]; omega)) m2 n2 fun H2 t2 s2 => ?_
    replace ta := ta.same s2
    replace tb := tb.same s2
    replace tc := tc.same s2
    replace hL := s2 _ _ hL
    replace sm := sm.trans s2
    refine ⟨_, rfl, ?_⟩
    refine ⟨_, rfl, ?_⟩
    refine ⟨(.fails (.fails a)), a, _, _, L, ws, rfl, t2, ta, by first | omega | (simp only [G.dep]; omega), by first | omega | (simp only [G.dep]; omega), hL, fun y hy => ⟨small y hy, ?_⟩, fun H3 s3 => ?_⟩
    · show (!(!a.val y)) = a.val y
      cases a.val y <;> cases b.val y <;> cases c.val y <;> rfl
    replace ta := ta.same s3
    replace tb := tb.same s3
    replace tc := tc.same s3
    replace hL := s3 _ _ hL
    replace sm := sm.trans s3
    refine ⟨_, rfl, iteF ?_⟩
    refine ⟨_, rfl, ?_⟩
    refine ⟨_, rfl, ?_⟩
    intro y4 d4 m4 n4 o4
    refine made_P 0 (by decide) ta ta ⟨by first | omega | (simp only [G.dep]; omega), by first | omega | (simp only [G.dep]; omega), by first | omega | (simp only [G.lv]; omega)⟩ m4 n4 fun H4 t4 s4 => ?_
    replace ta := ta.same s4
    replace tb := tb.same s4
    replace tc := tc.same s4
    replace hL := s4 _ _ hL
    replace sm := sm.trans s4
    refine ⟨_, rfl, ?_⟩
    refine ⟨_, rfl, ?_⟩
    intro y5 d5 m5 n5 o5
    refine made_P 1 (by decide) ta ta ⟨by first | omega | (simp only [G.dep]; omega), by first | omega | (simp only [G.dep]; omega), by first | omega | (simp only [G.lv]; omega)⟩ m5 n5 fun H5 t5 s5 => ?_
    replace ta := ta.same s5
    replace tb := tb.same s5
    replace tc := tc.same s5
    replace t4 := t4.same s5
    replace hL := s5 _ _ hL
    replace sm := sm.trans s5
    refine ⟨_, rfl, ?_⟩
    refine ⟨(.pair 0 a a), (.pair 1 a a), _, _, L, ws, rfl, t4, t5, by first | omega | (simp only [G.dep]; omega), by first | omega | (simp only [G.dep]; omega), hL, fun y hy => ⟨small y hy, ?_⟩, fun H6 s6 => ?_⟩
    · show (a.val y && a.val y) = (a.val y || a.val y)
      cases a.val y <;> cases b.val y <;> cases c.val y <;> rfl
    replace ta := ta.same s6
    replace tb := tb.same s6
    replace tc := tc.same s6
    replace hL := s6 _ _ hL
    replace sm := sm.trans s6
    refine ⟨_, rfl, iteF ?_⟩
    refine ⟨_, rfl, ?_⟩
    refine ⟨_, rfl, ?_⟩
    intro y7 d7 m7 n7 o7
    refine made_P 0 (by decide) ta tb ⟨by first | omega | (simp only [G.dep]; omega), by first | omega | (simp only [G.dep]; omega), by first | omega | (simp only [G.lv]; omega)⟩ m7 n7 fun H7 t7 s7 => ?_
    replace ta := ta.same s7
    replace tb := tb.same s7
    replace tc := tc.same s7
    replace hL := s7 _ _ hL
    replace sm := sm.trans s7
    intro y8 d8 m8 n8 o8
    refine made_F t7 (by first | omega | (simp only [G.dep]; omega)) m8 n8 fun H8 t8 s8 => ?_
    replace ta := ta.same s8
    replace tb := tb.same s8
    replace tc := tc.same s8
    replace hL := s8 _ _ hL
    replace sm := sm.trans s8
    refine ⟨_, rfl, ?_⟩
    intro y9 d9 m9 n9 o9
    refine made_F ta (by first | omega | (simp only [G.dep]; omega)) m9 n9 fun H9 t9 s9 => ?_
    replace ta := ta.same s9
    replace tb := tb.same s9
    replace tc := tc.same s9
    replace t8 := t8.same s9
    replace hL := s9 _ _ hL
    replace sm := sm.trans s9
    refine ⟨_, rfl, ?_⟩
    intro y10 d10 m10 n10 o10
    refine made_F tb (by first | omega | (simp only [G.dep]; omega)) m10 n10 fun H10 t10 s10 => ?_
    replace ta := ta.same s10
    replace tb := tb.same s10
    replace tc := tc.same s10
    replace t8 := t8.same s10
    replace t9 := t9.same s10
    replace hL := s10 _ _ hL
    replace sm := sm.trans s10
    intro y11 d11 m11 n11 o11
    refine made_P 1 (by decide) t9 t10 ⟨by first | omega | (simp only [G.dep]; omega), by first | omega | (simp only [G.dep]; omega), by first | omega | (simp only [G.lv]; omega)⟩ m11 n11 fun H11 t11 s11 => ?_
    replace ta := ta.same s11
    replace tb := tb.same s11
    replace tc := tc.same s11
    replace t8 := t8.same s11
    replace hL := s11 _ _ hL
    replace sm := sm.trans s11
    refine ⟨_, rfl, ?_⟩
    refine ⟨(.fails (.pair 0 a b)), (.pair 1 (.fails a) (.fails b)), _, _, L, ws, rfl, t8, t11, by first | omega | (simp only [G.dep]; omega), by first | omega | (simp only [G.dep]; omega), hL, fun y hy => ⟨small y hy, ?_⟩, fun H12 s12 => ?_⟩
    · show (!(a.val y && b.val y)) = ((!a.val y) || (!b.val y))
      cases a.val y <;> cases b.val y <;> cases c.val y <;> rfl
    replace ta := ta.same s12
    replace tb := tb.same s12
    replace tc := tc.same s12
    replace hL := s12 _ _ hL
    replace sm := sm.trans s12
    refine ⟨_, rfl, iteF ?_⟩
    refine ⟨_, rfl, ?_⟩
    refine ⟨_, rfl, ?_⟩
    refine ⟨_, rfl, ?_⟩
    intro y13 d13 m13 n13 o13
    refine made_P 1 (by decide) tb tc ⟨by first | omega | (simp only [G.dep]; omega), by first | omega | (simp only [G.dep]; omega), by first | omega | (simp only [G.lv]; omega)⟩ m13 n13 fun H13 t13 s13 => ?_
    replace ta := ta.same s13
    replace tb := tb.same s13
    replace tc := tc.same s13
    replace hL := s13 _ _ hL
    replace sm := sm.trans s13
    intro y14 d14 m14 n14 o14
    refine made_P 0 (by decide) ta t13 ⟨by first | omega | (simp only [G.dep]; omega), by first | omega | (simp only [G.dep]; omega), by first | omega | (simp only [G.lv]; omega)⟩ m14 n14 fun H14 t14 s14 => ?_
    replace ta := ta.same s14
    replace tb := tb.same s14
    replace tc := tc.same s14
    replace hL := s14 _ _ hL
    replace sm := sm.trans s14
    refine ⟨_, rfl, ?_⟩
    refine ⟨_, rfl, ?_⟩
    intro y15 d15 m15 n15 o15
    refine made_P 0 (by decide) ta tb ⟨by first | omega | (simp only [G.dep]; omega), by first | omega | (simp only [G.dep]; omega), by first | omega | (simp only [G.lv]; omega)⟩ m15 n15 fun H15 t15 s15 => ?_
    replace ta := ta.same s15
    replace tb := tb.same s15
    replace tc := tc.same s15
    replace t14 := t14.same s15
    replace hL := s15 _ _ hL
    replace sm := sm.trans s15
    refine ⟨_, rfl, ?_⟩
    refine ⟨_, rfl, ?_⟩
    intro y16 d16 m16 n16 o16
    refine made_P 0 (by decide) ta tc ⟨by first | omega | (simp only [G.dep]; omega), by first | omega | (simp only [G.dep]; omega), by first | omega | (simp only [G.lv]; omega)⟩ m16 n16 fun H16 t16 s16 => ?_
    replace ta := ta.same s16
    replace tb := tb.same s16
    replace tc := tc.same s16
    replace t14 := t14.same s16
    replace t15 := t15.same s16
    replace hL := s16 _ _ hL
    replace sm := sm.trans s16
    intro y17 d17 m17 n17 o17
    refine made_P 1 (by decide) t15 t16 ⟨by first | omega | (simp only [G.dep]; omega), by first | omega | (simp only [G.dep]; omega), by first | omega | (simp only [G.lv]; omega)⟩ m17 n17 fun H17 t17 s17 => ?_
    replace ta := ta.same s17
    replace tb := tb.same s17
    replace tc := tc.same s17
    replace t14 := t14.same s17
    replace hL := s17 _ _ hL
    replace sm := sm.trans s17
    refine ⟨_, rfl, ?_⟩
    refine ⟨(.pair 0 a (.pair 1 b c)), (.pair 1 (.pair 0 a b) (.pair 0 a c)), _, _, L, ws, rfl, t14, t17, by first | omega | (simp only [G.dep]; omega), by first | omega | (simp only [G.dep]; omega), hL, fun y hy => ⟨small y hy, ?_⟩, fun H18 s18 => ?_⟩
    · show (a.val y && (b.val y || c.val y)) = ((a.val y && b.val y) || (a.val y && c.val y))
      cases a.val y <;> cases b.val y <;> cases c.val y <;> rfl
    replace ta := ta.same s18
    replace tb := tb.same s18
    replace tc := tc.same s18
    replace hL := s18 _ _ hL
    replace sm := sm.trans s18
    refine ⟨_, rfl, iteF ?_⟩
    refine ⟨_, rfl, ?_⟩
    refine ⟨_, rfl, ?_⟩
    refine ⟨_, rfl, ?_⟩
    intro y19 d19 m19 n19 o19
    refine made_P 0 (by decide) tb tc ⟨by first | omega | (simp only [G.dep]; omega), by first | omega | (simp only [G.dep]; omega), by first | omega | (simp only [G.lv]; omega)⟩ m19 n19 fun H19 t19 s19 => ?_
    replace ta := ta.same s19
    replace tb := tb.same s19
    replace tc := tc.same s19
    replace hL := s19 _ _ hL
    replace sm := sm.trans s19
    intro y20 d20 m20 n20 o20
    refine made_P 1 (by decide) ta t19 ⟨by first | omega | (simp only [G.dep]; omega), by first | omega | (simp only [G.dep]; omega), by first | omega | (simp only [G.lv]; omega)⟩ m20 n20 fun H20 t20 s20 => ?_
    replace ta := ta.same s20
    replace tb := tb.same s20
    replace tc := tc.same s20
    replace hL := s20 _ _ hL
    replace sm := sm.trans s20
    refine ⟨_, rfl, ?_⟩
    refine ⟨_, rfl, ?_⟩
    intro y21 d21 m21 n21 o21
    refine made_P 1 (by decide) ta tb ⟨by first | omega | (simp only [G.dep]; omega), by first | omega | (simp only [G.dep]; omega), by first | omega | (simp only [G.lv]; omega)⟩ m21 n21 fun H21 t21 s21 => ?_
    replace ta := ta.same s21
    replace tb := tb.same s21
    replace tc := tc.same s21
    replace t20 := t20.same s21
    replace hL := s21 _ _ hL
    replace sm := sm.trans s21
    refine ⟨_, rfl, ?_⟩
    refine ⟨_, rfl, ?_⟩
    intro y22 d22 m22 n22 o22
    refine made_P 1 (by decide) ta tc ⟨by first | omega | (simp only [G.dep]; omega), by first | omega | (simp only [G.dep]; omega), by first | omega | (simp only [G.lv]; omega)⟩ m22 n22 fun H22 t22 s22 => ?_
    replace ta := ta.same s22
    replace tb := tb.same s22
    replace tc := tc.same s22
    replace t20 := t20.same s22
    replace t21 := t21.same s22
    replace hL := s22 _ _ hL
    replace sm := sm.trans s22
    intro y23 d23 m23 n23 o23
    refine made_P 0 (by decide) t21 t22 ⟨by first | omega | (simp only [G.dep]; omega), by first | omega | (simp only [G.dep]; omega), by first | omega | (simp only [G.lv]; omega)⟩ m23 n23 fun H23 t23 s23 => ?_
    replace ta := ta.same s23
    replace tb := tb.same s23
    replace tc := tc.same s23
    replace t20 := t20.same s23
    replace hL := s23 _ _ hL
    replace sm := sm.trans s23
    refine ⟨_, rfl, ?_⟩
    refine ⟨(.pair 1 a (.pair 0 b c)), (.pair 0 (.pair 1 a b) (.pair 1 a c)), _, _, L, ws, rfl, t20, t23, by first | omega | (simp only [G.dep]; omega), by first | omega | (simp only [G.dep]; omega), hL, fun y hy => ⟨small y hy, ?_⟩, fun H24 s24 => ?_⟩
    · show (a.val y || (b.val y && c.val y)) = ((a.val y || b.val y) && (a.val y || c.val y))
      cases a.val y <;> cases b.val y <;> cases c.val y <;> rfl
    replace ta := ta.same s24
    replace tb := tb.same s24
    replace tc := tc.same s24
    replace hL := s24 _ _ hL
    replace sm := sm.trans s24
    exact q _ sm
end
end LA
end
section
set_option Elab.async false
set_option linter.all false
set_option maxRecDepth 100000
set_option maxHeartbeats 8000000
namespace LA
open PySem L2 XS XT
/-! ### the mathematics of k02 -/
theorem cod_suf (y : Str) (k : Nat) (hk : k ≤ y.length) : cod (cutS y (some (k : Int)) none) = (cod y).drop k := by
  show ((((cod y).drop (HT.sIx y.length 0 (some (k : Int)))).take (HT.sIx y.length y.length none - HT.sIx y.length 0 (some (k : Int)))).toArray).toList = _
  rw [HT.sIx_nat, HT.sIx_none, Nat.min_eq_left hk]
  show ((cod y).drop k).take (y.length - k) = _
  rw [List.take_of_length_le]
  rw [List.length_drop, len_cod]
  exact Nat.le_refl _
theorem starts_iff (y z : Str) : Txt.startswith y z = decide ((cod y).take z.length = cod z) := by
  rw [begins_law]
  have e : cod (cutS y none (some (z.length : Int))) = (cod y).take z.length := cod_pre y z.length
  by_cases h : (cod y).take z.length = cod z
  · rw [decide_eq_true h, decide_eq_true]
    rw [cod_ext (e.trans h)]
  · rw [decide_eq_false h, decide_eq_false]
    intro q
    injection q with q
    exact h (by rw [← e, q])
theorem ends_iff (y z : Str) : Txt.endswith y z = (decide (z.length ≤ y.length) && decide ((cod y).drop (y.length - z.length) = cod z)) := by
  by_cases hl : z.length ≤ y.length
  · rw [ends_law hl, decide_eq_true hl, Bool.true_and]
    have e0 : (y.length : Int) - (z.length : Int) = ((y.length - z.length : Nat) : Int) := by omega
    rw [e0]
    have e := cod_suf y (y.length - z.length) (by omega)
    by_cases h : (cod y).drop (y.length - z.length) = cod z
    · rw [decide_eq_true h, decide_eq_true]
      rw [cod_ext (e.trans h)]
    · rw [decide_eq_false h, decide_eq_false]
      intro q
      injection q with q
      exact h (by rw [← e, q])
  · rw [ends_short hl, decide_eq_false hl, Bool.false_and]
theorem ends_rev (y z : Str) : Txt.endswith y z = Txt.startswith (revS y) (revS z) := by
  rw [ends_iff, starts_iff, len_rev, cod_rev, cod_rev, List.take_reverse, len_cod]
  by_cases hl : z.length ≤ y.length
  · rw [decide_eq_true hl, Bool.true_and]
    by_cases h : (cod y).drop (y.length - z.length) = cod z
    · rw [decide_eq_true h, decide_eq_true (by rw [h])]
    · rw [decide_eq_false h, decide_eq_false (fun q => h (List.reverse_inj.mp q))]
  · rw [decide_eq_false hl, Bool.false_and, decide_eq_false]
    intro q
    have := congrArg List.length (List.reverse_inj.mp q)
    rw [List.length_drop, len_cod, len_cod] at this
    omega
theorem starts_suf (y z : Str) (k : Nat) (hk : k ≤ y.length) : Txt.startswith (cutS y (some (k : Int)) none) z = Builtin.Str.subAt y z k := by
  rw [starts_iff, cod_suf y k hk, StrLaws.subAt_eq]
  by_cases h : ((cod y).drop k).take z.length = cod z
  · rw [decide_eq_true h]
    symm
    rw [beq_iff_eq]
    exact h
  · rw [decide_eq_false h]
    symm
    rw [beq_eq_false_iff_ne]
    exact h
/-- the rests of y that begin with z -/
def kept (y z : Str) (n : Nat) : List Str := ((List.range n).filter fun k => Builtin.Str.subAt y z k).map fun (k : Nat) => cutS y (some (k : Int)) none
theorem has_rests {z y : Str} (hz : 0 < z.length) : hasB z y = !(kept y z (y.length + 1)).isEmpty := by
  rw [Bool.eq_iff_iff]
  unfold hasB kept
  rw [StrLaws.found_iff, List.isEmpty_map]
  refine ⟨fun ⟨i, h1, h2⟩ => ?_, fun h => ?_⟩
  · have mem : i ∈ (List.range (y.length + 1)).filter fun k => Builtin.Str.subAt y z k := List.mem_filter.mpr ⟨List.mem_range.mpr (by omega), h2⟩
    cases e : (List.range (y.length + 1)).filter fun k => Builtin.Str.subAt y z k with
    | nil => rw [e] at mem; cases mem
    | cons a b => rfl
  · obtain ⟨i, hi⟩ := List.exists_mem_of_ne_nil _ (show ((List.range (y.length + 1)).filter fun k => Builtin.Str.subAt y z k) ≠ [] from fun e => by
      rw [e] at h
      cases h)
    obtain ⟨h1, h2⟩ := List.mem_filter.mp hi
    have sz := StrLaws.subAt_size h2
    have lt := List.mem_range.mp h1
    exact ⟨i, by omega, h2⟩
theorem is_starts (y z : Str) : decide (V.str y = V.str z) = (Txt.startswith y z && decide ((y.length : Int) = (z.length : Int))) := by
  rw [starts_iff]
  by_cases h : y = z
  · subst h
    rw [decide_eq_true rfl, decide_eq_true (List.take_of_length_le (by rw [len_cod]; exact Nat.le_refl _)), decide_eq_true rfl]
    rfl
  · rw [decide_eq_false (fun q => h (by injection q))]
    symm
    rw [Bool.and_eq_false_iff]
    by_cases hl : (y.length : Int) = (z.length : Int)
    · left
      rw [decide_eq_false_iff_not]
      intro q
      rw [List.take_of_length_le (by rw [len_cod]; omega)] at q
      exact h (cod_ext q)
    · exact .inr (decide_eq_false hl)
theorem only_cut (z y : Str) (c : Nat) (hc : c ≤ y.length) : onlyB z y = (onlyB z (cutS y none (some (c : Int))) && onlyB z (cutS y (some (c : Int)) none)) := by
  unfold onlyB
  rw [cod_pre, cod_suf y c hc, ← List.all_append, List.take_append_drop]
/-! ### lists of texts -/
theorem dp_strs {K : PySem.W.Frag} {H : Hp} : ∀ ws : List Str, DpAll K H (ws.map V.str) (ws.map PyData.str)
  | [] => .nil
  | z :: r => .cons (.str z) (dp_strs r)
theorem ok_str {z : Str} (h : ∀ c ∈ cod z, Lt c) : PyData.strOk z = true := by
  show z.cps.all (· < 0x110000) = true
  rw [Array.all_eq_true_iff_forall_mem]
  intro c hc
  have := (h c (Array.mem_toList_iff.mpr hc)).2.1
  exact decide_eq_true (by omega)
theorem lay_strs : ∀ ws : List Str, (∀ z ∈ ws, ∀ c ∈ cod z, Lt c) → PyData.canLayAll0 (ws.map PyData.str) = true
  | [], _ => rfl
  | z :: r, h => by
    simp only [List.map, PyData.canLayAll0, PyData.canLay0, ok_str (h z (List.mem_cons_self ..)), lay_strs r (fun y hy => h y (List.mem_cons_of_mem _ hy)), Bool.and_self]
theorem deep_strs : ∀ ws : List Str, PyData.depthAll (ws.map PyData.str) = 0
  | [] => rfl
  | z :: r => by
    show max (PyData.depth (.str z)) (PyData.depthAll (r.map PyData.str)) = 0
    rw [deep_strs r]
    rfl
theorem shaped_strs (ws : List Str) (h : ∀ z ∈ ws, ∀ c ∈ cod z, Lt c) : SeqAt.shaped (.list (ws.map PyData.str)) = true := by
  unfold SeqAt.shaped
  have h1 : PyData.canLay0 (.list (ws.map PyData.str)) = true := by
    unfold PyData.canLay0
    exact lay_strs ws h
  have h2 : PyData.depth (.list (ws.map PyData.str)) ≤ 64 := by
    unfold PyData.depth
    rw [deep_strs]
    decide
  rw [h1, decide_eq_true h2]
  rfl
/-! ### rows of what belongs together -/
theorem pmono {α β : Type} {F F' : α → β → Prop} (k : ∀ a b, F a b → F' a b) : ∀ {gs : List α} {us : List β}, Paired F gs us → Paired F' gs us
  | _, _, .nil => .nil
  | _, _, .cons a b => .cons (k _ _ a) (pmono k b)
theorem all_words : ∀ {gs : List G} {ps : List (Addr × List V)}, Paired (fun g p => RW g p.2) gs ps → (ps.map (·.2)).flatten = (gs.flatMap G.words).map V.str
  | _, _, .nil => rfl
  | g :: gs, p :: ps, .cons a b => by
    rw [List.map_cons, List.flatten_cons, List.flatMap_cons, List.map_append, all_words b, show p.2 = g.words.map V.str from a]
theorem short_line {z : Str} (h : shortB z = true) : lineB z = true := by
  unfold shortB wordB at h
  exact (Bool.and_eq_true_iff.mp (Bool.and_eq_true_iff.mp h).1).1
theorem ga_words {H : Hp} : ∀ {g : G} {v : V}, GA H g v → g.wf → ∀ y ∈ g.words, lineB y = true ∧ y.length ≤ 100
  | .leaf s z, v, ⟨h, _⟩, ⟨w1, w2, w3, w4⟩, y, hy => by
    obtain rfl : y = z := by simpa [G.words] using hy
    refine ⟨?_, by omega⟩
    have e : s < 3 ∨ s = 3 ∨ s = 4 := by omega
    rcases e with e | e | e
    · exact short_line (w1 e)
    · exact (w2 e).1
    · exact (w3 e).1
  | .fails g, v, ⟨p, u, e, hp, hu⟩, wf, y, hy => ga_words hu wf y hy
  | .pair s a b, v, ⟨h, p, u1, u2, e, hp, h1, h2⟩, wf, y, hy => by
    rcases List.mem_append.mp hy with z | z
    · exact ga_words h1 wf.1 y z
    · exact ga_words h2 wf.2 y z
/-- a drawn plain test -/
structure GD (H : Hp) (g : G) (v : V) : Prop where
  ga : GA H g v
  wf : g.wf
  dep : g.dep ≤ 3
  lv : g.lv ≤ 2
theorem GD.mono {H H' : Hp} {g : G} {v : V} (h : GD H g v) (k : GA H g v → GA H' g v) : GD H' g v := ⟨k h.ga, h.wf, h.dep, h.lv⟩
theorem gd_words {H : Hp} : ∀ {gs : List G} {vs : List V}, Paired (GD H) gs vs → (gs.flatMap G.words).length ≤ 2 * gs.length ∧ ∀ y ∈ gs.flatMap G.words, lineB y = true ∧ y.length ≤ 100
  | _, _, .nil => ⟨Nat.le_refl 0, fun y h => absurd h (by simp)⟩
  | g :: gs, v :: vs, .cons a b => by
    obtain ⟨l, m⟩ := gd_words b
    rw [List.flatMap_cons]
    have := words_len g
    have := a.lv
    refine ⟨by rw [List.length_append, List.length_cons]; omega, fun y hy => ?_⟩
    rcases List.mem_append.mp hy with h | h
    · exact ga_words a.ga a.wf y h
    · exact m y h
theorem GA.put {Z : Hp} {D : Addr} {l l' : List V} (h : Z D = some (.lst l)) {g : G} {v : V} (t : GA Z g v) : GA (upd Z D (.lst l')) g v :=
  t.keep fun a xs e => by
    rw [upd_ne (ne_of e h (by intro z; cases z))]
    exact e
theorem TA.put {C : Nat → Addr} {Z : Hp} {D : Addr} {l l' : List V} (h : Z D = some (.lst l)) {g : G} {v : V} (t : TA C Z g v) : TA C (upd Z D (.lst l')) g v :=
  t.keep fun a E dx fs e => by
    rw [upd_ne (ne_of e h (by intro z; cases z))]
    exact e
theorem kept_succ (y z : Str) (n : Nat) : kept y z (n + 1) = kept y z n ++ (if Builtin.Str.subAt y z n = true then [cutS y (some (n : Int)) none] else []) := by
  unfold kept
  rw [List.range_succ, List.filter_append, List.map_append]
  congr 1
  cases h : Builtin.Str.subAt y z n <;> simp [List.filter_cons, h]
theorem kept_len (y z : Str) (n : Nat) : (kept y z n).length ≤ n := by
  unfold kept
  rw [List.length_map]
  exact Nat.le_trans (List.length_filter_le _ _) (by rw [List.length_range]; exact Nat.le_refl _)
theorem kept_lets {y z : Str} {n : Nat} (h : ∀ c ∈ cod y, Lt c) : ∀ x ∈ kept y z n, ∀ c ∈ cod x, Lt c := by
  intro x hx c hc
  unfold kept at hx
  obtain ⟨k, _, rfl⟩ := List.mem_map.mp hx
  exact h c (cut_mem hc)
end LA
end
section
set_option Elab.async false
set_option linter.all false
set_option maxRecDepth 100000
set_option maxHeartbeats 8000000
namespace LA
open PySem L2 XS XT XK
abbrev sLaw : Stmt := top 48
abbrev lawN : List Str := ["_law_script", "_law_pen_here", "_law_turn", "_law_signs_here", "_law_goals", "_law_words", "_law_rows", "_law_first", "_law_second", "_law_third", "_law_word", "_law_row_here", "_law_rests", "_law_letters", "_law_cut", "_law_k", "_law_goal_here", "_law_rest"]
section
variable {P : Program} {w : World} {K : PySem.W.Frag} {mg : Str → Option Value} {base : Heap} {C fi h : Nat → Addr} {fdi fh : Nat → FuncData}
theorem scLaw : FnScope lawN ["_law_script"] (defScope sLaw) := ⟨rfl, rfl, rfl, by decide +kernel, rfl, by decide +kernel, by decide +kernel⟩
structure LawT (mg : Str → Option Value) : Prop where
  ran : mg "range" = none
  len : mg "len" = none
  sum : mg "sum" = none
  srt : mg "sorted" = none
  set : mg "set" = none
/-- the defs that the law calls -/
structure LawC (P : Program) (w : World) (K : PySem.W.Frag) (mg : Str → Option Value) (base : Heap) (C : Nat → Addr) (a : Nat → Addr) (fd : Nat → FuncData) : Prop where
  pen : CallOf P w K mg base 1 "_law_pen" ["_law_script"] (spPen K) (a 0) (fd 0)
  few : CallOf P w K mg base 3 "_law_few" ["_law_pen_here"] spFew (a 1) (fd 1)
  jl : CallOf P w K mg base 7 "_law_jlight" ["_law_pen_here", "_law_signs_here", "_law_most_leaves", "_law_wide"] spJlight (a 2) (fd 2)
  mkg : CallOf P w K mg base 19 "_law_made_goal" ["_law_goal_here"] (spMG C 3) (a 3) (fd 3)
  jw : CallOf P w K mg base 4 "_law_jwords" ["_law_goal_here"] (spJ RW 3) (a 4) (fd 4)
  jn : CallOf P w K mg base 4 "_law_jline" ["_law_pen_here", "_law_words", "_law_signs_here", "_law_most_letters"] spJline (a 5) (fd 5)
  ru : CallOf P w K mg base 16 "_law_rules_right" ["_law_a", "_law_b", "_law_c", "_law_rows"] (spRules C) (a 6) (fd 6)
  row : CallOf P w K mg base 3 "_law_row" ["_law_pen_here", "_law_signs_here", "_law_least", "_law_most_letters"] spRow (a 7) (fd 7)
  draw : CallOf P w K mg base 1 "_law_draw" ["_law_pen_here", "_law_span"] spDraw (a 8) (fd 8)
def spLaw (K : PySem.W.Frag) : Sp := fun vs H Q _ => ∃ (a : Addr) (ns : List Int), vs = [.ref a] ∧ SqL K H a (ns.map V.int) ∧ ns.length ≤ 63 ∧ ∀ H', Q (.bl true) H'
theorem ok_law {f : Addr} {fd : FuncData} {a : Nat → Addr} {fa : Nat → FuncData} (F : Fun K "law" "law" sLaw f fd) (Q0 : LawT mg) (M : LawC P w K mg base C a fa) (N : NamT mg C) (k0 : KC K C) (MK : Makers P w K mg base C fi fdi) (HM : HoldT K C h fh) (AH : AllHold P w K mg base C h fh 5) : AtCaller P w K mg base CX0 20 f fd ["_law_script"] (spLaw K) := by
  refine atCaller F scLaw (fun vs H Q E h => ?_) (fun cdv outer s H vs Q E hr h => ?_)
  · obtain ⟨a, ns, rfl, _⟩ := h
    rfl
  · obtain ⟨a, ns, rfl, hS, hl, k⟩ := h
    have hu6 := hr.units
    have hr19 : Room 19 _ := hr.mono (by decide)
    have hr16 : Room 16 _ := hr.mono (by decide)
    have hr7 : Room 7 _ := hr.mono (by decide)
    have hr6 : Room 6 _ := hr.mono (by decide)
    have hr4 : Room 4 _ := hr.mono (by decide)
    have hr3 : Room 3 _ := hr.mono (by decide)
    have hr1 : Room 1 _ := hr.mono (by decide)
    refine ⟨_, (pss_cons (by exact (ps_set (i := 1) scLaw.nd rfl (Or.inr rfl) (pe_call M.pen.ok hr1 rfl M.pen.m M.pen.k M.pen.b .nil pass0 (pa_cons (pv 0) pa_nil)))) (pss_cons (by exact (ps_for PassesOwn.never rfl (pi_range1 rfl Q0.ran (pa_cons pe_int pa_nil)) (pg_name (i := 2) scLaw.nd rfl (Or.inl rfl)) (pss_cons (by exact (ps_set (i := 3) scLaw.nd rfl (Or.inr rfl) (pe_call M.few.ok hr3 rfl M.few.m M.few.k M.few.b .nil pass0 (pa_cons (pv 1) pa_nil)))) (pss_cons (by exact (ps_setLc (i := 4) (own := [("_law_k", 15)]) (g := gName 15) (tt := tYes) (te := tCall spJlight [] (fun _ _ _ => False) (tCons (tVar 1) (tCons (tVar 3) (tCons (tC (.int 2)) (tCons (tC (.int 2)) tNil))))) rfl scLaw.nd rfl rfl (sw_true rfl rfl rfl (by decide +kernel)) (pi_range1 rfl Q0.ran (pa_cons pe_int pa_nil)) (blkOk_by (N := lawN) (sc := defScope sLaw) (by decide +kernel)) (fun _ _ _ _ _ => by exact (pg_name (i := 15) scLaw.nd rfl (Or.inl rfl))) (fun _ _ _ _ _ => by exact pts_nil) (fun _ _ _ _ _ => by exact (pe_call M.jl.ok hr7 rfl M.jl.m M.jl.k M.jl.b .nil pass0 (pa_cons (pv 1) (pa_cons (pv 3) (pa_cons pe_int (pa_cons pe_int pa_nil)))))))) (pss_cons (by exact (ps_set (i := 5) scLaw.nd rfl (Or.inr rfl) (pe_callB (cr_sumL rfl) (by rfl) Q0.sum (by decide +kernel) (pa_cons (pe_lc (own := [("_law_goal_here", 16)]) (g := gName 16) (tt := tYes) (te := tCall (spJ RW 3) [] (fun _ _ _ => False) (tCons (tVar 16) tNil)) rfl scLaw.nd (pi_list (pv 4)) (blkOk_by (N := lawN) (sc := defScope sLaw) (by decide +kernel)) (fun _ _ _ _ _ => by exact (pg_name (i := 16) scLaw.nd rfl (Or.inl rfl))) (fun _ _ _ _ _ => by exact pts_nil) (fun _ _ _ _ _ => by exact (pe_call M.jw.ok hr4 rfl M.jw.m M.jw.k M.jw.b .nil pass0 (pa_cons (pv 16) pa_nil)))) (pa_cons (pe_lst pa_nil) pa_nil))))) (pss_cons (by exact (ps_setLc (i := 6) (own := [("_law_k", 15)]) (g := gName 15) (tt := tYes) (te := tCall spJline [] (fun _ _ _ => False) (tCons (tVar 1) (tCons (tVar 5) (tCons (tVar 3) (tCons (tC (.int 12)) tNil))))) rfl scLaw.nd rfl rfl (sw_true rfl rfl rfl (by decide +kernel)) (pi_range1 rfl Q0.ran (pa_cons pe_int pa_nil)) (blkOk_by (N := lawN) (sc := defScope sLaw) (by decide +kernel)) (fun _ _ _ _ _ => by exact (pg_name (i := 15) scLaw.nd rfl (Or.inl rfl))) (fun _ _ _ _ _ => by exact pts_nil) (fun _ _ _ _ _ => by exact (pe_call M.jn.ok hr4 rfl M.jn.m M.jn.k M.jn.b .nil pass0 (pa_cons (pv 1) (pa_cons (pv 5) (pa_cons (pv 3) (pa_cons pe_int pa_nil)))))))) (pss_cons (by exact (ps_asg (pe_lc (own := [("_law_goal_here", 16)]) (g := gName 16) (tt := tYes) (te := tCall (spMG C 3) [] (fun _ _ _ => False) (tCons (tVar 16) tNil)) rfl scLaw.nd (pi_list (pv 4)) (blkOk_by (N := lawN) (sc := defScope sLaw) (by decide +kernel)) (fun _ _ _ _ _ => by exact (pg_name (i := 16) scLaw.nd rfl (Or.inl rfl))) (fun _ _ _ _ _ => by exact pts_nil) (fun _ _ _ _ _ => by exact (pe_call M.mkg.ok hr19 rfl M.mkg.m M.mkg.k M.mkg.b .nil pass0 (pa_cons (pv 16) pa_nil)))) (pg_lst rfl (pgs_cons (pg_name (i := 7) scLaw.nd rfl (Or.inl rfl)) (pgs_cons (pg_name (i := 8) scLaw.nd rfl (Or.inl rfl)) (pgs_cons (pg_name (i := 9) scLaw.nd rfl (Or.inl rfl)) pgs_nil)))))) (pss_cons (by exact (ps_if (pt_not (pt_val (pe_call M.ru.ok hr16 rfl M.ru.m M.ru.k M.ru.b .nil pass0 (pa_cons (pv 7) (pa_cons (pv 8) (pa_cons (pv 9) (pa_cons (pv 6) pa_nil))))))) pss_never pss_nil)) (pss_cons (by exact (ps_set (i := 10) scLaw.nd rfl (Or.inr rfl) (pe_call M.row.ok hr3 rfl M.row.m M.row.k M.row.b .nil pass0 (pa_cons (pv 1) (pa_cons (pv 3) (pa_cons pe_int (pa_cons pe_int pa_nil))))))) (pss_one (by exact (ps_for PassesOwn.never rfl (pi_list (pv 6)) (pg_name (i := 11) scLaw.nd rfl (Or.inr rfl)) (pss_cons (by exact (ps_setLc (i := 12) (own := [("_law_k", 15)]) (g := gName 15) (tt := tYes) (te := tSl rSlS (tVar 11) (tPart (tVar 15)) tNoPart) rfl scLaw.nd rfl rfl (sw_true rfl rfl rfl (by decide +kernel)) (pi_range1 rfl Q0.ran (pa_cons (pe_op op_add (pe_callB call_len_str (by rfl) Q0.len PySem.boot_len (pa_cons (pv 11) pa_nil)) pe_int) pa_nil)) (blkOk_by (N := lawN) (sc := defScope sLaw) (by decide +kernel)) (fun _ _ _ _ _ => by exact (pg_name (i := 15) scLaw.nd rfl (Or.inl rfl))) (fun _ _ _ _ _ => by exact pts_nil) (fun _ _ _ _ _ => by exact (pe_slice sl_str (pv 11) (po_some (pv 15)) po_none)))) (pss_cons (by exact (ps_if (pt_cmpR op_ne (pe_meth (pe_make MK.m0.made MK.m0.ok hr7 rfl N.n0 MK.m0.b .nil pass0 (pa_cons (pv 10) pa_nil)) (k0.cls 0 (by decide)) (HM.m 0) (AH 0) hr6 (HM.b 0) .nil pass0 (pa_cons (pv 11) pa_nil)) (pe_cmpR (op_neD hu6) (pe_lc (own := [("_law_rest", 17)]) (g := gName 17) (tt := tTest (tMeth (C 1) "holds" (spHold C 1 5) [] (fun _ _ _ => False) (tMake (C 1) (spInit1 (C 1) "_word" fun z => shortB z = true) [] (fun _ _ _ => False) (tCons (tVar 10) tNil)) (tCons (tVar 17) tNil))) (te := (tVar 17)) rfl scLaw.nd (pi_list (pv 12)) (blkOk_by (N := lawN) (sc := defScope sLaw) (by decide +kernel)) (fun _ _ _ _ _ => by exact (pg_name (i := 17) scLaw.nd rfl (Or.inl rfl))) (fun _ _ _ _ _ => by exact (pts_one (pt_val (pe_meth (pe_make MK.m1.made MK.m1.ok hr7 rfl N.n1 MK.m1.b .nil pass0 (pa_cons (pv 10) pa_nil)) (k0.cls 1 (by decide)) (HM.m 1) (AH 1) hr6 (HM.b 1) .nil pass0 (pa_cons (pv 17) pa_nil))))) (fun _ _ _ _ _ => by exact (pv 17))) (pe_lst pa_nil) (nomark _)) (nomark _)) pss_never pss_nil)) (pss_cons (by exact (ps_if (pt_cmpR op_ne (pe_meth (pe_make MK.m2.made MK.m2.ok hr7 rfl N.n2 MK.m2.b .nil pass0 (pa_cons (pv 10) pa_nil)) (k0.cls 2 (by decide)) (HM.m 2) (AH 2) hr6 (HM.b 2) .nil pass0 (pa_cons (pv 11) pa_nil)) (pe_meth (pe_make MK.m1.made MK.m1.ok hr7 rfl N.n1 MK.m1.b .nil pass0 (pa_cons (pe_revS (pv 10)) pa_nil)) (k0.cls 1 (by decide)) (HM.m 1) (AH 1) hr6 (HM.b 1) .nil pass0 (pa_cons (pe_revS (pv 11)) pa_nil)) (nomark _)) pss_never pss_nil)) (pss_cons (by exact (ps_if (pt_cmpR op_ne (pe_meth (pe_make MK.m3.made MK.m3.ok hr7 rfl N.n3 MK.m3.b .nil pass0 (pa_cons (pv 10) pa_nil)) (k0.cls 3 (by decide)) (HM.m 3) (AH 3) hr6 (HM.b 3) .nil pass0 (pa_cons (pv 11) pa_nil)) (pe_and (pe_meth (pe_make MK.m1.made MK.m1.ok hr7 rfl N.n1 MK.m1.b .nil pass0 (pa_cons (pv 10) pa_nil)) (k0.cls 1 (by decide)) (HM.m 1) (AH 1) hr6 (HM.b 1) .nil pass0 (pa_cons (pv 11) pa_nil)) (pe_one (pe_cmpR op_eq (pe_callB call_len_str (by rfl) Q0.len PySem.boot_len (pa_cons (pv 11) pa_nil)) (pe_callB call_len_str (by rfl) Q0.len PySem.boot_len (pa_cons (pv 10) pa_nil)) (nomark _)))) (nomark _)) pss_never pss_nil)) (pss_cons (by exact (ps_par (i := 13) (j := 14) (by rfl) scLaw.nd rfl rfl (by decide) rfl rfl (pa_cons (pe_join pe_str (pe_sortSet rfl (by rfl) Q0.srt (by rfl) Q0.set (by decide +kernel) (pv 10))) (pa_cons (pe_call M.draw.ok hr1 rfl M.draw.m M.draw.k M.draw.b .nil pass0 (pa_cons (pv 1) (pa_cons (pe_op op_add (pe_callB call_len_str (by rfl) Q0.len PySem.boot_len (pa_cons (pv 11) pa_nil)) pe_int) pa_nil))) pa_nil)) (by rfl))) (pss_one (by exact (ps_if (pt_cmpR op_ne (pe_meth (pe_make MK.m4.made MK.m4.ok hr7 rfl N.n4 MK.m4.b .nil pass0 (pa_cons (pv 13) pa_nil)) (k0.cls 4 (by decide)) (HM.m 4) (AH 4) hr6 (HM.b 4) .nil pass0 (pa_cons (pv 11) pa_nil)) (pe_and (pe_meth (pe_make MK.m4.made MK.m4.ok hr7 rfl N.n4 MK.m4.b .nil pass0 (pa_cons (pv 13) pa_nil)) (k0.cls 4 (by decide)) (HM.m 4) (AH 4) hr6 (HM.b 4) .nil pass0 (pa_cons (pe_slice sl_str (pv 11) po_none (po_some (pv 14))) pa_nil)) (pe_one (pe_meth (pe_make MK.m4.made MK.m4.ok hr7 rfl N.n4 MK.m4.b .nil pass0 (pa_cons (pv 13) pa_nil)) (k0.cls 4 (by decide)) (HM.m 4) (AH 4) hr6 (HM.b 4) .nil pass0 (pa_cons (pe_slice sl_str (pv 11) (po_some (pv 14)) po_none) pa_nil)))) (nomark _)) pss_never pss_nil)))))))))))))))))))) (pss_one (by exact (ps_ret pe_bl))))), ?_⟩
    refine ⟨_, rfl, a, ns, rfl, hS, hl, fun d c ms H1 pen1 sm1 nd nc => ?_⟩
    refine ⟨8, rfl, by decide, by decide, for_range (lo := 0) (n := 8) (fun i σ X => ∃ x2 x3 x4 x5 x6 x7 x8 x9 x10 x11 x12 x13 x14 x15 x16 x17 : Option V, σ = [some (.ref a), some (.ref d), x2, x3, x4, x5, x6, x7, x8, x9, x10, x11, x12, x13, x14, x15, x16, x17] ∧ PenAt X d c (500 * i) ms) ⟨_, _, _, _, _, _, _, _, _, _, _, _, _, _, _, _, rfl, pen1.le (by omega)⟩ (fun i σ X hi pv0 => ?_) (fun σ X pv0 => ?_)⟩
    · obtain ⟨x2, x3, x4, x5, x6, x7, x8, x9, x10, x11, x12, x13, x14, x15, x16, x17, rfl, penX⟩ := pv0
      refine ⟨_, rfl, d, c, 500 * i, ms, rfl, penX, by omega, fun z H2 sz pen2 bb2 => ?_⟩
      clear penX bb2
      -- the plain tests
      refine ⟨3, rfl, by decide, by decide, fun D4 nD4 => ?_⟩
      obtain ⟨n4d, n4c⟩ := pen2.fresh nD4
      refine lc_range (fun j Y => ∃ (gs : List G) (vs : List V), Y D4 = some (.lst vs) ∧ gs.length = j ∧ Paired (GD Y) gs vs ∧ PenAt Y d c (500 * i + 4 + 42 * j) ms) ⟨[], [], upd_same, rfl, .nil, (pen2.keep (same_upd nD4)).le (by omega)⟩ (fun j Y hj p => ?_) (fun X1 p => ?_)
      · obtain ⟨gs, vs, pD, gl, pp, pP⟩ := p
        refine ⟨rfl, ?_⟩
        dsimp only [tYes]
        rw [if_pos rfl]
        have pP0 := pP
        obtain ⟨kvs, _, _, pk⟩ := pP0
        have j3 : j < 3 := by omega
        refine ⟨_, rfl, _, rfl, d, c, 500 * i + 4 + 42 * j, ms, z, rfl, pP, by omega, sz, fun v g Z hg wf dg lg penZ bbZ => ?_⟩
        have zD := bbZ _ _ pD n4d
        refine ⟨vs, zD, Nat.lt_of_le_of_lt (by rw [← pp.length, gl]; omega : _ ≤ 3) (by decide), gs ++ [g], vs ++ [v], upd_same, by rw [List.length_append, gl]; rfl, ?_, (penZ.put n4d n4c).le (by omega)⟩
        exact (pmono (fun a b h => h.mono fun t => GA.put zD (t.but bbZ pk.dc)) pp).snoc ⟨GA.put zD hg, wf, dg, lg⟩
      · obtain ⟨gs, vs, pD, gl, pp, pP⟩ := p
        replace gl : gs.length = 3 := gl
        replace pP : PenAt X1 d c (500 * i + 130) ms := pP.le (by omega)
        have vl : vs.length = 3 := by rw [← pp.length, gl]
        -- their words
        refine ⟨_, rfl, D4, rfl, ⟨_, SqL.of pD⟩, fun D5 nD5 => ?_⟩
        refine lc_it (walk_list (xs := vs)) (fun j Y => ∃ ps : List (Addr × List V), Y D5 = some (.lst (ps.map fun p => .ref p.1)) ∧ (∀ p ∈ ps, p.1 ≠ D5 ∧ Y p.1 = some (.lst p.2)) ∧ Paired (fun g p => RW g p.2) (gs.take j) ps ∧ Same X1 Y) ⟨[], upd_same, (fun p hp => absurd hp (by simp)), by rw [List.take_zero]; exact .nil, same_upd nD5⟩ (fun j Y _ ⟨_, _, _, _, e⟩ => SqL.of (e _ _ pD)) (fun j x Y Y' hj p yl => ?_) (fun Y p => ?_)
        · obtain ⟨ps, qD, qa, qq, qS⟩ := p
          obtain ⟨rfl, hx⟩ := yl
          obtain ⟨g, hg, gg⟩ := pget pp hx
          refine ⟨rfl, ?_⟩
          dsimp only [tYes]
          rw [if_pos rfl]
          have lg := gg.lv
          refine ⟨_, rfl, g, _, rfl, gg.ga.same qS, gg.dep, by omega, fun L xs Z rx hL nL s2 => ?_⟩
          have nLD : L ≠ D5 := fun e => by rw [e, qD] at nL; cases nL
          have lps : ps.length ≤ 3 := by
            rw [← qq.length, ← gl]
            exact List.length_take_le' _ _
          refine ⟨_, s2 _ _ qD, Nat.lt_of_le_of_lt (by rw [List.length_map]; exact lps) (by decide), ps ++ [(L, xs)], ?_, ?_, ?_, ?_⟩
          · rw [List.map_append]
            exact upd_same
          · intro p3 h3
            rcases List.mem_append.mp h3 with h3 | h3
            · obtain ⟨n3, e3⟩ := qa p3 h3
              exact ⟨n3, by rw [upd_ne n3]; exact s2 _ _ e3⟩
            · rw [List.mem_singleton] at h3
              subst h3
              exact ⟨nLD, by rw [upd_ne nLD]; exact hL⟩
          · rw [List.take_succ, hg]
            exact qq.snoc rx
          · intro b o e
            rw [upd_ne (ne_of_none e nD5)]
            exact s2 _ _ (qS b o e)
        · obtain ⟨ps, qD, qa, qq, qS⟩ := p
          have ek : gs.take vs.length = gs := List.take_of_length_le (by rw [vl, gl]; exact Nat.le_refl _)
          rw [ek] at qq
          obtain ⟨wl, wgood⟩ := gd_words pp
          have flat := all_words qq
          generalize gs.flatMap G.words = ws at wl wgood flat
          rw [gl] at wl
          refine ⟨(by show 0 ≤ sizeLine; decide), fun Z0 nZ0 => ?_⟩
          have sZ := same_upd (o := .lst []) nZ0
          refine ⟨D5, Z0, ps, [], rfl, sZ _ _ qD, upd_same, by rw [← qq.length, gl]; decide, fun p hp => sZ _ _ (qa p hp).2, ?_, fun r nr => ?_⟩
          · show 0 + _ ≤ sizeLine
            rw [flat, List.length_map]
            exact Nat.le_trans (by omega : 0 + ws.length ≤ 6) (by decide)
          rw [flat]
          have sr := same_upd (o := .lst ([] ++ ws.map V.str)) nr
          have hW : (upd (upd Y Z0 (.lst [])) r (.lst ([] ++ ws.map V.str))) r = some (.lst (ws.map V.str)) := upd_same
          have S3 := (qS.trans sZ).trans sr
          generalize upd (upd Y Z0 (.lst [])) r (.lst ([] ++ ws.map V.str)) = X3 at hW S3
          have P3 := pP.keep S3
          have hgs : Paired (GD X3) gs vs := pmono (fun a b h => h.mono fun t => t.same S3) pp
          have hD4 := S3 _ _ pD
          clear qq qa qS sZ sr pp pD pP nZ0 nr flat nD5 qD
          have nrd : r ≠ d := by
            obtain ⟨kvs, _, _, pk⟩ := P3
            exact ne_of hW pk.dc (by intro e; cases e)
          have n4d' : D4 ≠ d := n4d
          -- the lines
          refine ⟨12, rfl, by decide, by decide, fun D6 nD6 => ?_⟩
          obtain ⟨n6d, n6c⟩ := P3.fresh nD6
          have n64 : D4 ≠ D6 := ne_of_none hD4 nD6
          have n6r : r ≠ D6 := ne_of_none hW nD6
          refine lc_range (fun j Y => ∃ ys : List Str, Y D6 = some (.lst (ys.map V.str)) ∧ ys.length = j ∧ (∀ y ∈ ys, lineB y = true ∧ y.length ≤ 12) ∧ PenAt Y d c (500 * i + 130 + 25 * j) ms ∧ But d X3 Y) ⟨[], upd_same, rfl, (fun y hy => absurd hy (by simp)), (P3.keep (same_upd nD6)).le (by omega), But.same (same_upd nD6)⟩ (fun j Y hj p => ?_) (fun X4 p => ?_)
          · obtain ⟨ys, qD, yl, ya, pP, bb⟩ := p
            have j12 : j < 12 := by omega
            refine ⟨rfl, ?_⟩
            dsimp only [tYes]
            rw [if_pos rfl]
            refine ⟨_, rfl, _, rfl, _, rfl, d, c, r, 500 * i + 130 + 25 * j, ms, ws, z, rfl, pP, by omega, bb _ _ hW nrd, by omega, wgood, sz, fun y Z ly y12 penZ bbZ => ?_⟩
            refine ⟨_, bbZ _ _ qD n6d, Nat.lt_of_le_of_lt (by rw [List.length_map, yl]; omega : _ ≤ 12) (by decide), ys ++ [y], ?_, by rw [List.length_append, yl]; rfl, ?_, (penZ.put n6d n6c).le (by omega), (bb.trans bbZ).put nD6⟩
            · rw [List.map_append]
              exact upd_same
            · intro y' hy'
              rcases List.mem_append.mp hy' with h | h
              · exact ya y' h
              · rw [List.mem_singleton] at h
                subst h
                exact ⟨ly, y12⟩
          · obtain ⟨ys, qD, yl, ya, pP, bb⟩ := p
            replace yl : ys.length = 12 := yl
            replace pP : PenAt X4 d c (500 * i + 430) ms := pP.le (by omega)
            have P30 := P3
            obtain ⟨kvs, _, _, pk⟩ := P30
            have hgs4 : Paired (GD X4) gs vs := pmono (fun a b h => h.mono fun t => t.but bb pk.dc) hgs
            have hD44 := bb _ _ hD4 n4d
            clear hgs hD4 P3 hW S3 bb pk
            -- the program's tests
            refine ⟨_, rfl, D4, rfl, ⟨_, SqL.of hD44⟩, fun D7 nD7 => ?_⟩
            refine lc_it (walk_list (xs := vs)) (fun j Y => ∃ us : List V, Y D7 = some (.lst us) ∧ Paired (fun g u => TA C Y g u) (gs.take j) us ∧ Same X4 Y) ⟨[], upd_same, by rw [List.take_zero]; exact .nil, same_upd nD7⟩ (fun j Y _ ⟨_, _, _, e⟩ => SqL.of (e _ _ hD44)) (fun j x Y Y' hj p yl2 => ?_) (fun X5 p => ?_)
            · obtain ⟨us, uD, uu, uS⟩ := p
              obtain ⟨rfl, hx⟩ := yl2
              obtain ⟨g, hg, gg⟩ := pget hgs4 hx
              refine ⟨rfl, ?_⟩
              dsimp only [tYes]
              rw [if_pos rfl]
              have lg := gg.lv
              have dg := gg.dep
              refine ⟨_, rfl, g, _, rfl, gg.ga.same uS, gg.wf, dg, by omega, by omega, fun u Z tu sZ => ?_⟩
              have zD := sZ _ _ uD
              have lus : us.length ≤ 3 := by
                rw [← uu.length, ← gl]
                exact List.length_take_le' _ _
              refine ⟨us, zD, Nat.lt_of_le_of_lt lus (by decide), us ++ [u], upd_same, ?_, ?_⟩
              · rw [List.take_succ, hg]
                exact (pmono (fun a b h => TA.put zD (h.same sZ)) uu).snoc (TA.put zD tu)
              · intro b o e
                rw [upd_ne (ne_of_none e nD7)]
                exact sZ _ _ (uS b o e)
            · obtain ⟨us, uD, uu, uS⟩ := p
              have ek : gs.take vs.length = gs := List.take_of_length_le (by rw [vl, gl]; exact Nat.le_refl _)
              rw [ek] at uu
              have pP5 := pP.keep uS
              have hD6 := uS _ _ qD
              obtain ⟨g1, g2, g3, rfl⟩ : ∃ g1 g2 g3, gs = [g1, g2, g3] := by
                match gs, gl with
                | [g1, g2, g3], _ => exact ⟨g1, g2, g3, rfl⟩
              obtain ⟨u1, u2, u3, rfl, t1, t2, t3⟩ : ∃ u1 u2 u3, us = [u1, u2, u3] ∧ TA C X5 g1 u1 ∧ TA C X5 g2 u2 ∧ TA C X5 g3 u3 := by
                cases uu with
                | cons a b =>
                  cases b with
                  | cons b e =>
                    cases e with
                    | cons e f =>
                      cases f
                      exact ⟨_, _, _, rfl, a, b, e⟩
              obtain ⟨d1, d2, d3, l1, l2, l3⟩ : g1.dep ≤ 3 ∧ g2.dep ≤ 3 ∧ g3.dep ≤ 3 ∧ g1.lv ≤ 2 ∧ g2.lv ≤ 2 ∧ g3.lv ≤ 2 := by
                cases hgs4 with
                | cons a b =>
                  cases b with
                  | cons b e =>
                    cases e with
                    | cons e f => exact ⟨a.dep, b.dep, e.dep, a.lv, b.lv, e.lv⟩
              clear hgs4 hD44 qD uu pP
              refine ⟨D7, _, rfl, SqL.of uD, rfl, _, _, rfl, _, _, rfl, _, _, rfl, rfl, ?_⟩
              -- the rules
              refine ⟨_, rfl, _, rfl, _, rfl, _, rfl, g1, g2, g3, u1, u2, u3, D6, ys, rfl, t1, t2, t3, ⟨d1, d2, d3⟩, ⟨l1, l2, l3⟩, hD6, fun y hy => Nat.lt_of_le_of_lt (ya y hy).2 (by decide), fun X6 s6 => ⟨_, rfl, iteF ?_⟩⟩
              have pP6 := pP5.keep s6
              have hD66 := s6 _ _ hD6
              clear pP5 hD6 uD t1 t2 t3 uS
              -- the word
              refine ⟨_, rfl, _, rfl, d, c, 500 * i + 430, ms, z, 1, 3, rfl, pP6, by omega, by have := sz.two; omega, by have := sz.three; omega, by decide, by decide, fun wd X7 sub w1 w3 pP7 bb7 => ?_⟩
              have n6d7 : D6 ≠ d := n6d
              have hD67 := bb7 _ _ hD66 n6d
              clear pP6 hD66 bb7
              have wl1 : 1 ≤ wd.length := by omega
              have wl3 : wd.length ≤ 3 := by omega
              have sw : shortB wd = true := short_of sub sz wl1 (by omega)
              have lw : lineB wd = true := short_line sw
              have wdL : wd.length ≤ sizeLine := Nat.le_trans wl3 (by decide)
              have lr : ∀ x ∈ cod (revS wd), x ∈ cod z := fun x hx => sub x (by rw [cod_rev] at hx; exact List.mem_reverse.mp hx)
              have swr : shortB (revS wd) = true := short_of lr sz (by rw [len_rev]; exact wl1) (by rw [len_rev]; omega)
              refine ⟨_, rfl, D6, rfl, ⟨_, SqL.of hD67⟩, ?_⟩
              refine for_list (K := K) (a := D6) (xs := ys.map V.str) (fun n σ Z => ∃ x11 x12 x13 x14 : Option V, σ = [some (.ref a), some (.ref d), some (.int (0 + (i : Int))), some (.str z), some (.ref D4), some (.ref r), some (.ref D6), some u1, some u2, some u3, some (.str wd), x11, x12, x13, x14, x15, x16, x17] ∧ PenAt Z d c (500 * i + 434 + n) ms ∧ Z D6 = some (.lst (ys.map V.str))) ⟨_, _, _, _, rfl, pP7.le (by omega), hD67⟩ (fun n σ Z _ ⟨_, _, _, _, _, _, e⟩ => SqL.of e) (fun n x σ Z hx pz => ?_) (fun σ Z pz => ?_)
              · obtain ⟨x11, x12, x13, x14, rfl, penZ, hZ6⟩ := pz
                rw [List.getElem?_map] at hx
                obtain ⟨y, hy, rfl⟩ := Option.map_eq_some_iff.mp hx
                obtain ⟨ly, y12⟩ := ya y (List.mem_of_getElem? hy)
                have n12 : n < 12 := by
                  have := (List.getElem?_eq_some_iff.mp hy).1
                  omega
                have lets := lineB_of.mp ly
                have yL : y.length ≤ sizeLine := Nat.le_trans y12 (by decide)
                have ym : y.length < 1000000 := by omega
                -- the rests
                refine ⟨_, rfl, y, rfl, yL, _, _, rfl, rfl, (y.length : Int) + 1, rfl, by omega, by omega, fun D12 nD12 => ?_⟩
                refine lc_range (fun j W => W D12 = some (.lst (((List.range j).map fun (k : Nat) => cutS y (some (k : Int)) none).map V.str)) ∧ Same Z W) ⟨upd_same, same_upd nD12⟩ (fun j W hj p => ?_) (fun Z1 p => ?_)
                · obtain ⟨wD, wS⟩ := p
                  have jl : j < y.length + 1 := by omega
                  refine ⟨rfl, ?_⟩
                  dsimp only [tYes]
                  rw [if_pos rfl]
                  refine ⟨_, rfl, _, rfl, _, rfl, y, rfl, yL, ?_⟩
                  refine ⟨_, wD, Nat.lt_of_le_of_lt (by rw [List.length_map, List.length_map, List.length_range]; omega : _ ≤ 12) (by decide), ?_, ?_⟩
                  · rw [Int.zero_add, List.range_succ, List.map_append, List.map_append]
                    exact upd_same
                  · intro b o e
                    rw [upd_ne (ne_of_none e nD12)]
                    exact wS b o e
                · obtain ⟨wD, wS⟩ := p
                  have e1 : ((y.length : Int) + 1).toNat = y.length + 1 := by omega
                  rw [e1] at wD
                  have hr12 := wD
                  generalize hrs : ((List.range (y.length + 1)).map fun (k : Nat) => cutS y (some (k : Int)) none) = rests at hr12
                  -- has
                  refine ⟨_, rfl, fun o1 dx1 nx1 nd1 ne1 => ⟨o1, dx1, wd, rfl, upd_same, sw, fun Ha1 hx1 bx1 => ⟨rfl, o1, dx1, _, rfl, hx1, rfl, _, rfl, .leaf 0 wd, .ref o1, y, rfl, ⟨by decide, o1, dx1, rfl, hx1⟩, rfl, (by show 1 ≤ 5; decide), ym, fun Hb1 sb1 => ?_⟩⟩⟩
                  have S1 := wS.trans ((made_same nx1 nd1 bx1).trans sb1)
                  have h12 := ((made_same nx1 nd1 bx1).trans sb1) _ _ hr12
                  refine ⟨_, rfl, D12, rfl, ⟨_, SqL.of h12⟩, fun D17 nD17 => ?_⟩
                  refine lc_it (walk_list (xs := rests.map V.str)) (fun j W => W D17 = some (.lst ((kept y wd j).map V.str)) ∧ Same Hb1 W) ⟨upd_same, same_upd nD17⟩ (fun j W _ p => SqL.of (p.2 _ _ h12)) (fun j x W W' hj p yl2 => ?_) (fun Z2 p => ?_)
                  · obtain ⟨kD, kS⟩ := p
                    obtain ⟨rfl, hx⟩ := yl2
                    rw [List.getElem?_map] at hx
                    obtain ⟨rest, hrst, rfl⟩ := Option.map_eq_some_iff.mp hx
                    rw [← hrs, List.getElem?_map] at hrst
                    obtain ⟨j', hj', rfl⟩ := Option.map_eq_some_iff.mp hrst
                    obtain ⟨jlt, rfl⟩ : j < y.length + 1 ∧ j = j' := by
                      have h1 := (List.getElem?_eq_some_iff.mp hj')
                      obtain ⟨h1, h2⟩ := h1
                      rw [List.length_range] at h1
                      rw [List.getElem_range] at h2
                      exact ⟨h1, h2⟩
                    refine ⟨rfl, ?_⟩
                    refine ⟨_, rfl, fun o2 dx2 nx2 nd2 ne2 => ⟨o2, dx2, wd, rfl, upd_same, sw, fun Ha2 hx2 bx2 => ⟨rfl, o2, dx2, _, rfl, hx2, rfl, _, rfl, .leaf 1 wd, .ref o2, cutS y (some (j : Int)) none, rfl, ⟨by decide, o2, dx2, rfl, hx2⟩, rfl, (by show 1 ≤ 5; decide), Nat.lt_of_le_of_lt (cutS_length y _ _) ym, fun Hb2 sb2 => ?_⟩⟩⟩
                    refine ⟨_, rfl, ?_⟩
                    have ev : (G.leaf 1 wd).val (cutS y (some (j : Int)) none) = Builtin.Str.subAt y wd j := starts_suf y wd j (by omega)
                    rw [ev]
                    have kS2 := kS.trans ((made_same nx2 nd2 bx2).trans sb2)
                    have kD2 := ((made_same nx2 nd2 bx2).trans sb2) _ _ kD
                    cases hc : Builtin.Str.subAt y wd j with
                    | true =>
                      refine iteT ⟨_, rfl, _, kD2, Nat.lt_of_le_of_lt (by rw [List.length_map]; exact Nat.le_trans (kept_len y wd j) (by omega) : _ ≤ 12) (by decide), ?_, ?_⟩
                      · rw [kept_succ, hc, if_pos rfl, List.map_append]
                        exact upd_same
                      · intro b o e
                        rw [upd_ne (ne_of_none e nD17)]
                        exact kS2 b o e
                    | false =>
                      refine iteF ⟨?_, kS2⟩
                      rw [kept_succ, hc, if_neg (by decide), List.append_nil]
                      exact kD2
                  · obtain ⟨kD, kS⟩ := p
                    have e2 : (rests.map V.str).length = y.length + 1 := by rw [← hrs, List.length_map, List.length_map, List.length_range]
                    rw [e2] at kD
                    refine ⟨(by show 0 ≤ sizeLine; decide), fun N nN => ?_⟩
                    have sN := same_upd (o := .lst []) nN
                    refine ⟨.list ((kept y wd (y.length + 1)).map PyData.str), .list [], .lst (SqL.of (sN _ _ kD)) (dp_strs _), .lst (SqL.of upd_same) .nil, shaped_strs _ (kept_lets lets), rfl, rfl, _, rfl, ?_⟩
                    have ev : (G.leaf 0 wd).val y = !(PyData.eqv (.list ((kept y wd (y.length + 1)).map PyData.str)) (.list [])) := by
                      rw [eqv_nil, List.isEmpty_map]
                      exact has_rests wl1
                    have no : ∀ b : Bool, (!decide (V.bl b = V.bl b)) = false := fun b => by rw [decide_eq_true rfl]; rfl
                    rw [ev, no]
                    have S2 := (S1.trans kS).trans sN
                    refine iteF ?_
                    -- ends
                    refine ⟨_, rfl, fun o3 dx3 nx3 nd3 ne3 => ⟨o3, dx3, wd, rfl, upd_same, sw, fun Ha3 hx3 bx3 => ⟨rfl, o3, dx3, _, rfl, hx3, rfl, _, rfl, .leaf 2 wd, .ref o3, y, rfl, ⟨by decide, o3, dx3, rfl, hx3⟩, rfl, (by show 1 ≤ 5; decide), ym, fun Hb3 sb3 => ?_⟩⟩⟩
                    have S3 := S2.trans ((made_same nx3 nd3 bx3).trans sb3)
                    refine ⟨_, rfl, wd, rfl, wdL, fun o4 dx4 nx4 nd4 ne4 => ⟨o4, dx4, (revS wd), rfl, upd_same, swr, fun Ha4 hx4 bx4 => ⟨rfl, o4, dx4, _, rfl, hx4, rfl, _, rfl, y, rfl, yL, .leaf 1 (revS wd), .ref o4, revS y, rfl, ⟨by decide, o4, dx4, rfl, hx4⟩, rfl, (by show 1 ≤ 5; decide), by rw [len_rev]; exact ym, fun Hb4 sb4 => ?_⟩⟩⟩
                    have S4 := S3.trans ((made_same nx4 nd4 bx4).trans sb4)
                    refine ⟨rfl, _, rfl, ?_⟩
                    have ev2 : (G.leaf 2 wd).val y = (G.leaf 1 (revS wd)).val (revS y) := ends_rev y wd
                    rw [ev2, no]
                    refine iteF ?_
                    -- is
                    refine ⟨_, rfl, fun o5 dx5 nx5 nd5 ne5 => ⟨o5, dx5, wd, rfl, upd_same, ⟨lw, by omega⟩, fun Ha5 hx5 bx5 => ⟨rfl, o5, dx5, _, rfl, hx5, rfl, _, rfl, .leaf 3 wd, .ref o5, y, rfl, ⟨by decide, o5, dx5, rfl, hx5⟩, rfl, (by show 1 ≤ 5; decide), ym, fun Hb5 sb5 => ?_⟩⟩⟩
                    have S5 := S4.trans ((made_same nx5 nd5 bx5).trans sb5)
                    refine ⟨_, rfl, fun o6 dx6 nx6 nd6 ne6 => ⟨o6, dx6, wd, rfl, upd_same, sw, fun Ha6 hx6 bx6 => ⟨rfl, o6, dx6, _, rfl, hx6, rfl, _, rfl, .leaf 1 wd, .ref o6, y, rfl, ⟨by decide, o6, dx6, rfl, hx6⟩, rfl, (by show 1 ≤ 5; decide), ym, fun Hb6 sb6 => ?_⟩⟩⟩
                    have S6 := S5.trans ((made_same nx6 nd6 bx6).trans sb6)
                    have ev3 : (G.leaf 3 wd).val y = ((G.leaf 1 wd).val y && decide ((y.length : Int) = (wd.length : Int))) := is_starts y wd
                    have ni : ∀ a b : Int, decide (V.int a = V.int b) = decide (a = b) := fun a b => by
                      by_cases h : a = b
                      · rw [h, decide_eq_true rfl, decide_eq_true rfl]
                      · rw [decide_eq_false h, decide_eq_false (fun q => h (by injection q))]
                    refine ⟨_, rfl, ?_⟩
                    cases e1 : (G.leaf 1 wd).val y
                    case' true =>
                      refine iteT ⟨_, rfl, y, rfl, yL, _, rfl, wd, rfl, wdL, rfl, rfl, _, rfl, ?_⟩
                      rw [show (!decide (V.bl ((G.leaf 3 wd).val y) = V.bl (decide (V.int (y.length : Int) = V.int (wd.length : Int))))) = false from by rw [ev3, e1, Bool.true_and, ni, no]]
                      refine iteF ?_
                    case' false =>
                      refine iteF ⟨rfl, _, rfl, ?_⟩
                      rw [show (!decide (V.bl ((G.leaf 3 wd).val y) = V.bl false)) = false from by rw [ev3, e1, Bool.false_and, no]]
                      refine iteF ?_
                    all_goals
                      have penY := penZ.keep S6
                      have h6Y := S6 _ _ hZ6
                      refine ⟨⟨_, rfl⟩, _, rfl, wd, rfl, by omega, fun ds DS dn dm srt dl nDS => ?_⟩
                      have sDS := same_upd (o := .lst ((ds.map sg).map V.str)) nDS
                      refine ⟨_, DS, ds.map sg, rfl, rfl, .inl (SqL.of upd_same), (by rw [sum_sg, List.length_map]; show ds.length + ds.length * 0 ≤ 16777216; omega), ?_⟩
                      have ej : cod (Txt.join "" (ds.map sg)) = ds := join_sg ds
                      generalize Txt.join "" (ds.map sg) = lt at ej ⊢
                      have ltl : lineB lt = true := lineB_of.mpr fun x hx => lineB_of.mp lw x ((dm x).mp (by rw [ej] at hx; exact hx))
                      have ltn : (cod lt).Nodup := by rw [ej]; exact dn
                      have lts : lt.length < 4000 := by rw [← len_cod, ej]; omega
                      refine ⟨_, rfl, _, rfl, y, rfl, yL, _, _, rfl, rfl, d, c, 500 * i + 434 + n, ms, (y.length : Int) + 1, rfl, penY.keep sDS, by omega, by omega, by omega, fun cut Z4 c0 c1 penX bbX => ⟨_, _, rfl, ?_⟩⟩
                      have h6X := bbX _ _ (sDS _ _ h6Y) n6d7
                      obtain ⟨cu, rfl⟩ : ∃ cu : Nat, cut = (cu : Int) := ⟨cut.toNat, by omega⟩
                      have cuy : cu ≤ y.length := by omega
                      refine ⟨_, rfl, fun o7 dx7 nx7 nd7 ne7 => ⟨o7, dx7, lt, rfl, upd_same, ⟨ltl, ltn, lts⟩, fun Ha7 hx7 bx7 => ⟨rfl, o7, dx7, _, rfl, hx7, rfl, _, rfl, .leaf 4 lt, .ref o7, y, rfl, ⟨by decide, o7, dx7, rfl, hx7⟩, rfl, (by show 1 ≤ 5; decide), ym, fun Hb7 sb7 => ?_⟩⟩⟩
                      refine ⟨_, rfl, fun o8 dx8 nx8 nd8 ne8 => ⟨o8, dx8, lt, rfl, upd_same, ⟨ltl, ltn, lts⟩, fun Ha8 hx8 bx8 => ⟨rfl, o8, dx8, _, rfl, hx8, rfl, _, rfl, _, rfl, _, rfl, y, rfl, yL, .leaf 4 lt, .ref o8, cutS y none (some (cu : Int)), rfl, ⟨by decide, o8, dx8, rfl, hx8⟩, rfl, (by show 1 ≤ 5; decide), Nat.lt_of_le_of_lt (cutS_length y _ _) ym, fun Hb8 sb8 => ?_⟩⟩⟩
                      have ev4 : (G.leaf 4 lt).val y = ((G.leaf 4 lt).val (cutS y none (some (cu : Int))) && (G.leaf 4 lt).val (cutS y (some (cu : Int)) none)) := only_cut lt y cu cuy
                      refine ⟨_, rfl, ?_⟩
                      cases e2 : (G.leaf 4 lt).val (cutS y none (some (cu : Int)))
                      case' false =>
                        refine iteF ⟨rfl, _, rfl, ?_⟩
                        rw [show (!decide (V.bl ((G.leaf 4 lt).val y) = V.bl false)) = false from by rw [ev4, e2, Bool.false_and, no]]
                        have S9 := ((made_same nx7 nd7 bx7).trans sb7).trans ((made_same nx8 nd8 bx8).trans sb8)
                      case' true =>
                        refine iteT ⟨_, rfl, fun o9 dx9 nx9 nd9 ne9 => ⟨o9, dx9, lt, rfl, upd_same, ⟨ltl, ltn, lts⟩, fun Ha9 hx9 bx9 => ⟨rfl, o9, dx9, _, rfl, hx9, rfl, _, rfl, _, rfl, _, rfl, y, rfl, yL, .leaf 4 lt, .ref o9, cutS y (some (cu : Int)) none, rfl, ⟨by decide, o9, dx9, rfl, hx9⟩, rfl, (by show 1 ≤ 5; decide), Nat.lt_of_le_of_lt (cutS_length y _ _) ym, fun Hb9 sb9 => ?_⟩⟩⟩
                        refine ⟨rfl, _, rfl, ?_⟩
                        rw [show (!decide (V.bl ((G.leaf 4 lt).val y) = V.bl ((G.leaf 4 lt).val (cutS y (some (cu : Int)) none)))) = false from by rw [ev4, e2, Bool.true_and, no]]
                        have S9 := (((made_same nx7 nd7 bx7).trans sb7).trans ((made_same nx8 nd8 bx8).trans sb8)).trans ((made_same nx9 nd9 bx9).trans sb9)
                      all_goals exact iteF ⟨_, _, _, _, rfl, (penX.keep S9).le (by omega), S9 _ _ h6X⟩
              · obtain ⟨x11, x12, x13, x14, rfl, penZ, hZ6⟩ := pz
                exact ⟨_, _, _, _, _, _, _, _, _, _, _, _, _, _, _, _, rfl, penZ.le (by rw [List.length_map, yl]; omega)⟩
    · exact k _
end
end LA
end
section
set_option Elab.async false
set_option linter.all false
set_option maxRecDepth 100000
set_option maxHeartbeats 8000000
namespace LA
open PySem PySem.W L2 XS XT XK
/-- a def at an address, as the row tells it -/
structure FnF (K : Frag) (x qual : Str) (st : Stmt) (f : Addr) : Prop where
  ex : ∃ (oc : Value) (od : Option Addr) (kV doc pm : Value) (an : Option Addr) (cdv ct : Value) (osl : Array (Option Value)), K.lookup f = some ⟨oc, od, .func (fnOf x qual (defArgs st) (defBody st) (defScope st) .none kV doc pm an cdv ct), osl⟩ ∧ codeIn K cdv qual = true
theorem fnF_mk {K : Frag} {x qual : Str} {st : Stmt} {f : Addr} {oc : Value} {od : Option Addr} {kV doc pm : Value} {an : Option Addr} {cdv ct : Value} {osl : Array (Option Value)} (l : K.lookup f = some ⟨oc, od, .func (fnOf x qual (defArgs st) (defBody st) (defScope st) .none kV doc pm an cdv ct), osl⟩) (c : codeIn K cdv qual = true) : FnF K x qual st f :=
  ⟨⟨oc, od, kV, doc, pm, an, cdv, ct, osl, l, c⟩⟩
theorem propF_mk {K : Frag} {C p g : Addr} {nm : Str} {rest : List Value} (a : findIn K (.ref C) nm = some (some (.ref p))) (b : specialIn K (.ref p) "__get__" = some (some (.builtin "property.__get__"))) (c : takesIn K (.ref p) = some true) (d : recIn K p "property" = some (.ref g :: rest)) : PropOf K C nm p g := ⟨a, b, c, ⟨rest, d⟩⟩
def n8 {α : Type} (a0 a1 a2 a3 a4 a5 a6 a7 : α) : Nat → α
  | 0 => a0
  | 1 => a1
  | 2 => a2
  | 3 => a3
  | 4 => a4
  | 5 => a5
  | 6 => a6
  | _ => a7
def n9 {α : Type} (a0 a1 a2 a3 a4 a5 a6 a7 a8 : α) : Nat → α
  | 0 => a0
  | 1 => a1
  | 2 => a2
  | 3 => a3
  | 4 => a4
  | 5 => a5
  | 6 => a6
  | 7 => a7
  | _ => a8
theorem all_mk {P : Program} {w : World} {K : Frag} {h : Heap} {mg : Str → Option Value} {fa a_pen a_draw a_pick a_sgn a_few a_row a_goal a_sm a_ru a_mkg a_jw a_jn a_jl a_ji a_law a_le a_li a_wo a_sh a_di a_it a_pa a_de a_si a_fi a_ft a_cw a_cp C0 I0 H0 C1 I1 H1 C2 I2 H2 C3 I3 H3 C4 I4 H4 C5 I5 H5 C6 I6 H6 C7 I7 H7 P0 Q0 P1 Q1 P2 Q2 P3 Q3 P4 Q4 : Addr} {t0 t1 t2 t3 t4 t5 t6 : Tok} (X : K.In h) (G : h.Ns mainGlobals mg) (hfa : mg "law" = some (.ref fa))
    (g_pen : nsIn K mainGlobals "_law_pen" = some (some (.ref a_pen)))
    (f_pen : FnF K "_law_pen" "_law_pen" sPen a_pen)
    (k_pen : keepIn K (.ref a_pen) = true)
    (g_draw : nsIn K mainGlobals "_law_draw" = some (some (.ref a_draw)))
    (f_draw : FnF K "_law_draw" "_law_draw" sDraw a_draw)
    (k_draw : keepIn K (.ref a_draw) = true)
    (g_pick : nsIn K mainGlobals "_law_pick" = some (some (.ref a_pick)))
    (f_pick : FnF K "_law_pick" "_law_pick" sPick a_pick)
    (k_pick : keepIn K (.ref a_pick) = true)
    (g_sgn : nsIn K mainGlobals "_law_signs" = some (some (.ref a_sgn)))
    (f_sgn : FnF K "_law_signs" "_law_signs" sSigns a_sgn)
    (k_sgn : keepIn K (.ref a_sgn) = true)
    (g_few : nsIn K mainGlobals "_law_few" = some (some (.ref a_few)))
    (f_few : FnF K "_law_few" "_law_few" sFew a_few)
    (k_few : keepIn K (.ref a_few) = true)
    (g_row : nsIn K mainGlobals "_law_row" = some (some (.ref a_row)))
    (f_row : FnF K "_law_row" "_law_row" sRow a_row)
    (k_row : keepIn K (.ref a_row) = true)
    (g_goal : nsIn K mainGlobals "_law_goal" = some (some (.ref a_goal)))
    (f_goal : FnF K "_law_goal" "_law_goal" sGoal a_goal)
    (k_goal : keepIn K (.ref a_goal) = true)
    (g_sm : nsIn K mainGlobals "_law_same" = some (some (.ref a_sm)))
    (f_sm : FnF K "_law_same" "_law_same" sSame a_sm)
    (k_sm : keepIn K (.ref a_sm) = true)
    (g_ru : nsIn K mainGlobals "_law_rules_right" = some (some (.ref a_ru)))
    (f_ru : FnF K "_law_rules_right" "_law_rules_right" sRules a_ru)
    (k_ru : keepIn K (.ref a_ru) = true)
    (g_mkg : nsIn K mainGlobals "_law_made_goal" = some (some (.ref a_mkg)))
    (f_mkg : FnF K "_law_made_goal" "_law_made_goal" sMG a_mkg)
    (k_mkg : keepIn K (.ref a_mkg) = true)
    (g_jw : nsIn K mainGlobals "_law_jwords" = some (some (.ref a_jw)))
    (f_jw : FnF K "_law_jwords" "_law_jwords" sJW a_jw)
    (k_jw : keepIn K (.ref a_jw) = true)
    (g_jn : nsIn K mainGlobals "_law_jline" = some (some (.ref a_jn)))
    (f_jn : FnF K "_law_jline" "_law_jline" sJline a_jn)
    (k_jn : keepIn K (.ref a_jn) = true)
    (g_jl : nsIn K mainGlobals "_law_jleaves" = some (some (.ref a_jl)))
    (f_jl : FnF K "_law_jleaves" "_law_jleaves" sJL a_jl)
    (k_jl : keepIn K (.ref a_jl) = true)
    (g_ji : nsIn K mainGlobals "_law_jlight" = some (some (.ref a_ji)))
    (f_ji : FnF K "_law_jlight" "_law_jlight" sJlight a_ji)
    (k_ji : keepIn K (.ref a_ji) = true)
    (g_law : nsIn K mainGlobals "law" = some (some (.ref a_law)))
    (f_law : FnF K "law" "law" sLaw a_law)
    (k_law : keepIn K (.ref a_law) = true)
    (g_le : nsIn K mainGlobals "is_letter" = some (some (.ref a_le)))
    (f_le : FnF K "is_letter" "is_letter" sLetter a_le)
    (k_le : keepIn K (.ref a_le) = true)
    (g_li : nsIn K mainGlobals "is_line" = some (some (.ref a_li)))
    (f_li : FnF K "is_line" "is_line" sLine a_li)
    (k_li : keepIn K (.ref a_li) = true)
    (g_wo : nsIn K mainGlobals "is_word" = some (some (.ref a_wo)))
    (f_wo : FnF K "is_word" "is_word" sWord a_wo)
    (k_wo : keepIn K (.ref a_wo) = true)
    (g_sh : nsIn K mainGlobals "is_short_word" = some (some (.ref a_sh)))
    (f_sh : FnF K "is_short_word" "is_short_word" sShort a_sh)
    (k_sh : keepIn K (.ref a_sh) = true)
    (g_di : nsIn K mainGlobals "are_different" = some (some (.ref a_di)))
    (f_di : FnF K "are_different" "are_different" sDiff a_di)
    (k_di : keepIn K (.ref a_di) = true)
    (g_it : nsIn K mainGlobals "is_test" = some (some (.ref a_it)))
    (f_it : FnF K "is_test" "is_test" sIsT a_it)
    (k_it : keepIn K (.ref a_it) = true)
    (g_pa : nsIn K mainGlobals "parts" = some (some (.ref a_pa)))
    (f_pa : FnF K "parts" "parts" sParts a_pa)
    (k_pa : keepIn K (.ref a_pa) = true)
    (g_de : nsIn K mainGlobals "depth_of" = some (some (.ref a_de)))
    (f_de : FnF K "depth_of" "depth_of" sDepth a_de)
    (k_de : keepIn K (.ref a_de) = true)
    (g_si : nsIn K mainGlobals "simple_tests" = some (some (.ref a_si)))
    (f_si : FnF K "simple_tests" "simple_tests" sSimple a_si)
    (k_si : keepIn K (.ref a_si) = true)
    (g_fi : nsIn K mainGlobals "fits_within" = some (some (.ref a_fi)))
    (f_fi : FnF K "fits_within" "fits_within" sFits a_fi)
    (k_fi : keepIn K (.ref a_fi) = true)
    (g_ft : nsIn K mainGlobals "fit_together" = some (some (.ref a_ft)))
    (f_ft : FnF K "fit_together" "fit_together" sFitT a_ft)
    (k_ft : keepIn K (.ref a_ft) = true)
    (g_cw : nsIn K mainGlobals "check_word" = some (some (.ref a_cw)))
    (f_cw : FnF K "check_word" "check_word" sChkW a_cw)
    (k_cw : keepIn K (.ref a_cw) = true)
    (g_cp : nsIn K mainGlobals "check_pair" = some (some (.ref a_cp)))
    (f_cp : FnF K "check_pair" "check_pair" sChkP a_cp)
    (k_cp : keepIn K (.ref a_cp) = true)
    (gc0 : nsIn K mainGlobals "Has" = some (some (.ref C0)))
    (cl0 : Cls K C0)
    (mk0 : Mk K C0 I0)
    (mh0 : Meth K C0 "holds" H0)
    (fi0 : FnF K "__init__" "Has.__init__" sIHas I0)
    (ki0 : keepIn K (.ref I0) = true)
    (fh0 : FnF K "holds" "Has.holds" sHHas H0)
    (ca0 : findIn K (.ref C0) "__class__" = some (some (.builtin "object.__class__")))
    (ob0 : mroIn K C0 (.type "object") = some true)
    (no0 : NoAttr K C0 "_word")
    (gc1 : nsIn K mainGlobals "Begins" = some (some (.ref C1)))
    (cl1 : Cls K C1)
    (mk1 : Mk K C1 I1)
    (mh1 : Meth K C1 "holds" H1)
    (fi1 : FnF K "__init__" "Begins.__init__" sIBegins I1)
    (ki1 : keepIn K (.ref I1) = true)
    (fh1 : FnF K "holds" "Begins.holds" sHBegins H1)
    (ca1 : findIn K (.ref C1) "__class__" = some (some (.builtin "object.__class__")))
    (ob1 : mroIn K C1 (.type "object") = some true)
    (no1 : NoAttr K C1 "_word")
    (gc2 : nsIn K mainGlobals "Ends" = some (some (.ref C2)))
    (cl2 : Cls K C2)
    (mk2 : Mk K C2 I2)
    (mh2 : Meth K C2 "holds" H2)
    (fi2 : FnF K "__init__" "Ends.__init__" sIEnds I2)
    (ki2 : keepIn K (.ref I2) = true)
    (fh2 : FnF K "holds" "Ends.holds" sHEnds H2)
    (ca2 : findIn K (.ref C2) "__class__" = some (some (.builtin "object.__class__")))
    (ob2 : mroIn K C2 (.type "object") = some true)
    (no2 : NoAttr K C2 "_word")
    (gc3 : nsIn K mainGlobals "Is" = some (some (.ref C3)))
    (cl3 : Cls K C3)
    (mk3 : Mk K C3 I3)
    (mh3 : Meth K C3 "holds" H3)
    (fi3 : FnF K "__init__" "Is.__init__" sIIs I3)
    (ki3 : keepIn K (.ref I3) = true)
    (fh3 : FnF K "holds" "Is.holds" sHIs H3)
    (ca3 : findIn K (.ref C3) "__class__" = some (some (.builtin "object.__class__")))
    (ob3 : mroIn K C3 (.type "object") = some true)
    (no3 : NoAttr K C3 "_line")
    (gc4 : nsIn K mainGlobals "Only" = some (some (.ref C4)))
    (cl4 : Cls K C4)
    (mk4 : Mk K C4 I4)
    (mh4 : Meth K C4 "holds" H4)
    (fi4 : FnF K "__init__" "Only.__init__" sIOn I4)
    (ki4 : keepIn K (.ref I4) = true)
    (fh4 : FnF K "holds" "Only.holds" sHOn H4)
    (ca4 : findIn K (.ref C4) "__class__" = some (some (.builtin "object.__class__")))
    (ob4 : mroIn K C4 (.type "object") = some true)
    (no4 : NoAttr K C4 "_letters")
    (gc5 : nsIn K mainGlobals "Fails" = some (some (.ref C5)))
    (cl5 : Cls K C5)
    (mk5 : Mk K C5 I5)
    (mh5 : Meth K C5 "holds" H5)
    (fi5 : FnF K "__init__" "Fails.__init__" sIFa I5)
    (ki5 : keepIn K (.ref I5) = true)
    (fh5 : FnF K "holds" "Fails.holds" sHFa H5)
    (ca5 : findIn K (.ref C5) "__class__" = some (some (.builtin "object.__class__")))
    (ob5 : mroIn K C5 (.type "object") = some true)
    (no5 : NoAttr K C5 "_test")
    (gc6 : nsIn K mainGlobals "Both" = some (some (.ref C6)))
    (cl6 : Cls K C6)
    (mk6 : Mk K C6 I6)
    (mh6 : Meth K C6 "holds" H6)
    (fi6 : FnF K "__init__" "Both.__init__" sIBoth I6)
    (ki6 : keepIn K (.ref I6) = true)
    (fh6 : FnF K "holds" "Both.holds" sHBoth H6)
    (ca6 : findIn K (.ref C6) "__class__" = some (some (.builtin "object.__class__")))
    (ob6 : mroIn K C6 (.type "object") = some true)
    (no6 : NoAttr K C6 "_one")
    (np6 : NoAttr K C6 "_other")
    (gc7 : nsIn K mainGlobals "Either" = some (some (.ref C7)))
    (cl7 : Cls K C7)
    (mk7 : Mk K C7 I7)
    (mh7 : Meth K C7 "holds" H7)
    (fi7 : FnF K "__init__" "Either.__init__" sIEither I7)
    (ki7 : keepIn K (.ref I7) = true)
    (fh7 : FnF K "holds" "Either.holds" sHEither H7)
    (ca7 : findIn K (.ref C7) "__class__" = some (some (.builtin "object.__class__")))
    (ob7 : mroIn K C7 (.type "object") = some true)
    (no7 : NoAttr K C7 "_one")
    (np7 : NoAttr K C7 "_other")
    (pr0 : PropOf K C5 "test" P0 Q0)
    (fq0 : FnF K "test" "Fails.test" sGFtest Q0)
    (kq0 : keepIn K (.ref Q0) = true)
    (pr1 : PropOf K C6 "one" P1 Q1)
    (fq1 : FnF K "one" "Both.one" sGBone Q1)
    (kq1 : keepIn K (.ref Q1) = true)
    (pr2 : PropOf K C6 "other" P2 Q2)
    (fq2 : FnF K "other" "Both.other" sGBother Q2)
    (kq2 : keepIn K (.ref Q2) = true)
    (pr3 : PropOf K C7 "one" P3 Q3)
    (fq3 : FnF K "one" "Either.one" sGEone Q3)
    (kq3 : keepIn K (.ref Q3) = true)
    (pr4 : PropOf K C7 "other" P4 Q4)
    (fq4 : FnF K "other" "Either.other" sGEother Q4)
    (kq4 : keepIn K (.ref Q4) = true)
    (cg : specialIn K (.builtin "object.__class__") "__get__" = some (some (.builtin "getset_descriptor.__get__")))
    (ct : takesIn K (.builtin "object.__class__") = some true)
    (kt00 : kitOne K (.ref C0) (.ref C0) = some true)
    (kt01 : kitOne K (.ref C0) (.ref C1) = some false)
    (kt02 : kitOne K (.ref C0) (.ref C2) = some false)
    (kt03 : kitOne K (.ref C0) (.ref C3) = some false)
    (kt04 : kitOne K (.ref C0) (.ref C4) = some false)
    (kt05 : kitOne K (.ref C0) (.ref C5) = some false)
    (kt06 : kitOne K (.ref C0) (.ref C6) = some false)
    (kt07 : kitOne K (.ref C0) (.ref C7) = some false)
    (kt10 : kitOne K (.ref C1) (.ref C0) = some false)
    (kt11 : kitOne K (.ref C1) (.ref C1) = some true)
    (kt12 : kitOne K (.ref C1) (.ref C2) = some false)
    (kt13 : kitOne K (.ref C1) (.ref C3) = some false)
    (kt14 : kitOne K (.ref C1) (.ref C4) = some false)
    (kt15 : kitOne K (.ref C1) (.ref C5) = some false)
    (kt16 : kitOne K (.ref C1) (.ref C6) = some false)
    (kt17 : kitOne K (.ref C1) (.ref C7) = some false)
    (kt20 : kitOne K (.ref C2) (.ref C0) = some false)
    (kt21 : kitOne K (.ref C2) (.ref C1) = some false)
    (kt22 : kitOne K (.ref C2) (.ref C2) = some true)
    (kt23 : kitOne K (.ref C2) (.ref C3) = some false)
    (kt24 : kitOne K (.ref C2) (.ref C4) = some false)
    (kt25 : kitOne K (.ref C2) (.ref C5) = some false)
    (kt26 : kitOne K (.ref C2) (.ref C6) = some false)
    (kt27 : kitOne K (.ref C2) (.ref C7) = some false)
    (kt30 : kitOne K (.ref C3) (.ref C0) = some false)
    (kt31 : kitOne K (.ref C3) (.ref C1) = some false)
    (kt32 : kitOne K (.ref C3) (.ref C2) = some false)
    (kt33 : kitOne K (.ref C3) (.ref C3) = some true)
    (kt34 : kitOne K (.ref C3) (.ref C4) = some false)
    (kt35 : kitOne K (.ref C3) (.ref C5) = some false)
    (kt36 : kitOne K (.ref C3) (.ref C6) = some false)
    (kt37 : kitOne K (.ref C3) (.ref C7) = some false)
    (kt40 : kitOne K (.ref C4) (.ref C0) = some false)
    (kt41 : kitOne K (.ref C4) (.ref C1) = some false)
    (kt42 : kitOne K (.ref C4) (.ref C2) = some false)
    (kt43 : kitOne K (.ref C4) (.ref C3) = some false)
    (kt44 : kitOne K (.ref C4) (.ref C4) = some true)
    (kt45 : kitOne K (.ref C4) (.ref C5) = some false)
    (kt46 : kitOne K (.ref C4) (.ref C6) = some false)
    (kt47 : kitOne K (.ref C4) (.ref C7) = some false)
    (kt50 : kitOne K (.ref C5) (.ref C0) = some false)
    (kt51 : kitOne K (.ref C5) (.ref C1) = some false)
    (kt52 : kitOne K (.ref C5) (.ref C2) = some false)
    (kt53 : kitOne K (.ref C5) (.ref C3) = some false)
    (kt54 : kitOne K (.ref C5) (.ref C4) = some false)
    (kt55 : kitOne K (.ref C5) (.ref C5) = some true)
    (kt56 : kitOne K (.ref C5) (.ref C6) = some false)
    (kt57 : kitOne K (.ref C5) (.ref C7) = some false)
    (kt60 : kitOne K (.ref C6) (.ref C0) = some false)
    (kt61 : kitOne K (.ref C6) (.ref C1) = some false)
    (kt62 : kitOne K (.ref C6) (.ref C2) = some false)
    (kt63 : kitOne K (.ref C6) (.ref C3) = some false)
    (kt64 : kitOne K (.ref C6) (.ref C4) = some false)
    (kt65 : kitOne K (.ref C6) (.ref C5) = some false)
    (kt66 : kitOne K (.ref C6) (.ref C6) = some true)
    (kt67 : kitOne K (.ref C6) (.ref C7) = some false)
    (kt70 : kitOne K (.ref C7) (.ref C0) = some false)
    (kt71 : kitOne K (.ref C7) (.ref C1) = some false)
    (kt72 : kitOne K (.ref C7) (.ref C2) = some false)
    (kt73 : kitOne K (.ref C7) (.ref C3) = some false)
    (kt74 : kitOne K (.ref C7) (.ref C4) = some false)
    (kt75 : kitOne K (.ref C7) (.ref C5) = some false)
    (kt76 : kitOne K (.ref C7) (.ref C6) = some false)
    (kt77 : kitOne K (.ref C7) (.ref C7) = some true)
    (z_len : nsIn K mainGlobals "len" = some none)
    (z_int : nsIn K mainGlobals "int" = some none)
    (z_list : nsIn K mainGlobals "list" = some none)
    (z_abs : nsIn K mainGlobals "abs" = some none)
    (z_range : nsIn K mainGlobals "range" = some none)
    (z_set : nsIn K mainGlobals "set" = some none)
    (z_all : nsIn K mainGlobals "all" = some none)
    (z_ord : nsIn K mainGlobals "ord" = some none)
    (z_isinstance : nsIn K mainGlobals "isinstance" = some none)
    (z_str : nsIn K mainGlobals "str" = some none)
    (z_max : nsIn K mainGlobals "max" = some none)
    (z_sum : nsIn K mainGlobals "sum" = some none)
    (z_sorted : nsIn K mainGlobals "sorted" = some none)
    (y0 : nsIn K mainGlobals "FIRST_LETTER" = some (some (.int 32 t0)))
    (y1 : nsIn K mainGlobals "LAST_LETTER" = some (some (.int 126 t1)))
    (y2 : nsIn K mainGlobals "PERCENT_SIGN" = some (some (.int 37 t2)))
    (y3 : nsIn K mainGlobals "MAX_WORD" = some (some (.int 8 t3)))
    (y4 : nsIn K mainGlobals "MAX_LINE" = some (some (.int 20 t4)))
    (y5 : nsIn K mainGlobals "MAX_DEPTH" = some (some (.int 8 t5)))
    (y6 : nsIn K mainGlobals "MOST_SIMPLE" = some (some (.int 8 t6))) :
    ∃ fd : FuncData, (∀ (s : Shared) (v : Value), BindsTo s fd ⟨[v], []⟩ [("_law_script", v)]) ∧ ∀ base : Heap, K.In base → base.Ns mainGlobals mg → AtCaller P w K mg base CX0 20 fa fd ["_law_script"] (spLaw K) := by
  have e := hfa.symm.trans (mg_of X G g_law)
  cases e
  obtain ⟨oc_pen, od_pen, kV_pen, dc_pen, pm_pen, an_pen, cd_pen, ct_pen, sl_pen, l_pen, c_pen⟩ := f_pen.ex
  have F_pen := fun_mk (st := sPen) l_pen c_pen k_pen
  have b_pen := F_pen.binds (ps := ["_law_script"]) fun _ _ _ _ _ _ us hl => match us, hl with | [_], _ => rfl
  obtain ⟨oc_draw, od_draw, kV_draw, dc_draw, pm_draw, an_draw, cd_draw, ct_draw, sl_draw, l_draw, c_draw⟩ := f_draw.ex
  have F_draw := fun_mk (st := sDraw) l_draw c_draw k_draw
  have b_draw := F_draw.binds (ps := ["_law_pen_here", "_law_span"]) fun _ _ _ _ _ _ us hl => match us, hl with | [_, _], _ => rfl
  obtain ⟨oc_pick, od_pick, kV_pick, dc_pick, pm_pick, an_pick, cd_pick, ct_pick, sl_pick, l_pick, c_pick⟩ := f_pick.ex
  have F_pick := fun_mk (st := sPick) l_pick c_pick k_pick
  have b_pick := F_pick.binds (ps := ["_law_pen_here", "_law_options"]) fun _ _ _ _ _ _ us hl => match us, hl with | [_, _], _ => rfl
  obtain ⟨oc_sgn, od_sgn, kV_sgn, dc_sgn, pm_sgn, an_sgn, cd_sgn, ct_sgn, sl_sgn, l_sgn, c_sgn⟩ := f_sgn.ex
  have F_sgn := fun_mk (st := sSigns) l_sgn c_sgn k_sgn
  have b_sgn := F_sgn.binds (ps := ([] : List Str)) fun _ _ _ _ _ _ us hl => match us, hl with | [], _ => rfl
  obtain ⟨oc_few, od_few, kV_few, dc_few, pm_few, an_few, cd_few, ct_few, sl_few, l_few, c_few⟩ := f_few.ex
  have F_few := fun_mk (st := sFew) l_few c_few k_few
  have b_few := F_few.binds (ps := ["_law_pen_here"]) fun _ _ _ _ _ _ us hl => match us, hl with | [_], _ => rfl
  obtain ⟨oc_row, od_row, kV_row, dc_row, pm_row, an_row, cd_row, ct_row, sl_row, l_row, c_row⟩ := f_row.ex
  have F_row := fun_mk (st := sRow) l_row c_row k_row
  have b_row := F_row.binds (ps := ["_law_pen_here", "_law_signs_here", "_law_least", "_law_most_letters"]) fun _ _ _ _ _ _ us hl => match us, hl with | [_, _, _, _], _ => rfl
  obtain ⟨oc_goal, od_goal, kV_goal, dc_goal, pm_goal, an_goal, cd_goal, ct_goal, sl_goal, l_goal, c_goal⟩ := f_goal.ex
  have F_goal := fun_mk (st := sGoal) l_goal c_goal k_goal
  have b_goal := F_goal.binds (ps := ["_law_pen_here", "_law_signs_here", "_law_wide", "_law_deep"]) fun _ _ _ _ _ _ us hl => match us, hl with | [_, _, _, _], _ => rfl
  obtain ⟨oc_sm, od_sm, kV_sm, dc_sm, pm_sm, an_sm, cd_sm, ct_sm, sl_sm, l_sm, c_sm⟩ := f_sm.ex
  have F_sm := fun_mk (st := sSame) l_sm c_sm k_sm
  have b_sm := F_sm.binds (ps := ["_law_one", "_law_other", "_law_rows"]) fun _ _ _ _ _ _ us hl => match us, hl with | [_, _, _], _ => rfl
  obtain ⟨oc_ru, od_ru, kV_ru, dc_ru, pm_ru, an_ru, cd_ru, ct_ru, sl_ru, l_ru, c_ru⟩ := f_ru.ex
  have F_ru := fun_mk (st := sRules) l_ru c_ru k_ru
  have b_ru := F_ru.binds (ps := ["_law_a", "_law_b", "_law_c", "_law_rows"]) fun _ _ _ _ _ _ us hl => match us, hl with | [_, _, _, _], _ => rfl
  obtain ⟨oc_mkg, od_mkg, kV_mkg, dc_mkg, pm_mkg, an_mkg, cd_mkg, ct_mkg, sl_mkg, l_mkg, c_mkg⟩ := f_mkg.ex
  have F_mkg := fun_mk (st := sMG) l_mkg c_mkg k_mkg
  have b_mkg := F_mkg.binds (ps := ["_law_goal_here"]) fun _ _ _ _ _ _ us hl => match us, hl with | [_], _ => rfl
  obtain ⟨oc_jw, od_jw, kV_jw, dc_jw, pm_jw, an_jw, cd_jw, ct_jw, sl_jw, l_jw, c_jw⟩ := f_jw.ex
  have F_jw := fun_mk (st := sJW) l_jw c_jw k_jw
  have b_jw := F_jw.binds (ps := ["_law_goal_here"]) fun _ _ _ _ _ _ us hl => match us, hl with | [_], _ => rfl
  obtain ⟨oc_jn, od_jn, kV_jn, dc_jn, pm_jn, an_jn, cd_jn, ct_jn, sl_jn, l_jn, c_jn⟩ := f_jn.ex
  have F_jn := fun_mk (st := sJline) l_jn c_jn k_jn
  have b_jn := F_jn.binds (ps := ["_law_pen_here", "_law_words", "_law_signs_here", "_law_most_letters"]) fun _ _ _ _ _ _ us hl => match us, hl with | [_, _, _, _], _ => rfl
  obtain ⟨oc_jl, od_jl, kV_jl, dc_jl, pm_jl, an_jl, cd_jl, ct_jl, sl_jl, l_jl, c_jl⟩ := f_jl.ex
  have F_jl := fun_mk (st := sJL) l_jl c_jl k_jl
  have b_jl := F_jl.binds (ps := ["_law_goal_here"]) fun _ _ _ _ _ _ us hl => match us, hl with | [_], _ => rfl
  obtain ⟨oc_ji, od_ji, kV_ji, dc_ji, pm_ji, an_ji, cd_ji, ct_ji, sl_ji, l_ji, c_ji⟩ := f_ji.ex
  have F_ji := fun_mk (st := sJlight) l_ji c_ji k_ji
  have b_ji := F_ji.binds (ps := ["_law_pen_here", "_law_signs_here", "_law_most_leaves", "_law_wide"]) fun _ _ _ _ _ _ us hl => match us, hl with | [_, _, _, _], _ => rfl
  obtain ⟨oc_law, od_law, kV_law, dc_law, pm_law, an_law, cd_law, ct_law, sl_law, l_law, c_law⟩ := f_law.ex
  have F_law := fun_mk (st := sLaw) l_law c_law k_law
  obtain ⟨oc_le, od_le, kV_le, dc_le, pm_le, an_le, cd_le, ct_le, sl_le, l_le, c_le⟩ := f_le.ex
  have F_le := fun_mk (st := sLetter) l_le c_le k_le
  have b_le := F_le.binds (ps := ["character"]) fun _ _ _ _ _ _ us hl => match us, hl with | [_], _ => rfl
  obtain ⟨oc_li, od_li, kV_li, dc_li, pm_li, an_li, cd_li, ct_li, sl_li, l_li, c_li⟩ := f_li.ex
  have F_li := fun_mk (st := sLine) l_li c_li k_li
  have b_li := F_li.binds (ps := ["value"]) fun _ _ _ _ _ _ us hl => match us, hl with | [_], _ => rfl
  obtain ⟨oc_wo, od_wo, kV_wo, dc_wo, pm_wo, an_wo, cd_wo, ct_wo, sl_wo, l_wo, c_wo⟩ := f_wo.ex
  have F_wo := fun_mk (st := sWord) l_wo c_wo k_wo
  have b_wo := F_wo.binds (ps := ["value"]) fun _ _ _ _ _ _ us hl => match us, hl with | [_], _ => rfl
  obtain ⟨oc_sh, od_sh, kV_sh, dc_sh, pm_sh, an_sh, cd_sh, ct_sh, sl_sh, l_sh, c_sh⟩ := f_sh.ex
  have F_sh := fun_mk (st := sShort) l_sh c_sh k_sh
  have b_sh := F_sh.binds (ps := ["value"]) fun _ _ _ _ _ _ us hl => match us, hl with | [_], _ => rfl
  obtain ⟨oc_di, od_di, kV_di, dc_di, pm_di, an_di, cd_di, ct_di, sl_di, l_di, c_di⟩ := f_di.ex
  have F_di := fun_mk (st := sDiff) l_di c_di k_di
  have b_di := F_di.binds (ps := ["line"]) fun _ _ _ _ _ _ us hl => match us, hl with | [_], _ => rfl
  obtain ⟨oc_it, od_it, kV_it, dc_it, pm_it, an_it, cd_it, ct_it, sl_it, l_it, c_it⟩ := f_it.ex
  have F_it := fun_mk (st := sIsT) l_it c_it k_it
  have b_it := F_it.binds (ps := ["value"]) fun _ _ _ _ _ _ us hl => match us, hl with | [_], _ => rfl
  obtain ⟨oc_pa, od_pa, kV_pa, dc_pa, pm_pa, an_pa, cd_pa, ct_pa, sl_pa, l_pa, c_pa⟩ := f_pa.ex
  have F_pa := fun_mk (st := sParts) l_pa c_pa k_pa
  have b_pa := F_pa.binds (ps := ["test"]) fun _ _ _ _ _ _ us hl => match us, hl with | [_], _ => rfl
  obtain ⟨oc_de, od_de, kV_de, dc_de, pm_de, an_de, cd_de, ct_de, sl_de, l_de, c_de⟩ := f_de.ex
  have F_de := fun_mk (st := sDepth) l_de c_de k_de
  have b_de := F_de.binds (ps := ["test"]) fun _ _ _ _ _ _ us hl => match us, hl with | [_], _ => rfl
  obtain ⟨oc_si, od_si, kV_si, dc_si, pm_si, an_si, cd_si, ct_si, sl_si, l_si, c_si⟩ := f_si.ex
  have F_si := fun_mk (st := sSimple) l_si c_si k_si
  have b_si := F_si.binds (ps := ["test"]) fun _ _ _ _ _ _ us hl => match us, hl with | [_], _ => rfl
  obtain ⟨oc_fi, od_fi, kV_fi, dc_fi, pm_fi, an_fi, cd_fi, ct_fi, sl_fi, l_fi, c_fi⟩ := f_fi.ex
  have F_fi := fun_mk (st := sFits) l_fi c_fi k_fi
  have b_fi := F_fi.binds (ps := ["value"]) fun _ _ _ _ _ _ us hl => match us, hl with | [_], _ => rfl
  obtain ⟨oc_ft, od_ft, kV_ft, dc_ft, pm_ft, an_ft, cd_ft, ct_ft, sl_ft, l_ft, c_ft⟩ := f_ft.ex
  have F_ft := fun_mk (st := sFitT) l_ft c_ft k_ft
  have b_ft := F_ft.binds (ps := ["one", "other"]) fun _ _ _ _ _ _ us hl => match us, hl with | [_, _], _ => rfl
  obtain ⟨oc_cw, od_cw, kV_cw, dc_cw, pm_cw, an_cw, cd_cw, ct_cw, sl_cw, l_cw, c_cw⟩ := f_cw.ex
  have F_cw := fun_mk (st := sChkW) l_cw c_cw k_cw
  have b_cw := F_cw.binds (ps := ["word"]) fun _ _ _ _ _ _ us hl => match us, hl with | [_], _ => rfl
  obtain ⟨oc_cp, od_cp, kV_cp, dc_cp, pm_cp, an_cp, cd_cp, ct_cp, sl_cp, l_cp, c_cp⟩ := f_cp.ex
  have F_cp := fun_mk (st := sChkP) l_cp c_cp k_cp
  have b_cp := F_cp.binds (ps := ["one", "other"]) fun _ _ _ _ _ _ us hl => match us, hl with | [_, _], _ => rfl
  obtain ⟨oci0, odi0, kVi0, dci0, pmi0, ani0, cdi0, cti0, sli0, li0, ci0⟩ := fi0.ex
  have FI0 := fun_mk (st := sIHas) li0 ci0 ki0
  have bi0 := FI0.binds (ps := ["self", "word"]) fun _ _ _ _ _ _ us hl => match us, hl with | [_, _], _ => rfl
  obtain ⟨och0, odh0, kVh0, dch0, pmh0, anh0, cdh0, cth0, slh0, lh0, ch0⟩ := fh0.ex
  have FH0 := fun_mk (st := sHHas) lh0 ch0 mh0.kp
  have bh0 := FH0.binds (ps := ["self", "line"]) fun _ _ _ _ _ _ us hl => match us, hl with | [_, _], _ => rfl
  obtain ⟨oci1, odi1, kVi1, dci1, pmi1, ani1, cdi1, cti1, sli1, li1, ci1⟩ := fi1.ex
  have FI1 := fun_mk (st := sIBegins) li1 ci1 ki1
  have bi1 := FI1.binds (ps := ["self", "word"]) fun _ _ _ _ _ _ us hl => match us, hl with | [_, _], _ => rfl
  obtain ⟨och1, odh1, kVh1, dch1, pmh1, anh1, cdh1, cth1, slh1, lh1, ch1⟩ := fh1.ex
  have FH1 := fun_mk (st := sHBegins) lh1 ch1 mh1.kp
  have bh1 := FH1.binds (ps := ["self", "line"]) fun _ _ _ _ _ _ us hl => match us, hl with | [_, _], _ => rfl
  obtain ⟨oci2, odi2, kVi2, dci2, pmi2, ani2, cdi2, cti2, sli2, li2, ci2⟩ := fi2.ex
  have FI2 := fun_mk (st := sIEnds) li2 ci2 ki2
  have bi2 := FI2.binds (ps := ["self", "word"]) fun _ _ _ _ _ _ us hl => match us, hl with | [_, _], _ => rfl
  obtain ⟨och2, odh2, kVh2, dch2, pmh2, anh2, cdh2, cth2, slh2, lh2, ch2⟩ := fh2.ex
  have FH2 := fun_mk (st := sHEnds) lh2 ch2 mh2.kp
  have bh2 := FH2.binds (ps := ["self", "line"]) fun _ _ _ _ _ _ us hl => match us, hl with | [_, _], _ => rfl
  obtain ⟨oci3, odi3, kVi3, dci3, pmi3, ani3, cdi3, cti3, sli3, li3, ci3⟩ := fi3.ex
  have FI3 := fun_mk (st := sIIs) li3 ci3 ki3
  have bi3 := FI3.binds (ps := ["self", "line"]) fun _ _ _ _ _ _ us hl => match us, hl with | [_, _], _ => rfl
  obtain ⟨och3, odh3, kVh3, dch3, pmh3, anh3, cdh3, cth3, slh3, lh3, ch3⟩ := fh3.ex
  have FH3 := fun_mk (st := sHIs) lh3 ch3 mh3.kp
  have bh3 := FH3.binds (ps := ["self", "line"]) fun _ _ _ _ _ _ us hl => match us, hl with | [_, _], _ => rfl
  obtain ⟨oci4, odi4, kVi4, dci4, pmi4, ani4, cdi4, cti4, sli4, li4, ci4⟩ := fi4.ex
  have FI4 := fun_mk (st := sIOn) li4 ci4 ki4
  have bi4 := FI4.binds (ps := ["self", "letters"]) fun _ _ _ _ _ _ us hl => match us, hl with | [_, _], _ => rfl
  obtain ⟨och4, odh4, kVh4, dch4, pmh4, anh4, cdh4, cth4, slh4, lh4, ch4⟩ := fh4.ex
  have FH4 := fun_mk (st := sHOn) lh4 ch4 mh4.kp
  have bh4 := FH4.binds (ps := ["self", "line"]) fun _ _ _ _ _ _ us hl => match us, hl with | [_, _], _ => rfl
  obtain ⟨oci5, odi5, kVi5, dci5, pmi5, ani5, cdi5, cti5, sli5, li5, ci5⟩ := fi5.ex
  have FI5 := fun_mk (st := sIFa) li5 ci5 ki5
  have bi5 := FI5.binds (ps := ["self", "test"]) fun _ _ _ _ _ _ us hl => match us, hl with | [_, _], _ => rfl
  obtain ⟨och5, odh5, kVh5, dch5, pmh5, anh5, cdh5, cth5, slh5, lh5, ch5⟩ := fh5.ex
  have FH5 := fun_mk (st := sHFa) lh5 ch5 mh5.kp
  have bh5 := FH5.binds (ps := ["self", "line"]) fun _ _ _ _ _ _ us hl => match us, hl with | [_, _], _ => rfl
  obtain ⟨oci6, odi6, kVi6, dci6, pmi6, ani6, cdi6, cti6, sli6, li6, ci6⟩ := fi6.ex
  have FI6 := fun_mk (st := sIBoth) li6 ci6 ki6
  have bi6 := FI6.binds (ps := ["self", "one", "other"]) fun _ _ _ _ _ _ us hl => match us, hl with | [_, _, _], _ => rfl
  obtain ⟨och6, odh6, kVh6, dch6, pmh6, anh6, cdh6, cth6, slh6, lh6, ch6⟩ := fh6.ex
  have FH6 := fun_mk (st := sHBoth) lh6 ch6 mh6.kp
  have bh6 := FH6.binds (ps := ["self", "line"]) fun _ _ _ _ _ _ us hl => match us, hl with | [_, _], _ => rfl
  obtain ⟨oci7, odi7, kVi7, dci7, pmi7, ani7, cdi7, cti7, sli7, li7, ci7⟩ := fi7.ex
  have FI7 := fun_mk (st := sIEither) li7 ci7 ki7
  have bi7 := FI7.binds (ps := ["self", "one", "other"]) fun _ _ _ _ _ _ us hl => match us, hl with | [_, _, _], _ => rfl
  obtain ⟨och7, odh7, kVh7, dch7, pmh7, anh7, cdh7, cth7, slh7, lh7, ch7⟩ := fh7.ex
  have FH7 := fun_mk (st := sHEither) lh7 ch7 mh7.kp
  have bh7 := FH7.binds (ps := ["self", "line"]) fun _ _ _ _ _ _ us hl => match us, hl with | [_, _], _ => rfl
  obtain ⟨ocq0, odq0, kVq0, dcq0, pmq0, anq0, cdq0, ctq0, slq0, lq0, cq0⟩ := fq0.ex
  have FQ0 := fun_mk (st := sGFtest) lq0 cq0 kq0
  have bq0 := FQ0.binds (ps := ["self"]) fun _ _ _ _ _ _ us hl => match us, hl with | [_], _ => rfl
  obtain ⟨ocq1, odq1, kVq1, dcq1, pmq1, anq1, cdq1, ctq1, slq1, lq1, cq1⟩ := fq1.ex
  have FQ1 := fun_mk (st := sGBone) lq1 cq1 kq1
  have bq1 := FQ1.binds (ps := ["self"]) fun _ _ _ _ _ _ us hl => match us, hl with | [_], _ => rfl
  obtain ⟨ocq2, odq2, kVq2, dcq2, pmq2, anq2, cdq2, ctq2, slq2, lq2, cq2⟩ := fq2.ex
  have FQ2 := fun_mk (st := sGBother) lq2 cq2 kq2
  have bq2 := FQ2.binds (ps := ["self"]) fun _ _ _ _ _ _ us hl => match us, hl with | [_], _ => rfl
  obtain ⟨ocq3, odq3, kVq3, dcq3, pmq3, anq3, cdq3, ctq3, slq3, lq3, cq3⟩ := fq3.ex
  have FQ3 := fun_mk (st := sGEone) lq3 cq3 kq3
  have bq3 := FQ3.binds (ps := ["self"]) fun _ _ _ _ _ _ us hl => match us, hl with | [_], _ => rfl
  obtain ⟨ocq4, odq4, kVq4, dcq4, pmq4, anq4, cdq4, ctq4, slq4, lq4, cq4⟩ := fq4.ex
  have FQ4 := fun_mk (st := sGEother) lq4 cq4 kq4
  have bq4 := FQ4.binds (ps := ["self"]) fun _ _ _ _ _ _ us hl => match us, hl with | [_], _ => rfl
  have L0 : PkT mg t0 t1 t2 t3 := ⟨mg_none_of X G z_len, mg_none_of X G z_set, mg_none_of X G z_all, mg_none_of X G z_ord, mg_none_of X G z_isinstance, mg_none_of X G z_str, mg_of X G y0, mg_of X G y1, mg_of X G y2, mg_of X G y3⟩
  have T0 : Txt mg := ⟨mg_none_of X G z_len, mg_none_of X G z_int, mg_none_of X G z_list, mg_none_of X G z_abs⟩
  have N0 : NamT mg (n8 C0 C1 C2 C3 C4 C5 C6 C7) := ⟨mg_none_of X G z_isinstance, mg_of X G gc0, mg_of X G gc1, mg_of X G gc2, mg_of X G gc3, mg_of X G gc4, mg_of X G gc5, mg_of X G gc6, mg_of X G gc7⟩
  have k0 : KC K (n8 C0 C1 C2 C3 C4 C5 C6 C7) := ⟨fun i hi => match i, hi with | 0, _ => cl0 | 1, _ => cl1 | 2, _ => cl2 | 3, _ => cl3 | 4, _ => cl4 | 5, _ => cl5 | 6, _ => cl6 | 7, _ => cl7 | (n + 8), h => absurd h (by omega), fun i hi => match i, hi with | 0, _ => ca0 | 1, _ => ca1 | 2, _ => ca2 | 3, _ => ca3 | 4, _ => ca4 | 5, _ => ca5 | 6, _ => ca6 | 7, _ => ca7 | (n + 8), h => absurd h (by omega), cg, ct, fun i hi => match i, hi with | 0, _ => ob0 | 1, _ => ob1 | 2, _ => ob2 | 3, _ => ob3 | 4, _ => ob4 | 5, _ => ob5 | 6, _ => ob6 | 7, _ => ob7 | (n + 8), h => absurd h (by omega), fun i j hi hj => match i, j, hi, hj with | 0, 0, _, _ => kt00 | 0, 1, _, _ => kt01 | 0, 2, _, _ => kt02 | 0, 3, _, _ => kt03 | 0, 4, _, _ => kt04 | 0, 5, _, _ => kt05 | 0, 6, _, _ => kt06 | 0, 7, _, _ => kt07 | 1, 0, _, _ => kt10 | 1, 1, _, _ => kt11 | 1, 2, _, _ => kt12 | 1, 3, _, _ => kt13 | 1, 4, _, _ => kt14 | 1, 5, _, _ => kt15 | 1, 6, _, _ => kt16 | 1, 7, _, _ => kt17 | 2, 0, _, _ => kt20 | 2, 1, _, _ => kt21 | 2, 2, _, _ => kt22 | 2, 3, _, _ => kt23 | 2, 4, _, _ => kt24 | 2, 5, _, _ => kt25 | 2, 6, _, _ => kt26 | 2, 7, _, _ => kt27 | 3, 0, _, _ => kt30 | 3, 1, _, _ => kt31 | 3, 2, _, _ => kt32 | 3, 3, _, _ => kt33 | 3, 4, _, _ => kt34 | 3, 5, _, _ => kt35 | 3, 6, _, _ => kt36 | 3, 7, _, _ => kt37 | 4, 0, _, _ => kt40 | 4, 1, _, _ => kt41 | 4, 2, _, _ => kt42 | 4, 3, _, _ => kt43 | 4, 4, _, _ => kt44 | 4, 5, _, _ => kt45 | 4, 6, _, _ => kt46 | 4, 7, _, _ => kt47 | 5, 0, _, _ => kt50 | 5, 1, _, _ => kt51 | 5, 2, _, _ => kt52 | 5, 3, _, _ => kt53 | 5, 4, _, _ => kt54 | 5, 5, _, _ => kt55 | 5, 6, _, _ => kt56 | 5, 7, _, _ => kt57 | 6, 0, _, _ => kt60 | 6, 1, _, _ => kt61 | 6, 2, _, _ => kt62 | 6, 3, _, _ => kt63 | 6, 4, _, _ => kt64 | 6, 5, _, _ => kt65 | 6, 6, _, _ => kt66 | 6, 7, _, _ => kt67 | 7, 0, _, _ => kt70 | 7, 1, _, _ => kt71 | 7, 2, _, _ => kt72 | 7, 3, _, _ => kt73 | 7, 4, _, _ => kt74 | 7, 5, _, _ => kt75 | 7, 6, _, _ => kt76 | 7, 7, _, _ => kt77 | (n + 8), _, h, _ => absurd h (by omega) | _, (n + 8), _, h => absurd h (by omega)⟩
  refine ⟨fnOf "law" "law" (defArgs sLaw) (defBody sLaw) (defScope sLaw) .none kV_law dc_law pm_law an_law cd_law ct_law, fun s v => .of_eq rfl, fun base _ _ => ?_⟩
  have o_draw := ok_draw (P := P) (w := w) (base := base) F_draw T0
  have cD : Draws P w K mg base a_draw _ := ⟨o_draw, mg_of X G g_draw, k_draw, b_draw⟩
  have cP : PickAt P w K mg base a_pick _ := ⟨ok_pick F_pick T0 o_draw (mg_of X G g_draw) k_draw b_draw, mg_of X G g_pick, k_pick, b_pick⟩
  have mR := mg_none_of X G z_range
  have c_few : CallOf P w K mg base 3 "_law_few" ["_law_pen_here"] spFew a_few _ := ⟨ok_few F_few T0 mR cP F_sgn (fun s => .of_eq rfl) (mg_of X G g_sgn), mg_of X G g_few, k_few, b_few⟩
  have c_row : CallOf P w K mg base 3 "_law_row" ["_law_pen_here", "_law_signs_here", "_law_least", "_law_most_letters"] spRow a_row _ := ⟨ok_row F_row T0 mR cP o_draw (mg_of X G g_draw) k_draw b_draw, mg_of X G g_row, k_row, b_row⟩
  have c_goal : CallOf P w K mg base 6 "_law_goal" ["_law_pen_here", "_law_signs_here", "_law_wide", "_law_deep"] (spGoal 2) a_goal _ := ⟨ok_goal F_goal cD cP c_row (mg_of X G g_goal) k_goal b_goal 2, mg_of X G g_goal, k_goal, b_goal⟩
  have c_le : CallOf P w K mg base 1 "is_letter" ["character"] spLetter a_le _ := ⟨ok_letter F_le L0, mg_of X G g_le, k_le, b_le⟩
  have c_li : CallOf P w K mg base 2 "is_line" ["value"] (spLine K) a_li _ := ⟨ok_line F_li L0 c_le, mg_of X G g_li, k_li, b_li⟩
  have c_wo : CallOf P w K mg base 3 "is_word" ["value"] (spAsk K wordB) a_wo _ := ⟨ok_word F_wo c_li, mg_of X G g_wo, k_wo, b_wo⟩
  have c_sh : CallOf P w K mg base 4 "is_short_word" ["value"] (spAsk K shortB) a_sh _ := ⟨ok_short F_sh L0 c_wo, mg_of X G g_sh, k_sh, b_sh⟩
  have c_di : CallOf P w K mg base 1 "are_different" ["line"] spDiffT a_di _ := ⟨ok_diff F_di L0, mg_of X G g_di, k_di, b_di⟩
  have c_cw : CallOf P w K mg base 5 "check_word" ["word"] spChkW a_cw _ := ⟨ok_chkW F_cw c_sh, mg_of X G g_cw, k_cw, b_cw⟩
  have r0 := ok_GFtest (P := P) (w := w) (mg := mg) (base := base) FQ0 cl5 no5
  have r1 := ok_GBone (P := P) (w := w) (mg := mg) (base := base) FQ1 cl6 no6
  have r2 := ok_GBother (P := P) (w := w) (mg := mg) (base := base) FQ2 cl6 np6
  have r3 := ok_GEone (P := P) (w := w) (mg := mg) (base := base) FQ3 cl7 no7
  have r4 := ok_GEother (P := P) (w := w) (mg := mg) (base := base) FQ4 cl7 np7
  have gt : GetT P w K mg base (n8 C0 C1 C2 C3 C4 C5 C6 C7) (n8 P0 P1 P2 P3 P4 P4 P4 P4) (n8 Q0 Q1 Q2 Q3 Q4 Q4 Q4 Q4) (n8 (fnOf "test" "Fails.test" (defArgs sGFtest) (defBody sGFtest) (defScope sGFtest) .none kVq0 dcq0 pmq0 anq0 cdq0 ctq0) (fnOf "one" "Both.one" (defArgs sGBone) (defBody sGBone) (defScope sGBone) .none kVq1 dcq1 pmq1 anq1 cdq1 ctq1) (fnOf "other" "Both.other" (defArgs sGBother) (defBody sGBother) (defScope sGBother) .none kVq2 dcq2 pmq2 anq2 cdq2 ctq2) (fnOf "one" "Either.one" (defArgs sGEone) (defBody sGEone) (defScope sGEone) .none kVq3 dcq3 pmq3 anq3 cdq3 ctq3) (fnOf "other" "Either.other" (defArgs sGEother) (defBody sGEother) (defScope sGEother) .none kVq4 dcq4 pmq4 anq4 cdq4 ctq4) (fnOf "other" "Either.other" (defArgs sGEother) (defBody sGEother) (defScope sGEother) .none kVq4 dcq4 pmq4 anq4 cdq4 ctq4) (fnOf "other" "Either.other" (defArgs sGEother) (defBody sGEother) (defScope sGEother) .none kVq4 dcq4 pmq4 anq4 cdq4 ctq4) (fnOf "other" "Either.other" (defArgs sGEother) (defBody sGEother) (defScope sGEother) .none kVq4 dcq4 pmq4 anq4 cdq4 ctq4)) := ⟨⟨pr0, r0, bq0⟩, ⟨pr1, r1, bq1⟩, ⟨pr2, r2, bq2⟩, ⟨pr3, r3, bq3⟩, ⟨pr4, r4, bq4⟩⟩
  have c_pa : CallOf P w K mg base 3 "parts" ["test"] (spParts (n8 C0 C1 C2 C3 C4 C5 C6 C7)) a_pa _ := ⟨ok_parts F_pa N0 k0 gt, mg_of X G g_pa, k_pa, b_pa⟩
  have c_de : CallOf P w K mg base 11 "depth_of" ["test"] (spDepth (n8 C0 C1 C2 C3 C4 C5 C6 C7) 8) a_de _ := ⟨ok_depth F_de (mg_none_of X G z_max) (mg_of X G g_de) k_de b_de c_pa 8, mg_of X G g_de, k_de, b_de⟩
  have c_it : CallOf P w K mg base 1 "is_test" ["value"] (spIsT (n8 C0 C1 C2 C3 C4 C5 C6 C7)) a_it _ := ⟨ok_isT F_it N0 k0, mg_of X G g_it, k_it, b_it⟩
  have c_fi : CallOf P w K mg base 12 "fits_within" ["value"] (spFits (n8 C0 C1 C2 C3 C4 C5 C6 C7)) a_fi _ := ⟨ok_fits F_fi (mg_of X G y5) c_it c_de, mg_of X G g_fi, k_fi, b_fi⟩
  have c_si : CallOf P w K mg base 11 "simple_tests" ["test"] (spSimple (n8 C0 C1 C2 C3 C4 C5 C6 C7) 8) a_si _ := ⟨ok_simple F_si (mg_of X G g_si) k_si b_si c_pa 8, mg_of X G g_si, k_si, b_si⟩
  have c_ft : CallOf P w K mg base 12 "fit_together" ["one", "other"] (spTwo (n8 C0 C1 C2 C3 C4 C5 C6 C7) (.bl true)) a_ft _ := ⟨ok_fitT F_ft (mg_none_of X G z_len) (mg_of X G y6) c_si, mg_of X G g_ft, k_ft, b_ft⟩
  have c_cp : CallOf P w K mg base 13 "check_pair" ["one", "other"] (spTwo (n8 C0 C1 C2 C3 C4 C5 C6 C7) .non) a_cp _ := ⟨ok_chkP F_cp c_fi c_ft, mg_of X G g_cp, k_cp, b_cp⟩
  have MK : Makers P w K mg base (n8 C0 C1 C2 C3 C4 C5 C6 C7) (n8 I0 I1 I2 I3 I4 I5 I6 I7) (n8 (fnOf "__init__" "Has.__init__" (defArgs sIHas) (defBody sIHas) (defScope sIHas) .none kVi0 dci0 pmi0 ani0 cdi0 cti0) (fnOf "__init__" "Begins.__init__" (defArgs sIBegins) (defBody sIBegins) (defScope sIBegins) .none kVi1 dci1 pmi1 ani1 cdi1 cti1) (fnOf "__init__" "Ends.__init__" (defArgs sIEnds) (defBody sIEnds) (defScope sIEnds) .none kVi2 dci2 pmi2 ani2 cdi2 cti2) (fnOf "__init__" "Is.__init__" (defArgs sIIs) (defBody sIIs) (defScope sIIs) .none kVi3 dci3 pmi3 ani3 cdi3 cti3) (fnOf "__init__" "Only.__init__" (defArgs sIOn) (defBody sIOn) (defScope sIOn) .none kVi4 dci4 pmi4 ani4 cdi4 cti4) (fnOf "__init__" "Fails.__init__" (defArgs sIFa) (defBody sIFa) (defScope sIFa) .none kVi5 dci5 pmi5 ani5 cdi5 cti5) (fnOf "__init__" "Both.__init__" (defArgs sIBoth) (defBody sIBoth) (defScope sIBoth) .none kVi6 dci6 pmi6 ani6 cdi6 cti6) (fnOf "__init__" "Either.__init__" (defArgs sIEither) (defBody sIEither) (defScope sIEither) .none kVi7 dci7 pmi7 ani7 cdi7 cti7)) := ⟨⟨mk0, ok_IHas FI0 ⟨cl0, no0⟩ c_cw, bi0⟩, ⟨mk1, ok_IBegins FI1 ⟨cl1, no1⟩ c_cw, bi1⟩, ⟨mk2, ok_IEnds FI2 ⟨cl2, no2⟩ c_cw, bi2⟩, ⟨mk3, ok_IIs FI3 ⟨cl3, no3⟩ L0 (mg_of X G y4) c_li, bi3⟩, ⟨mk4, ok_IOn FI4 ⟨cl4, no4⟩ c_li c_di, bi4⟩, ⟨mk5, ok_IFa (C := (n8 C0 C1 C2 C3 C4 C5 C6 C7)) FI5 ⟨cl5, no5⟩ c_fi, bi5⟩, ⟨mk6, ok_IBoth (C := (n8 C0 C1 C2 C3 C4 C5 C6 C7)) FI6 ⟨cl6, no6, np6⟩ c_cp, bi6⟩, ⟨mk7, ok_IEither (C := (n8 C0 C1 C2 C3 C4 C5 C6 C7)) FI7 ⟨cl7, no7, np7⟩ c_cp, bi7⟩⟩
  have HT : HoldT K (n8 C0 C1 C2 C3 C4 C5 C6 C7) (n8 H0 H1 H2 H3 H4 H5 H6 H7) (n8 (fnOf "holds" "Has.holds" (defArgs sHHas) (defBody sHHas) (defScope sHHas) .none kVh0 dch0 pmh0 anh0 cdh0 cth0) (fnOf "holds" "Begins.holds" (defArgs sHBegins) (defBody sHBegins) (defScope sHBegins) .none kVh1 dch1 pmh1 anh1 cdh1 cth1) (fnOf "holds" "Ends.holds" (defArgs sHEnds) (defBody sHEnds) (defScope sHEnds) .none kVh2 dch2 pmh2 anh2 cdh2 cth2) (fnOf "holds" "Is.holds" (defArgs sHIs) (defBody sHIs) (defScope sHIs) .none kVh3 dch3 pmh3 anh3 cdh3 cth3) (fnOf "holds" "Only.holds" (defArgs sHOn) (defBody sHOn) (defScope sHOn) .none kVh4 dch4 pmh4 anh4 cdh4 cth4) (fnOf "holds" "Fails.holds" (defArgs sHFa) (defBody sHFa) (defScope sHFa) .none kVh5 dch5 pmh5 anh5 cdh5 cth5) (fnOf "holds" "Both.holds" (defArgs sHBoth) (defBody sHBoth) (defScope sHBoth) .none kVh6 dch6 pmh6 anh6 cdh6 cth6) (fnOf "holds" "Either.holds" (defArgs sHEither) (defBody sHEither) (defScope sHEither) .none kVh7 dch7 pmh7 anh7 cdh7 cth7)) := ⟨fun i => match i with | ⟨0, _⟩ => mh0 | ⟨1, _⟩ => mh1 | ⟨2, _⟩ => mh2 | ⟨3, _⟩ => mh3 | ⟨4, _⟩ => mh4 | ⟨5, _⟩ => mh5 | ⟨6, _⟩ => mh6 | ⟨7, _⟩ => mh7, fun i => match i with | ⟨0, _⟩ => bh0 | ⟨1, _⟩ => bh1 | ⟨2, _⟩ => bh2 | ⟨3, _⟩ => bh3 | ⟨4, _⟩ => bh4 | ⟨5, _⟩ => bh5 | ⟨6, _⟩ => bh6 | ⟨7, _⟩ => bh7⟩
  have HF : HoldF K (n8 C0 C1 C2 C3 C4 C5 C6 C7) (n8 H0 H1 H2 H3 H4 H5 H6 H7) (n8 (fnOf "holds" "Has.holds" (defArgs sHHas) (defBody sHHas) (defScope sHHas) .none kVh0 dch0 pmh0 anh0 cdh0 cth0) (fnOf "holds" "Begins.holds" (defArgs sHBegins) (defBody sHBegins) (defScope sHBegins) .none kVh1 dch1 pmh1 anh1 cdh1 cth1) (fnOf "holds" "Ends.holds" (defArgs sHEnds) (defBody sHEnds) (defScope sHEnds) .none kVh2 dch2 pmh2 anh2 cdh2 cth2) (fnOf "holds" "Is.holds" (defArgs sHIs) (defBody sHIs) (defScope sHIs) .none kVh3 dch3 pmh3 anh3 cdh3 cth3) (fnOf "holds" "Only.holds" (defArgs sHOn) (defBody sHOn) (defScope sHOn) .none kVh4 dch4 pmh4 anh4 cdh4 cth4) (fnOf "holds" "Fails.holds" (defArgs sHFa) (defBody sHFa) (defScope sHFa) .none kVh5 dch5 pmh5 anh5 cdh5 cth5) (fnOf "holds" "Both.holds" (defArgs sHBoth) (defBody sHBoth) (defScope sHBoth) .none kVh6 dch6 pmh6 anh6 cdh6 cth6) (fnOf "holds" "Either.holds" (defArgs sHEither) (defBody sHEither) (defScope sHEither) .none kVh7 dch7 pmh7 anh7 cdh7 cth7)) := ⟨FH0, FH1, FH2, FH3, FH4, FH5, FH6, FH7, ⟨cl0, no0⟩, ⟨cl1, no1⟩, ⟨cl2, no2⟩, ⟨cl3, no3⟩, ⟨cl4, no4⟩, ⟨cl5, no5⟩, ⟨cl6, no6, np6⟩, ⟨cl7, no7, np7⟩⟩
  have AH := all_hold (P := P) (w := w) (base := base) k0 HT HF (mg_none_of X G z_all) 5
  have c_sm : CallOf P w K mg base 7 "_law_same" ["_law_one", "_law_other", "_law_rows"] (spSame (n8 C0 C1 C2 C3 C4 C5 C6 C7) 5) a_sm _ := ⟨ok_same F_sm k0 HT AH, mg_of X G g_sm, k_sm, b_sm⟩
  have c_ru : CallOf P w K mg base 16 "_law_rules_right" ["_law_a", "_law_b", "_law_c", "_law_rows"] (spRules (n8 C0 C1 C2 C3 C4 C5 C6 C7)) a_ru _ := ⟨ok_rules F_ru N0 MK c_sm, mg_of X G g_ru, k_ru, b_ru⟩
  have c_mkg : CallOf P w K mg base 19 "_law_made_goal" ["_law_goal_here"] (spMG (n8 C0 C1 C2 C3 C4 C5 C6 C7) 3) a_mkg _ := ⟨ok_MG F_mkg N0 MK (mg_of X G g_mkg) k_mkg b_mkg 3, mg_of X G g_mkg, k_mkg, b_mkg⟩
  have c_jw : CallOf P w K mg base 4 "_law_jwords" ["_law_goal_here"] (spJ RW 3) a_jw _ := ⟨ok_JW F_jw (mg_none_of X G z_sum) (mg_none_of X G z_list) (mg_of X G g_jw) k_jw b_jw 3, mg_of X G g_jw, k_jw, b_jw⟩
  have c_jl : CallOf P w K mg base 4 "_law_jleaves" ["_law_goal_here"] (spJ RL 3) a_jl _ := ⟨ok_JL F_jl (mg_none_of X G z_sum) (mg_none_of X G z_list) (mg_of X G g_jl) k_jl b_jl 3, mg_of X G g_jl, k_jl, b_jl⟩
  have c_ji : CallOf P w K mg base 7 "_law_jlight" ["_law_pen_here", "_law_signs_here", "_law_most_leaves", "_law_wide"] spJlight a_ji _ := ⟨ok_jlight F_ji (mg_none_of X G z_len) c_goal c_jl, mg_of X G g_ji, k_ji, b_ji⟩
  have c_jn : CallOf P w K mg base 4 "_law_jline" ["_law_pen_here", "_law_words", "_law_signs_here", "_law_most_letters"] spJline a_jn _ := ⟨ok_jline F_jn T0 mR cD cP c_row, mg_of X G g_jn, k_jn, b_jn⟩
  have c_pen : CallOf P w K mg base 1 "_law_pen" ["_law_script"] (spPen K) a_pen _ := ⟨ok_pen F_pen T0, mg_of X G g_pen, k_pen, b_pen⟩
  have M : LawC P w K mg base (n8 C0 C1 C2 C3 C4 C5 C6 C7) (n9 a_pen a_few a_ji a_mkg a_jw a_jn a_ru a_row a_draw) (n9 (fnOf "_law_pen" "_law_pen" (defArgs sPen) (defBody sPen) (defScope sPen) .none kV_pen dc_pen pm_pen an_pen cd_pen ct_pen) (fnOf "_law_few" "_law_few" (defArgs sFew) (defBody sFew) (defScope sFew) .none kV_few dc_few pm_few an_few cd_few ct_few) (fnOf "_law_jlight" "_law_jlight" (defArgs sJlight) (defBody sJlight) (defScope sJlight) .none kV_ji dc_ji pm_ji an_ji cd_ji ct_ji) (fnOf "_law_made_goal" "_law_made_goal" (defArgs sMG) (defBody sMG) (defScope sMG) .none kV_mkg dc_mkg pm_mkg an_mkg cd_mkg ct_mkg) (fnOf "_law_jwords" "_law_jwords" (defArgs sJW) (defBody sJW) (defScope sJW) .none kV_jw dc_jw pm_jw an_jw cd_jw ct_jw) (fnOf "_law_jline" "_law_jline" (defArgs sJline) (defBody sJline) (defScope sJline) .none kV_jn dc_jn pm_jn an_jn cd_jn ct_jn) (fnOf "_law_rules_right" "_law_rules_right" (defArgs sRules) (defBody sRules) (defScope sRules) .none kV_ru dc_ru pm_ru an_ru cd_ru ct_ru) (fnOf "_law_row" "_law_row" (defArgs sRow) (defBody sRow) (defScope sRow) .none kV_row dc_row pm_row an_row cd_row ct_row) (fnOf "_law_draw" "_law_draw" (defArgs sDraw) (defBody sDraw) (defScope sDraw) .none kV_draw dc_draw pm_draw an_draw cd_draw ct_draw)) := ⟨c_pen, c_few, c_ji, c_mkg, c_jw, c_jn, c_ru, c_row, ⟨cD.ok, cD.m, cD.k, cD.b⟩⟩
  exact ok_law F_law ⟨mR, mg_none_of X G z_len, mg_none_of X G z_sum, mg_none_of X G z_sorted, mg_none_of X G z_set⟩ M N0 k0 MK HT AH
end LA
end
section
open PySem PySem.W PyProof.Rows
set_option Elab.async false
set_option maxRecDepth 100000
set_option maxHeartbeats 0
open_top LA02head for PySem.Challenge.rw_linestream_k02_whole_tests_by_rules
end
section
set_option Elab.async false
set_option linter.all false
open PySem PySem.W PyProof.Rows
set_option maxRecDepth 100000 in
set_option maxHeartbeats 0 in
theorem PySem.Challenge.cw_linestream_k02_whole_tests_by_rules_holds : PySem.Challenge.rw_linestream_k02_whole_tests_by_rules.Holds :=
  LA02head (by
    k_fill
    refine XK.caller_walk (l := PySem.Challenge.rw_linestream_k02_whole_tests_by_rules) (n := 63) (k := 20) (x := "_law_script") (sp := fun w => LA.spLaw _) rfl (by decide) rfl ⟨rfl, by decide, by decide⟩ (fun w h Y => PySem.W.kIn_of Y) ?F (fun w H a ns hl hS => ⟨a, ns, rfl, hS, hl, fun _ => rfl⟩)
    case F =>
      intro w mg fa h KX G hmg0
      have hmg : mg "law" = some (.ref fa) := hmg0
      clear hmg0
      refine' LA.all_mk KX G hmg ?h_g_pen ?h_f_pen ?h_k_pen ?h_g_draw ?h_f_draw ?h_k_draw ?h_g_pick ?h_f_pick ?h_k_pick ?h_g_sgn ?h_f_sgn ?h_k_sgn ?h_g_few ?h_f_few ?h_k_few ?h_g_row ?h_f_row ?h_k_row ?h_g_goal ?h_f_goal ?h_k_goal ?h_g_sm ?h_f_sm ?h_k_sm ?h_g_ru ?h_f_ru ?h_k_ru ?h_g_mkg ?h_f_mkg ?h_k_mkg ?h_g_jw ?h_f_jw ?h_k_jw ?h_g_jn ?h_f_jn ?h_k_jn ?h_g_jl ?h_f_jl ?h_k_jl ?h_g_ji ?h_f_ji ?h_k_ji ?h_g_law ?h_f_law ?h_k_law ?h_g_le ?h_f_le ?h_k_le ?h_g_li ?h_f_li ?h_k_li ?h_g_wo ?h_f_wo ?h_k_wo ?h_g_sh ?h_f_sh ?h_k_sh ?h_g_di ?h_f_di ?h_k_di ?h_g_it ?h_f_it ?h_k_it ?h_g_pa ?h_f_pa ?h_k_pa ?h_g_de ?h_f_de ?h_k_de ?h_g_si ?h_f_si ?h_k_si ?h_g_fi ?h_f_fi ?h_k_fi ?h_g_ft ?h_f_ft ?h_k_ft ?h_g_cw ?h_f_cw ?h_k_cw ?h_g_cp ?h_f_cp ?h_k_cp ?h_gc0 ?h_cl0 ?h_mk0 ?h_mh0 ?h_fi0 ?h_ki0 ?h_fh0 ?h_ca0 ?h_ob0 ?h_no0 ?h_gc1 ?h_cl1 ?h_mk1 ?h_mh1 ?h_fi1 ?h_ki1 ?h_fh1 ?h_ca1 ?h_ob1 ?h_no1 ?h_gc2 ?h_cl2 ?h_mk2 ?h_mh2 ?h_fi2 ?h_ki2 ?h_fh2 ?h_ca2 ?h_ob2 ?h_no2 ?h_gc3 ?h_cl3 ?h_mk3 ?h_mh3 ?h_fi3 ?h_ki3 ?h_fh3 ?h_ca3 ?h_ob3 ?h_no3 ?h_gc4 ?h_cl4 ?h_mk4 ?h_mh4 ?h_fi4 ?h_ki4 ?h_fh4 ?h_ca4 ?h_ob4 ?h_no4 ?h_gc5 ?h_cl5 ?h_mk5 ?h_mh5 ?h_fi5 ?h_ki5 ?h_fh5 ?h_ca5 ?h_ob5 ?h_no5 ?h_gc6 ?h_cl6 ?h_mk6 ?h_mh6 ?h_fi6 ?h_ki6 ?h_fh6 ?h_ca6 ?h_ob6 ?h_no6 ?h_np6 ?h_gc7 ?h_cl7 ?h_mk7 ?h_mh7 ?h_fi7 ?h_ki7 ?h_fh7 ?h_ca7 ?h_ob7 ?h_no7 ?h_np7 ?h_pr0 ?h_fq0 ?h_kq0 ?h_pr1 ?h_fq1 ?h_kq1 ?h_pr2 ?h_fq2 ?h_kq2 ?h_pr3 ?h_fq3 ?h_kq3 ?h_pr4 ?h_fq4 ?h_kq4 ?h_cg ?h_ct ?h_kt00 ?h_kt01 ?h_kt02 ?h_kt03 ?h_kt04 ?h_kt05 ?h_kt06 ?h_kt07 ?h_kt10 ?h_kt11 ?h_kt12 ?h_kt13 ?h_kt14 ?h_kt15 ?h_kt16 ?h_kt17 ?h_kt20 ?h_kt21 ?h_kt22 ?h_kt23 ?h_kt24 ?h_kt25 ?h_kt26 ?h_kt27 ?h_kt30 ?h_kt31 ?h_kt32 ?h_kt33 ?h_kt34 ?h_kt35 ?h_kt36 ?h_kt37 ?h_kt40 ?h_kt41 ?h_kt42 ?h_kt43 ?h_kt44 ?h_kt45 ?h_kt46 ?h_kt47 ?h_kt50 ?h_kt51 ?h_kt52 ?h_kt53 ?h_kt54 ?h_kt55 ?h_kt56 ?h_kt57 ?h_kt60 ?h_kt61 ?h_kt62 ?h_kt63 ?h_kt64 ?h_kt65 ?h_kt66 ?h_kt67 ?h_kt70 ?h_kt71 ?h_kt72 ?h_kt73 ?h_kt74 ?h_kt75 ?h_kt76 ?h_kt77 ?h_z_len ?h_z_int ?h_z_list ?h_z_abs ?h_z_range ?h_z_set ?h_z_all ?h_z_ord ?h_z_isinstance ?h_z_str ?h_z_max ?h_z_sum ?h_z_sorted ?h_y0 ?h_y1 ?h_y2 ?h_y3 ?h_y4 ?h_y5 ?h_y6
      (case h_g_pen => k_is)
      (case h_f_pen => (refine' LA.fnF_mk ?q1 ?q2; (case q1 => k_is); (case q2 => k_is)))
      (case h_k_pen => k_is)
      (case h_g_draw => k_is)
      (case h_f_draw => (refine' LA.fnF_mk ?q1 ?q2; (case q1 => k_is); (case q2 => k_is)))
      (case h_k_draw => k_is)
      (case h_g_pick => k_is)
      (case h_f_pick => (refine' LA.fnF_mk ?q1 ?q2; (case q1 => k_is); (case q2 => k_is)))
      (case h_k_pick => k_is)
      (case h_g_sgn => k_is)
      (case h_f_sgn => (refine' LA.fnF_mk ?q1 ?q2; (case q1 => k_is); (case q2 => k_is)))
      (case h_k_sgn => k_is)
      (case h_g_few => k_is)
      (case h_f_few => (refine' LA.fnF_mk ?q1 ?q2; (case q1 => k_is); (case q2 => k_is)))
      (case h_k_few => k_is)
      (case h_g_row => k_is)
      (case h_f_row => (refine' LA.fnF_mk ?q1 ?q2; (case q1 => k_is); (case q2 => k_is)))
      (case h_k_row => k_is)
      (case h_g_goal => k_is)
      (case h_f_goal => (refine' LA.fnF_mk ?q1 ?q2; (case q1 => k_is); (case q2 => k_is)))
      (case h_k_goal => k_is)
      (case h_g_sm => k_is)
      (case h_f_sm => (refine' LA.fnF_mk ?q1 ?q2; (case q1 => k_is); (case q2 => k_is)))
      (case h_k_sm => k_is)
      (case h_g_ru => k_is)
      (case h_f_ru => (refine' LA.fnF_mk ?q1 ?q2; (case q1 => k_is); (case q2 => k_is)))
      (case h_k_ru => k_is)
      (case h_g_mkg => k_is)
      (case h_f_mkg => (refine' LA.fnF_mk ?q1 ?q2; (case q1 => k_is); (case q2 => k_is)))
      (case h_k_mkg => k_is)
      (case h_g_jw => k_is)
      (case h_f_jw => (refine' LA.fnF_mk ?q1 ?q2; (case q1 => k_is); (case q2 => k_is)))
      (case h_k_jw => k_is)
      (case h_g_jn => k_is)
      (case h_f_jn => (refine' LA.fnF_mk ?q1 ?q2; (case q1 => k_is); (case q2 => k_is)))
      (case h_k_jn => k_is)
      (case h_g_jl => k_is)
      (case h_f_jl => (refine' LA.fnF_mk ?q1 ?q2; (case q1 => k_is); (case q2 => k_is)))
      (case h_k_jl => k_is)
      (case h_g_ji => k_is)
      (case h_f_ji => (refine' LA.fnF_mk ?q1 ?q2; (case q1 => k_is); (case q2 => k_is)))
      (case h_k_ji => k_is)
      (case h_g_law => k_is)
      (case h_f_law => (refine' LA.fnF_mk ?q1 ?q2; (case q1 => k_is); (case q2 => k_is)))
      (case h_k_law => k_is)
      (case h_g_le => k_is)
      (case h_f_le => (refine' LA.fnF_mk ?q1 ?q2; (case q1 => k_is); (case q2 => k_is)))
      (case h_k_le => k_is)
      (case h_g_li => k_is)
      (case h_f_li => (refine' LA.fnF_mk ?q1 ?q2; (case q1 => k_is); (case q2 => k_is)))
      (case h_k_li => k_is)
      (case h_g_wo => k_is)
      (case h_f_wo => (refine' LA.fnF_mk ?q1 ?q2; (case q1 => k_is); (case q2 => k_is)))
      (case h_k_wo => k_is)
      (case h_g_sh => k_is)
      (case h_f_sh => (refine' LA.fnF_mk ?q1 ?q2; (case q1 => k_is); (case q2 => k_is)))
      (case h_k_sh => k_is)
      (case h_g_di => k_is)
      (case h_f_di => (refine' LA.fnF_mk ?q1 ?q2; (case q1 => k_is); (case q2 => k_is)))
      (case h_k_di => k_is)
      (case h_g_it => k_is)
      (case h_f_it => (refine' LA.fnF_mk ?q1 ?q2; (case q1 => k_is); (case q2 => k_is)))
      (case h_k_it => k_is)
      (case h_g_pa => k_is)
      (case h_f_pa => (refine' LA.fnF_mk ?q1 ?q2; (case q1 => k_is); (case q2 => k_is)))
      (case h_k_pa => k_is)
      (case h_g_de => k_is)
      (case h_f_de => (refine' LA.fnF_mk ?q1 ?q2; (case q1 => k_is); (case q2 => k_is)))
      (case h_k_de => k_is)
      (case h_g_si => k_is)
      (case h_f_si => (refine' LA.fnF_mk ?q1 ?q2; (case q1 => k_is); (case q2 => k_is)))
      (case h_k_si => k_is)
      (case h_g_fi => k_is)
      (case h_f_fi => (refine' LA.fnF_mk ?q1 ?q2; (case q1 => k_is); (case q2 => k_is)))
      (case h_k_fi => k_is)
      (case h_g_ft => k_is)
      (case h_f_ft => (refine' LA.fnF_mk ?q1 ?q2; (case q1 => k_is); (case q2 => k_is)))
      (case h_k_ft => k_is)
      (case h_g_cw => k_is)
      (case h_f_cw => (refine' LA.fnF_mk ?q1 ?q2; (case q1 => k_is); (case q2 => k_is)))
      (case h_k_cw => k_is)
      (case h_g_cp => k_is)
      (case h_f_cp => (refine' LA.fnF_mk ?q1 ?q2; (case q1 => k_is); (case q2 => k_is)))
      (case h_k_cp => k_is)
      (case h_gc0 => k_is)
      (case h_cl0 => (refine' ⟨?q1, ?q2, ?q3, ?q4⟩; (case q1 => k_is); (case q2 => k_is); (case q3 => k_is); (case q4 => k_is)))
      (case h_mk0 => (refine' ⟨?q1, ?q2, ?q3, ?q4⟩; (case q1 => k_is); (case q2 => k_is); (case q3 => k_is); (case q4 => k_is)))
      (case h_mh0 => (refine' ⟨?q1, ?q2, ?q3⟩; (case q1 => k_is); (case q2 => k_is); (case q3 => k_is)))
      (case h_fi0 => (refine' LA.fnF_mk ?q1 ?q2; (case q1 => k_is); (case q2 => k_is)))
      (case h_ki0 => k_is)
      (case h_fh0 => (refine' LA.fnF_mk ?q1 ?q2; (case q1 => k_is); (case q2 => k_is)))
      (case h_ca0 => k_is)
      (case h_ob0 => k_is)
      (case h_no0 => unfold L2.NoAttr; k_is)
      (case h_gc1 => k_is)
      (case h_cl1 => (refine' ⟨?q1, ?q2, ?q3, ?q4⟩; (case q1 => k_is); (case q2 => k_is); (case q3 => k_is); (case q4 => k_is)))
      (case h_mk1 => (refine' ⟨?q1, ?q2, ?q3, ?q4⟩; (case q1 => k_is); (case q2 => k_is); (case q3 => k_is); (case q4 => k_is)))
      (case h_mh1 => (refine' ⟨?q1, ?q2, ?q3⟩; (case q1 => k_is); (case q2 => k_is); (case q3 => k_is)))
      (case h_fi1 => (refine' LA.fnF_mk ?q1 ?q2; (case q1 => k_is); (case q2 => k_is)))
      (case h_ki1 => k_is)
      (case h_fh1 => (refine' LA.fnF_mk ?q1 ?q2; (case q1 => k_is); (case q2 => k_is)))
      (case h_ca1 => k_is)
      (case h_ob1 => k_is)
      (case h_no1 => unfold L2.NoAttr; k_is)
      (case h_gc2 => k_is)
      (case h_cl2 => (refine' ⟨?q1, ?q2, ?q3, ?q4⟩; (case q1 => k_is); (case q2 => k_is); (case q3 => k_is); (case q4 => k_is)))
      (case h_mk2 => (refine' ⟨?q1, ?q2, ?q3, ?q4⟩; (case q1 => k_is); (case q2 => k_is); (case q3 => k_is); (case q4 => k_is)))
      (case h_mh2 => (refine' ⟨?q1, ?q2, ?q3⟩; (case q1 => k_is); (case q2 => k_is); (case q3 => k_is)))
      (case h_fi2 => (refine' LA.fnF_mk ?q1 ?q2; (case q1 => k_is); (case q2 => k_is)))
      (case h_ki2 => k_is)
      (case h_fh2 => (refine' LA.fnF_mk ?q1 ?q2; (case q1 => k_is); (case q2 => k_is)))
      (case h_ca2 => k_is)
      (case h_ob2 => k_is)
      (case h_no2 => unfold L2.NoAttr; k_is)
      (case h_gc3 => k_is)
      (case h_cl3 => (refine' ⟨?q1, ?q2, ?q3, ?q4⟩; (case q1 => k_is); (case q2 => k_is); (case q3 => k_is); (case q4 => k_is)))
      (case h_mk3 => (refine' ⟨?q1, ?q2, ?q3, ?q4⟩; (case q1 => k_is); (case q2 => k_is); (case q3 => k_is); (case q4 => k_is)))
      (case h_mh3 => (refine' ⟨?q1, ?q2, ?q3⟩; (case q1 => k_is); (case q2 => k_is); (case q3 => k_is)))
      (case h_fi3 => (refine' LA.fnF_mk ?q1 ?q2; (case q1 => k_is); (case q2 => k_is)))
      (case h_ki3 => k_is)
      (case h_fh3 => (refine' LA.fnF_mk ?q1 ?q2; (case q1 => k_is); (case q2 => k_is)))
      (case h_ca3 => k_is)
      (case h_ob3 => k_is)
      (case h_no3 => unfold L2.NoAttr; k_is)
      (case h_gc4 => k_is)
      (case h_cl4 => (refine' ⟨?q1, ?q2, ?q3, ?q4⟩; (case q1 => k_is); (case q2 => k_is); (case q3 => k_is); (case q4 => k_is)))
      (case h_mk4 => (refine' ⟨?q1, ?q2, ?q3, ?q4⟩; (case q1 => k_is); (case q2 => k_is); (case q3 => k_is); (case q4 => k_is)))
      (case h_mh4 => (refine' ⟨?q1, ?q2, ?q3⟩; (case q1 => k_is); (case q2 => k_is); (case q3 => k_is)))
      (case h_fi4 => (refine' LA.fnF_mk ?q1 ?q2; (case q1 => k_is); (case q2 => k_is)))
      (case h_ki4 => k_is)
      (case h_fh4 => (refine' LA.fnF_mk ?q1 ?q2; (case q1 => k_is); (case q2 => k_is)))
      (case h_ca4 => k_is)
      (case h_ob4 => k_is)
      (case h_no4 => unfold L2.NoAttr; k_is)
      (case h_gc5 => k_is)
      (case h_cl5 => (refine' ⟨?q1, ?q2, ?q3, ?q4⟩; (case q1 => k_is); (case q2 => k_is); (case q3 => k_is); (case q4 => k_is)))
      (case h_mk5 => (refine' ⟨?q1, ?q2, ?q3, ?q4⟩; (case q1 => k_is); (case q2 => k_is); (case q3 => k_is); (case q4 => k_is)))
      (case h_mh5 => (refine' ⟨?q1, ?q2, ?q3⟩; (case q1 => k_is); (case q2 => k_is); (case q3 => k_is)))
      (case h_fi5 => (refine' LA.fnF_mk ?q1 ?q2; (case q1 => k_is); (case q2 => k_is)))
      (case h_ki5 => k_is)
      (case h_fh5 => (refine' LA.fnF_mk ?q1 ?q2; (case q1 => k_is); (case q2 => k_is)))
      (case h_ca5 => k_is)
      (case h_ob5 => k_is)
      (case h_no5 => unfold L2.NoAttr; k_is)
      (case h_gc6 => k_is)
      (case h_cl6 => (refine' ⟨?q1, ?q2, ?q3, ?q4⟩; (case q1 => k_is); (case q2 => k_is); (case q3 => k_is); (case q4 => k_is)))
      (case h_mk6 => (refine' ⟨?q1, ?q2, ?q3, ?q4⟩; (case q1 => k_is); (case q2 => k_is); (case q3 => k_is); (case q4 => k_is)))
      (case h_mh6 => (refine' ⟨?q1, ?q2, ?q3⟩; (case q1 => k_is); (case q2 => k_is); (case q3 => k_is)))
      (case h_fi6 => (refine' LA.fnF_mk ?q1 ?q2; (case q1 => k_is); (case q2 => k_is)))
      (case h_ki6 => k_is)
      (case h_fh6 => (refine' LA.fnF_mk ?q1 ?q2; (case q1 => k_is); (case q2 => k_is)))
      (case h_ca6 => k_is)
      (case h_ob6 => k_is)
      (case h_no6 => unfold L2.NoAttr; k_is)
      (case h_np6 => unfold L2.NoAttr; k_is)
      (case h_gc7 => k_is)
      (case h_cl7 => (refine' ⟨?q1, ?q2, ?q3, ?q4⟩; (case q1 => k_is); (case q2 => k_is); (case q3 => k_is); (case q4 => k_is)))
      (case h_mk7 => (refine' ⟨?q1, ?q2, ?q3, ?q4⟩; (case q1 => k_is); (case q2 => k_is); (case q3 => k_is); (case q4 => k_is)))
      (case h_mh7 => (refine' ⟨?q1, ?q2, ?q3⟩; (case q1 => k_is); (case q2 => k_is); (case q3 => k_is)))
      (case h_fi7 => (refine' LA.fnF_mk ?q1 ?q2; (case q1 => k_is); (case q2 => k_is)))
      (case h_ki7 => k_is)
      (case h_fh7 => (refine' LA.fnF_mk ?q1 ?q2; (case q1 => k_is); (case q2 => k_is)))
      (case h_ca7 => k_is)
      (case h_ob7 => k_is)
      (case h_no7 => unfold L2.NoAttr; k_is)
      (case h_np7 => unfold L2.NoAttr; k_is)
      (case h_pr0 => (refine' LA.propF_mk ?q1 ?q2 ?q3 ?q4; (case q1 => k_is); (case q2 => k_is); (case q3 => k_is); (case q4 => k_is)))
      (case h_fq0 => (refine' LA.fnF_mk ?q1 ?q2; (case q1 => k_is); (case q2 => k_is)))
      (case h_kq0 => k_is)
      (case h_pr1 => (refine' LA.propF_mk ?q1 ?q2 ?q3 ?q4; (case q1 => k_is); (case q2 => k_is); (case q3 => k_is); (case q4 => k_is)))
      (case h_fq1 => (refine' LA.fnF_mk ?q1 ?q2; (case q1 => k_is); (case q2 => k_is)))
      (case h_kq1 => k_is)
      (case h_pr2 => (refine' LA.propF_mk ?q1 ?q2 ?q3 ?q4; (case q1 => k_is); (case q2 => k_is); (case q3 => k_is); (case q4 => k_is)))
      (case h_fq2 => (refine' LA.fnF_mk ?q1 ?q2; (case q1 => k_is); (case q2 => k_is)))
      (case h_kq2 => k_is)
      (case h_pr3 => (refine' LA.propF_mk ?q1 ?q2 ?q3 ?q4; (case q1 => k_is); (case q2 => k_is); (case q3 => k_is); (case q4 => k_is)))
      (case h_fq3 => (refine' LA.fnF_mk ?q1 ?q2; (case q1 => k_is); (case q2 => k_is)))
      (case h_kq3 => k_is)
      (case h_pr4 => (refine' LA.propF_mk ?q1 ?q2 ?q3 ?q4; (case q1 => k_is); (case q2 => k_is); (case q3 => k_is); (case q4 => k_is)))
      (case h_fq4 => (refine' LA.fnF_mk ?q1 ?q2; (case q1 => k_is); (case q2 => k_is)))
      (case h_kq4 => k_is)
      (case h_cg => k_is)
      (case h_ct => k_is)
      (case h_kt00 => kernel_rfl)
      (case h_kt01 => kernel_rfl)
      (case h_kt02 => kernel_rfl)
      (case h_kt03 => kernel_rfl)
      (case h_kt04 => kernel_rfl)
      (case h_kt05 => kernel_rfl)
      (case h_kt06 => kernel_rfl)
      (case h_kt07 => kernel_rfl)
      (case h_kt10 => kernel_rfl)
      (case h_kt11 => kernel_rfl)
      (case h_kt12 => kernel_rfl)
      (case h_kt13 => kernel_rfl)
      (case h_kt14 => kernel_rfl)
      (case h_kt15 => kernel_rfl)
      (case h_kt16 => kernel_rfl)
      (case h_kt17 => kernel_rfl)
      (case h_kt20 => kernel_rfl)
      (case h_kt21 => kernel_rfl)
      (case h_kt22 => kernel_rfl)
      (case h_kt23 => kernel_rfl)
      (case h_kt24 => kernel_rfl)
      (case h_kt25 => kernel_rfl)
      (case h_kt26 => kernel_rfl)
      (case h_kt27 => kernel_rfl)
      (case h_kt30 => kernel_rfl)
      (case h_kt31 => kernel_rfl)
      (case h_kt32 => kernel_rfl)
      (case h_kt33 => kernel_rfl)
      (case h_kt34 => kernel_rfl)
      (case h_kt35 => kernel_rfl)
      (case h_kt36 => kernel_rfl)
      (case h_kt37 => kernel_rfl)
      (case h_kt40 => kernel_rfl)
      (case h_kt41 => kernel_rfl)
      (case h_kt42 => kernel_rfl)
      (case h_kt43 => kernel_rfl)
      (case h_kt44 => kernel_rfl)
      (case h_kt45 => kernel_rfl)
      (case h_kt46 => kernel_rfl)
      (case h_kt47 => kernel_rfl)
      (case h_kt50 => kernel_rfl)
      (case h_kt51 => kernel_rfl)
      (case h_kt52 => kernel_rfl)
      (case h_kt53 => kernel_rfl)
      (case h_kt54 => kernel_rfl)
      (case h_kt55 => kernel_rfl)
      (case h_kt56 => kernel_rfl)
      (case h_kt57 => kernel_rfl)
      (case h_kt60 => kernel_rfl)
      (case h_kt61 => kernel_rfl)
      (case h_kt62 => kernel_rfl)
      (case h_kt63 => kernel_rfl)
      (case h_kt64 => kernel_rfl)
      (case h_kt65 => kernel_rfl)
      (case h_kt66 => kernel_rfl)
      (case h_kt67 => kernel_rfl)
      (case h_kt70 => kernel_rfl)
      (case h_kt71 => kernel_rfl)
      (case h_kt72 => kernel_rfl)
      (case h_kt73 => kernel_rfl)
      (case h_kt74 => kernel_rfl)
      (case h_kt75 => kernel_rfl)
      (case h_kt76 => kernel_rfl)
      (case h_kt77 => kernel_rfl)
      (case h_z_len => k_is)
      (case h_z_int => k_is)
      (case h_z_list => k_is)
      (case h_z_abs => k_is)
      (case h_z_range => k_is)
      (case h_z_set => k_is)
      (case h_z_all => k_is)
      (case h_z_ord => k_is)
      (case h_z_isinstance => k_is)
      (case h_z_str => k_is)
      (case h_z_max => k_is)
      (case h_z_sum => k_is)
      (case h_z_sorted => k_is)
      (case h_y0 => k_is)
      (case h_y1 => k_is)
      (case h_y2 => k_is)
      (case h_y3 => k_is)
      (case h_y4 => k_is)
      (case h_y5 => k_is)
      (case h_y6 => k_is)
    )
end
