import PyProof.Rows.All
import Wide.All
import OpenK.AllK
import Wide.FinOn
import KE.KExcInit
import HandS.ForMost
import HandS.Exc
import HandS.ExcOwn
import HandS.ExcInit
import HandS.ExcValue
import HandS.IsInst
import HandS.ExcIs
import KE.KExcIs
import HandS.MakeKwOnly
import HandS.SetFor
import HandS.RaiseMore
import KE.KxIndex
import HandS.ReplaceLit
import HandS.Codes
import HandS.SortKw
import HandS.SetTxt0
import HandS.Strs
import HandS.More
import HandS.Style
import HandS.TryOnly
import HandS.Lambda
import HandS.ExcField
import HandS.OwnEq
import PyProof.InstEq
import HandS.EndTab
import HandS.Defaults
import HandS.Wide
import HandS.Walk
import HandS.WordsExc
import HandS.Property
import PyProof.Rows.RegFStrParts
import PySem.Challenge.RW_linestream_k06_changes_made_and_refused
set_option Elab.async false
set_option linter.all false
section
set_option Elab.async false
set_option linter.all false
set_option maxRecDepth 100000
set_option maxHeartbeats 5000000
namespace XK
open PySem PySem.W PySem.Calls PySem.HandSPX
section
variable {pg : Program} {w : World} {A : Around} {E : Value → Shared → Prop} {R : Result → Shared → Prop} {h : Heap} {gs : Array GenState} {dr : Drawn} {tk0 : Nat} {ost : OsState}
variable {nam q : Str} {C N : Addr} {bss bml bmb : List Value} {hdc : Bool} {snl : List Str} {subc : List Value} {abst : Bool} {coll : Option Bool} {ddc : Option Addr} {k0 k1 k2 k3 k5 : Option Value} {B nid iid : String}
variable {us : List Value} {kw : List (Str × Value)}
theorem free_check {B : String} {a b : String} {n : Nat} {names : List Str} :
    Bind.check ⟨.any, B, B, .cls, [⟨"args", .varPos, false⟩, ⟨"kwargs", .varKw, false⟩]⟩ a b n names = pure () := by
  cases names with
  | nil => rfl
  | cons x r => rfl
theorem new_checked {M : Model} (F : ExcBaseFacts B nid iid bmb) (hT : ∀ X : String, bml.contains (.type X) = bmb.contains (.type X)) {Q : Unit → Shared → Prop}
    (hC : h.get? C = some (excClassObj nam q C N bss bml hdc snl subc abst coll ddc k0 k1 k2 k3 k5 nid)) (hq : Q () ⟨h, gs, dr, tk0, ost⟩) :
    wpAny M A (checkBuiltinCall nid ⟨.ref C :: us, kw⟩) Q E ⟨h, gs, dr, tk0, ost⟩ := by
  have c1 : (Value.ref C :: bml).contains (.type B) = true := by
    rw [List.contains_cons, hT, F.hasB, Bool.or_true]
  have c2 := F.noStar
  simp only [F.newKind, F.newSplit, F.newRow,
    checkBuiltinCall]
  repeat (first
    | refine wpAny_loadPart_at hC ?_
    | (refine wpAny_isSubtype_exc hC ?_; rw [c1])
    | refine wpAny_staticBase_exc hC ?_
    | refine wpAny_madeBy_exc hC ?_
    | simp only [bne_self_eq_false, Bool.false_eq_true, if_false]
    | wp_step)
  exact hq
/-- the object is laid, behind the tuple of what was passed by position -/
theorem new_laid (F : ExcBaseFacts B nid iid bmb) (hT : ∀ X : String, bml.contains (.type X) = bmb.contains (.type X)) (hu : us.length ≤ sizeLine)
    (hC : h.get? C = some (excClassObj nam q C N bss bml hdc snl subc abst coll ddc k0 k1 k2 k3 k5 nid))
    (hq : R (.ok (.ret (.ref (h.objs.size + 1)))) ⟨(h.push (kdv_tup us)).push (excO C h.objs.size), gs, dr, tk0, ost⟩) :
    codeAny (model pg w) A (.builtin nid ⟨.ref C :: us, kw⟩) R ⟨h, gs, dr, tk0, ost⟩ := by
  have ends := F.ends
  have c1 : (Value.ref C :: bml).contains (.type B) = true := by
    rw [List.contains_cons, hT, F.hasB, Bool.or_true]
  have c2 : (Value.ref C :: bml).contains (.type "AttributeError") = false := by
    rw [List.contains_cons, hT, F.noAttr]
    rfl
  have c3 : (Value.ref C :: bml).contains (.type "NameError") = false := by
    rw [List.contains_cons, hT, F.noName]
    rfl
  refine codeAny_builtinAt
    F.entry ?_
  unfold
    Builtin.«BaseException.__new__»
  refine wpAt_bind ?_
  show wpAt _ _ _ (stack >>= _)
    _ _ _
  refine wpAt_bind (wpAt_stack fun pp qq => wpAt_of_wpAny ?_)
  wp_walk
  refine wpAt_of_wpAny ?_
  rw [F.owner]
  repeat (first
    | with_reducible refine wpAny_madeHere_exc F.canon hC ?_
    | with_reducible refine wpAny_loadPart_at hC ?_
    | (with_reducible refine wpAny_isSubtype_exc hC ?_
       first | rw [c1] | rw [c2] | rw [c3])
    | wp_step)
  show R _ _
  rw [Heap.size_push]
  exact hq
theorem type_called {fI : Addr} {Q : Fin → Shared → Prop} (F : ExcBaseFacts B nid iid bmb) (hT : ∀ X : String, bml.contains (.type X) = bmb.contains (.type X)) (hu : us.length ≤ sizeLine)
    (hC : h.get? C = some (excClassObj nam q C N bss bml hdc snl subc abst coll ddc k0 k1 k2 k3 k5 nid))
    (hi : Looks (model pg w) h (typeLookup (.ref C) "__init__") (some (.ref fI)))
    (hb : ∀ self, Looks (model pg w) h (bindSpecial (.ref fI) self) (.ref fI, [self]))
    (hq : codeAny (model pg w) A (.call (.ref fI) ⟨.ref (h.objs.size + 1) :: us, kw⟩)
      (fun res s' => match res with | .ok (.ret v) => v = .none ∧ Q (.done (.ret (.ref (h.objs.size + 1)))) s' | .ok _ => False | .error e => E e s')
      ⟨(h.push (kdv_tup us)).push (excO C h.objs.size), gs, dr, tk0, ost⟩) :
    wpAny (model pg w) A (Builtin.«type.__call__» ⟨.ref C :: us, kw⟩) Q E ⟨h, gs, dr, tk0, ost⟩ := by
  repeat (first
    | with_reducible refine wpAny_loadPart_at hC ?_
    | with_reducible refine wpAny_madeBy_exc hC ?_
    | wp_step)
  refine codeAny_call_builtin_code (Code.quiet_builtin _ F.quiet) (new_checked F hT hC ?_)
  refine new_laid F hT hu hC ?_
  show wpAny _ _ _ _ _ _
  have kk : ∀ b o, h.get? b = some o → ((h.push (kdv_tup us)).push (excO C h.objs.size)).get? b = some o := fun b o e =>
    Heap.get?_push_of_some _ (Heap.get?_push_of_some _ e)
  have got : ((h.push (kdv_tup us)).push (excO C h.objs.size)).get? (h.objs.size + 1) = some (excO C h.objs.size) := by heap_get
  have gotC := kk _ _ hC
  have self : (Value.ref C :: bml).contains (.ref C) = true := by simp
  have i1 := hi.keeps kk
  have b1 := (hb (.ref (h.objs.size + 1))).keeps kk
  unfold isInstance
  repeat (first
    | with_reducible refine wpAny_loadPart_at got ?_
    | (with_reducible refine wpAny_isSubtype_exc gotC ?_
       rw [self])
    | wp_step)
  show wpAny _ _ (typeLookup (.ref C) _)
    _ _ _
  refine i1.at (wpAny_holding (wpAny_bind (b1.at ?_)))
  refine wpAny_bind (wpAny_call (codeAny_mono hq fun res s' z => ?_))
  rcases res with er | (vv | _ | _ | _) <;> first | exact z | exact z.elim | skip
  obtain ⟨rfl, z⟩ := z
  first
    | exact wpAny_pure
        (wpAny_pure z)
    | (wp_walk; exact z)
theorem called {fI : Addr} (F : ExcBaseFacts B nid iid bmb) (hT : ∀ X : String, bml.contains (.type X) = bmb.contains (.type X)) (hu : us.length ≤ sizeLine)
    (hC : h.get? C = some (excClassObj nam q C N bss bml hdc snl subc abst coll ddc k0 k1 k2 k3 k5 nid))
    (hi : Looks (model pg w) h (typeLookup (.ref C) "__init__") (some (.ref fI)))
    (hb : ∀ self, Looks (model pg w) h (bindSpecial (.ref fI) self) (.ref fI, [self]))
    (hq : codeAny (model pg w) (A.under (.builtin "type.__call__" ⟨.ref C :: us, kw⟩)) (.call (.ref fI) ⟨.ref (h.objs.size + 1) :: us, kw⟩) (InitBack (h.objs.size + 1) R)
      ⟨(h.push (kdv_tup us)).push (excO C h.objs.size), gs, dr, tk0, ost⟩) :
    codeAny (model pg w) A (.call (.ref C) ⟨us, kw⟩) R ⟨h, gs, dr, tk0, ost⟩ := by
  have f1 := tc_lookup
  have f2 := tc_bind (.ref C)
  have isT : (⟨h, gs, dr, tk0, ost⟩ : Shared).TypeIs (.ref C) "type" := ⟨_, hC, rfl⟩
  refine codeAny_of_tree ?_
  show wpAny _ _ (callAny (.ref C) _)
    _ _ _
  repeat (any_goals (first
    | assumption
    | with_reducible refine wpAny_loadPart_at hC ?_
    | wp_step))
  refine ⟨rfl, ?_⟩
  refine codeAny_call_builtin_at (Code.quiet_builtin _ (by decide +kernel)) entry_typeCall (wpAny_check_type_call_sub hC (type_called F hT hu hC hi hb ?_))
  refine codeAny_mono hq fun res s' z => ?_
  rcases res with er | (vv | _ | _ | _) <;> exact z
end
/-! ### self.f = v on an exception of any built-in base, that has no dict yet -/
section
open Builtin.ObjectAttr Builtin
variable {pg : Program} {w : World} {A : Around} {E : Value → Shared → Prop} {R : Result → Shared → Prop} {hpz : Heap} {gs : Array GenState} {dr : Drawn} {tk0 : Nat} {ost : OsState}
variable {K : Frag} {name : Str} {tk : Tok} {v : Value} {x C dx : Addr} {fv : Array Value} {cd : ClassData} {bmb : List Value}
/-- what a class over a built-in exception says of stores -/
structure Opn (cd : ClassData) : Prop where
  ne : cd.mro.isEmpty = false
  ob : cd.mro.contains (.type "object") = true
  ps : ∀ self : Value, refuseLoop self "__setattr__" cd.mro = pure ()
  hd : cd.hasDict = true
theorem first_field (X : K.In hpz) (hx : hpz.get? x = some { cls := .ref C, data := .fields fv }) (hcd : clsIn K C = some cd) (O : Opn cd) (ha : findIn K (.ref C) name = some none)
    (hq : ∀ h' tk' dx, (∀ b o, b ≠ x → hpz.get? b = some o → h'.get? b = some o) → hpz.objs.size ≤ dx → dx ≠ x → h'.get? x = some { cls := .ref C, dict := some dx, data := .fields fv } →
      h'.Ns1 dx (fun y => if y = name then some v else none) → R (.ok (.ret .none)) ⟨h', gs, dr, tk', ost⟩) :
    codeAny (model pg w) A (.call (.builtin "object.__setattr__") ⟨[.ref x, .str name tk, v], []⟩) R ⟨hpz, gs, dr, tk0, ost⟩ := by
  have J : InstAt hpz x { cls := .ref C, data := .fields fv } C none := ⟨hx, rfl, rfl, trivial⟩
  have S := F.store_object
  have far : x ≠ hpz.objs.size := Nat.ne_of_lt (Heap.lt_size hx)
  have subc : Looks (model pg w) hpz (isInstance (.ref x) (.type "object")) true :=
    J.type.andThen (looks_mroIn X (by
      unfold mroIn
      rw [hcd, Option.bind_some, if_neg (by rw [O.ne]; decide), O.ob]))
  refine codeAny_call_builtin S.slot.plain S.entry ?_
  refine @check_slot (model pg w) _ _ ⟨hpz, gs, dr, tk0, ost⟩ "object.__setattr__" "object" "__setattr__" (.ref x) [.str name tk, v] [] _ S.kind S.split subc (S.args (.ref x) (.str name tk) v) ?_
  have m1 : Looks (model pg w) hpz (mroOf (.ref C)) cd.mro := (looks_clsIn X hcd).andThen .now
  have m2 : Looks (model pg w) hpz (storeTaker? none) none := .now
  have m3 : Looks (model pg w) hpz (classData C) cd := looks_clsIn X hcd
  rw [osa_eq, refuse_eq]
  refine wpAny_bind (wpAny_bind (J.type.at (wpAny_bind (m1.at ?_))))
  rw [O.ps]
  refine wpAny_pure (wpAny_bind (J.type.at (wpAny_bind ((looks_findIn X ha).at (wpAny_bind (m2.at ?_))))))
  show wpAny _ _ (storeInOwnDict (.ref x) (.ref C) (.str name tk) name v false)
    _ _ _
  have hh := O.hd
  obtain ⟨nam, bss, mro, ns, qn, hdd, snl, sb, abst, coll, del⟩ := cd
  dsimp only at hh
  subst hh
  unfold storeInOwnDict
    ownDictForStores
  repeat (first
    | with_reducible refine store_in_new ?_ ?_
    | with_reducible refine wpAny_loadPart_at hx ?_
    | with_reducible refine m3.at ?_
    | wp_step)
  · refine ⟨_, #[], _, (Heap.get?_update_ne _ _ _ _ far.symm).trans (Heap.get?_push_at rfl rfl), rfl, fun e he => absurd he (by simp), fun _ => rfl⟩
  · intro h' tk' hn' same
    have hx₁ : (hpz.push { cls := .type "dict", data := .dict #[] }).get? x = some { cls := .ref C, data := .fields fv } := Heap.get?_push_of_some _ hx
    refine hq h' tk' hpz.objs.size (fun b o hb ho => ?_) (Nat.le_refl _) far.symm ?_ hn'
    · have e1 := same.2 b (Nat.ne_of_lt (Heap.lt_size ho))
      exact e1.trans ((Heap.get?_update_ne _ _ _ _ hb).trans (Heap.get?_push_of_some _ ho))
    · have e2 := same.2 x far
      exact e2.trans (Heap.get?_update_self _ hx₁ rfl)
theorem next_field {m0 : Str → Option Value} {nl : List Str} (X : K.In hpz) (hx : hpz.get? x = some { cls := .ref C, dict := some dx, data := .fields fv }) (hns : hpz.Ns1 dx m0) (hw : Within m0 nl) (hz : nl.length ≤ 1000)
    (hcd : clsIn K C = some cd) (O : Opn cd) (ha : findIn K (.ref C) name = some none)
    (hq : ∀ h' tk', (∀ b o, b ≠ dx → hpz.get? b = some o → h'.get? b = some o) → h'.Ns1 dx (fun y => if y = name then some v else m0 y) → R (.ok (.ret .none)) ⟨h', gs, dr, tk', ost⟩) :
    codeAny (model pg w) A (.call (.builtin "object.__setattr__") ⟨[.ref x, .str name tk, v], []⟩) R ⟨hpz, gs, dr, tk0, ost⟩ := by
  obtain ⟨oD, _, _, hoD, _, _⟩ := hns.count hw
  have J : InstAt hpz x { cls := .ref C, dict := some dx, data := .fields fv } C (some oD) := ⟨hx, rfl, rfl, hoD⟩
  have S := F.store_object
  have subc : Looks (model pg w) hpz (isInstance (.ref x) (.type "object")) true :=
    J.type.andThen (looks_mroIn X (by
      unfold mroIn
      rw [hcd, Option.bind_some, if_neg (by rw [O.ne]; decide), O.ob]))
  refine codeAny_call_builtin S.slot.plain S.entry ?_
  refine @check_slot (model pg w) _ _ ⟨hpz, gs, dr, tk0, ost⟩ "object.__setattr__" "object" "__setattr__" (.ref x) [.str name tk, v] [] _ S.kind S.split subc (S.args (.ref x) (.str name tk) v) ?_
  have m1 : Looks (model pg w) hpz (mroOf (.ref C)) cd.mro := (looks_clsIn X hcd).andThen .now
  have m2 : Looks (model pg w) hpz (storeTaker? none) none := .now
  have m3 : Looks (model pg w) hpz (classData C) cd := looks_clsIn X hcd
  rw [osa_eq, refuse_eq]
  refine wpAny_bind (wpAny_bind (J.type.at (wpAny_bind (m1.at ?_))))
  rw [O.ps]
  refine wpAny_pure (wpAny_bind (J.type.at (wpAny_bind ((looks_findIn X ha).at (wpAny_bind (m2.at ?_))))))
  show wpAny _ _ (storeInOwnDict (.ref x) (.ref C) (.str name tk) name v false)
    _ _ _
  have hh := O.hd
  obtain ⟨nam, bss, mro, ns, qn, hdd, snl, sb, abst, coll, del⟩ := cd
  dsimp only at hh
  subst hh
  unfold storeInOwnDict
    ownDictForStores
  repeat (first
    | with_reducible refine OEX.store_in_old hns hw hz ?_
    | with_reducible refine wpAny_loadPart_at hx ?_
    | with_reducible refine m3.at ?_
    | wp_step)
  intro h' tk' hn' same
  exact hq h' tk' (fun b o hb ho => (same.2 b hb).trans ho) hn'
end
end XK
end
section
set_option Elab.async false
set_option linter.all false
set_option maxRecDepth 100000
set_option maxHeartbeats 4100000
namespace XK
open PySem PySem.W PySem.Calls PySem.HandSPX
open PyProof.Rows (envOfC)
/-! ### the text of an __init__ that keeps one field -/
def aOne (f : Str) (p1 p2 : Pos) : Arguments := { posonlyargs := [], args := [{ arg := "self", annotation := none, pos := p1 }, { arg := f, annotation := none, pos := p2 }], vararg := none, kwonlyargs := [], kw_defaults := [], kwarg := none, defaults := [] }
def bOne (f : Str) (q1 q2 q3 q4 : Pos) : List Stmt := [.Assign [.Attribute (.Name "self" q1) f q2] (.Name f q3) q4]
def sOne (f : Str) : Scope := { kind := .function, names := [(PySem.Str.ofString "self", .local), (f, .local)], isGenerator := false, isCoroutine := false, more := [] }
/-- what the written part says of an own exception class -/
structure XT (K : Frag) (C : Addr) : Prop where
  base : ∃ (B newId initId : String) (bmB : List Value), ExcBaseFacts B newId initId bmB ∧ excInitIn K C bmB newId = true
  opn : ∃ cd, clsIn K C = some cd ∧ Opn cd
  sa : findIn K (.ref C) "__setattr__" = some (some (.builtin "object.__setattr__"))
  ga : findIn K (.ref C) "__getattribute__" = some (some (.builtin "BaseException.__getattribute__"))
  gg : findIn K (.ref C) "__getattr__" = some none
  exC : subIn K (.ref C) (.type "BaseException") = some true
  kC : keepIn K (.ref C) = true
  hd : hasDictIn K C = true
  ac : findIn K (.ref C) "__class__" = some (some (.builtin "object.__class__"))
  gn : specialIn K (.builtin "object.__class__") "__get__" = some (some (.builtin "getset_descriptor.__get__"))
  tk : takesIn K (.builtin "object.__class__") = some true
  mo : mroIn K C (.type "object") = some true
/-- .. and of its __init__, which keeps the one field f -/
structure XI (K : Frag) (C : Addr) (f : Str) : Prop where
  noN : findIn K (.ref C) f = some none
  ne : f ≠ "self"
  fn : ∃ (fI : Addr) (qn : Str) (oc : Value) (od : Option Addr) (doc pm : Value) (an : Option Addr) (cdv ct : Value) (osl : Array (Option Value)) (p1 p2 q1 q2 q3 q4 : Pos),
    findIn K (.ref C) "__init__" = some (some (.ref fI)) ∧ typeIn K (.ref fI) = some (.type "function") ∧
    K.lookup fI = some ⟨oc, od, .func (fnOf "__init__" qn (aOne f p1 p2) (bOne f q1 q2 q3 q4) (sOne f) .none .none doc pm an cdv ct), osl⟩ ∧ codeIn K cdv qn = true ∧
    (∀ s x v, BindsTo s (fnOf "__init__" qn (aOne f p1 p2) (bOne f q1 q2 q3 q4) (sOne f) .none .none doc pm an cdv ct) ⟨[x, v], []⟩ [("self", x), (f, v)]) ∧
    (∀ s x v, BindsTo s (fnOf "__init__" qn (aOne f p1 p2) (bOne f q1 q2 q3 q4) (sOne f) .none .none doc pm an cdv ct) ⟨[x], [(f, v)]⟩ [("self", x), (f, v)])
theorem look_self (f : Str) : (sOne f).names.lookup ("self" : Str) = some NameKind.local := rfl
theorem look_f (f : Str) : (sOne f).names.lookup f = some NameKind.local := by
  show List.lookup f [(PySem.Str.ofString "self", NameKind.local), (f, NameKind.local)] = some .local
  by_cases h : f = PySem.Str.ofString "self"
  · rw [h]
    simp [List.lookup]
  · have e : (f == PySem.Str.ofString "self") = false := by simpa using h
    simp [List.lookup, e]
theorem load_local {M : Model} {s : Shared} {name : Str} {scope : Scope} {L a : Addr} {cd : Value} {m : Str → Option Value} {x : Str} {pos : Pos} {v : Value} {Q : Value → Shared → Prop} {A : Around} {E : Value → Shared → Prop}
    (hk : scope.kind = .function) (hl : scope.names.lookup x = some .local) (hd : (x == ("__debug__" : Str)) = false) (hn : s.heap.Ns L m) (hv : m x = some v) (h : Q v s) :
    wpAny M A (eval (.Name x pos) (envOfC name scope L a cd)) Q E s := wpAny_Name (wpAny_loadName_local hk hl hn hv h) hd
/-- a made exception: e, its own dict at d with the fields m -/
structure Made (h h' : Heap) (e C d : Addr) (m : Str → Option Value) : Prop where
  keep : ∀ b o, h.get? b = some o → h'.get? b = some o
  eb : h.objs.size ≤ e
  db : h.objs.size ≤ d
  ne : d ≠ e
  obj : ∃ t0 : Addr, h'.get? e = some ({ cls := .ref C, dict := some d, data := .fields #[.ref t0, .none, .none, .none, .bool false, .none] } : Obj)
  ns : h'.Ns1 d m
section
variable {prog : Program} {w : World} {A : Around} {E : Value → Shared → Prop} {R : Result → Shared → Prop} {s : Shared} {K : Frag} {C : Addr} {f : Str} {v : Value}
theorem made_one (T : XT K C) (I : XI K C f) (hdb : (f == ("__debug__" : Str)) = false) (X : K.In s.heap) (hlim : s.heap.NoLimit) (room : A.depth + 1 < recursionLimit) (us : List Value) (kw : List (Str × Value)) (hp : (us = [v] ∧ kw = []) ∨ (us = [] ∧ kw = [(f, v)]))
    (hq : ∀ h' tk e d, Made s.heap h' e C d (fun y => if y = f then some v else none) → R (.ok (.ret (.ref e))) { s with heap := h', toks := tk }) :
    codeAny (model prog w) A (.call (.ref C) ⟨us, kw⟩) R s := by
  obtain ⟨B, newId, initId, bmB, F, ini⟩ := T.base
  obtain ⟨cd, hcd, O⟩ := T.opn
  obtain ⟨fI, qn, oc, od, doc, pm, an, cdv, ct, osl, p1, p2, q1, q2, q3, q4, iC, tC, lf, co, b1, b2⟩ := I.fn
  obtain ⟨nm, N, q, bs, bm, hdct, sn, sub, ab, col, dd, k0, k1, k2, k3, k5, gC, hT⟩ := excInit_of X ini
  obtain ⟨hp0, g, dr, tk, os⟩ := s
  have ul : us.length ≤ sizeLine := by
    rcases hp with ⟨rfl, _⟩ | ⟨rfl, _⟩
    · show 1 ≤ sizeLine
      rw [sizeLine_eq]
      decide
    · exact Nat.zero_le _
  have bd : ∀ s x, BindsTo s (fnOf "__init__" qn (aOne f p1 p2) (bOne f q1 q2 q3 q4) (sOne f) .none .none doc pm an cdv ct) ⟨x :: us, kw⟩ [("self", x), (f, v)] := fun s x => by
    rcases hp with ⟨rfl, rfl⟩ | ⟨rfl, rfl⟩
    · exact b1 s x v
    · exact b2 s x v
  have k : ∀ b o, hp0.get? b = some o → ((hp0.push (kdv_tup us)).push (excO C hp0.objs.size)).get? b = some o := fun b o e => Heap.get?_push_of_some _ (Heap.get?_push_of_some _ e)
  have got : ((hp0.push (kdv_tup us)).push (excO C hp0.objs.size)).get? (hp0.objs.size + 1) = some (excO C hp0.objs.size) := by heap_get
  refine called F hT ul gC (looks_findIn X iC) (fun self => bind_fn X self tC) ?_
  have X1 := X.keeps k
  refine Att.call_fn (binds := [("self", .ref (hp0.objs.size + 1)), (f, v)]) (s := ⟨(hp0.push (kdv_tup us)).push (excO C hp0.objs.size), g, dr, tk, os⟩) X1 (hlim.keeps k) lf co ?_ (bd _ _) ?_ (fun s₁ IC => ?_) rfl rfl rfl
  · show A.depth + 1 < recursionLimit
    exact room
  · simp only [List.all_cons, List.all_nil, look_f f, Bool.and_true]
    rfl
  · obtain ⟨h₁, tk₁, rfl⟩ := IC.toInCall.same
    have k1 := IC.toInCall.keep
    have hn := IC.toInCall.ns
    have hx := k1 _ _ got
    have X2 : K.In h₁ := X1.keeps k1
    have e1 : (envOfC qn (sOne f) ((hp0.push (kdv_tup us)).push (excO C hp0.objs.size)).objs.size fI cdv).kindOf "self" = some .local := look_self f
    have e2 : (envOfC qn (sOne f) ((hp0.push (kdv_tup us)).push (excO C hp0.objs.size)).objs.size fI cdv).kindOf f = some .local := look_f f
    show wpAny _ _ (execs _ _) _ _ _
    refine wpAny_execs_cons (plainObj_wpAny_Assign_Attribute ?_)
    refine load_local (v := v) rfl (look_f f) hdb hn ?_ (load_local (v := .ref (hp0.objs.size + 1)) rfl (look_self f) (by decide) hn ?_ ?_)
    · simp only [bindL, e1, e2, if_true]
    · simp only [bindL, e1, e2, if_true]
      rw [if_neg (fun z => I.ne z.symm)]
    refine set_plain X2 (ox := excO C hp0.objs.size) (od := none) ⟨hx, rfl, rfl, trivial⟩ T.sa ?_
    refine first_field X2 hx hcd O I.noN fun h₃ tk₃ dx k₃ dn dne hx₃ hn₃ => ?_
    show wpAny _ _ (execs _ _) _ _ _
    have z0 : hp0.objs.size ≤ h₁.objs.size := Nat.le_of_lt (Nat.lt_of_succ_lt (show hp0.objs.size + 1 < h₁.objs.size from Heap.lt_size hx))
    refine wpAny_execs_nil ⟨rfl, hq h₃ tk₃ (hp0.objs.size + 1) dx ⟨fun b o e => ?_, Nat.le_succ _, Nat.le_trans z0 dn, dne, ⟨_, hx₃⟩, hn₃⟩⟩
    exact k₃ b o (Nat.ne_of_lt (Nat.lt_succ_of_lt (Heap.lt_size e))) (k1 _ _ (k _ _ e))
end
/-! ### two fields -/
def aTwo (f1 f2 : Str) (p1 p2 p3 : Pos) : Arguments := { posonlyargs := [], args := [{ arg := "self", annotation := none, pos := p1 }, { arg := f1, annotation := none, pos := p2 }, { arg := f2, annotation := none, pos := p3 }], vararg := none, kwonlyargs := [], kw_defaults := [], kwarg := none, defaults := [] }
def bTwo (f1 f2 : Str) (q1 q2 q3 q4 r1 r2 r3 r4 : Pos) : List Stmt := [.Assign [.Attribute (.Name "self" q1) f1 q2] (.Name f1 q3) q4, .Assign [.Attribute (.Name "self" r1) f2 r2] (.Name f2 r3) r4]
def sTwo (f1 f2 : Str) : Scope := { kind := .function, names := [(PySem.Str.ofString "self", .local), (f1, .local), (f2, .local)], isGenerator := false, isCoroutine := false, more := [] }
structure XJ (K : Frag) (C : Addr) (f1 f2 : Str) : Prop where
  no1 : findIn K (.ref C) f1 = some none
  no2 : findIn K (.ref C) f2 = some none
  ne1 : f1 ≠ "self"
  ne2 : f2 ≠ "self"
  ne : f1 ≠ f2
  fn : ∃ (fI : Addr) (qn : Str) (oc : Value) (od : Option Addr) (doc pm : Value) (an : Option Addr) (cdv ct : Value) (osl : Array (Option Value)) (p1 p2 p3 q1 q2 q3 q4 r1 r2 r3 r4 : Pos),
    findIn K (.ref C) "__init__" = some (some (.ref fI)) ∧ typeIn K (.ref fI) = some (.type "function") ∧
    K.lookup fI = some ⟨oc, od, .func (fnOf "__init__" qn (aTwo f1 f2 p1 p2 p3) (bTwo f1 f2 q1 q2 q3 q4 r1 r2 r3 r4) (sTwo f1 f2) .none .none doc pm an cdv ct), osl⟩ ∧ codeIn K cdv qn = true ∧
    (∀ s x u v, BindsTo s (fnOf "__init__" qn (aTwo f1 f2 p1 p2 p3) (bTwo f1 f2 q1 q2 q3 q4 r1 r2 r3 r4) (sTwo f1 f2) .none .none doc pm an cdv ct) ⟨[x, u, v], []⟩ [("self", x), (f1, u), (f2, v)]) ∧
    (∀ s x u v, BindsTo s (fnOf "__init__" qn (aTwo f1 f2 p1 p2 p3) (bTwo f1 f2 q1 q2 q3 q4 r1 r2 r3 r4) (sTwo f1 f2) .none .none doc pm an cdv ct) ⟨[x], [(f2, v), (f1, u)]⟩ [("self", x), (f1, u), (f2, v)])
theorem look2_self (f1 f2 : Str) : (sTwo f1 f2).names.lookup ("self" : Str) = some NameKind.local := rfl
theorem look2_1 (f1 f2 : Str) : (sTwo f1 f2).names.lookup f1 = some NameKind.local := by
  show List.lookup f1 [(PySem.Str.ofString "self", NameKind.local), (f1, NameKind.local), (f2, NameKind.local)] = some .local
  by_cases h : f1 = PySem.Str.ofString "self"
  · rw [h]
    simp [List.lookup]
  · have e : (f1 == PySem.Str.ofString "self") = false := by simpa using h
    simp [List.lookup, e]
theorem look2_2 (f1 f2 : Str) : (sTwo f1 f2).names.lookup f2 = some NameKind.local := by
  show List.lookup f2 [(PySem.Str.ofString "self", NameKind.local), (f1, NameKind.local), (f2, NameKind.local)] = some .local
  by_cases h : f2 = PySem.Str.ofString "self"
  · rw [h]
    simp [List.lookup]
  · have e : (f2 == PySem.Str.ofString "self") = false := by simpa using h
    by_cases h1 : f2 = f1
    · subst h1
      simp [List.lookup, e]
    · have e1 : (f2 == f1) = false := by simpa using h1
      simp [List.lookup, e, e1]
section
variable {prog : Program} {w : World} {A : Around} {E : Value → Shared → Prop} {R : Result → Shared → Prop} {s : Shared} {K : Frag} {C : Addr} {f1 f2 : Str} {u v : Value}
theorem made_two (T : XT K C) (I : XJ K C f1 f2) (hd1 : (f1 == ("__debug__" : Str)) = false) (hd2 : (f2 == ("__debug__" : Str)) = false) (X : K.In s.heap) (hlim : s.heap.NoLimit) (room : A.depth + 1 < recursionLimit) (us : List Value) (kw : List (Str × Value))
    (hp : (us = [u, v] ∧ kw = []) ∨ (us = [] ∧ kw = [(f2, v), (f1, u)]))
    (hq : ∀ h' tk e d, Made s.heap h' e C d (fun y => if y = f2 then some v else if y = f1 then some u else none) → R (.ok (.ret (.ref e))) { s with heap := h', toks := tk }) :
    codeAny (model prog w) A (.call (.ref C) ⟨us, kw⟩) R s := by
  obtain ⟨B, newId, initId, bmB, F, ini⟩ := T.base
  obtain ⟨cd, hcd, O⟩ := T.opn
  obtain ⟨fI, qn, oc, od, doc, pm, an, cdv, ct, osl, p1, p2, p3, q1, q2, q3, q4, r1, r2, r3, r4, iC, tC, lf, co, b1, b2⟩ := I.fn
  obtain ⟨nm, N, q, bs, bm, hdct, sn, sub, ab, col, dd, k0, k1, k2, k3, k5, gC, hT⟩ := excInit_of X ini
  obtain ⟨hp0, g, dr, tk, os⟩ := s
  have ul : us.length ≤ sizeLine := by
    rcases hp with ⟨rfl, _⟩ | ⟨rfl, _⟩
    · show 2 ≤ sizeLine
      rw [sizeLine_eq]
      decide
    · exact Nat.zero_le _
  have bd : ∀ s x, BindsTo s (fnOf "__init__" qn (aTwo f1 f2 p1 p2 p3) (bTwo f1 f2 q1 q2 q3 q4 r1 r2 r3 r4) (sTwo f1 f2) .none .none doc pm an cdv ct) ⟨x :: us, kw⟩ [("self", x), (f1, u), (f2, v)] := fun s x => by
    rcases hp with ⟨rfl, rfl⟩ | ⟨rfl, rfl⟩
    · exact b1 s x u v
    · exact b2 s x u v
  have k : ∀ b o, hp0.get? b = some o → ((hp0.push (kdv_tup us)).push (excO C hp0.objs.size)).get? b = some o := fun b o e => Heap.get?_push_of_some _ (Heap.get?_push_of_some _ e)
  have got : ((hp0.push (kdv_tup us)).push (excO C hp0.objs.size)).get? (hp0.objs.size + 1) = some (excO C hp0.objs.size) := by heap_get
  refine called F hT ul gC (looks_findIn X iC) (fun self => bind_fn X self tC) ?_
  have X1 := X.keeps k
  refine Att.call_fn (binds := [("self", .ref (hp0.objs.size + 1)), (f1, u), (f2, v)]) (s := ⟨(hp0.push (kdv_tup us)).push (excO C hp0.objs.size), g, dr, tk, os⟩) X1 (hlim.keeps k) lf co ?_ (bd _ _) ?_ (fun s₁ IC => ?_) rfl rfl rfl
  · show A.depth + 1 < recursionLimit
    exact room
  · simp only [List.all_cons, List.all_nil, look2_1 f1 f2, look2_2 f1 f2, Bool.and_true]
    rfl
  · obtain ⟨h₁, tk₁, rfl⟩ := IC.toInCall.same
    have k1 := IC.toInCall.keep
    have hn := IC.toInCall.ns
    have hx := k1 _ _ got
    have X2 : K.In h₁ := X1.keeps k1
    have e0 : (envOfC qn (sTwo f1 f2) ((hp0.push (kdv_tup us)).push (excO C hp0.objs.size)).objs.size fI cdv).kindOf "self" = some .local := look2_self f1 f2
    have e1 : (envOfC qn (sTwo f1 f2) ((hp0.push (kdv_tup us)).push (excO C hp0.objs.size)).objs.size fI cdv).kindOf f1 = some .local := look2_1 f1 f2
    have e2 : (envOfC qn (sTwo f1 f2) ((hp0.push (kdv_tup us)).push (excO C hp0.objs.size)).objs.size fI cdv).kindOf f2 = some .local := look2_2 f1 f2
    show wpAny _ _ (execs _ _) _ _ _
    refine wpAny_execs_cons (plainObj_wpAny_Assign_Attribute ?_)
    refine load_local (v := u) rfl (look2_1 f1 f2) hd1 hn ?_ (load_local (v := .ref (hp0.objs.size + 1)) rfl (look2_self f1 f2) (by decide) hn ?_ ?_)
    · simp only [bindL, e0, e1, e2, if_true]
      rw [if_neg I.ne]
    · simp only [bindL, e0, e1, e2, if_true]
      rw [if_neg (fun z => I.ne2 z.symm), if_neg (fun z => I.ne1 z.symm)]
    refine set_plain X2 (ox := excO C hp0.objs.size) (od := none) ⟨hx, rfl, rfl, trivial⟩ T.sa ?_
    refine first_field X2 hx hcd O I.no1 fun h₃ tk₃ dx k₃ dn dne hx₃ hn₃ => ?_
    have z1 : hp0.objs.size + 1 < h₁.objs.size := Heap.lt_size hx
    have z0 : hp0.objs.size ≤ h₁.objs.size := Nat.le_of_lt (Nat.lt_of_succ_lt z1)
    have nx : ∀ {b : Addr} {o : Obj}, hp0.get? b = some o → b ≠ hp0.objs.size + 1 := fun {b o} e => Nat.ne_of_lt (Nat.lt_succ_of_lt (Heap.lt_size e))
    have Lx : ((hp0.push (kdv_tup us)).push (excO C hp0.objs.size)).objs.size ≠ hp0.objs.size + 1 := by
      rw [Heap.size_push,
            Heap.size_push]
      exact Nat.succ_ne_self _
    have hn3 : h₃.Ns ((hp0.push (kdv_tup us)).push (excO C hp0.objs.size)).objs.size _ := Heap.Ns.at hn fun o e => k₃ _ o Lx e
    have X3 : K.In h₃ := fun b o e => k₃ b o (nx (X _ _ e)) (X2 b o e)
    show wpAny _ _ (execs _ _) _ _ _
    refine wpAny_execs_cons (plainObj_wpAny_Assign_Attribute ?_)
    refine load_local (v := v) rfl (look2_2 f1 f2) hd2 hn3 ?_ (load_local (v := .ref (hp0.objs.size + 1)) rfl (look2_self f1 f2) (by decide) hn3 ?_ ?_)
    · simp only [bindL, e0, e1, e2, if_true]
    · simp only [bindL, e0, e1, e2, if_true]
      rw [if_neg (fun z => I.ne2 z.symm), if_neg (fun z => I.ne1 z.symm)]
    have hw : Within (fun y => if y = f1 then some u else none) [f1] := fun y hy => by
      by_cases e : y = f1
      · rw [e]
        exact List.mem_cons_self ..
      · exact absurd (if_neg e) hy
    obtain ⟨oD, _, _, hoD, _, _⟩ := hn₃.count hw
    refine set_plain X3 (ox := { cls := .ref C, dict := some dx, data := .fields #[.ref hp0.objs.size, .none, .none, .none, .bool false, .none] }) (od := some oD) ⟨hx₃, rfl, rfl, hoD⟩ T.sa ?_
    refine next_field X3 hx₃ hn₃ hw (by show 1 ≤ 1000; decide) hcd O I.no2 fun h₄ tk₄ k₄ hn₄ => ?_
    show wpAny _ _ (execs _ _) _ _ _
    have nd : ∀ {b : Addr} {o : Obj}, hp0.get? b = some o → b ≠ dx := fun {b o} e => Nat.ne_of_lt (Nat.lt_of_lt_of_le (Nat.lt_of_lt_of_le (Heap.lt_size e) z0) dn)
    refine wpAny_execs_nil ⟨rfl, hq h₄ tk₄ (hp0.objs.size + 1) dx ⟨fun b o e => ?_, Nat.le_succ _, Nat.le_trans z0 dn, dne, ⟨_, k₄ _ _ (Ne.symm dne) hx₃⟩, hn₄⟩⟩
    exact k₄ b o (nd e) (k₃ b o (nx e) (k1 _ _ (k _ _ e)))
end
end XK
end
section
set_option Elab.async false
set_option linter.all false
set_option maxRecDepth 100000
set_option maxHeartbeats 4100000
namespace XK
open PySem PySem.Spec PyProof.Rows L2
section
variable {X : Cx} {pins : List (Addr × Obj)} {σ : L2.St} {H : Hp} {s : Shared} {C : Addr}
/-- a made exception is tracked, and its own dict -/
theorem tracked {h' : Heap} {e d : Addr} {m : Str → Option Value} {fs : List (Str × V)} (t' : Nat) (I : Inv X pins σ H s) (M : Made s.heap h' e C d m) (r : ∀ f, RelO (fs.lookup f) (m f)) :
    Inv X pins σ (upd (upd H d (.xd fs)) e (exo e C (some d))) { s with heap := h', toks := t' } := by
  have nd : H d = none := I.hok.fresh M.db
  have ne : H e = none := I.hok.fresh M.eb
  have ned : upd H d (.xd fs) e = none := by
    rw [upd_ne (Ne.symm M.ne)]
    exact ne
  have U1 : Un X.fs [] H (upd H d (.xd fs)) s.heap s.heap := Un.laid (fun _ _ q => q) M.db nd
  have U2 : Un X.fs [] (upd H d (.xd fs)) (upd (upd H d (.xd fs)) e (exo e C (some d))) s.heap h' := Un.laid M.keep M.eb ned
  obtain ⟨t0, ho⟩ := M.obj
  refine I.un (t' := t') (U1.trans U2) fun b o q => ?_
  by_cases hb : b = e
  · subst hb
    rw [upd_same] at q
    cases q
    exact exo_ok ho
  · rw [upd_ne hb] at q
    by_cases hd : b = d
    · subst hd
      rw [upd_same] at q
      cases q
      exact ⟨m, M.ns, r⟩
    · rw [upd_ne hd] at q
      refine (I.hok b o q).stay (fun c v _ z => M.keep c v z) (fun c z => ?_) fun c xs z => ?_
      · rw [upd_ne (ne_of_none z ne), upd_ne (ne_of_none z nd)]
        exact z
      · rw [upd_ne (ne_of_none z ne), upd_ne (ne_of_none z nd)]
        exact z
theorem rel_one {f : Str} {y : V} {u : Value} (r : RelV y u) (g : Str) : RelO ([(f, y)].lookup g) (if g = f then some u else none) := relO_put (fs := []) (mA := fun _ => none) r (fun _ => trivial) g
theorem rel_two {f1 f2 : Str} {y z : V} {u v : Value} (r : RelV y u) (r' : RelV z v) (g : Str) : RelO ([(f2, z), (f1, y)].lookup g) (if g = f2 then some v else if g = f1 then some u else none) :=
  relO_put (fs := [(f1, y)]) r' (rel_one r) g
/-- what follows a made exception -/
def Then1 (C : Addr) (f : Str) (v : V) (H : Hp) (Q : VK) : Prop := ∀ d e, H d = none → H e = none → d ≠ e → Q (.ref e) (upd (upd H d (.xd [(f, v)])) e (exo e C (some d)))
def Then2 (C : Addr) (f1 f2 : Str) (u v : V) (H : Hp) (Q : VK) : Prop := ∀ d e, H d = none → H e = none → d ≠ e → Q (.ref e) (upd (upd H d (.xd [(f2, v), (f1, u)])) e (exo e C (some d)))
def tEx1 (C : Addr) (f : Str) (ta : TA) : TE := fun σ H Q => ta σ H fun vs H1 => ∃ v, vs = [v] ∧ Then1 C f v H1 Q
def tEx2 (C : Addr) (f1 f2 : Str) (ta : TA) : TE := fun σ H Q => ta σ H fun vs H1 => ∃ u v, vs = [u, v] ∧ Then2 C f1 f2 u v H1 Q
def tEx2k (C : Addr) (f1 f2 : Str) (ta : TA) : TE := fun σ H Q => ta σ H fun vs H1 => ∃ v u, vs = [v, u] ∧ Then2 C f1 f2 u v H1 Q
end
section
variable {X : Cx} {x f f1 f2 : Str} {C : Addr} {k : Nat} {a b : Expr} {ta : TA} {te : TE} {p pos k1 k2 : Pos}
/-- x(a), an own exception class whose __init__ keeps one field -/
theorem pe_ex1 (T : XT X.K C) (J : XI X.K C f) (hr : Room k X.A) (gC : X.mg x = some (.ref C)) (hfd : (f == ("__debug__" : Str)) = false) (ha : PA X [a] ta) (hg : Gl X x := by rfl) (hdb : (x == ("__debug__" : Str)) = false := by decide)
    (he : starEach (a :: []) X.env = (false, eval a X.env) :: starEach [] X.env := by rfl) (hpl : (backTo pos (starEach [] X.env)).any (·.1) = false := by rfl) :
    PE X (.Call (.Name x p) [a] [] pos) (tEx1 C f ta) := by
  refine ⟨fun pins s σ H Q I h => ?_⟩
  refine wpAny_Call_Name_kw
        (ld_glob I hg gC ?_ hdb)
  refine PySem.W.callWith_K (h₀ := X.base) I.ok.mod.kin T.kC (thn (ha.run pos pins s σ H _ I h) fun us s1 hh => ?_) he hpl
  obtain ⟨vs, H1, I1, r1, v, ev, q1⟩ := hh
  subst ev
  refine ⟨I1.kIn, ?_⟩
  cases r1 with
  | cons rv rn =>
    rename_i v' us'
    cases rn
    show wpAny _ _ (call (.ref C) [v']) _ _ _
    refine wpAny_call (made_one (v := v') T J hfd I1.kIn I1.nolimit (by have := hr.dp; omega) [v'] [] (.inl ⟨rfl, rfl⟩) fun h' tk e d M => ?_)
    exact ⟨.ref e, _, tracked tk I1 M (rel_one rv), rfl, q1 d e (I1.hok.fresh M.db) (I1.hok.fresh M.eb) M.ne⟩
/-- x(f = a) -/
theorem pe_ex1k (T : XT X.K C) (J : XI X.K C f) (hr : Room k X.A) (gC : X.mg x = some (.ref C)) (hfd : (f == ("__debug__" : Str)) = false) (ha : PE X a te) (hg : Gl X x := by rfl) (hdb : (x == ("__debug__" : Str)) = false := by decide)
    (hpl : ((backTo pos (starEach [] X.env)).any (·.1) || (backToKw pos (keywordEach [⟨some f, a, k1⟩] X.env)).any (·.1.isNone)) = false := by rfl) :
    PE X (.Call (.Name x p) [] [⟨some f, a, k1⟩] pos) (tEx1 C f (tCons te tNil)) := by
  refine ⟨fun pins s σ H Q I h => ?_⟩
  refine wpAny_Call_Name_kw
        (ld_glob I hg gC ?_ hdb)
  refine PySem.W.callWith_KW0 (h₀ := X.base) I.ok.mod.kin T.kC rfl ?_ hpl
  refine thn ((pk_cons ha pk_nil).run pos pins s σ H _ I h) fun us s1 hh => ?_
  obtain ⟨vs, H1, I1, r1, v, ev, q1⟩ := hh
  subst ev
  refine ⟨I1.kIn, ?_⟩
  cases r1 with
  | cons rv rn =>
    rename_i v' us'
    cases rn
    show wpAny _ _ (call (.ref C) [] [(f, v')]) _ _ _
    refine wpAny_call (made_one (v := v') T J hfd I1.kIn I1.nolimit (by have := hr.dp; omega) [] [(f, v')] (.inr ⟨rfl, rfl⟩) fun h' tk e d M => ?_)
    exact ⟨.ref e, _, tracked tk I1 M (rel_one rv), rfl, q1 d e (I1.hok.fresh M.db) (I1.hok.fresh M.eb) M.ne⟩
/-- x(a, b) -/
theorem pe_ex2 (T : XT X.K C) (J : XJ X.K C f1 f2) (hr : Room k X.A) (gC : X.mg x = some (.ref C)) (h1 : (f1 == ("__debug__" : Str)) = false) (h2 : (f2 == ("__debug__" : Str)) = false) (ha : PA X [a, b] ta) (hg : Gl X x := by rfl) (hdb : (x == ("__debug__" : Str)) = false := by decide)
    (he : starEach (a :: [b]) X.env = (false, eval a X.env) :: starEach [b] X.env := by rfl) (hpl : (backTo pos (starEach [b] X.env)).any (·.1) = false := by rfl) :
    PE X (.Call (.Name x p) [a, b] [] pos) (tEx2 C f1 f2 ta) := by
  refine ⟨fun pins s σ H Q I h => ?_⟩
  refine wpAny_Call_Name_kw
        (ld_glob I hg gC ?_ hdb)
  refine PySem.W.callWith_K (h₀ := X.base) I.ok.mod.kin T.kC (thn (ha.run pos pins s σ H _ I h) fun us s1 hh => ?_) he hpl
  obtain ⟨vs, H1, I1, r1, u, v, ev, q1⟩ := hh
  subst ev
  refine ⟨I1.kIn, ?_⟩
  cases r1 with
  | @cons _ u' _ _ ru rn =>
    cases rn with
    | @cons _ v' _ _ rv rn =>
      cases rn
      show wpAny _ _ (call (.ref C) [u', v']) _ _ _
      refine wpAny_call (made_two (u := u') (v := v') T J h1 h2 I1.kIn I1.nolimit (by have := hr.dp; omega) [u', v'] [] (.inl ⟨rfl, rfl⟩) fun h' tk e d M => ?_)
      exact ⟨.ref e, _, tracked tk I1 M (rel_two ru rv), rfl, q1 d e (I1.hok.fresh M.db) (I1.hok.fresh M.eb) M.ne⟩
/-- x(f2 = b, f1 = a) -/
theorem pe_ex2k {te1 te2 : TE} (T : XT X.K C) (J : XJ X.K C f1 f2) (hr : Room k X.A) (gC : X.mg x = some (.ref C)) (h1 : (f1 == ("__debug__" : Str)) = false) (h2 : (f2 == ("__debug__" : Str)) = false) (hb : PE X b te2) (ha : PE X a te1) (hg : Gl X x := by rfl) (hdb : (x == ("__debug__" : Str)) = false := by decide)
    (hpl : ((backTo pos (starEach [] X.env)).any (·.1) || (backToKw pos (keywordEach [⟨some f2, b, k2⟩, ⟨some f1, a, k1⟩] X.env)).any (·.1.isNone)) = false := by rfl) :
    PE X (.Call (.Name x p) [] [⟨some f2, b, k2⟩, ⟨some f1, a, k1⟩] pos) (tEx2k C f1 f2 (tCons te2 (tCons te1 tNil))) := by
  refine ⟨fun pins s σ H Q I h => ?_⟩
  refine wpAny_Call_Name_kw
        (ld_glob I hg gC ?_ hdb)
  refine PySem.W.callWith_KW0 (h₀ := X.base) I.ok.mod.kin T.kC rfl ?_ hpl
  refine thn ((pk_cons hb (pk_cons ha pk_nil)).run pos pins s σ H _ I h) fun us s1 hh => ?_
  obtain ⟨vs, H1, I1, r1, v, u, ev, q1⟩ := hh
  subst ev
  refine ⟨I1.kIn, ?_⟩
  cases r1 with
  | @cons _ v' _ _ rv rn =>
    cases rn with
    | @cons _ u' _ _ ru rn =>
      cases rn
      show wpAny _ _ (call (.ref C) [] [(f2, v'), (f1, u')]) _ _ _
      refine wpAny_call (made_two (u := u') (v := v') T J h1 h2 I1.kIn I1.nolimit (by have := hr.dp; omega) [] [(f2, v'), (f1, u')] (.inr ⟨rfl, rfl⟩) fun h' tk e d M => ?_)
      exact ⟨.ref e, _, tracked tk I1 M (rel_two ru rv), rfl, q1 d e (I1.hok.fresh M.db) (I1.hok.fresh M.eb) M.ne⟩
/-- x(), an own exception class without __init__ -/
def tEx0 (C : Addr) : TE := fun σ H Q => ∀ e, H e = none → Q (.ref e) (upd H e (exo e C none))
theorem pe_ex0 {B newId initId : String} {bmB : List Value} (F : ExcBaseFacts B newId initId bmB) (q : PySem.W.excIn X.K C bmB newId = true) (gC : X.mg x = some (.ref C)) (kC : PySem.W.keepIn X.K (.ref C) = true) (hg : Gl X x := by rfl) (hdb : (x == ("__debug__" : Str)) = false := by decide) :
    PE X (.Call (.Name x p) [] [] pos) (tEx0 C) := by
  refine ⟨fun pins s σ H Q I h => ?_⟩
  refine wpAny_Call_Name_kw
        (ld_glob I hg gC ?_ hdb)
  refine PySem.W.callWith_K0 I.kIn kC ?_
  show wpAny _ _ (call (.ref C) []) _ _ _
  obtain ⟨bm, N, nm, qn, bs, hdct, sn, sub, ab, col, dd, k0, k1, k2, k3, k5, mN, hC, hN, hni, T⟩ := exc_obj I.kIn q
  obtain ⟨hp, g, dr, tk, os⟩ := s
  refine wpAny_call_exc_subT F T hC hN hni (fun h' a hm => ?_) (Nat.zero_le _)
  have hn : H a = none := I.hok.gone hm.new
  obtain ⟨t, ht, _,
        _⟩ := hm.there
  exact ⟨.ref a, upd H a (exo a C none), I.laidN hm.keeps hm.new hn (exo_ok (t1 := t) ht), rfl, h a hn⟩
/-- e.f, e an exception that is told, f one of its fields -/
def tGetX (K : PySem.W.Frag) (f : Str) (te : TE) : TE := fun σ H Q => te σ H fun y H1 => ∃ (e C d : Addr) (fs : List (Str × V)) (v : V), y = .ref e ∧ XT K C ∧ PySem.W.findIn K (.ref C) f = some none ∧ H1 e = some (exo e C (some d)) ∧ H1 d = some (.xd fs) ∧ fs.lookup f = some v ∧ Q v H1
theorem pe_getX {te : TE} (he : PE X a te) (hb : attributeBase a f X.env (eval a X.env) = eval a X.env := by rfl) : PE X (.Attribute a f pos) (tGetX X.K f te) := by
  refine ⟨fun pins s σ H Q I h => ?_⟩
  refine attr_of hb (thn (he.run pins s σ H _ I h) fun u s1 hh => ?_)
  obtain ⟨y, H1, I1, rx, e, C, d, fs, v, ey, T, no, ea, ed, l, q⟩ := hh
  subst ey
  obtain rfl : u = Value.ref e := rx
  obtain ⟨t0, ho⟩ := exo_at I1.hok ea
  obtain ⟨mA, hns, hrel⟩ := (show ObjOk X.prog X.w H1 s1.heap d (.xd fs) from I1.hok d _ ed)
  obtain ⟨od, hod, hl⟩ := lookIn_ns hns
  obtain ⟨w, hw, rw'⟩ := RelO.some_of (v := v) (o := mA f) (by rw [← l]; exact hrel f)
  have J : PySem.W.InstAt s1.heap e _ C (some od) := ⟨ho, rfl, rfl, hod⟩
  exact HandSPX.exc_get I1.kIn J T.ga T.gg T.exC (PySem.W.findObj_own T.hd no rfl (by rw [hl, hw])) (handed_of rw') ⟨v, H1, I1.tok _, rw', q⟩
/-- isinstance(e, c), e an exception that is told -/
def rIsX (K : PySem.W.Frag) : List V → Hp → VK → Prop := fun xs H Q => ∃ (e C : Addr) (d : Option Addr) (c : V) (u : Value) (r : Bool), xs = [.ref e, c] ∧ ClsV c u ∧ XT K C ∧ H e = some (exo e C d) ∧ (∀ dd, d = some dd → ∃ fs, H dd = some (.xd fs)) ∧ PySem.W.kitOne K (.ref C) u = some r ∧ Q (.bl r) H
theorem call_isX : CallR X (.builtin "isinstance") (rIsX X.K) := by
  intro pins s σ
        H xs us Q I r h
  obtain ⟨e, C, d, c, u, z, rfl, k, T, ea, hd, ek, q⟩ := h
  obtain ⟨u1, u2, rfl,
        r1, r2⟩ := vals2 r
  have e2 := k.eq r2
  subst e2
  cases (show u1 = Value.ref e from r1)
  obtain ⟨t0, ho⟩ := exo_at I.hok ea
  have J : ∃ od, PySem.W.InstAt s.heap e ({ cls := .ref C, dict := d, data := .fields #[.ref t0, .none, .none, .none, .bool false, .none] } : Obj) C od := by
    cases d with
    | none => exact ⟨none, ho, rfl, rfl, trivial⟩
    | some dd =>
      obtain ⟨fs, hf⟩ := hd dd rfl
      obtain ⟨mA, hns, _⟩ := (show ObjOk X.prog X.w H s.heap dd (.xd fs) from I.hok dd _ hf)
      obtain ⟨od, hod, _⟩ := lookIn_ns hns
      exact ⟨some od, ho, rfl, rfl, hod⟩
  obtain ⟨od, J⟩ := J
  have hc : (PySem.W.clsIn
        X.K C).isSome = true := by
    obtain ⟨cd, h1, _⟩ := T.opn
    rw [h1]
    rfl
  exact PySem.W.kia_one (PySem.W.kitx_exc hc T.ga T.gg T.exC T.ac T.gn T.tk T.mo) I.kIn J ek (fun z => nomatch z) fun tk => ⟨.bl z, H, I.tok tk, rfl, q⟩
end
end XK
end
section
set_option Elab.async false
set_option linter.all false
set_option maxRecDepth 100000
set_option maxHeartbeats 4100000
namespace XK
open PySem PySem.Spec PyProof.Rows L2
/-! ### repr of data -/
/-- what v is as data, dicts with keys of text or int at the outside as well -/
def flatD : PyData → Bool
  | .none => true
  | .bool _ => true
  | .int _ => true
  | .str _ => true
  | _ => false
theorem flat_reads {h : Heap} {u : Value} {d : PyData} {as : List Addr} (r : Reads h u d as) (f : flatD d = true) : as = [] := by
  cases r <;> first | rfl | cases f
theorem flats_read {h : Heap} : ∀ {us : List Value} {ds : List PyData} {as : List Addr}, ReadsAll h us ds as → ds.all flatD = true → as = []
  | _, _, _, .nil, _ => rfl
  | _, _, _, .cons r t, f => by
    rw [List.all_cons,
          Bool.and_eq_true] at f
    rw [flat_reads r f.1, flats_read t f.2]
    rfl
inductive DX (K : PySem.W.Frag) (H : Hp) : V → PyData → Prop
  | dp {v : V} {d : PyData} : Dp K H v d → DX K H v d
  | dc {a : Addr} {kvs : List (Key × V)} {ks vs : List PyData} : H a = some (.dK kvs) → DpAll K H (kvs.map fun p => kV p.1) ks → DpAll K H (kvs.map (·.2)) vs → ks.all flatD = true → vs.all flatD = true → DX K H (.ref a) (.dict (ks.zip vs))
inductive DXAll (K : PySem.W.Frag) (H : Hp) : List V → List PyData → Prop
  | nil : DXAll K H [] []
  | cons {v : V} {vs : List V} {d : PyData} {ds : List PyData} : DX K H v d → DXAll K H vs ds → DXAll K H (v :: vs) (d :: ds)
mutual
theorem noD {K : PySem.W.Frag} {H : Hp} : ∀ (d : PyData) (v : V), Dp K H v d → d.hasDict = false
  | .none, _, _ => by simp [PyData.hasDict]
  | .bool _, _, _ => by simp [PyData.hasDict]
  | .int _, _, _ => by simp [PyData.hasDict]
  | .str _, _, _ => by simp [PyData.hasDict]
  | .list ds, _, h => by
    cases h with
    | lst _ ha =>
      unfold PyData.hasDict
      exact noDs ds _ ha
  | .tuple ds, _, h => by
    cases h with
    | tup _ ha =>
      unfold PyData.hasDict
      exact noDs ds _ ha
  | .dict _, _, h => by cases h
theorem noDs {K : PySem.W.Frag} {H : Hp} : ∀ (ds : List PyData) (vs : List V), DpAll K H vs ds → PyData.hasDictAll ds = false
  | [], _, _ => by simp [PyData.hasDictAll]
  | d :: ds, _, h => by
    cases h with
    | cons a b =>
      unfold PyData.hasDictAll
      rw [noD d _ a, noDs ds _ b]
      rfl
end
theorem dpAll_length {K : PySem.W.Frag} {H : Hp} : ∀ {vs : List V} {ds : List PyData}, DpAll K H vs ds → vs.length = ds.length
  | _, _, .nil => rfl
  | _, _, .cons _ h => congrArg Nat.succ (dpAll_length h)
section
variable {X : Cx} {pins : List (Addr ×
      Obj)} {σ : L2.St} {H : Hp} {s : Shared}
theorem pairs_vals {P : Program} {w : World} : ∀ {kvs : List (Key × V)} {vs : List (Key × Value)} {es : List DictEntry}, KV kvs vs → Pairs (mixKind P w) es vs →
    Vals (kvs.map fun p => kV p.1) (es.map (·.key)) ∧ Vals (kvs.map (·.2)) (es.map (·.val))
  | _, _, _, .nil, .nil => ⟨.nil, .nil⟩
  | _, _, _, .cons r t, .cons hk hv hp => by
    obtain ⟨a, b⟩ := pairs_vals t hp
    obtain ⟨r1, r2⟩ := r
    refine ⟨.cons ?_ a, .cons ?_ b⟩
    · show RelV (kV _) _
      rw [r1]
      rcases keyIs_shape (show keyIs _ _ = true from hk) with ⟨i, tk, e1, e2⟩ | ⟨x, tk, e1, e2⟩
      · rw [e1]
        show RelV _ (DictEntry.key _)
        rw [e2]
        exact ⟨tk, rfl⟩
      · rw [e1]
        show RelV _ (DictEntry.key _)
        rw [e2]
        exact ⟨tk, rfl⟩
    · show RelV _ (DictEntry.val _)
      rw [hv]
      exact r2
theorem zip_fst : ∀ {ks vs : List PyData}, ks.length = vs.length → (ks.zip vs).map (·.1) = ks
  | [], [], _ => rfl
  | k :: ks, v :: vs, h => by
    rw [List.zip_cons_cons, List.map_cons, zip_fst (Nat.succ.inj h)]
theorem zip_snd : ∀ {ks vs : List PyData}, ks.length = vs.length → (ks.zip vs).map (·.2) = vs
  | [], [], _ => rfl
  | k :: ks, v :: vs, h => by
    rw [List.zip_cons_cons, List.map_cons, zip_snd (Nat.succ.inj h)]
/-- read off the heap; no address but lists' is met that may be the modules' dict -/
theorem DX.reads (I : Inv X pins σ H s) {v : V} {d : PyData} {u : Value} (h : DX X.K H v d) (r : RelV v u) : ∃ as, Reads s.heap u d as ∧ (d.hasDict = true → sysModules ∉ as) := by
  cases h with
  | dp h =>
    obtain ⟨as, q⟩ := Dp.reads I _ _ _ h r
    exact ⟨as, q, fun z => by rw [noD _ _ h] at z; cases z⟩
  | @dc a kvs ks vs ha hk hv fk fv =>
    cases (show u = Value.ref a from r)
    obtain ⟨_, hsys, us, rel, o, es, ep, ho, hx, hd, _, hp, _⟩ := (show ObjOk X.prog X.w H s.heap a (.dK kvs) from I.hok a _ ha)
    obtain ⟨rk, rv⟩ := pairs_vals rel hp
    obtain ⟨as, q1⟩ := Dp.readsAll I ks _ _ hk rk
    obtain ⟨bs, q2⟩ := Dp.readsAll I vs _ _ hv rv
    have hl : ks.length = vs.length := by
      rw [← dpAll_length hk, ← dpAll_length hv, List.length_map, List.length_map]
    refine ⟨a :: as ++ bs, Reads.dict ho hx.1 hd (by rw [zip_fst hl]; exact q1) (by rw [zip_snd hl]; exact q2), fun _ hm => ?_⟩
    rw [flats_read q1 fk, flats_read q2 fv] at hm
    have e : sysModules = a := by simpa using hm
    rw [e] at hsys
    simp at hsys
theorem DXAll.reads {b : Bool} (I : Inv X pins σ H s) : ∀ {vs : List V} {ds : List PyData} {us : List Value}, DXAll X.K H vs ds → (∀ d ∈ ds, d.hasDict = b) → Vals vs us → ∃ as, ReadsAll s.heap us ds as ∧ (b = true → sysModules ∉ as)
  | _, _, _, .nil, _, .nil => ⟨[], .nil, fun _ h => by cases h⟩
  | _, _, _, .cons a r, e, .cons q t => by
    obtain ⟨as, h1, n1⟩ := a.reads I q
    obtain ⟨bs, h2, n2⟩ := DXAll.reads I r (fun d hd => e d (List.mem_cons_of_mem _ hd)) t
    refine ⟨as ++ bs, .cons h1 h2, fun hb hm => ?_⟩
    rcases List.mem_append.mp hm with z | z
    · exact n1 ((e _ (List.mem_cons_self ..)).trans hb) z
    · exact n2 hb z
theorem dictAll_of {b : Bool} : ∀ {ds : List PyData}, (∀ d ∈ ds, d.hasDict = b) → PyData.hasDictAll ds = true → b = true
  | [], _, h => by
    unfold PyData.hasDictAll at h
    cases h
  | d :: ds, e, h => by
    unfold PyData.hasDictAll at h
    rw [Bool.or_eq_true] at h
    rcases h with h | h
    · rw [e d (List.mem_cons_self ..)] at h
      exact h
    · exact dictAll_of (fun x hx => e x (List.mem_cons_of_mem _ hx)) h
end
/-- the answer's size and depth are small -/
structure Shows (d : PyData) : Prop where
  sh : d.showable = true
  sz : d.shown.length ≤ sizeLine
  dp : d.depth ≤ 60
def rRepr (K : PySem.W.Frag) : List V → Hp → VK → Prop := fun xs H Q => ∃ v d, xs = [v] ∧ DX K H v d ∧ Shows d ∧ Q (.str d.shown) H
section
variable {X : Cx}
theorem call_repr (hg : X.A.guards = some []) (hu : X.A.units + 64 < cLine) : CallR X (.builtin "repr") (rRepr X.K) := by
  intro pins s σ
        H xs us Q I r h
  obtain ⟨v, d, rfl, hd, S, q⟩ := h
  cases r with
  | @cons _ u _ _ rv rn =>
    cases rn
    obtain ⟨as, hr, hs⟩ := hd.reads I rv
    have fin : ∀ h' t k, (∀ b o, s.heap.get? b = some o → h'.get? b = some o) → EP X pins σ Q (.str d.shown t) { s with heap := h', toks := k } := fun h' t k kk => ⟨.str d.shown, H, I.kept kk, ⟨_, rfl⟩, q⟩
    cases hr with
    | none => exact PySem.P.repr_of_none (by rw [PyData.shown_none] at fin; exact fin s.heap s.toks _ fun _ _ z => z)
    | bool b => exact PySem.P.repr_of_bool (by rw [PyData.shown_bool] at fin; exact fin s.heap s.toks _ fun _ _ z => z)
    | int i t =>
      have hi : i.natAbs.log2 < 1920 := by
        have z := S.sh
        unfold PyData.showable at z
        exact of_decide_eq_true z
      exact PySem.P.repr_of_int hi (by rw [PyData.shown_int] at fin; exact fin s.heap s.toks _ fun _ _ z => z)
    | str x t =>
      have z := S.sz
      rw [PyData.shown_str] at z fin
      exact PySem.P.repr_of_str (fin s.heap s.toks _ fun _ _ z => z) z
    | list h1 h2 h3 h4 => exact repr_of_reads' (.list h1 h2 h3 h4) S.sh hs hg (by have := S.dp; omega) (fun _ _ z => z) (fun h' t k kk => fin h' t k kk) S.sz
    | tuple h1 h2 h3 h4 => exact repr_of_reads' (.tuple h1 h2 h3 h4) S.sh hs hg (by have := S.dp; omega) (fun _ _ z => z) (fun h' t k kk => fin h' t k kk) S.sz
    | dict h1 h2 h3 h4 h5 => exact repr_of_reads' (.dict h1 h2 h3 h4 h5) S.sh hs hg (by have := S.dp; omega) (fun _ _ z => z) (fun h' t k kk => fin h' t k kk) S.sz
/-- repr of a list that was laid in the call: not the modules' dict -/
def rReprL (K : PySem.W.Frag) : List V → Hp → VK → Prop := fun xs H Q => ∃ (p : Addr) (vs : List V) (ds : List PyData) (b : Bool), xs = [.ref p] ∧ H p = some (.lst vs) ∧ p ≠ sysModules ∧ DXAll K H vs ds ∧ (∀ d ∈ ds, d.hasDict = b) ∧ Shows (.list ds) ∧ Q (.str (PyData.list ds).shown) H
theorem call_reprL (hg : X.A.guards = some []) (hu : X.A.units + 64 < cLine) : CallR X (.builtin "repr") (rReprL X.K) := by
  intro pins s σ
        H xs us Q I r h
  obtain ⟨p, vs, ds, b, rfl, hp, np, hd, hb, S, q⟩ := h
  cases r with
  | @cons _ u _ _ rv rn =>
    cases rn
    cases (show u = Value.ref p from rv)
    obtain ⟨_, its, n, rvs, ho⟩ := (show ObjOk X.prog X.w H s.heap p (.lst vs) from I.hok p _ hp)
    obtain ⟨as, hr, hs⟩ := hd.reads I hb rvs
    refine repr_of_reads' (Reads.list ho rfl rfl hr) S.sh (fun z => ?_) hg (by have := S.dp; omega) (fun _ _ z => z) (fun h' t k kk => ⟨.str (PyData.list ds).shown, H, I.kept kk, ⟨_, rfl⟩, q⟩) S.sz
    unfold PyData.hasDict at z
    intro hm
    rcases List.mem_cons.mp
          hm with e | e
    · exact np e.symm
    · exact hs (dictAll_of hb z) e
/-- a list display, and its address -/
def tLstS (t : TA) : TE := fun σ H Q => t σ H fun xs H1 => xs.length ≤ sizeLine ∧ ∀ p, H1 p = none → p ≠ sysModules → Q (.ref p) (upd H1 p (.lst xs))
theorem pe_lstS {es : List Expr} {t : TA} {pos : Pos} (h : PA X es t) : PE X (.List es pos) (tLstS t) := by
  refine ⟨fun pins s
        σ H Q I hq => ?_⟩
  refine wpAny_List_spliced (thn (h.run pos pins s σ H _ I hq) fun us s1 hh => ?_)
  obtain ⟨xs, H1, I1, r, z, q⟩ := hh
  refine ⟨by rw [← r.length]; exact z, ?_⟩
  have free : H1 s1.heap.objs.size = none := I1.hok.fresh (Nat.le_refl _)
  have big := Inv.big I1
  refine ⟨.ref s1.heap.objs.size, upd H1 s1.heap.objs.size (.lst xs), I1.laid (t' := s1.toks) (fun b u e => Heap.get?_push_of_some _ e) (Nat.le_refl _) ?_, rfl, q _ free (Ne.symm (Nat.ne_of_lt big))⟩
  exact ⟨z, us, 0, r,
        Heap.get?_push_size _ rfl⟩
/-- xs.count(b), truth values -/
def eqb (k : Bool) (v : Value) : Bool := match v with
  | .bool n => n == k
  | _ => false
theorem eqb_gives {k : Bool} {A : Around} {s : Shared} : ∀ {us : List Value} {bs : List Bool}, Vals (bs.map V.bl) us → ∀ y ∈ us, SeqAt.EqAt A s y (.bool k) (eqb k y)
  | _, [], .nil => fun y hy => by cases hy
  | _, b :: bs, .cons r h => fun y hy => by
    rcases List.mem_cons.mp
          hy with e | e
    · rw [e, show _ = Value.bool b from r]
      exact SeqAt.EqAt.bool_bool b k
    · exact eqb_gives h y e
theorem eqb_count {k : Bool} : ∀ {us : List Value} {bs : List Bool}, Vals (bs.map V.bl) us → us.countP (eqb k) = bs.count k
  | _, [], .nil => rfl
  | _, b :: bs, .cons r h => by
    rw [List.countP_cons, List.count_cons, eqb_count (k := k) h, show _ = Value.bool b from r]
    rfl
def rCntB (K : PySem.W.Frag) : V → List V → Hp → VK → Prop := fun x xs H Q => ∃ (p : Addr) (bs : List Bool) (k : Bool), x = .ref p ∧ xs = [.bl k] ∧ SqL K H p (bs.map V.bl) ∧ Q (.int (bs.count k : Nat)) H
theorem mt_count_bool : MtR X "list.count" (rCntB X.K) := by
  intro pins s σ H x
        xs v us Q I rx rxs h
  obtain ⟨p, bs, k, rfl, rfl, hs, q⟩ := h
  cases rx
  obtain ⟨u, rfl,
        ru⟩ := rxs.one
  cases (show u = Value.bool k from ru)
  obtain ⟨its, rv, ⟨⟨cls, dd, data, sl⟩,
        n, ho, hc, hdn, hd⟩, hlen⟩ := I.list hs
  simp only at hc hd
  subst hc hd
  refine call_meets PySem.F.slot_list_count ⟨_, ho, rfl⟩ PySem.F.entry_list_count (PySem.F.args_list_count_2 _ _) (SeqAt.list_countAt p its.toArray n dd sl (.bool k) (eqb k))
    ⟨ho, fun y hy => eqb_gives rv y (by simpa using hy), ?_⟩
  have ec : its.toArray.toList.countP (eqb k) = bs.count k := eqb_count rv
  refine ⟨.int (bs.count k : Nat), H, I.tok _, ⟨s.toks, ?_⟩, q⟩
  show Value.int ((its.toArray.toList.countP (eqb k) : Nat) : Int) s.toks = Value.int ((bs.count k : Nat) : Int) s.toks
  rw [ec]
/-- a short text, many times -/
theorem op_mul_str : OpR X (binaryOp .Mult) (fun x y H Q => ∃ (z : Str) (i : Int), x = .str z ∧ y = .int i ∧ z.length ≤ 16 ∧ 0 ≤ i ∧ i ≤ 1000 ∧ Q (.str (Txt.mul z i)) H) := by
  intro pins s σ H x
        y v u Q I rx ry h
  obtain ⟨z, i, rfl, rfl, hz, h0, h1, q⟩ := h
  obtain ⟨t, rfl⟩ := rx
  obtain ⟨t', rfl⟩ := ry
  refine PySem.W.KXi.mul rfl hz (by omega) (by omega) fun tk k _ _ => ?_
  exact ⟨.str (Txt.mul z i), H, I.tok _, ⟨_, rfl⟩, q⟩
end
end XK
end
section
set_option Elab.async false
set_option linter.all false
set_option maxRecDepth 100000
set_option maxHeartbeats 4100000
namespace XK
open PySem PySem.Spec PyProof.Rows L2
/-! ### a law's own def: it is called where no repr is under way -/
section
variable {P : Program} {w : World} {K : PySem.W.Frag} {mg : Str → Option Value} {base : Heap} {CX : CXT} {k : Nat} {f : Addr} {fd : FuncData} {N ps : List Str} {sp : Sp}
/-- a def's promise where the claim's caller calls it -/
structure AtCaller (P : Program) (w : World) (K : PySem.W.Frag) (mg : Str → Option Value) (base : Heap) (CX : CXT) (k : Nat) (f : Addr) (fd : FuncData) (ps : List Str) (sp : Sp) : Prop where
  go : ∀ (outer : List Env) (s : Shared) (H : Hp) (args : Args) (us : List Value) (vs : List V) (Q : VK) (E : XK), Room k callerA → Env0 P w K mg base callerA outer s H → BindsTo s fd args (ps.zip us) → Vals vs us → sp vs H Q E →
    codeAny (model P w) callerA (.call (.ref f) args) (CR CX outer P w H s Q E) s
theorem atCaller {x qual : Str} {st : Stmt} (F : Fun K x qual st f fd) (S : FnScope N ps (defScope st)) (len : ∀ vs H Q E, sp vs H Q E → vs.length = ps.length)
    (body : ∀ (cdv : Value) (outer : List Env) (s : Shared) (H : Hp) (vs : List V) (Q : VK) (E : XK), Room k (callerA.deeper (envOfC qual (defScope st) s.heap.objs.size f cdv)) → sp vs H Q E →
      ∃ t, PSs (cxOf CX P w K mg base N qual (defScope st) f cdv callerA outer s H E).nox (defBody st) t ∧ t { nx := fun _ H' => Q .non H', rt := Q } (start N vs) H) :
    AtCaller P w K mg base CX (k + 1) f fd ps sp := by
  obtain ⟨oc, od, kV, doc, pm, an,
        cdv, ct, osl, rfl, lk, hcd⟩ := F.ex
  constructor
  intro outer s H args us vs Q E room env bind rel want
  have count := len _ _ _ _ want
  have inn : K.In s.heap := env.mod.kin.keeps fun b o e => (env.bs b o e).1
  have lim : s.heap.NoLimit := env.mod.nolimit.keeps fun b o e => (env.bs b o e).1
  have kinds : ∀ y ∈ ps.zip us, (defScope st).names.lookup y.1 = some .local ∨ ((defScope st).names.lookup y.1 = some .cell ∧ ((cellsFrom (s.heap.objs.size + 1) (defScope st).names []).lookup y.1).isSome = true) := by
    rintro ⟨n, v⟩ hy
    cases S.par n (List.of_mem_zip hy).1 with
    | inl q => exact .inl q
    | inr q => exact .inr ⟨q, PySem.W.cellsFrom_some _ _ _ (.inl q)⟩
  refine codeAny_call_function room.depth (inn _ _ lk) rfl S.co S.gen rfl (PySem.W.codeRec_of inn hcd) (bind _ _ _ _ ?_)
  refine wpAny_newFunctionEnv_cells S.kind kinds fun en hen s1 entered => ?_
  subst hen
  refine ⟨lim.keeps entered.toInCall.keep, codeAny_func ?_⟩
  obtain ⟨t, der, rd⟩ := body cdv outer s H vs Q E (room.deeper _) want
  have I0 : Inv (cxOf CX P w K mg base N qual (defScope st) f cdv callerA outer s H E) [] (start N vs) H s1 := inv_start S room.hd env count rel entered
  refine wpAny_mono (der.nox.run [] s1 (start N vs) H _ I0 rd) (fun flow s' res => ?_) fun _ _ res => res
  cases flow with
  | ret u =>
    obtain ⟨v, σ', H', J, rv, q⟩ := res
    exact ⟨v, H', J.os, J.bare, J.base, J.hok, rv, q⟩
  | next =>
    obtain ⟨σ', H', J, q⟩ := res
    exact ⟨V.non, H', J.os, J.bare, J.base, J.hok, rfl, q⟩
  | brk =>
    obtain ⟨_, _, _, no⟩ := res
    exact no.elim
  | cont =>
    obtain ⟨_, _, _, no⟩ := res
    exact no.elim
end
/-- the law's call: nothing but the script may be tracked at its entry -/
theorem caller_runs {P : Program} {w : World} {K : PySem.W.Frag} {mg mb : Str → Option Value} {k : Nat} {fa a : Addr} {fd : FuncData} {x : Str} {sp : Sp} {s₁ : Shared} {vs : List Value} {ns : List Int}
    (inn : K.In s₁.heap) (glob : s₁.heap.Ns mainGlobals mg) (bns : s₁.heap.Ns builtinsNs mb) (boot : ∀ x : Str, x ≠ "__name__" → mb x = bootBuiltins x) (lim : s₁.heap.NoLimit) (gens : s₁.gens = #[])
    (obj : s₁.heap.get? a = some { cls := .type "list", data := .seq vs.toArray }) (inz : IntsAre vs ns) (short : ns.length ≤ sizeLine) (room : Room k callerA)
    (F : ∀ base : Heap, K.In base → base.Ns mainGlobals mg → AtCaller P w K mg base CX0 k fa fd [x] sp) (bind : ∀ (s : Shared) (u : Value), BindsTo s fd ⟨[u], []⟩ [(x, u)])
    (want : ∀ H : Hp, SqL K H a (ns.map V.int) → sp [.ref a] H (fun v _ => v = .bl true) fun _ _ _ => False) :
    codeAny (model P w) callerA (.call (.ref fa) ⟨[.ref a], []⟩) (fun r s' => r = .ok
          (.ret (.bool true)) ∧ OldK s₁.heap s'.heap ∧ s'.os = s₁.os ∧ AllBare s'.gens) s₁ := by
  have vals := vals_ints inz
  have many := inz.length
  have main : ∀ H : Hp, (∀ b, H b = none ∨ ∃ ob xs, H b = some (.frz ob xs)) → SqL K H a (ns.map V.int) → HOk P w H s₁.heap → (∀ b, H b ≠ none → b = a ∧ K.lookup b = none) →
      codeAny (model P w) callerA (.call (.ref fa) ⟨[.ref a], []⟩) (fun r s' => r = .ok
            (.ret (.bool true)) ∧ OldK s₁.heap s'.heap ∧ s'.os = s₁.os ∧ AllBare s'.gens) s₁ := by
    intro H frozen seq ok alone
    have plain : ∀ {b : Addr} {o : Obj}, s₁.heap.get? b = some o → (b = a → False) → H b = none := fun {b o} _ nb => by
      cases q : H b with
      | none => rfl
      | some u => exact (nb (alone b (by rw [q]; simp)).1).elim
    have space : ∀ {b : Addr} {m : Str → Option Value}, s₁.heap.Ns b m → (hidT s₁.heap H).Ns b m := fun {b m} ⟨o, es, ep, e, d, r⟩ =>
      ⟨o, es, ep, hidT_get e (plain e fun z => by
        rw [z, obj] at e
        cases e
        cases (show Data.seq vs.toArray _ = Data.dict es ep from d)), d, r⟩
    have kept : K.In (hidT s₁.heap H) := fun b o e => hidT_get (inn b o e) (by
      cases q : H b with
      | none => rfl
      | some u =>
        have z := (alone b (by rw [q]; simp)).2
        rw [z] at e
        cases e)
    have md : Mod K mg (hidT s₁.heap H) := ⟨kept, space glob, ⟨mb, space bns, boot⟩, by
      obtain ⟨mc, h1, h2⟩ := lim
      exact ⟨mc, space h1, h2⟩⟩
    have env : Env0 P w K mg (hidT s₁.heap H) callerA [] s₁ H :=
      ⟨rfl, md, fun b o e => of_hidT e, Nat.le_of_eq (hidT_size _ _), trivial, fun b hb => (by cases hb), ok, AllBare.of_eq gens⟩
    have res := (F _ kept (space glob)).go [] s₁ H ⟨[.ref a], []⟩ [.ref a] [.ref a] _ _ room env (bind s₁ (.ref a)) (.cons rfl .nil) (want H seq)
    refine codeAny_mono res fun r s' h => ?_
    cases r with
    | error e => exact False.elim h
    | ok fl =>
      cases fl with
      | next => exact False.elim h
      | brk => exact False.elim h
      | cont => exact False.elim h
      | ret u =>
        obtain ⟨v, H', os, bare, un, ok', rel, q⟩ := h
        obtain rfl : v = .bl true := q
        obtain rfl : u = Value.bool true := rel
        refine ⟨rfl, OldK.of_keep
              fun b o e => ?_, os, bare⟩
        rcases frozen b with z | ⟨ob, xs, z⟩
        · exact un.keep b o e z (fun z => by cases z) (fun z => by cases z)
        · obtain ⟨e1, _⟩ := ok b _ z
          obtain ⟨e2, _⟩ := ok' b _ (un.frzs b ob _ z)
          rw [e] at e1
          cases e1
          exact e2
  cases hk : K.lookup a with
  | some o =>
    have e := inn a o hk
    rw [obj] at e
    cases e
    refine main (fun _ => none) (fun _ => .inl rfl) (.inr ⟨_, vs.toArray, _, hk, rfl, rfl, rfl, ?_, ?_⟩) (fun b u z => by cases (show (none : Option HO) = some u from z)) fun b z => absurd rfl z
    · rw [List.size_toArray, many]
      exact short
    · simpa using vals
  | none =>
    refine main (upd (fun _ => none) a (.frz { cls := .type "list", data := .seq vs.toArray } (.lst (ns.map V.int)))) (fun b => ?_) (.inl (.inr ⟨_, upd_same⟩)) (fun b u z => ?_) fun b z => ?_
    · by_cases hb : b = a
      · rw [hb]
        exact .inr ⟨_, _, upd_same⟩
      · exact .inl (upd_ne hb)
    · by_cases hb : b = a
      · subst hb
        rw [upd_same] at z
        cases z
        exact ⟨obj, by rw [List.length_map]; exact short, vs, _, vals, obj⟩
      · rw [upd_ne hb] at z
        cases z
    · by_cases hb : b = a
      · exact ⟨hb, by rw [hb]; exact hk⟩
      · exact absurd (upd_ne hb) z
/-- the goal that the head leaves -/
theorem caller_walk {l : PySem.W.OpenLaw} {n k : Nat} {q : Program} {loose : List Str} {XP : (Str → Option Value) → Heap → Prop} {YP : World → Heap → Prop} {d : DefRec} {K : Params → PySem.W.Frag} {sp : World → Sp} {x : Str}
    (most : l.most = some n) (small : n ≤ sizeLine) (plain : d.params.defaults = []) (room : Room k callerA)
    (Y : ∀ (w : World) (h : Heap), YP w h → (K w.params).In h)
    (F : ∀ (w : World) (mg : Str → Option Value) (fa : Addr) (h : Heap), (K w.params).In h → h.Ns mainGlobals mg → mg d.name = some (.ref fa) →
      ∃ fd : FuncData, (∀ (s : Shared) (u :
            Value), BindsTo s fd ⟨[u], []⟩ [(x, u)]) ∧
        ∀ base : Heap, (K w.params).In base → base.Ns mainGlobals mg → AtCaller l.prog w (K w.params) mg base CX0 k fa fd [x] (sp w))
    (want : ∀ (w : World) (H : Hp) (a : Addr) (ns : List Int), ns.length ≤ n → SqL (K w.params) H a (ns.map V.int) → sp w [.ref a] H (fun v _ => v = .bl true) fun _ _ _ => False) :
    PySem.W.WalkO q loose XP YP l.row.toRowW
          d [] (fun f vs => PySem.call f vs) := by
  refine Att.attach_call most plain fun w s₀ s₁ mg mb fa o pm cd doc a vs ns G y ho hd hcd hmg obj inz many gens => ?_
  obtain ⟨fd, bind, run⟩ := F w mg fa _ (Y w _ y) G.T.g hmg
  exact caller_runs (Y w _ y) G.T.g G.T.b G.T.builtins G.T.nolimit gens obj inz (Nat.le_trans many small) room run bind fun H seq => want w H a ns many seq
end XK
end
section
set_option Elab.async false
set_option linter.all false
set_option maxRecDepth 100000
set_option maxHeartbeats 4100000
namespace XS
open PySem PySem.Spec PyProof.Rows L2
section
variable {X : Cx} {pins : List (Addr × Obj)} {σ : L2.St} {H : Hp} {s : Shared} {f : Addr} {fd : FuncData} {x qual : Str} {st : Stmt} {z : Str} {k : Nat}
/-- a def without parameters that hands back a written text: a token is out behind it -/
theorem run_lit {j : Nat} {p1 p2 : Pos} (F : Fun X.K x qual st f fd) (S : FnScope [] [] (defScope st)) (hb : defBody st = [.Return (some (.Constant (.str z) j p1)) p2]) (bind : ∀ s, BindsTo s fd ⟨[], []⟩ []) (nc : (defScope st).names = []) (hr : Room k X.A)
    (I : Inv X pins σ H s) : wpAny (model X.prog X.w) X.A (call (.ref f) []) (fun v s1 => 1 ≤ s1.toks ∧ ∃ t, v = .str z t ∧ Inv X pins σ H s1) X.xe s := by
  obtain ⟨oc, od, kV, doc, pm, an, cdv, ct, osl, rfl, lk, co⟩ := F.ex
  refine wpAny_call (Att.call_fn (binds := []) I.kIn I.nolimit lk co hr.depth (bind s) rfl (fun s₁ IC => ?_) S.co S.gen S.kind)
  obtain ⟨h₁, tk₁, rfl⟩ := IC.toInCall.same
  rw [hb]
  show wpAny _ _ (execs _ _) _ _ _
  refine wpAny_execs_cons (wpAny_Return_some (Calls.Constant_str ?_))
  refine ⟨Nat.succ_le_succ (Nat.zero_le _), tk₁, rfl, ?_⟩
  exact I.kept (t' := tk₁ + 1) fun b o e => IC.toInCall.keep b o e
/-- signs().replace(y, w) -/
theorem pe_litRepl {j j0 j1 : Nat} {y w : Str} {p p1 p2 q apos pos c0 c1 : Pos} (F : Fun X.K x qual st f fd) (S : FnScope [] [] (defScope st)) (hb : defBody st = [.Return (some (.Constant (.str z) j p1)) p2]) (bind : ∀ s, BindsTo s fd ⟨[], []⟩ []) (nc : (defScope st).names = []) (hr : Room k X.A)
    (gF : X.mg x = some (.ref f)) (hyz : (y == w) = false) (hl : z.length + (z.length + 1) * w.length ≤ 16777216) (hg : Gl X x := by rfl) (hdb : (x == ("__debug__" : Str)) = false := by decide)
    (hst : starEach [.Constant (.str y) j0 c0, .Constant (.str w) j1 c1] X.env = [(false, eval (.Constant (.str y) j0 c0) X.env), (false, eval (.Constant (.str w) j1 c1) X.env)] := by rfl)
    (hbase : attributeBase (.Call (.Name x p) [] [] q) "replace" X.env (eval (.Call (.Name x p) [] [] q) X.env) = eval (.Call (.Name x p) [] [] q) X.env := by rfl) (hline : (apos.endLine == pos.line) = true := by rfl) :
    PE X (.Call (.Attribute (.Call (.Name x p) [] [] q) "replace" apos) [.Constant (.str y) j0 c0, .Constant (.str w) j1 c1] [] pos) (tC (.str (Txt.replace z y w))) := by
  refine ⟨fun pins s σ H Q I h => ?_⟩
  refine PySem.Call_method2 hbase hst hline ?_
  refine wpAny_Call_Name_kw (ld_glob I hg gF ?_ hdb)
  refine PySem.W.callWith_K0 I.kIn F.kp ?_
  refine wpAny_mono (run_lit F S hb bind nc hr I) (fun v s1 hv => ?_) fun _ _ e => e
  obtain ⟨one, tx, rfl, I1⟩ := hv
  refine ⟨"str", _, PySem.F.plainAttrs_str, PySem.F.slot_str_replace, PySem.F.type_str_replace, typeIs_str _ _ _, (fun _ e => nomatch e), Calls.callWith_builtin rfl (Calls.evalArgs_plain (Calls.spliced_cons ?_))⟩
  refine Calls.Constant_str (Calls.spliced_cons (Calls.Constant_str (Calls.spliced_nil ?_)))
  refine PySem.SC.replace (by show s1.toks ≠ 0; omega) (by show s1.toks + 1 ≠ 0; omega) (by show s1.toks ≠ s1.toks + 1; omega) hyz hl fun t' k => ?_
  exact ⟨.str (Txt.replace z y w), H, I1.tok k, ⟨t', rfl⟩, h⟩
end
/-! ### texts by their codes -/
/-- a text's codes -/
abbrev cod (z : Str) : List Nat := z.cps.toList
theorem len_cod (z : Str) : (cod z).length = z.length := by
  show z.cps.toList.length = z.cps.size
  simp
theorem cod_ext {a b : Str} (h : cod a = cod b) : a = b := by
  obtain ⟨⟨x⟩⟩ := a
  obtain ⟨⟨y⟩⟩ := b
  have h' : x = y := h
  rw [h']
/-- the text of one sign -/
def sg (c : Nat) : Str := ⟨#[c]⟩
theorem joinL_sg : ∀ cs : List Nat, TL.joinL [] (cs.map fun c => [c]) = cs := by
  intro cs
  induction cs with
  | nil => rfl
  | cons c r ih =>
    cases r with
    | nil => rfl
    | cons d r' =>
      show [c] ++ [] ++ TL.joinL [] ((d :: r').map fun c => [c]) = c :: d :: r'
      rw [ih]
      rfl
theorem join_sg (cs : List Nat) : cod (Txt.join ⟨#[]⟩ (cs.map sg)) = cs := by
  have h := SX.join_S [] (cs.map fun c => [c])
  rw [joinL_sg] at h
  have e : (cs.map fun c => [c]).map SX.S = cs.map sg := by
    rw [List.map_map]
    rfl
  rw [e] at h
  show (Txt.join (SX.S []) (cs.map sg)).cps.toList = cs
  rw [h]
theorem sg_inj {c d : Nat} (h : sg c = sg d) : c = d := by
  have e : #[c] = #[d] := congrArg Str.cps h
  simpa using e
end XS
end
section
set_option Elab.async false
set_option linter.all false
set_option maxRecDepth 100000
set_option maxHeartbeats 4100000
namespace XT
open PySem PySem.Spec PyProof.Rows L2
/-! ### max of a list of ints, with what stands for none -/
section
variable {prog : Program} {w : World} {A : Around} {R : Result → Shared → Prop} {I S : Addr} {fp wr : List Addr} {n : Nat} {P : Nat → Value → Prop} {St : Nat → Heap → Prop} {bt : Nat → Nat → Bool} {d : Value}
def heldBy : Option Value → Array Value
  | none => #[]
  | some v => #[v, v]
def BestOf (P : Nat → Value → Prop) (bt : Nat → Nat → Bool) (d : Value) (n : Nat) (v : Value) : Prop := (n = 0 ∧ v = d) ∨ (0 < n ∧ P (argBest bt (n - 1)) v)
def Have (P : Nat → Value → Prop) (bt : Nat → Nat → Bool) (i : Nat) : Option Value → Prop
  | none => i = 0
  | some v => 0 < i ∧ P (argBest bt (i - 1)) v
theorem max_turns (W : Walks prog w A.in1 I fp wr n P St) (C : CmpOf prog w A.in1 .Gt P bt) (nS : S ∉ fp) : ∀ (k i : Nat) (s : Shared) (b : Option Value) (c : Nat), n = i + k → St i s.heap → Have P bt i b →
    s.heap.get? S = some { cls := .type "list", data := .seq (heldBy b) c } →
    (∀ v h' tk, BestOf P bt d n v → (∀ x o, x ∉ wr → x ≠ S → s.heap.get? x = some o → h'.get? x = some o) → R (.ok (.ret v)) { s with heap := h', toks := tk }) →
    codeAny (model prog w) A (.builtin "max.loop" ⟨[.ref I, .none, .ref S], [("default", d)]⟩) R s := by
  have nW : S ∉ wr := fun h => nS (W.sub _ h)
  intro k
  induction k with
  | zero =>
    intro i s b c e st hb hS q
    obtain rfl : n = i := e
    refine codeAny_builtin
          F.entry_max_loop ?_
    rw [Around.under_plainId
          F.plain_max_loop _]
    show wpAny _ _ (seqItems? (.ref S) >>= _) _ _ s
    refine wpAny_bind
          (wpAny_seqItems hS rfl ?_)
    show wpAny _ _ (tryCatch (pyNext (.ref I)) _ >>= _) _ _ s
    refine wpAny_bind (wpAny_tryCatch (W.done s _ _ st fun h' tk keep => ?_))
    cases b with
    | none =>
      obtain rfl : n = 0 := hb
      show wpAny _ _ (rule _ >>= _) _ _ _
      exact wpAny_bind (wpAny_rule (wpAny_pure (q d h' tk (.inl ⟨rfl, rfl⟩) fun x o h1 _ h3 => keep x o h1 h3)))
    | some v =>
      have hS2 := keep S _ nW hS
      show wpAny _ _ (updateSeq S (fun _ => #[]) >>= _) _ _ _
      refine wpAny_bind (wpAny_updateSeq hS2 rfl (wpAny_bind (wpAny_letGo (wpAny_pure ?_))) (hz := by show 2 ≤ sizeLine; decide))
      exact q v _ tk (.inr hb) fun x o h1 h2 h3 => (Heap.get?_update_other _ _ h2.symm).trans (keep x o h1 h3)
  | succ k ih =>
    intro i s b c e st hb hS q
    have lt : i < n := by omega
    have name : (toString "max" ++ toString ".loop" : String) = "max.loop" := by decide
    refine codeAny_builtin
          F.entry_max_loop ?_
    rw [Around.under_plainId
          F.plain_max_loop _]
    show wpAny _ _ (seqItems? (.ref S) >>= _) _ _ s
    refine wpAny_bind
          (wpAny_seqItems hS rfl ?_)
    show wpAny _ _ (tryCatch (pyNext (.ref I)) _ >>= _) _ _ s
    refine wpAny_bind (wpAny_tryCatch (W.item i s _ _ lt st fun v h' tk hv st2 keep => ?_))
    have hS2 := keep S _ nW hS
    have put : ∀ (x : Array Value), St (i + 1) (h'.update S (Obj.mapSeq fun _ => x)) := fun x => W.frame _ _ _ st2 fun y hy o ey => (Heap.get?_update_other _ _ (fun h : S = y => nS (h ▸ hy))).trans ey
    have old : ∀ (x : Array Value) (y : Addr) (o : Obj), y ∉ wr → y ≠ S → s.heap.get? y = some o → (h'.update S (Obj.mapSeq fun _ => x)).get? y = some o := fun x y o h1 h2 h3 => (Heap.get?_update_other _ _ h2.symm).trans (keep y o h1 h3)
    cases b with
    | none =>
      obtain rfl : i = 0 := hb
      show wpAny _ _ (updateSeq S (fun _ => #[v, v]) >>= _) _ _ _
      refine wpAny_bind
            (wpAny_updateSeq hS2 rfl ?_)
      rw [name]
      refine wpAny_pure ⟨plainId_quiet F.plain_max_loop _, ih 1 _ (some v) _ (by omega) (put _) ⟨Nat.one_pos, hv⟩ (Heap.get?_update_self _ hS2 rfl) fun z h2 t2 hz k2 => ?_⟩
      exact q z h2 t2 hz fun y o h1 h3 h4 => k2 y o h1 h3 (old _ y o h1 h3 h4)
    | some u =>
      obtain ⟨ip, hu⟩ := hb
      show wpAny _ _ (tryCatch (holding [v, v] (richCompare .Gt v u >>= _)) _ >>= _) _ _ _
      refine wpAny_bind (wpAny_tryCatch (wpAny_holding (wpAny_bind (C i (argBest bt (i - 1)) v u _ _ _ hv hu ?_))))
      refine wpAny_bind (wpAny_holding
            (wpAny_truthy_bool ?_))
      refine wpAny_bind
            (wpAny_letGo (wpAny_pure ?_))
      have step : argBest bt i = if bt i (argBest bt (i - 1)) then i else argBest bt (i - 1) := by
        cases i with
        | zero => exact absurd ip (Nat.lt_irrefl 0)
        | succ j => rfl
      cases hc : bt i (argBest bt (i - 1)) with
      | true =>
        rw [hc, if_pos rfl] at step
        simp only [if_true]
        refine wpAny_bind (wpAny_updateSeq hS2 rfl (wpAny_bind (wpAny_letGo ?_)) (hz := by show 2 ≤ sizeLine; decide))
        rw [name]
        refine wpAny_pure ⟨plainId_quiet F.plain_max_loop _, ih (i + 1) _ (some v) _ (by omega) (put _) ⟨Nat.succ_pos _, by rw [Nat.add_sub_cancel, step]; exact hv⟩ (Heap.get?_update_self _ hS2 rfl) fun z h2 t2 hz k2 => ?_⟩
        exact q z h2 t2 hz fun y o h1 h3 h4 => k2 y o h1 h3 (old _ y o h1 h3 h4)
      | false =>
        rw [hc, if_neg (by decide)] at step
        simp only [Bool.false_eq_true,
              if_false]
        refine wpAny_bind
              (wpAny_letGo ?_)
        rw [name]
        refine wpAny_pure ⟨plainId_quiet F.plain_max_loop _, ih (i + 1) _ (some u) c (by omega) st2 ⟨Nat.succ_pos _, by rw [Nat.add_sub_cancel, step]; exact hu⟩ hS2 fun z h2 t2 hz k2 => ?_⟩
        exact q z h2 t2 hz fun y o h1 h3 h4 => k2 y o h1 h3 (keep y o h1 h4)
end
section
variable {prog : Program} {w : World} {A : Around} {E : Value → Shared → Prop} {s : Shared} {l : Addr} {its : List Value} {ns : List Int} {Q : Value → Shared → Prop} {d : Value}
/-- a built-in function by keywords that goes on in a loop of its own -/
theorem call_goes {id : String} {b : Builtin} {args : List Value} {kw : List (Str × Value)} (hk : builtinKind id = none) (hp : plainId id = true) (hb : entryFor table id = some b) (ha : argsOk id ⟨args, kw⟩)
    (hc : wpAny (model prog w) A.in1 (b ⟨args, kw⟩) (fun fin s' => ∃ c, fin = .again c ∧ c.quiet = true ∧ codeAny (model prog w) A c (fun r s₁ => ∃ v, r = .ok (.ret v) ∧ Q v s₁) s') E s) :
    wpAny (model prog w) A (call
          (.builtin id) args kw) Q E s := by
  refine wpAny_call
        (codeAny_call_builtin hp hb ?_)
  have go : wpAny (model prog w) A.in1 (b ⟨args, kw⟩) (fun fin s' => match fin with
      | .done f => (match (Except.ok f : Result) with
        | .ok (.ret v) => Q v s'
        | .ok _ => False
        | .error e => E e s')
      | .again c' => c'.quiet = true ∧ codeAny (model prog w) A c' (fun r s' => match r with | .ok (.ret v) => Q v s' | .ok _ => False | .error e => E e s') s') E s := by
    refine wpAny_mono hc (fun fin s' q => ?_) fun _ _ e => e
    obtain ⟨c, rfl, q1, q2⟩ := q
    refine ⟨q1, codeAny_mono q2 fun r s1 q3 => ?_⟩
    obtain ⟨v, rfl, q4⟩ := q3
    exact q4
  simp only
        [checkBuiltinCall, hk]
  cases sg : Manifest.signature? id with
  | none => exact wpAny_pure go
  | some y =>
    have ok : Bind.checkArgs id y ⟨args, kw⟩ = pure () := by simpa only [argsOk, sg] using ha
    simp only [ok]
    exact wpAny_pure go
theorem max_dflt (hh : A.handled = none) (hl : s.heap.IsList l its.toArray) (hi : IntsAre its ns)
    (h : ∀ h' tk v, (∀ b o, s.heap.get? b = some o → h'.get? b = some o) → (ns = [] ∧ v = d) ∨ (∃ M t, v = .int M t ∧ M ∈ ns ∧ ∀ a ∈ ns, a ≤ M) → Q v { s with heap := h', toks := tk }) : wpAny (model prog w) A (call (.builtin "max") [.ref l] [("default", d)]) Q E s := by
  obtain ⟨xs, e⟩ :=
        hi.allInts.items
  have hn : numsOf (intItems xs).toList
        = ns := by rw [← e]; exact hi.numsOf
  rw [nums_intItems] at hn
  subst hn
  rw [e] at hl
  have name : (toString "max" ++ toString ".loop" : String) = "max.loop" := by decide
  have okA : argsOk "max" ⟨[.ref l], [("default", d)]⟩ := by unfold argsOk; kernel_rfl
  refine call_goes F.kind_max F.plain_max F.entry_max okA ?_
  show wpAny _ A.in1 (Builtin.Builtins.bindParams "max" ["key", "default"] 0 ⟨[], [("default", d)]⟩ >>= _) _ _ s
  refine wpAny_bind (wpAny_of_eq (show Builtin.Builtins.bindParams "max" ["key", "default"] 0 ⟨[], [("default", d)]⟩ = pure [none, some d] from rfl) ?_)
  refine wpAny_bind
        (wpAny_pure ?_)
  refine wpAny_bind (iter_intList hl fun s2 e st fp ne => ?_)
  subst e
  refine wpAny_bind
        (wpAny_newObj_type ?_)
  rw [name]
  have W := Walks.list (prog := prog) (w := w) (A := A.in1) (by exact hh) s.heap.objs.size l ne (intItems xs)
  refine wpAny_pure ⟨_, rfl, plainId_quiet F.plain_max_loop _, ?_⟩
  refine max_turns (d := d) W (CmpOf.ints_gt (numAt xs) fun _ _ => intItems_at) (fun z => Nat.lt_irrefl _ (fp _ z)) _ 0 _ none _ (by rw [Nat.zero_add]) (W.frame _ _ _ st fun b _ o e => Heap.get?_push_of_some _ e) rfl (Heap.get?_push_size _ rfl) fun v h' tk hv keep => ⟨v, rfl, ?_⟩
  refine h h' tk v (fun b o e => ?_) ?_
  · have lt := Heap.lt_size e
    refine keep b o (fun z => ?_) (fun z => ?_) (Heap.get?_push_of_some _ (Heap.get?_push_of_some _ e))
    · exact Nat.ne_of_lt lt (List.mem_singleton.mp z)
    · subst z
      rw [Heap.size_push] at lt
      exact Nat.lt_irrefl _ (Nat.lt_of_succ_lt lt)
  · rcases hv with ⟨n0, rfl⟩ | ⟨np, hv⟩
    · left
      refine ⟨?_, rfl⟩
      have z : xs.size = 0 := by simpa [intItems] using n0
      rw [Array.eq_empty_of_size_eq_zero z]
      rfl
    · right
      obtain ⟨t, rfl⟩
            := intItems_at hv
      have np' : 0 < xs.size := by simpa [intItems] using np
      have e : (intItems xs).size = xs.size := by simp [intItems]
      rw [e]
      obtain ⟨h1, h2⟩ := argBest_gt
            (numAt xs) (xs.size - 1)
      refine ⟨_, t, rfl, ?_, fun a ha => ?_⟩
      · rw [numAt_eq]
        exact PySem.getD_mem (by rw [List.length_map, Array.length_toList]; omega)
      · obtain ⟨j, hj,
            rfl⟩ := mem_getD ha
        rw [List.length_map,
              Array.length_toList] at hj
        rw [← numAt_eq]
        exact h2 j (by omega)
end
section
variable {X : Cx}
/-- max(xs, default=v) of a list of ints: the reading -/
def rMaxOr (K : PySem.W.Frag) : List V → List V → Hp → VK → Prop := fun vs zs H Q => ∃ (a : Addr) (ns : List Int) (i : Int), vs = [V.ref a] ∧ zs = [V.int i] ∧ SqL K H a (ns.map V.int) ∧ ∀ m : Int, (ns = [] ∧ m = i) ∨ (m ∈ ns ∧ ∀ y ∈ ns, y ≤ m) → Q (.int m) H
theorem cr_maxOr (hc : X.calm = true) : CallRK X (.builtin "max") ["default"] (rMaxOr X.K) := by
  intro pins s σ H vs zs us ws Q I r r2 h
  obtain ⟨a, ns, i, rfl, rfl, hs, q⟩ := h
  obtain ⟨its, rv,
        hl, _⟩ := I.list hs
  rw [Vals.ref1 r]
  obtain ⟨u, rfl, t, rfl⟩ := vals1 r2
  refine max_dflt (I.ok.hd hc) hl.isList rv.ints fun h' tk v keep hv => ?_
  rcases hv with ⟨e, rfl⟩ | ⟨M, t2, rfl, h1, h2⟩
  · exact ⟨.int i, H, I.kept keep, ⟨_, rfl⟩, q i (.inl ⟨e, rfl⟩)⟩
  · exact ⟨.int M, H, I.kept keep, ⟨_, rfl⟩, q M (.inr ⟨h1, h2⟩)⟩
/-- any of several readings -/
theorem pe_ex {ι : Sort _} {e : Expr} {t : ι → TE} (h : ∀ i, PE X e (t i)) : PE X e (fun σ H Q => ∃ i, t i σ H Q) :=
  ⟨fun pins s σ H Q I ⟨i, q⟩ => (h i).run pins s σ H Q I q⟩
end
end XT
end
section
set_option Elab.async false
set_option linter.all false
set_option maxRecDepth 100000
set_option maxHeartbeats 4100000
namespace XT
open PySem PySem.Spec PyProof.Rows L2
/-! ### sum of lists, from a list on -/
def lsO (xs : List Value) (c : Nat) : Obj := { cls := .type "list", data := .seq xs.toArray c }
def restOf (L : Nat → List Value) : Nat → Nat → List Value
  | _, 0 => []
  | i, k + 1 => L i ++ restOf L (i + 1) k
section
variable {prog : Program} {w : World} {A : Around} {R : Result → Shared → Prop} {I S : Addr} {fp wr : List Addr} {n : Nat} {P : Nat → Value → Prop} {St : Nat → Heap → Prop}
theorem sum_turns (W : Walks prog w A.in1 I fp wr n P St) (nS : S ∉ fp) (wS : ∀ b ∈ wr, b < S) (B : Nat → Addr) (L : Nat → List Value) (isB : ∀ i v, P i v → v = .ref (B i)) (nB : ∀ i, i < n → B i ∉ wr ∧ B i ≠ S) :
    ∀ (k i : Nat) (s : Shared) (t : Addr) (cur : List Value) (c c1 : Nat), n = i + k → St i s.heap → (∀ j, j < n → ∃ c, s.heap.get? (B j) = some (lsO (L j) c)) →
    s.heap.get? S = some (lsO [.ref t] c) → s.heap.get? t = some (lsO cur c1) → t ≠ S → t ∉ wr → cur.length + (restOf L i k).length ≤ sizeLine →
    (∀ h' tk t' c', h'.get? t' = some (lsO (cur ++ restOf L i k) c') → (S < t ∨ 0 < k → S < t') → (∀ x o, x ∉ wr → x ≠ S → s.heap.get? x = some o → h'.get? x = some o) → R (.ok (.ret (.ref t'))) { s with heap := h', toks := tk }) →
    codeAny (model prog w) A (.builtin "sum.loop" ⟨[.ref I, .ref S, rawInt 2, rawInt 0], []⟩) R s := by
  have nW : S ∉ wr := fun h => nS (W.sub _ h)
  intro k
  induction k with
  | zero =>
    intro i s t cur c c1 e st ls hS ht tS tw fit q
    obtain rfl : n = i := e
    refine codeAny_builtin
          F.entry_sum_loop ?_
    rw [Around.under_plainId
          F.plain_sum_loop _]
    show wpAny _ _ (seqItems? (.ref S) >>= _) _ _ s
    refine wpAny_bind
          (wpAny_seqItems hS rfl ?_)
    show wpAny _ _ (tryCatch (pyNext (.ref I)) _ >>= _) _ _ s
    refine wpAny_bind (wpAny_tryCatch (W.done s _ _ st fun h' tk keep => ?_))
    exact wpAny_pure (q h' tk t c1 (by show _ = some (lsO (cur ++ []) _); rw [List.append_nil]; exact keep t _ tw ht) (fun z => z.elim id fun y => absurd y (Nat.lt_irrefl 0)) fun x o h1 _ h3 => keep x o h1 h3)
  | succ k ih =>
    intro i s t cur c c1 e st ls hS ht tS tw fit q
    have lt : i < n := by omega
    have eR : restOf L i (k + 1) = L i ++ restOf L (i + 1) k := rfl
    rw [eR, List.length_append] at fit
    refine codeAny_builtin
          F.entry_sum_loop ?_
    rw [Around.under_plainId
          F.plain_sum_loop _]
    show wpAny _ _ (seqItems? (.ref S) >>= _) _ _ s
    refine wpAny_bind
          (wpAny_seqItems hS rfl ?_)
    show wpAny _ _ (tryCatch (pyNext (.ref I)) _ >>= _) _ _ s
    refine wpAny_bind (wpAny_tryCatch (W.item i s _ _ lt st fun v h' tk hv st2 keep => ?_))
    obtain rfl := isB i v hv
    obtain ⟨nb1, nb2⟩ := nB i lt
    obtain ⟨cb, hb⟩ := ls i lt
    have hS2 := keep S _ nW hS
    have ht2 := keep t _ tw ht
    have hb2 := keep _ _ nb1 hb
    show wpAny _ _ (Sem.attempt (holding [.ref (B i)] (binaryOp .Add (.ref t) (.ref (B i)))) >>= _) _ _ _
    refine wpAny_bind (wpAny_attempt (wpAny_holding (PySem.P.add_list ht2 hb2 ?_ (by simp only [List.size_toArray]; omega))))
    have eA : cur.toArray ++ (L i).toArray = (cur ++ L i).toArray := by simp
    rw [eA]
    have big : ∀ x o, h'.get? x = some o → (h'.push (lsO (cur ++ L i) 0)).get? x = some o := fun x o e => Heap.get?_push_of_some _ e
    have lS : S < h'.objs.size := Heap.lt_size hS2
    have hS3 := big S _ hS2
    show wpAny _ _ (updateSeq S (fun _ => #[.ref h'.objs.size]) >>= _) _ _ _
    refine wpAny_bind (wpAny_updateSeq hS3 rfl (wpAny_bind (wpAny_letGo ?_)))
    have hS4 := Heap.get?_update_self (Obj.mapSeq fun _ => #[Value.ref h'.objs.size]) hS3 rfl
    show wpAny _ _ (updateSeq S (fun _ => #[.ref h'.objs.size]) >>= _) _ _ _
    refine wpAny_bind (wpAny_updateSeq hS4 rfl ?_)
    have hS5 := Heap.get?_update_self (Obj.mapSeq fun _ => #[Value.ref h'.objs.size]) hS4 rfl
    have far : ∀ x o, x ≠ S → h'.get? x = some o → (((h'.push (lsO (cur ++ L i) 0)).update S (Obj.mapSeq fun _ => #[Value.ref h'.objs.size])).update S (Obj.mapSeq fun _ => #[Value.ref h'.objs.size])).get? x = some o :=
      fun x o h1 h2 => (Heap.get?_update_other _ _ h1.symm).trans ((Heap.get?_update_other _ _ h1.symm).trans (big x o h2))
    have nn : h'.objs.size ≠ S := (Nat.ne_of_lt lS).symm
    have hn : (((h'.push (lsO (cur ++ L i) 0)).update S (Obj.mapSeq fun _ => #[Value.ref h'.objs.size])).update S (Obj.mapSeq fun _ => #[Value.ref h'.objs.size])).get? h'.objs.size = some (lsO (cur ++ L i) 0) :=
      (Heap.get?_update_other _ _ nn.symm).trans ((Heap.get?_update_other _ _ nn.symm).trans (Heap.get?_push_size _ rfl))
    refine wpAny_pure ⟨plainId_quiet F.plain_sum_loop _, ?_⟩
    refine ih (i + 1) { s with heap := ((h'.push (lsO (cur ++ L i) 0)).update S (Obj.mapSeq fun _ => #[Value.ref h'.objs.size])).update S (Obj.mapSeq fun _ => #[Value.ref h'.objs.size]), toks := tk } h'.objs.size (cur ++ L i) _ 0 (by omega) (W.frame _ _ _ st2 fun y hy o ey => far y o (fun z => nS (z ▸ hy)) ey) (fun j hj => ?_) hS5 hn nn ?_ (by rw [List.length_append]; omega) fun h2 t2 u c2 e1 e2 e3 => ?_
    · obtain ⟨cj, hj2⟩ := ls j hj
      obtain ⟨m1, m2⟩ := nB j hj
      exact ⟨cj, far _ _ m2 (keep _ _ m1 hj2)⟩
    · exact fun z => Nat.lt_irrefl _ (Nat.lt_trans lS (wS _ z))
    · refine q h2 t2 u c2 ?_ (fun _ => e2 (.inl lS)) fun x o h1 h3 h4 => e3 x o h1 h3 (far x o h3 (keep x o h1 h4))
      rw [eR, ← List.append_assoc]
      exact e1
end
section
variable {prog : Program} {w : World} {A : Around} {E : Value → Shared → Prop} {s : Shared} {l b : Addr} {items : Array Value} {Q : Value → Shared → Prop} {cur : List Value} {cb : Nat}
theorem sum_lists (hh : A.handled = none) (hl : s.heap.IsList l items) (B : Nat → Addr) (L : Nat → List Value) (hB : ∀ i, i < items.size → items[i]? = some (.ref (B i))) (hL : ∀ i, i < items.size → ∃ c, s.heap.get? (B i) = some (lsO (L i) c))
    (hb : s.heap.get? b = some (lsO cur cb)) (np : 0 < items.size) (fit : cur.length + (restOf L 0 items.size).length ≤ sizeLine)
    (h : ∀ h' tk t' c', h'.get? t' = some (lsO (cur ++ restOf L 0 items.size) c') → s.heap.objs.size ≤ t' → (∀ x o, s.heap.get? x = some o → h'.get? x = some o) → Q (.ref t') { s with heap := h', toks := tk }) :
    wpAny (model prog w) A (call (.builtin "sum") [.ref l, .ref b] []) Q E s := by
  have okA : argsOk "sum" ⟨[.ref l, .ref b], []⟩ := by unfold argsOk; kernel_rfl
  have ll := Heap.lt_size hl.choose_spec.1
  have lb := Heap.lt_size hb
  refine call_goes F.kind_sum F.plain_sum F.entry_sum okA ?_
  unfold Builtin.«sum»
  simp only [List.length_cons,
        List.length_nil]
  rw [if_neg (by decide)]
  refine wpAny_bind (wpAny_of_eq (show Builtin.Builtins.bindParams "sum" ["start"] 0 { pos := [Value.ref b] } = pure [some (.ref b)] from rfl) ?_)
  refine wpAny_bind
        (wpAny_pyIter_list hl ?_)
  refine wpAny_bind
        (wpAny_pure ?_)
  have hb2 : (s.heap.push { cls := .type "list_iterator", data := .fields #[.ref l, .int 0 0] }).get? b = some (lsO cur cb) := Heap.get?_push_of_some _ hb
  have ty : Shared.TypeIs { s with heap := s.heap.push { cls := .type "list_iterator", data := .fields #[.ref l, .int 0 0] } } (.ref b) "list" := ⟨_, hb2, rfl⟩
  simp only [List.forIn_cons,
        List.forIn_nil]
  refine wpAny_bind (wpAny_bind (wpAny_bind (wpAny_isInstance (T := "list") (b := false) ty PySem.F.sub_list_str ?_)))
  simp only [Bool.false_eq_true,
        if_false]
  refine wpAny_pure (wpAny_bind (wpAny_bind (wpAny_isInstance (T := "list") (b := false) ty PySem.F.sub_list_bytes ?_)))
  simp only [Bool.false_eq_true,
        if_false]
  refine wpAny_pure (wpAny_bind (wpAny_bind (wpAny_isInstance (T := "list") (b := false) ty PySem.F.sub_list_bytearray ?_)))
  simp only [Bool.false_eq_true,
        if_false]
  refine wpAny_pure
        (wpAny_pure ?_)
  refine wpAny_bind
        (wpAny_newObj_type ?_)
  have eS : (s.heap.push { cls := .type "list_iterator", data := .fields #[.ref l, .int 0 0] }).objs.size = s.heap.objs.size + 1 := Heap.size_push _ _
  have old : ∀ x o, s.heap.get? x = some o → ((s.heap.push { cls := .type "list_iterator", data := .fields #[.ref l, .int 0 0] }).push { cls := .type "list", data := .seq #[.ref b] }).get? x = some o := fun x o e => Heap.get?_push_of_some _ (Heap.get?_push_of_some _ e)
  have W := Walks.list (prog := prog) (w := w) (A := A.in1) (by exact hh) s.heap.objs.size l (Nat.ne_of_lt ll) items
  rw [eS]
  refine wpAny_pure ⟨_, rfl, plainId_quiet F.plain_sum_loop _, ?_⟩
  refine sum_turns W (S := s.heap.objs.size + 1) (fun z => ?_) (fun x z => ?_) B L (fun i v hv => ?_) (fun i hi => ?_) items.size 0 { s with heap := (s.heap.push { cls := .type "list_iterator", data := .fields #[.ref l, .int 0 0] }).push { cls := .type "list", data := .seq #[.ref b] } } b cur 0 cb (by rw [Nat.zero_add]) ⟨?_, hl.at fun o e => old _ _ e⟩ (fun j hj => ?_) ?_ (old _ _ hb) ?_ ?_ fit fun h' tk t' c' e1 e2 e3 => ⟨_, rfl, ?_⟩
  · rcases List.mem_cons.mp z with e | e
    · exact Nat.succ_ne_self _ e
    · have e2 := List.mem_singleton.mp e
      rw [← e2] at ll
      exact Nat.lt_irrefl _ (Nat.lt_of_succ_lt ll)
  · rw [List.mem_singleton.mp
        z]
    exact Nat.lt_succ_self _
  · have z : i < items.size := (Array.getElem?_eq_some_iff.mp hv).1
    exact Option.some.inj (hv.symm.trans (hB i z))
  · obtain ⟨c, e⟩ := hL i hi
    have z := Heap.lt_size e
    exact ⟨fun y => Nat.ne_of_lt z (List.mem_singleton.mp y), Nat.ne_of_lt (Nat.lt_succ_of_lt z)⟩
  · exact ⟨_, Heap.get?_push_of_some _ (Heap.get?_push_size _ rfl), rfl, rfl⟩
  · obtain ⟨c, e⟩ := hL j hj
    exact ⟨c, old _ _ e⟩
  · rw [← eS]
    exact
          Heap.get?_push_size _ rfl
  · exact Nat.ne_of_lt (Nat.lt_succ_of_lt lb)
  · exact fun y => Nat.ne_of_lt lb (List.mem_singleton.mp y)
  · refine h h' tk t' c' e1 (Nat.le_of_lt (Nat.lt_trans (Nat.lt_succ_self _) (e2 (.inr np)))) fun x o e => ?_
    have z := Heap.lt_size e
    exact e3 x o (fun y => Nat.ne_of_lt z (List.mem_singleton.mp y)) (Nat.ne_of_lt (Nat.lt_succ_of_lt z)) (old x o e)
end
theorem rest_vals {L : Nat → List Value} : ∀ (ps : List (Addr × List V)) (i : Nat), (∀ j p, ps[j]? = some p → Vals p.2 (L (i + j))) → Vals (ps.map (·.2)).flatten (restOf L i ps.length)
  | [], _, _ => .nil
  | p :: r, i, h => by
    show Vals (p.2 ++ (r.map (·.2)).flatten) (L i ++ restOf L (i + 1) r.length)
    refine Vals.append (h 0 p rfl) (rest_vals r (i + 1) fun j q e => ?_)
    have z := h (j + 1) q (by rw [List.getElem?_cons_succ]; exact e)
    rw [Nat.add_assoc, Nat.add_comm 1 j]
    exact z
section
variable {X : Cx}
/-- sum(lists, list): one list or more, each on its own -/
def rSumL : List V → Hp → VK → Prop := fun vs H Q => ∃ (a b : Addr) (ps : List (Addr × List V)) (zs : List V), vs = [V.ref a, V.ref b] ∧ H a = some (.lst (ps.map fun p => .ref p.1)) ∧ H b = some (.lst zs) ∧ 0 < ps.length ∧ (∀ p ∈ ps, H p.1 = some (.lst p.2)) ∧
  zs.length + ((ps.map (·.2)).flatten).length ≤ sizeLine ∧ ∀ p, H p = none → Q (.ref p) (upd H p (.lst (zs ++ (ps.map (·.2)).flatten)))
theorem cr_sumL (hc : X.calm = true) : CallR X (.builtin "sum") rSumL := by
  intro pins s σ
        H vs us Q I r h
  obtain ⟨a, b, ps, zs, rfl, ha, hb, np, hp, fit, q⟩ := h
  obtain ⟨u, us2, rfl, ru, r2⟩ : ∃ u us2, us = u :: us2 ∧ RelV (V.ref a) u ∧ Vals [V.ref b] us2 := by
    cases r with
    | cons x y => exact
          ⟨_, _, rfl, x, y⟩
  rw [Vals.ref1 r2]
  obtain rfl : u =
        Value.ref a := ru
  obtain ⟨_, ia, na, va, la, ea⟩ := I.lstM ha
  obtain ⟨_, ib, nb, vb, lb, eb⟩ := I.lstM hb
  have lps : ps.length = ia.length := by rw [← la, List.length_map]
  have ex : ∀ i, i < ps.length → ∃ (xs : List Value) (c : Nat) (p : Addr × List V), ps[i]? = some p ∧ Vals p.2 xs ∧ s.heap.get? p.1 = some (lsO xs c) := fun i hi => by
    obtain ⟨_, xs, c, v, _, e⟩ := I.lstM (hp ps[i] (List.getElem_mem hi))
    exact ⟨xs, c, ps[i], List.getElem?_eq_getElem hi, v, e⟩
  have sz : ia.toArray.size = ps.length := by rw [List.size_toArray, lps]
  have rv : Vals (ps.map (·.2)).flatten (restOf (fun i => if h : i < ps.length then (ex i h).choose else []) 0 ps.length) := by
    refine rest_vals ps 0 fun j p e => ?_
    have hj : j < ps.length := (List.getElem?_eq_some_iff.mp e).1
    rw [Nat.zero_add, dif_pos hj]
    obtain ⟨c, p2, e2, v2, _⟩ := (ex j hj).choose_spec
    obtain rfl : p2 = p := Option.some.inj (e2.symm.trans e)
    exact v2
  refine sum_lists (items := ia.toArray) (cur := ib) (cb := nb) (I.ok.hd hc) ⟨_, ea, rfl, _, rfl⟩ (fun i => if h : i < ps.length then ps[i].1 else 0) (fun i => if h : i < ps.length then (ex i h).choose else []) (fun i hi => ?_) (fun i hi => ?_) eb (by rw [sz]; exact np) ?_ fun h' tk t' c' e1 e2 e3 => ?_
  · rw [sz] at hi
    rw [dif_pos hi]
    have ev : (ps.map fun p => V.ref p.1)[i]? = some (V.ref ps[i].1) := by
      rw [List.getElem?_map, List.getElem?_eq_getElem hi]
      rfl
    obtain ⟨u, h1, h2⟩ := Vals.get va ev
    obtain rfl : u = Value.ref ps[i].1 := h2
    simpa using h1
  · rw [sz] at hi
    rw [dif_pos hi, dif_pos hi]
    obtain ⟨c, p2, e2, _, e3⟩ := (ex i hi).choose_spec
    obtain rfl : p2 = ps[i] := Option.some.inj (e2.symm.trans (List.getElem?_eq_getElem hi))
    exact ⟨c, e3⟩
  · rw [sz, ← rv.length, ← vb.length]
    exact fit
  · rw [sz] at e1
    have vv := vb.append rv
    exact ⟨.ref t', _, I.laid (t' := tk) (o := .lst (zs ++ (ps.map (·.2)).flatten)) e3 e2 ⟨by rw [List.length_append]; exact fit, _, c', vv, e1⟩, rfl, q t' (I.hok.fresh e2)⟩
end
end XT
end
section
set_option Elab.async false
set_option linter.all false
set_option maxRecDepth 100000
set_option maxHeartbeats 4100000
namespace XT
open PySem PySem.Spec PyProof.Rows L2 XS
/-! ### how many unlike signs a text has: len(set(text)) -/
/-- the texts of one sign that stand among the first i signs -/
def among (cs : List Nat) (i : Nat) : Str → Bool := fun z => (cs.take i).any fun c => sg c == z
theorem among_iff {cs : List Nat} {i c : Nat} : among cs i (sg c) = true ↔ c ∈ cs.take i := by
  unfold among
  rw [List.any_eq_true]
  refine ⟨fun ⟨d, h1, h2⟩ => ?_, fun h => ⟨c, h, by simp⟩⟩
  rw [beq_iff_eq] at h2
  exact sg_inj h2 ▸ h1
theorem among_succ {cs : List Nat} {i c : Nat} (h : cs[i]? = some c) (z : Str) : (among cs i z || decide (z = sg c)) = among cs (i + 1) z := by
  unfold among
  rw [List.take_succ, h]
  simp only [Option.toList, List.any_append, List.any_cons, List.any_nil, Bool.or_false]
  congr 1
  by_cases e : z = sg c
  · subst e
    simp
  · rw [decide_eq_false e]
    symm
    rw [beq_eq_false_iff_ne]
    exact fun y => e y.symm
section
variable {prog : Program} {w : World} {A : Around} {R : Result → Shared → Prop} {I S : Addr} {fp wr : List Addr} {St : Nat → Heap → Prop} {x : Str}
theorem set_turns (W : Walks prog w A.in1 I fp wr x.cps.size (SignAt x) St) (nS : S ∉ fp) (small : x.length < 4000) :
    ∀ (k i m : Nat) (s : Shared), x.cps.size = i + k → St i s.heap → s.heap.SetOf (PySem.strKind prog w) S (among (cod x) i) m → m ≤ i → (m = i ↔ ((cod x).take i).Nodup) →
      (∀ h' tk m', h'.SetOf (PySem.strKind prog w) S (among (cod x) x.cps.size) m' → m' ≤ x.cps.size → (m' = x.cps.size ↔ (cod x).Nodup) → (∀ y o, y ∉ wr → y ≠ S → s.heap.get? y = some o → h'.get? y = some o) → R (.ok (.ret .none)) { s with heap := h', toks := tk }) →
      codeAny (model prog w) A (.builtin
            "set.update.loop" ⟨[.ref S, .ref I], []⟩) R s := by
  have nW : S ∉ wr := fun h => nS (W.sub _ h)
  intro k
  induction k with
  | zero =>
    intro i m s e st hS le iff q
    obtain rfl : x.cps.size = i := e
    refine codeAny_builtin
          PyProof.Rows.F.entry_set_update_loop ?_
    rw [Around.under_plainId
          PyProof.Rows.F.plain_set_update_loop _]
    show wpAny _ _ (pyNext (.ref I) >>= _) _ _ s
    refine wpAny_bind (W.done s _ _ st fun h' tk keep => ?_)
    show wpAny _ _ (ret
          Value.none) _ _ _
    refine wpAny_pure (q h' tk m ?_ le ?_ fun y o h1 _ h3 => keep y o h1 h3)
    · obtain ⟨o, es, ep, t, ho, rest⟩ := hS
      exact ⟨o, es, ep, t, keep S _ nW ho, rest⟩
    · rw [iff, List.take_of_length_le (by rw [len_cod]; exact Nat.le_refl _)]
  | succ k ih =>
    intro i m s e st hS le iff q
    have lt : i < x.cps.size := by omega
    have lx : x.length = x.cps.size := rfl
    refine codeAny_builtin
          PyProof.Rows.F.entry_set_update_loop ?_
    rw [Around.under_plainId
          PyProof.Rows.F.plain_set_update_loop _]
    show wpAny _ _ (pyNext (.ref I) >>= _) _ _ s
    refine wpAny_bind (W.item i s _ _ lt st fun v h' tk hv st2 keep => ?_)
    obtain ⟨c, u, hc, rfl⟩ := hv
    have hc2 : (cod x)[i]? = some c := by
      show x.cps.toList[i]? = some c
      rw [Array.getElem?_toList]
      exact hc
    have hS2 : h'.SetOf (PySem.strKind prog w) S (among (cod x) i) m := by
      obtain ⟨o, es, ep,
            t, ho, rest⟩ := hS
      exact ⟨o, es, ep, t, keep S _ nW ho, rest⟩
    show wpAny _ _ (holding [Value.str (sg c) u] (setAdd S (.str (sg c) u)) >>= _) _ _ _
    refine wpAny_bind
          (wpAny_holding ?_)
    unfold setAdd
    refine wpAny_holding ?_
    refine wpAny_bind ((PySem.strKind prog w).pyHash (k := sg c) (strKind_is _ _ _ _) ?_)
    refine wpAny_setAddHashed_of (knd := PySem.strKind prog w) (s := { s with heap := h', toks := tk + 1 }) (strKind_is _ _ _ _) rfl hS2 (by unfold scanBound; omega) fun h2 sb hS3 => ?_
    have step : h2.SetOf (PySem.strKind prog w) S (among (cod x) (i + 1)) (if among (cod x) i (sg c) then m else m + 1) := SetOf_congr hS3 (fun z => among_succ hc2 z) rfl
    have tk1 : (cod x).take (i + 1) = (cod x).take i ++ [c] := by rw [List.take_succ, hc2]; rfl
    refine wpAny_pure ⟨plainId_quiet PyProof.Rows.F.plain_set_update_loop _, ih (i + 1) _ _ (by omega) (W.frame _ _ _ st2 fun y hy o ey => ?_) step ?_ ?_ fun h3 t3 m3 e1 e2 e3 e4 => ?_⟩
    · exact (sb.2 y fun h : y = S => nS (h ▸ hy)).trans ey
    · split <;> omega
    · rw [tk1, List.nodup_append]
      cases ha : among (cod x) i (sg c) with
      | true =>
        have mem := among_iff.mp ha
        rw [if_pos rfl]
        refine ⟨fun z => by omega, fun z => absurd rfl (z.2.2 c mem c (by simp))⟩
      | false =>
        have mem : ¬ c ∈ (cod x).take i := fun z => by rw [among_iff.mpr z] at ha; cases ha
        rw [if_neg (by decide)]
        refine ⟨fun z => ⟨iff.mp (by omega), by simp, fun y hy z2 hz => ?_⟩, fun z => by rw [iff.mpr z.1]⟩
        rw [List.mem_singleton] at hz
        subst hz
        exact fun z3 => mem (z3 ▸ hy)
    · exact q h3 t3 m3 e1 e2 e3 fun y o h1 h3 h4 => e4 y o h1 h3 ((sb.2 y h3).trans (keep y o h1 h4))
end
section
variable {prog : Program} {w : World} {A : Around} {E : Value → Shared → Prop} {s : Shared} {x : Str} {u : Tok} {Q : Value → Shared → Prop}
theorem set_text (hh : A.handled = none) (small : x.length < 4000)
    (h : ∀ (h' : Heap) (tk m : Nat), h'.SetOf (PySem.strKind prog w) s.heap.objs.size (among (cod x) x.cps.size) m → m ≤ x.cps.size → (m = x.cps.size ↔ (cod x).Nodup) → (∀ b o, s.heap.get? b = some o → h'.get? b = some o) → Q (.ref s.heap.objs.size) { s with heap := h', toks := tk }) :
    wpAny (model prog w) A (call (.type "set") [.str x u]) Q E s := by
  obtain ⟨c, tl, order⟩ := PySem.F.called_set.mro
  have made := PySem.F.called_set.made
  have below := PySem.F.called_set.sub
  refine wpAny_call
        (codeAny_of_tree ?_)
  show wpAny _ _ (callAny
        (.type "set") _) _ _ _
  refine wpAny_pure ⟨Code.quiet_builtin _ (by
        decide +kernel), codeAny_builtin PySem.F.entry_type_call ?_⟩
  rw [Around.under_plain (weight_type_call_type "set" [.str x u] []) rfl]
  have no1 := PySem.F.called_set.notType
  have can := PySem.F.called_set.canCreate
  have ct := PySem.F.typeCall_set_1 (.str x u)
  repeat (any_goals (first
        | assumption | wp_step))
  refine codeAny_mono (code_set_new_1 (.str x u) (E := E) (Q₁ := fun obj s₁ => ∃ led : Bool, obj = .ref s.heap.objs.size ∧ s₁ = { s with heap := s.heap.push { cls := .type "set", dict := none, data := .set #[] 0 (.fresh 0 0 led) } }) fun led => ⟨led, rfl, rfl⟩) fun r s₁ hr => ?_
  cases r with
  | error e => exact hr
  | ok fl =>
    cases fl with
    | ret obj =>
      obtain ⟨led, rfl, rfl⟩ := hr
      have hS : (s.heap.push { cls := .type "set", dict := none, data := .set #[] 0 (.fresh 0 0 led) }).get? s.heap.objs.size
            = some { cls := .type "set", dict := none, data := .set #[] 0 (.fresh 0 0 led) } := Heap.get?_push_size _ rfl
      have hT : Shared.TypeIs { s with heap := (s.heap.push { cls := .type "set", dict := none, data := .set #[] 0 (.fresh 0 0 led) }) } (.ref s.heap.objs.size) "set" := ⟨_, hS, rfl⟩
      have lookI := PySem.F.called_set.init.lookup
      have bindI := PySem.F.called_set.init.bind (.ref s.heap.objs.size)
      repeat (any_goals (first
            | assumption | wp_step))
      refine codeAny_mono (codeAny_call_builtin (R := wants (fun r s₂ => r = .none ∧ ∃ h' tk m, s₂ = { s with heap := h', toks := tk } ∧ h'.SetOf (PySem.strKind prog w) s.heap.objs.size (among (cod x) x.cps.size) m ∧ m ≤ x.cps.size ∧ (m = x.cps.size ↔ (cod x).Nodup) ∧
          (∀ b o, s.heap.get? b = some o → h'.get? b = some o)) E) PySem.F.called_set.init.plain PySem.F.entry_set_init (check_set_init_1 hT ?_)) fun r₂ s₂ hr₂ => ?_
      · have n1 := PySem.F.sub_str_set
        have n2 := PySem.F.sub_str_frozenset
        have n3 : (Value.type "str" == Value.type "dict") = false := by decide
        unfold Builtin.«set.__init__»
              noKeywords Builtin.Frozenset.updateFrom
        generalize hPI : pyIter = PI
        wp_walk
        subst hPI
        refine wpAny_pyIter_str fun o St W st => ?_
        refine wpAny_bind
              (wpAny_runValue ?_)
        have eS : (s.heap.push { cls := .type "set", dict := none, data := .set #[] 0 (.fresh 0 0 led) }).objs.size = s.heap.objs.size + 1 := Heap.size_push _ _
        have get : ((s.heap.push { cls := .type "set", dict := none, data := .set #[] 0 (.fresh 0 0 led) }).push o).get? s.heap.objs.size = some { cls := .type "set", dict := none, data := .set #[] 0 (.fresh 0 0 led) } := Heap.get?_push_of_some _ hS
        have start : ((s.heap.push { cls := .type "set", dict := none, data := .set #[] 0 (.fresh 0 0 led) }).push o).SetOf (PySem.strKind prog w) s.heap.objs.size (among (cod x) 0) 0 := SetOf_congr ((PyProof.Rows.setObjOf_fresh (knd := PySem.strKind prog w) led).setOf get (by unfold scanBound; omega)) (fun _ => rfl) rfl
        refine set_turns (W _ (by simp [hh])) (fun z => ?_) small x.cps.size 0 0 _ (by rw [Nat.zero_add]) st start (Nat.le_refl _) ⟨fun _ => by simp, fun _ => rfl⟩ fun h' tk m e1 e2 e3 e4 => ?_
        · have e := List.mem_singleton.mp z
          rw [eS] at e
          exact Nat.succ_ne_self _ e.symm
        · show wpAny _ _ _ _ _ _
          refine wpAny_pure ?_
          show wpAny _ _ (ret
                Value.none) _ _ _
          refine wpAny_pure ⟨rfl, h', tk, m, rfl, e1, e2, e3, fun b o2 e => ?_⟩
          have lt := Heap.lt_size e
          refine e4 b o2 (fun z => ?_) (Nat.ne_of_lt lt) (Heap.get?_push_of_some _ (Heap.get?_push_of_some _ e))
          have e5 := List.mem_singleton.mp z
          rw [eS] at e5
          rw [e5] at lt
          exact Nat.lt_irrefl _ (Nat.lt_of_succ_lt lt)
      · cases r₂ with
        | error e => exact hr₂
        | ok fl₂ =>
          cases fl₂ with
          | ret r =>
            obtain ⟨rfl, h', tk, m, rfl, e1, e2, e3, e4⟩ := hr₂
            repeat (any_goals (first
                  | assumption | wp_step))
            exact h _ _ _ e1 e2 e3 e4
          | _ => exact hr₂.elim
    | _ => exact hr.elim
end
section
variable {X : Cx}
/-- len(set(text)): as many as the text has signs exactly if no sign stands twice -/
def tLenSetX (ta : TE) : TE := fun σ H Q => ta σ H fun v H1 => ∃ z : Str, v = .str z ∧ z.length < 4000 ∧ ∀ m : Nat, (m = z.length ↔ (cod z).Nodup) → Q (.int (m : Int)) H1
theorem pe_lenSetX {a : Expr} {ta : TE} {p p2 q pos : Pos} (hc : X.calm = true) (hg : Gl X "len") (hm : X.mg "len" = none) (hg2 : Gl X "set") (hm2 : X.mg "set" = none) (ha : PE X a ta)
    (na : starEach [a] X.env = (false, eval a X.env) :: starEach [] X.env := by rfl) : PE X (.Call (.Name "len" p) [.Call (.Name "set" p2) [a] [] q] [] pos) (tLenSetX ta) := by
  refine ⟨fun pins s σ H Q I h => ?_⟩
  refine Call_ (ld_blt
        I hg hm boot_len ?_)
  refine PyProof.Rows.callWith_builtin1
        (PyProof.Rows.args_cons ?_ rfl) rfl rfl
  refine Call_ (ld_blt
        I hg2 hm2 boot_set ?_)
  refine PyProof.Rows.callWith_type1 (PyProof.Rows.args_cons (thn (ha.run pins s σ H _ I h) fun v s1 ⟨x, H1, I1, r1, z, e, small, q1⟩ => PyProof.Rows.args_nil ?_) na) na rfl
  subst e
  obtain ⟨t, rfl⟩ := r1
  refine set_text (I1.ok.hd hc) small fun h' tk m hS le iff keep => ?_
  refine
        PyProof.Rows.args_nil ?_
  obtain ⟨o, es, ep, t2, ho, hex, hd, _, _, _, hf, hn⟩ := hS
  have I2 : Inv X pins σ H1 { s1 with heap := h', toks := tk } := I1.kept keep
  have lz : z.length = z.cps.size := rfl
  refine call_len_set ho hex hd hf (by rw [hn]; omega) ⟨.int m, H1, I2.tok _, ⟨_, by rw [hn]⟩, q1 m iff⟩
end
end XT
end
section
set_option Elab.async false
set_option linter.all false
set_option maxRecDepth 100000
set_option maxHeartbeats 4100000
namespace XT
open PySem PySem.Spec PyProof.Rows L2 XS
section
variable {X : Cx}
/-- len(set(text)), told to be no more than the text's length as well -/
def tLenSetL (ta : TE) : TE := fun σ H Q => ta σ H fun v H1 => ∃ z : Str, v = .str z ∧ z.length < 4000 ∧ ∀ m : Nat, m ≤ z.length → (m = z.length ↔ (cod z).Nodup) → Q (.int (m : Int)) H1
theorem pe_lenSetL {a : Expr} {ta : TE} {p p2 q pos : Pos} (hc : X.calm = true) (hg : Gl X "len") (hm : X.mg "len" = none) (hg2 : Gl X "set") (hm2 : X.mg "set" = none) (ha : PE X a ta)
    (na : starEach [a] X.env = (false, eval a X.env) :: starEach [] X.env := by rfl) : PE X (.Call (.Name "len" p) [.Call (.Name "set" p2) [a] [] q] [] pos) (tLenSetL ta) := by
  refine ⟨fun pins s σ H Q I h => Call_ (ld_blt I hg hm boot_len ?_)⟩
  refine PyProof.Rows.callWith_builtin1 (PyProof.Rows.args_cons (Call_ (ld_blt I hg2 hm2 boot_set ?_)) rfl) rfl rfl
  refine PyProof.Rows.callWith_type1 (PyProof.Rows.args_cons (thn (ha.run pins s σ H _ I h) fun v s1 ⟨x, H1, I1, r1, z, e, small, q1⟩ => PyProof.Rows.args_nil ?_) na) na rfl
  subst e
  obtain ⟨t, rfl⟩ := r1
  refine set_text (I1.ok.hd hc) small fun h' tk m hS le iff keep => PyProof.Rows.args_nil ?_
  obtain ⟨o, es, ep, t2, ho, hex, hd, _, _, _, hf, hn⟩ := hS
  have I2 : Inv X pins σ H1 { s1 with heap := h', toks := tk } := I1.kept keep
  have lz : z.length = z.cps.size := rfl
  exact call_len_set ho hex hd hf (by rw [hn]; omega) ⟨.int m, H1, I2.tok _, ⟨_, by rw [hn]⟩, q1 m le iff⟩
end
end XT
end
section
set_option Elab.async false
set_option linter.all false
set_option maxRecDepth 100000
set_option maxHeartbeats 4100000
namespace XT
open PySem PySem.Spec PyProof.Rows L2
section
variable {X : Cx}
/-- repr of a truth -/
def rReprB : List V → Hp → VK → Prop := fun xs H Q => ∃ b : Bool, xs = [.bl b] ∧ Q (.str (if b then "True" else "False")) H
theorem call_reprB : CallR X (.builtin "repr") rReprB := by
  intro pins s σ
        H xs us Q I r h
  obtain ⟨b, rfl, q⟩ := h
  obtain ⟨u, rfl, e⟩ := vals1 r
  cases e
  exact PySem.P.repr_of_bool ⟨.str _, H, I.tok _, ⟨_, rfl⟩, q⟩
end
section
variable {X : Cx} {CX : CXT} {k : Nat} {f C : Addr} {fd : FuncData} {ps ks : List Str} {sp : Sp} {E : XK} {m : Str} {apos pos : Pos} {o : Expr} {kws : List Keyword} {ta : TE} {tk : TA} {g : List Value → List Value → List Value} {gV : List V → List V → List V} {pl : Sem Bool}
/-- a method by keywords alone: what it asks -/
def tMethKw (C : Addr) (m : Str) (sp : Sp) (gV : List V → List V → List V) (E : XK) (ta : TE) (tk : TA) : TE := fun σ H Q => ta σ H fun x H1 => ∃ a dx fs, x = .ref a ∧ H1 a = some (.ins C dx fs) ∧ fs.lookup m = none ∧ tk σ H1 fun zs H2 => sp (gV [x] zs) H2 Q E
theorem pe_methKw (he : PE X o ta) (c : Cls X.K C) (hm : Meth X.K C m f) (F : FnOk X.prog X.w X.K X.mg X.base CX k f fd ps sp) (hr : Room k X.A) (hb : KBinds X.K fd ps ks g gV) (hx : Passes CX X E) (hkw : PK X kws tk)
    (hall : (backToKw pos (keywordEach kws X.env)).all (·.1.isSome) = true := by rfl) (hks : (backToKw pos (keywordEach kws X.env)).filterMap (·.1) = ks := by rfl)
    (hpl : ((backTo pos (starEach [] X.env)).any (·.1) || (backToKw pos (keywordEach kws X.env)).any (·.1.isNone)) = false := by rfl)
    (ht : eval (.Call (.Attribute o m apos) [] kws pos) X.env = (do
      let ov ← eval o X.env
      standAt apos.atName
      let (f, first) ← holding [ov] (getMethod ov m pl)
      callWith pos f first (backTo pos (starEach [] X.env)) (backToKw pos (keywordEach kws X.env))) := by rfl) :
    PE X (.Call (.Attribute o m apos) [] kws pos) (tMethKw C m sp gV E ta tk) := by
  refine ⟨fun pins s σ H Q I h => ?_⟩
  refine PySem.W.methodCall_KW (pl := pl) (thn (he.run pins s σ H _ I h) fun u s1 ⟨x, H1, I1, rx, a, dx, fs, ex, ea, l, q⟩ => ?_) ht
  subst ex
  obtain rfl : u = Value.ref a := rx
  refine getmeth_ok I1 ea c hm l ?_
  refine PySem.W.callWith_KW0 (first := [.ref a]) (h₀ := X.base) I.ok.mod.kin hm.kp hall (thn (hkw.run pos pins s1 σ H1 _ I1 q) fun ws s2 ⟨zs, H2, I2, rz, q2⟩ => ⟨I2.kIn, ?_⟩) hpl
  rw [hks]
  exact run_fnk (us := [.ref a]) (vs := [.ref a]) F hr hb hx I2 (.cons rfl .nil) rz q2
end
end XT
end
section
set_option Elab.async false
set_option linter.all false
set_option maxRecDepth 100000
set_option maxHeartbeats 4100000
namespace XT
open PySem PySem.Spec PyProof.Rows L2 XS PySem.Froz
/-! ### sorted(set(text)): the signs, each once, in a new list -/
/-- the text of an entry of a set of texts -/
def kS (e : Int × Value) : Str := match e.2 with
  | .str k _ => k
  | _ => ""
/-- a payload that holds the texts l, whose table can be walked -/
structure TxR (P : Program) (w : World) (D : SD) (l : List Str) : Prop where
  ok : TxOk P w D l
  keys : (D.1.toList.map kS).Perm l
  ris : Ris D.2.2.place.toList
  led : w.params.followText "set-order" = true ∨ D.2.2.led = true
section
variable {P : Program} {w : World} {A : Around} {E : Value → Shared → Prop} {s : Shared}
theorem tail_perm {ep : Nat} {es : Array (Int × Value)} {t : SetTable} {b : Bool} : (tailTx ep es t b).1.toList.Perm es.toList ∧ (Ris t.place.toList → Ris (tailTx ep es t b).2.2.place.toList) ∧ (tailTx ep es t b).2.2.led = t.led := by
  unfold tailTx
  by_cases c : (!b && t.tooFull) = true
  · rw [if_pos c]
    exact ⟨relayAll_perm .., fun _ => relayAll_ris .., relayAll_led ..⟩
  · rw [if_neg c]
    exact ⟨.refl _, id, rfl⟩
theorem plain_off (t : SetTable) : (if t.plain = true then { t with plain := false } else t).place = t.place ∧ (if t.plain = true then { t with plain := false } else t).led = t.led := by
  split <;> exact ⟨rfl, rfl⟩
theorem add_perm (h : Int) (v : Value) (D : SD) : (addTx h v D).1.toList.Perm ((h, v) :: D.1.toList) := by
  unfold addTx
  refine (tail_perm).1.trans ((layNew_perm ..).trans ?_)
  rw [Array.toList_push]
  exact List.perm_append_singleton ..
theorem TxR.add {D : SD} {l : List Str} {k : Str} (u : Tok) (F : TxR P w D l) : TxR P w (addTx (hashStr w k) (.str k u) D) (k :: l) := by
  refine ⟨add_ok u F.ok, ((add_perm ..).map kS).trans (F.keys.cons k), ?_, ?_⟩
  · unfold addTx
    refine (tail_perm).2.1 ?_
    rw [(plain_off _).1]
    exact layNew_ris _ _ _ _ F.ris
  · refine F.led.imp id fun z => ?_
    unfold addTx
    rw [(tail_perm).2.2, (plain_off _).2, layNew_led]
    exact z
/-- a text that is in the set already -/
theorem had_x {a : Addr} {T : String} {D : SD} {l : List Str} {k : Str} {u : Tok} {Q : Bool → Shared → Prop} (ho : s.heap.get? a = some (sObj T D)) (F : TxOk P w D l) (hk : k ∈ l) (hb : l.length < scanBound)
    (h : Q false s) : wpAny (model P w) A (setAddHashed a (.str k u) (hashStr w k)) Q E s := by
  obtain ⟨es, ep, t⟩ := D
  have same : es.size = l.length := F.sz
  obtain ⟨e, he, z⟩ := (F.mem k).mp hk
  have few : es.size < scanBound := by omega
  have key : (strKind P w).is k (.str k u) = true := is_str k u
  unfold setAddHashed setAddHashedIn
  refine wpAny_holding (wpAny_bind
        (wpAny_setState_of ho rfl F.fit ?_))
  dsimp only
  rw [byScan_of (knd := strKind P w) rfl few F.el]
  simp only [↓reduceIte]
  unfold setAddByScan
  refine wpAny_bind
        (wpAny_bind (wpAny_rule ?_))
  refine wpAny_bind (wpAny_setScan_of (knd := strKind P w) (k := k) key ho rfl F.fit F.el ?_)
  cases hr : List.findIdx? (fun e => (strKind P w).is k e.2) es.toList with
  | none =>
    have no := List.findIdx?_eq_none_iff.mp hr e he
    rw [z] at no
    cases no
  | some j =>
    dsimp only
    exact wpAny_pure
          (wpAny_pure h)
end
section
variable {prog : Program} {w : World} {A : Around} {R : Result → Shared → Prop} {I S : Addr} {fp wr : List Addr} {St : Nat → Heap → Prop} {x : Str}
theorem turnsR (W : Walks prog w A.in1 I fp wr x.cps.size (SignAt x) St) (nS : S ∉ fp) (small : x.length < 4000) :
    ∀ (k i : Nat) (D : SD) (l : List Str) (s : Shared), x.cps.size = i + k → St i s.heap → s.heap.get? S = some (sObj "set" D) → TxR prog w D l → l.Nodup → (∀ z, z ∈ l ↔ ∃ c ∈ (cod x).take i, z = sg c) → l.length ≤ i →
      (∀ h' tk D' l', h'.get? S = some (sObj "set" D') → TxR prog w D' l' → l'.Nodup → (∀ z, z ∈ l' ↔ ∃ c ∈ cod x, z = sg c) → l'.length ≤ x.cps.size → (∀ y o, y ∉ wr → y ≠ S → s.heap.get? y = some o → h'.get? y = some o) → R (.ok (.ret .none)) { s with heap := h', toks := tk }) →
      codeAny (model prog w) A (.builtin
            "set.update.loop" ⟨[.ref S, .ref I], []⟩) R s := by
  have nW : S ∉ wr := fun h => nS (W.sub _ h)
  have lx : x.length = x.cps.size := rfl
  have lim : (4000 : Nat) < scanBound := by unfold scanBound; omega
  intro k
  induction k with
  | zero =>
    intro i D l s e st hS F nd mem le q
    obtain rfl : x.cps.size = i := e
    refine codeAny_builtin
          PyProof.Rows.F.entry_set_update_loop ?_
    rw [Around.under_plainId
          PyProof.Rows.F.plain_set_update_loop _]
    show wpAny _ _ (pyNext (.ref I) >>= _) _ _ s
    refine wpAny_bind (W.done s _ _ st fun h' tk keep => ?_)
    show wpAny _ _ (ret
          Value.none) _ _ _
    rw [List.take_of_length_le (by rw [len_cod]; exact Nat.le_refl _)] at mem
    exact wpAny_pure (q h' tk D l (keep S _ nW hS) F nd mem le fun y o h1 _ h3 => keep y o h1 h3)
  | succ k ih =>
    intro i D l s e st hS F nd mem le q
    have lt : i < x.cps.size := by omega
    refine codeAny_builtin
          PyProof.Rows.F.entry_set_update_loop ?_
    rw [Around.under_plainId
          PyProof.Rows.F.plain_set_update_loop _]
    show wpAny _ _ (pyNext (.ref I) >>= _) _ _ s
    refine wpAny_bind (W.item i s _ _ lt st fun v h' tk hv st2 keep => ?_)
    obtain ⟨c, u, hc, rfl⟩ := hv
    have hc2 : (cod x)[i]? = some c := by
      show x.cps.toList[i]? = some c
      rw [Array.getElem?_toList]
      exact hc
    have tk1 : (cod x).take (i + 1) = (cod x).take i ++ [c] := by rw [List.take_succ, hc2]; rfl
    have hS2 := keep S _ nW hS
    show wpAny _ _ (holding [Value.str (sg c) u] (setAdd S (.str (sg c) u)) >>= _) _ _ _
    refine wpAny_bind
          (wpAny_holding ?_)
    unfold setAdd
    refine wpAny_holding ?_
    refine wpAny_bind ((PySem.strKind prog w).pyHash (k := sg c) (strKind_is _ _ _ _) ?_)
    by_cases hm : sg c ∈ l
    · refine had_x (l := l) (D := D) (k := sg c) (s := { s with heap := h', toks := tk + 1 }) hS2 F.ok hm (by omega) ?_
      refine wpAny_pure ⟨plainId_quiet PyProof.Rows.F.plain_set_update_loop _, ih (i + 1) D l _ (by omega) st2 hS2 F nd (fun z => ?_) (by omega) fun h3 t3 D3 l3 e1 e2 e3 e4 e5 e6 => ?_⟩
      · rw [mem, tk1]
        refine ⟨fun ⟨d, hd, e⟩ => ⟨d, List.mem_append_left _ hd, e⟩, fun ⟨d, hd, e⟩ => ?_⟩
        rcases List.mem_append.mp hd with hd | hd
        · exact ⟨d, hd, e⟩
        · rw [List.mem_singleton] at hd
          subst hd
          subst e
          exact (mem _).mp hm
      · exact q h3 t3 D3 l3 e1 e2 e3 e4 e5 fun y o h1 h2 h4 => e6 y o h1 h2 (keep y o h1 h4)
    · refine add_x (l := l) (D := D) (k := sg c) (s := { s with heap := h', toks := tk + 1 }) hS2 F.ok hm (by omega) ?_
      have got : (h'.update S (fun _ => sObj "set" (addTx (hashStr w (sg c)) (.str (sg c) u) D))).get? S = some (sObj "set" (addTx (hashStr w (sg c)) (.str (sg c) u) D)) := get_upd _ hS2 rfl
      refine wpAny_pure ⟨plainId_quiet PyProof.Rows.F.plain_set_update_loop _, ih (i + 1) _ (sg c :: l) _ (by omega) (W.frame _ _ _ st2 fun y hy o ey => ?_) got (F.add u) (List.nodup_cons.mpr ⟨hm, nd⟩) (fun z => ?_) (by rw [List.length_cons]; omega) fun h3 t3 D3 l3 e1 e2 e3 e4 e5 e6 => ?_⟩
      · exact PySem.Heap.get?_update_of_ne _ (fun h : S = y => nS (h ▸ hy)) ey
      · rw [List.mem_cons, mem, tk1]
        refine ⟨fun h => h.elim (fun e => ⟨c, by simp, e⟩) fun ⟨d, hd, e⟩ => ⟨d, List.mem_append_left _ hd, e⟩, fun ⟨d, hd, e⟩ => ?_⟩
        rcases List.mem_append.mp hd with hd | hd
        · exact .inr ⟨d, hd, e⟩
        · rw [List.mem_singleton] at hd
          subst hd
          exact .inl e
      · exact q h3 t3 D3 l3 e1 e2 e3 e4 e5 fun y o h1 h2 h4 => e6 y o h1 h2 (PySem.Heap.get?_update_of_ne _ (Ne.symm h2) (keep y o h1 h4))
end
end XT
end
section
set_option Elab.async false
set_option linter.all false
set_option maxRecDepth 100000
set_option maxHeartbeats 4100000
namespace XT
open PySem PySem.Spec PyProof.Rows L2 XS PySem.Froz
section
variable {prog : Program} {w : World} {A : Around} {E : Value → Shared → Prop} {s : Shared} {x : Str} {u : Tok} {Q : Value → Shared → Prop}
/-- the fresh set, its payload -/
def freshD (w : World) : SD := (#[], 0, .fresh 0 0 (!w.params.followText "set-order"))
theorem freshR : TxR prog w (freshD w) [] := by
  refine ⟨.nil rfl, .refl _, List.Pairwise.nil, ?_⟩
  show _ ∨ (!w.params.followText "set-order") = true
  cases w.params.followText "set-order"
  · exact .inr rfl
  · exact .inl rfl
/-- set(text) -/
theorem set_textR (hh : A.handled = none) (small : x.length < 4000)
    (h : ∀ (h' : Heap) (tk : Tok) (D : SD) (l : List Str), h'.get? s.heap.objs.size = some (sObj "set" D) → TxR prog w D l → l.Nodup → (∀ z, z ∈ l ↔ ∃ c ∈ cod x, z = sg c) → l.length ≤ x.cps.size → (∀ b o, s.heap.get? b = some o → h'.get? b = some o) → Q (.ref s.heap.objs.size) { s with heap := h', toks := tk }) :
    wpAny (model prog w) A (call (.type "set") [.str x u]) Q E s := by
  obtain ⟨c, tl, order⟩ := PySem.F.called_set.mro
  have made := PySem.F.called_set.made
  have below := PySem.F.called_set.sub
  refine wpAny_call
        (codeAny_of_tree ?_)
  show wpAny _ _ (callAny
        (.type "set") _) _ _ _
  refine wpAny_pure ⟨Code.quiet_builtin _ (by
        decide +kernel), codeAny_builtin PySem.F.entry_type_call ?_⟩
  rw [Around.under_plain (weight_type_call_type "set" [.str x u] []) rfl]
  have no1 := PySem.F.called_set.notType
  have can := PySem.F.called_set.canCreate
  have ct := PySem.F.typeCall_set_1 (.str x u)
  repeat (any_goals (first
        | assumption | wp_step))
  refine codeAny_mono (code_set_led1 (.str x u) (E := E) (Q₁ := fun obj s₁ => obj = .ref s.heap.objs.size ∧ s₁ = { s with heap := s.heap.push (sObj "set" (freshD w)) }) ⟨rfl, rfl⟩) fun r s₁ hr => ?_
  cases r with
  | error e => exact hr
  | ok fl =>
    cases fl with
    | ret obj =>
      obtain ⟨rfl, rfl⟩ := hr
      have hS : (s.heap.push (sObj "set" (freshD w))).get? s.heap.objs.size = some (sObj "set" (freshD w)) := Heap.get?_push_size _ rfl
      have hT : Shared.TypeIs { s with heap := (s.heap.push (sObj "set" (freshD w))) } (.ref s.heap.objs.size) "set" := ⟨_, hS, rfl⟩
      have lookI := PySem.F.called_set.init.lookup
      have bindI := PySem.F.called_set.init.bind (.ref s.heap.objs.size)
      repeat (any_goals (first
            | assumption | wp_step))
      refine codeAny_mono (codeAny_call_builtin (R := wants (fun r s₂ => r = .none ∧ ∃ h' tk D l, s₂ = { s with heap := h', toks := tk } ∧ h'.get? s.heap.objs.size = some (sObj "set" D) ∧ TxR prog w D l ∧ l.Nodup ∧ (∀ z, z ∈ l ↔ ∃ c ∈ cod x, z = sg c) ∧ l.length ≤ x.cps.size ∧
          (∀ b o, s.heap.get? b = some o → h'.get? b = some o)) E) PySem.F.called_set.init.plain PySem.F.entry_set_init (check_set_init_1 hT ?_)) fun r₂ s₂ hr₂ => ?_
      · have n1 := PySem.F.sub_str_set
        have n2 := PySem.F.sub_str_frozenset
        have n3 : (Value.type "str" == Value.type "dict") = false := by decide
        unfold Builtin.«set.__init__»
              noKeywords Builtin.Frozenset.updateFrom
        generalize hPI : pyIter = PI
        wp_walk
        subst hPI
        refine wpAny_pyIter_str fun o St W st => ?_
        refine wpAny_bind
              (wpAny_runValue ?_)
        have eS : (s.heap.push (sObj "set" (freshD w))).objs.size = s.heap.objs.size + 1 := Heap.size_push _ _
        have get : ((s.heap.push (sObj "set" (freshD w))).push o).get? s.heap.objs.size = some (sObj "set" (freshD w)) := Heap.get?_push_of_some _ hS
        refine turnsR (W _ (by simp [hh])) (fun z => ?_) small x.cps.size 0 (freshD w) [] _ (by rw [Nat.zero_add]) st get freshR List.nodup_nil (fun z => by simp) (Nat.le_refl _) fun h' tk D l e1 e2 e3 e4 e5 e6 => ?_
        · have e := List.mem_singleton.mp z
          rw [eS] at e
          exact Nat.succ_ne_self _ e.symm
        · show wpAny _ _ _ _ _ _
          refine wpAny_pure ?_
          show wpAny _ _ (ret
                Value.none) _ _ _
          refine wpAny_pure ⟨rfl, h', tk, D, l, rfl, e1, e2, e3, e4, e5, fun b o2 e => ?_⟩
          have lt := Heap.lt_size e
          refine e6 b o2 (fun z => ?_) (Nat.ne_of_lt lt) (Heap.get?_push_of_some _ (Heap.get?_push_of_some _ e))
          have e5 := List.mem_singleton.mp z
          rw [eS] at e5
          rw [e5] at lt
          exact Nat.lt_irrefl _ (Nat.lt_of_succ_lt lt)
      · cases r₂ with
        | error e => exact hr₂
        | ok fl₂ =>
          cases fl₂ with
          | ret r =>
            obtain ⟨rfl, h', tk, D, l, rfl, e1, e2, e3, e4, e5, e6⟩ := hr₂
            repeat (any_goals (first
                  | assumption | wp_step))
            exact h _ _ _ _ e1 e2 e3 e4 e5 e6
          | _ => exact hr₂.elim
    | _ => exact hr.elim
theorem strs_kS : ∀ l : List (Int × Value), (∀ e ∈ l, ∃ k t, e.2 = Value.str k t) → StrsAre (l.map (·.2)) (l.map kS)
  | [], _ => .nil
  | e :: r, h => by
    obtain ⟨k, t, z⟩ := h e (List.mem_cons_self ..)
    have zk : kS e = k := by unfold kS; rw [z]
    rw [List.map_cons, List.map_cons, zk, show e.2 = _ from z]
    exact .cons k t (strs_kS r fun y hy => h y (List.mem_cons_of_mem _ hy))
def strV : Value → Str
  | .str k _ => k
  | _ => ""
theorem strs_of_val : ∀ l : List Value, (∀ v ∈ l, ∃ k t, v = Value.str k t) → StrsAre l (l.map strV)
  | [], _ => .nil
  | v :: r, h => by
    obtain ⟨k, t, z⟩ := h v (List.mem_cons_self ..)
    subst z
    exact .cons k t (strs_of_val r fun y hy => h y (List.mem_cons_of_mem _ hy))
/-- sorted(a set of texts) -/
theorem sortedR {a : Addr} {D : SD} {l : List Str} (ho : s.heap.get? a = some (sObj "set" D)) (F : TxR prog w D l) (hh : A.handled = none) (few : l.length < 64)
    (hQ : ∀ (s' : Shared) (p : Addr) (out : Array Value) (c : Nat) (ys : List Str), (∀ b o, s.heap.get? b = some o → s'.heap.get? b = some o) → s'.gens = s.gens → s'.os = s.os → s.heap.objs.size ≤ p →
      s'.heap.get? p = some (seqObj "list" out c) → StrsAre out.toList ys → ys.Perm l → sortedS ys = true → Q (.ref p) s') :
    wpAny (model prog w) A (call (.builtin "sorted") [.ref a]) Q E s := by
  obtain ⟨es, ep, t⟩ := D
  have sz : es.size = l.length := F.ok.sz
  have lim : (64 : Nat) < scanBound := by unfold scanBound; omega
  refine Calls.call_function_entry kind_sorted plain_sorted entry_sorted
        (args_sorted1 _) ?_
  unfold Builtin.«sorted»
  refine wpAny_bind (m := checkCount "sorted" 1 1 _)
        (wpAny_pure ?_)
  refine wpAny_bind (collect_set (es := es) (ep := ep) (t := t) (A := A.in1) hh ⟨_, ho, rfl, rfl⟩ F.ok.fit (by omega) F.ris F.led fun s1 vs k1 hz g1 o1 pm => ?_)
  have vl : vs.length = l.length := by rw [pm.length_eq, List.length_map, Array.length_toList]; exact sz
  have isS : ∀ v ∈ vs, ∃ k t, v = Value.str k t := fun v hv => by
    obtain ⟨e, he, q⟩ := List.mem_map.mp (pm.mem_iff.mp hv)
    obtain ⟨⟨k, h1, _⟩, _⟩ := F.ok.el e he
    obtain ⟨tk, e1⟩ := Value.isStrOf_shape (x := k) (v := e.2) h1
    exact ⟨k, tk, by rw [← q]; exact e1⟩
  have hS := strs_of_val vs isS
  have pk : (vs.map strV).Perm l := by
    refine (pm.map strV).trans ?_
    rw [List.map_map]
    refine List.Perm.trans (List.Perm.of_eq (List.map_congr_left fun e he => ?_)) F.keys
    rfl
  refine wpAny_bind (wpAny_newList ?_ (by rw [vl, sizeLine_eq]; omega))
  have hoL : (s1.heap.push (seqObj "list" vs.toArray 0)).get? s1.heap.objs.size = some (seqObj "list" vs.toArray 0) :=
    Heap.get?_push_size _ rfl
  refine wpAny_bind (wpAny_holding (wpAny_call_entry slot_list_sort ⟨_, hoL, rfl⟩ entry_list_sort
        (list_sort_treeK strKind_oneLt hoL hS.keysOf (fun v₁ v₂ rest e => keyKind_strs (by rw [← e]; exact hS)) (by rw [vl]; exact few) fun st' hp hs => ⟨_, rfl, ?_⟩) (args_list_sort _)))
  obtain ⟨ys, y1, y2, y3⟩ := sorted_out_str hS hp hs
  obtain ⟨c, hc⟩ := sortedHeap_at (vs := vs) (out := (arrOf st').map (·.2)) hoL
  refine wpAny_pure ⟨_, rfl, hQ _ s1.heap.objs.size _ c ys (fun b o e => ?_) g1 o1 hz hc y1 (y2.trans pk) y3⟩
  have q := k1 b o e
  have lt := Heap.lt_size q
  show (sortedHeap (s1.heap.push (seqObj "list" vs.toArray 0)) s1.heap.objs.size vs _).get? b = some o
  rw [sortedHeap_old
        (Nat.ne_of_lt lt) (by rw [size_push']; exact Nat.lt_succ_of_lt lt)]
  exact Heap.get?_push_of_some _ q
end
theorem ds_of (ys : List Str) (l : List Nat) (h : ∀ z ∈ ys, ∃ c ∈ l, z = sg c) : ∃ ds : List Nat, ys = ds.map sg := by
  induction ys with
  | nil => exact ⟨[], rfl⟩
  | cons y r ih =>
    obtain ⟨ds, e⟩ := ih fun z hz => h z (List.mem_cons_of_mem _ hz)
    obtain ⟨c, _, rfl⟩ := h y (List.mem_cons_self ..)
    exact ⟨c :: ds, by rw [e]; rfl⟩
section
variable {X : Cx}
/-- sorted(set(text)): a new list of the signs, each once -/
def tSortSet (ta : TE) : TE := fun σ H Q => ta σ H fun v H1 => ∃ z : Str, v = .str z ∧ z.length < 64 ∧ ∀ (ds : List Nat) (p : Addr), ds.Nodup → (∀ c, c ∈ ds ↔ c ∈ cod z) → sortedS (ds.map sg) = true → ds.length ≤ z.length → H1 p = none → Q (.ref p) (upd H1 p (.lst ((ds.map sg).map V.str)))
theorem pe_sortSet {a : Expr} {ta : TE} {p p2 q pos : Pos} (hc : X.calm = true) (hg : Gl X "sorted") (hm : X.mg "sorted" = none) (hg2 : Gl X "set") (hm2 : X.mg "set" = none) (hb : bootBuiltins "sorted" = some (.builtin "sorted")) (ha : PE X a ta)
    (na : starEach [a] X.env = (false, eval a X.env) :: starEach [] X.env := by rfl) : PE X (.Call (.Name "sorted" p) [.Call (.Name "set" p2) [a] [] q] [] pos) (tSortSet ta) := by
  refine ⟨fun pins s σ H Q I h => ?_⟩
  refine Call_ (ld_blt
        I hg hm hb ?_)
  refine PyProof.Rows.callWith_builtin1
        (PyProof.Rows.args_cons ?_ rfl) rfl rfl
  refine Call_ (ld_blt
        I hg2 hm2 boot_set ?_)
  refine PyProof.Rows.callWith_type1 (PyProof.Rows.args_cons (thn (ha.run pins s σ H _ I h) fun v s1 ⟨x, H1, I1, r1, z, e, few, q1⟩ => PyProof.Rows.args_nil ?_) na) na rfl
  subst e
  obtain ⟨t, rfl⟩ := r1
  refine set_textR (I1.ok.hd hc) (by omega) fun h' tk D l e1 e2 e3 e4 e5 e6 => ?_
  refine
        PyProof.Rows.args_nil ?_
  have I2 : Inv X pins σ H1 { s1 with heap := h', toks := tk } := I1.kept e6
  have zl : z.length = z.cps.size := rfl
  have e1' : ({ s1 with heap := h', toks := tk } : Shared).heap.get? s1.heap.objs.size = some (sObj "set" D) := e1
  generalize ({ s1 with heap := h', toks := tk } : Shared) = s2 at I2 e1' ⊢
  refine sortedR e1' e2 (I1.ok.hd hc) (by omega) fun s' p out c ys k g o hp hg hi pm srt => ?_
  have mem : ∀ y, y ∈ ys ↔ ∃ c ∈ cod z, y = sg c := fun y => by rw [pm.mem_iff]; exact e4 y
  obtain ⟨ds, rfl⟩ := ds_of ys (cod z) fun y hy => (mem y).mp hy
  have nd : (ds.map sg).Nodup := pm.nodup_iff.mpr e3
  have dl : ds.length ≤ z.length := by
    have := pm.length_eq
    rw [List.length_map] at this
    omega
  have len : ((ds.map sg).map V.str).length ≤ sizeLine := by
    rw [List.length_map, List.length_map, sizeLine_eq]
    omega
  have new : H1 p = none := I2.hok.fresh hp
  have J : Inv X pins σ (upd H1 p (.lst ((ds.map sg).map V.str))) { s2 with heap := s'.heap, gens := s'.gens, drawn := s'.drawn, toks := s'.toks } :=
    I2.call (ch := []) (Un.laid k hp new) (I2.hok.laid k hp ⟨len, out.toList, c, vals_of_strs hi, hg⟩) (by rw [g]; exact I2.bare) (fun _ y => nomatch y)
  have e : s' = { s2 with heap := s'.heap, gens := s'.gens, drawn := s'.drawn, toks := s'.toks } := by
    cases s'
    cases s2
    cases o
    rfl
  rw [e]
  refine ⟨.ref p, _, J, rfl, q1 ds p (List.Pairwise.of_map sg (fun _ _ h y => h (y ▸ rfl)) nd) (fun c => ?_) srt dl new⟩
  refine ⟨fun hc => ?_, fun hc => ?_⟩
  · obtain ⟨d, hd, e⟩ := (mem _).mp (List.mem_map.mpr ⟨c, hc, rfl⟩)
    exact sg_inj e ▸ hd
  · obtain ⟨d, hd, e⟩ := List.mem_map.mp ((mem _).mpr ⟨c, hc, rfl⟩)
    exact sg_inj e ▸ hd
end
end XT
end
section
set_option Elab.async false
set_option linter.all false
set_option maxRecDepth 100000
set_option maxHeartbeats 4100000
namespace XT
open PySem PySem.Spec PyProof.Rows L2 XS
/-! ### text[::-1] -/
/-- the text turned round -/
def revS (z : Str) : Str := ⟨z.cps.toList.reverse.toArray⟩
theorem cod_rev (z : Str) : cod (revS z) = (cod z).reverse := rfl
theorem len_rev (z : Str) : (revS z).length = z.length := by
  rw [← len_cod, cod_rev, List.length_reverse, len_cod]
theorem rev_picked (z : Str) : (Builtin.Str.strSliceIndices none none (-1) z.length).filterMap (z.cps[·]?) = z.cps.toList.reverse := by
  show (sliceRange ((z.cps.size : Int) - 1) (-1) (-1)).filterMap (z.cps[·]?) = _
  rw [PySem.W.krv_sliceRange, PySem.W.krv_range, List.filterMap_reverse, PySem.W.krv_all]
section
variable {X : Cx}
def tRevS (te : TE) : TE := fun σ H Q => te σ H fun x H1 => ∃ z : Str, x = .str z ∧ z.length ≤ sizeLine ∧ Q (.str (revS z)) H1
theorem pe_revS {e : Expr} {te : TE} {k : Nat} {p1 p2 p3 pos : Pos} (he : PE X e te) : PE X (.Subscript e (.Slice none none (some (.UnaryOp .USub (.Constant (.int 1) k p1) p2)) p3) pos) (tRevS te) := by
  refine ⟨fun pins s σ H Q I h => ?_⟩
  refine Subscript_ (thn (he.run pins s σ H _ I h) fun v s1 ⟨x, H1, I1, r1, z, ex, lz, q⟩ => ?_)
  subst ex
  obtain ⟨t, rfl⟩ := r1
  have part : PO X (some (.UnaryOp .USub (.Constant (.int 1) k p1) p2)) (tPart (tUn (rU fun i => .int (-i)) (tC (.int 1)))) := po_some (pe_un un_neg pe_int)
  refine wpAny_Slice (thn (po_none.run pins s1 σ H1 (fun o H2 => o = none ∧ H2 = H1) I1 ⟨rfl, rfl⟩) fun vl s2 ⟨l, H2, I2, pl, el, e2⟩ => ?_)
  subst el e2
  refine thn (po_none.run pins s2 σ H2 (fun o H3 => o = none ∧ H3 = H2) I2 ⟨rfl, rfl⟩) fun vu s3 ⟨u, H3, I3, pu, eu, e3⟩ => ?_
  subst eu e3
  refine thn (part.run pins s3 σ H3 (fun o H4 => o = some (-1) ∧ H4 = H3) I3 ⟨1, rfl, -1, rfl, rfl, rfl⟩) fun vs s4 ⟨o, H4, I4, ps, eo, e4⟩ => ?_
  subst eo e4
  obtain ⟨l, rfl, el⟩ := IsPart.raw pl
  obtain ⟨u, rfl, eu⟩ := IsPart.raw pu
  obtain ⟨st, rfl, es⟩ := IsPart.raw ps
  have I5 : Inv X pins σ H4 { s4 with heap := s4.heap.push { cls := .type "slice", data := .fields #[partValue l, partValue u, partValue st] } } := I4.kept (t' := s4.toks) fun b ob q => Heap.get?_push_of_some _ q
  show wpAny (model X.prog X.w) X.A (subscriptTail e (.Slice none none (some (.UnaryOp .USub (.Constant (.int 1) k p1) p2)) p3) (.str z t) (.ref s4.heap.objs.size)) (EP X pins σ Q) X.xe { s4 with heap := s4.heap.push { cls := .type "slice", data := .fields #[partValue l, partValue u, partValue st] } }
  refine tail_any (ops := [.str z t, .ref s4.heap.objs.size]) (typeIs_str _ _ _) PySem.F.slot_str_getitem.lookup ?_ (by with_unfolding_all rfl)
  refine wpAny_getItem_str_slice (l := l) (u := u) (st := st) ⟨_, Heap.get?_push_size _ rfl, rfl, rfl⟩ (by rw [es]; rfl) ?_
  have made : sliceMade z t l u st = .str (revS z) := by
    unfold sliceMade slicePicked
    rw [el, eu, es]
    show (if ((-1 : Int) == 1 && _) = true then _ else _) = _
    rw [if_neg (by simp)]
    show Made.str ⟨((Builtin.Str.strSliceIndices none none (-1) z.length).filterMap (z.cps[·]?)).toArray⟩ = _
    rw [rev_picked]
    rfl
  rw [made]
  exact ⟨by rw [len_rev]; exact lz, .str _, H4, I5.tok _, ⟨_, rfl⟩, q⟩
end
end XT
end
section
set_option Elab.async false
set_option linter.all false
set_option maxRecDepth 100000
set_option maxHeartbeats 4100000
namespace XL
open PySem PySem.Spec PyProof.Rows L2 LamX XK
/-! ### a lambda kept as a value -/
/-- the very object at f -/
def FixO (ob : Obj) (f : Addr) : HO := .ext fun h => h.get? f = some ob
theorem fix_ok {P : Program} {w : World} {H : Hp} {h : Heap} {f : Addr} {ob : Obj} (e : h.get? f = some ob) : ObjOk P w H h f (FixO ob f) := ⟨e, ⟨_, e⟩, fun _ _ a b => b _ a⟩
/-- at f is the lambda with these parameters, this body and these cells -/
def IsLam (q : Str) (params : Arguments) (body : Expr) (scope : Scope) (cl : List (Str × Addr)) (H : Hp) (f : Addr) : Prop :=
  ∃ (c' : Addr) (pm ctv : Value), H f = some (FixO (PySem.W.kla_obj "<lambda>" q params body scope cl pm c' ctv) f) ∧ H c' = some (CodeO c' q)
theorem IsLam.keep {q : Str} {params : Arguments} {body : Expr} {scope : Scope} {cl : List (Str × Addr)} {H H' : Hp} {f : Addr} (h : IsLam q params body scope cl H f) (e : ∀ b o, H b = some o → (∃ φ, o = .ext φ) → H' b = some o) : IsLam q params body scope cl H' f := by
  obtain ⟨c', pm, ctv, h1, h2⟩ := h
  exact ⟨c', pm, ctv, e _ _ h1 ⟨_, rfl⟩, e _ _ h2 ⟨_, rfl⟩⟩
section
variable {X : Cx} {pins : List (Addr × Obj)} {σ : L2.St} {H : Hp} {s : Shared}
/-- lambda: body, made: the function is new and known, its code object is new or was known -/
theorem lam_kept {T : List (Addr × Str)} {c P : Addr} {params : Arguments} {body : Expr} {scope : Scope} {pos : Pos} {E : Value → Shared → Prop} {Q : Value → Shared → Prop} (I : Inv X pins σ H s) (TB : TabB X.base X.mg c P) (hcode : X.env.code = .ref c)
    (here : (P, X.env.qual ++ "<lambda>") ∈ T) (one : ∀ p ∈ T, p.1 = P → p.2 = X.env.qual ++ "<lambda>") (hT : Tabs T H) (nodef : defaultsOf params X.env = ([], [])) (caught : ∀ y ∈ scope.names, y.2 = .free → ∃ c, X.env.cells.lookup y.1 = some c)
    (go : ∀ (f : Addr) (H1 : Hp) (s' : Shared), Inv X pins σ H1 s' → ExtN H H1 → Tabs T H1 → H f = none → IsLam (X.env.qual ++ "<lambda>") params body scope (cloFrom X.env.cells scope.names []) H1 f → Q (.ref f) s') :
    wpAny (model X.prog X.w) X.A (eval (.Lambda params body scope pos) X.env) Q E s := by
  obtain ⟨ps, hP, three, among⟩ := hT _ here
  have tabAt : s.heap.get? P = some { cls := .none, data := .fields ps } := I.hok P _ hP
  have bP : s.heap.BuiltinsAt X.mg P := TB.bm.keeps I.bk
  refine PySem.W.kla_eval nodef ?_
  cases hit : codeAmong pos ps.toList with
  | some cv =>
    obtain ⟨c', rfl, hco⟩ := among pos cv hit
    refine PySem.W.kla_makeFunctionHit (mg := X.mg) (c := c) (P := P) (ps := ps) (closure_ok caught) I.ok.glob (I.mod.glob.keeps I.bk) hcode (TB.code.keeps I.bk) tabAt three hit bP fun ctv h' tk old big => ?_
    have nf : H h'.objs.size = none := I.hok.fresh big
    have neC : c' ≠ h'.objs.size := ne_of_none hco nf
    have neP : ∀ p ∈ T, p.1 ≠ h'.objs.size := fun p hp => by
      obtain ⟨_, a1, _⟩ := hT p hp
      exact ne_of_none a1 nf
    have J : Inv X pins σ (upd H h'.objs.size (FixO (PySem.W.kla_obj "<lambda>" (X.env.qual ++ "<lambda>") params body scope (cloFrom X.env.cells scope.names []) ((X.mg "__name__").getD .none) c' ctv) h'.objs.size)) _ :=
      I.laid (t' := tk) (h' := h'.push (PySem.W.kla_obj "<lambda>" (X.env.qual ++ "<lambda>") params body scope (cloFrom X.env.cells scope.names []) ((X.mg "__name__").getD .none) c' ctv)) (fun b u e => Heap.get?_push_of_some _ (old b u e)) big (fix_ok (Heap.get?_push_size _ rfl))
    have ext : ∀ b o, H b = some o → upd H h'.objs.size (FixO (PySem.W.kla_obj "<lambda>" (X.env.qual ++ "<lambda>") params body scope (cloFrom X.env.cells scope.names []) ((X.mg "__name__").getD .none) c' ctv) h'.objs.size) b = some o := fun b o e => by
      rw [upd_ne (ne_of_none e nf)]
      exact e
    exact go _ _ _ J (.of ext) (hT.ext ext) nf ⟨c', _, ctv, upd_same, ext _ _ hco⟩
  | none =>
    refine PySem.W.kla_makeFunction (mg := X.mg) (c := c) (P := P) (ps := ps) (closure_ok caught) I.ok.glob (I.mod.glob.keeps I.bk) hcode (TB.code.keeps I.bk) tabAt three hit TB.gP bP fun c' ctv h' tk old hge hlt rec htb => ?_
    obtain ⟨c2, oc, vs, t, e2, hoc, hd, hv⟩ := rec
    cases e2
    have nC : H c' = none := I.hok.fresh hge
    have big : s.heap.objs.size ≤ h'.objs.size := Nat.le_trans hge (Nat.le_of_lt hlt)
    have I1 := inv_table (t' := tk) (more := #[rawInt pos.line, rawInt pos.col, .ref c']) (h' := h') I hP old htb hge ⟨oc, vs, t, hoc, hd, hv⟩
    have nf : H h'.objs.size = none := I.hok.fresh big
    have neC : c' ≠ h'.objs.size := Nat.ne_of_lt hlt
    have atP : P ≠ c' := ne_of_none hP nC
    have neP : P ≠ h'.objs.size := ne_of_none hP nf
    generalize hob : PySem.W.kla_obj "<lambda>" (X.env.qual ++ "<lambda>") params body scope (cloFrom X.env.cells scope.names []) ((X.mg "__name__").getD .none) c' ctv = ob
    have J : Inv X pins σ (upd (upd (upd H P (.tbl (ps ++ #[rawInt pos.line, rawInt pos.col, .ref c']))) c' (CodeO c' (X.env.qual ++ "<lambda>"))) h'.objs.size (FixO ob h'.objs.size)) { s with heap := h'.push ob, toks := tk } :=
      I1.laid (t' := tk) (h' := h'.push ob) (fun b u e => Heap.get?_push_of_some _ e) (Nat.le_refl _) (fix_ok (Heap.get?_push_size _ (by rw [← hob]; rfl)))
    generalize hZ : upd (upd (upd H P (.tbl (ps ++ #[rawInt pos.line, rawInt pos.col, .ref c']))) c' (CodeO c' (X.env.qual ++ "<lambda>"))) h'.objs.size (FixO ob h'.objs.size) = Z at J
    have kN : ExtN H Z := fun b o e n => by
      have b1 : b ≠ P := fun z => n ps (Option.some.inj (e.symm.trans (by rw [z]; exact hP)))
      rw [← hZ, upd_ne (ne_of_none e nf), upd_ne (ne_of_none e nC), upd_ne b1]
      exact e
    have zC : Z c' = some (CodeO c' (X.env.qual ++ "<lambda>")) := by rw [← hZ, upd_ne neC, upd_same]
    have zP : Z P = some (.tbl (ps ++ #[rawInt pos.line, rawInt pos.col, .ref c'])) := by rw [← hZ, upd_ne neP, upd_ne atP, upd_same]
    refine go _ Z _ J kN (fun p hp => ?_) nf ⟨c', _, ctv, by rw [← hZ, upd_same, ← hob], zC⟩
    by_cases hb : p.1 = P
    · rw [one p hp hb, hb]
      refine ⟨_, zP, by
        rw [show (ps ++ #[rawInt pos.line, rawInt pos.col, .ref c']).toList = ps.toList ++ [rawInt pos.line, rawInt pos.col, .ref c'] by simp]
        exact PySem.TriplesOk_snoc _ _ _ _ three, fun p' cv hcv => ?_⟩
      rw [show (ps ++ #[rawInt pos.line, rawInt pos.col, .ref c']).toList = ps.toList ++ [rawInt pos.line, rawInt pos.col, .ref c'] by simp] at hcv
      rcases among_app _ three hcv with z | z
      · obtain ⟨c0, e1, e2⟩ := among p' cv z
        exact ⟨c0, e1, kN _ _ e2 codeO_ne⟩
      · exact ⟨c', z, zC⟩
    · obtain ⟨qs, a1, a2, a3⟩ := hT p hp
      refine ⟨qs, ?_, a2, fun p' cv hcv => ?_⟩
      · rw [← hZ, upd_ne (ne_of_none a1 nf), upd_ne (ne_of_none a1 nC), upd_ne hb]
        exact a1
      · obtain ⟨c0, e1, e2⟩ := a3 p' cv hcv
        exact ⟨c0, e1, kN _ _ e2 codeO_ne⟩
end
/-- lambda: body, as a value -/
def tMk (T : List (Addr × Str)) (q : Str) (params : Arguments) (body : Expr) (scope : Scope) (cl : List (Str × Addr)) : TE := fun _ H Q =>
  Tabs T H ∧ ∀ (f : Addr) (H1 : Hp), ExtN H H1 → Tabs T H1 → H f = none → IsLam q params body scope cl H1 f → Q (.ref f) H1
/-- what the making of lambdas asks of the def -/
structure Maker (X : Cx) (T : List (Addr × Str)) (c P : Addr) : Prop where
  tb : TabB X.base X.mg c P
  code : X.env.code = .ref c
  here : (P, X.env.qual ++ "<lambda>") ∈ T
  one : ∀ p ∈ T, p.1 = P → p.2 = X.env.qual ++ "<lambda>"
theorem pe_mk {X : Cx} {T : List (Addr × Str)} {c P : Addr} {params : Arguments} {body : Expr} {scope : Scope} {pos : Pos} (M : Maker X T c P) (L : LamS X.env.scope scope) (nodef : defaultsOf params X.env = ([], [])) :
    PE X (.Lambda params body scope pos) (tMk T (X.env.qual ++ "<lambda>") params body scope (cloFrom X.env.cells scope.names [])) := by
  refine ⟨fun pins s σ H Q I h => ?_⟩
  obtain ⟨hT, h⟩ := h
  exact lam_kept I M.tb M.code M.here M.one hT nodef (L.has I.ok) fun f H1 s' I1 x1 x2 x3 x4 => ⟨.ref f, H1, I1, rfl, h f H1 x1 x2 x3 x4⟩
end XL
end
section
set_option Elab.async false
set_option linter.all false
set_option maxRecDepth 100000
set_option maxHeartbeats 4100000
namespace XL
open PySem PySem.Spec PyProof.Rows L2 LamX XK
/-! ### what a def's cells hold, told of any later heap -/
structure Caps (X : Cx) (σ : L2.St) (H : Hp) (h : Heap) : Prop where
  ok : X.Ok
  len : σ.length = X.N.length
  cell : ∀ y c, X.env.cells.lookup y = some c → (∃ v, h.IsCell c v) ∧ H c = none
  val : ∀ (i : Nat) (y : Str) (v : V), X.N[i]? = some y → σ[i]? = some (some v) → Vis X.env.scope y → X.env.scope.names.lookup y ≠ some .local → ∃ u c, RelV v u ∧ X.env.cells.lookup y = some c ∧ h.IsCell c (some u)
section
variable {X : Cx} {pins : List (Addr × Obj)} {σ : L2.St} {H H' : Hp} {s : Shared} {h h' : Heap}
theorem Caps.of (I : Inv X pins σ H s) : Caps X σ H s.heap := by
  refine ⟨I.ok, I.len, fun y c e => ⟨I.cell y c e, I.freeC y c e⟩, fun i y v e1 e2 vis nl => ?_⟩
  obtain ⟨m, _, tell⟩ := I.loc
  obtain ⟨u, r, q⟩ := tell i y v e1 e2 vis
  cases q with
  | inl z => exact absurd z.1 nl
  | inr z =>
    obtain ⟨_, c, e, ic⟩ := z
    exact ⟨u, c, r, e, ic⟩
theorem Caps.go {fs ex : List Addr} (C : Caps X σ H h) (un : Un fs ex H H' h h') (out : ∀ y c, X.env.cells.lookup y = some c → c ∉ ex) : Caps X σ H' h' := by
  have stays : ∀ y c v, X.env.cells.lookup y = some c → h.IsCell c v → h'.IsCell c v := fun y c v e ⟨o, ho, hd⟩ => by
    obtain ⟨sl, q⟩ := un.any ho (C.cell y c e).2 (out y c e)
    exact ⟨_, q, hd⟩
  refine ⟨C.ok, C.len, fun y c e => ?_, fun i y v e1 e2 vis nl => ?_⟩
  · obtain ⟨⟨v, ic⟩, n⟩ := C.cell y c e
    have ⟨o, ho, _⟩ := ic
    exact ⟨⟨v, stays y c v e ic⟩, un.free c o ho n (out y c e)⟩
  · obtain ⟨u, c, r, e, ic⟩ := C.val i y v e1 e2 vis nl
    exact ⟨u, c, r, e, stays y c _ e ic⟩
/-- the lambda's body begins -/
theorem Caps.start {A : Around} {outer : List Env} {E : XK} {scope : Scope} {f c' : Addr} {h₁ : Heap} {tk : Nat} (C : Caps X σ H s.heap) (L : LamS X.env.scope scope) (e0 : Env0 X.prog X.w X.K X.mg X.base A outer s H) (calm : A.handled = none)
    (new : h₁.Ns s.heap.objs.size fun y => ([] : List (Str × Value)).reverse.lookup y) (kp : ∀ b o, s.heap.get? b = some o → h₁.get? b = some o) :
    Inv (lamCx X A outer s H E scope f c') [] σ H { s with heap := h₁, toks := tk } := by
  have up : ∀ {y c}, (cloFrom X.env.cells scope.names []).lookup y = some c → X.env.cells.lookup y = some c ∧ (y, NameKind.free) ∈ scope.names := fun {y c} e => by
    rcases cloFrom_mem (PySem.mem_of_lookup e) with z | ⟨z1, z2⟩
    · cases z
    · obtain ⟨c1, k⟩ := L.has C.ok _ z1 rfl
      refine ⟨?_, z1⟩
      have k : X.env.cells.lookup y = some c1 := k
      have z3 : c = c1 := by rw [z2, k] <;> rfl
      rw [z3]
      exact k
  have down : ∀ {y}, scope.names.lookup y = some .free → ∃ c, (cloFrom X.env.cells scope.names []).lookup y = some c := fun {y} k => mem_lookup (cloFrom_has (cells := X.env.cells) (acc := []) (PySem.mem_of_lookup k))
  have cK : ∀ {c v}, s.heap.IsCell c v → h₁.IsCell c v := fun {c v} ⟨o, a, b⟩ => ⟨o, kp _ _ a, b⟩
  have none_ : ∀ b : Addr, b ∉ (lamCx X A outer s H E scope f c').ex := fun b z => absurd (show b ∈ ([] : List Addr) from z) (by simp)
  have nocell : ∀ {y}, scope.names.lookup y ≠ some .cell := fun {y} k => (L.own _ (PySem.mem_of_lookup k)).2 rfl
  have nolocal : ∀ {y}, scope.names.lookup y ≠ some .local := fun {y} k => (L.own _ (PySem.mem_of_lookup k)).1 rfl
  refine ⟨⟨e0.mod, L.kind, rfl, rfl, Nat.le_refl _, fun y z c a b => C.ok.inj y z c (up a).1 (up b).1, fun y hy => ?_, fun y c z _ => (by cases (show false = true from z)), fun _ => calm, Around.frames_deeper e0.frames, .inr ⟨rfl, rfl⟩, fun b z => absurd z (none_ b), e0.bs, e0.bsz, fun b _ _ => none_ b,
    fun b z => absurd z (none_ b), e0.funs, e0.frf⟩, rfl, e0.bare, Un.kept kp, ⟨_, new, fun i y v a b vis => ?_⟩, fun y c e => ?_, e0.hok.fresh (Nat.le_refl _), fun y c e => (C.cell y c (up e).1).2, fun q z => absurd (show q ∈ ([] : List (Addr × Obj)) ++ [] from z) (by simp), e0.hok.kept kp, C.len⟩
  · rcases (show scope.names.lookup y = some .cell ∨ scope.names.lookup y = some .free from hy) with k | k
    · exact absurd k nocell
    · exact down k
  · rcases (show Vis scope y from vis) with k | k | k
    · exact absurd k nolocal
    · exact absurd k nocell
    · have mine := L.free _ (PySem.mem_of_lookup k) rfl
      have nl : X.env.scope.names.lookup y ≠ some .local := fun z => by
        rcases mine with k2 | k2 <;> rw [show X.env.scope.names.lookup y = _ from k2] at z <;> cases z
      obtain ⟨u, c, r, e, ic⟩ := C.val i y v a b (mine.elim (fun k => .inr (.inl k)) fun k => .inr (.inr k)) nl
      obtain ⟨c2, e2⟩ := down k
      obtain rfl : c = c2 := Option.some.inj (e.symm.trans (up e2).1)
      exact ⟨u, r, .inr ⟨.inr k, c, e2, cK ic⟩⟩
  · obtain ⟨⟨v, ic⟩, _⟩ := C.cell y c (up e).1
    exact ⟨v, cK ic⟩
/-- a(), within a def that got the lambda as its slot i: that def was entered at s and H, where the maker's cells are known -/
theorem pe_does {CXg : CXT} {Eg : XK} {Ng : List Str} {qg q : Str} {sg : Scope} {g f : Addr} {cdg : Value} {params : Arguments} {body : Expr} {scope : Scope} {k i : Nat} {a : Str} {pn : List (Addr × Obj)} {xe : Value → Shared → Prop} {W : WX} {E : XK} {tb : TE} {p1 p2 : Pos}
    (C : Caps X σ H s.heap) (L : LamS X.env.scope scope) (eq_ : q = X.env.qual ++ "<lambda>")
    (noargs : ∀ (cl : List (Str × Addr)) (pm cv ctv : Value), bindArgs (PySem.W.kla_fn "<lambda>" q params body scope cl pm cv ctv) ⟨[], []⟩ = pure [])
    (tk : Takes ((cxOf CXg X.prog X.w X.K X.mg X.base Ng qg sg g cdg X.A X.stack s H Eg).tr pn xe) W) (hW : ∀ cls d σ' H', E cls d H' → W cls d σ' H') (room : Room (k + 1) (X.A.deeper (envOfC qg sg s.heap.objs.size g cdg)))
    (does : ∀ (A : Around) (outer : List Env) (s : Shared) (H : Hp) (f c' : Addr), Room k (A.deeper (lamEnv X scope s.heap.objs.size f c')) → PE (lamCx X A outer s H E scope f c') body tb)
    (hN : Ng[i]? = some a) (hv : Vis sg a) (hd : (a == ("__debug__" : Str)) = false := by decide) (hcd : (a == ("__classdict__" : Str)) = false := by decide) :
    PE ((cxOf CXg X.prog X.w X.K X.mg X.base Ng qg sg g cdg X.A X.stack s H Eg).tr pn xe) (.Call (.Name a p1) [] [] p2)
      (fun σZ HZ Q => σZ[i]? = some (some (.ref f)) ∧ IsLam q params body scope (cloFrom X.env.cells scope.names []) HZ f ∧ tb σ HZ Q) := by
  subst eq_
  refine ⟨fun pinsZ sZ σZ HZ Q IZ want => ?_⟩
  obtain ⟨slot, ⟨c', pm, ctv, lf, lc⟩, rd⟩ := want
  refine wpAny_Call_Name_kw (thn ((pe_var (pos := p1) (i := i) hN hv hd hcd).run pinsZ sZ σZ HZ (fun v H1 => v = .ref f ∧ H1 = HZ) IZ ⟨.ref f, slot, rfl, rfl⟩) fun u s1 got => ?_)
  obtain ⟨v, H1, I1, rel, rfl, rfl⟩ := got
  obtain rfl : u = Value.ref f := rel
  have obj : s1.heap.get? f = some (PySem.W.kla_obj "<lambda>" (X.env.qual ++ "<lambda>") params body scope (cloFrom X.env.cells scope.names []) pm c' ctv) := (show ObjOk _ _ H1 s1.heap f (FixO _ f) from I1.hok f _ lf).1
  refine PySem.W.callWith_F0 ⟨_, _, _, _, obj⟩ ?_
  obtain ⟨⟨oc, vs, t, hoc, hdc, hvc⟩, _, _⟩ := I1.hok c' _ lc
  have C1 : Caps X σ H1 s1.heap := C.go I1.base fun _ c _ z => absurd (show c ∈ ([] : List Addr) from z) (by simp)
  have run : codeAny (model X.prog X.w) (X.A.deeper (envOfC qg sg s.heap.objs.size g cdg)) (.call (.ref f) ⟨[], []⟩) (CR (L2.CX X.prog X.w) (envOfC qg sg s.heap.objs.size g cdg :: X.stack) X.prog X.w H1 s1 Q E) s1 := by
    refine PySem.W.kla_callFunE room.depth obj rfl L.co L.gen rfl ⟨c', oc, vs, t, rfl, hoc, hdc, hvc⟩ ?_
    rw [noargs]
    refine wpAny_pure (wpAny_newFunctionEnv (fun y hy => (L.own y hy).2) (fun y hy => absurd hy (by simp)) (fun h₁ hns hsb => ⟨I1.nolimit.fresh _ hsb, ?_⟩) L.kind)
    show codeAny _ _ (.expr body (lamEnv X scope s1.heap.objs.size f c')) _ _
    have kp : ∀ b o, s1.heap.get? b = some o → h₁.get? b = some o := fun b o e => hsb.extBut b o (Nat.ne_of_lt (Heap.lt_size e)) (Heap.get?_push_of_some _ e)
    have J : Inv (lamCx X (X.A.deeper (envOfC qg sg s.heap.objs.size g cdg)) (envOfC qg sg s.heap.objs.size g cdg :: X.stack) s1 H1 E scope f c') [] σ H1 { s1 with heap := h₁, toks := s1.toks + ([] : List (Str × Value)).length } := C1.start L I1.env0 room.hd hns kp
    refine PySem.W.kla_codeExpr (wpAny_mono ((does _ _ s1 H1 _ _ (room.deeper _)).run [] _ _ H1 Q J rd) (fun v s' res => ?_) fun _ _ res => res)
    obtain ⟨y, H', J', rv, q⟩ := res
    exact ⟨y, H', J'.os, J'.bare, J'.base, J'.hok, rv, q⟩
  refine wpAny_call (codeAny_mono run fun r s' res => ?_)
  cases r with
  | error e => exact passes_call (X := (cxOf CXg X.prog X.w X.K X.mg X.base Ng qg sg g cdg X.A X.stack s H Eg).tr pn xe) tk hW pinsZ σZ H1 s1 e s' I1 res
  | ok fl =>
    cases fl with
    | ret u => exact I1.after res
    | next => exact False.elim res
    | brk => exact False.elim res
    | cont => exact False.elim res
end
end XL
end
section
set_option Elab.async false
set_option linter.all false
set_option maxRecDepth 100000
set_option maxHeartbeats 4100000
namespace XL
open PySem PySem.Spec PyProof.Rows L2 LamX XK
/-! ### a def that is handed a lambda and calls it -/
/-- what the def at g makes of a lambda that it gets: TT, of the reading of what the lambda does -/
def Gets (X : Cx) (Ng : List Str) (x : Str) (sg : Scope) (g : Addr) (cdg : Value) (bg : List Stmt) (a : Str) (TT : (XK → Hp → VK → Prop) → Hp → VK → Prop) : Prop :=
  ∀ (LP : Hp → Addr → Prop) (f : Addr) (s : Shared) (H : Hp) (Q : VK) (tl : XK → Hp → VK → Prop),
    (∀ (W : WX) (pn : List (Addr × Obj)) (xe : Value → Shared → Prop) (E : XK) (p1 p2 : Pos), Takes ((cxOf C8.CX0 X.prog X.w X.K X.mg X.base Ng x sg g cdg X.A X.stack s H C8.E0).tr pn xe) W → (∀ cls d σ' H', E cls d H' → W cls d σ' H') →
      PE ((cxOf C8.CX0 X.prog X.w X.K X.mg X.base Ng x sg g cdg X.A X.stack s H C8.E0).tr pn xe) (.Call (.Name a p1) [] [] p2) (fun σZ HZ Q => σZ[0]? = some (some (.ref f)) ∧ LP HZ f ∧ tl E HZ Q)) →
    LP H f → TT tl H Q →
    ∃ t, PSs (cxOf C8.CX0 X.prog X.w X.K X.mg X.base Ng x sg g cdg X.A X.stack s H C8.E0).nox bg t ∧ t { nx := fun _ H' => Q .non H', rt := Q } (L2.start Ng [.ref f]) H
/-- two contexts of one def: alike in all that a call looks at -/
structure Kin (X Y : Cx) : Prop where
  prog : Y.prog = X.prog
  w : Y.w = X.w
  K : Y.K = X.K
  mg : Y.mg = X.mg
  base : Y.base = X.base
  A : Y.A = X.A
  stack : Y.stack = X.stack
theorem Kin.refl (X : Cx) : Kin X X := ⟨rfl, rfl, rfl, rfl, rfl, rfl, rfl⟩
/-- the def that is handed the lambda -/
structure Taker (X : Cx) (x a : Str) (g : Addr) (Ng : List Str) (sg : Scope) (cdv : Value) (bg : List Stmt) (TT : (XK → Hp → VK → Prop) → Hp → VK → Prop) : Prop where
  m : X.mg x = some (.ref g)
  k : PySem.W.keepIn X.K (.ref g) = true
  fn : ∃ (pg : Arguments) (dV kV doc pm ct oc : Value) (an od : Option Addr) (osl : Array (Option Value)),
    X.K.lookup g = some ⟨oc, od, .func (PySem.W.fnOf x x pg bg sg dV kV doc pm an cdv ct), osl⟩ ∧ L2.Binds X.K (PySem.W.fnOf x x pg bg sg dV kV doc pm an cdv ct) [a] []
  cd : PySem.W.codeIn X.K cdv x = true
  S : FnScope Ng [a] sg
  n0 : Ng[0]? = some a
  v0 : Vis sg a
  gets : Gets X Ng x sg g cdv bg a TT
/-- the reading of x(e): e is a lambda, and what x makes of it -/
def tGo (q : Str) (params : Arguments) (body : Expr) (scope : Scope) (cl : List (Str × Addr)) (M : L2.St → L2.St) (TT : (XK → Hp → VK → Prop) → Hp → VK → Prop) (t : XK → TE) (ta : TA) : TE := fun σ H Q =>
  ta σ H fun vs H1 => ∃ f, vs = [.ref f] ∧ IsLam q params body scope cl H1 f ∧ TT (fun E H' Q' => t E (M σ) H' Q') H1 Q
theorem pe_go {X Y : Cx} (kin : Kin X Y) {M : L2.St → L2.St} {x a q : Str} {g : Addr} {Ng : List Str} {sg : Scope} {cdv : Value} {bg : List Stmt} {TT : (XK → Hp → VK → Prop) → Hp → VK → Prop} {params : Arguments} {body : Expr} {scope : Scope} {k : Nat} {t : XK → TE} {e : Expr} {ta : TA} {p pos : Pos}
    (caps : ∀ pins σ H s, Inv Y pins σ H s → Caps X (M σ) H s.heap) (G : Taker X x a g Ng sg cdv bg TT) (L : LamS X.env.scope scope) (eq_ : q = X.env.qual ++ "<lambda>") (room : Room (k + 2) X.A)
    (noargs : ∀ (cl : List (Str × Addr)) (pm cv ctv : Value), bindArgs (PySem.W.kla_fn "<lambda>" q params body scope cl pm cv ctv) ⟨[], []⟩ = pure [])
    (does : ∀ (A : Around) (outer : List Env) (s : Shared) (H : Hp) (E : XK) (f c' : Addr), Room k (A.deeper (lamEnv X scope s.heap.objs.size f c')) → PE (lamCx X A outer s H E scope f c') body (t E))
    (ha : PA Y [e] ta) (hg : Gl Y x) (hdb : (x == ("__debug__" : Str)) = false := by decide) (hd : (a == ("__debug__" : Str)) = false := by decide) (hcd : (a == ("__classdict__" : Str)) = false := by decide)
    (he : starEach [e] Y.env = (false, eval e Y.env) :: starEach [] Y.env := by rfl) (hpl : (backTo pos (starEach [] Y.env)).any (·.1) = false := by rfl) :
    PE Y (.Call (.Name x p) [e] [] pos) (tGo q params body scope (cloFrom X.env.cells scope.names []) M TT t ta) := by
  refine ⟨fun pins s σ H Q I want => ?_⟩
  obtain ⟨pg, dV, kV, doc, pm, ct, oc, an, od, osl, lk, hb⟩ := G.fn
  have mY : Y.mg x = some (.ref g) := by rw [kin.mg]; exact G.m
  have kY : PySem.W.keepIn Y.K (.ref g) = true := by rw [kin.K]; exact G.k
  refine wpAny_Call_Name_kw (ld_glob I hg mY ?_ hdb)
  refine PySem.W.callWith_K (h₀ := Y.base) I.ok.mod.kin kY (thn (ha.run pos pins s σ H _ I want) fun us s1 got => ?_) he hpl
  obtain ⟨vs, H1, I1, rel, f, rfl, lam, rd⟩ := got
  refine ⟨I1.kIn, ?_⟩
  have eu : us = [.ref f] := by
    cases rel with
    | cons r rn =>
      cases rn
      rw [show _ = Value.ref f from r]
  subst eu
  have C1 := caps _ _ _ _ I1
  have env : Env0 X.prog X.w X.K X.mg X.base X.A X.stack s1 H1 := by
    have z := I1.env0
    rw [kin.prog, kin.w, kin.K, kin.mg, kin.base, kin.A, kin.stack] at z
    exact z
  have kI : X.K.In s1.heap := by
    have z := I1.kIn
    rw [kin.K] at z
    exact z
  have run : codeAny (model X.prog X.w) X.A (.call (.ref g) ⟨[.ref f], []⟩) (CR C8.CX0 X.stack X.prog X.w H1 s1 Q C8.E0) s1 := by
    refine run_ofS (N := Ng) (ps := [a]) (us := [.ref f]) (vs := [.ref f]) lk G.cd G.S room env (hb s1 [.ref f] kI rfl) (.cons rfl .nil) rfl fun room' => ?_
    obtain ⟨t', ht', hq'⟩ := G.gets (fun H f => IsLam q params body scope (cloFrom X.env.cells scope.names []) H f) f s1 H1 Q (fun E H' Q' => t E (M σ) H' Q')
      (fun W pn xe E p1 p2 tk hW => pe_does (i := 0) C1 L eq_ noargs tk hW room' (fun A outer s H f c' r => does A outer s H E f c' r) G.n0 G.v0 hd hcd) lam rd
    exact ⟨t', ht'.nox, hq'⟩
  rw [kin.prog, kin.w, kin.A]
  refine wpAny_call (codeAny_mono run fun r s2 res => ?_)
  cases r with
  | error e => exact (show False from res).elim
  | ok fl =>
    cases fl with
    | ret u =>
      have res' : CE Y.stack Y.prog Y.w H1 s1 Q u s2 := by
        rw [kin.prog, kin.w, kin.stack]
        exact res
      exact I1.after res'
    | next => exact False.elim res
    | brk => exact False.elim res
    | cont => exact False.elim res
end XL
end
section
set_option Elab.async false
set_option linter.all false
set_option maxRecDepth 100000
set_option maxHeartbeats 4100000
namespace XL
open PySem PySem.Spec PyProof.Rows L2 LamX XK
/-! ### a list comprehension whose test calls with what its list holds: the test may lean on the def's own cells -/
section
variable {X : Cx}
/-- as tLc, the test's reading hangs on the def's slots -/
def tLcI (wi : TI) (g : TG) (tt : L2.St → TT) (te : TE) (vs : List Nat) : TE := fun σ H Q => tLc wi g (tt σ) te vs σ H Q
theorem pe_lcI {elt tg iter : Expr} {ifs : List Expr} {scope : Scope} {own : List (Str × Nat)} {pos : Pos} {wi : TI} {g : TG} {tt : L2.St → TT} {te : TE} (calm : X.calm = true) (dist : X.N.Nodup) (hi : PI X tg iter wi) (ok : BlkOk X.N X.env.scope scope own)
    (hg : ∀ (s : Shared) (H : Hp) (C : Addr) (cl : List (Str × Addr)) (fp : List Addr), PG (X.blk s H scope (compEnvC scope cl C X.env) fp) tg g)
    (ht : ∀ (pins : List (Addr × Obj)) (σ : L2.St) (s : Shared) (H : Hp) (C : Addr) (cl : List (Str × Addr)) (fp : List Addr), Inv X pins σ H s → (∀ y c, X.env.cells.lookup y = some c → c ∉ fp) → PTs (X.blk s H scope (compEnvC scope cl C X.env) fp) ifs (tt σ))
    (he : ∀ (s : Shared) (H : Hp) (C : Addr) (cl : List (Str × Addr)) (fp : List Addr), PE (X.blk s H scope (compEnvC scope cl C X.env) fp) elt te) (hs : ∀ x, foldedSetIterable iter X.env x = pure x := by intro _; rfl) :
    PE X (.ListComp elt [⟨tg, iter, ifs, 0⟩] scope pos) (tLcI wi g tt te (own.map (·.2))) := by
  refine ⟨fun pins s σ H Q I want => ?_⟩
  rw [eval_ListComp]
  have caught : ∀ y ∈ scope.names, y.2 = .free → ∃ c, X.env.cells.lookup y.1 = some c := fun y hy e => (ok.free y hy e).elim (fun k => I.ok.has _ (.inl k)) fun k => I.ok.has _ (.inr k)
  refine wpAny_comprehension_free (use := none) rfl hs (closure_ok caught) ok.kind (fun y hy e => by rw [ok.uniq y hy, e]) (thn (hi.run pins s σ H _ I want) fun xv s1 hx => thn hx fun itv s2 h2 => ?_)
  obtain ⟨it, fp, tn, J, H2, rfl, I2, T, st2, f2, rest⟩ := h2
  refine wpAny_newObj_type (newEnv_comp ?_) (by show 0 ≤ sizeLine; decide)
  obtain ⟨D, hD⟩ : ∃ D, D = s2.heap.objs.size := ⟨_, rfl⟩
  have dNone : H2 D = none := I2.hok.fresh (Nat.le_of_eq hD.symm)
  obtain ⟨W, ⟨m0, w0⟩, turn⟩ := rest D dNone
  rw [← hD]
  obtain ⟨s3, hs3⟩ : ∃ s3 : Shared, s3 = { s2 with heap := s2.heap.push { cls := .type "list", data := .seq ([] : List Value).toArray } } := ⟨_, rfl⟩
  have I3 : Inv X pins σ (upd H2 D (.lst [])) s3 := by
    subst hs3
    exact I2.laid (t' := s2.toks) (fun b o e => Heap.get?_push_of_some _ e) (Nat.le_of_eq hD.symm) ⟨Nat.zero_le _, [], 0, .nil, by rw [hD]; exact Heap.get?_push_size _ rfl⟩
  have heap3 : s3.heap = s2.heap.push { cls := .type "list", data := .seq ([] : List Value).toArray } := by rw [hs3]
  have f3 : ∀ b ∈ fp, FpOk X pins (upd H2 D (.lst [])) b ∧ b < s3.heap.objs.size := fun b hb => by
    obtain ⟨o, e, _⟩ := T.obj _ _ st2 b hb
    have lt := Heap.lt_size e
    refine ⟨⟨?_, (f2 b hb).2⟩, by rw [heap3, Heap.size_push]; exact Nat.lt_succ_of_lt lt⟩
    rw [upd_ne (by rw [hD]; exact Nat.ne_of_lt lt)]
    exact (f2 b hb).1
  have st3 : tn 0 s3.heap := T.keep _ _ _ st2 fun b _ o e => by rw [heap3]; exact Heap.get?_push_of_some _ e
  have cellsOut : ∀ y c, X.env.cells.lookup y = some c → c ∉ fp := fun y c e z => (f2 c z).2.2.2.2.1 y c e rfl
  have I4 := block_start I3 ok dist f3
  have pg := hg s3 (upd H2 D (.lst [])) s3.heap.objs.size (cellsFrom (s3.heap.objs.size + 1) scope.names (cloFrom X.env.cells scope.names [])) fp
  have pt := ht pins σ s3 (upd H2 D (.lst [])) s3.heap.objs.size (cellsFrom (s3.heap.objs.size + 1) scope.names (cloFrom X.env.cells scope.names [])) fp I3 cellsOut
  have pe := he s3 (upd H2 D (.lst [])) s3.heap.objs.size (cellsFrom (s3.heap.objs.size + 1) scope.names (cloFrom X.env.cells scope.names [])) fp
  have e3 : ({ s2 with heap := s2.heap.push { cls := .type "list", data := .seq ([] : List Value).toArray } } : Shared) = s3 := hs3.symm
  rw [e3]
  show codeAny _ _ (.compStart (.ListComp elt [⟨tg, iter, ifs, 0⟩] scope pos) 0 (.ref it) (.ref D) (compEnvC scope (cellsFrom (s3.heap.objs.size + 1) scope.names (cloFrom X.env.cells scope.names [])) s3.heap.objs.size X.env)) (compPost (model X.prog X.w) X.A X.xe none (EP X pins σ Q) (.ref D) s3.heap.objs.size) { s3 with heap := pushCells (s3.heap.push { cls := .type "dict", data := .dict #[] }) scope.names }
  generalize hce : compEnvC scope (cellsFrom (s3.heap.objs.size + 1) scope.names (cloFrom X.env.cells scope.names [])) s3.heap.objs.size X.env = ce at I4 pg pt pe ⊢
  have cL : ce.locals = s3.heap.objs.size := by subst hce; rfl
  have nfp : ∀ b ∈ fp, (upd H2 D (.lst [])) b = none := fun b hb => (f3 b hb).1.1
  generalize hH3 : upd H2 D (.lst []) = H3 at I3 I4 pg pt pe w0 nfp f3
  generalize hs4 : ({ s3 with heap := pushCells (s3.heap.push { cls := .type "dict", data := .dict #[] }) scope.names } : Shared) = s4 at I4 ⊢
  have st4 : tn 0 s4.heap := T.keep _ _ _ st3 fun b _ o e => by rw [← hs4]; exact pushCells_keeps _ _ _ _ (Heap.get?_push_of_some _ e)
  have stat : ∀ {σ' : L2.St} {H' : Hp} {s' : Shared}, Inv (X.blk s3 H3 scope ce fp) [] σ' H' s' → (∀ b ∈ fp, H' b = none) → ∀ b ∈ fp, FpOk (X.blk s3 H3 scope ce fp) [] H' b := fun {σ' H' s'} K' hn b hb =>
    ⟨hn b hb, (K'.ok.exf b hb).1, K'.ok.exfs b hb, .inl hb, fun x c e => (K'.ok.exf b hb).2 x c e, fun p hp => absurd (show p ∈ ([] : List (Addr × Obj)) ++ [] from hp) (by simp)⟩
  let At : Nat → Shared → Prop := fun n s' => ∃ i H', Inv (X.blk s3 H3 scope ce fp) [] (wipe σ (own.map (·.2))) H' s' ∧ tn i s'.heap ∧ (∀ b ∈ fp, H' b = none) ∧ W i n H'
  have loop : codeAny (model X.prog X.w) X.A (.compLoop (.ListComp elt [⟨tg, iter, ifs, 0⟩] scope pos) 0 (.ref it) (.ref D) ce) (compPost (model X.prog X.w) X.A X.xe none (EP X pins σ Q) (.ref D) s3.heap.objs.size) s4 := by
    refine compLoop_any At ?_ m0 ⟨0, H3, I4, st4, nfp, w0⟩
    rintro n s5 ⟨i, H5, I5, st5, n5, w5⟩
    cases turn i n H5 w5 with
    | inl over =>
      obtain ⟨stop, answer⟩ := over
      refine thnF (T.done (X.blk s3 H3 scope ce fp) rfl rfl rfl calm i [] s5 _ H5 (fun _ _ => False) I5 (stat I5 n5) st5 stop) fun r s6 ⟨hr, I6⟩ => ?_
      subst hr
      have I7 : Inv X pins σ H5 s6 := I3.call' (ch := fp) I6.os I6.base I6.hok I6.bare fun b hb => ⟨(f3 b hb).1.2.2.2.1, (f3 b hb).1.2.1, (f3 b hb).1.2.2.2.2.1, (f3 b hb).1.2.2.2.2.2⟩
      have gone : H5 s3.heap.objs.size = none := by
        have z : H5 ce.locals = none := I6.free
        rw [cL] at z
        exact z
      obtain ⟨m, hn, _⟩ := I6.loc
      have hn : s6.heap.Ns ce.locals m := hn
      rw [cL] at hn
      refine ⟨m, hn, fun h'' sb => ?_⟩
      obtain ⟨g0, g1, g2, g3, g4, g5⟩ := I3.fpOk (Nat.le_refl _) gone
      exact ⟨.ref D, H5, I7.turned (t' := s6.toks) (fun b o hb e => (sb.2 b hb).trans e) g0 g1 g3 g4 g5, rfl, answer⟩
    | inr more =>
      obtain ⟨go, Nx, hNx, step⟩ := more
      refine thnF (T.item (X.blk s3 H3 scope ce fp) rfl rfl rfl calm i [] s5 _ H5 (fun _ _ => False) I5 (stat I5 n5) st5 go) fun r s6 ⟨u, hr, h6⟩ => ?_
      subst hr
      refine thnF h6 fun _ s7 ⟨x, H7, I7, r7, y7, st7, n7⟩ => ?_
      have P7 := I7.pinned (stat I7 n7) (T.obj _ _ st7)
      refine thnF (pg.run _ s7 _ H7 x u _ P7 r7 (step x H7 y7)) fun _ s8 ⟨σ8, H8, I8, hw8, q8⟩ => ?_
      refine thnF (pt.run _ s8 σ8 H8 _ I8 q8) fun b s9 ⟨H9, I9, q9⟩ => ?_
      have fin : ∀ {s' : Shared} {H' : Hp}, Inv (X.blk s3 H3 scope ce fp) ([] ++ pinsAt fp s7.heap) σ8 H' s' → Nx H' → ∃ m, m < n ∧ At m s' := fun {s' H'} K' nx => by
        obtain ⟨m', lt, w'⟩ := hNx H' nx
        have still : ∀ b ∈ fp, ∀ o, s7.heap.get? b = some o → s'.heap.get? b = some o ∧ H' b = none := fun b hb o e => by
          have z := K'.pin (b, o) (List.mem_append_right _ (List.mem_append_right _ (mem_pinsAt hb e)))
          exact ⟨z.1, z.2.1⟩
        have len : (wipe σ (own.map (·.2))).length = σ8.length := by rw [← hw8, wipe_length]
        refine ⟨m', lt, i + 1, H', (K'.unpinned (pins := [])).weak len (fun j v e => ?_), T.keep _ _ _ st7 fun b hb o e => (still b hb o e).1, fun b hb => ?_, w'⟩
        · rw [← hw8] at e
          exact (wipe_some e).1
        · obtain ⟨o, e, _⟩ := T.obj _ _ st7 b hb
          exact (still b hb o e).2
      cases b with
      | false =>
        simp only [Bool.false_eq_true, if_false] at q9 ⊢
        exact fin I9 q9
      | true =>
        simp only [if_true] at q9 ⊢
        refine thnF (pe.run _ s9 σ8 H9 _ I9 q9) fun z s10 ⟨yv, H10, I10, r10, acc, hD10, hz10, nx⟩ => ?_
        exact app_ok (X := X.blk s3 H3 scope ce fp) I10 hD10 hz10 r10 fun s11 I11 => fin I11 nx
  exact codeAny_compStart_list loop (T.self X.A 0 _ _ _ st4 loop)
/-- the cells in the block of such a comprehension -/
theorem Caps.blk {pins pinsB : List (Addr × Obj)} {σ σB : L2.St} {s sB : Shared} {H HB : Hp} {scope : Scope} {ce : Env} {fp : List Addr} (I : Inv X pins σ H s) (out : ∀ y c, X.env.cells.lookup y = some c → c ∉ fp) (B : Inv (X.blk s H scope ce fp) pinsB σB HB sB) : Caps X σ HB sB.heap :=
  (Caps.of I).go B.base out
end
end XL
end
section
set_option Elab.async false
set_option linter.all false
set_option maxRecDepth 100000
set_option maxHeartbeats 4100000
namespace XO
open PySem PySem.Spec PyProof.Rows L2
/-! ### == and != by an own __eq__ that gives either truth -/
section
variable {X : Cx} {CX : CXT} {n : Nat} {C f : Addr} {fd : FuncData} {ps : List Str} {sp : Sp} {E : XK}
/-- the own __eq__ is called, from within -/
theorem eq_runs {A : Around} {pins : List (Addr × Obj)} {s : Shared} {σ : L2.St} {H : Hp} {a : Addr} {y : V} {v : Value} {q : Bool → Hp → Prop} {R : Value → Shared → Prop} (F : FnOk X.prog X.w X.K X.mg X.base CX n f fd ps sp) (hb : Binds X.K fd ps []) (hx : Passes CX X E)
    (room : Room n A) (fr : A.frames = X.A.frames) (I : Inv X pins σ H s) (ry : RelV y v) (want : sp [.ref a, y] H (fun z H' => ∃ b, z = .bl b ∧ q b H') E) (fin : ∀ b s' H', Inv X pins σ H' s' → q b H' → R (.bool b) s') :
    wpAny (model X.prog X.w) A (call (.ref f) [.ref a, v]) R X.xe s := by
  have e0 : Env0 X.prog X.w X.K X.mg X.base A X.stack s H := by
    have e := I.env0
    exact ⟨by rw [fr]; exact e.frames, e.mod, e.bs, e.bsz, e.funs, e.frf, e.hok, e.bare⟩
  have hl := F.len _ _ _ _ want
  have r2 : Vals [V.ref a, y] [Value.ref a, v] := .cons rfl (.cons ry .nil)
  refine wpAny_call (codeAny_mono (F.run A X.stack s H ⟨[.ref a, v], []⟩ [.ref a, v] [.ref a, y] _ E room e0 (by
    have := hb s [.ref a, v] I.kIn (by simpa using hl)
    simpa using this) r2 want) fun r s' res => ?_)
  cases r with
  | error e => exact hx pins σ H s e s' I res
  | ok fl =>
    cases fl with
    | ret w =>
      obtain ⟨z, H', I', rz, b, rfl, ez⟩ := I.after res
      obtain rfl : w = Value.bool b := rz
      exact fin b s' H' I' ez
    | next => exact False.elim res
    | brk => exact False.elim res
    | cont => exact False.elim res
/-- the reading of x == y and of x != y, x an instance of the class at C -/
def rOwnE (K : PySem.W.Frag) (C : Addr) (sp : Sp) (E : XK) (neg : Bool) : R2 := fun x y H Q => ∃ a dx fs t, x = .ref a ∧ H a = some (.ins C dx fs) ∧ TyX K H y t ∧ PySem.W.notFirst K C t = true ∧ sp [.ref a, y] H (fun z H' => ∃ b, z = .bl b ∧ Q (.bl (b != neg)) H') E
theorem op_own (F : FnOk X.prog X.w X.K X.mg X.base CX n f fd ps sp) (hs : PySem.W.findIn X.K (.ref C) "__eq__" = some (some (.ref f))) (hf : PySem.W.isFn X.K (.ref f) = true) (hb : Binds X.K fd ps []) (hx : Passes CX X E) (room : Room n X.A) :
    OpR X (compareOp .Eq) (rOwnE X.K C sp E false) := by
  intro pins s σ H x y v u Q I rx ry want
  obtain ⟨a, dx, fs, t, rfl, ha, ty, nf, rd⟩ := want
  cases rx
  obtain ⟨mA, J, _⟩ := ins_get I.hok ha
  obtain ⟨od, J, _⟩ := J.look
  obtain ⟨m, hF⟩ := I.fr
  obtain ⟨Pz, Z, pz, _⟩ := kit_of I ry ty
  show wpAny (model X.prog X.w) X.A (richCompare .Eq (.ref a) u) (EP X pins σ Q) X.xe s
  refine PySem.W.cmp_K (op := .Eq) (tb := t) room.units0 hF I.ok.mod.kin J (Z.ty _ _ I.kIn pz) nf hs hf ?_
  refine eq_runs F hb hx room rfl I ry rd fun b s' H' I' q => ?_
  refine ⟨.bl b, H', I', rfl, ?_⟩
  have e : (b != false) = b := by cases b <;> rfl
  rw [← e]
  exact q
theorem op_ownNe (F : FnOk X.prog X.w X.K X.mg X.base CX n f fd ps sp) (hs : PySem.W.findIn X.K (.ref C) "__eq__" = some (some (.ref f))) (hf : PySem.W.isFn X.K (.ref f) = true) (hb : Binds X.K fd ps []) (hx : Passes CX X E) (room : Room (n + 1) X.A)
    (ne : PySem.W.findIn X.K (.ref C) "__ne__" = some (some (.builtin "object.__ne__"))) (ob : PySem.W.mroIn X.K C (.type "object") = some true) : OpR X (compareOp .NotEq) (rOwnE X.K C sp E true) := by
  intro pins s σ H x y v u Q I rx ry want
  obtain ⟨a, dx, fs, t, rfl, ha, ty, nf, rd⟩ := want
  cases rx
  obtain ⟨mA, J, _⟩ := ins_get I.hok ha
  obtain ⟨od, J, _⟩ := J.look
  obtain ⟨Pz, Z, pz, _⟩ := kit_of I ry ty
  have kI := I.kIn
  have L0 : PySem.W.Looks (model X.prog X.w) s.heap (typeOf (.ref a)) (.ref C) := J.type
  have Lb := Z.ty (model X.prog X.w) _ kI pz
  have sub : PySem.W.Looks (model X.prog X.w) s.heap (isInstance (.ref a) (.type "object")) true := L0.andThen (PySem.W.looks_mroIn kI ob)
  have slot : wpAny (model X.prog X.w) X.A (call (.builtin "object.__ne__") [.ref a, u]) (fun z s' => ∃ b, z = Value.bool b ∧ ∃ H', Inv X pins σ H' s' ∧ Q (.bl b) H') X.xe s := by
    refine wpAny_call (codeAny_call_builtin PySem.F.cmp_object.ne.plain PySem.F.cmpEntry_ne (PySem.W.check_slot PySem.F.cmpKind_ne PySem.F.cmpSplit_ne sub (PySem.F.cmpArgs_ne _ _) ?_))
    have own : wpAny (model X.prog X.w) X.A.in1 (callSpecialIfBound? (.ref a) (Str.ofString "__eq__") [u]) (fun z s' => ∃ b, z = some (Value.bool b) ∧ ∃ H', Inv X pins σ H' s' ∧ Q (.bl (b != true)) H') X.xe s := by
      refine PySem.W.ifBound_K kI J hs hf (eq_runs F hb hx room.in1 rfl I ry rd fun b s' H' I' q => ⟨b, rfl, H', I', q⟩)
    unfold Builtin.«object.__ne__»
    refine wpAny_bind (wpAny_of_eq (a := ((Value.ref a : Value), [u])) (by first | rfl | (simp only [slotArgs]; rfl)) ?_)
    refine wpAny_bind (wpAny_cRoomFor room.in1.units0 ?_)
    refine wpAny_bind (wpAny_mono own (fun z s' hz => ?_) fun _ _ e => e)
    obtain ⟨b, rfl, H', I', q⟩ := hz
    refine wpAny_bind (wpAny_truthy_bool ?_)
    refine wpAny_pure ?_
    refine ⟨!b, rfl, H', I', ?_⟩
    have e : (b != true) = !b := by cases b <;> rfl
    rw [← e]
    exact q
  have one : wpAny (model X.prog X.w) X.A (tryCompare (.ref a) "__ne__" u) (fun z s' => ∃ b, z = some (Value.bool b) ∧ ∃ H', Inv X pins σ H' s' ∧ Q (.bl b) H') X.xe s := by
    unfold tryCompare
    have got : wpAny (model X.prog X.w) X.A (callSpecialIfBound? (.ref a) "__ne__" [u]) (fun z s' => ∃ b, z = some (Value.bool b) ∧ ∃ H', Inv X pins σ H' s' ∧ Q (.bl b) H') X.xe s := by
      simp only [callSpecialIfBound?, bindSpecialIfBound?]
      refine wpAny_holding (wpAny_bind (wpAny_bind (wpAny_bind (L0.here ((PySem.W.looks_findIn kI ne).here ?_)))))
      refine wpAny_bind (wpAny_askSetting (wpAny_ite ?_))
      have fin : wpAny (model X.prog X.w) X.A (call (.builtin "object.__ne__") ([.ref a] ++ [u]) >>= fun v => pure (some v)) (fun z s' => ∃ b, z = some (Value.bool b) ∧ ∃ H', Inv X pins σ H' s' ∧ Q (.bl b) H') X.xe s :=
        wpAny_bind (wpAny_mono slot (fun z s' hz => by
          obtain ⟨b, rfl, k⟩ := hz
          exact wpAny_pure ⟨b, rfl, k⟩) fun _ _ e => e)
      split
      · rw [PySem.F.cmp_object.ne.bind]
        exact wpAny_bind (wpAny_pure (wpAny_pure (by exact fin)))
      · rw [PySem.F.cmp_object.ne.bind]
        exact wpAny_tryCatch (wpAny_bind (wpAny_pure (wpAny_pure (by exact fin))))
    refine wpAny_bind (wpAny_mono got (fun z s' hz => ?_) fun _ _ e => e)
    obtain ⟨b, rfl, k⟩ := hz
    exact wpAny_pure ⟨b, rfl, k⟩
  show wpAny (model X.prog X.w) X.A (richCompare .NotEq (.ref a) u) (EP X pins σ Q) X.xe s
  unfold richCompare
  simp only [oneThing_ref]
  refine wpAny_holding (wpAny_bind (wpAny_cRoomFor room.units0 ?_))
  refine wpAny_bind (L0.here (wpAny_bind (Lb.here ?_)))
  have last : wpAny (model X.prog X.w) X.A (tryCompare (.ref a) "__ne__" u) (fun r s' => ∃ v, r = some v ∧ EP X pins σ Q v s') X.xe s := wpAny_mono one (fun z s' hz => by
    obtain ⟨b, rfl, H', I', q⟩ := hz
    exact ⟨_, rfl, .bl b, H', I', rfl, q⟩) fun _ _ e => e
  split
  · rename_i q
    have e : PySem.W.subIn X.K t (.ref C) = some false := by
      rcases Bool.or_eq_true_iff.mp nf with e | e
      · rw [beq_iff_eq.mp e] at q
        simp at q
      · exact beq_iff_eq.mp e
    refine wpAny_bind ((PySem.W.looks_subIn kI e).here ?_)
    simp only [Bool.false_eq_true, if_false]
    refine wpAny_bind (wpAny_mono last (fun r s' z => ?_) fun _ _ e => e)
    obtain ⟨v, rfl, hq⟩ := z
    exact wpAny_pure hq
  · refine wpAny_bind (wpAny_pure ?_)
    simp only [Bool.false_eq_true, if_false]
    refine wpAny_bind (wpAny_mono last (fun r s' z => ?_) fun _ _ e => e)
    obtain ⟨v, rfl, hq⟩ := z
    exact wpAny_pure hq
end
end XO
end
section
set_option Elab.async false
set_option linter.all false
set_option maxRecDepth 100000
set_option maxHeartbeats 4100000
namespace XK
open PySem PySem.Spec PyProof.Rows L2
/-! ### a def that is called where no repr is under way -/
section
variable {P : Program} {w : World} {K : PySem.W.Frag} {mg : Str → Option Value} {base : Heap} {CX : CXT} {k : Nat} {f : Addr} {fd : FuncData} {N ps : List Str} {sp : Sp}
structure AtG (P : Program) (w : World) (K : PySem.W.Frag) (mg : Str → Option Value) (base : Heap) (CX : CXT) (k : Nat) (f : Addr) (fd : FuncData) (ps : List Str) (sp : Sp) : Prop where
  len : ∀ vs H Q E, sp vs H Q E → vs.length = ps.length
  go : ∀ (A : Around) (outer : List Env) (s : Shared) (H : Hp) (args : Args) (us : List Value) (vs : List V) (Q : VK) (E : XK), A.guards = some [] → Room k A → Env0 P w K mg base A outer s H → BindsTo s fd args (ps.zip us) → Vals vs us → sp vs H Q E →
    codeAny (model P w) A (.call (.ref f) args) (CR CX outer P w H s Q E) s
theorem atG {x qual : Str} {st : Stmt} (F : Fun K x qual st f fd) (S : FnScope N ps (defScope st)) (len : ∀ vs H Q E, sp vs H Q E → vs.length = ps.length)
    (body : ∀ (cdv : Value) (A : Around) (outer : List Env) (s : Shared) (H : Hp) (vs : List V) (Q : VK) (E : XK), A.guards = some [] → Room k (A.deeper (envOfC qual (defScope st) s.heap.objs.size f cdv)) → sp vs H Q E →
      ∃ t, PSs (cxOf CX P w K mg base N qual (defScope st) f cdv A outer s H E).nox (defBody st) t ∧ t { nx := fun _ H' => Q .non H', rt := Q } (start N vs) H) :
    AtG P w K mg base CX (k + 1) f fd ps sp := by
  obtain ⟨oc, od, kV, doc, pm, an, cdv, ct, osl, rfl, lk, hcd⟩ := F.ex
  refine ⟨len, fun A outer s H args us vs Q E quiet room env bind rel want => ?_⟩
  have count := len _ _ _ _ want
  have inn : K.In s.heap := env.mod.kin.keeps fun b o e => (env.bs b o e).1
  have lim : s.heap.NoLimit := env.mod.nolimit.keeps fun b o e => (env.bs b o e).1
  have kinds : ∀ y ∈ ps.zip us, (defScope st).names.lookup y.1 = some .local ∨ ((defScope st).names.lookup y.1 = some .cell ∧ ((cellsFrom (s.heap.objs.size + 1) (defScope st).names []).lookup y.1).isSome = true) := by
    intro y hy
    rcases S.par y.1 (List.of_mem_zip hy).1 with q | q
    · exact .inl q
    · exact .inr ⟨q, PySem.W.cellsFrom_some _ _ _ (.inl q)⟩
  refine codeAny_call_function room.depth (inn _ _ lk) rfl S.co S.gen rfl (PySem.W.codeRec_of inn hcd) (bind _ _ _ _ ?_)
  refine wpAny_newFunctionEnv_cells S.kind kinds fun en hen s1 entered => ?_
  subst hen
  refine ⟨lim.keeps entered.toInCall.keep, codeAny_func ?_⟩
  obtain ⟨t, der, rd⟩ := body cdv A outer s H vs Q E quiet (room.deeper _) want
  have I0 : Inv (cxOf CX P w K mg base N qual (defScope st) f cdv A outer s H E) [] (start N vs) H s1 := inv_start S room.hd env count rel entered
  refine wpAny_mono (der.nox.run [] s1 (start N vs) H _ I0 rd) (fun flow s' res => ?_) fun _ _ res => res
  cases flow with
  | ret u =>
    obtain ⟨v, σ', H', J, rv, q⟩ := res
    exact ⟨v, H', J.os, J.bare, J.base, J.hok, rv, q⟩
  | next =>
    obtain ⟨σ', H', J, q⟩ := res
    exact ⟨V.non, H', J.os, J.bare, J.base, J.hok, rfl, q⟩
  | brk =>
    obtain ⟨_, _, _, no⟩ := res
    exact no.elim
  | cont =>
    obtain ⟨_, _, _, no⟩ := res
    exact no.elim
variable {X : Cx} {x : Str} {e : Expr} {es : List Expr} {t : TA} {p pos : Pos}
/-- such a def, called -/
theorem pe_callG (F : AtG X.prog X.w X.K X.mg X.base CX k f fd ps sp) (quiet : X.A.guards = some []) (hr : Room k X.A) (hg : Gl X x) (hm : X.mg x = some (.ref f)) (hk : PySem.W.keepIn X.K (.ref f) = true) (hb : Binds X.K fd ps []) {E : XK} (hx : Passes CX X E)
    (ha : PA X (e :: es) t) (hdb : (x == ("__debug__" : Str)) = false := by decide) (he : starEach (e :: es) X.env = (false, eval e X.env) :: starEach es X.env := by rfl) (hpl : (backTo pos (starEach es X.env)).any (·.1) = false := by rfl) :
    PE X (.Call (.Name x p) (e :: es) [] pos) (fun σ H Q => t σ H fun vs H1 => sp vs H1 Q E) := by
  refine ⟨fun pins s σ H Q I h => ?_⟩
  refine wpAny_Call_Name_kw (ld_glob I hg hm ?_ hdb)
  refine PySem.W.callWith_K (h₀ := X.base) I.ok.mod.kin hk (thn (ha.run pos pins s σ H _ I h) fun us s1 ⟨vs, H1, I1, r, q⟩ => ⟨I1.kIn, ?_⟩) he hpl
  have hl := F.len _ _ _ _ q
  refine wpAny_call (codeAny_mono (F.go X.A X.stack s1 H1 ⟨us, []⟩ us vs _ E quiet hr I1.env0 (by
    have := hb s1 us I1.kIn (by rw [List.append_nil, ← r.length]; exact hl)
    simpa using this) r q) fun res s' hq => ?_)
  cases res with
  | error e => exact hx pins σ H1 s1 e s' I1 hq
  | ok fl =>
    cases fl with
    | ret u => exact I1.after hq
    | next => exact False.elim hq
    | brk => exact False.elim hq
    | cont => exact False.elim hq
end
end XK
end
section
set_option Elab.async false
set_option linter.all false
set_option maxRecDepth 100000
set_option maxHeartbeats 4100000
namespace XK
open PySem PySem.Spec PyProof.Rows L2 LamX
/-! ### a law that makes lambdas and calls repr: its own def, attached where no repr is under way, with tables of code objects -/
theorem caller_runsT {P : Program} {w : World} {K : PySem.W.Frag} {mg mb : Str → Option Value} {k : Nat} {fa a : Addr} {cs : List (Addr × Addr)} {fd : FuncData} {x : Str} {sp : Sp} {s₁ : Shared} {vs : List Value} {ns : List Int}
    (inn : K.In s₁.heap) (glob : s₁.heap.Ns mainGlobals mg) (bns : s₁.heap.Ns builtinsNs mb) (boot : ∀ x : Str, x ≠ "__name__" → mb x = bootBuiltins x) (lim : s₁.heap.NoLimit) (gens : s₁.gens = #[])
    (tabs : ∀ p ∈ cs, s₁.heap.get? p.2 = some { cls := .none, data := .fields #[] }) (notK : ∀ p ∈ cs, K.lookup p.2 = none) (codes : ∀ p ∈ cs, PySem.W.CodeHd s₁.heap p.1 p.2)
    (bmod : ∃ (bm : Addr) (ob : Obj), mg "__builtins__" = some (.ref bm) ∧ bm ≠ builtinsNs ∧ s₁.heap.get? bm = some ob ∧ ob.cls = .type "module" ∧ ob.dict = some builtinsNs ∧ ob.data = .plain)
    (obj : s₁.heap.get? a = some { cls := .type "list", data := .seq vs.toArray }) (inz : IntsAre vs ns) (short : ns.length ≤ sizeLine) (room : Room k callerA)
    (F : ∀ base : Heap, K.In base → base.Ns mainGlobals mg → (∀ p ∈ cs, TabB base mg p.1 p.2) → AtCaller P w K mg base CX0 k fa fd [x] sp) (bind : ∀ (s : Shared) (u : Value), BindsTo s fd ⟨[u], []⟩ [(x, u)])
    (want : ∀ H : Hp, (∀ p ∈ cs, H p.2 = some (.tbl #[])) → SqL K H a (ns.map V.int) → sp [.ref a] H (fun v _ => v = .bl true) fun _ _ _ => False) :
    codeAny (model P w) callerA (.call (.ref fa) ⟨[.ref a], []⟩) (fun r s' => r = .ok (.ret (.bool true)) ∧ OldK s₁.heap s'.heap ∧ s'.os = s₁.os ∧ AllBare s'.gens) s₁ := by
  have vals := vals_ints inz
  have many := inz.length
  have tabAt : ∀ b ∈ cs.map (·.2), s₁.heap.get? b = some { cls := .none, data := .fields #[] } := fun b hb => by
    obtain ⟨p, hp, e⟩ := List.mem_map.mp hb
    rw [← e]
    exact tabs p hp
  have aOut : a ∉ cs.map (·.2) := fun z => by
    have q := (tabAt a z).symm.trans obj
    have q := congrArg Obj.data (Option.some.inj q)
    cases q
  have inT : ∀ p ∈ cs, p.2 ∈ cs.map (·.2) := fun p hp => List.mem_map.mpr ⟨p, hp, rfl⟩
  have main : ∀ H : Hp, (∀ p ∈ cs, H p.2 = some (.tbl #[])) → (∀ b, H b = none ∨ b ∈ cs.map (·.2) ∨ ∃ ob xs, H b = some (.frz ob (.lst xs))) → SqL K H a (ns.map V.int) → HOk P w H s₁.heap → (∀ b, H b ≠ none → b = a ∨ b ∈ cs.map (·.2)) → (H a ≠ none → K.lookup a = none) →
      codeAny (model P w) callerA (.call (.ref fa) ⟨[.ref a], []⟩) (fun r s' => r = .ok (.ret (.bool true)) ∧ OldK s₁.heap s'.heap ∧ s'.os = s₁.os ∧ AllBare s'.gens) s₁ := by
    intro H tH kinds seq ok alone noK
    have plain : ∀ {b : Addr} {o : Obj}, s₁.heap.get? b = some o → (∀ us n, o.data ≠ .seq us n) → o.data ≠ .fields #[] → H b = none := fun {b o} e n1 n2 => by
      cases q : H b with
      | none => rfl
      | some u =>
        cases alone b (by rw [q]; simp) with
        | inl z =>
          rw [z, obj] at e
          cases e
          exact (n1 _ _ rfl).elim
        | inr z =>
          rw [tabAt b z] at e
          cases e
          exact (n2 rfl).elim
    have dct : ∀ {b : Addr} {o : Obj} {es : Array DictEntry} {ep : Nat}, s₁.heap.get? b = some o → o.data = .dict es ep → H b = none := fun {b o es ep} e d => plain e (fun us n z => by rw [d] at z; cases z) fun z => by rw [d] at z; cases z
    have space : ∀ {b : Addr} {m : Str → Option Value}, s₁.heap.Ns b m → (hidT s₁.heap H).Ns b m := fun {b m} ⟨o, es, ep, e, d, r⟩ => ⟨o, es, ep, hidT_get e (dct e d), d, r⟩
    have kept : K.In (hidT s₁.heap H) := fun b o e => hidT_get (inn b o e) (by
      cases q : H b with
      | none => rfl
      | some u =>
        cases alone b (by rw [q]; simp) with
        | inl z =>
          rw [z] at e q
          rw [noK (by rw [q]; simp)] at e
          cases e
        | inr z =>
          obtain ⟨p, hp, ep⟩ := List.mem_map.mp z
          rw [← ep, notK p hp] at e
          cases e)
    have md : Mod K mg (hidT s₁.heap H) := ⟨kept, space glob, ⟨mb, space bns, boot⟩, by
      obtain ⟨mc, h1, h2⟩ := lim
      exact ⟨mc, space h1, h2⟩⟩
    have env : Env0 P w K mg (hidT s₁.heap H) callerA [] s₁ H := ⟨rfl, md, fun b o e => of_hidT e, Nat.le_of_eq (hidT_size _ _), trivial, fun b hb => (by cases hb), ok, AllBare.of_eq gens⟩
    have tb : ∀ p ∈ cs, TabB (hidT s₁.heap H) mg p.1 p.2 := fun p hp => by
      have here := tabs p hp
      refine ⟨?_, ?_, fun z => ?_⟩
      · obtain ⟨o, us, file, tf, flags, tg, inF, text, tt, e1, r1, r2, r3, r4, r5, r6, r7, r8, last⟩ := codes p hp
        refine ⟨o, us, file, tf, flags, tg, inF, text, tt, hidT_get e1 (plain e1 (fun us n z => ?_) fun z => ?_), r1, r2, r3, r4, r5, r6, r7, r8, last⟩
        · rw [r2] at z
          cases z
        · rw [r2] at z
          cases z
          simp at r3
      · obtain ⟨bm, ob, b1, b2, b3, b4, b5, b6⟩ := bmod
        refine ⟨bm, ob, b1, b2, fun q => ?_, fun q => ?_, hidT_get b3 (plain b3 (fun us n z => by rw [b6] at z; cases z) fun z => by rw [b6] at z; cases z), b4, b5, b6⟩
        · obtain ⟨o, es, ep, e, d, _⟩ := glob
          rw [q, e] at b3
          cases b3
          rw [d] at b6
          cases b6
        · rw [q, here] at b3
          cases b3
          cases b6
      · obtain ⟨o, es, ep, e, d, _⟩ := glob
        rw [z, here] at e
        cases e
        cases d
    have res := (F _ kept (space glob) tb).go [] s₁ H ⟨[.ref a], []⟩ [.ref a] [.ref a] _ _ room env (bind s₁ (.ref a)) (.cons rfl .nil) (want H tH seq)
    refine codeAny_mono res fun r s' h => ?_
    cases r with
    | error e => exact False.elim h
    | ok fl =>
      cases fl with
      | next => exact False.elim h
      | brk => exact False.elim h
      | cont => exact False.elim h
      | ret u =>
        obtain ⟨v, H', os, bare, un, ok', rel, q⟩ := h
        obtain rfl : v = .bl true := q
        obtain rfl : u = Value.bool true := rel
        have stays : ∀ b o, b ∉ cs.map (·.2) → s₁.heap.get? b = some o → s'.heap.get? b = some o := fun b o nb e => by
          rcases kinds b with z | z | ⟨ob, xs, z⟩
          · exact un.keep b o e z (fun z => by cases z) (fun z => by cases z)
          · exact absurd z nb
          · obtain ⟨e1, _⟩ := ok b _ z
            obtain ⟨e2, _⟩ := ok' b _ (un.frzs b ob _ z)
            rw [e] at e1
            cases e1
            exact e2
        have grown : ∀ p ∈ cs, ∃ more : Array Value, s'.heap.get? p.2 = some { cls := .none, data := .fields more } := fun p hp => by
          obtain ⟨more, z⟩ := un.tbls p.2 #[] (tH p hp)
          exact ⟨_, ok' p.2 _ z⟩
        refine ⟨rfl, ⟨fun b o e => ?_, fun b o e => ?_⟩, os, bare⟩
        · by_cases hb : b ∈ cs.map (·.2)
          · obtain ⟨p, hp, ep⟩ := List.mem_map.mp hb
            obtain ⟨more, hm⟩ := grown p hp
            subst ep
            rw [tabs p hp] at e
            cases e
            exact .inr (.inl ⟨((codes p hp).tab (tabs p hp)).isCodeTable, rfl, #[], more, rfl, by rw [Array.empty_append]; exact hm⟩)
          · exact .inl (stays b o hb e)
        · by_cases hb : b ∈ cs.map (·.2)
          · obtain ⟨p, hp, ep⟩ := List.mem_map.mp hb
            obtain ⟨more, hm⟩ := grown p hp
            subst ep
            exact ⟨_, hm⟩
          · exact ⟨o, stays b o hb e⟩
  cases hk : K.lookup a with
  | some o =>
    have e := inn a o hk
    rw [obj] at e
    cases e
    refine main (fun b => if b ∈ cs.map (·.2) then some (.tbl #[]) else none) (fun p hp => if_pos (inT p hp)) (fun b => ?_) (.inr ⟨_, vs.toArray, _, hk, rfl, rfl, rfl, by rw [List.size_toArray, many]; exact short, by simpa using vals⟩) (fun b u z => ?_) (fun b z => ?_) fun z => absurd (if_neg aOut) z
    · by_cases hb : b ∈ cs.map (·.2)
      · exact .inr (.inl hb)
      · exact .inl (if_neg hb)
    · by_cases hb : b ∈ cs.map (·.2)
      · cases (if_pos hb).symm.trans z
        exact tabAt b hb
      · cases (if_neg hb).symm.trans z
    · by_cases hb : b ∈ cs.map (·.2)
      · exact .inr hb
      · exact absurd (if_neg hb) z
  | none =>
    refine main (fun b => if b = a then some (.frz { cls := .type "list", data := .seq vs.toArray } (.lst (ns.map V.int))) else if b ∈ cs.map (·.2) then some (.tbl #[]) else none) (fun p hp => (if_neg (fun z : p.2 = a => aOut (by rw [← z]; exact inT p hp))).trans (if_pos (inT p hp))) (fun b => ?_)
      (.inl (.inr ⟨_, if_pos rfl⟩)) (fun b u z => ?_) (fun b z => ?_) fun _ => hk
    · by_cases hb : b = a
      · exact .inr (.inr ⟨_, _, if_pos hb⟩)
      · by_cases h2 : b ∈ cs.map (·.2)
        · exact .inr (.inl h2)
        · exact .inl ((if_neg hb).trans (if_neg h2))
    · by_cases hb : b = a
      · cases (if_pos hb).symm.trans z
        rw [hb]
        exact ⟨obj, by rw [List.length_map]; exact short, vs, _, vals, obj⟩
      · have z1 := (if_neg hb).symm.trans z
        by_cases h2 : b ∈ cs.map (·.2)
        · cases (if_pos h2).symm.trans z1
          exact tabAt b h2
        · cases (if_neg h2).symm.trans z1
    · by_cases hb : b = a
      · exact .inl hb
      · by_cases h2 : b ∈ cs.map (·.2)
        · exact .inr h2
        · exact absurd ((if_neg hb).trans (if_neg h2)) z
/-- what is known of such a law at the head's heap h -/
def CallerAtT (l : PySem.W.OpenLaw) (w : World) (K : PySem.W.Frag) (k n : Nat) (x : Str) (mg : Str → Option Value) (fa : Addr) (h : Heap) : Prop :=
  ∃ (fd : FuncData) (cs : List (Addr × Addr)) (sp : Sp), (∀ p ∈ cs, h.get? p.2 = some { cls := .none, data := .fields #[] }) ∧ (∀ p ∈ cs, K.lookup p.2 = none) ∧ (∀ p ∈ cs, PySem.W.CodeHd h p.1 p.2) ∧ (∀ (s : Shared) (u : Value), BindsTo s fd ⟨[u], []⟩ [(x, u)]) ∧
    (∀ (H : Hp) (a : Addr) (ns : List Int), ns.length ≤ n → (∀ p ∈ cs, H p.2 = some (.tbl #[])) → SqL K H a (ns.map V.int) → sp [.ref a] H (fun v _ => v = .bl true) fun _ _ _ => False) ∧
    ∀ base : Heap, K.In base → base.Ns mainGlobals mg → (∀ p ∈ cs, TabB base mg p.1 p.2) → AtCaller l.prog w K mg base CX0 k fa fd [x] sp
theorem caller_walkT {l : PySem.W.OpenLaw} {n k : Nat} {q : Program} {loose : List Str} {XP : (Str → Option Value) → Heap → Prop} {YP : World → Heap → Prop} {d : DefRec} {K : Params → PySem.W.Frag} {x : Str}
    (most : l.most = some n) (small : n ≤ sizeLine) (plain : d.params.defaults = []) (room : Room k callerA) (Y : ∀ (w : World) (h : Heap), YP w h → (K w.params).In h)
    (F : ∀ (w : World) (mg : Str → Option Value) (fa : Addr) (h : Heap), YP w h → (K w.params).In h → h.Ns mainGlobals mg → mg d.name = some (.ref fa) → CallerAtT l w (K w.params) k n x mg fa h) :
    PySem.W.WalkO q loose XP YP l.row.toRowW d [] (fun f vs => PySem.call f vs) := by
  refine Att.attach_callB most plain fun w s₀ s₁ mg mb fa o pm cd doc a vs ns G y ho hd hcd hmg obj inz many _ gens => ?_
  have inn := Y w _ y
  obtain ⟨fd, cs, sp, tabs, notK, codes, bind, want, run⟩ := F w mg fa _ y inn G.T.g hmg
  exact caller_runsT inn G.T.g G.T.b G.T.builtins G.T.nolimit gens tabs notK codes G.T.bmain obj inz (Nat.le_trans many small) room run bind fun H hH seq => want H a ns many hH seq
/-- a law's own def whose code object is told -/
theorem atCallerC {P : Program} {w : World} {K : PySem.W.Frag} {mg : Str → Option Value} {base : Heap} {CX : CXT} {k : Nat} {f c : Addr} {fd : FuncData} {N ps : List Str} {sp : Sp} {x qual : Str} {st : Stmt}
    (F : ∃ (oc : Value) (od : Option Addr) (kV doc pm : Value) (an : Option Addr) (ct : Value) (osl : Array (Option Value)), fd = PySem.W.fnOf x qual (defArgs st) (defBody st) (defScope st) .none kV doc pm an (.ref c) ct ∧ K.lookup f = some ⟨oc, od, .func fd, osl⟩ ∧ PySem.W.codeIn K (.ref c) qual = true)
    (S : FnScope N ps (defScope st)) (len : ∀ vs H Q E, sp vs H Q E → vs.length = ps.length)
    (body : ∀ (outer : List Env) (s : Shared) (H : Hp) (vs : List V) (Q : VK) (E : XK), Room k (callerA.deeper (envOfC qual (defScope st) s.heap.objs.size f (.ref c))) → sp vs H Q E →
      ∃ t, PSs (cxOf CX P w K mg base N qual (defScope st) f (.ref c) callerA outer s H E).nox (defBody st) t ∧ t { nx := fun _ H' => Q .non H', rt := Q } (start N vs) H) : AtCaller P w K mg base CX (k + 1) f fd ps sp := by
  obtain ⟨oc, od, kV, doc, pm, an, ct, osl, rfl, lk, hcd⟩ := F
  constructor
  intro outer s H args us vs Q E room env bind rel want
  have count := len _ _ _ _ want
  have inn : K.In s.heap := env.mod.kin.keeps fun b o e => (env.bs b o e).1
  have lim : s.heap.NoLimit := env.mod.nolimit.keeps fun b o e => (env.bs b o e).1
  have kinds : ∀ y ∈ ps.zip us, (defScope st).names.lookup y.1 = some .local ∨ ((defScope st).names.lookup y.1 = some .cell ∧ ((cellsFrom (s.heap.objs.size + 1) (defScope st).names []).lookup y.1).isSome = true) := by
    intro y hy
    rcases S.par y.1 (List.of_mem_zip hy).1 with q | q
    · exact .inl q
    · exact .inr ⟨q, PySem.W.cellsFrom_some _ _ _ (.inl q)⟩
  refine codeAny_call_function room.depth (inn _ _ lk) rfl S.co S.gen rfl (PySem.W.codeRec_of inn hcd) (bind _ _ _ _ ?_)
  refine wpAny_newFunctionEnv_cells S.kind kinds fun en hen s1 entered => ?_
  subst hen
  refine ⟨lim.keeps entered.toInCall.keep, codeAny_func ?_⟩
  obtain ⟨t, der, rd⟩ := body outer s H vs Q E (room.deeper _) want
  have I0 : Inv (cxOf CX P w K mg base N qual (defScope st) f (.ref c) callerA outer s H E) [] (start N vs) H s1 := inv_start S room.hd env count rel entered
  refine wpAny_mono (der.nox.run [] s1 (start N vs) H _ I0 rd) (fun flow s' res => ?_) fun _ _ res => res
  cases flow with
  | ret u =>
    obtain ⟨v, σ', H', J, rv, q⟩ := res
    exact ⟨v, H', J.os, J.bare, J.base, J.hok, rv, q⟩
  | next =>
    obtain ⟨σ', H', J, q⟩ := res
    exact ⟨V.non, H', J.os, J.bare, J.base, J.hok, rfl, q⟩
  | brk =>
    obtain ⟨_, _, _, no⟩ := res
    exact no.elim
  | cont =>
    obtain ⟨_, _, _, no⟩ := res
    exact no.elim
end XK
end
section
set_option Elab.async false
set_option linter.all false
set_option maxRecDepth 100000
set_option maxHeartbeats 4100000
namespace XJ
open PySem PySem.W PyProof.Rows L2 XK
/-- the mro of a class that stands right upon ValueError -/
def mroOver (K : Frag) (C : Addr) : Bool := match clsIn K C with
  | some cd => cd.mro == [.ref C, .type "ValueError", .type "Exception", .type "BaseException", .type "object"] && cd.hasDict
  | none => false
theorem over_cls {K : Frag} {C : Addr} (h : mroOver K C = true) : ∃ cd, clsIn K C = some cd ∧ cd.mro = [.ref C, .type "ValueError", .type "Exception", .type "BaseException", .type "object"] ∧ cd.hasDict = true := by
  unfold mroOver at h
  split at h
  · rename_i cd e
    rw [Bool.and_eq_true] at h
    exact ⟨cd, e, eq_of_beq h.1, h.2⟩
  · cases h
/-- what the written part says of an own ValueError class -/
structure ErrF (K : Frag) (x : Str) (C : Addr) : Prop where
  ns : nsIn K mainGlobals x = some (some (.ref C))
  bare : mroOver K C = true
  ini : excInitIn K C [.type "ValueError", .type "Exception", .type "BaseException", .type "object"] "ValueError.__new__" = true
  sa : findIn K (.ref C) "__setattr__" = some (some (.builtin "object.__setattr__"))
  ga : findIn K (.ref C) "__getattribute__" = some (some (.builtin "BaseException.__getattribute__"))
  gg : findIn K (.ref C) "__getattr__" = some none
  exC : subIn K (.ref C) (.type "BaseException") = some true
  kC : keepIn K (.ref C) = true
  hd : hasDictIn K C = true
  ac : findIn K (.ref C) "__class__" = some (some (.builtin "object.__class__"))
  gn : specialIn K (.builtin "object.__class__") "__get__" = some (some (.builtin "getset_descriptor.__get__"))
  tk : takesIn K (.builtin "object.__class__") = some true
  mo : mroIn K C (.type "object") = some true
  ty : typeIn K (.ref C) = some (.type "type")
  xc : ∃ nm q N bs bm sn sub ab col dd k0 k1 k2 k3 k5, K.lookup C = some (excClassObj nm q C N bs bm true sn sub ab col dd k0 k1 k2 k3 k5 "ValueError.__new__") ∧ PySem.HandSPX.refsVE bm = true
theorem xc_mk {K : Frag} {C : Addr} {nm q N bs bm sn sub ab col dd k0 k1 k2 k3 k5} (a : K.lookup C = some (excClassObj nm q C N bs bm true sn sub ab col dd k0 k1 k2 k3 k5 "ValueError.__new__")) (b : PySem.HandSPX.refsVE bm = true) :
    ∃ nm q N bs bm sn sub ab col dd k0 k1 k2 k3 k5, K.lookup C = some (excClassObj nm q C N bs bm true sn sub ab col dd k0 k1 k2 k3 k5 "ValueError.__new__") ∧ PySem.HandSPX.refsVE bm = true := ⟨_, _, _, _, _, _, _, _, _, _, _, _, _, _, _, a, b⟩
theorem ErrF.xt {K : Frag} {x : Str} {C : Addr} (F : ErrF K x C) : XT K C := by
  have S := PySem.F.store_ValueError
  obtain ⟨cd, hc, hm, hd⟩ := over_cls F.bare
  refine ⟨⟨"ValueError", _, _, _, PySem.F.excBase_ValueError, F.ini⟩, ⟨cd, hc, ?_, ?_, fun self => ?_, hd⟩, F.sa, F.ga, F.gg, F.exC, F.kC, F.hd, F.ac, F.gn, F.tk, F.mo⟩
  · rw [hm]
    rfl
  · rw [hm, List.contains_cons, S.hasOwner, Bool.or_true]
  · rw [hm, refuseLoop_ref]
    exact S.passes self
theorem ErrF.oex {K : Frag} {x : Str} {C : Addr} (F : ErrF K x C) : OexC K C := ⟨F.xc, F.sa, F.exC, F.ty, F.kC⟩
/-! ### two defs whose code objects have tables of their own -/
/-- the tables of the code objects at c and at d are unlike, and neither is written down -/
def tabsApart (K : Frag) (c d : Addr) : Bool := match K.lookup c, K.lookup d with
  | some ⟨_, _, .fields vs, _⟩, some ⟨_, _, .fields us, _⟩ => match (vs[11]? : Option Value), (us[11]? : Option Value) with
    | some (Value.ref p), some (Value.ref r) => p != r && (K.lookup p).isNone && (K.lookup r).isNone
    | _, _ => false
  | _, _ => false
theorem apart {K : Frag} {c d : Addr} (h : tabsApart K c d = true) : ∃ e1 d1 vs s1 e2 d2 us s2 p r, K.lookup c = some ⟨e1, d1, .fields vs, s1⟩ ∧ K.lookup d = some ⟨e2, d2, .fields us, s2⟩ ∧ vs[11]? = some (.ref p) ∧ us[11]? = some (.ref r) ∧ p ≠ r ∧ K.lookup p = none ∧ K.lookup r = none := by
  unfold tabsApart at h
  split at h
  · rename_i e1 d1 vs s1 e2 d2 us s2 h1 h2
    split at h
    · rename_i p r h3 h4
      rw [Bool.and_eq_true, Bool.and_eq_true] at h
      obtain ⟨⟨a, b⟩, e⟩ := h
      exact ⟨_, _, _, _, _, _, _, _, _, _, h1, h2, h3, h4, by simpa using a, by simpa using b, by simpa using e⟩
    · cases h
  · cases h
/-- as the head tells it of each def -/
def TabAt (h : Heap) (mg : Str → Option Value) (x : Str) : Prop := ∃ a o fd c P, mg x = some (.ref a) ∧ h.get? a = some o ∧ o.data = .func fd ∧ fd.code = .ref c ∧ h.IsCode c P #[] ∧ h.TableAt c P #[]
theorem tab_one {K : Frag} {h : Heap} {mg : Str → Option Value} {x : Str} {f c p : Addr} {oc : Value} {od : Option Addr} {fd : FuncData} {osl : Array (Option Value)} {e1 : Value} {d1 : Option Addr} {vs : Array Value} {s1 : Array (Option Value)} (X : K.In h) (T : TabAt h mg x) (m : mg x = some (.ref f)) (l : K.lookup f = some ⟨oc, od, .func fd, osl⟩) (hc : fd.code = .ref c)
    (k : K.lookup c = some ⟨e1, d1, .fields vs, s1⟩) (v : vs[11]? = some (.ref p)) : h.get? p = some { cls := .none, data := .fields #[] } ∧ CodeHd h c p := by
  obtain ⟨a, o, fd', c', P, h1, h2, h3, h4, h5, h6⟩ := T
  rw [m] at h1
  cases h1
  have g1 := X _ _ l
  rw [g1] at h2
  cases h2
  cases h3
  rw [hc] at h4
  cases h4
  have hd := CodeHd.of h5 h6
  obtain ⟨⟨o2, v2, e1', _, e3, e4⟩, hP⟩ := h6
  have g2 := X _ _ k
  rw [g2] at e1'
  cases e1'
  cases e3
  rw [v] at e4
  cases e4
  exact ⟨hP, hd⟩
theorem caller_walkU {l : PySem.W.OpenLaw} {n k : Nat} {q : Program} {loose : List Str} {XP : (Str → Option Value) → Heap → Prop} {YP : World → Heap → Prop} {d : DefRec} {K : Params → PySem.W.Frag} {x : Str}
    (most : l.most = some n) (small : n ≤ sizeLine) (plain : d.params.defaults = []) (room : Room k callerA) (Y : ∀ (w : World) (h : Heap), YP w h → (K w.params).In h)
    (F : ∀ (w : World) (mg : Str → Option Value) (fa : Addr) (h : Heap), YP w h → (K w.params).In h → h.Ns mainGlobals mg → mg d.name = some (.ref fa) → (∀ y ∈ (recsOf q).map (·.name), TabAt h mg y) → CallerAtT l w (K w.params) k n x mg fa h) :
    PySem.W.WalkO q loose XP YP l.row.toRowW d [] (fun f vs => PySem.call f vs) := by
  refine Att.attach_callB most plain fun w s₀ s₁ mg mb fa o pm cd doc a vs ns G y ho hd hcd hmg obj inz many _ gens => ?_
  have inn := Y w _ y
  obtain ⟨fd, cs, sp, tabs, notK, codes, bind, want, run⟩ := F w mg fa _ y inn G.T.g hmg (fun z hz => by
    obtain ⟨e, he, rfl⟩ := List.mem_map.mp hz
    exact G.T.tab e he)
  exact caller_runsT inn G.T.g G.T.b G.T.builtins G.T.nolimit gens tabs notK codes G.T.bmain obj inz (Nat.le_trans many small) room run bind fun H hH seq => want H a ns many hH seq
end XJ
end
section
set_option Elab.async false
set_option linter.all false
set_option maxRecDepth 100000
set_option maxHeartbeats 4100000
namespace LA
open PySem L2
/-! ### the text by places -/
def top (i : Nat) : Stmt := PySem.Challenge.pw_linestream_k06_changes_made_and_refused.main.body.getD i (.Pass ⟨0, 0, 0, 0⟩)
abbrev sPen : Stmt := top 23
abbrev sDraw : Stmt := top 24
abbrev sPick : Stmt := top 25
/-! ### the pen: a dict of cells, turn, left -/
abbrev kC : Key := Sum.inr "cells"
abbrev kT : Key := Sum.inr "turn"
abbrev kL : Key := Sum.inr "left"
theorem nCT : ¬ (kC = kT) := by decide +kernel
theorem nCL : ¬ (kC = kL) := by decide +kernel
theorem nTC : ¬ (kT = kC) := by decide +kernel
theorem nTL : ¬ (kT = kL) := by decide +kernel
theorem nLC : ¬ (kL = kC) := by decide +kernel
theorem nLT : ¬ (kL = kT) := by decide +kernel
theorem put_same_len {kvs : List (Key × V)} {k : Key} {v u : V} (h : valV kvs k = some u) : (putK kvs k v).length = kvs.length := by
  unfold putK
  rw [valV_any, h]
  simp
/-- the pen stands at d, at most n turns were drawn, its cells at c are the ints ns -/
structure Pen (H : Hp) (d c : Addr) (n : Int) (ns : List Int) (kvs : List (Key × V)) (t l : Int) : Prop where
  dc : H d = some (.dK kvs)
  vc : valV kvs kC = some (.ref c)
  vt : valV kvs kT = some (.int t)
  vl : valV kvs kL = some (.int l)
  t0 : 0 ≤ t
  tn : t ≤ n
  sz : kvs.length ≤ 3
  cs : H c = some (.lst (ns.map V.int))
  cl : ns.length ≤ 63
theorem Pen.getC {H d c n ns kvs t l} (p : Pen H d c n ns kvs t l) : DGet H d (.str "cells") (some (.ref c)) := by
  have h := DGet.k (k := kC) p.dc
  rw [p.vc] at h
  exact h
theorem Pen.getT {H d c n ns kvs t l} (p : Pen H d c n ns kvs t l) : DGet H d (.str "turn") (some (.int t)) := by
  have h := DGet.k (k := kT) p.dc
  rw [p.vt] at h
  exact h
theorem Pen.getL {H d c n ns kvs t l} (p : Pen H d c n ns kvs t l) : DGet H d (.str "left") (some (.int l)) := by
  have h := DGet.k (k := kL) p.dc
  rw [p.vl] at h
  exact h
theorem Pen.small {H d c n ns kvs t l} (p : Pen H d c n ns kvs t l) : kvs.length < sizeLine := small1000 (by have := p.sz; omega)
def PenAt (H : Hp) (d c : Addr) (n : Int) (ns : List Int) : Prop := ∃ kvs t l, Pen H d c n ns kvs t l
theorem Pen.ne {H d c n ns kvs t l} (p : Pen H d c n ns kvs t l) : c ≠ d := ne_of p.cs p.dc (by intro z; cases z)
theorem PenAt.ne {H d c n ns} (p : PenAt H d c n ns) : c ≠ d := by
  obtain ⟨_, _, _, p⟩ := p
  exact p.ne
theorem Pen.keep {H H' d c n ns kvs t l} (p : Pen H d c n ns kvs t l) (h : Same H H') : Pen H' d c n ns kvs t l :=
  ⟨h _ _ p.dc, p.vc, p.vt, p.vl, p.t0, p.tn, p.sz, h _ _ p.cs, p.cl⟩
theorem PenAt.keep {H H' d c n ns} (p : PenAt H d c n ns) (h : Same H H') : PenAt H' d c n ns := by
  obtain ⟨_, _, _, p⟩ := p
  exact ⟨_, _, _, p.keep h⟩
theorem Pen.putT {H d c n ns kvs t l} (p : Pen H d c n ns kvs t l) : Pen (upd H d (.dK (putK kvs kT (.int (t + 1))))) d c (n + 1) ns (putK kvs kT (.int (t + 1))) (t + 1) l :=
  ⟨upd_same, by rw [valV_put, if_neg nCT]; exact p.vc, by rw [valV_put, if_pos rfl], by rw [valV_put, if_neg nLT]; exact p.vl, by have := p.t0; omega, by have := p.tn; omega, by rw [put_same_len p.vt]; exact p.sz, by rw [upd_ne p.ne]; exact p.cs, p.cl⟩
theorem Pen.putL {H d c n ns kvs t l} (p : Pen H d c n ns kvs t l) (l' : Int) : Pen (upd H d (.dK (putK kvs kL (.int l')))) d c n ns (putK kvs kL (.int l')) t l' :=
  ⟨upd_same, by rw [valV_put, if_neg nCL]; exact p.vc, by rw [valV_put, if_neg nTL]; exact p.vt, by rw [valV_put, if_pos rfl], p.t0, p.tn, by rw [put_same_len p.vl]; exact p.sz, by rw [upd_ne p.ne]; exact p.cs, p.cl⟩
theorem Pen.more {H d c n m ns kvs t l} (p : Pen H d c n ns kvs t l) (h : n ≤ m) : PenAt H d c m ns :=
  ⟨_, _, _, p.dc, p.vc, p.vt, p.vl, p.t0, Int.le_trans p.tn h, p.sz, p.cs, p.cl⟩
/-- all that was tracked is as it was, but at d -/
def But (d : Addr) (H H' : Hp) : Prop := ∀ b o, H b = some o → b ≠ d → H' b = some o
theorem But.refl {d : Addr} {H : Hp} : But d H H := fun _ _ h _ => h
theorem But.trans {d : Addr} {H H1 H2 : Hp} (a : But d H H1) (b : But d H1 H2) : But d H H2 := fun c o h n => b c o (a c o h n) n
theorem But.same {d : Addr} {H H' : Hp} (a : Same H H') : But d H H' := fun c o h _ => a c o h
theorem same_upd {H : Hp} {p : Addr} {o : HO} (hp : H p = none) : Same H (upd H p o) := fun b u e => by
  rw [upd_ne (ne_of_none e hp)]
  exact e
theorem but_upd {H : Hp} {d : Addr} {o : HO} : But d H (upd H d o) := fun b u e n => by
  rw [upd_ne n]
  exact e
theorem dp_ints {K : PySem.W.Frag} {H : Hp} : ∀ ns : List Int, DpAll K H (ns.map V.int) (ns.map PyData.int)
  | [] => .nil
  | n :: r => .cons (.int n) (dp_ints r)
theorem canLay_ints : ∀ ns : List Int, PyData.canLayAll0 (ns.map PyData.int) = true
  | [] => rfl
  | n :: r => by
    show (PyData.canLay0 (.int n) && PyData.canLayAll0 (r.map PyData.int)) = true
    rw [canLay_ints r]
    rfl
theorem depth_ints : ∀ ns : List Int, PyData.depthAll (ns.map PyData.int) = 0
  | [] => rfl
  | n :: r => by
    show max (PyData.depth (.int n)) (PyData.depthAll (r.map PyData.int)) = 0
    rw [depth_ints r]
    rfl
theorem shaped_ints (ns : List Int) : SeqAt.shaped (.list (ns.map PyData.int)) = true := by
  unfold SeqAt.shaped
  have h1 : PyData.canLay0 (.list (ns.map PyData.int)) = true := by
    unfold PyData.canLay0
    exact canLay_ints ns
  have h2 : PyData.depth (.list (ns.map PyData.int)) ≤ 64 := by
    unfold PyData.depth
    rw [depth_ints]
    decide
  rw [h1, decide_eq_true h2]
  rfl
/-! ### the promises -/
def spPen (K : PySem.W.Frag) : Sp := fun vs H Q _ => ∃ (a : Addr) (ns : List Int), vs = [.ref a] ∧ SqL K H a (ns.map V.int) ∧ ns.length ≤ 63 ∧
  ∀ (d c : Addr) (ms : List Int) (H' : Hp), PenAt H' d c 0 ms → Same H H' → H d = none → H c = none → Q (.ref d) H'
/-- draw: any number below the span -/
def spDraw : Sp := fun vs H Q _ => ∃ (d c : Addr) (n : Int) (ns : List Int) (span : Int), vs = [.ref d, .int span] ∧ PenAt H d c n ns ∧ n < 1000000 ∧ 1 ≤ span ∧ span < 1000000 ∧
  ∀ (r : Int) (H' : Hp), 0 ≤ r → r < span → PenAt H' d c (n + 1) ns → But d H H' → Q (.int r) H'
structure Txt (mg : Str → Option Value) : Prop where
  len : mg "len" = none
  int : mg "int" = none
  list : mg "list" = none
  abs : mg "abs" = none
def primesI : List Int := [2147483629, 2147483647, 2147483587, 2147483563, 2147483579]
theorem prime_at {k : Int} : ∃ p : Int, atI (primesI.map V.int) (k.fmod 5) = some (.int p) ∧ 2 ≤ p ∧ p < 2147483648 := by
  have h0 := Int.fmod_nonneg_of_pos k (b := 5) (by decide)
  have h1 := Int.fmod_lt_of_pos k (b := 5) (by decide)
  generalize k.fmod 5 = r at h0 h1
  have : r = 0 ∨ r = 1 ∨ r = 2 ∨ r = 3 ∨ r = 4 := by omega
  rcases this with rfl | rfl | rfl | rfl | rfl
  · exact ⟨2147483629, atI_nat (j := 0) rfl, by decide, by decide⟩
  · exact ⟨2147483647, atI_nat (j := 1) rfl, by decide, by decide⟩
  · exact ⟨2147483587, atI_nat (j := 2) rfl, by decide, by decide⟩
  · exact ⟨2147483563, atI_nat (j := 3) rfl, by decide, by decide⟩
  · exact ⟨2147483579, atI_nat (j := 4) rfl, by decide, by decide⟩
theorem fmod_in {a b : Int} (h : 0 < b) : 0 ≤ a.fmod b ∧ a.fmod b < b := ⟨Int.fmod_nonneg_of_pos a h, Int.fmod_lt_of_pos a h⟩
theorem at_fmod {α : Type} {xs : List α} {k : Int} (h : 0 < (xs.length : Int)) : ∃ (j : Nat) (v : α), k.fmod (xs.length : Int) = (j : Int) ∧ xs[j]? = some v := by
  obtain ⟨h0, h1⟩ := fmod_in (a := k) h
  refine ⟨(k.fmod xs.length).toNat, xs[(k.fmod xs.length).toNat]'(by omega), by omega, List.getElem?_eq_getElem _⟩
section
variable {P : Program} {w : World} {K : PySem.W.Frag} {mg : Str → Option Value} {base : Heap}
theorem scD : FnScope ["_law_pen_here", "_law_span", "_law_digit", "_law_turn", "_law_cell", "_law_primes", "_law_prime", "_law_drawn"] ["_law_pen_here", "_law_span"] (defScope sDraw) := ⟨rfl, rfl, rfl, by decide +kernel, rfl, by decide +kernel, by decide +kernel⟩
theorem ok_draw {f : Addr} {fd : FuncData} (F : Fun K "_law_draw" "_law_draw" sDraw f fd) (T : Txt mg) : FnOk P w K mg base CX0 1 f fd ["_law_pen_here", "_law_span"] spDraw := by
  refine F.ok scD (fun vs H Q E h => ?_) (fun cdv A outer s H vs Q E hr h => ?_)
  · obtain ⟨d, c, n, ns, span, rfl, _⟩ := h
    rfl
  · obtain ⟨d, c, n, ns, span, rfl, ⟨kvs, t, l, p⟩, hn, s1, s2, k⟩ := h
    have hu := hu_of hr
    have hu6 := hr.units
    have t0 := p.t0
    have tn := p.tn
    refine ⟨_, pss_cons (by exact (ps_if (pt_cmpR op_gt (pe_dget hu (pv 0) pe_str (fun _ _ => rfl)) pe_int (nomark _))
          (pss_cons (ps_set (i := 2) scD.nd rfl (.inl rfl) (pe_op op_modN (pe_callTy call_int1 (by rfl) T.int (by decide +kernel) (pa_cons (pe_dget hu (pv 0) pe_str (fun _ _ => rfl)) pa_nil)) (pv 1)))
          (pss_cons (ps_dput hu (pv 0) pe_str (pe_op op_fdivN (pe_dget hu (pv 0) pe_str (fun _ _ => rfl)) (pv 1)) rfl)
          (pss_one (ps_ret (pv 2))))) pss_nil)) (
      pss_cons (by exact (ps_set (i := 3) scD.nd rfl (.inl rfl) (pe_dget hu (pv 0) pe_str (fun _ _ => rfl)))) (
      pss_cons (by exact (ps_dput hu (pv 0) pe_str (pe_op op_add (pv 3) pe_int) rfl)) (
      pss_cons (by exact (ps_set (i := 4) scD.nd rfl (.inl rfl) (pe_op op_add (pe_op op_mul pe_int (pv 3)) pe_int))) (
      pss_cons (by exact (ps_if (pt_cmpR (op_neD hu6) (pe_dget hu (pv 0) pe_str (fun _ _ => rfl)) (pe_lst pa_nil) (nomark _))
          (pss_one (ps_set (i := 4) scD.nd rfl (.inl rfl) (pe_ix ix_list (pe_dget hu (pv 0) pe_str (fun _ _ => rfl))
            (pe_op op_modN (pe_callTy call_int1 (by rfl) T.int (by decide +kernel) (pa_cons (pv 3) pa_nil)) (pe_callB call_len_seq (by rfl) T.len PySem.boot_len (pa_cons (pe_dget hu (pv 0) pe_str (fun _ _ => rfl)) pa_nil))) (fun _ _ => rfl)))) pss_nil)) (
      pss_cons (by exact (ps_if (PW.pt (pw_and (pt_cmpR op_lt (pv 3) (pe_callB call_len_seq (by rfl) T.len PySem.boot_len (pa_cons (pe_dget hu (pv 0) pe_str (fun _ _ => rfl)) pa_nil)) (nomark _))
            (pw_and1 (pt_cmpR op_ge (pe_callB call_abs (by rfl) T.abs (by decide +kernel) (pa_cons (pv 4) pa_nil)) (pe_op op_pow pe_int pe_int) (nomark _)))))
          (pss_cons (ps_dput hu (pv 0) pe_str (pe_op op_fdivN (pe_op op_sub (pe_callB call_abs (by rfl) T.abs (by decide +kernel) (pa_cons (pv 4) pa_nil)) (pe_op op_pow pe_int pe_int)) (pv 1)) rfl)
          (pss_one (ps_ret (pe_op op_modN (pe_op op_sub (pe_callB call_abs (by rfl) T.abs (by decide +kernel) (pa_cons (pv 4) pa_nil)) (pe_op op_pow pe_int pe_int)) (pv 1))))) pss_nil)) (
      pss_cons (by exact (ps_set (i := 5) scD.nd rfl (.inl rfl) (pe_lst (pa_cons pe_int (pa_cons pe_int (pa_cons pe_int (pa_cons pe_int (pa_cons pe_int pa_nil)))))))) (
      pss_cons (by exact (ps_set (i := 6) scD.nd rfl (.inl rfl) (pe_ix ix_list (pv 5) (pe_op op_modN (pe_callTy call_int1 (by rfl) T.int (by decide +kernel) (pa_cons (pv 3) pa_nil)) pe_int) (fun _ _ => rfl)))) (
      pss_cons (by exact (ps_set (i := 7) scD.nd rfl (.inl rfl) (pe_op op_modN (pe_callTy call_int1 (by rfl) T.int (by decide +kernel) (pa_cons
          (pe_op op_add (pe_op op_add (pe_op op_mul (pe_op op_modN (pe_callTy call_int1 (by rfl) T.int (by decide +kernel) (pa_cons (pv 4) pa_nil)) (pv 6)) pe_int)
            (pe_op op_mul (pv 3) (pe_op op_add (pe_op op_mul pe_int (pv 3)) pe_int))) pe_int) pa_nil)) (pv 6)))) (
      pss_cons (by exact (ps_set (i := 7) scD.nd rfl (.inl rfl) (pe_op op_modN (pe_callTy call_int1 (by rfl) T.int (by decide +kernel) (pa_cons (pe_op op_mul (pv 7) (pe_op op_add (pv 7) pe_int)) pa_nil))
          (pe_ix ix_list (pv 5) (pe_op op_modN (pe_callTy call_int1 (by rfl) T.int (by decide +kernel) (pa_cons (pe_op op_add (pv 3) pe_int) pa_nil)) pe_int) (fun _ _ => rfl))))) (
      pss_one (by exact (ps_ret (pe_op op_modN (pe_callTy call_int1 (by rfl) T.int (by decide +kernel) (pa_cons (pe_op op_fdiv (pe_op op_mod (pe_callTy call_int1 (by rfl) T.int (by decide +kernel) (pa_cons
          (pe_op op_add (pe_op op_add (pe_op op_mul (pv 7) (pv 7)) (pe_op op_mul pe_int (pv 7))) (pv 3)) pa_nil)) pe_int) pe_int) pa_nil)) (pv 1)))))))))))))), ?_⟩
    have ns0 : span ≠ 0 := by omega
    have nsb : span.natAbs < 1073741824 := by omega
    -- left > 0
    refine ⟨_, rfl, d, _, rfl, p.getL, _, _, rfl, rfl, _, rfl, ?_⟩
    refine ite2 (fun _ => ?_) (fun _ => ?_)
    · refine ⟨_, rfl, d, _, rfl, p.getL, .inl ⟨_, rfl, _, rfl, _, _, rfl, rfl, ns0, ?_⟩⟩
      refine ⟨_, rfl, d, _, rfl, p.getL, _, rfl, _, _, rfl, rfl, ⟨ns0, nsb⟩, _, rfl, d, _, rfl, DPut.k (k := kL) p.dc p.small, ?_⟩
      refine ⟨_, rfl, ?_⟩
      obtain ⟨r0, r1⟩ := fmod_in (a := l) (b := span) (by omega)
      exact k _ _ r0 r1 ((p.putL _).more (by omega)) but_upd
    -- turn, turn + 1, cell
    · refine ⟨_, rfl, d, _, rfl, p.getT, ?_⟩
      refine ⟨_, rfl, _, _, rfl, rfl, _, rfl, d, _, rfl, DPut.k (k := kT) p.dc p.small, ?_⟩
      have p1 := p.putT
      have b1 : But d H (upd H d (.dK (putK kvs kT (.int (t + 1))))) := but_upd
      generalize upd H d (.dK (putK kvs kT (.int (t + 1)))) = H1 at p1 b1
      clear p
      generalize putK kvs kT (.int (t + 1)) = kvs1 at p1
      have t1 := p1.t0
      have t2 := p1.tn
      refine ⟨_, rfl, _, _, rfl, rfl, .inl ⟨by decide, by decide⟩, _, _, rfl, rfl, ?_⟩
      -- the cell
      refine ⟨_, rfl, d, _, rfl, p1.getC, (by show 0 ≤ sizeLine; decide), fun l0 hl0 => ?_⟩
      have p2 := p1.keep (same_upd (o := .lst []) hl0)
      have b2 : But d H (upd H1 l0 (.lst [])) := b1.trans (But.same (same_upd hl0))
      refine ⟨.list (ns.map PyData.int), .list [], .lst (SqL.of p2.cs) (dp_ints ns), .lst (SqL.of upd_same) .nil, shaped_ints ns, rfl, _, rfl, ?_⟩
      generalize upd H1 l0 (.lst []) = H2 at p2 b2
      refine ite2 (fun hne => ?ga) (fun _ => ?gb)
      case' ga =>
        have npos : 0 < ((ns.map V.int).length : Int) := by
          cases ns with
          | nil => exact absurd hne (by decide)
          | cons a r => rw [List.map_cons, List.length_cons]; omega
        obtain ⟨j, v, e1, e2⟩ := at_fmod (xs := ns.map V.int) (k := t) npos
        obtain ⟨z, rfl⟩ : ∃ z, v = V.int z := by
          rw [List.getElem?_map] at e2
          cases e : ns[j]? with
          | none => rw [e]
                at e2; cases e2
          | some z => rw [e] at e2; exact ⟨z, (Option.some.inj e2).symm⟩
        refine ⟨_, rfl, d, _, rfl, p2.getC, _, rfl, .inl ⟨_, rfl, _, rfl, d, _, rfl, p2.getC, c, _, rfl, .inl (SqL.of p2.cs), _, _, rfl, rfl, (by omega), c, _, _, _, rfl, rfl, SqL.of p2.cs, (by rw [e1]; exact atI_nat e2), ?_⟩⟩
      case' gb =>
        (try dsimp only)
        generalize 43 * t + 19 = z
      all_goals
        refine ⟨_, rfl, _, rfl, d, _, rfl, p2.getC, c, _, rfl, .inl (SqL.of p2.cs), _, _, rfl, rfl, _, rfl, ?_⟩
        refine ite2 (fun _ => ?_) (fun _ => ?_)
      case' ga.refine_1 =>
        refine ⟨_, rfl, _, rfl, _, _, rfl, rfl, ⟨by decide, by decide, by decide⟩, _, _, rfl, rfl, _, rfl, ?_⟩
        refine ite2 (fun _ => ?u1) (fun _ => ?u2)
      case' gb.refine_1 =>
        refine ⟨_, rfl, _, rfl, _, _, rfl, rfl, ⟨by decide, by decide, by decide⟩, _, _, rfl, rfl, _, rfl, ?_⟩
        refine ite2 (fun _ => ?v1) (fun _ => ?v2)
      case' u1 =>
        refine ⟨_, rfl, _, rfl, _, _, rfl, rfl, ⟨by decide, by decide, by decide⟩, _, _, rfl, rfl, _, rfl, _, _, rfl, rfl, ⟨ns0, nsb⟩, _, rfl, d, _, rfl, DPut.k (k := kL) p2.dc p2.small, ?_⟩
        refine ⟨_, rfl, _, rfl, _, _, rfl, rfl, ⟨by decide, by decide, by decide⟩, _, _, rfl, rfl, _, rfl, _, _, rfl, rfl, ns0, ?_⟩
        generalize (if z < 0 then -z else z) - (10 : Int) ^ (18 : Int).toNat = y
        obtain ⟨r0, r1⟩ := fmod_in (a := y) (b := span) (by omega)
        exact k _ _ r0 r1 ((p2.putL _).more (by omega)) (b2.trans but_upd)
      case' v1 =>
        refine ⟨_, rfl, _, rfl, _, _, rfl, rfl, ⟨by decide, by decide, by decide⟩, _, _, rfl, rfl, _, rfl, _, _, rfl, rfl, ⟨ns0, nsb⟩, _, rfl, d, _, rfl, DPut.k (k := kL) p2.dc p2.small, ?_⟩
        refine ⟨_, rfl, _, rfl, _, _, rfl, rfl, ⟨by decide, by decide, by decide⟩, _, _, rfl, rfl, _, rfl, _, _, rfl, rfl, ns0, ?_⟩
        obtain ⟨r0, r1⟩ := fmod_in (a := (if z < 0 then -z else z) - (10 : Int) ^ (18 : Int).toNat) (b := span) (by omega)
        exact k _ _ r0 r1 ((p2.putL _).more (by omega)) (b2.trans but_upd)
      all_goals
        obtain ⟨q, e1, q2, q3⟩ := prime_at (k := t)
        obtain ⟨q', e1', q2', q3'⟩ := prime_at (k := t + 2)
        refine ⟨(by show 5 ≤ sizeLine; decide), fun l1 hl1 => ?_⟩
        have p3 := p2.keep (same_upd (o := .lst (primesI.map V.int)) hl1)
        have b3 : But d H (upd H2 l1 (.lst (primesI.map V.int))) := b2.trans (But.same (same_upd hl1))
        have hp : (upd H2 l1 (.lst (primesI.map V.int))) l1 = some (.lst (primesI.map V.int)) := upd_same
        refine ⟨_, rfl, _, rfl, .inl ⟨_, rfl, _, _, rfl, rfl, (by show (5 : Int) ≠ 0; decide), l1, primesI.map V.int, _, _, rfl, rfl, SqL.of hp, e1, ?_⟩⟩
        obtain ⟨x0, x1⟩ := fmod_in (a := z) (b := q) (by omega)
        refine ⟨_, rfl, .inl ⟨_, rfl, _, rfl, _, _, rfl, rfl, (by omega), _, _, rfl, rfl, .inr ⟨by decide, by decide⟩, _, rfl, _, rfl, _, _, rfl, rfl, .inl ⟨by decide, by decide⟩, _, _, rfl, rfl, _, _, rfl, rfl, .inl ⟨by omega, by omega⟩,
          _, _, rfl, rfl, _, _, rfl, rfl, .inl ⟨_, rfl, _, rfl, _, _, rfl, rfl, (by omega), ?_⟩⟩⟩
        obtain ⟨y0, y1⟩ := fmod_in (a := z.fmod q * 39373 + t * (30011 * t + 8117) + 23) (b := q) (by omega)
        (try dsimp only)
        generalize (z.fmod q * 39373 + t * (30011 * t + 8117) + 23).fmod q = y' at y0 y1 ⊢
        refine ⟨_, rfl, _, rfl, _, _, rfl, rfl, _, _, rfl, rfl, .inl ⟨by omega, by omega⟩, .inl ⟨_, rfl, _, rfl, _, rfl, _, _, rfl, rfl, .inl ⟨_, rfl, _, _, rfl, rfl, (by show (5 : Int) ≠ 0; decide), l1, primesI.map V.int, _, _, rfl, rfl, SqL.of hp, e1', _, _, rfl, rfl, (by omega), ?_⟩⟩⟩
        obtain ⟨w0, w1⟩ := fmod_in (a := y' * (y' + 69621)) (b := q') (by omega)
        (try dsimp only)
        generalize (y' * (y' + 69621)).fmod q' = w at w0 w1 ⊢
        refine ⟨_, rfl, _, rfl, _, _, rfl, rfl, .inl ⟨by omega, by omega⟩, _, rfl, _, _, rfl, rfl, .inl ⟨by decide, by decide⟩, _, _, rfl, rfl, _, rfl, _, _, rfl, rfl, .inl ⟨_, rfl, _, _, rfl, rfl, (by show (0 : Int) < 2147483549; decide), _, _, rfl, rfl, ⟨by decide, by decide⟩, .inl ⟨_, rfl, _, rfl, _, _, rfl, rfl, ns0, ?_⟩⟩⟩
        (try dsimp only)
        generalize (w * w + 16807 * w + t) % 2147483549 / 64 = u
        obtain ⟨r0, r1⟩ := fmod_in (a := u) (b := span) (by omega)
        exact k _ _ r0 r1 (p3.more (by omega)) b3
end
theorem cutInts (ns : List Int) (lo hi : Option Int) : ∃ ms : List Int, cutV (ns.map V.int) lo hi = ms.map V.int ∧ ms.length ≤ ns.length := by
  unfold cutV
  rw [← List.map_drop, ← List.map_take]
  refine ⟨_, rfl, ?_⟩
  rw [List.length_take,
        List.length_drop]
  omega
section
variable {P : Program} {w : World} {K : PySem.W.Frag} {mg : Str → Option Value} {base : Heap}
theorem scN : FnScope ["_law_script"] ["_law_script"] (defScope sPen) := ⟨rfl, rfl, rfl, by decide +kernel, rfl, by decide +kernel, by decide +kernel⟩
theorem ok_pen {f : Addr} {fd : FuncData} (F : Fun K "_law_pen" "_law_pen" sPen f fd) (T : Txt mg) : FnOk P w K mg base CX0 1 f fd ["_law_script"] (spPen K) := by
  refine F.ok scN (fun vs H Q E h => ?_) (fun cdv A outer s H vs Q E hr h => ?_)
  · obtain ⟨a, ns, rfl, _⟩ := h
    rfl
  · obtain ⟨a, ns, rfl, hS, hl, k⟩ := h
    refine ⟨_, pss_one (by exact (ps_ret (pe_disp (pps_cons pe_str (pe_callTy call_list_of (by rfl) T.list (by decide +kernel) (pa_cons (pe_slice sl_list (pv 0) po_none (po_some pe_int)) pa_nil)) (pps_cons pe_str pe_int (pps_cons pe_str pe_int pps_nil))) (by rfl) (by rfl) (fun z => by cases z) (by decide)))), ?_⟩
    intro d nd
    have s1 : Same H (upd H d (.dK [])) := same_upd nd
    obtain ⟨ms, em, lm⟩ := cutInts ns none (some 63)
    refine ⟨_, rfl, _, rfl, a, _, rfl, s1.seq hS, fun p np => ?_⟩
    have s2 : Same (upd H d (.dK [])) (upd (upd H d (.dK [])) p (.lst (cutV (ns.map V.int) none (some 63)))) := same_upd np
    refine ⟨p, _, rfl, .inl (SqL.of upd_same), fun c nc => ?_⟩
    have s3 : Same (upd (upd H d (.dK [])) p (.lst (cutV (ns.map V.int) none (some 63)))) (upd (upd (upd H d (.dK [])) p (.lst (cutV (ns.map V.int) none (some 63)))) c (.lst (cutV (ns.map V.int) none (some 63)))) := same_upd nc
    have hd := (s2.trans s3) _ _ (upd_same (H := H) (a := d) (o := .dK []))
    refine ⟨hd, [(kC, .ref c), (kT, .int 0), (kL, .int 0)], rfl, by show 3 ≤ 15; decide, ?_⟩
    have ncd : c ≠ d := Ne.symm (ne_of_none (s2 _ _ upd_same) nc)
    refine k d c ms _ ⟨_, 0, 0, upd_same, ?_, ?_, ?_, Int.le_refl _, Int.le_refl _, ?_, ?_, by omega⟩ (fun b o e => ?_) nd ?_
    · show valV (putK (putK (putK [] kC (.ref c)) kT (.int 0)) kL (.int 0)) kC = _
      rw [valV_put, if_neg nCL, valV_put, if_neg nCT, valV_put, if_pos rfl]
    · show valV (putK (putK (putK [] kC (.ref c)) kT (.int 0)) kL (.int 0)) kT = _
      rw [valV_put, if_neg nTL, valV_put, if_pos rfl]
    · show valV (putK (putK (putK [] kC (.ref c)) kT (.int 0)) kL (.int 0)) kL = _
      rw [valV_put, if_pos rfl]
    · exact length_mergeK _ _
    · rw [upd_ne ncd, upd_same, em]
    · rw [upd_ne (ne_of_none e nd)]
      exact (s1.trans (s2.trans s3)) _ _ e
    · exact (s1.trans s2).free nc
end
end LA
end
section
set_option Elab.async false
set_option linter.all false
set_option maxRecDepth 100000
set_option maxHeartbeats 4100000
namespace LA
open PySem L2 XS
abbrev sSigns : Stmt := top 26
abbrev sFew : Stmt := top 28
abbrev sRow : Stmt := top 29
def Lt (c : Nat) : Prop := 32 ≤ c ∧ c ≤ 126 ∧ c ≠ 37
instance : DecidablePred Lt := fun c => inferInstanceAs (Decidable (_ ∧ _ ∧ _))
/-- two or three unlike letters -/
structure Sgn (z : Str) : Prop where
  lets : ∀ c ∈ cod z, Lt c
  nd : (cod z).Nodup
  two : 2 ≤ z.length
  three : z.length ≤ 3
  nq : ∀ c ∈ cod z, c ≠ 113
def sgsZ : Str := " !\"#$&'()*+,-./0123456789:;<=>?@ABCDEFGHIJKLMNOPQRSTUVWXYZ[\\]^_`abcdefghijklmnopqrstuvwxyz{|}~"
theorem few_lets : ∀ c ∈ cod (Txt.replace sgsZ "q" ""), Lt c := by decide +kernel
theorem few_nq : ∀ c ∈ cod (Txt.replace sgsZ "q" ""), c ≠ 113 := by decide +kernel
theorem few_len : (Txt.replace sgsZ "q" "").length = 93 := by decide +kernel
theorem sg_str (c : Nat) : (V.str (sg c)) = V.str ⟨#[c]⟩ := rfl
theorem len_sg (c : Nat) : (sg c).length = 1 := rfl
section
variable {P : Program} {w : World} {K : PySem.W.Frag} {mg : Str → Option Value} {base : Heap}
/-- pick: of a list, or of a text -/
def spPick : Sp := fun vs H Q _ => ∃ (d c : Addr) (n : Int) (ns : List Int) (o : V), vs = [.ref d, o] ∧ PenAt H d c n ns ∧ n < 1000000 ∧
  ((∃ (l : Addr) (xs : List V), o = .ref l ∧ H l = some (.lst xs) ∧ 0 < xs.length ∧ xs.length < 1000000 ∧ ∀ (v : V) (H' : Hp), v ∈ xs → PenAt H' d c (n + 1) ns → But d H H' → Q v H') ∨
   (∃ (z : Str), o = .str z ∧ 0 < z.length ∧ z.length < 1000000 ∧ ∀ (k : Nat) (H' : Hp), k ∈ cod z → PenAt H' d c (n + 1) ns → But d H H' → Q (.str (sg k)) H'))
theorem scP : FnScope ["_law_pen_here", "_law_options"] ["_law_pen_here", "_law_options"] (defScope sPick) := ⟨rfl, rfl, rfl, by decide +kernel, rfl, by decide +kernel, by decide +kernel⟩
theorem ok_pick {f fD : Addr} {fd fdD : FuncData} (F : Fun K "_law_pick" "_law_pick" sPick f fd) (T : Txt mg) (GD : FnOk P w K mg base CX0 1 fD fdD ["_law_pen_here", "_law_span"] spDraw) (mD : mg "_law_draw" = some (.ref fD)) (kD : PySem.W.keepIn K (.ref fD) = true) (bD : Binds K fdD ["_law_pen_here", "_law_span"] []) :
    FnOk P w K mg base CX0 2 f fd ["_law_pen_here", "_law_options"] spPick := by
  refine F.ok scP (fun vs H Q E h => ?_) (fun cdv A outer s H vs Q E hr h => ?_)
  · obtain ⟨d, c, n, ns, o, rfl, _⟩ := h
    rfl
  · obtain ⟨d, c, n, ns, o, rfl, pen, hn, k⟩ := h
    refine ⟨_, pss_one (by exact (ps_ret (pe_ix ix_seq (pv 1) (pe_call GD hr rfl mD kD bD .nil pass0 (pa_cons (pv 0) (pa_cons (pe_callB call_len (by rfl) T.len PySem.boot_len (pa_cons (pv 1) pa_nil)) pa_nil))) (fun _ _ => rfl)))), ?_⟩
    rcases k with ⟨l, xs, rfl, hl, h0, h1, k⟩ | ⟨z, rfl, h0, h1, k⟩
    · have nld : l ≠ d := by
        obtain ⟨_, _, _, p⟩ := pen
        exact ne_of hl p.dc (by intro z; cases z)
      refine ⟨_, rfl, _, rfl, _, rfl, _, xs.length, rfl, .inl ⟨_, SqL.of hl, rfl⟩, ?_⟩
      refine ⟨d, c, n, ns, (xs.length : Int), rfl, pen, hn, by omega, by omega, fun r H' r0 r1 pen' but => ?_⟩
      obtain ⟨j, rfl⟩ := Int.eq_ofNat_of_zero_le r0
      have hj : j < xs.length := by omega
      refine .inl ⟨l, xs, _, xs[j], rfl, rfl, SqL.of (but _ _ hl nld), atI_nat (List.getElem?_eq_getElem hj), ?_⟩
      exact k _ _ (List.getElem_mem hj) pen' but
    · refine ⟨_, rfl, _, rfl, _, rfl, _, z.length, rfl, ⟨Nat.le_trans (Nat.le_of_lt h1) (by decide), rfl⟩, ?_⟩
      refine ⟨d, c, n, ns, (z.length : Int), rfl, pen, hn, by omega, by omega, fun r H' r0 r1 pen' but => ?_⟩
      obtain ⟨j, rfl⟩ := Int.eq_ofNat_of_zero_le r0
      have hj : j < (cod z).length := by rw [len_cod]; omega
      refine .inr (.inr ⟨z, _, (cod z)[j], rfl, rfl, Nat.le_trans (Nat.le_of_lt h1) (by decide), atI_nat (List.getElem?_eq_getElem hj), ?_⟩)
      exact k _ _ (List.getElem_mem hj) pen' but
structure PickAt (P : Program) (w : World) (K : PySem.W.Frag) (mg : Str → Option Value) (base : Heap) (f : Addr) (fd : FuncData) : Prop where
  ok : FnOk P w K mg base CX0 2 f fd ["_law_pen_here", "_law_options"] spPick
  m : mg "_law_pick" = some (.ref f)
  k : PySem.W.keepIn K (.ref f) = true
  b : Binds K fd ["_law_pen_here", "_law_options"] []
/-- few: two or three unlike letters -/
def spFew : Sp := fun vs H Q _ => ∃ (d c : Addr) (n : Int) (ns : List Int), vs = [.ref d] ∧ PenAt H d c n ns ∧ n + 4 < 1000000 ∧
  ∀ (z : Str) (H' : Hp), Sgn z → PenAt H' d c (n + 4) ns → But d H H' → Q (.str z) H'
theorem scF : FnScope ["_law_pen_here", "_law_some", "_law_rare", "_law_k"] ["_law_pen_here"] (defScope sFew) := ⟨rfl, rfl, rfl, by decide +kernel, rfl, by decide +kernel, by decide +kernel⟩
theorem scG : FnScope [] [] (defScope sSigns) := ⟨rfl, rfl, rfl, by decide +kernel, rfl, by decide +kernel, by decide +kernel⟩
def cs (l : List Nat) : List V := l.map fun c => V.str (sg c)
theorem cs_flat (l : List Nat) : (cs l).all flatV = true := by
  simp [cs, flatV]
theorem cs_in (c : Nat) (l : List Nat) : inV (.str (sg c)) (cs l) = decide (c ∈ l) := by
  induction l with
  | nil => rfl
  | cons a r ih =>
    have h : inV (.str (sg c)) (cs (a :: r)) = (eqV (.str (sg a)) (.str (sg c)) || inV (.str (sg c)) (cs r)) := rfl
    rw [h, ih]
    show ((sg a == sg c) || _) = _
    by_cases e : a = c
    · subst e
      simp
    · have : (sg a == sg c) = false := by
        rw [beq_eq_false_iff_ne]
        exact fun z => e (sg_inj z)
      rw [this, Bool.false_or]
      have e' : ¬ c = a := fun z => e z.symm
      simp [e']
theorem cs_cut (l : List Nat) (i : Nat) : cutV (cs l) none (some (i : Int)) = cs (l.take i) := by
  unfold cutV cs
  rw [HT.sIx_nat, HT.sIx_none, List.drop_zero, List.length_map, Nat.sub_zero, ← List.map_take]
  congr 1
  rw [List.take_eq_take_iff]
  omega
theorem cs_strs (l : List Nat) : cs l = (l.map sg).map V.str := by
  unfold cs
  rw [List.map_map]
  rfl
theorem sum_sg (l : List Nat) : ((l.map sg).map (·.length)).sum = l.length := by
  induction l with
  | nil => rfl
  | cons a r ih =>
    rw [List.map_cons, List.map_cons, List.sum_cons, ih, len_sg, List.length_cons]
    omega
theorem sgn_some : ∀ z ∈ (["ab", "abc", "a ", "x~", "01", "\"\\"] : List Str), Sgn z := by
  intro z hz
  simp only [List.mem_cons, List.not_mem_nil, or_false] at hz
  rcases hz with rfl | rfl | rfl | rfl | rfl | rfl <;> exact ⟨by decide +kernel, by decide +kernel, by decide +kernel, by decide +kernel, by decide +kernel⟩
theorem yz_nq : ∀ c ∈ cod "yz", c ≠ 113 := by decide +kernel
theorem yz_lets : ∀ c ∈ cod "yz", Lt c ∧ c ≠ 40 := by decide +kernel
theorem par_is : ∀ c ∈ cod "(", c = 40 := by decide +kernel
theorem PenAt.put {H : Hp} {d c D : Addr} {n : Int} {ns : List Int} {o : HO} (p : PenAt H d c n ns) (h1 : D ≠ d) (h2 : D ≠ c) : PenAt (upd H D o) d c n ns := by
  obtain ⟨kvs, t, l, q⟩ := p
  exact ⟨kvs, t, l, by rw [upd_ne h1.symm]; exact q.dc, q.vc, q.vt, q.vl, q.t0, q.tn, q.sz, by rw [upd_ne h2.symm]; exact q.cs, q.cl⟩
theorem PenAt.fresh {H : Hp} {d c D : Addr} {n : Int} {ns : List Int} (p : PenAt H d c n ns) (h : H D = none) : D ≠ d ∧ D ≠ c := by
  obtain ⟨kvs, t, l, q⟩ := p
  exact ⟨(ne_of_none q.dc h).symm, (ne_of_none q.cs h).symm⟩
theorem PenAt.n0 {H : Hp} {d c : Addr} {n : Int} {ns : List Int} (p : PenAt H d c n ns) : 0 ≤ n := by
  obtain ⟨kvs, t, l, q⟩ := p
  exact Int.le_trans q.t0 q.tn
theorem But.none {d D : Addr} {H G : Hp} (b : But d H G) (n : D ≠ d) (h : G D = Option.none) : H D = Option.none := by
  cases e : H D with
  | none => rfl
  | some o => exact absurd ((b _ _ e n).symm.trans h) (by simp)
theorem But.put {d D : Addr} {H G : Hp} {o : HO} (b : But d H G) (h : H D = Option.none) : But d H (upd G D o) := fun c u e n => by
  rw [upd_ne (ne_of_none e h)]
  exact b c u e n
theorem ok_few {f fS fP : Addr} {fd fdS fdP : FuncData} (F : Fun K "_law_few" "_law_few" sFew f fd) (T : Txt mg) (mR : mg "range" = none) (M : PickAt P w K mg base fP fdP) (FS : Fun K "_law_signs" "_law_signs" sSigns fS fdS) (bS : ∀ s, BindsTo s fdS ⟨[], []⟩ []) (mS : mg "_law_signs" = some (.ref fS)) :
    FnOk P w K mg base CX0 3 f fd ["_law_pen_here"] spFew := by
  refine F.ok scF (fun vs H Q E h => ?_) (fun cdv A outer s H vs Q E hr h => ?_)
  · obtain ⟨d, c, n, ns, rfl, _⟩ := h
    rfl
  · obtain ⟨d, c, n, ns, rfl, pen, hn, k⟩ := h
    have hr2 : Room 2 _ := hr.mono (by decide)
    have hr1 : Room 1 _ := hr.mono (by decide)
    refine ⟨_, pss_cons (by exact (ps_set (i := 1) scF.nd rfl (Or.inr rfl) (pe_lst (pa_cons (pe_call M.ok hr2 rfl M.m M.k M.b .nil pass0 (pa_cons (pv 0) (pa_cons (XS.pe_litRepl FS scG rfl bS rfl hr1 mS (by decide +kernel) (by decide +kernel)) pa_nil))) (pa_cons (pe_call M.ok hr2 rfl M.m M.k M.b .nil pass0 (pa_cons (pv 0) (pa_cons pe_str pa_nil))) (pa_cons (pe_call M.ok hr2 rfl M.m M.k M.b .nil pass0 (pa_cons (pv 0) (pa_cons pe_str pa_nil))) pa_nil)))))) (
      pss_cons (by exact (ps_set (i := 2) scF.nd rfl (.inl rfl) (pe_join pe_str (pe_lc (own := [("_law_k", 3)]) (g := gName 3) (tt := tTest (tOp (rIn K true) (tOp (rIxL K) (tVar 1) (tVar 3)) (tSl (rSlL K) (tVar 1) tNoPart (tPart (tVar 3))))) (te := tOp (rIxL K) (tVar 1) (tVar 3)) rfl scF.nd (pi_range1 rfl mR (pa_cons pe_int pa_nil))
        (blkOk_by (N := ["_law_pen_here", "_law_some", "_law_rare", "_law_k"]) (sc := defScope sFew) (by decide +kernel))
        (fun _ _ _ _ _ => by exact (pg_name (i := 3) scF.nd rfl (Or.inl rfl)))
        (fun _ _ _ _ _ => by exact (pts_one (pt_cmpR op_notIn_seq (pe_ix ix_list (pv 1) (pv 3) (fun _ _ => rfl)) (pe_slice sl_list (pv 1) po_none (po_some (pv 3))) (by rfl))))
        (fun _ _ _ _ _ => by exact (pe_ix ix_list (pv 1) (pv 3) (fun _ _ => rfl))))))) (
      pss_one (by exact (ps_ret (pe_call M.ok hr2 rfl M.m M.k M.b .nil pass0 (pa_cons (pv 0) (pa_cons (pe_lst (pa_cons pe_str (pa_cons pe_str (pa_cons pe_str (pa_cons pe_str (pa_cons pe_str (pa_cons pe_str (pa_cons pe_str (pa_cons pe_str (pa_cons (pv 2) pa_nil)))))))))) pa_nil))))))), ?_⟩
    refine ⟨_, rfl, d, c, n, ns, _, rfl, pen, by omega, .inr ⟨_, rfl, (by show 0 < (Txt.replace sgsZ "q" "").length; rw [few_len]; decide), (by show (Txt.replace sgsZ "q" "").length < 1000000; rw [few_len]; decide), fun a H1 ha pen1 b1 => ?_⟩⟩
    refine ⟨_, rfl, d, c, n + 1, ns, _, rfl, pen1, by omega, .inr ⟨_, rfl, (by decide +kernel), (by decide +kernel), fun b H2 hb pen2 b2 => ?_⟩⟩
    refine ⟨_, rfl, d, c, n + 1 + 1, ns, _, rfl, pen2, by omega, .inr ⟨_, rfl, (by decide +kernel), (by decide +kernel), fun e H3 he pen3 b3 => ?_⟩⟩
    obtain ⟨lb, nb⟩ := yz_lets b hb
    have la := few_lets a ha
    have qa := few_nq a ha
    have qb := yz_nq b hb
    have le := par_is e he
    subst le
    refine ⟨(by show 3 ≤ sizeLine; decide), fun L nL => ?_⟩
    have bb : But d H (upd H3 L (.lst (cs [a, b, 40]))) := ((b1.trans b2).trans b3).trans (But.same (same_upd nL))
    have pen4 := pen3.keep (same_upd (o := .lst (cs [a, b, 40])) nL)
    have hL : (upd H3 L (.lst (cs [a, b, 40]))) L = some (.lst (cs [a, b, 40])) := upd_same
    refine ⟨⟨_, rfl⟩, ?_⟩
    refine ⟨3, rfl, by decide, by decide, fun D nD => ?_⟩
    have nLD : L ≠ D := ne_of_none hL nD
    obtain ⟨nDd, nDc⟩ := pen4.fresh nD
    have nH : H D = none := bb.none nDd nD
    have hb0 : ∀ i, i < 3 → ∃ x, [a, b, 40][i]? = some x := fun i hi => ⟨[a, b, 40][i], List.getElem?_eq_getElem hi⟩
    refine lc_range (fun i G => ∃ ds : List Nat, G D = some (.lst (cs ds)) ∧ ds.Nodup ∧ (∀ x, x ∈ ds ↔ x ∈ [a, b, 40].take i) ∧ ds.length ≤ i ∧ G L = some (.lst (cs [a, b, 40])) ∧ PenAt G d c (n + 1 + 1 + 1) ns ∧ But d H G)
      ⟨[], upd_same, List.nodup_nil, fun x => by simp, Nat.le_refl _, (same_upd nD) _ _ hL, pen4.keep (same_upd nD), bb.trans (But.same (same_upd nD))⟩ (fun i G hi p => ?_) (fun G p => ?_)
    · obtain ⟨ds, pD, nd, mem, len, pL, pP, pB⟩ := p
      obtain ⟨x, hx⟩ := hb0 i hi
      have hx' : (cs [a, b, 40])[i]? = some (V.str (sg x)) := by
        unfold cs
        rw [List.getElem?_map, hx]
        rfl
      refine ⟨rfl, ?_⟩
      refine ⟨_, rfl, _, rfl, L, _, _, _, rfl, rfl, SqL.of pL, (by rw [Int.zero_add]; exact atI_nat hx'), ?_⟩
      refine ⟨_, rfl, _, rfl, _, rfl, L, _, rfl, SqL.of pL, fun S nS => ?_⟩
      rw [Int.zero_add, cs_cut]
      refine ⟨S, cs ([a, b, 40].take i), rfl, .inl (SqL.of upd_same), rfl, cs_flat _, _, rfl, ?_⟩
      rw [if_pos rfl, cs_in]
      have sm := fun o => same_upd (o := o) nS
      have tk : [a, b, 40].take (i + 1) = [a, b, 40].take i ++ [x] := by rw [List.take_succ, hx]; rfl
      by_cases mx : x ∈ [a, b, 40].take i
      · rw [decide_eq_true mx]
        refine iteF ⟨ds, sm _ _ _ pD, nd, fun y => ?_, by omega, sm _ _ _ pL, pP.keep (sm _), pB.trans (But.same (sm _))⟩
        rw [mem, tk, List.mem_append, List.mem_singleton]
        exact ⟨.inl, fun h => h.elim id fun e => e ▸ mx⟩
      · rw [decide_eq_false mx]
        refine iteT ?_
        refine ⟨_, rfl, _, rfl, L, _, _, _, rfl, rfl, SqL.of (sm _ _ _ pL), (atI_nat hx'), ?_⟩
        refine ⟨_, sm _ _ _ pD, Nat.lt_of_le_of_lt (by unfold cs; rw [List.length_map]; omega : _ ≤ 3) (by decide), ds ++ [x], ?_, ?_, ?_, ?_, ?_, ?_, ?_⟩
        · unfold cs
          rw [List.map_append]
          exact upd_same
        · rw [List.nodup_append]
          refine ⟨nd, List.nodup_cons.mpr ⟨by simp, List.nodup_nil⟩, fun y hy z hz => ?_⟩
          rw [List.mem_singleton] at hz
          subst hz
          exact fun e => mx (e ▸ (mem y).mp hy)
        · intro y
          rw [List.mem_append, mem, tk, List.mem_append]
        · rw [List.length_append]
          exact Nat.add_le_add len (Nat.le_refl 1)
        · rw [upd_ne nLD]
          exact sm _ _ _ pL
        · exact (pP.keep (sm _)).put nDd nDc
        · exact (pB.trans (But.same (sm _))).put nH
    · obtain ⟨ds, pD, nd, mem, len, pL, pP, pB⟩ := p
      replace mem : ∀ x, x ∈ ds ↔ x ∈ [a, b, 40] := mem
      replace len : ds.length ≤ 3 := len
      have hl : 2 ≤ ds.length := by
        rcases ds with _ | ⟨x, _ | ⟨y, r⟩⟩
        · exact absurd ((mem 40).mpr (by simp)) (by simp)
        · have h1 := (mem 40).mpr (by simp)
          have h2 := (mem b).mpr (by simp)
          rw [List.mem_singleton] at h1 h2
          exact absurd (h2.trans h1.symm) nb
        · simp
      refine ⟨_, D, ds.map sg, rfl, rfl, .inl (by rw [← cs_strs]; exact SqL.of pD), (by rw [sum_sg, List.length_map]; show ds.length + ds.length * 0 ≤ 16777216; omega), ?_⟩
      have ej : cod (Txt.join "" (ds.map sg)) = ds := join_sg ds
      have sj : Sgn (Txt.join "" (ds.map sg)) := by
        refine ⟨?_, ?_, ?_, ?_, ?_⟩
        · rw [ej]
          intro x hx
          have h := (mem x).mp hx
          simp only [List.mem_cons, List.not_mem_nil, or_false] at h
          rcases h with rfl | rfl | rfl
          · exact la
          · exact lb
          · decide
        · rw [ej]
          exact nd
        · rw [← len_cod, ej]
          exact hl
        · rw [← len_cod, ej]
          exact len
        · rw [ej]
          intro x hx
          have h := (mem x).mp hx
          simp only [List.mem_cons, List.not_mem_nil, or_false] at h
          rcases h with rfl | rfl | rfl
          · exact qa
          · exact qb
          · decide
      generalize Txt.join "" (ds.map sg) = rare at sj
      refine ⟨_, rfl, _, rfl, (by show 9 ≤ sizeLine; decide), fun N nN => ?_⟩
      have sN := same_upd (o := .lst [.str "ab", .str "ab", .str "abc", .str "abc", .str "a ", .str "x~", .str "01", .str "\"\\", .str rare]) nN
      refine ⟨d, c, n + 1 + 1 + 1, ns, _, rfl, pP.keep sN, by omega, .inl ⟨N, _, rfl, upd_same, (by show 0 < 9; decide), (by show 9 < 1000000; decide), fun v H' hv pen5 b5 => ?_⟩⟩
      have hs : ∃ z, v = .str z ∧ Sgn z := by
        simp only [List.mem_cons, List.not_mem_nil, or_false] at hv
        rcases hv with rfl | rfl | rfl | rfl | rfl | rfl | rfl | rfl | rfl
        all_goals first | exact ⟨_, rfl, sj⟩ | exact ⟨_, rfl, sgn_some _ (by simp)⟩
      obtain ⟨z, rfl, sz⟩ := hs
      exact k z H' sz (by have e : n + 1 + 1 + 1 + 1 = n + 4 := by omega
                          rw [← e]; exact pen5) ((pB.trans (But.same sN)).trans b5)
/-- row: a line of the letters -/
def spRow : Sp := fun vs H Q _ => ∃ (d c : Addr) (n : Int) (ns : List Int) (z : Str) (a b : Int), vs = [.ref d, .str z, .int a, .int b] ∧ PenAt H d c n ns ∧ n + 1 + b < 1000000 ∧ 0 < z.length ∧ z.length < 1000000 ∧ 0 ≤ a ∧ a ≤ b ∧
  ∀ (y : Str) (H' : Hp), (∀ c ∈ cod y, c ∈ cod z) → a ≤ y.length → (y.length : Int) ≤ b → PenAt H' d c (n + 1 + b) ns → But d H H' → Q (.str y) H'
theorem scR : FnScope ["_law_pen_here", "_law_signs_here", "_law_least", "_law_most_letters", "_law_span", "_law_k"] ["_law_pen_here", "_law_signs_here", "_law_least", "_law_most_letters"] (defScope sRow) := ⟨rfl, rfl, rfl, by decide +kernel, rfl, by decide +kernel, by decide +kernel⟩
theorem ok_row {f fD fP : Addr} {fd fdD fdP : FuncData} (F : Fun K "_law_row" "_law_row" sRow f fd) (T : Txt mg) (mR : mg "range" = none) (M : PickAt P w K mg base fP fdP) (GD : FnOk P w K mg base CX0 1 fD fdD ["_law_pen_here", "_law_span"] spDraw) (mD : mg "_law_draw" = some (.ref fD)) (kD : PySem.W.keepIn K (.ref fD) = true) (bD : Binds K fdD ["_law_pen_here", "_law_span"] []) :
    FnOk P w K mg base CX0 3 f fd ["_law_pen_here", "_law_signs_here", "_law_least", "_law_most_letters"] spRow := by
  refine F.ok scR (fun vs H Q E h => ?_) (fun cdv A outer s H vs Q E hr h => ?_)
  · obtain ⟨d, c, n, ns, z, a, b, rfl, _⟩ := h
    rfl
  · obtain ⟨d, c, n, ns, z, a, b, rfl, pen, hn, z0, z1, ha, hb, k⟩ := h
    have hr2 : Room 2 _ := hr.mono (by decide)
    have hr1 : Room 1 _ := hr.mono (by decide)
    refine ⟨_, pss_cons (by exact (ps_set (i := 4) scR.nd rfl (.inl rfl) (pe_op op_add (pv 2) (pe_call GD hr1 rfl mD kD bD .nil pass0 (pa_cons (pv 0) (pa_cons (pe_op op_add (pe_op op_sub (pv 3) (pv 2)) pe_int) pa_nil)))))) (
      pss_one (by exact (ps_ret (pe_join pe_str (pe_lc (own := [("_law_k", 5)]) (g := gName 5) (tt := tYes) (te := tCall spPick [] (fun _ _ _ => False) (tCons (tVar 0) (tCons (tVar 1) tNil))) rfl scR.nd (pi_range1 rfl mR (pa_cons (pv 4) pa_nil))
        (blkOk_by (N := ["_law_pen_here", "_law_signs_here", "_law_least", "_law_most_letters", "_law_span", "_law_k"]) (sc := defScope sRow) (by decide +kernel))
        (fun _ _ _ _ _ => by exact (pg_name (i := 5) scR.nd rfl (Or.inl rfl)))
        (fun _ _ _ _ _ => by exact pts_nil)
        (fun _ _ _ _ _ => by exact (pe_call M.ok hr2 rfl M.m M.k M.b .nil pass0 (pa_cons (pv 0) (pa_cons (pv 1) pa_nil))))))))), ?_⟩
    refine ⟨_, rfl, _, rfl, _, rfl, _, rfl, _, _, rfl, rfl, _, _, rfl, rfl, ?_⟩
    have n0 := pen.n0
    refine ⟨d, c, n, ns, _, rfl, pen, by omega, by omega, by omega, fun r H1 r0 r1 pen1 b1 => ?_⟩
    refine ⟨_, _, rfl, rfl, ⟨_, rfl⟩, ?_⟩
    refine ⟨_, rfl, a + r, rfl, by omega, by omega, fun D nD => ?_⟩
    obtain ⟨nDd, nDc⟩ := pen1.fresh nD
    have nH : H D = none := b1.none nDd nD
    refine lc_range (fun i G => ∃ ds : List Nat, G D = some (.lst (cs ds)) ∧ (∀ x ∈ ds, x ∈ cod z) ∧ ds.length = i ∧ PenAt G d c (n + 1 + i) ns ∧ But d H G)
      ⟨[], upd_same, (fun x hx => absurd hx (by simp)), rfl, (show PenAt _ d c (n + 1 + (0 : Int)) ns from (Int.add_zero (n + 1)).symm ▸ pen1.put nDd nDc), b1.put nH⟩ (fun i G hi p => ?_) (fun G p => ?_)
    · obtain ⟨ds, pD, mem, len, pP, pB⟩ := p
      refine ⟨rfl, ?_⟩
      dsimp only [tYes]
      rw [if_pos rfl]
      refine ⟨_, rfl, _, rfl, d, c, n + 1 + i, ns, _, rfl, pP, by omega, .inr ⟨z, rfl, z0, z1, fun x G1 hx pP1 b2 => ?_⟩⟩
      refine ⟨_, b2 _ _ pD nDd, Nat.lt_of_le_of_lt (by unfold cs; rw [List.length_map]; omega : _ ≤ 1000000) (by decide), ds ++ [x], ?_, ?_, ?_, ?_, ?_⟩
      · unfold cs
        rw [List.map_append]
        exact upd_same
      · intro y hy
        rcases List.mem_append.mp hy with h | h
        · exact mem y h
        · rw [List.mem_singleton] at h
          exact h ▸ hx
      · rw [List.length_append, len]
        rfl
      · have e : n + 1 + ((i + 1 : Nat) : Int) = n + 1 + i + 1 := by omega
        rw [e]
        exact pP1.put nDd nDc
      · exact (pB.trans b2).put nH
    · obtain ⟨ds, pD, mem, len, pP, pB⟩ := p
      replace len : ds.length = (a + r).toNat := len
      refine ⟨_, D, ds.map sg, rfl, rfl, .inl (by rw [← cs_strs]; exact SqL.of pD), (by rw [sum_sg, List.length_map]; show ds.length + ds.length * 0 ≤ 16777216; omega), ?_⟩
      have ej : cod (Txt.join "" (ds.map sg)) = ds := join_sg ds
      have el : (Txt.join "" (ds.map sg)).length = (a + r).toNat := by rw [← len_cod, ej, len]
      refine k _ _ (by rw [ej]; exact mem) (by rw [el]; omega) (by rw [el]; omega) ?_ pB
      obtain ⟨kvs, t', l', q⟩ := pP
      exact q.more (by show n + 1 + (((a + r).toNat : Nat) : Int) ≤ _; omega)
end
end LA
end
section
set_option Elab.async false
set_option linter.all false
set_option maxRecDepth 100000
set_option maxHeartbeats 4100000
namespace LA
open PySem L2 XS XT
abbrev sLetter : Stmt := top 8
abbrev sLine : Stmt := top 9
abbrev sWord : Stmt := top 10
abbrev sShort : Stmt := top 11
abbrev sDiff : Stmt := top 12
/-- a branch that is never gone -/
theorem pss_never {X : Cx} {ss : List Stmt} : PSs X ss (fun _ _ _ => False) := ⟨fun _ _ _ _ _ _ h => h.elim⟩
/-- what the program's modules give -/
structure PkT (mg : Str → Option Value) (t1 t2 t3 t4 : Tok) : Prop where
  len : mg "len" = none
  set : mg "set" = none
  all : mg "all" = none
  ord : mg "ord" = none
  isM : mg "isinstance" = none
  str : mg "str" = none
  first : mg "FIRST_LETTER" = some (.int 32 t1)
  last : mg "LAST_LETTER" = some (.int 126 t2)
  per : mg "PERCENT_SIGN" = some (.int 37 t3)
  word : mg "MAX_WORD" = some (.int 8 t4)
def lineB (z : Str) : Bool := (cod z).all fun c => decide (Lt c)
section
variable {P : Program} {w : World} {K : PySem.W.Frag} {mg : Str → Option Value} {base : Heap} {t1 t2 t3 t4 : Tok}
structure CallOf (P : Program) (w : World) (K : PySem.W.Frag) (mg : Str → Option Value) (base : Heap) (k : Nat) (x : Str) (ps : List Str) (sp : Sp) (f : Addr) (fd : FuncData) : Prop where
  ok : FnOk P w K mg base CX0 k f fd ps sp
  m : mg x = some (.ref f)
  k : PySem.W.keepIn K (.ref f) = true
  b : Binds K fd ps []
/-- is_letter of a text of one sign -/
def spLetter : Sp := fun vs H Q _ => ∃ c, vs = [.str (sg c)] ∧ Q (.bl (decide (Lt c))) H
theorem scLe : FnScope ["character", "code"] ["character"] (defScope sLetter) := ⟨rfl, rfl, rfl, by decide +kernel, rfl, by decide +kernel, by decide +kernel⟩
theorem ok_letter {f : Addr} {fd : FuncData} (F : Fun K "is_letter" "is_letter" sLetter f fd) (T : PkT mg t1 t2 t3 t4) : FnOk P w K mg base CX0 1 f fd ["character"] spLetter := by
  refine F.ok scLe (fun vs H Q E h => ?_) (fun cdv A outer s H vs Q E hr h => ?_)
  · obtain ⟨c, rfl, _⟩ := h
    rfl
  · obtain ⟨c, rfl, q⟩ := h
    refine ⟨_, pss_cons (by exact (ps_set (i := 1) scLe.nd rfl (.inl rfl) (pe_callB call_ord (by rfl) T.ord (by decide +kernel) (pa_cons (pv 0) pa_nil)))) (
      pss_one (by exact (ps_ret (pe_and (pe_chain op_le op_le (pe_glob (v := .int 32) rfl T.first ⟨_, rfl⟩) (pv 1) (pe_glob (v := .int 126) rfl T.last ⟨_, rfl⟩)) (pe_one (pe_cmpR op_ne (pv 1) (pe_glob (v := .int 37) rfl T.per ⟨_, rfl⟩) (nomark _))))))), ?_⟩
    refine ⟨_, rfl, _, rfl, rfl, ?_⟩
    have e0 : (((sg c).cps.getD 0 0 : Nat) : Int) = (c : Int) := rfl
    rw [e0]
    refine ⟨_, rfl, _, _, rfl, rfl, _, rfl, ?_⟩
    by_cases h1 : (32 : Int) ≤ (c : Int)
    · rw [decide_eq_true h1]
      refine iteT ?_
      refine ⟨_, _, rfl, rfl, _, rfl, ?_⟩
      by_cases h2 : (c : Int) ≤ 126
      · rw [decide_eq_true h2]
        refine iteT ?_
        refine ⟨_, rfl, rfl, ?_⟩
        have e : (!decide (V.int (c : Int) = V.int 37)) = decide (Lt c) := by
          by_cases h3 : c = 37
          · subst h3
            decide
          · rw [decide_eq_false (fun z => h3 (by injection z; omega))]
            exact (decide_eq_true ⟨by omega, by omega, h3⟩).symm
        rw [e]
        exact q
      · rw [decide_eq_false h2]
        refine iteF ?_
        have e : decide (Lt c) = false := decide_eq_false (fun z => h2 (by have := z.2.1; omega))
        rw [e] at q
        exact q
    · rw [decide_eq_false h1]
      refine iteF ?_
      refine ⟨_, rfl, ?_⟩
      refine iteF ?_
      have e : decide (Lt c) = false := decide_eq_false (fun z => h1 (by have := z.1; omega))
      rw [e] at q
      exact q
/-- is_line of any value -/
def spLine (K : PySem.W.Frag) : Sp := fun vs H Q _ => ∃ x, vs = [x] ∧ ((∃ z : Str, x = .str z ∧ z.length < 1000000 ∧ ∀ H', Same H H' → Q (.bl (lineB z)) H') ∨
  ((∀ z, x ≠ .str z) ∧ (∃ t, TyX K H x t ∧ PySem.W.kitOne K t (.type "str") = some false) ∧ Q (.bl false) H))
theorem scLi : FnScope ["value", "character"] ["value"] (defScope sLine) := ⟨rfl, rfl, rfl, by decide +kernel, rfl, by decide +kernel, by decide +kernel⟩
theorem ok_line {f f1 : Addr} {fd fd1 : FuncData} (F : Fun K "is_line" "is_line" sLine f fd) (T : PkT mg t1 t2 t3 t4) (M : CallOf P w K mg base 1 "is_letter" ["character"] spLetter f1 fd1) : FnOk P w K mg base CX0 2 f fd ["value"] (spLine K) := by
  refine F.ok scLi (fun vs H Q E h => ?_) (fun cdv A outer s H vs Q E hr h => ?_)
  · obtain ⟨x, rfl, _⟩ := h
    rfl
  · obtain ⟨x, rfl, q⟩ := h
    refine ⟨_, pss_one (by exact (ps_ret (pe_and (pe_callB call_isi (by rfl) T.isM (by decide +kernel) (pa_cons (pv 0) (pa_cons (pe_bltn (v := .ty "str") (by rfl) T.str (by decide +kernel) rfl) pa_nil)))
      (pe_one (pe_callB (cr_all rfl) (by rfl) T.all (by decide +kernel) (pa_cons (pe_lc (own := [("character", 1)]) (g := gName 1) (tt := tYes) (te := tCall spLetter [] (fun _ _ _ => False) (tCons (tVar 1) tNil)) rfl scLi.nd (pi_str (pv 0))
        (blkOk_by (N := ["value", "character"]) (sc := defScope sLine) (by decide +kernel))
        (fun _ _ _ _ _ => by exact (pg_name (i := 1) scLi.nd rfl (Or.inl rfl)))
        (fun _ _ _ _ _ => by exact pts_nil)
        (fun _ _ _ _ _ => by exact (pe_call M.ok hr rfl M.m M.k M.b .nil pass0 (pa_cons (pv 1) pa_nil)))) pa_nil)))))), ?_⟩
    refine ⟨_, rfl, ?_⟩
    rcases q with ⟨z, rfl, small, q⟩ | ⟨nz, ⟨t, ty, ki⟩, q⟩
    · refine ⟨_, _, _, _, true, rfl, .ty _, .base (.str _), kit_ty (by decide +kernel), _, rfl, ?_⟩
      refine iteT ?_
      refine ⟨_, rfl, z, rfl, fun D nD => ?_⟩
      refine lc_it walk_str (fun i G => G D = some (.lst (((cod z).take i).map fun c => V.bl (decide (Lt c)))) ∧ Same H G) ⟨upd_same, same_upd nD⟩ (fun _ _ _ _ => True.intro) (fun i x G G' hi p y => ?_) (fun G p => ?_)
      · obtain ⟨pD, pS⟩ := p
        obtain ⟨rfl, c, hc, rfl⟩ := y
        have hc2 : (cod z)[i]? = some c := by
          show z.cps.toList[i]? = some c
          rw [Array.getElem?_toList]
          exact hc
        refine ⟨rfl, ?_⟩
        dsimp only [tYes]
        rw [if_pos rfl]
        refine ⟨_, rfl, c, rfl, _, pD, ?_, ?_, ?_⟩
        · rw [List.length_map, List.length_take]
          exact Nat.lt_of_le_of_lt (Nat.min_le_right _ _) (by rw [len_cod]; exact Nat.lt_trans small (by decide))
        · rw [List.take_succ, hc2, List.map_append]
          exact upd_same
        · intro b o e
          rw [upd_ne]
          · exact pS b o e
          · exact ne_of_none e nD
      · obtain ⟨pD, pS⟩ := p
        refine ⟨_, ((cod z).map fun c => decide (Lt c)), rfl, ?_, ?_⟩
        · have e : ((cod z).take z.cps.size) = cod z := List.take_of_length_le (by rw [len_cod]; exact Nat.le_refl _)
          rw [e] at pD
          rw [List.map_map]
          exact SqL.of pD
        · have e : ((cod z).map fun c => decide (Lt c)).all id = lineB z := by
            unfold lineB
            rw [List.all_map]
            rfl
          rw [e]
          exact q G pS
    · refine ⟨_, _, _, _, false, rfl, .ty _, ty, ki, _, rfl, ?_⟩
      exact iteF q
/-- a question on any value that asks a text for b, and says no of all else -/
def spAsk (K : PySem.W.Frag) (b : Str → Bool) : Sp := fun vs H Q _ => ∃ x, vs = [x] ∧ ((∃ z : Str, x = .str z ∧ z.length < 1000000 ∧ ∀ H', Same H H' → Q (.bl (b z)) H') ∨
  ((∀ z, x ≠ .str z) ∧ (∃ t, TyX K H x t ∧ PySem.W.kitOne K t (.type "str") = some false) ∧ Q (.bl false) H))
theorem ask_line {K : PySem.W.Frag} : spAsk K lineB = spLine K := rfl
def wordB (z : Str) : Bool := lineB z && decide (0 < z.length)
def shortB (z : Str) : Bool := wordB z && decide (z.length ≤ 8)
theorem str_empty (z : Str) : (!decide (V.str z = V.str "")) = decide (0 < z.length) := by
  by_cases h : z.length = 0
  · have e : z = "" := cod_ext (by
      have : (cod z).length = 0 := by rw [len_cod]; exact h
      rw [List.length_eq_zero_iff.mp this]
      rfl)
    subst e
    decide
  · have e : ¬ V.str z = V.str "" := fun y => h (by injection y with y; subst y; rfl)
    rw [decide_eq_false e, decide_eq_true (Nat.pos_of_ne_zero h)]
    rfl
theorem scWo : FnScope ["value"] ["value"] (defScope sWord) := ⟨rfl, rfl, rfl, by decide +kernel, rfl, by decide +kernel, by decide +kernel⟩
theorem ok_word {f f1 : Addr} {fd fd1 : FuncData} (F : Fun K "is_word" "is_word" sWord f fd) (M : CallOf P w K mg base 2 "is_line" ["value"] (spLine K) f1 fd1) : FnOk P w K mg base CX0 3 f fd ["value"] (spAsk K wordB) := by
  refine F.ok scWo (fun vs H Q E h => ?_) (fun cdv A outer s H vs Q E hr h => ?_)
  · obtain ⟨x, rfl, _⟩ := h
    rfl
  · obtain ⟨x, rfl, q⟩ := h
    refine ⟨_, pss_one (by exact (ps_ret (pe_and (pe_call M.ok hr rfl M.m M.k M.b .nil pass0 (pa_cons (pv 0) pa_nil)) (pe_one (pe_cmpR op_ne (pv 0) pe_str (nomark _)))))), ?_⟩
    rcases q with ⟨z, rfl, small, q⟩ | ⟨nz, ty, q⟩
    · refine ⟨_, rfl, _, rfl, .inl ⟨z, rfl, small, fun H' sm => ⟨_, rfl, ?_⟩⟩⟩
      cases hl : lineB z with
      | true =>
        refine iteT ⟨_, rfl, rfl, ?_⟩
        rw [str_empty]
        have e : wordB z = decide (0 < z.length) := by unfold wordB; rw [hl, Bool.true_and]
        rw [← e]
        exact q H' sm
      | false =>
        refine iteF ?_
        have e : wordB z = false := by unfold wordB; rw [hl, Bool.false_and]
        rw [← e]
        exact q H' sm
    · exact ⟨_, rfl, _, rfl, .inr ⟨nz, ty, _, rfl, iteF q⟩⟩
theorem scSh : FnScope ["value"] ["value"] (defScope sShort) := ⟨rfl, rfl, rfl, by decide +kernel, rfl, by decide +kernel, by decide +kernel⟩
theorem ok_short {f f1 : Addr} {fd fd1 : FuncData} (F : Fun K "is_short_word" "is_short_word" sShort f fd) (T : PkT mg t1 t2 t3 t4) (M : CallOf P w K mg base 3 "is_word" ["value"] (spAsk K wordB) f1 fd1) : FnOk P w K mg base CX0 4 f fd ["value"] (spAsk K shortB) := by
  refine F.ok scSh (fun vs H Q E h => ?_) (fun cdv A outer s H vs Q E hr h => ?_)
  · obtain ⟨x, rfl, _⟩ := h
    rfl
  · obtain ⟨x, rfl, q⟩ := h
    refine ⟨_, pss_one (by exact (ps_ret (pe_and (pe_call M.ok hr rfl M.m M.k M.b .nil pass0 (pa_cons (pv 0) pa_nil)) (pe_one (pe_cmpR op_le (pe_callB call_len_str (by rfl) T.len PySem.boot_len (pa_cons (pv 0) pa_nil)) (pe_glob (v := .int 8) rfl T.word ⟨_, rfl⟩) (nomark _)))))), ?_⟩
    rcases q with ⟨z, rfl, small, q⟩ | ⟨nz, ty, q⟩
    · refine ⟨_, rfl, _, rfl, .inl ⟨z, rfl, small, fun H' sm => ⟨_, rfl, ?_⟩⟩⟩
      cases hl : wordB z with
      | true =>
        refine iteT ⟨_, rfl, z, rfl, Nat.le_of_lt (Nat.lt_trans small (by decide)), _, _, rfl, rfl, ?_⟩
        have e : shortB z = decide ((z.length : Int) ≤ 8) := by
          unfold shortB
          rw [hl, Bool.true_and]
          by_cases h : z.length ≤ 8
          · rw [decide_eq_true h, decide_eq_true (by omega)]
          · rw [decide_eq_false h, decide_eq_false (by omega)]
        show Q (.bl (decide ((z.length : Int) ≤ 8))) H'
        rw [← e]
        exact q H' sm
      | false =>
        refine iteF ?_
        have e : shortB z = false := by unfold shortB; rw [hl, Bool.false_and]
        rw [← e]
        exact q H' sm
    · exact ⟨_, rfl, _, rfl, .inr ⟨nz, ty, _, rfl, iteF q⟩⟩
/-- are_different of a text -/
def spDiffT : Sp := fun vs H Q _ => ∃ z : Str, vs = [.str z] ∧ z.length < 4000 ∧ Q (.bl (decide (cod z).Nodup)) H
theorem scDi : FnScope ["line"] ["line"] (defScope sDiff) := ⟨rfl, rfl, rfl, by decide +kernel, rfl, by decide +kernel, by decide +kernel⟩
theorem ok_diff {f : Addr} {fd : FuncData} (F : Fun K "are_different" "are_different" sDiff f fd) (T : PkT mg t1 t2 t3 t4) : FnOk P w K mg base CX0 1 f fd ["line"] spDiffT := by
  refine F.ok scDi (fun vs H Q E h => ?_) (fun cdv A outer s H vs Q E hr h => ?_)
  · obtain ⟨z, rfl, _⟩ := h
    rfl
  · obtain ⟨z, rfl, small, q⟩ := h
    refine ⟨_, pss_one (by exact (ps_ret (pe_cmpR op_eq (pe_lenSetX rfl (by rfl) T.len (by rfl) T.set (pv 0)) (pe_callB call_len_str (by rfl) T.len PySem.boot_len (pa_cons (pv 0) pa_nil)) (nomark _)))), ?_⟩
    refine ⟨_, rfl, z, rfl, small, fun m iff => ⟨_, rfl, z, rfl, Nat.le_of_lt (Nat.lt_trans small (by decide)), rfl, ?_⟩⟩
    have e : decide (V.int (m : Int) = V.int (z.length : Int)) = decide (cod z).Nodup := by
      by_cases h : (cod z).Nodup
      · rw [decide_eq_true h, iff.mpr h]
        exact decide_eq_true rfl
      · rw [decide_eq_false h]
        exact decide_eq_false fun y => h (iff.mp (by injection y; omega))
    rw [e]
    exact q
end
end LA
end
section
set_option Elab.async false
set_option linter.all false
set_option maxRecDepth 100000
set_option maxHeartbeats 4100000
namespace LA
open PySem L2 XS XT XK
/-- the def at place j of the class at place i -/
def cb (i j : Nat) : Stmt := match top i with
  | .ClassDef (body := b) .. => b.getD j (.Pass ⟨0, 0, 0, 0⟩)
  | _ => .Pass ⟨0, 0, 0, 0⟩
/-- any value that the law draws -/
inductive AnyV (H : Hp) : V → Prop
  | non : AnyV H .non
  | bl (b : Bool) : AnyV H (.bl b)
  | int (i : Int) : AnyV H (.int i)
  | str (z : Str) : z.length < 4000 → AnyV H (.str z)
  | lst {a : Addr} {xs : List V} : H a = some (.lst xs) → AnyV H (.ref a)
  | tup {a : Addr} {xs : List V} : H a = some (.tup xs) → AnyV H (.ref a)
  | dct {a : Addr} {kvs : List (Key × V)} : H a = some (.dK kvs) → AnyV H (.ref a)
theorem AnyV.keep {H H' : Hp} (k : ∀ b o, H b = some o → (∃ xs, o = .lst xs) ∨ (∃ xs, o = .tup xs) ∨ (∃ kvs, o = .dK kvs) → H' b = some o) {x : V} (h : AnyV H x) : AnyV H' x := by
  cases h with
  | non => exact .non
  | bl b => exact .bl b
  | int i => exact .int i
  | str z e => exact .str z e
  | lst e => exact .lst (k _ _ e (.inl ⟨_, rfl⟩))
  | tup e => exact .tup (k _ _ e (.inr (.inl ⟨_, rfl⟩)))
  | dct e => exact .dct (k _ _ e (.inr (.inr ⟨_, rfl⟩)))
theorem AnyV.same {H H' : Hp} (s : Same H H') {x : V} (h : AnyV H x) : AnyV H' x := h.keep fun _ _ e _ => s _ _ e
/-- the names of its types, but str -/
def tyN : List String := ["NoneType", "bool", "int", "list", "tuple", "dict"]
theorem AnyV.kinds {K : PySem.W.Frag} {H : Hp} {x : V} (h : AnyV H x) : (∃ z, x = .str z ∧ z.length < 4000) ∨ ((∀ z, x ≠ .str z) ∧ ∃ n ∈ tyN, TyX K H x (.type n) ∧ PySem.W.kitOne K (.type n) (.type "str") = some false) := by
  cases h with
  | non => exact .inr ⟨fun z e => (by cases e), _, by decide, .base .non, kit_ty (by decide +kernel)⟩
  | bl b => exact .inr ⟨fun z e => (by cases e), _, by decide, .base (.bl b), kit_ty (by decide +kernel)⟩
  | int i => exact .inr ⟨fun z e => (by cases e), _, by decide, .base (.int i), kit_ty (by decide +kernel)⟩
  | str z e => exact .inl ⟨z, rfl, e⟩
  | lst a => exact .inr ⟨fun z e => (by cases e), _, by decide, .base (.lst a), kit_ty (by decide +kernel)⟩
  | tup a => exact .inr ⟨fun z e => (by cases e), _, by decide, .base (.tup a), kit_ty (by decide +kernel)⟩
  | dct a => exact .inr ⟨fun z e => (by cases e), _, by decide, .base (.dK a), kit_ty (by decide +kernel)⟩
theorem AnyV.cls {K : PySem.W.Frag} {H : Hp} {x : V} (h : AnyV H x) : ∃ n, (n = "str" ∨ n ∈ tyN) ∧ TyX K H x (.type n) := by
  rcases h.kinds (K := K) with ⟨z, rfl, _⟩ | ⟨_, n, m, ty, _⟩
  · exact ⟨_, .inl rfl, .base (.str z)⟩
  · exact ⟨n, .inr m, ty⟩
/-- what a question of texts says of a value -/
def okv (b : Str → Bool) : V → Bool
  | .str z => b z
  | _ => false
theorem okv_str {b : Str → Bool} {z : Str} : okv b (.str z) = b z := rfl
theorem okv_no {b : Str → Bool} {x : V} (h : ∀ z, x ≠ .str z) : okv b x = false := by
  cases x with
  | str z => exact absurd rfl (h z)
  | _ => rfl
section
variable {P : Program} {w : World} {K : PySem.W.Frag} {mg : Str → Option Value} {base : Heap} {t1 t2 t3 t4 : Tok}
/-- a question on any value -/
def spAny1 (K : PySem.W.Frag) (b : Str → Bool) : Sp := fun vs H Q _ => ∃ x, vs = [x] ∧ AnyV H x ∧ ∀ H', Same H H' → Q (.bl (okv b x)) H'
theorem ask_any {k : Nat} {f : Addr} {fd : FuncData} {ps : List Str} {b : Str → Bool} (F : FnOk P w K mg base CX0 k f fd ps (spAsk K b)) : FnOk P w K mg base CX0 k f fd ps (spAny1 K b) :=
  F.imp fun vs H Q E ⟨x, e, a, q⟩ => ⟨x, e, by
    rcases a.kinds (K := K) with ⟨z, rfl, hz⟩ | ⟨no, n, _, ty⟩
    · exact .inl ⟨z, rfl, by omega, q⟩
    · have q0 := q H (fun _ _ e => e)
      rw [okv_no no] at q0
      exact .inr ⟨no, ⟨_, ty⟩, q0⟩⟩
/-- the package's error, at D, is raised with the name of an argument -/
def Refuses (D : Addr) (H : Hp) (E : XK) (arg : Str) : Prop := ∀ (d : Addr) (H' : Hp), H d = none → Same H H' → H' d = some (.xd [("argument", .str arg)]) → E (.ref D) (some d) H'
theorem Refuses.later {D : Addr} {H H1 : Hp} {E : XK} {arg : Str} (s : Same H H1) (r : Refuses D H E arg) : Refuses D H1 E arg := fun d H' n s2 e => r d H' (by
  cases q : H d with
  | none => rfl
  | some o => exact absurd ((s _ _ q).symm.trans n) (by simp)) (s.trans s2) e
/-- the making of the error -/
def spXI : Sp := fun vs H Q _ => ∃ (a C : Addr) (v : V), vs = [.ref a, v] ∧ OexC K C ∧ PySem.W.findIn K (.ref C) "argument" = some none ∧ H a = some (exo a C none) ∧ ∀ dx, H dx = none → dx ≠ a → Q .non (upd (upd H dx (exd dx [("argument", v)])) a (exo a C (some dx)))
abbrev sXI : Stmt := cb 2 0
theorem scXI : FnScope ["self", "argument"] ["self", "argument"] (defScope sXI) := ⟨rfl, rfl, rfl, by decide +kernel, rfl, by decide +kernel, by decide +kernel⟩
theorem ok_XI {f : Addr} {fd : FuncData} (F : Fun K "__init__" "InvalidChange.__init__" sXI f fd) : FnOk P w K mg base CX0 1 f fd ["self", "argument"] (spXI (K := K)) := by
  refine F.ok scXI (fun vs H Q E h => ?_) (fun cdv A outer s H vs Q E hr h => ?_)
  · obtain ⟨a, C, v, rfl, _⟩ := h
    rfl
  · obtain ⟨a, C, v, rfl, T, no, ea, q⟩ := h
    refine ⟨_, pss_one (by exact (ps_ost (pv 0) (pv 1))), ?_⟩
    exact ⟨_, rfl, _, rfl, a, C, rfl, T, no, .inl ⟨ea, fun dx n ne => q dx n ne⟩⟩
/-- the error's class, as the raising defs see it -/
structure ErrAt (P : Program) (w : World) (K : PySem.W.Frag) (mg : Str → Option Value) (base : Heap) (D fI : Addr) (fd : FuncData) : Prop where
  T : OexC K D
  no : PySem.W.findIn K (.ref D) "argument" = some none
  i : PySem.W.findIn K (.ref D) "__init__" = some (some (.ref fI))
  ty : PySem.W.typeIn K (.ref fI) = some (.type "function")
  ok : FnOk P w K mg base CX0 1 fI fd ["self", "argument"] (spXI (K := K))
  b : Binds K fd ["self", "argument"] []
  m : mg "InvalidChange" = some (.ref D)
/-- what raise InvalidChange("..") asks -/
theorem rd_raise {D : Addr} {H : Hp} {E : XK} {arg : Str} (T : OexC K D) (no : PySem.W.findIn K (.ref D) "argument" = some none) (r : Refuses D H E arg) : ([V.str arg] : List V).length ≤ 1000 ∧ ∀ a, H a = none → spXI (K := K) (.ref a :: ([V.str arg] ++ [])) (upd H a (exo a D none))
    (fun v H2 => v = .non ∧ ∃ (d : Addr) (fs : List (Str × V)), H2 a = some (exo a D (some d)) ∧ H2 d = some (exd d fs) ∧ H d = none ∧ E (.ref D) (some d) (upd (del H2 a) d (.xd fs))) (fun _ _ _ => False) := by
  refine ⟨by show 1 ≤ 1000; decide, fun a na => ⟨a, D, .str arg, rfl, T, no, upd_same, fun dx nd ne => ⟨rfl, dx, _, upd_same, by rw [upd_ne ne, upd_same], ?_, ?_⟩⟩⟩
  · rw [upd_ne ne] at nd
    exact nd
  · have nd' : H dx = none := by
      rw [upd_ne ne] at nd
      exact nd
    refine r dx _ nd' (fun b o e => ?_) upd_same
    have hb : b ≠ dx := ne_of_none e nd'
    have ha : b ≠ a := ne_of_none e na
    rw [upd_ne hb, del_ne ha, upd_ne ha, upd_ne hb, upd_ne ha]
    exact e
/-- a def that may refuse, as it is called -/
structure CallX (P : Program) (w : World) (K : PySem.W.Frag) (mg : Str → Option Value) (base : Heap) (k : Nat) (x : Str) (ps : List Str) (sp : Sp) (f : Addr) (fd : FuncData) : Prop where
  ok : FnOk P w K mg base (L2.CX P w) k f fd ps sp
  m : mg x = some (.ref f)
  k : PySem.W.keepIn K (.ref f) = true
  b : Binds K fd ps []
abbrev sChkW : Stmt := top 21
abbrev sChkP : Stmt := top 20
/-- check_word -/
def spChkW (K : PySem.W.Frag) (D : Addr) : Sp := fun vs H Q E => ∃ x, vs = [x] ∧ AnyV H x ∧ (okv shortB x = true → ∀ H', Same H H' → Q .non H') ∧ (okv shortB x = false → Refuses D H E "word")
theorem scCw : FnScope ["word"] ["word"] (defScope sChkW) := ⟨rfl, rfl, rfl, by decide +kernel, rfl, by decide +kernel, by decide +kernel⟩
theorem ok_chkW {f f1 D fI : Addr} {fd fd1 fdI : FuncData} (F : Fun K "check_word" "check_word" sChkW f fd) (X : ErrAt P w K mg base D fI fdI) (M : CallOf P w K mg base 4 "is_short_word" ["value"] (spAny1 K shortB) f1 fd1) : FnOk P w K mg base (L2.CX P w) 5 f fd ["word"] (spChkW K D) := by
  refine F.okX scCw (fun vs H Q E h => ?_) (fun cdv A outer s H vs Q E hr h => ?_)
  · obtain ⟨x, rfl, _⟩ := h
    rfl
  · obtain ⟨x, rfl, a, q1, q2⟩ := h
    have hr2 : Room 2 _ := hr.mono (by decide)
    refine ⟨_, pss_one (by exact (ps_if (pt_not (pt_val (pe_call M.ok hr rfl M.m M.k M.b .nil pass0 (pa_cons (pv 0) pa_nil)))) (pss_one (ps_raise rfl (takes_of rfl rfl rfl rfl) (pmk_oex X.T X.i X.ty X.ok hr2 X.b .nil pass0 rfl X.m (pa_cons pe_str pa_nil)))) pss_nil)), ?_⟩
    refine ⟨_, rfl, x, rfl, a, fun H' sm => ⟨_, rfl, ?_⟩⟩
    cases e : okv shortB x with
    | true => exact iteF (q1 e H' sm)
    | false => exact iteT (rd_raise X.T X.no ((q2 e).later sm))
end
end LA
end
section
set_option Elab.async false
set_option linter.all false
set_option maxRecDepth 100000
set_option maxHeartbeats 4100000
namespace LA
open PySem L2 XS XT XK
structure C1 (K : PySem.W.Frag) (C : Addr) (fld : Str) : Prop where
  cls : Cls K C
  no : NoAttr K C fld
/-- a class whose objects keep two values -/
structure C2 (K : PySem.W.Frag) (C : Addr) (f1 f2 : Str) : Prop where
  cls : Cls K C
  one : NoAttr K C f1
  oth : NoAttr K C f2
section
variable {P : Program} {w : World} {K : PySem.W.Frag} {mg : Str → Option Value} {base : Heap} {t1 t2 t3 t4 : Tok}
theorem But.same_put {a : Addr} {H H' : Hp} {o : HO} (s : Same H H') : But a H (upd H' a o) := fun b u e n => by
  rw [upd_ne n]
  exact s b u e
/-- the making of a change of one text, of any value: it is made, or refused -/
def spInitX (C : Addr) (fld : Str) (D : Addr) (b : Str → Bool) (arg : Str) : Sp := fun vs H Q E => ∃ (a dx : Addr) (x : V), vs = [.ref a, x] ∧ H a = some (.ins C dx []) ∧ AnyV H x ∧
  (okv b x = true → ∀ H', H' a = some (.ins C dx [(fld, x)]) → But a H H' → Q .non H') ∧ (okv b x = false → Refuses D H E arg)
abbrev sIFront : Stmt := cb 18 0
theorem scIFront : FnScope ["self", "word"] ["self", "word"] (defScope sIFront) := ⟨rfl, rfl, rfl, by decide +kernel, rfl, by decide +kernel, by decide +kernel⟩
theorem ok_IFront {f f1 C D : Addr} {fd fd1 : FuncData} (F : Fun K "__init__" "Front.__init__" sIFront f fd) (T : C1 K C "_word") (M : CallX P w K mg base 5 "check_word" ["word"] (spChkW K D) f1 fd1) :
    FnOk P w K mg base (L2.CX P w) 6 f fd ["self", "word"] (spInitX C "_word" D shortB "word") := by
  refine F.okX scIFront (fun vs H Q E h => ?_) (fun cdv A outer s H vs Q E hr h => ?_)
  · obtain ⟨a, dx, x, rfl, _⟩ := h
    rfl
  · obtain ⟨a, dx, x, rfl, ha, hx, q1, q2⟩ := h
    refine ⟨_, pss_cons (by exact (ps_expr (pe_call M.ok hr rfl M.m M.k M.b .nil (passes_call (takes_of rfl rfl rfl rfl) (fun _ _ _ _ h => h)) (pa_cons (pv 1) pa_nil)))) (pss_one (by exact (ps_fld (pv 0) (pv 1) rfl))), ?_⟩
    refine ⟨_, rfl, x, rfl, hx, fun e H' sm => ⟨_, rfl, _, rfl, a, C, dx, [], rfl, sm _ _ ha, T.cls, T.no, by decide, ?_⟩, q2⟩
    exact q1 e _ upd_same (But.same_put sm)
abbrev sIBehind : Stmt := cb 19 0
theorem scIBehind : FnScope ["self", "word"] ["self", "word"] (defScope sIBehind) := ⟨rfl, rfl, rfl, by decide +kernel, rfl, by decide +kernel, by decide +kernel⟩
theorem ok_IBehind {f f1 C D : Addr} {fd fd1 : FuncData} (F : Fun K "__init__" "Behind.__init__" sIBehind f fd) (T : C1 K C "_word") (M : CallX P w K mg base 5 "check_word" ["word"] (spChkW K D) f1 fd1) :
    FnOk P w K mg base (L2.CX P w) 6 f fd ["self", "word"] (spInitX C "_word" D shortB "word") := by
  refine F.okX scIBehind (fun vs H Q E h => ?_) (fun cdv A outer s H vs Q E hr h => ?_)
  · obtain ⟨a, dx, x, rfl, _⟩ := h
    rfl
  · obtain ⟨a, dx, x, rfl, ha, hx, q1, q2⟩ := h
    refine ⟨_, pss_cons (by exact (ps_expr (pe_call M.ok hr rfl M.m M.k M.b .nil (passes_call (takes_of rfl rfl rfl rfl) (fun _ _ _ _ h => h)) (pa_cons (pv 1) pa_nil)))) (pss_one (by exact (ps_fld (pv 0) (pv 1) rfl))), ?_⟩
    refine ⟨_, rfl, x, rfl, hx, fun e H' sm => ⟨_, rfl, _, rfl, a, C, dx, [], rfl, sm _ _ ha, T.cls, T.no, by decide, ?_⟩, q2⟩
    exact q1 e _ upd_same (But.same_put sm)
/-- two values: they are taken, or the first wrong one is named -/
def Two (D : Addr) (b1 : V → Bool) (b2 : V → V → Bool) (a1 a2 : Str) (H : Hp) (x y : V) (E : XK) (ok : Prop) : Prop :=
  AnyV H x ∧ AnyV H y ∧ (b1 x = true → b2 x y = true → ok) ∧ (b1 x = false → Refuses D H E a1) ∧ (b1 x = true → b2 x y = false → Refuses D H E a2)
theorem Two.imp {D : Addr} {b1 : V → Bool} {b2 : V → V → Bool} {a1 a2 : Str} {H : Hp} {x y : V} {E : XK} {p q : Prop} (h : Two D b1 b2 a1 a2 H x y E p) (i : p → q) : Two D b1 b2 a1 a2 H x y E q :=
  ⟨h.1, h.2.1, fun e1 e2 => i (h.2.2.1 e1 e2), h.2.2.2.1, h.2.2.2.2⟩
def newB (z : Str) : Bool := lineB z && decide (z.length ≤ 8)
def letB (z : Str) : Bool := wordB z && decide (cod z).Nodup
/-- others fit letters -/
def othB : V → V → Bool
  | .str l, .str o => lineB o && decide (o.length = l.length)
  | _, _ => false
def newB2 (_ y : V) : Bool := okv newB y
theorem newB_no {y : V} (h : okv lineB y = false) : okv newB y = false := by
  cases y with
  | str z => show (lineB z && _) = false; rw [show lineB z = false from h]; rfl
  | _ => rfl
theorem letB_no {y : V} (h : okv wordB y = false) : okv letB y = false := by
  cases y with
  | str z => show (wordB z && _) = false; rw [show wordB z = false from h]; rfl
  | _ => rfl
theorem othB_no {x y : V} (h : okv lineB y = false) : othB x y = false := by
  cases x with
  | str l =>
    cases y with
    | str z => show (lineB z && _) = false; rw [show lineB z = false from h]; rfl
    | _ => rfl
  | _ => rfl
theorem okv_text {b : Str → Bool} {y : V} (h : okv b y = true) : ∃ z, y = .str z ∧ b z = true := by
  cases y with
  | str z => exact ⟨z, rfl, h⟩
  | _ => cases h
theorem AnyV.short {H : Hp} {z : Str} (h : AnyV H (.str z)) : z.length < 4000 := by
  cases h with
  | str _ h => exact h
/-- check_pair -/
def spChkP (D : Addr) : Sp := fun vs H Q E => ∃ (x y : V), vs = [x, y] ∧ Two D (okv shortB) newB2 "old" "new" H x y E (∀ H', Same H H' → Q .non H')
theorem scCp : FnScope ["old", "new"] ["old", "new"] (defScope sChkP) := ⟨rfl, rfl, rfl, by decide +kernel, rfl, by decide +kernel, by decide +kernel⟩
theorem ok_chkP {f f1 f2 D fI : Addr} {fd fd1 fd2 fdI : FuncData} (F : Fun K "check_pair" "check_pair" sChkP f fd) (L : PkT mg t1 t2 t3 t4) (X : ErrAt P w K mg base D fI fdI) (M : CallOf P w K mg base 4 "is_short_word" ["value"] (spAny1 K shortB) f1 fd1) (N : CallOf P w K mg base 2 "is_line" ["value"] (spAny1 K lineB) f2 fd2) :
    FnOk P w K mg base (L2.CX P w) 5 f fd ["old", "new"] (spChkP D) := by
  refine F.okX scCp (fun vs H Q E h => ?_) (fun cdv A outer s H vs Q E hr h => ?_)
  · obtain ⟨x, y, rfl, _⟩ := h
    rfl
  · obtain ⟨x, y, rfl, hx, hy, q1, q2, q3⟩ := h
    have hr2 : Room 2 _ := hr.mono (by decide)
    refine ⟨_, pss_cons (by exact (ps_if (pt_not (pt_val (pe_call M.ok hr rfl M.m M.k M.b .nil pass0 (pa_cons (pv 0) pa_nil)))) (pss_one (ps_raise rfl (takes_of rfl rfl rfl rfl) (pmk_oex X.T X.i X.ty X.ok hr2 X.b .nil pass0 rfl X.m (pa_cons pe_str pa_nil)))) pss_nil)) (
      pss_one (by exact (ps_if (PW.pt (pw_or (pt_not (pt_val (pe_call N.ok hr2 rfl N.m N.k N.b .nil pass0 (pa_cons (pv 1) pa_nil)))) (pw_or1 (pt_cmpR op_gt (pe_callB call_len_str (by rfl) L.len PySem.boot_len (pa_cons (pv 1) pa_nil)) (pe_glob (v := .int 8) rfl L.word ⟨_, rfl⟩) (nomark _)))))
        (pss_one (ps_raise rfl (takes_of rfl rfl rfl rfl) (pmk_oex X.T X.i X.ty X.ok hr2 X.b .nil pass0 rfl X.m (pa_cons pe_str pa_nil)))) pss_nil))), ?_⟩
    refine ⟨_, rfl, x, rfl, hx, fun H1 s1 => ⟨_, rfl, ?_⟩⟩
    cases e1 : okv shortB x with
    | false => exact iteT (rd_raise X.T X.no ((q2 e1).later s1))
    | true =>
      refine iteF ⟨_, rfl, y, rfl, hy.same s1, fun H2 s2 => ⟨_, rfl, ?_⟩⟩
      have s3 := s1.trans s2
      cases e2 : okv lineB y with
      | false => exact iteT (rd_raise X.T X.no ((q3 e1 (newB_no e2)).later s3))
      | true =>
        obtain ⟨z, rfl, lb⟩ := okv_text e2
        have lz := hy.short
        refine iteF ⟨_, rfl, z, rfl, Nat.le_trans (Nat.le_of_lt lz) (by decide), _, _, rfl, rfl, _, rfl, ?_⟩
        by_cases h8 : z.length ≤ 8
        · rw [decide_eq_false (by omega)]
          exact iteF (q1 e1 (by show (lineB z && decide (z.length ≤ 8)) = true; rw [lb, decide_eq_true h8]; rfl) _ s3)
        · rw [decide_eq_true (by omega)]
          exact iteT (rd_raise X.T X.no ((q3 e1 (by show (lineB z && decide (z.length ≤ 8)) = false; rw [decide_eq_false h8, Bool.and_false])).later s3))
/-- the making of a change of two texts -/
def spInit2 (C : Addr) (f1 f2 : Str) (D : Addr) (b1 : V → Bool) (b2 : V → V → Bool) (a1 a2 : Str) : Sp := fun vs H Q E => ∃ (a dx : Addr) (x y : V), vs = [.ref a, x, y] ∧ H a = some (.ins C dx []) ∧
  Two D b1 b2 a1 a2 H x y E (∀ H', H' a = some (.ins C dx [(f1, x), (f2, y)]) → But a H H' → Q .non H')
abbrev sIFirst : Stmt := cb 15 0
theorem scIFirst : FnScope ["self", "old", "new"] ["self", "old", "new"] (defScope sIFirst) := ⟨rfl, rfl, rfl, by decide +kernel, rfl, by decide +kernel, by decide +kernel⟩
theorem ok_IFirst {f f1 C D : Addr} {fd fd1 : FuncData} (F : Fun K "__init__" "First.__init__" sIFirst f fd) (T : C2 K C "_old" "_new") (M : CallX P w K mg base 5 "check_pair" ["old", "new"] (spChkP D) f1 fd1) :
    FnOk P w K mg base (L2.CX P w) 6 f fd ["self", "old", "new"] (spInit2 C "_old" "_new" D (okv shortB) newB2 "old" "new") := by
  refine F.okX scIFirst (fun vs H Q E h => ?_) (fun cdv A outer s H vs Q E hr h => ?_)
  · obtain ⟨a, dx, u, v, rfl, _⟩ := h
    rfl
  · obtain ⟨a, dx, u, v, rfl, ha, tw⟩ := h
    refine ⟨_, pss_cons (by exact (ps_expr (pe_call M.ok hr rfl M.m M.k M.b .nil (passes_call (takes_of rfl rfl rfl rfl) (fun _ _ _ _ h => h)) (pa_cons (pv 1) (pa_cons (pv 2) pa_nil))))) (pss_cons (by exact (ps_fld (pv 0) (pv 1) rfl)) (pss_one (by exact (ps_fld (pv 0) (pv 2) rfl)))), ?_⟩
    refine ⟨_, rfl, _, rfl, u, v, rfl, tw.imp fun q H1 s1 => ⟨_, rfl, _, rfl, a, C, dx, [], rfl, s1 _ _ ha, T.cls, T.one, by decide, ?_⟩⟩
    refine ⟨_, rfl, _, rfl, a, C, dx, _, rfl, upd_same, T.cls, T.oth, (by show 1 < 1000; decide), ?_⟩
    rw [upd_upd]
    exact q _ upd_same (But.same_put s1)
abbrev sIEvery : Stmt := cb 16 0
theorem scIEvery : FnScope ["self", "old", "new"] ["self", "old", "new"] (defScope sIEvery) := ⟨rfl, rfl, rfl, by decide +kernel, rfl, by decide +kernel, by decide +kernel⟩
theorem ok_IEvery {f f1 C D : Addr} {fd fd1 : FuncData} (F : Fun K "__init__" "Every.__init__" sIEvery f fd) (T : C2 K C "_old" "_new") (M : CallX P w K mg base 5 "check_pair" ["old", "new"] (spChkP D) f1 fd1) :
    FnOk P w K mg base (L2.CX P w) 6 f fd ["self", "old", "new"] (spInit2 C "_old" "_new" D (okv shortB) newB2 "old" "new") := by
  refine F.okX scIEvery (fun vs H Q E h => ?_) (fun cdv A outer s H vs Q E hr h => ?_)
  · obtain ⟨a, dx, u, v, rfl, _⟩ := h
    rfl
  · obtain ⟨a, dx, u, v, rfl, ha, tw⟩ := h
    refine ⟨_, pss_cons (by exact (ps_expr (pe_call M.ok hr rfl M.m M.k M.b .nil (passes_call (takes_of rfl rfl rfl rfl) (fun _ _ _ _ h => h)) (pa_cons (pv 1) (pa_cons (pv 2) pa_nil))))) (pss_cons (by exact (ps_fld (pv 0) (pv 1) rfl)) (pss_one (by exact (ps_fld (pv 0) (pv 2) rfl)))), ?_⟩
    refine ⟨_, rfl, _, rfl, u, v, rfl, tw.imp fun q H1 s1 => ⟨_, rfl, _, rfl, a, C, dx, [], rfl, s1 _ _ ha, T.cls, T.one, by decide, ?_⟩⟩
    refine ⟨_, rfl, _, rfl, a, C, dx, _, rfl, upd_same, T.cls, T.oth, (by show 1 < 1000; decide), ?_⟩
    rw [upd_upd]
    exact q _ upd_same (But.same_put s1)
abbrev sISwap : Stmt := cb 17 0
theorem scISwap : FnScope ["self", "letters", "others"] ["self", "letters", "others"] (defScope sISwap) := ⟨rfl, rfl, rfl, by decide +kernel, rfl, by decide +kernel, by decide +kernel⟩
theorem ok_ISwap {f f1 f2 f3 C D fI : Addr} {fd fd1 fd2 fd3 fdI : FuncData} (F : Fun K "__init__" "Swap.__init__" sISwap f fd) (T : C2 K C "_letters" "_others") (L : PkT mg t1 t2 t3 t4) (X : ErrAt P w K mg base D fI fdI) (M : CallOf P w K mg base 3 "is_word" ["value"] (spAny1 K wordB) f1 fd1)
    (N : CallOf P w K mg base 1 "are_different" ["line"] spDiffT f2 fd2) (O : CallOf P w K mg base 2 "is_line" ["value"] (spAny1 K lineB) f3 fd3) :
    FnOk P w K mg base (L2.CX P w) 6 f fd ["self", "letters", "others"] (spInit2 C "_letters" "_others" D (okv letB) othB "letters" "others") := by
  refine F.okX scISwap (fun vs H Q E h => ?_) (fun cdv A outer s H vs Q E hr h => ?_)
  · obtain ⟨a, dx, u, v, rfl, _⟩ := h
    rfl
  · obtain ⟨a, dx, x, y, rfl, ha, hx, hy, q1, q2, q3⟩ := h
    have hr1 : Room 1 _ := hr.mono (by decide)
    have hr2 : Room 2 _ := hr.mono (by decide)
    have hr3 : Room 3 _ := hr.mono (by decide)
    refine ⟨_, pss_cons (by exact (ps_if (PW.pt (pw_or (pt_not (pt_val (pe_call M.ok hr3 rfl M.m M.k M.b .nil pass0 (pa_cons (pv 1) pa_nil)))) (pw_or1 (pt_not (pt_val (pe_call N.ok hr1 rfl N.m N.k N.b .nil pass0 (pa_cons (pv 1) pa_nil)))))))
        (pss_one (ps_raise rfl (takes_of rfl rfl rfl rfl) (pmk_oex X.T X.i X.ty X.ok hr2 X.b .nil pass0 rfl X.m (pa_cons pe_str pa_nil)))) pss_nil)) (
      pss_cons (by exact (ps_if (PW.pt (pw_or (pt_not (pt_val (pe_call O.ok hr2 rfl O.m O.k O.b .nil pass0 (pa_cons (pv 2) pa_nil)))) (pw_or1 (pt_cmpR op_ne (pe_callB call_len_str (by rfl) L.len PySem.boot_len (pa_cons (pv 2) pa_nil)) (pe_callB call_len_str (by rfl) L.len PySem.boot_len (pa_cons (pv 1) pa_nil)) (nomark _)))))
        (pss_one (ps_raise rfl (takes_of rfl rfl rfl rfl) (pmk_oex X.T X.i X.ty X.ok hr2 X.b .nil pass0 rfl X.m (pa_cons pe_str pa_nil)))) pss_nil)) (
      pss_cons (by exact (ps_fld (pv 0) (pv 1) rfl)) (pss_one (by exact (ps_fld (pv 0) (pv 2) rfl))))), ?_⟩
    refine ⟨_, rfl, x, rfl, hx, fun H1 s1 => ⟨_, rfl, ?_⟩⟩
    cases e1 : okv wordB x with
    | false => exact iteT (rd_raise X.T X.no ((q2 (letB_no e1)).later s1))
    | true =>
      obtain ⟨z, rfl, wz⟩ := okv_text e1
      have lz := hx.short
      refine iteF ⟨_, rfl, z, rfl, lz, _, rfl, ?_⟩
      cases nd : decide (cod z).Nodup with
      | false => exact iteT (rd_raise X.T X.no ((q2 (by show (wordB z && decide (cod z).Nodup) = false; rw [nd, Bool.and_false])).later s1))
      | true =>
        have lok : okv letB (.str z) = true := by
          show (wordB z && decide (cod z).Nodup) = true
          rw [wz, nd]
          rfl
        refine iteF ⟨_, rfl, y, rfl, hy.same s1, fun H2 s2 => ⟨_, rfl, ?_⟩⟩
        have s3 := s1.trans s2
        cases e2 : okv lineB y with
        | false => exact iteT (rd_raise X.T X.no ((q3 lok (othB_no e2)).later s3))
        | true =>
          obtain ⟨o, rfl, lo⟩ := okv_text e2
          have lo4 := hy.short
          refine iteF ⟨_, rfl, o, rfl, Nat.le_trans (Nat.le_of_lt lo4) (by decide), _, rfl, z, rfl, Nat.le_trans (Nat.le_of_lt lz) (by decide), rfl, _, rfl, ?_⟩
          by_cases h : o.length = z.length
          · have ok : othB (.str z) (.str o) = true := by
              show (lineB o && decide (o.length = z.length)) = true
              rw [lo, decide_eq_true h]
              rfl
            rw [decide_eq_true (show V.int (o.length : Int) = V.int (z.length : Int) by rw [h])]
            refine iteF ⟨_, rfl, _, rfl, a, C, dx, [], rfl, s3 _ _ ha, T.cls, T.one, by decide, ?_⟩
            refine ⟨_, rfl, _, rfl, a, C, dx, _, rfl, upd_same, T.cls, T.oth, (by show 1 < 1000; decide), ?_⟩
            rw [upd_upd]
            exact q1 lok ok _ upd_same (But.same_put s3)
          · have no : othB (.str z) (.str o) = false := by
              show (lineB o && decide (o.length = z.length)) = false
              rw [decide_eq_false h, Bool.and_false]
            rw [decide_eq_false (fun q => h (by injection q with q; omega))]
            exact iteT (rd_raise X.T X.no ((q3 lok no).later s3))
end
end LA
end
section
set_option Elab.async false
set_option linter.all false
set_option maxRecDepth 100000
set_option maxHeartbeats 4100000
namespace LA
open PySem L2 XS XT XK
/-- a change: its sort and its two texts (the second is empty where it has one alone) -/
structure Ch where
  i : Nat
  a : Str
  b : Str
theorem look1 {f : Str} {v : V} : ([(f, v)] : List (Str × V)).lookup f = some v := by
  simp
theorem look2a {f g : Str} {u v : V} : ([(f, u), (g, v)] : List (Str × V)).lookup f = some u := by
  simp
def flds (c : Ch) : List (Str × V) := match c.i with
  | 0 => [("_old", .str c.a), ("_new", .str c.b)]
  | 1 => [("_old", .str c.a), ("_new", .str c.b)]
  | 2 => [("_letters", .str c.a), ("_others", .str c.b)]
  | _ => [("_word", .str c.a)]
/-- the program's object of a change -/
def CA (C : Nat → Addr) (H : Hp) (c : Ch) (v : V) : Prop := c.i < 5 ∧ (3 ≤ c.i → c.b = "") ∧ ∃ a dx, v = .ref a ∧ H a = some (.ins (C c.i) dx (flds c))
theorem CA.keep {C : Nat → Addr} {H H' : Hp} (k : ∀ a D dx fs, H a = some (.ins D dx fs) → H' a = some (.ins D dx fs)) {c : Ch} {v : V} (h : CA C H c v) : CA C H' c v := by
  obtain ⟨h1, h2, a, dx, e, ha⟩ := h
  exact ⟨h1, h2, a, dx, e, k _ _ _ _ ha⟩
theorem CA.same {C : Nat → Addr} {H H' : Hp} (s : Same H H') {c : Ch} {v : V} (h : CA C H c v) : CA C H' c v := h.keep fun a D dx fs e => s _ _ e
theorem CA.but {C : Nat → Addr} {H H' : Hp} {d : Addr} {kvs : List (Key × V)} (b : But d H H') (hd : H d = some (.dK kvs)) {c : Ch} {v : V} (h : CA C H c v) : CA C H' c v :=
  h.keep fun a D dx fs e => b _ _ e (ne_of e hd (by intro z; cases z))
/-- the five classes -/
structure KC (K : PySem.W.Frag) (C : Nat → Addr) : Prop where
  cls : ∀ i, i < 5 → Cls K (C i)
  cl : ∀ i, i < 5 → PySem.W.findIn K (.ref (C i)) "__class__" = some (some (.builtin "object.__class__"))
  get : PySem.W.specialIn K (.builtin "object.__class__") "__get__" = some (some (.builtin "getset_descriptor.__get__"))
  tak : PySem.W.takesIn K (.builtin "object.__class__") = some true
  obj : ∀ i, i < 5 → PySem.W.mroIn K (C i) (.type "object") = some true
  kit : ∀ i j, i < 5 → j < 5 → PySem.W.kitOne K (.ref (C i)) (.ref (C j)) = some (decide (i = j))
theorem CA.ty {K : PySem.W.Frag} {C : Nat → Addr} {H : Hp} (k : KC K C) {c : Ch} {v : V} (h : CA C H c v) : TyX K H v (.ref (C c.i)) := by
  obtain ⟨lt, _, a, dx, rfl, ha⟩ := h
  exact .base (.ins ha (k.cls _ lt) (k.cl _ lt) k.get k.tak (k.obj _ lt))
section
variable {P : Program} {w : World} {K : PySem.W.Frag} {mg : Str → Option Value} {base : Heap} {C : Nat → Addr}
/-- a property that hands a kept value out -/
def spGet (D : Addr) (fld : Str) : Sp := fun vs H Q _ => ∃ (a dx : Addr) (fs : List (Str × V)) (v : V), vs = [.ref a] ∧ H a = some (.ins D dx fs) ∧ fs.lookup fld = some v ∧ Q v H
abbrev sGEOld : Stmt := cb 16 1
theorem scGEOld : FnScope ["self"] ["self"] (defScope sGEOld) := ⟨rfl, rfl, rfl, by decide +kernel, rfl, by decide +kernel, by decide +kernel⟩
theorem ok_GEOld {f D : Addr} {fd : FuncData} (F : Fun K "old" "Every.old" sGEOld f fd) (c : Cls K D) (no : NoAttr K D "_old") : FnOk P w K mg base CX0 1 f fd ["self"] (spGet D "_old") := by
  refine F.ok scGEOld (fun vs H Q E h => ?_) (fun cdv A outer s H vs Q E hr h => ?_)
  · obtain ⟨a, dx, fs, v, rfl, _⟩ := h
    rfl
  · obtain ⟨a, dx, fs, v, rfl, ha, lk, q⟩ := h
    refine ⟨_, pss_one (by exact (ps_ret (pe_fld (pv 0) rfl))), ?_⟩
    exact ⟨_, rfl, a, D, dx, fs, v, rfl, ha, c, no, lk, q⟩
abbrev sGENew : Stmt := cb 16 2
theorem scGENew : FnScope ["self"] ["self"] (defScope sGENew) := ⟨rfl, rfl, rfl, by decide +kernel, rfl, by decide +kernel, by decide +kernel⟩
theorem ok_GENew {f D : Addr} {fd : FuncData} (F : Fun K "new" "Every.new" sGENew f fd) (c : Cls K D) (no : NoAttr K D "_new") : FnOk P w K mg base CX0 1 f fd ["self"] (spGet D "_new") := by
  refine F.ok scGENew (fun vs H Q E h => ?_) (fun cdv A outer s H vs Q E hr h => ?_)
  · obtain ⟨a, dx, fs, v, rfl, _⟩ := h
    rfl
  · obtain ⟨a, dx, fs, v, rfl, ha, lk, q⟩ := h
    refine ⟨_, pss_one (by exact (ps_ret (pe_fld (pv 0) rfl))), ?_⟩
    exact ⟨_, rfl, a, D, dx, fs, v, rfl, ha, c, no, lk, q⟩
abbrev sGSLet : Stmt := cb 17 1
theorem scGSLet : FnScope ["self"] ["self"] (defScope sGSLet) := ⟨rfl, rfl, rfl, by decide +kernel, rfl, by decide +kernel, by decide +kernel⟩
theorem ok_GSLet {f D : Addr} {fd : FuncData} (F : Fun K "letters" "Swap.letters" sGSLet f fd) (c : Cls K D) (no : NoAttr K D "_letters") : FnOk P w K mg base CX0 1 f fd ["self"] (spGet D "_letters") := by
  refine F.ok scGSLet (fun vs H Q E h => ?_) (fun cdv A outer s H vs Q E hr h => ?_)
  · obtain ⟨a, dx, fs, v, rfl, _⟩ := h
    rfl
  · obtain ⟨a, dx, fs, v, rfl, ha, lk, q⟩ := h
    refine ⟨_, pss_one (by exact (ps_ret (pe_fld (pv 0) rfl))), ?_⟩
    exact ⟨_, rfl, a, D, dx, fs, v, rfl, ha, c, no, lk, q⟩
abbrev sGSOth : Stmt := cb 17 2
theorem scGSOth : FnScope ["self"] ["self"] (defScope sGSOth) := ⟨rfl, rfl, rfl, by decide +kernel, rfl, by decide +kernel, by decide +kernel⟩
theorem ok_GSOth {f D : Addr} {fd : FuncData} (F : Fun K "others" "Swap.others" sGSOth f fd) (c : Cls K D) (no : NoAttr K D "_others") : FnOk P w K mg base CX0 1 f fd ["self"] (spGet D "_others") := by
  refine F.ok scGSOth (fun vs H Q E h => ?_) (fun cdv A outer s H vs Q E hr h => ?_)
  · obtain ⟨a, dx, fs, v, rfl, _⟩ := h
    rfl
  · obtain ⟨a, dx, fs, v, rfl, ha, lk, q⟩ := h
    refine ⟨_, pss_one (by exact (ps_ret (pe_fld (pv 0) rfl))), ?_⟩
    exact ⟨_, rfl, a, D, dx, fs, v, rfl, ha, c, no, lk, q⟩
abbrev sGFWord : Stmt := cb 18 1
theorem scGFWord : FnScope ["self"] ["self"] (defScope sGFWord) := ⟨rfl, rfl, rfl, by decide +kernel, rfl, by decide +kernel, by decide +kernel⟩
theorem ok_GFWord {f D : Addr} {fd : FuncData} (F : Fun K "word" "Front.word" sGFWord f fd) (c : Cls K D) (no : NoAttr K D "_word") : FnOk P w K mg base CX0 1 f fd ["self"] (spGet D "_word") := by
  refine F.ok scGFWord (fun vs H Q E h => ?_) (fun cdv A outer s H vs Q E hr h => ?_)
  · obtain ⟨a, dx, fs, v, rfl, _⟩ := h
    rfl
  · obtain ⟨a, dx, fs, v, rfl, ha, lk, q⟩ := h
    refine ⟨_, pss_one (by exact (ps_ret (pe_fld (pv 0) rfl))), ?_⟩
    exact ⟨_, rfl, a, D, dx, fs, v, rfl, ha, c, no, lk, q⟩
abbrev sGBWord : Stmt := cb 19 1
theorem scGBWord : FnScope ["self"] ["self"] (defScope sGBWord) := ⟨rfl, rfl, rfl, by decide +kernel, rfl, by decide +kernel, by decide +kernel⟩
theorem ok_GBWord {f D : Addr} {fd : FuncData} (F : Fun K "word" "Behind.word" sGBWord f fd) (c : Cls K D) (no : NoAttr K D "_word") : FnOk P w K mg base CX0 1 f fd ["self"] (spGet D "_word") := by
  refine F.ok scGBWord (fun vs H Q E h => ?_) (fun cdv A outer s H vs Q E hr h => ?_)
  · obtain ⟨a, dx, fs, v, rfl, _⟩ := h
    rfl
  · obtain ⟨a, dx, fs, v, rfl, ha, lk, q⟩ := h
    refine ⟨_, pss_one (by exact (ps_ret (pe_fld (pv 0) rfl))), ?_⟩
    exact ⟨_, rfl, a, D, dx, fs, v, rfl, ha, c, no, lk, q⟩
structure PropAt (P : Program) (w : World) (K : PySem.W.Frag) (mg : Str → Option Value) (base : Heap) (D : Addr) (nm fld : Str) (p g : Addr) (fd : FuncData) : Prop where
  prop : PropOf K D nm p g
  ok : FnOk P w K mg base CX0 1 g fd ["self"] (spGet D fld)
  b : Binds K fd ["self"] []
structure GetT (P : Program) (w : World) (K : PySem.W.Frag) (mg : Str → Option Value) (base : Heap) (C p g : Nat → Addr) (fd : Nat → FuncData) : Prop where
  e1 : PropAt P w K mg base (C 1) "old" "_old" (p 0) (g 0) (fd 0)
  e2 : PropAt P w K mg base (C 1) "new" "_new" (p 1) (g 1) (fd 1)
  s1 : PropAt P w K mg base (C 2) "letters" "_letters" (p 2) (g 2) (fd 2)
  s2 : PropAt P w K mg base (C 2) "others" "_others" (p 3) (g 3) (fd 3)
  f : PropAt P w K mg base (C 3) "word" "_word" (p 4) (g 4) (fd 4)
  b : PropAt P w K mg base (C 4) "word" "_word" (p 5) (g 5) (fd 5)
structure NamT (mg : Str → Option Value) (C : Nat → Addr) : Prop where
  isM : mg "isinstance" = none
  n0 : mg "First" = some (.ref (C 0))
  n1 : mg "Every" = some (.ref (C 1))
  n2 : mg "Swap" = some (.ref (C 2))
  n3 : mg "Front" = some (.ref (C 3))
  n4 : mg "Behind" = some (.ref (C 4))
theorem no_ref (a : Addr) : ∀ l : List String, (l.map Value.type).contains (Value.ref a) = false
  | [] => rfl
  | n :: l => by
    show (Value.ref a == Value.type n || (l.map Value.type).contains (Value.ref a)) = false
    rw [no_ref a l]
    rfl
theorem kit_bi (k0 : KC K C) {n : String} {l : List String} (m : fastBuiltinMro n = some (l.map Value.type)) {j : Nat} (hj : j < 5) : PySem.W.kitOne K (.type n) (.ref (C j)) = some false := by
  obtain ⟨i, hi, ne⟩ : ∃ i, i < 5 ∧ i ≠ j := by
    by_cases h : j = 0
    · exact ⟨1, by decide, by omega⟩
    · exact ⟨0, by decide, by omega⟩
  have z := k0.kit i j hi hj
  rw [decide_eq_false ne] at z
  unfold PySem.W.kitOne at z ⊢
  have h1 : (Value.type n == Value.ref (C j)) = false := rfl
  rw [h1]
  split at z
  · cases z
  · unfold PySem.W.kitCls at z ⊢
    dsimp only at z ⊢
    split at z
    · rename_i cnd
      rw [if_pos cnd]
      show (fastBuiltinMro n).map (·.contains (Value.ref (C j))) = some false
      rw [m]
      show some ((l.map Value.type).contains (Value.ref (C j))) = some false
      rw [no_ref]
    · cases z
theorem tyN_mro : ∀ n, (n = "str" ∨ n ∈ tyN) → ∃ l : List String, fastBuiltinMro n = some (l.map Value.type) := by
  intro n h
  have h : n ∈ ["str", "NoneType", "bool", "int", "list", "tuple", "dict"] := by
    rcases h with rfl | h
    · decide
    · exact List.mem_cons_of_mem _ h
  unfold fastBuiltinMro
  have key : ∀ m ∈ ["str", "NoneType", "bool", "int", "list", "tuple", "dict"], (fastFind? m).isSome = true := by decide +kernel
  obtain ⟨c, hc⟩ := Option.isSome_iff_exists.mp (key n h)
  exact ⟨c.mro, by rw [hc]; rfl⟩
end
end LA
end
section
set_option Elab.async false
set_option linter.all false
set_option maxRecDepth 100000
set_option maxHeartbeats 4100000
namespace LA
open PySem PySem.Spec PyProof.Rows L2 XS XT XK XL LamX
/-! ### the def that asks what is refused -/
/-- isinstance(e, c) in an except suite, e an own error with its dict -/
def rIsS (K : PySem.W.Frag) (D a : Addr) : List V → Hp → VK → Prop := fun xs H Q => ∃ (c : V) (cv : Value) (b : Bool) (dd : Addr) (fs : List (Str × V)), xs = [.ref a, c] ∧ ClsV c cv ∧ H dd = some (.xd fs) ∧ PySem.W.kitOne K (.ref D) cv = some b ∧ Q (.bl b) H
theorem call_isS {X : Cx} {a D dd0 : Addr} {oe : Obj} {pn : List (Addr × Obj)} (T : XT X.K D) (hz : Zc (.ref D) (some dd0) oe) (hf : ∃ vs, oe.data = .fields vs) :
    CallR (X.suite a ((a, oe) :: pn)) (.builtin "isinstance") (fun xs H Q => ∃ (c : V) (cv : Value) (b : Bool) (fs : List (Str × V)), xs = [.ref a, c] ∧ ClsV c cv ∧ H dd0 = some (.xd fs) ∧ PySem.W.kitOne X.K (.ref D) cv = some b ∧ Q (.bl b) H) := by
  intro pins s σ H xs us Q I r h
  obtain ⟨c, cv, b, fs, rfl, k, ed, e, q⟩ := h
  obtain ⟨u1, u2, rfl, r1, r2⟩ := vals2 r
  have e2 := k.eq r2
  subst e2
  cases (show u1 = Value.ref a from r1)
  obtain ⟨ho, _⟩ := I.pin (a, oe) (List.mem_append.mpr (.inl List.mem_cons_self))
  obtain ⟨vs, hv⟩ := hf
  obtain ⟨mA, hns, _⟩ := (show ObjOk X.prog X.w H s.heap dd0 (.xd fs) from I.hok dd0 _ ed)
  obtain ⟨od, hod, _⟩ := lookIn_ns hns
  have J : PySem.W.InstAt s.heap a oe D (some od) := ⟨ho, hz.1, by unfold PySem.W.notCls; rw [hv] <;> rfl, by rw [hz.2]; exact hod⟩
  have hc : (PySem.W.clsIn X.K D).isSome = true := by
    obtain ⟨cd, h1, _⟩ := T.opn
    rw [h1]
    rfl
  exact PySem.W.kia_one (PySem.W.kitx_exc hc T.ga T.gg T.exC T.ac T.gn T.tk T.mo) I.kIn J e (fun z => nomatch z) fun tk => ⟨.bl b, H, I.tok tk, rfl, q⟩
/-- refused or not: the error's argument, in a list with True; or None -/
def TRef (D : Addr) : (XK → Hp → VK → Prop) → Hp → VK → Prop := fun tl H Q =>
  tl (fun cls d H' => cls = .ref D ∧ ∃ (dd : Addr) (fs : List (Str × V)) (z : Str), d = some dd ∧ H' dd = some (.xd fs) ∧ fs.lookup ("argument" : Str) = some (V.str z) ∧
    ∀ (p : Addr) (H2 : Hp), H' p = none → Same H' H2 → H2 p = some (.lst [.str z, .bl true]) → Q (.ref p) H2) H (fun _ H' => Q .non H')
abbrev sRef : Stmt := top 31
theorem scRf : FnScope ["_law_call", "e"] ["_law_call"] (defScope sRef) := ⟨rfl, rfl, rfl, by decide +kernel, rfl, by decide +kernel, by decide +kernel⟩
section
variable {X : Cx} {D : Addr}
theorem gets_ref {g : Addr} {cdg : Value} (T : XT X.K D) (no : PySem.W.findIn X.K (.ref D) "argument" = some none) (mD : X.mg "InvalidChange" = some (.ref D)) (isM : X.mg "isinstance" = none) (mV : X.mg "ValueError" = none)
    (ex : PySem.W.exmOne X.K (.ref D) (.ref D) = some true) (kv : PySem.W.kitOne X.K (.ref D) (.type "ValueError") = some true) :
    Gets X ["_law_call", "e"] "_law_refused" (defScope sRef) g cdg (defBody sRef) "_law_call" (TRef D) := by
  intro LP f s H Q tl act lp h
  have fx : XfC X.K D := ⟨T.ga, T.gg, T.exC, T.hd⟩
  refine ⟨_, pss_cons (ps_try_as (i := 1) (c := .ref D) (X := (cxOf C8.CX0 X.prog X.w X.K X.mg X.base ["_law_call", "e"] "_law_refused" (defScope sRef) g cdg X.A X.stack s H C8.E0).nox)
      (tb := fun W D' σ H => ∃ Ech : XK, (∀ cls d σ' H', Ech cls d H' → W cls d σ' H') ∧ σ[0]? = some (some (.ref f)) ∧ LP H f ∧ tl Ech H (fun _ H' => D'.nx σ H'))
      (ts := fun a cls d => fun D' σ H => ∃ (dd : Addr) (fs : List (Str × V)) (z : Str), cls = .ref D ∧ d = some dd ∧ (σ.length = 2 → σ[1]? = some (some (.ref a))) ∧ H dd = some (.xd fs) ∧ fs.lookup ("argument" : Str) = some (V.str z) ∧ ∀ p, H p = none → D'.rt (.ref p) (upd H p (.lst [.str z, .bl true])))
      rfl rfl scRf.nd rfl rfl ⟨by rfl, by decide, .inl mD⟩ L2.takes0 (fun W pn xe tk _ => ?_) (fun a oe cls d pn hz hf => ?_)) (pss_one (by exact (ps_ret pe_non))), ?_⟩
  · refine ⟨fun pins s' σ H' D' I h' => ?_⟩
    obtain ⟨Ech, hW, h1, h2, h3⟩ := h'
    exact PSs.run (pss_one (ps_expr (act W pn xe Ech _ _ tk hW))) pins s' σ H' D' I ⟨h1, h2, h3⟩
  · refine ⟨fun pins s' σ H' D' I h' => ?_⟩
    obtain ⟨dd, fs, z, rfl, rfl, se, hdd, hl, go⟩ := h'
    have se := se I.len
    refine PSs.run (pss_one (ps_ret (pe_lst (pa_cons (pe_xf (X := (cxOf C8.CX0 X.prog X.w X.K X.mg X.base ["_law_call", "e"] "_law_refused" (defScope sRef) g cdg X.A X.stack s H C8.E0).nox) (pn := pn) fx no hz hf (pv 1)) (pa_cons (pe_callB (call_isS (X := (cxOf C8.CX0 X.prog X.w X.K X.mg X.base ["_law_call", "e"] "_law_refused" (defScope sRef) g cdg X.A X.stack s H C8.E0).nox) (pn := pn) T hz hf) (by rfl) isM (by decide +kernel) (pa_cons (pv 1) (pa_cons (pe_bltn (v := .ty "ValueError") (by rfl) mV (by decide +kernel) rfl) pa_nil))) pa_nil))))) pins s' σ H' D' I ?_
    refine ⟨_, se, rfl, rfl, dd, fs, _, rfl, hdd, hl, _, se, _, _, true, fs, rfl, .ty _, hdd, kv, (by show 2 ≤ sizeLine; decide), fun p np => go p np⟩
  · refine ⟨fun cls d H' => cls = .ref D ∧ ∃ (dd : Addr) (fs : List (Str × V)) (z : Str), d = some dd ∧ H' dd = some (.xd fs) ∧ fs.lookup ("argument" : Str) = some (V.str z) ∧
      ∀ (p : Addr) (H2 : Hp), H' p = none → Same H' H2 → H2 p = some (.lst [.str z, .bl true]) → Q (.ref p) H2, fun cls d σ' H' e => ?_, rfl, lp, h⟩
    obtain ⟨rfl, dd, fs, z, rfl, hdd, hl, go⟩ := e
    refine ⟨true, ex, fun _ a _ => ⟨dd, fs, z, rfl, rfl, fun len => ?_, hdd, hl, fun p np => go p _ np (same_upd np) upd_same⟩, fun z => nomatch z⟩
    rw [List.length_set] at len
    exact List.getElem?_set_self (by omega)
end
end LA
end
section
set_option Elab.async false
set_option linter.all false
set_option maxRecDepth 100000
set_option maxHeartbeats 4100000
namespace LA
open PySem L2 XS XT XK XO
def ceq (c d : Ch) : Bool := decide (c.i = d.i) && (decide (V.str c.a = V.str d.a) && decide (V.str c.b = V.str d.b))
/-- what a change is held against, and the answer -/
def Oth (C : Nat → Addr) (H : Hp) (c : Ch) (y : V) (r : Bool) : Prop := (∃ z, y = .str z ∧ r = false) ∨ ∃ d, CA C H d y ∧ r = ceq c d
theorem Oth.ty {K : PySem.W.Frag} {C : Nat → Addr} {H : Hp} {c : Ch} {y : V} {r : Bool} (k0 : KC K C) (o : Oth C H c y r) : ∃ t, TyX K H y t ∧ ∀ i, i < 5 → (PySem.W.kitOne K t (.ref (C i)) = some false ∧ (i = c.i → r = false)) ∨ (PySem.W.kitOne K t (.ref (C i)) = some true ∧ ∃ d, CA C H d y ∧ d.i = i ∧ r = ceq c d) := by
  rcases o with ⟨z, rfl, rfl⟩ | ⟨d, td, rfl⟩
  · refine ⟨_, .base (.str z), fun i hi => .inl ⟨?_, fun _ => rfl⟩⟩
    obtain ⟨l, hl⟩ := tyN_mro "str" (.inl rfl)
    exact kit_bi k0 hl hi
  · refine ⟨_, td.ty k0, fun i hi => ?_⟩
    have k := k0.kit _ i td.1 hi
    by_cases e : d.i = i
    · rw [decide_eq_true e] at k
      exact .inr ⟨k, d, td, e, rfl⟩
    · rw [decide_eq_false e] at k
      refine .inl ⟨k, fun e2 => ?_⟩
      unfold ceq
      rw [decide_eq_false (fun z => e (by omega))]
      rfl
def spEqT (C : Nat → Addr) (i : Nat) : Sp := fun vs H Q _ => ∃ (c : Ch) (x y : V) (r : Bool), vs = [x, y] ∧ CA C H c x ∧ c.i = i ∧ Oth C H c y r ∧ ∀ H', Same H H' → Q (.bl r) H'
section
variable {P : Program} {w : World} {K : PySem.W.Frag} {mg : Str → Option Value} {base : Heap} {C : Nat → Addr}
abbrev sQFirst : Stmt := cb 15 5
theorem scQFirst : FnScope ["self", "other"] ["self", "other"] (defScope sQFirst) := ⟨rfl, rfl, rfl, by decide +kernel, rfl, by decide +kernel, by decide +kernel⟩
theorem ok_QFirst {f : Addr} {fd : FuncData} (F : Fun K "__eq__" "First.__eq__" sQFirst f fd) (N : NamT mg C) (k0 : KC K C) (T : C2 K (C 0) "_old" "_new") : FnOk P w K mg base CX0 1 f fd ["self", "other"] (spEqT C 0) := by
  refine F.ok scQFirst (fun vs H Q E h => ?_) (fun cdv A outer s H vs Q E hr h => ?_)
  · obtain ⟨g, x, y, r, rfl, _⟩ := h
    rfl
  · obtain ⟨⟨ci, ca, cb⟩, x, y, r, rfl, tg, gc, ot, q⟩ := h
    refine ⟨_, pss_one (by exact (ps_ret (pe_and (pe_callB call_isi (by rfl) N.isM (by decide +kernel) (pa_cons (pv 1) (pa_cons (pe_glob (v := .ref (C 0)) rfl N.n0 rfl) pa_nil))) (pe_and (pe_cmpR op_eq (pe_fld (pv 0) rfl) (pe_fld (pv 1) rfl) (nomark _)) (pe_one (pe_cmpR op_eq (pe_fld (pv 0) rfl) (pe_fld (pv 1) rfl) (nomark _))))))), ?_⟩
    obtain ⟨t, ty, key⟩ := ot.ty k0
    obtain rfl : ci = 0 := gc
    obtain ⟨_, _, a, dx, rfl, ha⟩ := tg
    have ha : H a = some (.ins (C 0) dx [("_old", .str ca), ("_new", .str cb)]) := ha
    rcases key 0 (by decide) with ⟨no, nr⟩ | ⟨yes, ⟨di, da, db⟩, th, hc, rfl⟩
    · refine ⟨_, rfl, _, _, _, _, _, rfl, .own (C 0), ty, no, _, rfl, iteF ?_⟩
      rw [nr rfl] at q
      exact q H (fun _ _ e => e)
    · refine ⟨_, rfl, _, _, _, _, _, rfl, .own (C 0), ty, yes, _, rfl, iteT ?_⟩
      obtain rfl : di = 0 := hc
      obtain ⟨_, _, b, dy, rfl, hb⟩ := th
      have hb : H b = some (.ins (C 0) dy [("_old", .str da), ("_new", .str db)]) := hb
      have e : ceq ⟨0, ca, cb⟩ ⟨0, da, db⟩ = (decide (V.str ca = V.str da) && decide (V.str cb = V.str db)) := by
        show (decide ((0 : Nat) = 0) && _) = _
        rw [decide_eq_true rfl, Bool.true_and]
      rw [e] at q
      refine ⟨_, rfl, a, C 0, dx, _, _, rfl, ha, T.cls, T.one, look2a, _, rfl, b, C 0, dy, _, _, rfl, hb, T.cls, T.one, look2a, rfl, _, rfl, ?_⟩
      cases h1 : decide (V.str ca = V.str da) with
      | false =>
        rw [h1] at q
        exact iteF (q H (fun _ _ e => e))
      | true =>
        rw [h1] at q
        refine iteT ?_
        refine ⟨_, rfl, a, C 0, dx, _, _, rfl, ha, T.cls, T.oth, rfl, _, rfl, b, C 0, dy, _, _, rfl, hb, T.cls, T.oth, rfl, rfl, ?_⟩
        exact q H (fun _ _ e => e)
abbrev sQEvery : Stmt := cb 16 5
theorem scQEvery : FnScope ["self", "other"] ["self", "other"] (defScope sQEvery) := ⟨rfl, rfl, rfl, by decide +kernel, rfl, by decide +kernel, by decide +kernel⟩
theorem ok_QEvery {f : Addr} {fd : FuncData} (F : Fun K "__eq__" "Every.__eq__" sQEvery f fd) (N : NamT mg C) (k0 : KC K C) (T : C2 K (C 1) "_old" "_new") : FnOk P w K mg base CX0 1 f fd ["self", "other"] (spEqT C 1) := by
  refine F.ok scQEvery (fun vs H Q E h => ?_) (fun cdv A outer s H vs Q E hr h => ?_)
  · obtain ⟨g, x, y, r, rfl, _⟩ := h
    rfl
  · obtain ⟨⟨ci, ca, cb⟩, x, y, r, rfl, tg, gc, ot, q⟩ := h
    refine ⟨_, pss_one (by exact (ps_ret (pe_and (pe_callB call_isi (by rfl) N.isM (by decide +kernel) (pa_cons (pv 1) (pa_cons (pe_glob (v := .ref (C 1)) rfl N.n1 rfl) pa_nil))) (pe_and (pe_cmpR op_eq (pe_fld (pv 0) rfl) (pe_fld (pv 1) rfl) (nomark _)) (pe_one (pe_cmpR op_eq (pe_fld (pv 0) rfl) (pe_fld (pv 1) rfl) (nomark _))))))), ?_⟩
    obtain ⟨t, ty, key⟩ := ot.ty k0
    obtain rfl : ci = 1 := gc
    obtain ⟨_, _, a, dx, rfl, ha⟩ := tg
    have ha : H a = some (.ins (C 1) dx [("_old", .str ca), ("_new", .str cb)]) := ha
    rcases key 1 (by decide) with ⟨no, nr⟩ | ⟨yes, ⟨di, da, db⟩, th, hc, rfl⟩
    · refine ⟨_, rfl, _, _, _, _, _, rfl, .own (C 1), ty, no, _, rfl, iteF ?_⟩
      rw [nr rfl] at q
      exact q H (fun _ _ e => e)
    · refine ⟨_, rfl, _, _, _, _, _, rfl, .own (C 1), ty, yes, _, rfl, iteT ?_⟩
      obtain rfl : di = 1 := hc
      obtain ⟨_, _, b, dy, rfl, hb⟩ := th
      have hb : H b = some (.ins (C 1) dy [("_old", .str da), ("_new", .str db)]) := hb
      have e : ceq ⟨1, ca, cb⟩ ⟨1, da, db⟩ = (decide (V.str ca = V.str da) && decide (V.str cb = V.str db)) := by
        show (decide ((1 : Nat) = 1) && _) = _
        rw [decide_eq_true rfl, Bool.true_and]
      rw [e] at q
      refine ⟨_, rfl, a, C 1, dx, _, _, rfl, ha, T.cls, T.one, look2a, _, rfl, b, C 1, dy, _, _, rfl, hb, T.cls, T.one, look2a, rfl, _, rfl, ?_⟩
      cases h1 : decide (V.str ca = V.str da) with
      | false =>
        rw [h1] at q
        exact iteF (q H (fun _ _ e => e))
      | true =>
        rw [h1] at q
        refine iteT ?_
        refine ⟨_, rfl, a, C 1, dx, _, _, rfl, ha, T.cls, T.oth, rfl, _, rfl, b, C 1, dy, _, _, rfl, hb, T.cls, T.oth, rfl, rfl, ?_⟩
        exact q H (fun _ _ e => e)
abbrev sQSwap : Stmt := cb 17 5
theorem scQSwap : FnScope ["self", "other"] ["self", "other"] (defScope sQSwap) := ⟨rfl, rfl, rfl, by decide +kernel, rfl, by decide +kernel, by decide +kernel⟩
theorem ok_QSwap {f : Addr} {fd : FuncData} (F : Fun K "__eq__" "Swap.__eq__" sQSwap f fd) (N : NamT mg C) (k0 : KC K C) (T : C2 K (C 2) "_letters" "_others") : FnOk P w K mg base CX0 1 f fd ["self", "other"] (spEqT C 2) := by
  refine F.ok scQSwap (fun vs H Q E h => ?_) (fun cdv A outer s H vs Q E hr h => ?_)
  · obtain ⟨g, x, y, r, rfl, _⟩ := h
    rfl
  · obtain ⟨⟨ci, ca, cb⟩, x, y, r, rfl, tg, gc, ot, q⟩ := h
    refine ⟨_, pss_one (by exact (ps_ret (pe_and (pe_callB call_isi (by rfl) N.isM (by decide +kernel) (pa_cons (pv 1) (pa_cons (pe_glob (v := .ref (C 2)) rfl N.n2 rfl) pa_nil))) (pe_and (pe_cmpR op_eq (pe_fld (pv 0) rfl) (pe_fld (pv 1) rfl) (nomark _)) (pe_one (pe_cmpR op_eq (pe_fld (pv 0) rfl) (pe_fld (pv 1) rfl) (nomark _))))))), ?_⟩
    obtain ⟨t, ty, key⟩ := ot.ty k0
    obtain rfl : ci = 2 := gc
    obtain ⟨_, _, a, dx, rfl, ha⟩ := tg
    have ha : H a = some (.ins (C 2) dx [("_letters", .str ca), ("_others", .str cb)]) := ha
    rcases key 2 (by decide) with ⟨no, nr⟩ | ⟨yes, ⟨di, da, db⟩, th, hc, rfl⟩
    · refine ⟨_, rfl, _, _, _, _, _, rfl, .own (C 2), ty, no, _, rfl, iteF ?_⟩
      rw [nr rfl] at q
      exact q H (fun _ _ e => e)
    · refine ⟨_, rfl, _, _, _, _, _, rfl, .own (C 2), ty, yes, _, rfl, iteT ?_⟩
      obtain rfl : di = 2 := hc
      obtain ⟨_, _, b, dy, rfl, hb⟩ := th
      have hb : H b = some (.ins (C 2) dy [("_letters", .str da), ("_others", .str db)]) := hb
      have e : ceq ⟨2, ca, cb⟩ ⟨2, da, db⟩ = (decide (V.str ca = V.str da) && decide (V.str cb = V.str db)) := by
        show (decide ((2 : Nat) = 2) && _) = _
        rw [decide_eq_true rfl, Bool.true_and]
      rw [e] at q
      refine ⟨_, rfl, a, C 2, dx, _, _, rfl, ha, T.cls, T.one, look2a, _, rfl, b, C 2, dy, _, _, rfl, hb, T.cls, T.one, look2a, rfl, _, rfl, ?_⟩
      cases h1 : decide (V.str ca = V.str da) with
      | false =>
        rw [h1] at q
        exact iteF (q H (fun _ _ e => e))
      | true =>
        rw [h1] at q
        refine iteT ?_
        refine ⟨_, rfl, a, C 2, dx, _, _, rfl, ha, T.cls, T.oth, rfl, _, rfl, b, C 2, dy, _, _, rfl, hb, T.cls, T.oth, rfl, rfl, ?_⟩
        exact q H (fun _ _ e => e)
abbrev sQFront : Stmt := cb 18 4
theorem scQFront : FnScope ["self", "other"] ["self", "other"] (defScope sQFront) := ⟨rfl, rfl, rfl, by decide +kernel, rfl, by decide +kernel, by decide +kernel⟩
theorem ok_QFront {f : Addr} {fd : FuncData} (F : Fun K "__eq__" "Front.__eq__" sQFront f fd) (N : NamT mg C) (k0 : KC K C) (T : C1 K (C 3) "_word") : FnOk P w K mg base CX0 1 f fd ["self", "other"] (spEqT C 3) := by
  refine F.ok scQFront (fun vs H Q E h => ?_) (fun cdv A outer s H vs Q E hr h => ?_)
  · obtain ⟨g, x, y, r, rfl, _⟩ := h
    rfl
  · obtain ⟨⟨ci, ca, cb⟩, x, y, r, rfl, tg, gc, ot, q⟩ := h
    refine ⟨_, pss_one (by exact (ps_ret (pe_and (pe_callB call_isi (by rfl) N.isM (by decide +kernel) (pa_cons (pv 1) (pa_cons (pe_glob (v := .ref (C 3)) rfl N.n3 rfl) pa_nil))) (pe_one (pe_cmpR op_eq (pe_fld (pv 0) rfl) (pe_fld (pv 1) rfl) (nomark _)))))), ?_⟩
    obtain ⟨t, ty, key⟩ := ot.ty k0
    obtain rfl : ci = 3 := gc
    obtain ⟨_, eb, a, dx, rfl, ha⟩ := tg
    obtain rfl : cb = "" := eb (show 3 ≤ (3 : Nat) by decide)
    have ha : H a = some (.ins (C 3) dx [("_word", .str ca)]) := ha
    rcases key 3 (by decide) with ⟨no, nr⟩ | ⟨yes, ⟨di, da, db⟩, th, hc, rfl⟩
    · refine ⟨_, rfl, _, _, _, _, _, rfl, .own (C 3), ty, no, _, rfl, iteF ?_⟩
      rw [nr rfl] at q
      exact q H (fun _ _ e => e)
    · refine ⟨_, rfl, _, _, _, _, _, rfl, .own (C 3), ty, yes, _, rfl, iteT ?_⟩
      obtain rfl : di = 3 := hc
      obtain ⟨_, ed, b, dy, rfl, hb⟩ := th
      obtain rfl : db = "" := ed (show 3 ≤ (3 : Nat) by decide)
      have hb : H b = some (.ins (C 3) dy [("_word", .str da)]) := hb
      have e : ceq ⟨3, ca, ""⟩ ⟨3, da, ""⟩ = decide (V.str ca = V.str da) := by
        show (decide ((3 : Nat) = 3) && (decide (V.str ca = V.str da) && decide (V.str "" = V.str ""))) = _
        rw [decide_eq_true rfl, Bool.true_and, decide_eq_true (p := V.str "" = V.str "") rfl, Bool.and_true]
      rw [e] at q
      refine ⟨_, rfl, a, C 3, dx, _, _, rfl, ha, T.cls, T.no, look1, _, rfl, b, C 3, dy, _, _, rfl, hb, T.cls, T.no, look1, rfl, ?_⟩
      exact q H (fun _ _ e => e)
abbrev sQBehind : Stmt := cb 19 4
theorem scQBehind : FnScope ["self", "other"] ["self", "other"] (defScope sQBehind) := ⟨rfl, rfl, rfl, by decide +kernel, rfl, by decide +kernel, by decide +kernel⟩
theorem ok_QBehind {f : Addr} {fd : FuncData} (F : Fun K "__eq__" "Behind.__eq__" sQBehind f fd) (N : NamT mg C) (k0 : KC K C) (T : C1 K (C 4) "_word") : FnOk P w K mg base CX0 1 f fd ["self", "other"] (spEqT C 4) := by
  refine F.ok scQBehind (fun vs H Q E h => ?_) (fun cdv A outer s H vs Q E hr h => ?_)
  · obtain ⟨g, x, y, r, rfl, _⟩ := h
    rfl
  · obtain ⟨⟨ci, ca, cb⟩, x, y, r, rfl, tg, gc, ot, q⟩ := h
    refine ⟨_, pss_one (by exact (ps_ret (pe_and (pe_callB call_isi (by rfl) N.isM (by decide +kernel) (pa_cons (pv 1) (pa_cons (pe_glob (v := .ref (C 4)) rfl N.n4 rfl) pa_nil))) (pe_one (pe_cmpR op_eq (pe_fld (pv 0) rfl) (pe_fld (pv 1) rfl) (nomark _)))))), ?_⟩
    obtain ⟨t, ty, key⟩ := ot.ty k0
    obtain rfl : ci = 4 := gc
    obtain ⟨_, eb, a, dx, rfl, ha⟩ := tg
    obtain rfl : cb = "" := eb (show 3 ≤ (4 : Nat) by decide)
    have ha : H a = some (.ins (C 4) dx [("_word", .str ca)]) := ha
    rcases key 4 (by decide) with ⟨no, nr⟩ | ⟨yes, ⟨di, da, db⟩, th, hc, rfl⟩
    · refine ⟨_, rfl, _, _, _, _, _, rfl, .own (C 4), ty, no, _, rfl, iteF ?_⟩
      rw [nr rfl] at q
      exact q H (fun _ _ e => e)
    · refine ⟨_, rfl, _, _, _, _, _, rfl, .own (C 4), ty, yes, _, rfl, iteT ?_⟩
      obtain rfl : di = 4 := hc
      obtain ⟨_, ed, b, dy, rfl, hb⟩ := th
      obtain rfl : db = "" := ed (show 3 ≤ (4 : Nat) by decide)
      have hb : H b = some (.ins (C 4) dy [("_word", .str da)]) := hb
      have e : ceq ⟨4, ca, ""⟩ ⟨4, da, ""⟩ = decide (V.str ca = V.str da) := by
        show (decide ((4 : Nat) = 4) && (decide (V.str ca = V.str da) && decide (V.str "" = V.str ""))) = _
        rw [decide_eq_true rfl, Bool.true_and, decide_eq_true (p := V.str "" = V.str "") rfl, Bool.and_true]
      rw [e] at q
      refine ⟨_, rfl, a, C 4, dx, _, _, rfl, ha, T.cls, T.no, look1, _, rfl, b, C 4, dy, _, _, rfl, hb, T.cls, T.no, look1, rfl, ?_⟩
      exact q H (fun _ _ e => e)
end
theorem nf_kit {K : PySem.W.Frag} {C : Addr} {t : Value} (h : PySem.W.kitOne K t (.ref C) = some false) : PySem.W.notFirst K C t = true := by
  unfold PySem.W.kitOne at h
  split at h
  · cases h
  · unfold PySem.W.kitCls at h
    dsimp only at h
    split at h
    · unfold PySem.W.notFirst
      rw [h]
      simp
    · cases h
theorem Oth.nf {K : PySem.W.Frag} {C : Nat → Addr} {H : Hp} {c : Ch} {y : V} {r : Bool} (k0 : KC K C) (o : Oth C H c y r) : ∃ t, TyX K H y t ∧ ∀ i, i < 5 → PySem.W.notFirst K (C i) t = true := by
  rcases o with ⟨z, rfl, rfl⟩ | ⟨d, td, rfl⟩
  · refine ⟨_, .base (.str z), fun i hi => nf_kit ?_⟩
    obtain ⟨l, hl⟩ := tyN_mro "str" (.inl rfl)
    exact kit_bi k0 hl hi
  · refine ⟨_, td.ty k0, fun i hi => ?_⟩
    by_cases e : d.i = i
    · rw [e]
      unfold PySem.W.notFirst
      simp
    · have k := k0.kit _ i td.1 hi
      rw [decide_eq_false e] at k
      exact nf_kit k
/-- the own __eq__ of the i-th class -/
structure EqAt (P : Program) (w : World) (K : PySem.W.Frag) (mg : Str → Option Value) (base : Heap) (C : Nat → Addr) (n i : Nat) (f : Addr) (fd : FuncData) : Prop where
  ok : FnOk P w K mg base CX0 n f fd ["self", "other"] (spEqT C i)
  at_ : PySem.W.findIn K (.ref (C i)) "__eq__" = some (some (.ref f))
  fn : PySem.W.isFn K (.ref f) = true
  b : Binds K fd ["self", "other"] []
  ne : PySem.W.findIn K (.ref (C i)) "__ne__" = some (some (.builtin "object.__ne__"))
/-- the reading of x == y, x != y -/
def rEqT (C : Nat → Addr) (neg : Bool) : R2 := fun x y H Q => ∃ c r, CA C H c x ∧ Oth C H c y r ∧ ∀ H', Same H H' → Q (.bl (r != neg)) H'
theorem op_t {X : Cx} {C : Nat → Addr} {n : Nat} {f : Nat → Addr} {fd : Nat → FuncData} (k0 : KC X.K C) (M : ∀ i, i < 5 → EqAt X.prog X.w X.K X.mg X.base C n i (f i) (fd i)) (room : Room n X.A) : OpR X (compareOp .Eq) (rEqT C false) := by
  intro pins s σ H x y v u Q I rx ry want
  obtain ⟨c, r, tg, ot, q⟩ := want
  obtain ⟨t, ty, nf⟩ := ot.nf k0
  have tg0 := tg
  obtain ⟨g8, _, a, dx, rfl, ha⟩ := tg
  have F := M _ g8
  exact op_own F.ok F.at_ F.fn F.b pass0 room pins s σ H (.ref a) y v u Q I rx ry ⟨a, dx, _, t, rfl, ha, ty, nf _ g8, c, .ref a, y, r, rfl, tg0, rfl, ot, fun H' sm => ⟨r, rfl, q H' sm⟩⟩
theorem op_tNe {X : Cx} {C : Nat → Addr} {n : Nat} {f : Nat → Addr} {fd : Nat → FuncData} (k0 : KC X.K C) (M : ∀ i, i < 5 → EqAt X.prog X.w X.K X.mg X.base C n i (f i) (fd i)) (room : Room (n + 1) X.A) : OpR X (compareOp .NotEq) (rEqT C true) := by
  intro pins s σ H x y v u Q I rx ry want
  obtain ⟨c, r, tg, ot, q⟩ := want
  obtain ⟨t, ty, nf⟩ := ot.nf k0
  have tg0 := tg
  obtain ⟨g8, _, a, dx, rfl, ha⟩ := tg
  have F := M _ g8
  exact op_ownNe F.ok F.at_ F.fn F.b pass0 room F.ne (k0.obj _ g8) pins s σ H (.ref a) y v u Q I rx ry ⟨a, dx, _, t, rfl, ha, ty, nf _ g8, c, .ref a, y, r, rfl, tg0, rfl, ot, fun H' sm => ⟨r, rfl, q H' sm⟩⟩
end LA
end
section
set_option Elab.async false
set_option linter.all false
set_option maxRecDepth 100000
set_option maxHeartbeats 8000000
namespace LA
open PySem L2 XS XT XK XO
abbrev sIsRow : Stmt := top 27
abbrev sAny : Stmt := top 30
abbrev sOdd : Stmt := top 32
/-- texts hold characters alone -/
def Chars (x : V) : Prop := ∀ z, x = .str z → ∀ c ∈ cod z, c < 1114112
/-- what the law may draw -/
def Odd (H : Hp) (x : V) : Prop := AnyV H x ∧ Chars x
theorem fine_str {H : Hp} (z : Str) (l : z.length < 4000) (c : (cod z).all (fun c => decide (c < 1114112)) = true) : Odd H (.str z) := ⟨.str z l, fun y e k hk => by
  injection e with e
  subst e
  exact of_decide_eq_true (List.all_eq_true.mp c k hk)⟩
theorem same_upd2 {H : Hp} {p : Addr} {o u : HO} (hp : H p = none) : Same H (upd (upd H p o) p u) := by
  rw [upd_upd]
  exact same_upd hp
theorem all_any {H : Hp} {t1 t2 l3 d4 l5 t6 t8 l9 l10 t11 l12 t13 d7 : Addr} (f_t1 : H t1 = some (.tup [])) (f_t2 : H t2 = some (.tup [.str "a"])) (f_l3 : H l3 = some (.lst [.str "a", .str "b"])) (f_d4 : H d4 = some (.dK [])) (f_l5 : H l5 = some (.lst [.int 1])) (f_t6 : H t6 = some (.tup [.str "a", .int 1])) (f_t8 : H t8 = some (.tup [.str "a\tb"])) (f_l9 : H l9 = some (.lst [.str "a"])) (f_l10 : H l10 = some (.lst [.ref l9])) (f_t11 : H t11 = some (.tup [.int 0, .int 1])) (f_l12 : H l12 = some (.lst [])) (f_t13 : H t13 = some (.tup [.str "number", .int 1])) (f_d7 : H d7 = some (.dK [(Sum.inr "a", .str "b")])) :
    ∀ v ∈ ([.non, .bl true, .bl false, .int 0, .int 1, .int (-1), .int (10 ^ (59 : Int).toNat), .str "", .str "a", .str "\t", .str "a\n", .str "ab", .ref t1, .ref t2, .ref l3, .ref d4, .ref l5, .ref t6, .ref d7, .str "print", .str (Txt.mul "a" 9), .str (Txt.mul "a" 21), .ref t8, .ref l10, .ref t11, .str "aa", .ref l12, .ref t13] : List V), Odd H v := by
  intro v hv
  simp only [List.mem_cons, List.not_mem_nil, or_false] at hv
  rcases hv with rfl | rfl | rfl | rfl | rfl | rfl | rfl | rfl | rfl | rfl | rfl | rfl | rfl | rfl | rfl | rfl | rfl | rfl | rfl | rfl | rfl | rfl | rfl | rfl | rfl | rfl | rfl | rfl
  · exact ⟨.non, fun z e => nomatch e⟩
  · exact ⟨.bl _, fun z e => nomatch e⟩
  · exact ⟨.bl _, fun z e => nomatch e⟩
  · exact ⟨.int _, fun z e => nomatch e⟩
  · exact ⟨.int _, fun z e => nomatch e⟩
  · exact ⟨.int _, fun z e => nomatch e⟩
  · exact ⟨.int _, fun z e => nomatch e⟩
  · exact fine_str _ (by decide +kernel) (by decide +kernel)
  · exact fine_str _ (by decide +kernel) (by decide +kernel)
  · exact fine_str _ (by decide +kernel) (by decide +kernel)
  · exact fine_str _ (by decide +kernel) (by decide +kernel)
  · exact fine_str _ (by decide +kernel) (by decide +kernel)
  · exact ⟨.tup f_t1, fun z e => nomatch e⟩
  · exact ⟨.tup f_t2, fun z e => nomatch e⟩
  · exact ⟨.lst f_l3, fun z e => nomatch e⟩
  · exact ⟨.dct f_d4, fun z e => nomatch e⟩
  · exact ⟨.lst f_l5, fun z e => nomatch e⟩
  · exact ⟨.tup f_t6, fun z e => nomatch e⟩
  · exact ⟨.dct f_d7, fun z e => nomatch e⟩
  · exact fine_str _ (by decide +kernel) (by decide +kernel)
  · exact fine_str _ (by decide +kernel) (by decide +kernel)
  · exact fine_str _ (by decide +kernel) (by decide +kernel)
  · exact ⟨.tup f_t8, fun z e => nomatch e⟩
  · exact ⟨.lst f_l10, fun z e => nomatch e⟩
  · exact ⟨.tup f_t11, fun z e => nomatch e⟩
  · exact fine_str _ (by decide +kernel) (by decide +kernel)
  · exact ⟨.lst f_l12, fun z e => nomatch e⟩
  · exact ⟨.tup f_t13, fun z e => nomatch e⟩
section
variable {P : Program} {w : World} {K : PySem.W.Frag} {mg : Str → Option Value} {base : Heap}
def spAny : Sp := fun vs H Q _ => ∃ (d c : Addr) (n : Int) (ns : List Int), vs = [.ref d] ∧ PenAt H d c n ns ∧ n < 1000000 ∧ ∀ (v : V) (H' : Hp), Odd H' v → PenAt H' d c (n + 1) ns → But d H H' → Q v H'
theorem scA : FnScope ["_law_pen_here", "_law_some"] ["_law_pen_here"] (defScope sAny) := ⟨rfl, rfl, rfl, by decide +kernel, rfl, by decide +kernel, by decide +kernel⟩
theorem ok_any {f fP : Addr} {fd fdP : FuncData} (F : Fun K "_law_any_value" "_law_any_value" sAny f fd) (M : PickAt P w K mg base fP fdP) :
    FnOk P w K mg base CX0 3 f fd ["_law_pen_here"] spAny := by
  refine F.ok scA (fun vs H Q E h => ?_) (fun cdv A outer s H vs Q E hr h => ?_)
  · obtain ⟨d, c, n, ns, rfl, _⟩ := h
    rfl
  · obtain ⟨d, c, n, ns, rfl, pen, hn, k⟩ := h
    have hr2 : Room 2 _ := hr.mono (by decide)
    refine ⟨_, pss_cons (by exact (ps_set (i := 1) scA.nd rfl (.inl rfl) (pe_lst (pa_cons pe_non (pa_cons pe_bl (pa_cons pe_bl (pa_cons pe_int (pa_cons pe_int (pa_cons (pe_un un_neg pe_int) (pa_cons (pe_op op_pow pe_int pe_int) (pa_cons pe_str (pa_cons pe_str (pa_cons pe_str (pa_cons pe_str (pa_cons pe_str (pa_cons (pe_tup pa_nil) (pa_cons (pe_tup (pa_cons pe_str pa_nil)) (pa_cons (pe_lst (pa_cons pe_str (pa_cons pe_str pa_nil))) (pa_cons pe_dnewK (pa_cons (pe_lst (pa_cons pe_int pa_nil)) pa_nil))))))))))))))))))))
      (pss_cons (by exact (ps_set (i := 1) scA.nd rfl (.inl rfl) (pe_op op_cat (pv 1) (pe_lst (pa_cons (pe_tup (pa_cons pe_str (pa_cons pe_int pa_nil))) (pa_cons (pe_disp (pps_cons pe_str pe_str pps_nil) (by rfl) (by rfl) (fun z => by cases z) (by decide)) (pa_cons pe_str (pa_cons (pe_op op_mul_str pe_str pe_int) (pa_cons (pe_op op_mul_str pe_str pe_int) (pa_cons (pe_tup (pa_cons pe_str pa_nil)) (pa_cons (pe_lst (pa_cons (pe_lst (pa_cons pe_str pa_nil)) pa_nil)) (pa_cons (pe_tup (pa_cons pe_int (pa_cons pe_int pa_nil))) (pa_cons pe_str (pa_cons (pe_lst pa_nil) pa_nil))))))))))))))
      (pss_one (by exact (ps_ret (pe_call M.ok hr2 rfl M.m M.k M.b .nil pass0 (pa_cons (pv 0) (pa_cons (pe_op op_cat (pv 1) (pe_lst (pa_cons (pe_tup (pa_cons pe_str (pa_cons pe_int pa_nil))) pa_nil))) pa_nil))))))), ?_⟩
    refine ⟨_, rfl, _, _, rfl, rfl, ⟨by decide, by decide, by decide⟩, (by show 0 ≤ sizeLine; decide), fun t1 n1 => ⟨(by show 1 ≤ sizeLine; decide), fun t2 n2 => ⟨(by show 2 ≤ sizeLine; decide), fun l3 n3 => fun d4 n4 => ⟨(by show 1 ≤ sizeLine; decide), fun l5 n5 => ⟨(by show 17 ≤ sizeLine; decide), fun L1 n6 => ?_⟩⟩⟩⟩⟩
    refine ⟨_, rfl, (by show 2 ≤ sizeLine; decide), fun t6 m1 => fun d7 m2 => ⟨upd_same, [(Sum.inr "a", .str "b")], rfl, by decide, _, _, rfl, rfl, by decide, by decide, by decide, _, _, rfl, rfl, by decide, by decide, by decide, (by show 1 ≤ sizeLine; decide), fun t8 m3 => ⟨(by show 1 ≤ sizeLine; decide), fun l9 m4 => ⟨(by show 1 ≤ sizeLine; decide), fun l10 m5 => ⟨(by show 2 ≤ sizeLine; decide), fun t11 m6 => ⟨(by show 0 ≤ sizeLine; decide), fun l12 m7 => ⟨(by show 10 ≤ sizeLine; decide), fun L2 m8 => ?_⟩⟩⟩⟩⟩⟩⟩
    have g2 := same_upd2 (o := .dK []) (u := .dK (mergeK [] [(Sum.inr "a", .str "b")])) m2
    refine ⟨L1, L2, _, _, rfl, rfl, (g2.trans ((same_upd m3).trans ((same_upd m4).trans ((same_upd m5).trans ((same_upd m6).trans ((same_upd m7).trans (same_upd m8))))))) _ _ ((same_upd m1) _ _ upd_same), upd_same, (by show 17 + 10 ≤ sizeLine; decide), fun L3 m9 => ?_⟩
    refine ⟨_, rfl, _, rfl, (by show 2 ≤ sizeLine; decide), fun t13 m10 => ⟨(by show 1 ≤ sizeLine; decide), fun L4 m11 => ⟨L3, L4, _, _, rfl, rfl, ((same_upd m10).trans (same_upd m11)) _ _ upd_same, upd_same, (by show 27 + 1 ≤ sizeLine; decide), fun L5 m12 => ?_⟩⟩⟩
    have T17 := fun o => same_upd (o := o) m12
    have T16 := fun o => (same_upd m11).trans (T17 o)
    have T15 := fun o => (same_upd m10).trans (T16 o)
    have T14 := fun o => (same_upd m9).trans (T15 o)
    have T13 := fun o => (same_upd m8).trans (T14 o)
    have T12 := fun o => (same_upd m7).trans (T13 o)
    have T11 := fun o => (same_upd m6).trans (T12 o)
    have T10 := fun o => (same_upd m5).trans (T11 o)
    have T9 := fun o => (same_upd m4).trans (T10 o)
    have T8 := fun o => (same_upd m3).trans (T9 o)
    have T7 := fun o => g2.trans (T8 o)
    have T6 := fun o => (same_upd m1).trans (T7 o)
    have T5 := fun o => (same_upd n6).trans (T6 o)
    have T4 := fun o => (same_upd n5).trans (T5 o)
    have T3 := fun o => (same_upd n4).trans (T4 o)
    have T2 := fun o => (same_upd n3).trans (T3 o)
    have T1 := fun o => (same_upd n2).trans (T2 o)
    have T0 := fun o => (same_upd n1).trans (T1 o)
    refine ⟨d, c, n, ns, _, rfl, pen.keep (T0 _), hn, .inl ⟨L5, _, rfl, upd_same, (by show 0 < 28; decide), (by show 28 < 1000000; decide), fun v H' hv pen' but => ?_⟩⟩
    refine k v H' ?_ pen' ((But.same (T0 _)).trans but)
    obtain ⟨kvs, _, _, p⟩ := pen
    have pd := p.dc
    have e4 : d4 ≠ d := Ne.symm (ne_of_none (((same_upd n1).trans ((same_upd n2).trans (same_upd n3))) _ _ pd) n4)
    have e7 : d7 ≠ d := Ne.symm (ne_of_none (((same_upd n1).trans ((same_upd n2).trans ((same_upd n3).trans ((same_upd n4).trans ((same_upd n5).trans ((same_upd n6).trans (same_upd m1))))))) _ _ pd) m2)
    have pf := fun o => (T0 o) _ _ pd
    exact all_any (but _ _ (T1 _ _ _ upd_same) (ne_of (T1 (.lst []) _ _ upd_same) (pf (.lst [])) (by intro z; cases z))) (but _ _ (T2 _ _ _ upd_same) (ne_of (T2 (.lst []) _ _ upd_same) (pf (.lst [])) (by intro z; cases z))) (but _ _ (T3 _ _ _ upd_same) (ne_of (T3 (.lst []) _ _ upd_same) (pf (.lst [])) (by intro z; cases z))) (but _ _ (T4 _ _ _ upd_same) e4) (but _ _ (T5 _ _ _ upd_same) (ne_of (T5 (.lst []) _ _ upd_same) (pf (.lst [])) (by intro z; cases z))) (but _ _ (T7 _ _ _ upd_same) (ne_of (T7 (.lst []) _ _ upd_same) (pf (.lst [])) (by intro z; cases z))) (but _ _ (T9 _ _ _ upd_same) (ne_of (T9 (.lst []) _ _ upd_same) (pf (.lst [])) (by intro z; cases z))) (but _ _ (T10 _ _ _ upd_same) (ne_of (T10 (.lst []) _ _ upd_same) (pf (.lst [])) (by intro z; cases z))) (but _ _ (T11 _ _ _ upd_same) (ne_of (T11 (.lst []) _ _ upd_same) (pf (.lst [])) (by intro z; cases z))) (but _ _ (T12 _ _ _ upd_same) (ne_of (T12 (.lst []) _ _ upd_same) (pf (.lst [])) (by intro z; cases z))) (but _ _ (T13 _ _ _ upd_same) (ne_of (T13 (.lst []) _ _ upd_same) (pf (.lst [])) (by intro z; cases z))) (but _ _ (T16 _ _ _ upd_same) (ne_of (T16 (.lst []) _ _ upd_same) (pf (.lst [])) (by intro z; cases z))) (but _ _ (T8 _ _ _ upd_same) e7) v hv
end
end LA
end
section
set_option Elab.async false
set_option linter.all false
set_option maxRecDepth 100000
set_option maxHeartbeats 8000000
namespace LA
open PySem L2 XS XT XK XO
theorem sgs_in : ∀ c ∈ cod sgsZ, Lt c := by decide +kernel
theorem sgs_all : ∀ c, c < 127 → Lt c → c ∈ cod sgsZ := by decide +kernel
theorem sgs_iff (c : Nat) : c ∈ cod sgsZ ↔ Lt c := ⟨sgs_in c, fun h => sgs_all c (by have := h.2.1; omega) h⟩
theorem eqv_nil (ds : List PyData) : PyData.eqv (.list ds) (.list []) = ds.isEmpty := by
  cases ds <;> rfl
theorem dp_cs {K : PySem.W.Frag} {H : Hp} : ∀ l : List Nat, DpAll K H (cs l) (l.map fun c => PyData.str (sg c))
  | [] => .nil
  | c :: r => .cons (.str (sg c)) (dp_cs r)
theorem lay_cs : ∀ l : List Nat, (∀ c ∈ l, c < 1114112) → PyData.canLayAll0 (l.map fun c => PyData.str (sg c)) = true
  | [], _ => rfl
  | c :: r, h => by
    have hc := h c
          (List.mem_cons_self ..)
    have h1 : PyData.strOk (sg c) = true := by
      show (#[c] : Array Nat).all (· < 0x110000) = true
      simp
      omega
    simp only [List.map, PyData.canLayAll0, PyData.canLay0, h1, lay_cs r (fun x hx => h x (List.mem_cons_of_mem _ hx)), Bool.and_self]
theorem deep_cs : ∀ l : List Nat, PyData.depthAll (l.map fun c => PyData.str (sg c)) = 0
  | [] => rfl
  | c :: r => by
    show max (PyData.depth (.str (sg c))) (PyData.depthAll (r.map fun c => PyData.str (sg c))) = 0
    rw [deep_cs r]
    rfl
theorem shaped_cs (l : List Nat) (h : ∀ c ∈ l, c < 1114112) : SeqAt.shaped (.list (l.map fun c => PyData.str (sg c))) = true := by
  unfold SeqAt.shaped
  have h1 : PyData.canLay0 (.list (l.map fun c => PyData.str (sg c))) = true := by
    unfold PyData.canLay0
    exact lay_cs l h
  have h2 : PyData.depth (.list (l.map fun c => PyData.str (sg c))) ≤ 64 := by
    unfold PyData.depth
    rw [deep_cs]
    decide
  rw [h1, decide_eq_true h2]
  rfl
section
variable {P : Program} {w : World} {K : PySem.W.Frag} {mg : Str → Option Value} {base : Heap}
/-- all letters, in a text -/
def spLit : Sp := fun vs H Q _ => vs = [] ∧ Q (.str sgsZ) H
theorem ok_signs {f : Addr} {fd : FuncData} (F : Fun K "_law_signs" "_law_signs" sSigns f fd) : FnOk P w K mg base CX0 1 f fd [] spLit := by
  refine F.ok scG (fun vs H Q E h => ?_) (fun cdv A outer s H vs Q E hr h => ?_)
  · obtain ⟨rfl, _⟩ := h
    rfl
  · obtain ⟨rfl, q⟩ := h
    exact ⟨_, pss_one (by exact (ps_ret pe_str)), q⟩
def rNotG : R2 := fun x y H Q => ∃ (c : Nat) (z : Str), x = .str ⟨#[c]⟩ ∧ y = .str z ∧ Q (.bl (!decide (c ∈ z.cps.toList))) H
/-- is_row of a text -/
def spIsRow : Sp := fun vs H Q _ => ∃ z : Str, vs = [.str z] ∧ z.length < 4000 ∧ (∀ c ∈ cod z, c < 1114112) ∧ ∀ H', Same H H' → Q (.bl (lineB z)) H'
theorem scIr : FnScope ["_law_thing", "_law_sign"] ["_law_thing"] (defScope sIsRow) := ⟨rfl, rfl, rfl, by decide +kernel, rfl, by decide +kernel, by decide +kernel⟩
theorem ok_isRow {f f1 : Addr} {fd fd1 : FuncData} (F : Fun K "_law_is_row" "_law_is_row" sIsRow f fd) (isM : mg "isinstance" = none) (mS : mg "str" = none) (M : CallOf P w K mg base 1 "_law_signs" [] spLit f1 fd1) : FnOk P w K mg base CX0 2 f fd ["_law_thing"] spIsRow := by
  refine F.ok scIr (fun vs H Q E h => ?_) (fun cdv A outer s H vs Q E hr h => ?_)
  · obtain ⟨z, rfl, _⟩ := h
    rfl
  · obtain ⟨z, rfl, small, ch, q⟩ := h
    refine ⟨_, pss_one (by exact (ps_ret (pe_and (pe_callB call_isi (by rfl) isM (by decide +kernel) (pa_cons (pv 0) (pa_cons (pe_bltn (v := .ty "str") (by rfl) mS (by decide +kernel) rfl) pa_nil))) (pe_one (pe_cmpR (op_eqD hr.units) (pe_lc (own := [("_law_sign", 1)]) (g := gName 1) (tt := tTest (tOp rNotG (tVar 1) (tCall spLit [] (fun _ _ _ => False) tNil))) (te := tVar 1) rfl scIr.nd (pi_str (pv 0))
        (blkOk_by (N := ["_law_thing", "_law_sign"]) (sc := defScope sIsRow) (by decide +kernel))
        (fun _ _ _ _ _ => by exact (pg_name (i := 1) scIr.nd rfl (Or.inl rfl)))
        (fun _ _ _ _ _ => by exact (pts_one (pt_cmpR op_notIn_sign (pv 1) (pe_call0 M.ok hr rfl M.m M.k M.b .nil pass0) (by rfl))))
        (fun _ _ _ _ _ => by exact (pv 1))) (pe_lst pa_nil) (nomark _)))))), ?_⟩
    refine ⟨_, rfl, _, _, _, _, true, rfl, .ty _, .base (.str _), kit_ty (by decide +kernel), _, rfl, iteT ?_⟩
    refine ⟨_, rfl, z, rfl, fun D nD => ?_⟩
    refine lc_it walk_str (fun i G => G D = some (.lst (cs (((cod z).take i).filter fun c => !decide (c ∈ cod sgsZ)))) ∧ Same H G) ⟨upd_same, same_upd nD⟩ (fun _ _ _ _ => True.intro) (fun i x G G' hi p yl => ?_) (fun G p => ?_)
    · obtain ⟨pD, pS⟩ := p
      obtain ⟨rfl, c, hc, rfl⟩ := yl
      have hc2 : (cod z)[i]? = some c := by
        show z.cps.toList[i]? = some c
        rw [Array.getElem?_toList]
        exact hc
      refine ⟨rfl, ?_⟩
      refine ⟨_, rfl, rfl, c, sgsZ, rfl, rfl, ?_⟩
      have ext : ((cod z).take (i + 1)).filter (fun c => !decide (c ∈ cod sgsZ)) = ((cod z).take i).filter (fun c => !decide (c ∈ cod sgsZ)) ++ (if (!decide (c ∈ cod sgsZ)) = true then [c] else []) := by
        rw [List.take_succ, hc2, List.filter_append]
        congr 1
        show List.filter _ [c] = _
        rw [List.filter_cons]
        split <;> rfl
      refine ⟨_, rfl, ?_⟩
      have lenz : ((cod z).take i).length ≤ z.length := by
        rw [List.length_take, len_cod]
        exact Nat.min_le_right _ _
      by_cases hin : c ∈ cod sgsZ
      · rw [decide_eq_true hin, if_neg (show ¬ (!true) = true by decide), List.append_nil] at ext
        rw [decide_eq_true hin]
        show (if (!true) = true then _ else _)
        rw [if_neg (show ¬ (!true) = true by decide), ext]
        exact ⟨pD, pS⟩
      · rw [decide_eq_false hin, if_pos (show (!false) = true by decide)] at ext
        rw [decide_eq_false hin]
        show (if (!false) = true then _ else _)
        rw [if_pos (show (!false) = true by decide)]
        refine ⟨_, rfl, _, pD, ?_, ?_, ?_⟩
        · show (cs _).length < _
          unfold cs
          rw [List.length_map]
          exact Nat.lt_of_le_of_lt (Nat.le_trans (List.length_filter_le _ _) lenz) (Nat.lt_trans small (by decide))
        · rw [ext]
          show _ = some (HO.lst (cs (_ ++ [c])))
          unfold cs
          rw [List.map_append]
          exact upd_same
        · intro b o e
          rw [upd_ne]
          · exact pS b o e
          · exact ne_of_none e nD
    · obtain ⟨pD, pS⟩ := p
      have all_ : (cod z).take z.cps.size = cod z := List.take_of_length_le (by rw [len_cod]; exact Nat.le_refl _)
      rw [all_] at pD
      refine ⟨(by show 0 ≤ sizeLine; decide), fun p np => ?_⟩
      generalize hR : (cod z).filter (fun c => !decide (c ∈ cod sgsZ)) = R at pD
      have okR : ∀ c ∈ R, c < 1114112 := fun c hc => ch c (by rw [← hR] at hc; exact (List.mem_filter.mp hc).1)
      refine ⟨_, .list [], .lst (SqL.of ((same_upd np) _ _ pD)) (dp_cs R), .lst (SqL.of upd_same) .nil, shaped_cs R okR, by decide +kernel, ?_⟩
      rw [eqv_nil]
      have e : (R.map fun c => PyData.str (sg c)).isEmpty = lineB z := by
        rw [← hR]
        unfold lineB
        cases hl : (cod z).all (fun c => decide (Lt c)) with
        | true =>
          have n0 : (cod z).filter (fun c => !decide (c ∈ cod sgsZ)) = [] := by
            rw [List.filter_eq_nil_iff]
            intro c hc
            have := of_decide_eq_true (List.all_eq_true.mp hl c hc)
            rw [decide_eq_true ((sgs_iff c).mpr this)]
            decide
          rw [n0]
          rfl
        | false =>
          obtain ⟨c, hc, nc⟩ := List.all_eq_false.mp hl
          have nl : ¬ Lt c := fun z => nc (decide_eq_true z)
          have m : c ∈ (cod z).filter (fun c => !decide (c ∈ cod sgsZ)) := List.mem_filter.mpr ⟨hc, by rw [decide_eq_false fun z => nl ((sgs_iff c).mp z)]; rfl⟩
          cases hF : (cod z).filter (fun c => !decide (c ∈ cod sgsZ)) with
          | nil =>
            rw [hF] at m
            cases m
          | cons x r => rfl
      rw [e]
      exact q _ (pS.trans (same_upd np))
end
end LA
end
section
set_option Elab.async false
set_option linter.all false
set_option maxRecDepth 100000
set_option maxHeartbeats 8000000
namespace LA
open PySem L2 XS XT XK XO
theorem Odd.same {H H' : Hp} {x : V} (s : Same H H') (h : Odd H x) : Odd H' x := ⟨h.1.same s, h.2⟩
theorem Odd.but {H H' : Hp} {x : V} {d : Addr} {kvs kvs' : List (Key × V)} (h : Odd H x) (b : But d H H') (hd : H d = some (.dK kvs)) (hd' : H' d = some (.dK kvs')) : Odd H' x := by
  refine ⟨?_, h.2⟩
  cases h.1 with
  | non => exact .non
  | bl b => exact .bl b
  | int i => exact .int i
  | str z e => exact .str z e
  | lst e => exact .lst (b _ _ e (ne_of e hd (by intro z; cases z)))
  | tup e => exact .tup (b _ _ e (ne_of e hd (by intro z; cases z)))
  | @dct a l e =>
    by_cases h : a = d
    · rw [h]
      exact .dct hd'
    · exact .dct (b _ _ e h)
theorem PenAt.dict {H : Hp} {d c : Addr} {n : Int} {ns : List Int} (p : PenAt H d c n ns) : ∃ kvs, H d = some (.dK kvs) := by
  obtain ⟨kvs, _, _, p⟩ := p
  exact ⟨kvs, p.dc⟩
section
variable {P : Program} {w : World} {K : PySem.W.Frag} {mg : Str → Option Value} {base : Heap}
def spOdd : Sp := fun vs H Q _ => ∃ (d c : Addr) (n : Int) (ns : List Int), vs = [.ref d] ∧ PenAt H d c n ns ∧ n + 3 < 1000000 ∧ ∀ (v : V) (H' : Hp), Odd H' v → PenAt H' d c (n + 3) ns → But d H H' → Q v H'
theorem scOd : FnScope ["_law_pen_here", "_law_some"] ["_law_pen_here"] (defScope sOdd) := ⟨rfl, rfl, rfl, by decide +kernel, rfl, by decide +kernel, by decide +kernel⟩
def oddL : List V := [.str (Txt.mul "a" 8), .str (Txt.mul "a" 9), .str "ab", .str "ba", .str "aa", .str "abc", .str "", .str "a\tb", .str sgsZ, .str (revS sgsZ)]
theorem odd_some {H : Hp} : ∀ v ∈ oddL, Odd H v := by
  intro v hv
  unfold oddL at hv
  simp only [List.mem_cons, List.not_mem_nil, or_false] at hv
  rcases hv with rfl | rfl | rfl | rfl | rfl | rfl | rfl | rfl | rfl | rfl <;> exact fine_str _ (by decide +kernel) (by decide +kernel)
theorem ok_odd {f fP fS fA : Addr} {fd fdP fdS fdA : FuncData} (F : Fun K "_law_odd" "_law_odd" sOdd f fd) (M : PickAt P w K mg base fP fdP) (S : CallOf P w K mg base 1 "_law_signs" [] spLit fS fdS) (B : CallOf P w K mg base 3 "_law_any_value" ["_law_pen_here"] spAny fA fdA) :
    FnOk P w K mg base CX0 4 f fd ["_law_pen_here"] spOdd := by
  refine F.ok scOd (fun vs H Q E h => ?_) (fun cdv A outer s H vs Q E hr h => ?_)
  · obtain ⟨d, c, n, ns, rfl, _⟩ := h
    rfl
  · obtain ⟨d, c, n, ns, rfl, pen, hn, k⟩ := h
    have hr1 : Room 1 _ := hr.mono (by decide)
    have hr2 : Room 2 _ := hr.mono (by decide)
    refine ⟨_, pss_cons (by exact (ps_set (i := 1) scOd.nd rfl (.inl rfl) (pe_lst (pa_cons (pe_op op_mul_str pe_str pe_int) (pa_cons (pe_op op_mul_str pe_str pe_int) (pa_cons pe_str (pa_cons pe_str (pa_cons pe_str (pa_cons pe_str (pa_cons pe_str (pa_cons pe_str (pa_cons (pe_call0 S.ok hr1 rfl S.m S.k S.b .nil pass0) (pa_cons (pe_revS (pe_call0 S.ok hr1 rfl S.m S.k S.b .nil pass0)) pa_nil)))))))))))))
      (pss_one (by exact (ps_ret (pe_call M.ok hr2 rfl M.m M.k M.b .nil pass0 (pa_cons (pv 0) (pa_cons (pe_op op_cat (pv 1) (pe_lst (pa_cons (pe_call B.ok hr rfl B.m B.k B.b .nil pass0 (pa_cons (pv 0) pa_nil)) (pa_cons (pe_call B.ok hr rfl B.m B.k B.b .nil pass0 (pa_cons (pv 0) pa_nil)) pa_nil)))) pa_nil)))))), ?_⟩
    refine ⟨_, _, rfl, rfl, by decide, by decide, by decide, _, _, rfl, rfl, by decide, by decide, by decide, rfl, rfl, sgsZ, rfl, by decide +kernel, (by show 10 ≤ sizeLine; decide), fun L1 n1 => ?_⟩
    refine ⟨_, rfl, _, rfl, _, rfl, d, c, n, ns, rfl, pen.keep (same_upd n1), by omega, fun v1 H1 o1 pen1 b1 => ⟨_, rfl, d, c, n + 1, ns, rfl, pen1, by omega, fun v2 H2 o2 pen2 b2 => ⟨(by show 2 ≤ sizeLine; decide), fun L2 n2 => ?_⟩⟩⟩
    obtain ⟨kd, hd⟩ := pen.dict
    obtain ⟨kd1, hd1⟩ := pen1.dict
    obtain ⟨kd2, hd2⟩ := pen2.dict
    have ne1 : L1 ≠ d := Ne.symm (ne_of_none hd n1)
    have l1 := (same_upd (o := .lst [v1, v2]) n2) _ _ (b2 _ _ (b1 _ _ upd_same ne1) ne1)
    refine ⟨L1, L2, _, _, rfl, rfl, l1, upd_same, (by show 10 + 2 ≤ sizeLine; decide), fun L3 n3 => ?_⟩
    have s3 := (same_upd (o := .lst [v1, v2]) n2).trans (same_upd (o := .lst (oddL ++ [v1, v2])) n3)
    have o1' := (o1.but b2 hd1 hd2).same s3
    have o2' := o2.same s3
    have hd3 := s3 _ _ hd2
    refine ⟨d, c, n + 2, ns, _, rfl, (by rw [show n + 2 = n + 1 + 1 by omega]; exact pen2.keep s3), by omega, .inl ⟨L3, _, rfl, upd_same, (by show 0 < 12; decide), (by show 12 < 1000000; decide), fun v H' hv pen' but => ?_⟩⟩
    obtain ⟨kd', hd'⟩ := pen'.dict
    refine k v H' ?_ (by rw [show n + 3 = n + 2 + 1 by omega]; exact pen') ((But.same (same_upd n1)).trans ((b1.trans b2).trans ((But.same s3).trans but)))
    rcases List.mem_append.mp hv with m | m
    · exact odd_some v m
    · have e : v = v1 ∨ v = v2 := by simpa using m
      rcases e with rfl | rfl
      · exact o1'.but but hd3 hd'
      · exact o2'.but but hd3 hd'
end
end LA
end
section
set_option Elab.async false
set_option linter.all false
set_option maxRecDepth 100000
set_option maxHeartbeats 8000000
namespace LA
open PySem L2 XS XT XK XO
abbrev sWof : Stmt := top 33
abbrev sDue : Stmt := top 34
theorem nodup_len {α : Type} [DecidableEq α] : ∀ {l m : List α}, l.Nodup → (∀ x ∈ l, x ∈ m) → l.length ≤ m.length
  | [], m, _, _ => Nat.zero_le _
  | a :: l, m, nd, h => by
    have ha : a ∈ m := h a (List.mem_cons_self ..)
    obtain ⟨n1, n2⟩ := List.nodup_cons.mp nd
    have r := nodup_len (l := l) (m := m.erase a) n2 fun x hx => (List.mem_erase_of_ne (fun e => n1 (by rw [← e]; exact hx))).mpr (h x (List.mem_cons_of_mem _ hx))
    rw [List.length_erase_of_mem ha] at r
    have := List.length_pos_of_mem ha
    rw [List.length_cons]
    omega
theorem lineB_of {z : Str} : lineB z = true ↔ ∀ c ∈ cod z, Lt c := by
  unfold lineB
  rw [List.all_eq_true]
  exact ⟨fun h c hc => of_decide_eq_true (h c hc), fun h c hc => decide_eq_true (h c hc)⟩
/-- a word of at most m letters -/
def wOf (m : Int) (z : Str) : Bool := lineB z && (decide (1 ≤ (z.length : Int)) && decide ((z.length : Int) ≤ m))
theorem wOf_short (z : Str) : wOf 8 z = shortB z := by
  unfold wOf shortB wordB
  cases lineB z with
  | false => rfl
  | true =>
    rw [Bool.true_and, Bool.true_and]
    congr 1
    · exact decide_eq_decide.mpr (by omega)
    · exact decide_eq_decide.mpr (by omega)
theorem okv_short (x : V) : okv (wOf 8) x = okv shortB x := by
  cases x with
  | str z => exact wOf_short z
  | _ => rfl
/-- unlike letters are at most 94 -/
theorem letB_w {z : Str} : letB z = (wOf 94 z && decide (cod z).Nodup) := by
  unfold letB wOf wordB
  cases h : lineB z with
  | false => rfl
  | true =>
    rw [Bool.true_and, Bool.true_and]
    by_cases nd : (cod z).Nodup
    · rw [decide_eq_true nd, Bool.and_true, Bool.and_true]
      have l : (cod z).length ≤ (cod sgsZ).length := nodup_len nd fun c hc => (sgs_iff c).mpr (lineB_of.mp h c hc)
      rw [len_cod] at l
      have e : (cod sgsZ).length = 94 := by decide +kernel
      rw [e] at l
      rw [decide_eq_true (show (z.length : Int) ≤ 94 by omega), Bool.and_true]
      exact decide_eq_decide.mpr (by omega)
    · rw [decide_eq_false nd, Bool.and_false, Bool.and_false]
/-- what refused answers: None, or the argument's name with True -/
def Ans (r : Option Str) (v : V) (H : Hp) : Prop := match r with
  | none => v = .non
  | some z => ∃ p, v = .ref p ∧ H p = some (.lst [.str z, .bl true])
def ansD : Option Str → PyData
  | none => .none
  | some z => .list [.str z, .bool true]
theorem Ans.dp {K : PySem.W.Frag} {r : Option Str} {v : V} {H : Hp} (h : Ans r v H) : Dp K H v (ansD r) := by
  cases r with
  | none =>
    obtain rfl : v = .non := h
    exact .non
  | some z =>
    obtain ⟨p, rfl, hp⟩ := h
    exact .lst (SqL.of hp) (.cons (.str z) (.cons (.bl true) .nil))
theorem Ans.same {r : Option Str} {v : V} {H H' : Hp} (s : Same H H') (h : Ans r v H) : Ans r v H' := by
  cases r with
  | none => exact h
  | some z =>
    obtain ⟨p, e, hp⟩ := h
    exact ⟨p, e, s _ _ hp⟩
theorem Ans.new {z : Str} {H : Hp} {p : Addr} : Ans (some z) (.ref p) (upd H p (.lst [.str z, .bl true])) := ⟨p, rfl, upd_same⟩
/-- what is due for First and Every -/
def duePlace (x y : V) : Option Str := if okv shortB x = true then (if okv newB y = true then none else some "new") else some "old"
/-- and for Swap -/
def dueSwap (x y : V) : Option Str := if okv letB x = true then (if othB x y = true then none else some "others") else some "letters"
def dueWord (x : V) : Option Str := if okv shortB x = true then none else some "word"
section
variable {P : Program} {w : World} {K : PySem.W.Frag} {mg : Str → Option Value} {base : Heap}
def spWof : Sp := fun vs H Q _ => ∃ (x : V) (m : Int), vs = [x, .int m] ∧ Odd H x ∧ ∀ H', Same H H' → Q (.bl (okv (wOf m) x)) H'
theorem scWof : FnScope ["_law_odd_here", "_law_most"] ["_law_odd_here", "_law_most"] (defScope sWof) := ⟨rfl, rfl, rfl, by decide +kernel, rfl, by decide +kernel, by decide +kernel⟩
theorem ok_wof {f f1 : Addr} {fd fd1 : FuncData} (F : Fun K "_law_is_word_of" "_law_is_word_of" sWof f fd) (isM : mg "isinstance" = none) (mS : mg "str" = none) (mL : mg "len" = none) (M : CallOf P w K mg base 2 "_law_is_row" ["_law_thing"] spIsRow f1 fd1) :
    FnOk P w K mg base CX0 3 f fd ["_law_odd_here", "_law_most"] spWof := by
  refine F.ok scWof (fun vs H Q E h => ?_) (fun cdv A outer s H vs Q E hr h => ?_)
  · obtain ⟨x, m, rfl, _⟩ := h
    rfl
  · obtain ⟨x, m, rfl, ox, q⟩ := h
    refine ⟨_, pss_one (by exact (ps_ret (pe_and (pe_callB call_isi (by rfl) isM (by decide +kernel) (pa_cons (pv 0) (pa_cons (pe_bltn (v := .ty "str") (by rfl) mS (by decide +kernel) rfl) pa_nil))) (pe_and (pe_call M.ok hr rfl M.m M.k M.b .nil pass0 (pa_cons (pv 0) pa_nil)) (pe_one (pe_chain op_le op_le pe_int (pe_callB call_len_str (by rfl) mL PySem.boot_len (pa_cons (pv 0) pa_nil)) (pv 1))))))), ?_⟩
    rcases ox.1.kinds (K := K) with ⟨z, rfl, lz⟩ | ⟨no, n, _, ty, ki⟩
    · refine ⟨_, rfl, _, _, _, _, true, rfl, .ty _, .base (.str _), kit_ty (by decide +kernel), _, rfl, iteT ?_⟩
      refine ⟨_, rfl, z, rfl, lz, ox.2 z rfl, fun H1 s1 => ⟨_, rfl, ?_⟩⟩
      have ez : okv (wOf m) (.str z) = (lineB z && (decide (1 ≤ (z.length : Int)) && decide ((z.length : Int) ≤ m))) := rfl
      rw [ez] at q
      cases e : lineB z with
      | false =>
        rw [e] at q
        exact iteF (q H1 s1)
      | true =>
        rw [e, Bool.true_and] at q
        refine iteT ⟨_, rfl, z, rfl, Nat.le_trans (Nat.le_of_lt lz) (by decide), _, _, rfl, rfl, _, rfl, ?_⟩
        by_cases h1 : (1 : Int) ≤ (z.length : Int)
        · rw [decide_eq_true h1] at q ⊢
          refine iteT ⟨_, rfl, _, _, rfl, rfl, ?_⟩
          exact q H1 s1
        · rw [decide_eq_false h1] at q ⊢
          exact iteF (q H1 s1)
    · refine ⟨_, rfl, _, _, _, _, false, rfl, .ty _, ty, ki, _, rfl, iteF ?_⟩
      rw [okv_no no] at q
      exact q H (fun _ _ e => e)
/-- what a question of the value in slot i answers -/
def tAskS (i : Nat) (b : V → Bool) : TE := fun σ H Q => ∃ y, σ[i]? = some (some y) ∧ Odd H y ∧ ∀ H', Same H H' → Q (.bl (b y)) H'
def tAskO : TE := fun σ H Q => ∃ z y, σ[0]? = some (some (.str z)) ∧ z.length < 4000 ∧ σ[1]? = some (some y) ∧ Odd H y ∧ ∀ H', Same H H' → Q (.bl (othB (.str z) y)) H'
def tPlace : TE := fun σ H Q => ∃ x n, σ[0]? = some (some x) ∧ σ[2]? = some (some (.bl n)) ∧ Odd H x ∧ ∀ v H', Ans (if okv shortB x = true then (if n = true then none else some "new") else some "old") v H' → Same H H' → Q v H'
theorem PE.of2 {X : Cx} {e : Expr} {t t' : TE} (h : PE X e t) (i : ∀ σ H Q, t' σ H Q → t σ H Q) : PE X e t' := ⟨fun pins s σ H Q I w => h.run pins s σ H Q I (i σ H Q w)⟩
def spDue : Sp := fun vs H Q _ => ∃ (x y : V), vs = [x, y] ∧ Odd H x ∧ Odd H y ∧ ∀ (T : Addr) (u v : V) (H' : Hp), H' T = some (.tup [u, v]) → Ans (duePlace x y) u H' → Ans (dueSwap x y) v H' → Same H H' → Q (.ref T) H'
theorem scDue : FnScope ["_law_odd_here", "_law_more", "_law_is_new", "_law_place", "_law_is_other"] ["_law_odd_here", "_law_more"] (defScope sDue) := ⟨rfl, rfl, rfl, by decide +kernel, rfl, by decide +kernel, by decide +kernel⟩
theorem ok_due {f f1 f2 : Addr} {fd fd1 fd2 : FuncData} (F : Fun K "_law_due" "_law_due" sDue f fd) (isM : mg "isinstance" = none) (mS : mg "str" = none) (mL : mg "len" = none) (mSet : mg "set" = none) (M : CallOf P w K mg base 2 "_law_is_row" ["_law_thing"] spIsRow f1 fd1)
    (N : CallOf P w K mg base 3 "_law_is_word_of" ["_law_odd_here", "_law_most"] spWof f2 fd2) : FnOk P w K mg base CX0 4 f fd ["_law_odd_here", "_law_more"] spDue := by
  refine F.ok scDue (fun vs H Q E h => ?_) (fun cdv A outer s H vs Q E hr h => ?_)
  · obtain ⟨x, y, rfl, _⟩ := h
    rfl
  · obtain ⟨x, y, rfl, ox, oy, q⟩ := h
    have hr2 : Room 2 _ := hr.mono (by decide)
    refine ⟨_, pss_cons (by
        refine ps_set (i := 2) scDue.nd rfl (.inl rfl) (PE.of2 (t' := tAskS 1 (okv newB)) (pe_and (pe_callB call_isi (by rfl) isM (by decide +kernel) (pa_cons (pv 1) (pa_cons (pe_bltn (v := .ty "str") (by rfl) mS (by decide +kernel) rfl) pa_nil))) (pe_and (pe_call M.ok hr2 rfl M.m M.k M.b .nil pass0 (pa_cons (pv 1) pa_nil)) (pe_one (pe_cmpR op_le (pe_callB call_len_str (by rfl) mL PySem.boot_len (pa_cons (pv 1) pa_nil)) pe_int (nomark _))))) ?_)
        intro σ H Q ⟨y, hs, oy, q⟩
        rcases oy.1.kinds (K := K) with ⟨z, rfl, lz⟩ | ⟨no, n, _, ty, ki⟩
        · refine ⟨_, hs, _, _, _, _, true, rfl, .ty _, .base (.str _), kit_ty (by decide +kernel), _, rfl, iteT ?_⟩
          refine ⟨_, hs, z, rfl, lz, oy.2 z rfl, fun H1 s1 => ⟨_, rfl, ?_⟩⟩
          have ez : okv newB (.str z) = (lineB z && decide (z.length ≤ 8)) := rfl
          rw [ez] at q
          cases e : lineB z with
          | false =>
            rw [e] at q
            exact iteF (q H1 s1)
          | true =>
            rw [e, Bool.true_and] at q
            refine iteT ⟨_, hs, z, rfl, Nat.le_trans (Nat.le_of_lt lz) (by decide), _, _, rfl, rfl, ?_⟩
            have e8 : decide ((z.length : Int) ≤ 8) = decide (z.length ≤ 8) := decide_eq_decide.mpr (by omega)
            show Q (.bl (decide ((z.length : Int) ≤ 8))) H1
            rw [e8]
            exact q H1 s1
        · refine ⟨_, hs, _, _, _, _, false, rfl, .ty _, ty, ki, _, rfl, iteF ?_⟩
          rw [okv_no no] at q
          exact q H (fun _ _ e => e)) (
      pss_cons (by
        refine ps_set (i := 3) scDue.nd rfl (.inl rfl) (PE.of2 (t' := tPlace) (pe_ifExp (pt_not (pt_val (pe_call N.ok hr rfl N.m N.k N.b .nil pass0 (pa_cons (pv 0) (pa_cons pe_int pa_nil))))) (pe_lst (pa_cons pe_str (pa_cons pe_bl pa_nil))) (pe_ifExp (pt_val (pv 2)) pe_non (pe_lst (pa_cons pe_str (pa_cons pe_bl pa_nil))))) ?_)
        intro σ H Q ⟨x, n, h0, h2, ox, q⟩
        refine ⟨_, h0, x, 8, rfl, ox, fun H1 s1 => ⟨_, rfl, ?_⟩⟩
        rw [okv_short]
        cases e : okv shortB x with
        | false =>
          refine iteT ⟨(by show 2 ≤ sizeLine; decide), fun p np => q _ _ ?_ (s1.trans (same_upd np))⟩
          rw [e, if_neg (by decide)]
          exact Ans.new
        | true =>
          refine iteF ⟨_, h2, _, rfl, ?_⟩
          cases n with
          | true => exact iteT (q _ _ (by rw [e]; rfl) s1)
          | false =>
            refine iteF ⟨(by show 2 ≤ sizeLine; decide), fun p np => q _ _ ?_ (s1.trans (same_upd np))⟩
            rw [e]
            exact Ans.new) (
      pss_cons (by exact (ps_if (PW.pt (pw_or (pt_not (pt_val (pe_call N.ok hr rfl N.m N.k N.b .nil pass0 (pa_cons (pv 0) (pa_cons pe_int pa_nil))))) (pw_or1 (pt_cmpR op_lt (pe_lenSetL rfl (by rfl) mL (by rfl) mSet (pv 0)) (pe_callB call_len_str (by rfl) mL PySem.boot_len (pa_cons (pv 0) pa_nil)) (nomark _))))) (pss_one (by exact (ps_ret (pe_tup (pa_cons (pv 3) (pa_cons (pe_lst (pa_cons pe_str (pa_cons pe_bl pa_nil))) pa_nil)))))) pss_nil)) (
      pss_cons (by
        refine ps_set (i := 4) scDue.nd rfl (.inl rfl) (PE.of2 (t' := tAskO) (pe_and (pe_callB call_isi (by rfl) isM (by decide +kernel) (pa_cons (pv 1) (pa_cons (pe_bltn (v := .ty "str") (by rfl) mS (by decide +kernel) rfl) pa_nil))) (pe_and (pe_call M.ok hr2 rfl M.m M.k M.b .nil pass0 (pa_cons (pv 1) pa_nil)) (pe_one (pe_cmpR op_eq (pe_callB call_len_str (by rfl) mL PySem.boot_len (pa_cons (pv 1) pa_nil)) (pe_callB call_len_str (by rfl) mL PySem.boot_len (pa_cons (pv 0) pa_nil)) (nomark _))))) ?_)
        intro σ H Q ⟨l, y, hl, ll, hs, oy, q⟩
        rcases oy.1.kinds (K := K) with ⟨z, rfl, lz⟩ | ⟨no, n, _, ty, ki⟩
        · refine ⟨_, hs, _, _, _, _, true, rfl, .ty _, .base (.str _), kit_ty (by decide +kernel), _, rfl, iteT ?_⟩
          refine ⟨_, hs, z, rfl, lz, oy.2 z rfl, fun H1 s1 => ⟨_, rfl, ?_⟩⟩
          have ez : othB (.str l) (.str z) = (lineB z && decide (z.length = l.length)) := rfl
          rw [ez] at q
          cases e : lineB z with
          | false =>
            rw [e] at q
            exact iteF (q H1 s1)
          | true =>
            rw [e, Bool.true_and] at q
            refine iteT ⟨_, hs, z, rfl, Nat.le_trans (Nat.le_of_lt lz) (by decide), _, hl, l, rfl, Nat.le_trans (Nat.le_of_lt ll) (by decide), rfl, ?_⟩
            have e8 : decide (V.int (z.length : Int) = V.int (l.length : Int)) = decide (z.length = l.length) := decide_eq_decide.mpr ⟨fun h => by injection h; omega, fun h => by rw [h]⟩
            rw [e8]
            exact q H1 s1
        · refine ⟨_, hs, _, _, _, _, false, rfl, .ty _, ty, ki, _, rfl, iteF ?_⟩
          have eo : othB (.str l) y = false := by
            cases y with
            | str z => exact absurd rfl (no z)
            | _ => rfl
          rw [eo] at q
          exact q H (fun _ _ e => e)) (
      pss_one (by exact (ps_ret (pe_tup (pa_cons (pv 3) (pa_cons (pe_ifExp (pt_val (pv 4)) pe_non (pe_lst (pa_cons pe_str (pa_cons pe_bl pa_nil)))) pa_nil))))))))), ?_⟩
    refine ⟨y, rfl, oy, fun H1 s1 => ⟨x, _, rfl, rfl, ox.same s1, fun v H2 a2 s2 => ?_⟩⟩
    have s12 := s1.trans s2
    have a2 : Ans (duePlace x y) v H2 := a2
    refine ⟨_, rfl, x, 94, rfl, ox.same s12, fun H3 s3 => ⟨_, rfl, ?_⟩⟩
    have s13 := s12.trans s3
    have a3 := a2.same s3
    have back : okv letB x = false → ∀ H4, Same H3 H4 → ∀ p, H4 p = none → ∀ T, (upd H4 p (.lst [.str "letters", .bl true])) T = none → Q (.ref T) (upd (upd H4 p (.lst [.str "letters", .bl true])) T (.tup [v, .ref p])) := fun e H4 s4 p np T nT => by
      refine q T v (.ref p) _ upd_same (a3.same (s4.trans ((same_upd np).trans (same_upd nT)))) ?_ (s13.trans (s4.trans ((same_upd np).trans (same_upd nT))))
      unfold dueSwap
      rw [e, if_neg (by decide)]
      exact Ans.new.same (same_upd nT)
    cases e : okv (wOf 94) x with
    | false =>
      have no : okv letB x = false := by
        cases x with
        | str z =>
          show letB z = false
          rw [letB_w, show wOf 94 z = false from e]
          rfl
        | _ => rfl
      refine iteT ⟨_, rfl, (by show 2 ≤ sizeLine; decide), fun p np => ⟨(by show 2 ≤ sizeLine; decide), fun T nT => ?_⟩⟩
      exact back no H3 (fun _ _ e => e) p np T nT
    | true =>
      obtain ⟨z, rfl, wz⟩ := okv_text e
      have lz := ox.1.short
      refine iteF ⟨_, rfl, z, rfl, lz, fun m le iff => ⟨_, rfl, z, rfl, Nat.le_trans (Nat.le_of_lt lz) (by decide), _, _, rfl, rfl, _, rfl, ?_⟩⟩
      have lb : okv letB (.str z) = decide (cod z).Nodup := by
        show letB z = _
        rw [letB_w, wz, Bool.true_and]
      by_cases nd : (cod z).Nodup
      · rw [decide_eq_true nd] at lb
        rw [decide_eq_false (show ¬ ((m : Int) < (z.length : Int)) by have := iff.mpr nd; omega)]
        refine iteF ⟨z, y, rfl, lz, rfl, oy.same s13, fun H4 s4 => ?_⟩
        refine ⟨_, rfl, _, rfl, _, rfl, ?_⟩
        cases eo : othB (.str z) y with
        | true =>
          refine iteT ⟨(by show 2 ≤ sizeLine; decide), fun T nT => ?_⟩
          refine q T v .non _ upd_same (a3.same (s4.trans (same_upd nT))) ?_ (s13.trans (s4.trans (same_upd nT)))
          unfold dueSwap
          rw [lb, eo]
          rfl
        | false =>
          refine iteF ⟨(by show 2 ≤ sizeLine; decide), fun p np => ⟨(by show 2 ≤ sizeLine; decide), fun T nT => ?_⟩⟩
          refine q T v (.ref p) _ upd_same (a3.same (s4.trans ((same_upd np).trans (same_upd nT)))) ?_ (s13.trans (s4.trans ((same_upd np).trans (same_upd nT))))
          unfold dueSwap
          rw [lb, eo]
          exact Ans.new.same (same_upd nT)
      · rw [decide_eq_false nd] at lb
        rw [decide_eq_true (show (m : Int) < (z.length : Int) by
          have : m ≠ z.length := fun h => nd (iff.mp h)
          omega)]
        refine iteT ⟨_, rfl, (by show 2 ≤ sizeLine; decide), fun p np => ⟨(by show 2 ≤ sizeLine; decide), fun T nT => ?_⟩⟩
        exact back lb H3 (fun _ _ e => e) p np T nT
end
end LA
end
section
set_option Elab.async false
set_option linter.all false
set_option maxRecDepth 100000
set_option maxHeartbeats 4100000
namespace XL
open PySem PySem.Spec PyProof.Rows L2 LamX XK
/-- x(lambda: body) -/
theorem pe_goL {X : Cx} {T : List (Addr × Str)} {c P : Addr} (mk : Maker X T c P) {x a : Str} {g : Addr} {Ng : List Str} {sg : Scope} {cdv : Value} {bg : List Stmt} {TT : (XK → Hp → VK → Prop) → Hp → VK → Prop} {params : Arguments} {body : Expr} {scope : Scope} {k : Nat} {t : XK → TE} {p lpos pos : Pos}
    (G : Taker X x a g Ng sg cdv bg TT) (room : Room (k + 2) X.A) (hg : Gl X x) (L : LamS X.env.scope scope) (nodef : defaultsOf params X.env = ([], []))
    (noargs : ∀ (q : Str) (cl : List (Str × Addr)) (pm cv ctv : Value), bindArgs (PySem.W.kla_fn "<lambda>" q params body scope cl pm cv ctv) ⟨[], []⟩ = pure [])
    (does : ∀ (A : Around) (outer : List Env) (s : Shared) (H : Hp) (E : XK) (f c' : Addr), Room k (A.deeper (lamEnv X scope s.heap.objs.size f c')) → PE (lamCx X A outer s H E scope f c') body (t E))
    (hdb : (x == ("__debug__" : Str)) = false := by decide) (hd : (a == ("__debug__" : Str)) = false := by decide) (hcd : (a == ("__classdict__" : Str)) = false := by decide) :
    PE X (.Call (.Name x p) [.Lambda params body scope lpos] [] pos) (tLam T TT t) := by
  refine ⟨fun pins s σ H Q I want => ?_⟩
  obtain ⟨hT, h⟩ := want
  exact (pe_go (Kin.refl X) (M := fun σ => σ) (fun _ _ _ _ I => Caps.of I) G L rfl room (fun cl pm cv ctv => noargs _ cl pm cv ctv) does (pa_cons (pe_mk mk L nodef) pa_nil) hg hdb hd hcd).run pins s σ H Q I ⟨hT, fun f H1 e1 T1 nf il => ⟨f, rfl, il, h H1 e1 T1⟩⟩
end XL
namespace LA
open PySem PySem.Spec PyProof.Rows L2 XS XT XK XO XL LamX
theorem Same.extN {H H' : Hp} (s : Same H H') : ExtN H H' := fun b o e _ => s b o e
theorem Tabs.same {T : List (Addr × Str)} {H H' : Hp} (t : Tabs T H) (s : Same H H') : Tabs T H' := t.ext s
theorem AnyV.extN {H H' : Hp} {x : V} (s : ExtN H H') (h : AnyV H x) : AnyV H' x := h.keep fun b o e k => s b o e fun ps z => by
  subst z
  rcases k with ⟨_, k⟩ | ⟨_, k⟩ | ⟨_, k⟩ <;> cases k
theorem Ans.extN {r : Option Str} {v : V} {H H' : Hp} (s : ExtN H H') (h : Ans r v H) : Ans r v H' := by
  cases r with
  | none => exact h
  | some z =>
    obtain ⟨p, e, hp⟩ := h
    exact ⟨p, e, s _ _ hp fun ps z => by cases z⟩
theorem made_same {H H' : Hp} {a dx : Addr} {C : Addr} (na : H a = none) (nd : H dx = none) (b : But a (upd (upd H dx (.own a)) a (.ins C dx [])) H') : Same H H' := fun x o e => by
  have h1 := ne_of_none e na
  have h2 := ne_of_none e nd
  exact b x o (by rw [upd_ne h1, upd_ne h2]; exact e) h1
theorem laid_same {H : Hp} {a dx : Addr} {u v : HO} (na : H a = none) (nd : H dx = none) : Same H (upd (upd H dx u) a v) := fun x o e => by
  rw [upd_ne (ne_of_none e na), upd_ne (ne_of_none e nd)]
  exact e
theorem ExtN.laid {H H1 : Hp} {L : Addr} {o : HO} (e : ExtN H H1) (n : H1 L = none) : ExtN H (upd H1 L o) := fun b u h k => by
  have z := e b u h k
  rw [upd_ne (ne_of_none z n)]
  exact z
theorem ExtN.put {H H1 H2 : Hp} {L : Addr} {o o' : HO} (e : ExtN H H1) (n : H1 L = none) (e2 : ExtN (upd H1 L o) H2) : ExtN H (upd H2 L o') := fun b u h k => by
  have z := e b u h k
  have ne := ne_of_none z n
  rw [upd_ne ne]
  exact e2 b u (by rw [upd_ne ne]; exact z) k
theorem Tabs.put {T : List (Addr × Str)} {H : Hp} {L : Addr} {xs : List V} {o : HO} (t : Tabs T H) (h : H L = some (.lst xs)) : Tabs T (upd H L o) := fun p hp => by
  obtain ⟨ps, a1, a2, a3⟩ := t p hp
  refine ⟨ps, ?_, a2, fun pos cv hc => ?_⟩
  · rw [upd_ne (ne_of a1 h (by intro z; cases z))]
    exact a1
  · obtain ⟨c, e1, e2⟩ := a3 pos cv hc
    refine ⟨c, e1, ?_⟩
    rw [upd_ne (ne_of e2 h (by intro z; unfold CodeO at z; cases z))]
    exact e2
theorem Tabs.but {T : List (Addr × Str)} {H H' : Hp} {d : Addr} {kvs : List (Key × V)} (t : Tabs T H) (b : But d H H') (hd : H d = some (.dK kvs)) : Tabs T H' := fun p hp => by
  obtain ⟨ps, a1, a2, a3⟩ := t p hp
  refine ⟨ps, b _ _ a1 (ne_of a1 hd (by intro z; cases z)), a2, fun pos cv hc => ?_⟩
  obtain ⟨c, e1, e2⟩ := a3 pos cv hc
  exact ⟨c, e1, b _ _ e2 (ne_of e2 hd (by intro z; unfold CodeO at z; cases z))⟩
theorem PenAt.extN {H H' : Hp} {d c : Addr} {n : Int} {ns : List Int} (p : PenAt H d c n ns) (e : ExtN H H') : PenAt H' d c n ns := by
  obtain ⟨kvs, t, l, q⟩ := p
  exact ⟨kvs, t, l, ⟨e _ _ q.dc (fun ps z => by cases z), q.vc, q.vt, q.vl, q.t0, q.tn, q.sz, e _ _ q.cs (fun ps z => by cases z), q.cl⟩⟩
theorem PenAt.le {H : Hp} {d c : Addr} {n m : Int} {ns : List Int} (p : PenAt H d c n ns) (h : n ≤ m) : PenAt H d c m ns := by
  obtain ⟨kvs, t, l, q⟩ := p
  exact ⟨kvs, t, l, ⟨q.dc, q.vc, q.vt, q.vl, q.t0, Int.le_trans q.tn h, q.sz, q.cs, q.cl⟩⟩
theorem CA.extN {C : Nat → Addr} {H H' : Hp} {c : Ch} {v : V} (e : ExtN H H') (h : CA C H c v) : CA C H' c v := h.keep fun a D dx fs k => e _ _ k fun ps z => by cases z
theorem Ans.put {r : Option Str} {v : V} {H : Hp} {L : Addr} {xs : List V} {o : HO} (h : Ans r v H) (hl : H L = some (.lst xs)) (ne : ∀ z, xs ≠ [.str z, .bl true]) : Ans r v (upd H L o) := by
  cases r with
  | none => exact h
  | some z =>
    obtain ⟨p, e, hp⟩ := h
    refine ⟨p, e, ?_⟩
    rw [upd_ne]
    · exact hp
    · intro x
      rw [x, hl] at hp
      injection hp with hp
      injection hp with hp
      exact ne z hp
def twoA (b1 : V → Bool) (b2 : V → V → Bool) (a1 a2 : Str) (x y : V) : Option Str := if b1 x = true then (if b2 x y = true then none else some a2) else some a1
/-- what reaches refused -/
abbrev RefQ (D : Addr) (Q : VK) : XK := fun cls d H' => cls = .ref D ∧ ∃ (dd : Addr) (fs : List (Str × V)) (z : Str), d = some dd ∧ H' dd = some (.xd fs) ∧ fs.lookup ("argument" : Str) = some (V.str z) ∧
  ∀ (p : Addr) (H2 : Hp), H' p = none → Same H' H2 → H2 p = some (.lst [.str z, .bl true]) → Q (.ref p) H2
theorem refuses {D : Addr} {H0 H : Hp} {Q : VK} {r : Option Str} {arg : Str} (sL : Same H0 H) (k : ∀ v H', Same H0 H' → Ans r v H' → Q v H') (e : r = some arg) : Refuses D H (RefQ D Q) arg := fun d H' _ s2 hd => by
  refine ⟨rfl, d, _, arg, rfl, hd, look1, fun p H2 _ s3 hp => k (.ref p) H2 (sL.trans (s2.trans s3)) ?_⟩
  rw [e]
  exact ⟨p, rfl, hp⟩
/-- a change of one text of any value, made where it may be refused -/
theorem ref_1 {C D : Addr} {fld arg : Str} {b : Str → Bool} {H : Hp} {Q : VK} {x : V} (hx : AnyV H x) (k : ∀ v H', Same H H' → Ans (if okv b x = true then none else some arg) v H' → Q v H') {a dx : Addr} (na : H a = none) (nd : H dx = none) :
    spInitX C fld D b arg [.ref a, x] (upd (upd H dx (.own a)) a (.ins C dx [])) (fun v H3 => v = .non ∧ Q .non H3) (RefQ D Q) := by
  refine ⟨a, dx, x, rfl, upd_same, hx.same (laid_same na nd), fun ok H' ha but => ⟨rfl, k .non H' (made_same na nd but) ?_⟩, fun no => refuses (laid_same na nd) k ?_⟩
  · rw [if_pos ok]
    rfl
  · rw [if_neg (by rw [no]; decide)]
theorem ref_2 {C D : Addr} {f1 f2 a1 a2 : Str} {b1 : V → Bool} {b2 : V → V → Bool} {H : Hp} {Q : VK} {x y : V} (hx : AnyV H x) (hy : AnyV H y) (k : ∀ v H', Same H H' → Ans (twoA b1 b2 a1 a2 x y) v H' → Q v H') {a dx : Addr} (na : H a = none) (nd : H dx = none) :
    spInit2 C f1 f2 D b1 b2 a1 a2 [.ref a, x, y] (upd (upd H dx (.own a)) a (.ins C dx [])) (fun v H3 => v = .non ∧ Q .non H3) (RefQ D Q) := by
  have sL := laid_same (u := .own a) (v := .ins C dx []) na nd
  refine ⟨a, dx, x, y, rfl, upd_same, hx.same sL, hy.same sL, fun e1 e2 H' ha but => ⟨rfl, k .non H' (made_same na nd but) ?_⟩, fun e1 => refuses sL k ?_, fun e1 e2 => refuses sL k ?_⟩
  · unfold twoA
    rw [if_pos e1, if_pos e2]
    rfl
  · unfold twoA
    rw [if_neg (by rw [e1]; decide)]
  · unfold twoA
    rw [if_pos e1, if_neg (by rw [e2]; decide)]
theorem ans_one {C D : Addr} {fld arg : Str} {b : Str → Bool} {σ : L2.St} {i : Nat} {H : Hp} {Q : VK} {x : V} (hσ : σ[i]? = some (some x)) (hx : AnyV H x) (k : ∀ v H', Same H H' → Ans (if okv b x = true then none else some arg) v H' → Q v H') :
    TRef D (fun E H' Q' => tMake C (spInitX C fld D b arg) [] E (tCons (tVar i) tNil) σ H' Q') H Q := ⟨x, hσ, fun _ _ na nd _ => ref_1 hx k na nd⟩
theorem ans_key {C D : Addr} {fld arg : Str} {b : Str → Bool} {σ : L2.St} {i : Nat} {H : Hp} {Q : VK} {x : V} (hσ : σ[i]? = some (some x)) (hx : AnyV H x) (k : ∀ v H', Same H H' → Ans (if okv b x = true then none else some arg) v H' → Q v H') :
    TRef D (fun E H' Q' => tMakeK C 0 1 (spInitX C fld D b arg) (fun us ws => us ++ ws) E tNil (tCons (tVar i) tNil) σ H' Q') H Q := ⟨x, hσ, rfl, rfl, fun _ _ na nd _ => ref_1 hx k na nd⟩
theorem ans_two {C D : Addr} {f1 f2 a1 a2 : Str} {b1 : V → Bool} {b2 : V → V → Bool} {σ : L2.St} {i j : Nat} {H : Hp} {Q : VK} {x y : V} (h1 : σ[i]? = some (some x)) (h2 : σ[j]? = some (some y)) (hx : AnyV H x) (hy : AnyV H y) (k : ∀ v H', Same H H' → Ans (twoA b1 b2 a1 a2 x y) v H' → Q v H') :
    TRef D (fun E H' Q' => tMake C (spInit2 C f1 f2 D b1 b2 a1 a2) [] E (tCons (tVar i) (tCons (tVar j) tNil)) σ H' Q') H Q := ⟨x, h1, y, h2, fun _ _ na nd _ => ref_2 hx hy k na nd⟩
theorem ans_twoK {C D : Addr} {f1 f2 a1 a2 : Str} {b1 : V → Bool} {b2 : V → V → Bool} {σ : L2.St} {i j : Nat} {H : Hp} {Q : VK} {x y : V} (h1 : σ[i]? = some (some y)) (h2 : σ[j]? = some (some x)) (hx : AnyV H x) (hy : AnyV H y) (k : ∀ v H', Same H H' → Ans (twoA b1 b2 a1 a2 x y) v H' → Q v H') :
    TRef D (fun E H' Q' => tMakeK C 0 2 (spInit2 C f1 f2 D b1 b2 a1 a2) (fun us ws => us ++ ws.reverse) E tNil (tCons (tVar i) (tCons (tVar j) tNil)) σ H' Q') H Q := ⟨y, h1, x, h2, rfl, rfl, fun _ _ na nd _ => ref_2 hx hy k na nd⟩
section
variable {P : Program} {w : World} {K : PySem.W.Frag} {mg : Str → Option Value} {base : Heap}
/-- refused, as the law knows it -/
structure RefAt (K : PySem.W.Frag) (mg : Str → Option Value) (D g : Addr) (fd : FuncData) : Prop where
  F : Fun K "_law_refused" "_law_refused" sRef g fd
  m : mg "_law_refused" = some (.ref g)
  k : PySem.W.keepIn K (.ref g) = true
  b : Binds K fd ["_law_call"] []
  T : XT K D
  no : PySem.W.findIn K (.ref D) "argument" = some none
  mD : mg "InvalidChange" = some (.ref D)
  isM : mg "isinstance" = none
  mV : mg "ValueError" = none
  ex : PySem.W.exmOne K (.ref D) (.ref D) = some true
  kv : PySem.W.kitOne K (.ref D) (.type "ValueError") = some true
theorem RefAt.taker {X : Cx} {D g : Addr} {fd : FuncData} (R : RefAt X.K X.mg D g fd) : ∃ cdv, Taker X "_law_refused" "_law_call" g ["_law_call", "e"] (defScope sRef) cdv (defBody sRef) (TRef D) := by
  obtain ⟨oc, od, kV, doc, pm, an, cdv, ct, osl, e, lk, hcd⟩ := R.F.ex
  have hb := R.b
  rw [e] at hb lk
  exact ⟨cdv, R.m, R.k, ⟨_, _, _, _, _, _, _, _, _, _, lk, hb⟩, hcd, scRf, rfl, .inl rfl, gets_ref R.T R.no R.mD R.isM R.mV R.ex R.kv⟩
/-- a def of the law whose code object is told -/
structure FunC (K : PySem.W.Frag) (x qual : Str) (st : Stmt) (f : Addr) (fd : FuncData) (c : Addr) : Prop where
  ex : ∃ (oc : Value) (od : Option Addr) (kV doc pm : Value) (an : Option Addr) (ct : Value) (osl : Array (Option Value)),
    fd = PySem.W.fnOf x qual (defArgs st) (defBody st) (defScope st) .none kV doc pm an (.ref c) ct ∧ K.lookup f = some ⟨oc, od, .func fd, osl⟩ ∧ PySem.W.codeIn K (.ref c) qual = true
theorem passF {P : Program} {w : World} {X : Cx} : Passes (L2.CX P w) X (fun _ _ _ => False) := fun _ _ _ _ _ _ _ h => by
  obtain ⟨_, _, _, _, _, _, _, _, _, _, _, _, z⟩ := h
  exact z.elim
/-- a change of one text as the law makes it -/
structure MakX (P : Program) (w : World) (K : PySem.W.Frag) (mg : Str → Option Value) (base : Heap) (C D : Addr) (f : Addr) (fd : FuncData) : Prop where
  made : Mk K C f
  ok : FnOk P w K mg base (L2.CX P w) 6 f fd ["self", "word"] (spInitX C "_word" D shortB "word")
  b : Binds K fd ["self", "word"] []
  kb : KBn K fd ["self", "word"] 1 ["word"] (fun us ws => us ++ ws) (fun us ws => us ++ ws)
/-- a change of two -/
structure MakP (P : Program) (w : World) (K : PySem.W.Frag) (mg : Str → Option Value) (base : Heap) (C D : Addr) (f1 f2 : Str) (b1 : V → Bool) (b2 : V → V → Bool) (a1 a2 : Str) (f : Addr) (fd : FuncData) : Prop where
  made : Mk K C f
  ok : FnOk P w K mg base (L2.CX P w) 6 f fd ["self", a1, a2] (spInit2 C f1 f2 D b1 b2 a1 a2)
  b : Binds K fd ["self", a1, a2] []
  kb : KBn K fd ["self", a1, a2] 1 [a2, a1] (fun us ws => us ++ ws.reverse) (fun us ws => us ++ ws.reverse)
structure MakB (P : Program) (w : World) (K : PySem.W.Frag) (mg : Str → Option Value) (base : Heap) (C : Nat → Addr) (D : Addr) (fi : Nat → Addr) (fdi : Nat → FuncData) : Prop where
  m0 : MakP P w K mg base (C 0) D "_old" "_new" (okv shortB) newB2 "old" "new" (fi 0) (fdi 0)
  m1 : MakP P w K mg base (C 1) D "_old" "_new" (okv shortB) newB2 "old" "new" (fi 1) (fdi 1)
  m2 : MakP P w K mg base (C 2) D "_letters" "_others" (okv letB) othB "letters" "others" (fi 2) (fdi 2)
  m3 : MakX P w K mg base (C 3) D (fi 3) (fdi 3)
  m4 : MakX P w K mg base (C 4) D (fi 4) (fdi 4)
end
/-- a text, told by the slots -/
def tTx (g : L2.St → Str → Prop) : TE := fun σ H Q => ∃ z, g σ z ∧ Q (.str z) H
/-- a change, told by the slots -/
def tMd (C : Nat → Addr) (g : L2.St → Ch → Prop) : TE := fun σ H Q => ∃ t, g σ t ∧ ∀ v H', CA C H' t v → Same H H' → Q v H'
def g1 (s : Nat) (g : L2.St → Str → Prop) : L2.St → Ch → Prop := fun σ t => ∃ z, g σ z ∧ shortB z = true ∧ z.length < 4000 ∧ 3 ≤ s ∧ s < 5 ∧ t = ⟨s, z, ""⟩
def g2 (s : Nat) (g h : L2.St → Str → Prop) (b1 : V → Bool) (b2 : V → V → Bool) : L2.St → Ch → Prop := fun σ t => ∃ z y, g σ z ∧ h σ y ∧ b1 (.str z) = true ∧ b2 (.str z) (.str y) = true ∧ z.length < 4000 ∧ y.length < 4000 ∧ s < 3 ∧ t = ⟨s, z, y⟩
section
variable {C : Nat → Addr} {D : Addr} {X : Cx}
theorem md_one {e : Expr} {s : Nat} {g : L2.St → Str → Prop} {E : XK} (h : PE X e (tMake (C s) (spInitX (C s) "_word" D shortB "word") [] E (tCons (tTx g) tNil))) : PE X e (tMd C (g1 s g)) := PE.of2 h fun σ H Q ⟨t, ⟨z, hz, ok, lz, s3, s5, e⟩, k⟩ => by
  subst e
  refine ⟨z, hz, fun a dx na nd ne => ⟨a, dx, _, rfl, upd_same, .str z lz, fun _ H' ha but => ⟨rfl, k (.ref a) H' ⟨s5, fun _ => rfl, a, dx, rfl, ?_⟩ (made_same na nd but)⟩, fun no => ?_⟩⟩
  · have e : s = 3 ∨ s = 4 := by omega
    rcases e with rfl | rfl <;> exact ha
  · rw [show okv shortB (.str z) = shortB z from rfl, ok] at no
    cases no
theorem md_two {e : Expr} {s : Nat} {f1 f2 a1 a2 : Str} {b1 : V → Bool} {b2 : V → V → Bool} {g i : L2.St → Str → Prop} {E : XK} (h : PE X e (tMake (C s) (spInit2 (C s) f1 f2 D b1 b2 a1 a2) [] E (tCons (tTx g) (tCons (tTx i) tNil)))) (hf : ∀ z y, flds ⟨s, z, y⟩ = [(f1, .str z), (f2, .str y)]) : PE X e (tMd C (g2 s g i b1 b2)) := PE.of2 h fun σ H Q ⟨t, ⟨z, y, hz, hy, o1, o2, lz, ly, s3, e⟩, k⟩ => by
  subst e
  refine ⟨z, hz, y, hy, fun a dx na nd ne => ⟨a, dx, _, _, rfl, upd_same, .str z lz, .str y ly, fun _ _ H' ha but => ⟨rfl, k (.ref a) H' ⟨(by show s < 5; omega), fun z => absurd (show 3 ≤ s from z) (by omega), a, dx, rfl, ?_⟩ (made_same na nd but)⟩, fun no => ?_, fun _ no => ?_⟩⟩
  · rw [hf]
    exact ha
  · rw [o1] at no
    cases no
  · rw [o2] at no
    cases no
theorem tx_slot {i : Nat} {e : Expr} (h : PE X e (tVar i)) : PE X e (tTx fun σ z => σ[i]? = some (some (.str z))) := PE.of2 h fun σ H Q ⟨z, hz, k⟩ => ⟨_, hz, k⟩
theorem tx_c {z : Str} {e : Expr} (h : PE X e (tC (.str z))) : PE X e (tTx fun _ y => y = z) := PE.of2 h fun σ H Q ⟨y, hz, k⟩ => by
  subst hz
  exact k
theorem tx_q {i : Nat} {a b : Expr} {pos : Pos} (ha : PE X a (tVar i)) (hb : PE X b (tC (.str "q"))) : PE X (.BinOp a .Add b pos) (tTx fun σ z => ∃ y, σ[i]? = some (some (.str y)) ∧ y.length < 4000 ∧ z = y ++ "q") := PE.of2 (pe_op op_add_str ha hb) fun σ H Q ⟨z, ⟨y, hy, ly, ez⟩, k⟩ => by
  subst ez
  exact ⟨_, hy, y, "q", rfl, rfl, by show y.length + 1 ≤ sizeLine; exact Nat.le_trans (Nat.succ_le_of_lt ly) (by decide), k⟩
theorem paired_len {C : Nat → Addr} {H : Hp} : ∀ {gs : List Ch} {us : List V}, Paired (fun g u => CA C H g u) gs us → gs.length = us.length
  | _, _, .nil => rfl
  | _, _, .cons a b => by rw [List.length_cons, List.length_cons, paired_len b]
/-- a list of changes: which ones, and what comes of it -/
def tLx (C : Nat → Addr) (g : L2.St → Hp → List Ch → Prop) : TE := fun σ H Q => ∃ ts, g σ H ts ∧ ∀ (L : Addr) (vs : List V) (H' : Hp), H' L = some (.lst vs) → Paired (fun t v => CA C H' t v) ts vs → Same H H' → Q (.ref L) H'
def tMx (C : Nat → Addr) (g : L2.St → List Ch → Prop) : L2.TA := fun σ H Q => ∃ ts, g σ ts ∧ ∀ (vs : List V) (H' : Hp), Paired (fun t v => CA C H' t v) ts vs → Same H H' → Q vs H'
theorem paired_same {C : Nat → Addr} {H H' : Hp} (s : Same H H') : ∀ {ts : List Ch} {vs : List V}, Paired (fun t v => CA C H t v) ts vs → Paired (fun t v => CA C H' t v) ts vs
  | _, _, .nil => .nil
  | _, _, .cons a b => .cons (a.same s) (paired_same s b)
theorem paired_app {C : Nat → Addr} {H : Hp} : ∀ {ts us : List Ch} {vs ws : List V}, Paired (fun t v => CA C H t v) ts vs → Paired (fun t v => CA C H t v) us ws → Paired (fun t v => CA C H t v) (ts ++ us) (vs ++ ws)
  | _, _, _, _, .nil, b => b
  | _, _, _, _, .cons a r, b => .cons a (paired_app r b)
theorem PA.of {es : List Expr} {t t' : L2.TA} (h : PA X es t) (i : ∀ σ H Q, t' σ H Q → t σ H Q) : PA X es t' := ⟨fun pos pins s σ H Q I w => h.run pos pins s σ H Q I (i σ H Q w)⟩
theorem mx_nil : PA X [] (tMx C fun _ ts => ts = []) := PA.of pa_nil fun σ H Q ⟨ts, e, k⟩ => by
  subst e
  exact k [] H .nil (fun _ _ e => e)
theorem mx_cons {e : Expr} {es : List Expr} {g : L2.St → Ch → Prop} {gs : L2.St → List Ch → Prop} (h : PE X e (tMd C g)) (r : PA X es (tMx C gs)) (na : starEach (e :: es) X.env = (false, eval e X.env) :: starEach es X.env := by rfl) : PA X (e :: es) (tMx C fun σ ts => ∃ t us, g σ t ∧ gs σ us ∧ ts = t :: us) := PA.of (pa_cons h r na) fun σ H Q ⟨ts, ⟨t, us, ht, hu, e⟩, k⟩ => by
  subst e
  exact ⟨t, ht, fun v H1 tv s1 => ⟨us, hu, fun vs H2 pv s2 => k (v :: vs) H2 (.cons (tv.same s2) pv) (s1.trans s2)⟩⟩
theorem lx_lst {es : List Expr} {pos : Pos} {gs : L2.St → List Ch → Prop} (h : PA X es (tMx C gs)) : PE X (.List es pos) (tLx C fun σ _ ts => gs σ ts ∧ ts.length ≤ 1000) := PE.of2 (pe_lst h) fun σ H Q ⟨ts, ⟨hg, hl⟩, k⟩ => by
  refine ⟨ts, hg, fun vs H1 pv s1 => ⟨?_, fun p np => ?_⟩⟩
  · rw [← paired_len pv]
    exact Nat.le_trans hl (by decide)
  · exact k p vs _ upd_same (paired_same (same_upd np) pv) (s1.trans (same_upd np))
theorem lx_slot {i : Nat} {e : Expr} (h : PE X e (tVar i)) : PE X e (tLx C fun σ H ts => ∃ L vs, σ[i]? = some (some (.ref L)) ∧ H L = some (.lst vs) ∧ Paired (fun t v => CA C H t v) ts vs) := PE.of2 h fun σ H Q ⟨ts, ⟨L, vs, hs, hL, pv⟩, k⟩ => ⟨_, hs, k L vs H hL pv (fun _ _ e => e)⟩
theorem lx_cat {a b : Expr} {pos : Pos} {g1 g2 : L2.St → Hp → List Ch → Prop} (ha : PE X a (tLx C g1)) (hb : PE X b (tLx C g2)) (mono : ∀ σ H H' ts, Same H H' → g2 σ H ts → g2 σ H' ts) :
    PE X (.BinOp a .Add b pos) (tLx C fun σ H ts => ∃ t1 t2, g1 σ H t1 ∧ g2 σ H t2 ∧ t1.length ≤ 1000 ∧ t2.length ≤ 1000 ∧ ts = t1 ++ t2) := PE.of2 (pe_op op_cat ha hb) fun σ H Q ⟨ts, ⟨t1, t2, h1, h2, l1, l2, e⟩, k⟩ => by
  subst e
  refine ⟨t1, h1, fun L1 v1 H1 e1 p1 s1 => ⟨t2, mono _ _ _ _ s1 h2, fun L2 v2 H2 e2 p2 s2 => ⟨L1, L2, v1, v2, rfl, rfl, s2 _ _ e1, e2, ?_, fun p np => ?_⟩⟩⟩
  · rw [← paired_len p1, ← paired_len p2]
    exact Nat.le_trans (Nat.add_le_add l1 l2) (by decide)
  · have sp := same_upd (o := .lst (v1 ++ v2)) np
    exact k p _ _ upd_same (paired_app (paired_same (s2.trans sp) p1) (paired_same sp p2)) (s1.trans (s2.trans sp))
/-- the list of the law's changes -/
def Chs (C : Nat → Addr) (cs : List Ch) (H : Hp) (L : Addr) : Prop := ∃ vs, H L = some (.lst vs) ∧ Paired (fun t v => CA C H t v) cs vs
end
end LA
end
section
set_option Elab.async false
set_option linter.all false
set_option maxRecDepth 100000
set_option maxHeartbeats 8000000
namespace LA
open PySem PySem.Spec PyProof.Rows L2 XS XT XK XO XL LamX
abbrev sMadeR : Stmt := top 35
theorem scMr : FnScope ["_law_pen_here", "_law_signs_here", "_law_was", "_law_fresh", "_law_some", "_law_again", "_law_k", "_law_j"] ["_law_pen_here", "_law_signs_here"] (defScope sMadeR) := ⟨rfl, rfl, rfl, by decide +kernel, rfl, by decide +kernel, by decide +kernel⟩
theorem cod_q (z : Str) : cod (z ++ "q") = cod z ++ [113] := by
  show ((z.cps ++ ("q" : Str).cps) : Array Nat).toList = _
  rw [Array.toList_append]
  rfl
theorem len_q (z : Str) : (z ++ "q").length = z.length + 1 := by
  rw [← len_cod, cod_q, List.length_append, len_cod]
  rfl
/-- the eight changes -/
def eight (w f : Str) : List Ch := [⟨0, w, f⟩, ⟨1, w, f⟩, ⟨0, w, f ++ "q"⟩, ⟨2, "ab", "ba"⟩, ⟨2, "ba", "ab"⟩, ⟨3, w, ""⟩, ⟨4, w, ""⟩, ⟨3, w ++ "q", ""⟩]
theorem q_ne (z : Str) : z ≠ z ++ "q" := fun e => by
  have h := congrArg Str.length e
  rw [len_q] at h
  omega
theorem ceq_iff (c d : Ch) : ceq c d = true ↔ c = d := by
  obtain ⟨i, a, b⟩ := c
  obtain ⟨j, a', b'⟩ := d
  unfold ceq
  rw [Bool.and_eq_true, Bool.and_eq_true, decide_eq_true_iff, decide_eq_true_iff, decide_eq_true_iff]
  constructor
  · rintro ⟨h1, h2, h3⟩
    have h1 : i = j := h1
    injection h2 with h2
    injection h3 with h3
    have h2 : a = a' := h2
    have h3 : b = b' := h3
    rw [h1, h2, h3]
  · intro h
    cases h
    exact ⟨rfl, rfl, rfl⟩
theorem ab_ba : ("ab" : Str) ≠ "ba" := by decide
theorem eight_nodup (w f : Str) : (eight w f).Nodup := by
  have e1 := q_ne w
  have e2 := q_ne f
  have e3 := ab_ba
  unfold eight
  have n0 : ∀ {i j : Nat} {a b a' b' : Str}, i ≠ j → (⟨i, a, b⟩ : Ch) ≠ ⟨j, a', b'⟩ := fun h e => h (by injection e)
  have n1 : ∀ {i j : Nat} {a b a' b' : Str}, a ≠ a' → (⟨i, a, b⟩ : Ch) ≠ ⟨j, a', b'⟩ := fun h e => h (by injection e)
  have n2 : ∀ {i j : Nat} {a b a' b' : Str}, b ≠ b' → (⟨i, a, b⟩ : Ch) ≠ ⟨j, a', b'⟩ := fun h e => h (by injection e)
  refine List.nodup_cons.mpr ⟨?_, List.nodup_cons.mpr ⟨?_, List.nodup_cons.mpr ⟨?_, List.nodup_cons.mpr ⟨?_, List.nodup_cons.mpr ⟨?_, List.nodup_cons.mpr ⟨?_, List.nodup_cons.mpr ⟨?_, List.nodup_cons.mpr ⟨?_, List.nodup_nil⟩⟩⟩⟩⟩⟩⟩⟩
  all_goals (intro h; simp only [List.mem_cons, List.not_mem_nil, or_false] at h)
  · rcases h with h | h | h | h | h | h | h
    · exact n0 (by decide) h
    · exact n2 e2 h
    · exact n0 (by decide) h
    · exact n0 (by decide) h
    · exact n0 (by decide) h
    · exact n0 (by decide) h
    · exact n0 (by decide) h
  · rcases h with h | h | h | h | h | h <;> exact n0 (by decide) h
  · rcases h with h | h | h | h | h <;> exact n0 (by decide) h
  · rcases h with h | h | h | h
    · exact n1 e3 h
    · exact n0 (by decide) h
    · exact n0 (by decide) h
    · exact n0 (by decide) h
  · rcases h with h | h | h <;> exact n0 (by decide) h
  · rcases h with h | h
    · exact n0 (by decide) h
    · exact n1 e1 h
  · exact n0 (by decide) h
theorem eight_eq {w f : Str} {i j : Nat} {c d : Ch} (h1 : (eight w f)[i]? = some c) (h2 : (eight w f)[j]? = some d) : ceq c d = decide (i = j) := by
  by_cases h : i = j
  · subst h
    rw [h1] at h2
    cases h2
    rw [decide_eq_true rfl]
    exact (ceq_iff c c).mpr rfl
  · rw [decide_eq_false h]
    refine Bool.eq_false_iff.mpr fun z => h ?_
    have z := (ceq_iff c d).mp z
    subst z
    obtain ⟨a1, b1⟩ := List.getElem?_eq_some_iff.mp h1
    obtain ⟨a2, b2⟩ := List.getElem?_eq_some_iff.mp h2
    exact (List.getElem_inj (eight_nodup w f)).mp (b1.trans b2.symm)
/-- what is known behind the statements that make the lists -/
structure Known (C : Nat → Addr) (H0 : Hp) (d c : Addr) (n : Int) (ns : List Int) (was fresh : Str) (L1 L2 : Addr) (H : Hp) : Prop where
  w0 : ∀ x ∈ cod was, Lt x ∧ x ≠ 113
  f0 : ∀ x ∈ cod fresh, Lt x ∧ x ≠ 113
  l1 : 1 ≤ was.length
  l7 : was.length ≤ 7
  lf : fresh.length ≤ 7
  pen : PenAt H d c (n + 16) ns
  but : But d H0 H
  a : Chs C (eight was fresh) H L1
  b : Chs C (eight was fresh) H L2
theorem paired_at {C : Nat → Addr} {H : Hp} : ∀ {ts : List Ch} {vs : List V} {i : Nat} {t : Ch}, Paired (fun t v => CA C H t v) ts vs → ts[i]? = some t → ∃ v, vs[i]? = some v ∧ CA C H t v
  | _, _, i, t, .nil, h => by simp at h
  | _, _, 0, t, .cons a b, h => by
    rw [List.getElem?_cons_zero] at h
    cases h
    exact ⟨_, rfl, a⟩
  | _, _, i + 1, t, .cons a b, h => by
    rw [List.getElem?_cons_succ] at h ⊢
    exact paired_at b h
theorem Chs.same {C : Nat → Addr} {cs : List Ch} {H H' : Hp} {L : Addr} (s : Same H H') (h : Chs C cs H L) : Chs C cs H' L := by
  obtain ⟨vs, a, b⟩ := h
  exact ⟨vs, s _ _ a, paired_same s b⟩
theorem Chs.at_ {C : Nat → Addr} {was fresh : Str} {H : Hp} {L : Addr} (h : Chs C (eight was fresh) H L) {i : Nat} (hi : i < 8) : ∃ vs c v, H L = some (.lst vs) ∧ vs.length = 8 ∧ (eight was fresh)[i]? = some c ∧ atI vs ((0 : Int) + (i : Int)) = some v ∧ CA C H c v := by
  obtain ⟨vs, a, b⟩ := h
  have hc : i < (eight was fresh).length := hi
  have e : (eight was fresh)[i]? = some ((eight was fresh)[i]) := List.getElem?_eq_getElem hc
  obtain ⟨v, hv, tv⟩ := paired_at b e
  refine ⟨vs, _, v, a, ?_, e, ?_, tv⟩
  · rw [← paired_len b]
    rfl
  · rw [Int.zero_add]
    exact atI_nat hv
theorem shaped_int (i : Int) : SeqAt.shaped (.list [.int i]) = true := by
  unfold SeqAt.shaped
  have h1 : PyData.canLay0 (.list [.int i]) = true := rfl
  have h2 : PyData.depth (.list [.int i]) ≤ 64 := by
    show _ ≤ 64
    simp [PyData.depth, PyData.depthAll]
  rw [h1, decide_eq_true h2]
  rfl
theorem eqv_int (i : Int) : PyData.eqv (.list [.int i]) (.list [.int i]) = true := by
  simp [PyData.eqv, PyData.eqvAll]
theorem paired_cons {C : Nat → Addr} {H : Hp} {t : Ch} {ts : List Ch} {vs : List V} (h : Paired (fun t v => CA C H t v) (t :: ts) vs) : ∃ v ws, vs = v :: ws ∧ CA C H t v ∧ Paired (fun t v => CA C H t v) ts ws := by
  cases h with
  | cons a b => exact ⟨_, _, rfl, a, b⟩
theorem str_ok {z : Str} (h : ∀ x ∈ cod z, Lt x) : PyData.strOk z = true := by
  show (z.cps.all (· < 0x110000)) = true
  rw [Array.all_eq_true]
  intro i hi
  have m : z.cps[i] ∈ cod z := by
    show z.cps[i] ∈ z.cps.toList
    exact Array.mem_toList_iff.mpr (Array.getElem_mem hi)
  have := (h _ m).2.1
  exact decide_eq_true (by omega)
theorem shows4 {C : Nat → Addr} {H0 H : Hp} {d c : Addr} {n : Int} {ns : List Int} {was fresh : Str} {L1 L2 : Addr} (k : Known C H0 d c n ns was fresh L1 L2 H) : Shows (.list [.str was, .str fresh, .str was, .str was]) := by
  have ow : PyData.strOk was = true := str_ok fun x hx => (k.w0 x hx).1
  have of : PyData.strOk fresh = true := str_ok fun x hx => (k.f0 x hx).1
  have lay : PyData.layable0 (.list [.str was, .str fresh, .str was, .str was]) = true := by
    unfold PyData.layable0
    have a1 : PyData.canLay0 (.list [.str was, .str fresh, .str was, .str was]) = true := by
      simp only [PyData.canLay0, PyData.canLayAll0, ow, of, Bool.and_self]
    have a2 : PyData.depth (.list [.str was, .str fresh, .str was, .str was]) ≤ 64 := by
      show _ ≤ 64
      simp [PyData.depth, PyData.depthAll]
    have a3 : PyData.weight (.list [.str was, .str fresh, .str was, .str was]) ≤ 2 ^ 20 := by
      have w8 : was.cps.size ≤ 7 := k.l7
      have f3 : fresh.cps.size ≤ 7 := k.lf
      simp only [PyData.weight, PyData.weightAll]
      omega
    rw [a1, decide_eq_true a2, decide_eq_true a3]
    rfl
  refine ⟨rfl, Nat.le_trans (PyProof.Rows.shown_le13 lay (by simp [PyData.intsShort, PyData.intsShortAll])) (by decide), ?_⟩
  show _ ≤ 60
  simp [PyData.depth, PyData.depthAll]
theorem showsAB : Shows (.list [.str "ab", .str "ba"]) := ⟨rfl, by decide +kernel, by decide +kernel⟩
theorem shownAB : decide (V.str (PyData.list [.str "ab", .str "ba"]).shown = V.str "['ab', 'ba']") = true := by decide +kernel
theorem range_one : ∀ (n i : Nat), i < n → (List.range n).filter (fun k => decide (k = i)) = [i]
  | 0, i, h => absurd h (by omega)
  | n + 1, i, h => by
    rw [List.range_succ, List.filter_append]
    by_cases e : i = n
    · subst e
      have z : (List.range i).filter (fun k => decide (k = i)) = [] := by
        rw [List.filter_eq_nil_iff]
        intro k hk
        have := List.mem_range.mp hk
        simp
        omega
      rw [z]
      simp
    · rw [range_one n i (by omega)]
      have : ¬ n = i := fun z => e z.symm
      simp [this]
section
variable {P : Program} {w : World} {K : PySem.W.Frag} {mg : Str → Option Value} {base : Heap} {C : Nat → Addr} {D : Addr} {fi : Nat → Addr} {fdi : Nat → FuncData} {fe : Nat → Addr} {fde : Nat → FuncData}
/-- the last statements -/
theorem mr_end {f Te : Addr} {cdv : Value} {A : Around} {outer : List Env} {s : Shared} {H : Hp} {E : XK} {p g : Nat → Addr} {fg : Nat → FuncData} (N : NamT mg C) (k0 : KC K C) (GT : GetT P w K mg base C p g fg) (MQ : ∀ i, i < 5 → EqAt P w K mg base C 1 i (fe i) (fde i)) (mL : mg "len" = none) (mRa : mg "range" = none) (mRe : mg "repr" = none) (mTe : mg "LineChange" = some (.ref Te)) (kT : PySem.W.kitOne K (.ref (C 2)) (.ref Te) = some true) (hr : Room 15 (A.deeper (envOfC "_law_made_right" (defScope sMadeR) s.heap.objs.size f cdv))) (hg : (A.deeper (envOfC "_law_made_right" (defScope sMadeR) s.heap.objs.size f cdv)).guards = some []) : ∃ t, PSs (cxOf CX0 P w K mg base ["_law_pen_here", "_law_signs_here", "_law_was", "_law_fresh", "_law_some", "_law_again", "_law_k", "_law_j"] "_law_made_right" (defScope sMadeR) f cdv A outer s H E).nox ((defBody sMadeR).drop 6) t ∧
      ∀ (De : Ends) (H0 H' : Hp) (d c : Addr) (n : Int) (ns : List Int) (z was fresh : Str) (L1 L2 : Addr) (x6 x7 : Option V), Known C H0 d c n ns was fresh L1 L2 H' → (∀ H2, Same H' H2 → De.rt (.bl true) H2) → t De [some (.ref d), some (.str z), some (.str was), some (.str fresh), some (.ref L1), some (.ref L2), x6, x7] H' := by
  have hr1 : Room 2 _ := hr.mono (by decide)
  have hu6 := hr.units
  refine ⟨_, pss_cons (by exact (ps_if (pt_cmpR op_ne (pe_callB (call_repr hg hu6) (by rfl) mRe (by decide +kernel) (pa_cons (pe_lst (pa_cons (pe_prop (pe_ix ix_list (pv 4) pe_int (fun _ _ => rfl)) (k0.cls 1 (by decide)) GT.e1.prop GT.e1.ok hr1 GT.e1.b .nil pass0 rfl) (pa_cons (pe_prop (pe_ix ix_list (pv 4) pe_int (fun _ _ => rfl)) (k0.cls 1 (by decide)) GT.e2.prop GT.e2.ok hr1 GT.e2.b .nil pass0 rfl) (pa_cons (pe_prop (pe_ix ix_list (pv 4) pe_int (fun _ _ => rfl)) (k0.cls 3 (by decide)) GT.f.prop GT.f.ok hr1 GT.f.b .nil pass0 rfl) (pa_cons (pe_prop (pe_ix ix_list (pv 4) pe_int (fun _ _ => rfl)) (k0.cls 4 (by decide)) GT.b.prop GT.b.ok hr1 GT.b.b .nil pass0 rfl) pa_nil))))) pa_nil)) (pe_callB (call_repr hg hu6) (by rfl) mRe (by decide +kernel) (pa_cons (pe_lst (pa_cons (pv 2) (pa_cons (pv 3) (pa_cons (pv 2) (pa_cons (pv 2) pa_nil))))) pa_nil)) (nomark _)) (pss_one (by exact (ps_ret pe_bl))) pss_nil)) (
      pss_one (by exact (ps_ret (pe_and (pe_cmpR op_eq (pe_callB (call_repr hg hu6) (by rfl) mRe (by decide +kernel) (pa_cons (pe_lst (pa_cons (pe_prop (pe_ix ix_list (pv 4) pe_int (fun _ _ => rfl)) (k0.cls 2 (by decide)) GT.s1.prop GT.s1.ok hr1 GT.s1.b .nil pass0 rfl) (pa_cons (pe_prop (pe_ix ix_list (pv 4) pe_int (fun _ _ => rfl)) (k0.cls 2 (by decide)) GT.s2.prop GT.s2.ok hr1 GT.s2.b .nil pass0 rfl) pa_nil))) pa_nil)) pe_str (nomark _)) (pe_one (pe_callB call_isi (by rfl) N.isM (by decide +kernel) (pa_cons (pe_ix ix_list (pv 4) pe_int (fun _ _ => rfl)) (pa_cons (pe_glob (v := .ref Te) rfl mTe rfl) pa_nil)))))))), fun De H0 H' d c n ns z was fresh L1 L2 x6 x7 kn k => ?_⟩
  obtain ⟨V1, hL1, p1⟩ := kn.a
  obtain ⟨y0, r0, rfl, t0, p1⟩ := paired_cons p1
  obtain ⟨y1, r1, rfl, t1, p1⟩ := paired_cons p1
  obtain ⟨y2, r2, rfl, t2, p1⟩ := paired_cons p1
  obtain ⟨y3, r3, rfl, t3, p1⟩ := paired_cons p1
  obtain ⟨y4, r4, rfl, t4, p1⟩ := paired_cons p1
  obtain ⟨y5, r5, rfl, t5, p1⟩ := paired_cons p1
  obtain ⟨y6, r6, rfl, t6, p1⟩ := paired_cons p1
  obtain ⟨y7, r7, rfl, t7, p1⟩ := paired_cons p1
  cases p1
  generalize hV : [y0, y1, y2, y3, y4, y5, y6, y7] = V1 at hL1
  have at1 : atI V1 1 = some y1 := by rw [← hV]; exact atI_nat (j := 1) rfl
  have at3 : atI V1 3 = some y3 := by rw [← hV]; exact atI_nat (j := 3) rfl
  have at4 : atI V1 4 = some y4 := by rw [← hV]; exact atI_nat (j := 4) rfl
  have at5 : atI V1 5 = some y5 := by rw [← hV]; exact atI_nat (j := 5) rfl
  have at6 : atI V1 6 = some y6 := by rw [← hV]; exact atI_nat (j := 6) rfl
  obtain ⟨_, _, a1, dx1, e1, h1⟩ := t1
  obtain ⟨_, _, a3, dx3, e3, h3⟩ := t3
  obtain ⟨_, _, a5, dx5, e5, h5⟩ := t5
  obtain ⟨_, _, a6, dx6, e6, h6⟩ := t6
  have h1 : H' a1 = some (.ins (C 1) dx1 [("_old", .str was), ("_new", .str fresh)]) := h1
  have h3 : H' a3 = some (.ins (C 2) dx3 [("_letters", .str "ab"), ("_others", .str "ba")]) := h3
  have h5 : H' a5 = some (.ins (C 3) dx5 [("_word", .str was)]) := h5
  have h6 : H' a6 = some (.ins (C 4) dx6 [("_word", .str was)]) := h6
  have sq : ∀ {Y : Hp}, Same H' Y → SqL K Y L1 V1 := fun sy => SqL.of (sy _ _ hL1)
  have id0 : Same H' H' := fun _ _ e => e
  have dp4 : ∀ Hx : Hp, DpAll K Hx [V.str was, V.str fresh, V.str was, V.str was] [.str was, .str fresh, .str was, .str was] := fun Hx => .cons (.str _) (.cons (.str _) (.cons (.str _) (.cons (.str _) .nil)))
  have shows := shows4 kn
  refine ⟨_, rfl, L1, V1, _, y1, rfl, rfl, sq id0, at1, a1, dx1, _, e1, h1, a1, dx1, _, .str was, rfl, h1, look2a, _, rfl, L1, V1, _, y1, rfl, rfl, sq id0, at1, a1, dx1, _, e1, h1, a1, dx1, _, .str fresh, rfl, h1, rfl,
    _, rfl, L1, V1, _, y5, rfl, rfl, sq id0, at5, a5, dx5, _, e5, h5, a5, dx5, _, .str was, rfl, h5, look1, _, rfl, L1, V1, _, y6, rfl, rfl, sq id0, at6, a6, dx6, _, e6, h6, a6, dx6, _, .str was, rfl, h6, look1, (by show 4 ≤ sizeLine; decide), fun U nU => ?_⟩
  have sU := same_upd (o := .lst [V.str was, V.str fresh, V.str was, V.str was]) nU
  refine ⟨_, _, rfl, .dp (.lst (SqL.of upd_same) (dp4 _)), shows, ?_⟩
  refine ⟨_, rfl, _, rfl, _, rfl, _, rfl, (by show 4 ≤ sizeLine; decide), fun W nW => ?_⟩
  have sW := sU.trans (same_upd (o := .lst [V.str was, V.str fresh, V.str was, V.str was]) nW)
  refine ⟨_, _, rfl, .dp (.lst (xs := [V.str was, V.str fresh, V.str was, V.str was]) (SqL.of upd_same) (dp4 _)), shows, rfl, _, rfl, ?_⟩
  rw [decide_eq_true rfl]
  generalize upd _ W _ = Y at sW ⊢
  refine iteF ?_
  have h3Y := sW _ _ h3
  refine ⟨_, rfl, L1, V1, _, y3, rfl, rfl, sq sW, at3, a3, dx3, _, e3, h3Y, a3, dx3, _, .str "ab", rfl, h3Y, look2a, _, rfl, L1, V1, _, y3, rfl, rfl, sq sW, at3, a3, dx3, _, e3, h3Y, a3, dx3, _, .str "ba", rfl, h3Y, rfl, (by show 2 ≤ sizeLine; decide), fun U2 nU2 => ?_⟩
  have s2 := sW.trans (same_upd (o := .lst [V.str "ab", V.str "ba"]) nU2)
  refine ⟨_, _, rfl, .dp (.lst (xs := [V.str "ab", V.str "ba"]) (SqL.of upd_same) (.cons (.str _) (.cons (.str _) .nil))), showsAB, rfl, _, rfl, ?_⟩
  rw [shownAB]
  refine iteT ⟨_, rfl, L1, V1, _, y4, rfl, rfl, sq s2, at4, _, _, _, _, _, rfl, .own Te, (t4.same s2).ty k0, kT, ?_⟩
  exact k _ s2
/-- the loop over all pairs -/
theorem mr_loop {f Te : Addr} {cdv : Value} {A : Around} {outer : List Env} {s : Shared} {H : Hp} {E : XK} {p g : Nat → Addr} {fg : Nat → FuncData} (N : NamT mg C) (k0 : KC K C) (GT : GetT P w K mg base C p g fg) (MQ : ∀ i, i < 5 → EqAt P w K mg base C 1 i (fe i) (fde i)) (mL : mg "len" = none) (mRa : mg "range" = none) (mRe : mg "repr" = none) (mTe : mg "LineChange" = some (.ref Te)) (kT : PySem.W.kitOne K (.ref (C 2)) (.ref Te) = some true) (hr : Room 15 (A.deeper (envOfC "_law_made_right" (defScope sMadeR) s.heap.objs.size f cdv))) (t : TS) (pt : PSs (cxOf CX0 P w K mg base ["_law_pen_here", "_law_signs_here", "_law_was", "_law_fresh", "_law_some", "_law_again", "_law_k", "_law_j"] "_law_made_right" (defScope sMadeR) f cdv A outer s H E).nox ((defBody sMadeR).drop 6) t) : ∃ t', PSs (cxOf CX0 P w K mg base ["_law_pen_here", "_law_signs_here", "_law_was", "_law_fresh", "_law_some", "_law_again", "_law_k", "_law_j"] "_law_made_right" (defScope sMadeR) f cdv A outer s H E).nox ((defBody sMadeR).drop 5) t' ∧
      ∀ (De : Ends) (H0 H' : Hp) (d c : Addr) (n : Int) (ns : List Int) (z was fresh : Str) (L1 L2 : Addr), Known C H0 d c n ns was fresh L1 L2 H' →
        (∀ (x6 x7 : Option V) (H2 : Hp), Same H' H2 → t De [some (.ref d), some (.str z), some (.str was), some (.str fresh), some (.ref L1), some (.ref L2), x6, x7] H2) → t' De [some (.ref d), some (.str z), some (.str was), some (.str fresh), some (.ref L1), some (.ref L2), none, none] H' := by
  have hr1 : Room 2 _ := hr.mono (by decide)
  have hr2 : Room 1 _ := hr.mono (by decide)
  have hu6 := hr.units
  refine ⟨_, pss_cons (by exact (ps_for PassesOwn.never rfl (pi_range1 rfl mRa (pa_cons (pe_callB call_len_seq (by rfl) mL PySem.boot_len (pa_cons (pv 4) pa_nil)) pa_nil)) (pg_name (i := 6) scMr.nd rfl (Or.inr rfl)) (pss_one (by exact (ps_if (PW.pt (pw_or (pt_cmpR (op_neD hr.units) (pe_lc (own := [("_law_j", 7)]) (g := gName 7) (tt := tTest (tOp (rEqT C false) (tOp (rIxL K) (tVar 4) (tVar 6)) (tOp (rIxL K) (tVar 5) (tVar 7)))) (te := tVar 7) rfl scMr.nd (pi_range1 rfl mRa (pa_cons (pe_callB call_len_seq (by rfl) mL PySem.boot_len (pa_cons (pv 5) pa_nil)) pa_nil))
        (blkOk_by (N := ["_law_pen_here", "_law_signs_here", "_law_was", "_law_fresh", "_law_some", "_law_again", "_law_k", "_law_j"]) (sc := defScope sMadeR) (by decide +kernel))
        (fun _ _ _ _ _ => by exact (pg_name (i := 7) scMr.nd rfl (Or.inl rfl)))
        (fun _ _ _ _ _ => by exact (pts_one (pt_cmpR (op_t k0 MQ hr2) (pe_ix ix_list (pv 4) (pv 6) (fun _ _ => rfl)) (pe_ix ix_list (pv 5) (pv 7) (fun _ _ => rfl)) (nomark _))))
        (fun _ _ _ _ _ => by exact (pv 7))) (pe_lst (pa_cons (pv 6) pa_nil)) (nomark _)) (pw_or (pt_cmpR (op_t k0 MQ hr2) (pe_ix ix_list (pv 4) (pv 6) (fun _ _ => rfl)) (pv 2) (nomark _)) (pw_or1 (pt_not (pt_cmpR (op_tNe k0 MQ hr1) (pe_ix ix_list (pv 4) (pv 6) (fun _ _ => rfl)) (pv 2) (nomark _))))))) (pss_one (by exact (ps_ret pe_bl))) pss_nil))))) pt, fun De H0 H' d c n ns z was fresh L1 L2 kn k => ?_⟩
  obtain ⟨v1, hL1, p1⟩ := kn.a
  obtain ⟨v2, hL2, p2⟩ := kn.b
  have len1 : v1.length = 8 := by
    rw [← paired_len p1]
    rfl
  have len2 : v2.length = 8 := by
    rw [← paired_len p2]
    rfl
  refine ⟨_, rfl, L1, v1, rfl, .inl (SqL.of hL1), 8, (by rw [len1]; rfl), by decide, by decide, for_range (lo := 0) (n := 8) (fun i σ X => ∃ x6 x7 : Option V, σ = [some (.ref d), some (.str z), some (.str was), some (.str fresh), some (.ref L1), some (.ref L2), x6, x7] ∧ Same H' X) ⟨none, none, rfl, fun _ _ e => e⟩ (fun i σ X hi pv => ?_) (fun σ X pv => ?_)⟩
  · obtain ⟨x6, x7, rfl, sX⟩ := pv
    obtain ⟨w1, ci, a, ha, _, eci, ata, ta⟩ := Chs.at_ (Chs.same sX kn.a) hi
    have hL2X := sX _ _ hL2
    refine ⟨_, rfl, L2, v2, rfl, .inl (SqL.of hL2X), 8, (by rw [len2]; rfl), by decide, by decide, fun DD nD => ?_⟩
    refine lc_range (fun j Y => Y DD = some (.lst (((List.range j).filter (fun k => decide (k = i))).map fun (k : Nat) => V.int ((0 : Int) + ((k : Nat) : Int)))) ∧ Same X Y) ⟨upd_same, same_upd nD⟩ (fun j Y hj pY => ?_) (fun Y pY => ?_)
    · obtain ⟨pD, pS⟩ := pY
      obtain ⟨w2, cj, b, hb, _, ecj, atb, tb⟩ := Chs.at_ (Chs.same (sX.trans pS) kn.b) (show j < 8 from hj)
      refine ⟨rfl, ?_⟩
      have eq1 : ceq ci cj = decide (i = j) := eight_eq eci ecj
      refine ⟨_, rfl, _, rfl, L1, w1, _, a, rfl, rfl, SqL.of (pS _ _ ha), ata, _, rfl, _, rfl, L2, w2, _, b, rfl, rfl, SqL.of hb, atb, _, _, ta.same pS, .inr ⟨_, tb, rfl⟩, fun Z sz => ⟨_, rfl, ?_⟩⟩
      rw [eq1]
      have ext : (List.range (j + 1)).filter (fun k => decide (k = i)) = (List.range j).filter (fun k => decide (k = i)) ++ (if i = j then [j] else []) := by
        rw [List.range_succ, List.filter_append]
        congr 1
        by_cases e : i = j
        · rw [if_pos e]
          simp [e]
        · rw [if_neg e]
          have : ¬ j = i := fun z => e z.symm
          simp [this]
      by_cases e : i = j
      · rw [if_pos e] at ext
        rw [decide_eq_true e]
        show (if (true != false) = true then _ else _)
        rw [if_pos (by decide)]
        refine ⟨_, rfl, _, sz _ _ pD, ?_, ?_, ?_⟩
        · rw [List.length_map]
          refine Nat.lt_of_le_of_lt (List.length_filter_le _ _) ?_
          rw [List.length_range]
          exact Nat.lt_trans hj (by decide)
        · rw [ext, List.map_append]
          exact upd_same
        · intro bb o eo
          rw [upd_ne (ne_of_none eo nD)]
          exact sz _ _ (pS bb o eo)
      · rw [if_neg e, List.append_nil] at ext
        rw [decide_eq_false e]
        show (if (false != false) = true then _ else _)
        rw [if_neg (by decide), ext]
        exact ⟨sz _ _ pD, pS.trans sz⟩
    · obtain ⟨pD, pS⟩ := pY
      rw [show (8 : Int).toNat = 8 from rfl, range_one 8 i hi] at pD
      refine ⟨_, rfl, (by show 1 ≤ sizeLine; decide), fun p2 np => ?_⟩
      have sp := pS.trans (same_upd (o := .lst [.int (0 + (i : Int))]) np)
      refine ⟨.list [.int (0 + (i : Int))], .list [.int (0 + (i : Int))], .lst (SqL.of ((same_upd np) _ _ pD)) (.cons (.int _) .nil), .lst (SqL.of upd_same) (.cons (.int _) .nil), shaped_int _, shaped_int _, _, rfl, ?_⟩
      rw [eqv_int]
      refine iteF ?_
      have ta2 := ta.same sp
      refine ⟨_, rfl, _, rfl, L1, w1, _, a, rfl, rfl, SqL.of (sp _ _ ha), ata, _, rfl, _, false, ta2, .inl ⟨was, rfl, rfl⟩, fun Z sz => ⟨_, rfl, iteF ?_⟩⟩
      have s2 := sp.trans sz
      refine ⟨_, rfl, _, rfl, L1, w1, _, a, rfl, rfl, SqL.of (s2 _ _ ha), ata, _, rfl, _, false, ta.same s2, .inl ⟨was, rfl, rfl⟩, fun Y2 sy => ⟨_, rfl, iteF ?_⟩⟩
      exact ⟨_, _, rfl, sX.trans (s2.trans sy)⟩
  · obtain ⟨x6, x7, rfl, sX⟩ := pv
    exact k x6 x7 X sX
end
end LA
end
section
set_option Elab.async false
set_option linter.all false
set_option maxRecDepth 100000
set_option maxHeartbeats 8000000
namespace LA
open PySem PySem.Spec PyProof.Rows L2 XS XT XK XO XL LamX
section
variable {P : Program} {w : World} {K : PySem.W.Frag} {mg : Str → Option Value} {base : Heap} {C : Nat → Addr} {D : Addr} {fi : Nat → Addr} {fdi : Nat → FuncData} {fe : Nat → Addr} {fde : Nat → FuncData}
/-- the statements that make the lists, ahead of what follows them -/
theorem mr_lists {f fr : Addr} {cdv : Value} {fdr : FuncData} {A : Around} {outer : List Env} {s : Shared} {H : Hp} {E : XK} (N : NamT mg C) (M : MakB P w K mg base C D fi fdi) (RW : CallOf P w K mg base 3 "_law_row" ["_law_pen_here", "_law_signs_here", "_law_least", "_law_most_letters"] spRow fr fdr)
    (hr : Room 15 (A.deeper (envOfC "_law_made_right" (defScope sMadeR) s.heap.objs.size f cdv))) (t : TS) (pt : PSs (cxOf CX0 P w K mg base ["_law_pen_here", "_law_signs_here", "_law_was", "_law_fresh", "_law_some", "_law_again", "_law_k", "_law_j"] "_law_made_right" (defScope sMadeR) f cdv A outer s H E).nox ((defBody sMadeR).drop 5) t) : ∃ t', PSs (cxOf CX0 P w K mg base ["_law_pen_here", "_law_signs_here", "_law_was", "_law_fresh", "_law_some", "_law_again", "_law_k", "_law_j"] "_law_made_right" (defScope sMadeR) f cdv A outer s H E).nox (defBody sMadeR) t' ∧
      ∀ (De : Ends) (d c : Addr) (n : Int) (ns : List Int) (z : Str), PenAt H d c n ns → n + 20 < 1000000 → Sgn z →
        (∀ (was fresh : Str) (L1 L2 : Addr) (H' : Hp), Known C H d c n ns was fresh L1 L2 H' → t De [some (.ref d), some (.str z), some (.str was), some (.str fresh), some (.ref L1), some (.ref L2), none, none] H') → t' De (start ["_law_pen_here", "_law_signs_here", "_law_was", "_law_fresh", "_law_some", "_law_again", "_law_k", "_law_j"] [.ref d, .str z]) H := by
  have hr3 : Room 3 _ := hr.mono (by decide)
  have hr7 : Room 7 _ := hr.mono (by decide)
  refine ⟨_, pss_cons (by exact (ps_par (i := 2) (j := 3) (by rfl) scMr.nd rfl rfl (by decide) rfl rfl (pa_cons (pe_call RW.ok hr3 rfl RW.m RW.k RW.b .nil pass0 (pa_cons (pv 0) (pa_cons (pv 1) (pa_cons pe_int (pa_cons pe_int pa_nil))))) (pa_cons (pe_call RW.ok hr3 rfl RW.m RW.k RW.b .nil pass0 (pa_cons (pv 0) (pa_cons (pv 1) (pa_cons pe_int (pa_cons pe_int pa_nil))))) pa_nil)) (by rfl))) (
      pss_cons (by exact (ps_set (i := 4) scMr.nd rfl (Or.inr rfl) (lx_lst (mx_cons (md_two (s := 0) (pe_make M.m0.made M.m0.ok hr7 rfl N.n0 M.m0.b .nil passF (pa_cons (tx_slot (pv 2)) (pa_cons (tx_slot (pv 3)) pa_nil))) (fun _ _ => rfl)) (mx_cons (md_two (s := 1) (pe_make M.m1.made M.m1.ok hr7 rfl N.n1 M.m1.b .nil passF (pa_cons (tx_slot (pv 2)) (pa_cons (tx_slot (pv 3)) pa_nil))) (fun _ _ => rfl)) (mx_cons (md_two (s := 0) (pe_make M.m0.made M.m0.ok hr7 rfl N.n0 M.m0.b .nil passF (pa_cons (tx_slot (pv 2)) (pa_cons (tx_q (pv 3) pe_str) pa_nil))) (fun _ _ => rfl)) (mx_cons (md_two (s := 2) (pe_make M.m2.made M.m2.ok hr7 rfl N.n2 M.m2.b .nil passF (pa_cons (tx_c pe_str) (pa_cons (tx_c pe_str) pa_nil))) (fun _ _ => rfl)) (mx_cons (md_two (s := 2) (pe_make M.m2.made M.m2.ok hr7 rfl N.n2 M.m2.b .nil passF (pa_cons (tx_c pe_str) (pa_cons (tx_c pe_str) pa_nil))) (fun _ _ => rfl)) mx_nil)))))))) (
      pss_cons (by exact (ps_set (i := 5) scMr.nd rfl (Or.inr rfl) (lx_lst (mx_cons (md_two (s := 0) (pe_make M.m0.made M.m0.ok hr7 rfl N.n0 M.m0.b .nil passF (pa_cons (tx_slot (pv 2)) (pa_cons (tx_slot (pv 3)) pa_nil))) (fun _ _ => rfl)) (mx_cons (md_two (s := 1) (pe_make M.m1.made M.m1.ok hr7 rfl N.n1 M.m1.b .nil passF (pa_cons (tx_slot (pv 2)) (pa_cons (tx_slot (pv 3)) pa_nil))) (fun _ _ => rfl)) (mx_cons (md_two (s := 0) (pe_make M.m0.made M.m0.ok hr7 rfl N.n0 M.m0.b .nil passF (pa_cons (tx_slot (pv 2)) (pa_cons (tx_q (pv 3) pe_str) pa_nil))) (fun _ _ => rfl)) (mx_cons (md_two (s := 2) (pe_make M.m2.made M.m2.ok hr7 rfl N.n2 M.m2.b .nil passF (pa_cons (tx_c pe_str) (pa_cons (tx_c pe_str) pa_nil))) (fun _ _ => rfl)) (mx_cons (md_two (s := 2) (pe_make M.m2.made M.m2.ok hr7 rfl N.n2 M.m2.b .nil passF (pa_cons (tx_c pe_str) (pa_cons (tx_c pe_str) pa_nil))) (fun _ _ => rfl)) mx_nil)))))))) (
      pss_cons (by exact (ps_set (i := 4) scMr.nd rfl (Or.inr rfl) (lx_cat (lx_slot (pv 4)) (lx_lst (mx_cons (md_one (s := 3) (pe_make M.m3.made M.m3.ok hr7 rfl N.n3 M.m3.b .nil passF (pa_cons (tx_slot (pv 2)) pa_nil))) (mx_cons (md_one (s := 4) (pe_make M.m4.made M.m4.ok hr7 rfl N.n4 M.m4.b .nil passF (pa_cons (tx_slot (pv 2)) pa_nil))) (mx_cons (md_one (s := 3) (pe_make M.m3.made M.m3.ok hr7 rfl N.n3 M.m3.b .nil passF (pa_cons (tx_q (pv 2) pe_str) pa_nil))) mx_nil)))) (fun σ H H2 ts s h => h)))) (
      pss_cons (by exact (ps_set (i := 5) scMr.nd rfl (Or.inr rfl) (lx_cat (lx_slot (pv 5)) (lx_lst (mx_cons (md_one (s := 3) (pe_make M.m3.made M.m3.ok hr7 rfl N.n3 M.m3.b .nil passF (pa_cons (tx_slot (pv 2)) pa_nil))) (mx_cons (md_one (s := 4) (pe_make M.m4.made M.m4.ok hr7 rfl N.n4 M.m4.b .nil passF (pa_cons (tx_slot (pv 2)) pa_nil))) (mx_cons (md_one (s := 3) (pe_make M.m3.made M.m3.ok hr7 rfl N.n3 M.m3.b .nil passF (pa_cons (tx_q (pv 2) pe_str) pa_nil))) mx_nil)))) (fun σ H H2 ts s h => h)))) (
      pt))))), fun De d c n ns z pen hn sz k => ?_⟩
  refine ⟨_, rfl, _, rfl, d, c, n, ns, z, 1, 7, rfl, pen, by omega, by have := sz.two; omega, by have := sz.three; omega, by decide, by decide, fun was H1 wl w1 w7 pen1 b1 => ?_⟩
  refine ⟨_, rfl, _, rfl, d, c, n + 1 + 7, ns, z, 0, 7, rfl, pen1, by omega, by have := sz.two; omega, by have := sz.three; omega, by decide, by decide, fun fresh H2 fl f1 f7 pen2 b2 => ?_⟩
  have lw : was.length < 4000 := by omega
  have lf : fresh.length < 4000 := by omega
  refine ⟨_, _, rfl, ?_⟩
  have wz : ∀ x ∈ cod was, Lt x ∧ x ≠ 113 := fun x hx => ⟨sz.lets x (wl x hx), sz.nq x (wl x hx)⟩
  have fz : ∀ x ∈ cod fresh, Lt x ∧ x ≠ 113 := fun x hx => ⟨sz.lets x (fl x hx), sz.nq x (fl x hx)⟩
  have okw : lineB was = true := lineB_of.mpr fun x hx => (wz x hx).1
  have okf : lineB fresh = true := lineB_of.mpr fun x hx => (fz x hx).1
  have okq : ∀ y : Str, (∀ x ∈ cod y, Lt x ∧ x ≠ 113) → lineB (y ++ "q") = true := fun y hy => lineB_of.mpr fun x hx => by
    rw [cod_q] at hx
    rcases List.mem_append.mp hx with v | v
    · exact (hy x v).1
    · have e : x = 113 := by simpa using v
      rw [e]
      decide
  have lwn : (was ++ "q").length = was.length + 1 := len_q was
  have lfn : (fresh ++ "q").length = fresh.length + 1 := len_q fresh
  have lwq : (was ++ "q").length < 4000 := by omega
  have lfq : (fresh ++ "q").length < 4000 := by omega
  have oWs : shortB was = true := by
    unfold shortB wordB
    rw [okw, decide_eq_true (show 0 < was.length by omega), decide_eq_true (show was.length ≤ 8 by omega)]
    rfl
  have oWq : shortB (was ++ "q") = true := by
    unfold shortB wordB
    rw [okq was wz, decide_eq_true (show 0 < (was ++ "q").length by omega), decide_eq_true (show (was ++ "q").length ≤ 8 by omega)]
    rfl
  have oW : okv shortB (.str was) = true := oWs
  have oF : newB2 (.str was) (.str fresh) = true := by
    show (lineB fresh && decide (fresh.length ≤ 8)) = true
    rw [okf, decide_eq_true (show fresh.length ≤ 8 by omega)]
    rfl
  have oFq : newB2 (.str was) (.str (fresh ++ "q")) = true := by
    show (lineB (fresh ++ "q") && decide ((fresh ++ "q").length ≤ 8)) = true
    rw [okq fresh fz, decide_eq_true (show (fresh ++ "q").length ≤ 8 by omega)]
    rfl
  refine ⟨_, ⟨⟨_, _, ⟨_, _, rfl, rfl, oW, oF, lw, lf, by decide, rfl⟩, ⟨_, _, ⟨_, _, rfl, rfl, oW, oF, lw, lf, by decide, rfl⟩, ⟨_, _, ⟨_, _, rfl, ⟨_, rfl, lf, rfl⟩, oW, oFq, lw, lfq, by decide, rfl⟩, ⟨_, _, ⟨_, _, rfl, rfl, by decide +kernel, by decide +kernel, by decide, by decide, by decide, rfl⟩, ⟨_, _, ⟨_, _, rfl, rfl, by decide +kernel, by decide +kernel, by decide, by decide, by decide, rfl⟩, rfl, rfl⟩, rfl⟩, rfl⟩, rfl⟩, rfl⟩, by show 5 ≤ 1000; decide⟩, fun L1 v1 H3 hL1 p1 s4 => ?_⟩
  refine ⟨_, ⟨⟨_, _, ⟨_, _, rfl, rfl, oW, oF, lw, lf, by decide, rfl⟩, ⟨_, _, ⟨_, _, rfl, rfl, oW, oF, lw, lf, by decide, rfl⟩, ⟨_, _, ⟨_, _, rfl, ⟨_, rfl, lf, rfl⟩, oW, oFq, lw, lfq, by decide, rfl⟩, ⟨_, _, ⟨_, _, rfl, rfl, by decide +kernel, by decide +kernel, by decide, by decide, by decide, rfl⟩, ⟨_, _, ⟨_, _, rfl, rfl, by decide +kernel, by decide +kernel, by decide, by decide, by decide, rfl⟩, rfl, rfl⟩, rfl⟩, rfl⟩, rfl⟩, rfl⟩, by show 5 ≤ 1000; decide⟩, fun L2 v2 H4 hL2 p2 s5 => ?_⟩
  refine ⟨_, ⟨_, _, ⟨L1, v1, rfl, s5 _ _ hL1, paired_same s5 p1⟩, ⟨⟨_, _, ⟨_, rfl, oWs, lw, by decide, by decide, rfl⟩, ⟨_, _, ⟨_, rfl, oWs, lw, by decide, by decide, rfl⟩, ⟨_, _, ⟨_, ⟨_, rfl, lw, rfl⟩, oWq, lwq, by decide, by decide, rfl⟩, rfl, rfl⟩, rfl⟩, rfl⟩, by show 3 ≤ 1000; decide⟩, by show 5 ≤ 1000; decide, by show 3 ≤ 1000; decide, rfl⟩, fun L3 v3 H5 hL3 p3 s6 => ?_⟩
  refine ⟨_, ⟨_, _, ⟨L2, v2, rfl, s6 _ _ hL2, paired_same s6 p2⟩, ⟨⟨_, _, ⟨_, rfl, oWs, lw, by decide, by decide, rfl⟩, ⟨_, _, ⟨_, rfl, oWs, lw, by decide, by decide, rfl⟩, ⟨_, _, ⟨_, ⟨_, rfl, lw, rfl⟩, oWq, lwq, by decide, by decide, rfl⟩, rfl, rfl⟩, rfl⟩, rfl⟩, by show 3 ≤ 1000; decide⟩, by show 5 ≤ 1000; decide, by show 3 ≤ 1000; decide, rfl⟩, fun L4 v4 H6 hL4 p4 s7 => ?_⟩
  have sAll' := s4.trans (s5.trans (s6.trans s7))
  exact k was fresh L3 L4 H6 ⟨wz, fz, by omega, by omega, by omega, by rw [show n + 16 = n + 1 + 7 + 1 + 7 by omega]; exact pen2.keep sAll', b1.trans (b2.trans (But.same sAll')), ⟨v3, s7 _ _ hL3, paired_same s7 p3⟩, ⟨v4, hL4, p4⟩⟩
/-- made_right -/
def spMr : Sp := fun vs H Q _ => ∃ (d c : Addr) (n : Int) (ns : List Int) (z : Str), vs = [.ref d, .str z] ∧ PenAt H d c n ns ∧ n + 20 < 1000000 ∧ Sgn z ∧ ∀ H', PenAt H' d c (n + 16) ns → But d H H' → Q (.bl true) H'
theorem ok_madeR {f fr Te : Addr} {fd fdr : FuncData} {p g : Nat → Addr} {fg : Nat → FuncData} (F : Fun K "_law_made_right" "_law_made_right" sMadeR f fd) (N : NamT mg C) (k0 : KC K C) (M : MakB P w K mg base C D fi fdi) (GT : GetT P w K mg base C p g fg) (MQ : ∀ i, i < 5 → EqAt P w K mg base C 1 i (fe i) (fde i))
    (mL : mg "len" = none) (mRa : mg "range" = none) (mRe : mg "repr" = none) (mTe : mg "LineChange" = some (.ref Te)) (kT : PySem.W.kitOne K (.ref (C 2)) (.ref Te) = some true)
    (RW : CallOf P w K mg base 3 "_law_row" ["_law_pen_here", "_law_signs_here", "_law_least", "_law_most_letters"] spRow fr fdr) : AtG P w K mg base CX0 16 f fd ["_law_pen_here", "_law_signs_here"] spMr := by
  refine atG F scMr (fun vs H Q E h => ?_) (fun cdv A outer s H vs Q E quiet hr h => ?_)
  · obtain ⟨d, c, n, ns, z, rfl, _⟩ := h
    rfl
  · obtain ⟨d, c, n, ns, z, rfl, pen, hn, sz, k⟩ := h
    obtain ⟨t3, p3, r3⟩ := mr_end (H := H) (E := E) (outer := outer) N k0 GT MQ mL mRa mRe mTe kT hr quiet
    obtain ⟨t2, p2, r2⟩ := mr_loop (H := H) (E := E) (outer := outer) N k0 GT MQ mL mRa mRe mTe kT hr t3 p3
    obtain ⟨t1, p1, r1⟩ := mr_lists (H := H) (E := E) (outer := outer) N M RW hr t2 p2
    refine ⟨t1, p1, ?_⟩
    refine r1 _ d c n ns z pen hn sz fun was fresh L1 L2 H' kn => r2 _ H H' d c n ns z was fresh L1 L2 kn fun x6 x7 H2 s2 => ?_
    have kn2 : Known C H d c n ns was fresh L1 L2 H2 := ⟨kn.w0, kn.f0, kn.l1, kn.l7, kn.lf, kn.pen.keep s2, kn.but.trans (But.same s2), Chs.same s2 kn.a, Chs.same s2 kn.b⟩
    exact r3 _ H H2 d c n ns z was fresh L1 L2 x6 x7 kn2 fun H3 s3 => k H3 (kn2.pen.keep s3) (kn2.but.trans (But.same s3))
end
end LA
end
section
set_option Elab.async false
set_option linter.all false
set_option maxRecDepth 100000
set_option maxHeartbeats 8000000
namespace LA
open PySem PySem.Spec PyProof.Rows L2 XS XT XK XO XL LamX
abbrev sLaw : Stmt := top 36
theorem scLaw : FnScope ["_law_script", "_law_pen_here", "_law_turn", "_law_place", "_law_swap", "_law_told", "_law_due_here", "_law_more", "_law_odd_here"] ["_law_script"] (defScope sLaw) := ⟨rfl, rfl, rfl, by decide +kernel, rfl, by decide +kernel, by decide +kernel⟩
def lamQ (x : Str) (st : Stmt) : Str := (envOfC x (defScope st) 0 0 .none).qual ++ "<lambda>"
def someR : List (Option Str) := [none, some "old", some "new", some "letters", some "others", some "word"]
theorem fine_r : ∀ r ∈ someR, SeqAt.shaped (ansD r) = true ∧ SeqAt.shaped (.list [ansD r, ansD r]) = true ∧ PyData.eqv (ansD r) (ansD r) = true ∧ PyData.eqv (.list [ansD r, ansD r]) (.list [ansD r, ansD r]) = true := by decide +kernel
theorem place_in (x y : V) : duePlace x y ∈ someR := by
  unfold duePlace
  split
  · split <;> simp [someR]
  · simp [someR]
theorem swap_in (x y : V) : dueSwap x y ∈ someR := by
  unfold dueSwap
  split
  · split <;> simp [someR]
  · simp [someR]
theorem word_in (x : V) : dueWord x ∈ someR := by
  unfold dueWord
  split <;> simp [someR]
theorem Odd.extN {H H' : Hp} {x : V} (e : ExtN H H') (h : Odd H x) : Odd H' x := ⟨AnyV.extN e h.1, h.2⟩
/-- word or not -/
def tDueW : TE := fun σ H Q => ∃ x, σ[8]? = some (some x) ∧ Odd H x ∧ ∀ v H', Ans (dueWord x) v H' → Same H H' → Q v H'
theorem ans_sg {C D : Addr} {f1 f2 : Str} {σ : L2.St} {H : Hp} {Q : VK} (k : ∀ H', Same H H' → Q .non H') :
    TRef D (fun E H' Q' => tMake C (spInit2 C f1 f2 D (okv letB) othB "letters" "others") [] E (tCons (tCall spLit [] (fun _ _ _ => False) tNil) (tCons (tRevS (tCall spLit [] (fun _ _ _ => False) tNil)) tNil)) σ H' Q') H Q := by
  refine ⟨rfl, rfl, sgsZ, rfl, by decide +kernel, fun _ _ na nd _ => ref_2 (.str _ (by decide +kernel)) (.str _ (by decide +kernel)) (fun v H' s a => ?_) na nd⟩
  have e : twoA (okv letB) othB "letters" "others" (.str sgsZ) (.str (revS sgsZ)) = none := by decide +kernel
  rw [e] at a
  obtain rfl : v = .non := a
  exact k H' s
section
variable {P : Program} {w : World} {K : PySem.W.Frag} {mg : Str → Option Value} {base : Heap} {C : Nat → Addr} {D : Addr} {fi : Nat → Addr} {fdi : Nat → FuncData} {T : List (Addr × Str)}
/-- what the law calls -/
structure Calls (P : Program) (w : World) (K : PySem.W.Frag) (mg : Str → Option Value) (base : Heap) (fp fo ff fu fw fs fm : Addr) (dp do_ df du dw ds dm : FuncData) : Prop where
  pen : CallOf P w K mg base 1 "_law_pen" ["_law_script"] (spPen K) fp dp
  odd : CallOf P w K mg base 4 "_law_odd" ["_law_pen_here"] spOdd fo do_
  few : CallOf P w K mg base 3 "_law_few" ["_law_pen_here"] spFew ff df
  due : CallOf P w K mg base 4 "_law_due" ["_law_odd_here", "_law_more"] spDue fu du
  wof : CallOf P w K mg base 3 "_law_is_word_of" ["_law_odd_here", "_law_most"] spWof fw dw
  sg : CallOf P w K mg base 1 "_law_signs" [] spLit fs ds
  mr : AtG P w K mg base CX0 16 fm dm ["_law_pen_here", "_law_signs_here"] spMr
  mMR : mg "_law_made_right" = some (.ref fm)
  kMR : PySem.W.keepIn K (.ref fm) = true
  bMR : Binds K dm ["_law_pen_here", "_law_signs_here"] []
theorem law_term {f c PP g fp fo ff fu fw fs fm : Addr} {dp do_ df du dw ds dm fdg : FuncData} {outer : List Env} {s : Shared} {H : Hp} {E : XK} (TB : TabB base mg c PP) (here : (PP, lamQ "law" sLaw) ∈ T) (one : ∀ p ∈ T, p.1 = PP → p.2 = lamQ "law" sLaw) (N : NamT mg C) (mRa : mg "range" = none) (R : RefAt K mg D g fdg) (M : MakB P w K mg base C D fi fdi) (Q0 : Calls P w K mg base fp fo ff fu fw fs fm dp do_ df du dw ds dm)
    (hr : Room 19 (callerA.deeper (envOfC "law" (defScope sLaw) s.heap.objs.size f (.ref c)))) : ∃ t, PSs (cxOf CX0 P w K mg base ["_law_script", "_law_pen_here", "_law_turn", "_law_place", "_law_swap", "_law_told", "_law_due_here", "_law_more", "_law_odd_here"] "law" (defScope sLaw) f (.ref c) callerA outer s H E).nox (defBody sLaw) t ∧
      ∀ (a : Addr) (ns : List Int) (H0 : Hp) (Q : VK), SqL K H0 a (ns.map V.int) → ns.length ≤ 63 → Tabs T H0 → (∀ H', Q (.bl true) H') → t { nx := fun _ H' => Q .non H', rt := Q } (start ["_law_script", "_law_pen_here", "_law_turn", "_law_place", "_law_swap", "_law_told", "_law_due_here", "_law_more", "_law_odd_here"] [.ref a]) H0 := by
  have hr1 : Room 1 _ := hr.mono (by decide)
  have hr3 : Room 3 _ := hr.mono (by decide)
  have hr4 : Room 4 _ := hr.mono (by decide)
  have hr9 : Room 9 _ := hr.mono (by decide)
  have hr16 : Room 16 _ := hr.mono (by decide)
  have OD := Q0.odd
  have FE := Q0.few
  have DU := Q0.due
  have WO := Q0.wof
  have SG := Q0.sg
  have MR := Q0.mr
  have mMR := Q0.mMR
  have kMR := Q0.kMR
  have bMR := Q0.bMR
  obtain ⟨cdg, G⟩ := RefAt.taker (X := (cxOf CX0 P w K mg base ["_law_script", "_law_pen_here", "_law_turn", "_law_place", "_law_swap", "_law_told", "_law_due_here", "_law_more", "_law_odd_here"] "law" (defScope sLaw) f (.ref c) callerA outer s H E).nox) R
  have mk : Maker (cxOf CX0 P w K mg base ["_law_script", "_law_pen_here", "_law_turn", "_law_place", "_law_swap", "_law_told", "_law_due_here", "_law_more", "_law_odd_here"] "law" (defScope sLaw) f (.ref c) callerA outer s H E).nox T c PP := ⟨TB, rfl, here, one⟩
  refine ⟨_, pss_cons (by exact (ps_set (i := 1) scLaw.nd rfl (.inl rfl) (pe_call Q0.pen.ok hr1 rfl Q0.pen.m Q0.pen.k Q0.pen.b .nil pass0 (pa_cons (pv 0) pa_nil)))) (
    pss_cons (by exact (ps_for PassesOwn.never rfl (pi_range1 rfl mRa (pa_cons pe_int pa_nil)) (pg_name (i := 2) scLaw.nd rfl (.inl rfl)) (
      pss_cons (by exact (ps_asg (pe_tup (pa_cons (pe_call OD.ok hr4 rfl OD.m OD.k OD.b .nil pass0 (pa_cons (pv 1) pa_nil)) (pa_cons (pe_call OD.ok hr4 rfl OD.m OD.k OD.b .nil pass0 (pa_cons (pv 1) pa_nil)) pa_nil))) (pg_tup (by rfl) (pgs_cons (pg_name (i := 8) scLaw.nd rfl (Or.inr rfl)) (pgs_cons (pg_name (i := 7) scLaw.nd rfl (Or.inr rfl)) pgs_nil))))) (
      pss_cons (by exact (ps_asg (pe_call DU.ok hr4 rfl DU.m DU.k DU.b .nil pass0 (pa_cons (pv 8) (pa_cons (pv 7) pa_nil))) (pg_tup (by rfl) (pgs_cons (pg_name (i := 3) scLaw.nd rfl (Or.inl rfl)) (pgs_cons (pg_name (i := 4) scLaw.nd rfl (Or.inl rfl)) pgs_nil))))) (
      pss_cons (by exact (ps_set (i := 5) scLaw.nd rfl (.inl rfl) (pe_lst (pa_cons (pe_goL mk G hr9 rfl (lamS_by (sc := defScope sLaw) (by decide +kernel)) rfl (fun _ _ _ _ _ => rfl) (fun A2 outer2 s2 H2 E2 f2 c2 r => by exact (pe_make M.m0.made M.m0.ok r rfl N.n0 M.m0.b .nil (passes_call (takes_of rfl rfl rfl rfl) (fun _ _ _ _ h => h)) (pa_cons (pv 8) (pa_cons (pv 7) pa_nil))))) pa_nil)))) (
      pss_cons (by exact (ps_expr (pe_bm PySem.F.plainAttrs_list PySem.F.slot_list_append PySem.F.type_list_append mt_append (pv 5) (pa_cons (pe_goL mk G hr9 rfl (lamS_by (sc := defScope sLaw) (by decide +kernel)) rfl (fun _ _ _ _ _ => rfl) (fun A2 outer2 s2 H2 E2 f2 c2 r => by exact (pe_makeK0 (ks := ["new", "old"]) M.m1.made M.m1.ok r rfl N.n1 M.m1.kb (passes_call (takes_of rfl rfl rfl rfl) (fun _ _ _ _ h => h)) (pk_cons (pv 7) (pk_cons (pv 8) pk_nil))))) pa_nil)))) (
      pss_cons (by exact (ps_if (PW.pt (pw_or (pt_cmpR (op_neD hr.units) (pv 5) (pe_lst (pa_cons (pv 3) (pa_cons (pv 3) pa_nil))) (nomark _)) (pw_or1 (pt_cmpR (op_neD hr.units) (pe_goL mk G hr9 rfl (lamS_by (sc := defScope sLaw) (by decide +kernel)) rfl (fun _ _ _ _ _ => rfl) (fun A2 outer2 s2 H2 E2 f2 c2 r => by exact (pe_makeK0 (ks := ["others", "letters"]) M.m2.made M.m2.ok r rfl N.n2 M.m2.kb (passes_call (takes_of rfl rfl rfl rfl) (fun _ _ _ _ h => h)) (pk_cons (pv 7) (pk_cons (pv 8) pk_nil))))) (pv 4) (nomark _))))) (pss_one (by exact (ps_ret pe_bl))) pss_nil)) (
      pss_cons (by
        refine ps_set (i := 6) scLaw.nd rfl (.inl rfl) (PE.of2 (t' := tDueW) (pe_ifExp (pt_val (pe_call WO.ok hr3 rfl WO.m WO.k WO.b .nil pass0 (pa_cons (pv 8) (pa_cons pe_int pa_nil)))) pe_non (pe_lst (pa_cons pe_str (pa_cons pe_bl pa_nil)))) ?_)
        intro σ H Q ⟨x, h8, ox, q⟩
        refine ⟨_, h8, x, 8, rfl, ox, fun H1 s1 => ⟨_, rfl, ?_⟩⟩
        rw [okv_short]
        unfold dueWord at q
        cases e : okv shortB x with
        | true =>
          rw [e] at q
          exact iteT (q _ _ rfl s1)
        | false =>
          rw [e] at q
          exact iteF ⟨(by show 2 ≤ sizeLine; decide), fun p np => q _ _ Ans.new (s1.trans (same_upd np))⟩) (
      pss_cons (by exact (ps_set (i := 5) scLaw.nd rfl (.inl rfl) (pe_lst (pa_cons (pe_goL mk G hr9 rfl (lamS_by (sc := defScope sLaw) (by decide +kernel)) rfl (fun _ _ _ _ _ => rfl) (fun A2 outer2 s2 H2 E2 f2 c2 r => by exact (pe_make M.m3.made M.m3.ok r rfl N.n3 M.m3.b .nil (passes_call (takes_of rfl rfl rfl rfl) (fun _ _ _ _ h => h)) (pa_cons (pv 8) pa_nil)))) pa_nil)))) (
      pss_cons (by exact (ps_if (pt_cmpR (op_neD hr.units) (pe_op op_cat (pv 5) (pe_lst (pa_cons (pe_goL mk G hr9 rfl (lamS_by (sc := defScope sLaw) (by decide +kernel)) rfl (fun _ _ _ _ _ => rfl) (fun A2 outer2 s2 H2 E2 f2 c2 r => by exact (pe_makeK0 (ks := ["word"]) M.m4.made M.m4.ok r rfl N.n4 M.m4.kb (passes_call (takes_of rfl rfl rfl rfl) (fun _ _ _ _ h => h)) (pk_cons (pv 8) pk_nil)))) pa_nil))) (pe_lst (pa_cons (pv 6) (pa_cons (pv 6) pa_nil))) (nomark _)) (pss_one (by exact (ps_ret pe_bl))) pss_nil)) (
      pss_one (by exact (ps_if (pt_not (pt_val (pe_callG MR (by rfl) hr16 (by rfl) mMR kMR bMR pass0 (pa_cons (pv 1) (pa_cons (pe_call FE.ok hr3 rfl FE.m FE.k FE.b .nil pass0 (pa_cons (pv 1) pa_nil)) pa_nil))))) (pss_one (by exact (ps_ret pe_bl))) pss_nil))))))))))))) (
    pss_one (by exact (ps_ret (pe_cmp (pc_isN (pe_goL mk G hr9 rfl (lamS_by (sc := defScope sLaw) (by decide +kernel)) rfl (fun _ _ _ _ _ => rfl) (fun A2 outer2 s2 H2 E2 f2 c2 r => by exact (pe_make M.m2.made M.m2.ok r rfl N.n2 M.m2.b .nil (passes_call (takes_of rfl rfl rfl rfl) (fun _ _ _ _ h => h)) (pa_cons (pe_call0 SG.ok (r.mono (by decide)) rfl SG.m SG.k SG.b .nil pass0) (pa_cons (pe_revS (pe_call0 SG.ok (r.mono (by decide)) rfl SG.m SG.k SG.b .nil pass0)) pa_nil))))))))))), fun a ns H0 Q hS hl hT k => ?_⟩
  refine ⟨_, rfl, a, ns, rfl, hS, hl, fun d c ms H1 pen1 sm1 _ _ => ?_⟩
  refine ⟨15, rfl, by decide, by decide, for_range (lo := 0) (n := 15) (fun i σ X => ∃ x2 x3 x4 x5 x6 x7 x8 : Option V, σ = [some (.ref a), some (.ref d), x2, x3, x4, x5, x6, x7, x8] ∧ PenAt X d c (30 * i) ms ∧ Tabs T X) ⟨_, _, _, _, _, _, _, rfl, pen1.le (by omega), Tabs.same hT sm1⟩ (fun i σ X hi pv0 => ?_) (fun σ X pv0 => ?_)⟩
  · obtain ⟨x2, x3, x4, x5, x6, x7, x8, rfl, penX, TX⟩ := pv0
    obtain ⟨kd, hd⟩ := penX.dict
    refine ⟨_, rfl, d, c, 30 * i, ms, rfl, penX, by omega, fun x H2 ox2 pen2 b2 => ?_⟩
    have T2 := Tabs.but TX b2 hd
    obtain ⟨kd2, hd2⟩ := pen2.dict
    refine ⟨_, rfl, d, c, 30 * i + 3, ms, rfl, pen2, by omega, fun y H3 oy3 pen3 b3 => ?_⟩
    have T3 := Tabs.but T2 b3 hd2
    obtain ⟨kd3, hd3⟩ := pen3.dict
    have ox3 := ox2.but b3 hd2 hd3
    refine ⟨(by show 2 ≤ sizeLine; decide), fun TT nT => ⟨TT, _, rfl, SqT.of upd_same, rfl, ?_⟩⟩
    have s4 := same_upd (o := .tup [x, y]) nT
    have T4 := Tabs.same T3 s4
    have ox4 := ox3.same s4
    have oy4 := oy3.same s4
    have pen4 := pen3.keep s4
    generalize upd H3 TT _ = H4 at T4 ox4 oy4 pen4 ⊢
    refine ⟨_, _, rfl, _, _, rfl, rfl, ?_⟩
    refine ⟨_, rfl, _, rfl, x, y, rfl, ox4, oy4, fun T2' u v H5 hT2 au av s5 => ?_⟩
    refine ⟨T2', _, rfl, SqT.of hT2, rfl, ?_⟩
    refine ⟨_, _, rfl, _, _, rfl, rfl, ?_⟩
    have T5 := Tabs.same T4 s5
    have ox5 := ox4.same s5
    have oy5 := oy4.same s5
    have pen5 := pen4.keep s5
    obtain ⟨shp, shp2, eqp, eqp2⟩ := fine_r _ (place_in x y)
    obtain ⟨shs, _, eqs, _⟩ := fine_r _ (swap_in x y)
    obtain ⟨shw, shw2, eqw, eqw2⟩ := fine_r _ (word_in x)
    -- told
    refine ⟨T5, fun H6 e6 T6 => ans_two rfl rfl (AnyV.extN e6 ox5.1) (AnyV.extN e6 oy5.1) fun v6 Z6 z6 a6 => ⟨(by show 1 ≤ sizeLine; decide), fun L nL => ?_⟩⟩
    have a6 : Ans (duePlace x y) v6 Z6 := a6
    have f6 : ExtN H5 Z6 := ExtN.trans e6 (Same.extN z6)
    have f6L : ExtN H5 (upd Z6 L (.lst [v6])) := ExtN.laid f6 nL
    have T6' : Tabs T (upd Z6 L (.lst [v6])) := Tabs.same (Tabs.same T6 z6) (same_upd nL)
    have ne1 : ∀ z, [v6] ≠ [V.str z, V.bl true] := fun z h => by injection h with _ h; cases h
    refine ⟨_, rfl, .inl ⟨rfl, _, SqL.of upd_same⟩, T6', fun H7 e7 T7 => ans_twoK rfl rfl (AnyV.extN (ExtN.trans f6L e7) ox5.1) (AnyV.extN (ExtN.trans f6L e7) oy5.1) fun v7 Z7 z7 a7 => ?_⟩
    have a7 : Ans (duePlace x y) v7 Z7 := a7
    have g7 : ExtN (upd Z6 L (.lst [v6])) Z7 := ExtN.trans e7 (Same.extN z7)
    have hL7 : Z7 L = some (.lst [v6]) := g7 _ _ upd_same (fun ps z => by cases z)
    refine ⟨L, [v6], v7, rfl, rfl, hL7, (by show 1 < sizeLine; decide), ?_⟩
    have f7 : ExtN H5 (upd Z7 L (.lst ([v6] ++ [v7]))) := ExtN.put f6 nL g7
    have b6 : Ans (duePlace x y) v6 (upd Z7 L (.lst ([v6] ++ [v7]))) := Ans.extN (ExtN.put (ExtN.refl Z6) nL g7) a6
    have b7 : Ans (duePlace x y) v7 (upd Z7 L (.lst ([v6] ++ [v7]))) := Ans.put a7 hL7 ne1
    have T7' : Tabs T (upd Z7 L (.lst ([v6] ++ [v7]))) := Tabs.put (Tabs.same T7 z7) hL7
    have hL7' : (upd Z7 L (.lst ([v6] ++ [v7]))) L = some (.lst [v6, v7]) := upd_same
    generalize upd Z7 L (.lst ([v6] ++ [v7])) = W7 at f7 b6 b7 T7' hL7' ⊢
    refine ⟨_, rfl, _, rfl, _, rfl, (by show 2 ≤ sizeLine; decide), fun A1 n1 => ?_⟩
    have w1 := same_upd (o := .lst [u, u]) n1
    have f8 := ExtN.trans f7 (Same.extN w1)
    have T8 := Tabs.same T7' w1
    have au8 := Ans.extN f8 au
    refine ⟨.list [ansD (duePlace x y), ansD (duePlace x y)], .list [ansD (duePlace x y), ansD (duePlace x y)], .lst (SqL.of (w1 _ _ hL7')) (.cons (b6.same w1).dp (.cons (b7.same w1).dp .nil)), .lst (SqL.of upd_same) (.cons au8.dp (.cons au8.dp .nil)), shp2, shp2, _, rfl, ?_⟩
    rw [eqp2]
    refine iteF ?_
    generalize upd W7 A1 _ = W8 at T8 f8 ⊢
    -- swap
    refine ⟨T8, fun H9 e9 T9 => ans_twoK rfl rfl (AnyV.extN (ExtN.trans f8 e9) ox5.1) (AnyV.extN (ExtN.trans f8 e9) oy5.1) fun v9 Z9 z9 a9 => ?_⟩
    have a9 : Ans (dueSwap x y) v9 Z9 := a9
    have f9 := ExtN.trans f8 (ExtN.trans e9 (Same.extN z9))
    refine ⟨_, rfl, _, _, a9.dp, (Ans.extN f9 av).dp, shs, shs, _, rfl, ?_⟩
    rw [eqs]
    refine iteF ?_
    have T9' := Tabs.same T9 z9
    -- word
    refine ⟨x, rfl, Odd.extN f9 ox5, fun dw H10 adw s10 => ?_⟩
    have f10 := ExtN.trans f9 (Same.extN s10)
    have T10 := Tabs.same T9' s10
    refine ⟨T10, fun H11 e11 T11 => ans_one rfl (AnyV.extN (ExtN.trans f10 e11) ox5.1) fun v11 Z11 z11 a11 => ⟨(by show 1 ≤ sizeLine; decide), fun L2 nL2 => ?_⟩⟩
    have a11 : Ans (dueWord x) v11 Z11 := a11
    have m11 : ExtN H10 Z11 := ExtN.trans e11 (Same.extN z11)
    have m11L : ExtN H10 (upd Z11 L2 (.lst [v11])) := ExtN.laid m11 nL2
    have f11L : ExtN H5 (upd Z11 L2 (.lst [v11])) := ExtN.trans f10 m11L
    have T11' : Tabs T (upd Z11 L2 (.lst [v11])) := Tabs.same (Tabs.same T11 z11) (same_upd nL2)
    have a11' : Ans (dueWord x) v11 (upd Z11 L2 (.lst [v11])) := Ans.extN (ExtN.laid (ExtN.refl Z11) nL2) a11
    refine ⟨_, rfl, T11', fun H12 e12 T12 => ans_key rfl (AnyV.extN (ExtN.trans f11L e12) ox5.1) fun v12 Z12 z12 a12 => ⟨(by show 1 ≤ sizeLine; decide), fun L3 nL3 => ?_⟩⟩
    have a12 : Ans (dueWord x) v12 Z12 := a12
    have m12 : ExtN (upd Z11 L2 (.lst [v11])) Z12 := ExtN.trans e12 (Same.extN z12)
    have s13 := same_upd (o := .lst [v12]) nL3
    have hL2 : (upd Z12 L3 (.lst [v12])) L2 = some (.lst [v11]) := s13 _ _ (m12 _ _ upd_same (fun ps z => by cases z))
    refine ⟨L2, L3, [v11], [v12], rfl, rfl, hL2, upd_same, (by show 1 + 1 ≤ sizeLine; decide), fun L4 nL4 => ?_⟩
    have s14 := s13.trans (same_upd (o := .lst ([v11] ++ [v12])) nL4)
    refine ⟨_, rfl, _, rfl, (by show 2 ≤ sizeLine; decide), fun A2 n2 => ?_⟩
    have w2 := same_upd (o := .lst [dw, dw]) n2
    have s15 := s14.trans w2
    have hL4 := w2 _ _ (upd_same (H := upd Z12 L3 (.lst [v12])) (a := L4) (o := .lst ([v11] ++ [v12])))
    have f15 := ExtN.trans f11L (ExtN.trans m12 (Same.extN s15))
    have adw15 : Ans (dueWord x) dw _ := Ans.extN (ExtN.trans m11L (ExtN.trans m12 (Same.extN s15))) adw
    have a11e : Ans (dueWord x) v11 _ := Ans.extN (ExtN.trans m12 (Same.extN s15)) a11'
    have a12e : Ans (dueWord x) v12 _ := a12.same s15
    refine ⟨.list [ansD (dueWord x), ansD (dueWord x)], .list [ansD (dueWord x), ansD (dueWord x)], .lst (SqL.of hL4) (.cons a11e.dp (.cons a12e.dp .nil)), .lst (SqL.of upd_same) (.cons adw15.dp (.cons adw15.dp .nil)), shw2, shw2, _, rfl, ?_⟩
    rw [eqw2]
    refine iteF ?_
    have T15 := Tabs.same (Tabs.same T12 z12) s15
    have pen15 := pen5.extN f15
    generalize upd _ A2 _ = W15 at T15 pen15 ⊢
    obtain ⟨kd15, hd15⟩ := pen15.dict
    refine ⟨_, rfl, _, rfl, d, c, 30 * i + 3 + 3, ms, rfl, pen15, by omega, fun z H16 sz pen16 b16 => ?_⟩
    have T16 := Tabs.but T15 b16 hd15
    obtain ⟨kd16, hd16⟩ := pen16.dict
    refine ⟨d, c, 30 * i + 3 + 3 + 4, ms, z, rfl, pen16, by omega, sz, fun H17 pen17 b17 => ⟨_, rfl, iteF ?_⟩⟩
    have T17 := Tabs.but T16 b17 hd16
    exact ⟨_, _, _, _, _, _, _, rfl, pen17.le (by omega), T17⟩
  · obtain ⟨x2, x3, x4, x5, x6, x7, x8, rfl, penX, TX⟩ := pv0
    refine ⟨TX, fun H2 e2 T2 => ans_sg fun H3 s3 => ?_⟩
    exact k H3
/-- the law of a script -/
def spLaw (K : PySem.W.Frag) (T : List (Addr × Str)) : Sp := fun vs H Q _ => ∃ (a : Addr) (ns : List Int), vs = [.ref a] ∧ SqL K H a (ns.map V.int) ∧ ns.length ≤ 63 ∧ Tabs T H ∧ ∀ H', Q (.bl true) H'
theorem ok_law {f c PP g fp fo ff fu fw fs fm : Addr} {fd dp do_ df du dw ds dm fdg : FuncData} (F : FunC K "law" "law" sLaw f fd c) (TB : TabB base mg c PP) (here : (PP, lamQ "law" sLaw) ∈ T) (one : ∀ p ∈ T, p.1 = PP → p.2 = lamQ "law" sLaw) (N : NamT mg C) (mRa : mg "range" = none) (R : RefAt K mg D g fdg) (M : MakB P w K mg base C D fi fdi)
    (Q0 : Calls P w K mg base fp fo ff fu fw fs fm dp do_ df du dw ds dm) : AtCaller P w K mg base CX0 20 f fd ["_law_script"] (spLaw K T) := by
  refine atCallerC F.ex scLaw (fun vs H Q E h => ?_) (fun outer s H vs Q E hr h => ?_)
  · obtain ⟨a, ns, rfl, _⟩ := h
    rfl
  · obtain ⟨a, ns, rfl, hS, hl, hT, k⟩ := h
    obtain ⟨t, p, r⟩ := law_term (H := H) (E := E) (outer := outer) TB here one N mRa R M Q0 hr
    exact ⟨t, p, r a ns H Q hS hl hT k⟩
end
end LA
end
section
set_option Elab.async false
set_option linter.all false
set_option maxRecDepth 100000
set_option maxHeartbeats 8000000
namespace XJ
open PySem PySem.W L2 XK
/-- a def at an address, as the row tells it -/
structure FnF (K : Frag) (x qual : Str) (st : Stmt) (f : Addr) : Prop where
  ex : ∃ (oc : Value) (od : Option Addr) (kV doc pm : Value) (an : Option Addr) (cdv ct : Value) (osl : Array (Option Value)), K.lookup f = some ⟨oc, od, .func (fnOf x qual (defArgs st) (defBody st) (defScope st) .none kV doc pm an cdv ct), osl⟩ ∧ codeIn K cdv qual = true
theorem fnF_mk {K : Frag} {x qual : Str} {st : Stmt} {f : Addr} {oc : Value} {od : Option Addr} {kV doc pm : Value} {an : Option Addr} {cdv ct : Value} {osl : Array (Option Value)} (l : K.lookup f = some ⟨oc, od, .func (fnOf x qual (defArgs st) (defBody st) (defScope st) .none kV doc pm an cdv ct), osl⟩) (c : codeIn K cdv qual = true) : FnF K x qual st f :=
  ⟨⟨oc, od, kV, doc, pm, an, cdv, ct, osl, l, c⟩⟩
theorem FnF.get {K : Frag} {x qual : Str} {st : Stmt} {f : Addr} (F : FnF K x qual st f) (k : keepIn K (.ref f) = true) : ∃ fd, Fun K x qual st f fd := by
  obtain ⟨oc, od, kV, doc, pm, an, cdv, ct, osl, l, c⟩ := F.ex
  exact ⟨_, fun_mk l c k⟩
/-- the same, its code object told -/
structure FnFC (K : Frag) (x qual : Str) (st : Stmt) (f c : Addr) : Prop where
  ex : ∃ (oc : Value) (od : Option Addr) (kV doc pm : Value) (an : Option Addr) (ct : Value) (osl : Array (Option Value)), K.lookup f = some ⟨oc, od, .func (fnOf x qual (defArgs st) (defBody st) (defScope st) .none kV doc pm an (.ref c) ct), osl⟩ ∧ codeIn K (.ref c) qual = true
theorem fnFC_mk {K : Frag} {x qual : Str} {st : Stmt} {f c : Addr} {oc : Value} {od : Option Addr} {kV doc pm : Value} {an : Option Addr} {ct : Value} {osl : Array (Option Value)} (l : K.lookup f = some ⟨oc, od, .func (fnOf x qual (defArgs st) (defBody st) (defScope st) .none kV doc pm an (.ref c) ct), osl⟩) (d : codeIn K (.ref c) qual = true) : FnFC K x qual st f c :=
  ⟨⟨oc, od, kV, doc, pm, an, ct, osl, l, d⟩⟩
theorem propF_mk {K : Frag} {C p g : Addr} {nm : Str} {rest : List Value} (a : findIn K (.ref C) nm = some (some (.ref p))) (b : specialIn K (.ref p) "__get__" = some (some (.builtin "property.__get__"))) (c : takesIn K (.ref p) = some true) (d : recIn K p "property" = some (.ref g :: rest)) : PropOf K C nm p g := ⟨a, b, c, ⟨rest, d⟩⟩
/-- one parameter by keyword -/
theorem kb_one {K : Frag} {x qual : Str} {st : Stmt} {f : Addr} {fd : FuncData} {pn : Str} (F : Fun K x qual st f fd)
    (h : ∀ (kV doc pm : Value) (an : Option Addr) (cdv ct u v : Value), bindArgs (fnOf x qual (defArgs st) (defBody st) (defScope st) .none kV doc pm an cdv ct) ⟨[u], [(pn, v)]⟩ = pure ([(("self" : Str), u), (pn, v)] : List (Str × Value))) : KBn K fd ["self", pn] 1 [pn] (fun us ws => us ++ ws) (fun us ws => us ++ ws) := by
  obtain ⟨oc, od, kV, doc, pm, an, cdv, ct, osl, rfl, l, c⟩ := F.ex
  exact ⟨fun s us ws X l1 l2 => match us, ws, l1, l2 with | [u], [v], _, _ => .of_eq (h kV doc pm an cdv ct u v), fun r1 r2 => r1.append r2⟩
/-- two, turned round -/
theorem kb_two {K : Frag} {x qual : Str} {st : Stmt} {f : Addr} {fd : FuncData} {p1 p2 : Str} (F : Fun K x qual st f fd)
    (h : ∀ (kV doc pm : Value) (an : Option Addr) (cdv ct u v z : Value), bindArgs (fnOf x qual (defArgs st) (defBody st) (defScope st) .none kV doc pm an cdv ct) ⟨[u], [(p2, v), (p1, z)]⟩ = pure ([(("self" : Str), u), (p1, z), (p2, v)] : List (Str × Value))) : KBn K fd ["self", p1, p2] 1 [p2, p1] (fun us ws => us ++ ws.reverse) (fun us ws => us ++ ws.reverse) := by
  obtain ⟨oc, od, kV, doc, pm, an, cdv, ct, osl, rfl, l, c⟩ := F.ex
  exact ⟨fun s us ws X l1 l2 => match us, ws, l1, l2 with | [u], [v, z], _, _ => .of_eq (h kV doc pm an cdv ct u v z), fun r1 r2 => r1.append r2.reverse⟩
/-- the table of the code object at c is not written down -/
def tabAlone (K : Frag) (c : Addr) : Bool := match K.lookup c with
  | some ⟨_, _, .fields vs, _⟩ => match (vs[11]? : Option Value) with
    | some (Value.ref p) => (K.lookup p).isNone
    | _ => false
  | _ => false
theorem alone {K : Frag} {c : Addr} (h : tabAlone K c = true) : ∃ e1 d1 vs s1 p, K.lookup c = some ⟨e1, d1, .fields vs, s1⟩ ∧ vs[11]? = some (.ref p) ∧ K.lookup p = none := by
  unfold tabAlone at h
  split at h
  · rename_i e1 d1 vs s1 h1
    split at h
    · rename_i p h3
      exact ⟨_, _, _, _, _, h1, h3, by simpa using h⟩
    · cases h
  · cases h
end XJ
namespace LA
open PySem PySem.W L2 XS XT XK XO XL LamX
def n5 {α : Type} (a0 a1 a2 a3 a4 : α) : Nat → α
  | 0 => a0
  | 1 => a1
  | 2 => a2
  | 3 => a3
  | _ => a4
def n6 {α : Type} (a0 a1 a2 a3 a4 a5 : α) : Nat → α
  | 0 => a0
  | 1 => a1
  | 2 => a2
  | 3 => a3
  | 4 => a4
  | _ => a5
theorem all_mk {l : PySem.W.OpenLaw} {w : World} {K : Frag} {h : Heap} {mg : Str → Option Value} {fa a_pen a_draw a_pick a_sgn a_isr a_few a_row a_any a_ref a_odd a_wof a_due a_mr a_le a_li a_wo a_sh a_di a_cw a_cp a_law c_law C0 I0 E0 C1 I1 E1 C2 I2 E2 C3 I3 E3 C4 I4 E4 P0 Q0 P1 Q1 P2 Q2 P3 Q3 P4 Q4 P5 Q5 D DI Te : Addr} {t0 t1 t2 t3 : Tok} (X : K.In h) (G : h.Ns mainGlobals mg) (hfa : mg "law" = some (.ref fa)) (tbL : XJ.TabAt h mg "law")
    (g_pen : nsIn K mainGlobals "_law_pen" = some (some (.ref a_pen)))
    (f_pen : XJ.FnF K "_law_pen" "_law_pen" sPen a_pen)
    (k_pen : keepIn K (.ref a_pen) = true)
    (g_draw : nsIn K mainGlobals "_law_draw" = some (some (.ref a_draw)))
    (f_draw : XJ.FnF K "_law_draw" "_law_draw" sDraw a_draw)
    (k_draw : keepIn K (.ref a_draw) = true)
    (g_pick : nsIn K mainGlobals "_law_pick" = some (some (.ref a_pick)))
    (f_pick : XJ.FnF K "_law_pick" "_law_pick" sPick a_pick)
    (k_pick : keepIn K (.ref a_pick) = true)
    (g_sgn : nsIn K mainGlobals "_law_signs" = some (some (.ref a_sgn)))
    (f_sgn : XJ.FnF K "_law_signs" "_law_signs" sSigns a_sgn)
    (k_sgn : keepIn K (.ref a_sgn) = true)
    (g_isr : nsIn K mainGlobals "_law_is_row" = some (some (.ref a_isr)))
    (f_isr : XJ.FnF K "_law_is_row" "_law_is_row" sIsRow a_isr)
    (k_isr : keepIn K (.ref a_isr) = true)
    (g_few : nsIn K mainGlobals "_law_few" = some (some (.ref a_few)))
    (f_few : XJ.FnF K "_law_few" "_law_few" sFew a_few)
    (k_few : keepIn K (.ref a_few) = true)
    (g_row : nsIn K mainGlobals "_law_row" = some (some (.ref a_row)))
    (f_row : XJ.FnF K "_law_row" "_law_row" sRow a_row)
    (k_row : keepIn K (.ref a_row) = true)
    (g_any : nsIn K mainGlobals "_law_any_value" = some (some (.ref a_any)))
    (f_any : XJ.FnF K "_law_any_value" "_law_any_value" sAny a_any)
    (k_any : keepIn K (.ref a_any) = true)
    (g_ref : nsIn K mainGlobals "_law_refused" = some (some (.ref a_ref)))
    (f_ref : XJ.FnF K "_law_refused" "_law_refused" sRef a_ref)
    (k_ref : keepIn K (.ref a_ref) = true)
    (g_odd : nsIn K mainGlobals "_law_odd" = some (some (.ref a_odd)))
    (f_odd : XJ.FnF K "_law_odd" "_law_odd" sOdd a_odd)
    (k_odd : keepIn K (.ref a_odd) = true)
    (g_wof : nsIn K mainGlobals "_law_is_word_of" = some (some (.ref a_wof)))
    (f_wof : XJ.FnF K "_law_is_word_of" "_law_is_word_of" sWof a_wof)
    (k_wof : keepIn K (.ref a_wof) = true)
    (g_due : nsIn K mainGlobals "_law_due" = some (some (.ref a_due)))
    (f_due : XJ.FnF K "_law_due" "_law_due" sDue a_due)
    (k_due : keepIn K (.ref a_due) = true)
    (g_mr : nsIn K mainGlobals "_law_made_right" = some (some (.ref a_mr)))
    (f_mr : XJ.FnF K "_law_made_right" "_law_made_right" sMadeR a_mr)
    (k_mr : keepIn K (.ref a_mr) = true)
    (g_le : nsIn K mainGlobals "is_letter" = some (some (.ref a_le)))
    (f_le : XJ.FnF K "is_letter" "is_letter" sLetter a_le)
    (k_le : keepIn K (.ref a_le) = true)
    (g_li : nsIn K mainGlobals "is_line" = some (some (.ref a_li)))
    (f_li : XJ.FnF K "is_line" "is_line" sLine a_li)
    (k_li : keepIn K (.ref a_li) = true)
    (g_wo : nsIn K mainGlobals "is_word" = some (some (.ref a_wo)))
    (f_wo : XJ.FnF K "is_word" "is_word" sWord a_wo)
    (k_wo : keepIn K (.ref a_wo) = true)
    (g_sh : nsIn K mainGlobals "is_short_word" = some (some (.ref a_sh)))
    (f_sh : XJ.FnF K "is_short_word" "is_short_word" sShort a_sh)
    (k_sh : keepIn K (.ref a_sh) = true)
    (g_di : nsIn K mainGlobals "are_different" = some (some (.ref a_di)))
    (f_di : XJ.FnF K "are_different" "are_different" sDiff a_di)
    (k_di : keepIn K (.ref a_di) = true)
    (g_cw : nsIn K mainGlobals "check_word" = some (some (.ref a_cw)))
    (f_cw : XJ.FnF K "check_word" "check_word" sChkW a_cw)
    (k_cw : keepIn K (.ref a_cw) = true)
    (g_cp : nsIn K mainGlobals "check_pair" = some (some (.ref a_cp)))
    (f_cp : XJ.FnF K "check_pair" "check_pair" sChkP a_cp)
    (k_cp : keepIn K (.ref a_cp) = true)
    (g_law : nsIn K mainGlobals "law" = some (some (.ref a_law)))
    (f_law : XJ.FnFC K "law" "law" sLaw a_law c_law)
    (k_law : keepIn K (.ref a_law) = true)
    (apt : XJ.tabAlone K c_law = true)
    (gc0 : nsIn K mainGlobals "First" = some (some (.ref C0)))
    (cl0 : Cls K C0)
    (mk0 : Mk K C0 I0)
    (fi0 : XJ.FnF K "__init__" "First.__init__" sIFirst I0)
    (ki0 : keepIn K (.ref I0) = true)
    (eq0 : findIn K (.ref C0) "__eq__" = some (some (.ref E0)))
    (fe0 : XJ.FnF K "__eq__" "First.__eq__" sQFirst E0)
    (ke0 : keepIn K (.ref E0) = true)
    (ie0 : isFn K (.ref E0) = true)
    (ne0 : findIn K (.ref C0) "__ne__" = some (some (.builtin "object.__ne__")))
    (ca0 : findIn K (.ref C0) "__class__" = some (some (.builtin "object.__class__")))
    (ob0 : mroIn K C0 (.type "object") = some true)
    (no00 : NoAttr K C0 "_old")
    (no01 : NoAttr K C0 "_new")
    (gc1 : nsIn K mainGlobals "Every" = some (some (.ref C1)))
    (cl1 : Cls K C1)
    (mk1 : Mk K C1 I1)
    (fi1 : XJ.FnF K "__init__" "Every.__init__" sIEvery I1)
    (ki1 : keepIn K (.ref I1) = true)
    (eq1 : findIn K (.ref C1) "__eq__" = some (some (.ref E1)))
    (fe1 : XJ.FnF K "__eq__" "Every.__eq__" sQEvery E1)
    (ke1 : keepIn K (.ref E1) = true)
    (ie1 : isFn K (.ref E1) = true)
    (ne1 : findIn K (.ref C1) "__ne__" = some (some (.builtin "object.__ne__")))
    (ca1 : findIn K (.ref C1) "__class__" = some (some (.builtin "object.__class__")))
    (ob1 : mroIn K C1 (.type "object") = some true)
    (no10 : NoAttr K C1 "_old")
    (no11 : NoAttr K C1 "_new")
    (gc2 : nsIn K mainGlobals "Swap" = some (some (.ref C2)))
    (cl2 : Cls K C2)
    (mk2 : Mk K C2 I2)
    (fi2 : XJ.FnF K "__init__" "Swap.__init__" sISwap I2)
    (ki2 : keepIn K (.ref I2) = true)
    (eq2 : findIn K (.ref C2) "__eq__" = some (some (.ref E2)))
    (fe2 : XJ.FnF K "__eq__" "Swap.__eq__" sQSwap E2)
    (ke2 : keepIn K (.ref E2) = true)
    (ie2 : isFn K (.ref E2) = true)
    (ne2 : findIn K (.ref C2) "__ne__" = some (some (.builtin "object.__ne__")))
    (ca2 : findIn K (.ref C2) "__class__" = some (some (.builtin "object.__class__")))
    (ob2 : mroIn K C2 (.type "object") = some true)
    (no20 : NoAttr K C2 "_letters")
    (no21 : NoAttr K C2 "_others")
    (gc3 : nsIn K mainGlobals "Front" = some (some (.ref C3)))
    (cl3 : Cls K C3)
    (mk3 : Mk K C3 I3)
    (fi3 : XJ.FnF K "__init__" "Front.__init__" sIFront I3)
    (ki3 : keepIn K (.ref I3) = true)
    (eq3 : findIn K (.ref C3) "__eq__" = some (some (.ref E3)))
    (fe3 : XJ.FnF K "__eq__" "Front.__eq__" sQFront E3)
    (ke3 : keepIn K (.ref E3) = true)
    (ie3 : isFn K (.ref E3) = true)
    (ne3 : findIn K (.ref C3) "__ne__" = some (some (.builtin "object.__ne__")))
    (ca3 : findIn K (.ref C3) "__class__" = some (some (.builtin "object.__class__")))
    (ob3 : mroIn K C3 (.type "object") = some true)
    (no30 : NoAttr K C3 "_word")
    (gc4 : nsIn K mainGlobals "Behind" = some (some (.ref C4)))
    (cl4 : Cls K C4)
    (mk4 : Mk K C4 I4)
    (fi4 : XJ.FnF K "__init__" "Behind.__init__" sIBehind I4)
    (ki4 : keepIn K (.ref I4) = true)
    (eq4 : findIn K (.ref C4) "__eq__" = some (some (.ref E4)))
    (fe4 : XJ.FnF K "__eq__" "Behind.__eq__" sQBehind E4)
    (ke4 : keepIn K (.ref E4) = true)
    (ie4 : isFn K (.ref E4) = true)
    (ne4 : findIn K (.ref C4) "__ne__" = some (some (.builtin "object.__ne__")))
    (ca4 : findIn K (.ref C4) "__class__" = some (some (.builtin "object.__class__")))
    (ob4 : mroIn K C4 (.type "object") = some true)
    (no40 : NoAttr K C4 "_word")
    (pr0 : PropOf K C1 "old" P0 Q0)
    (fq0 : XJ.FnF K "old" "Every.old" sGEOld Q0)
    (kq0 : keepIn K (.ref Q0) = true)
    (pr1 : PropOf K C1 "new" P1 Q1)
    (fq1 : XJ.FnF K "new" "Every.new" sGENew Q1)
    (kq1 : keepIn K (.ref Q1) = true)
    (pr2 : PropOf K C2 "letters" P2 Q2)
    (fq2 : XJ.FnF K "letters" "Swap.letters" sGSLet Q2)
    (kq2 : keepIn K (.ref Q2) = true)
    (pr3 : PropOf K C2 "others" P3 Q3)
    (fq3 : XJ.FnF K "others" "Swap.others" sGSOth Q3)
    (kq3 : keepIn K (.ref Q3) = true)
    (pr4 : PropOf K C3 "word" P4 Q4)
    (fq4 : XJ.FnF K "word" "Front.word" sGFWord Q4)
    (kq4 : keepIn K (.ref Q4) = true)
    (pr5 : PropOf K C4 "word" P5 Q5)
    (fq5 : XJ.FnF K "word" "Behind.word" sGBWord Q5)
    (kq5 : keepIn K (.ref Q5) = true)
    (cg : specialIn K (.builtin "object.__class__") "__get__" = some (some (.builtin "getset_descriptor.__get__")))
    (ct : takesIn K (.builtin "object.__class__") = some true)
    (kt00 : kitOne K (.ref C0) (.ref C0) = some true)
    (kt01 : kitOne K (.ref C0) (.ref C1) = some false)
    (kt02 : kitOne K (.ref C0) (.ref C2) = some false)
    (kt03 : kitOne K (.ref C0) (.ref C3) = some false)
    (kt04 : kitOne K (.ref C0) (.ref C4) = some false)
    (kt10 : kitOne K (.ref C1) (.ref C0) = some false)
    (kt11 : kitOne K (.ref C1) (.ref C1) = some true)
    (kt12 : kitOne K (.ref C1) (.ref C2) = some false)
    (kt13 : kitOne K (.ref C1) (.ref C3) = some false)
    (kt14 : kitOne K (.ref C1) (.ref C4) = some false)
    (kt20 : kitOne K (.ref C2) (.ref C0) = some false)
    (kt21 : kitOne K (.ref C2) (.ref C1) = some false)
    (kt22 : kitOne K (.ref C2) (.ref C2) = some true)
    (kt23 : kitOne K (.ref C2) (.ref C3) = some false)
    (kt24 : kitOne K (.ref C2) (.ref C4) = some false)
    (kt30 : kitOne K (.ref C3) (.ref C0) = some false)
    (kt31 : kitOne K (.ref C3) (.ref C1) = some false)
    (kt32 : kitOne K (.ref C3) (.ref C2) = some false)
    (kt33 : kitOne K (.ref C3) (.ref C3) = some true)
    (kt34 : kitOne K (.ref C3) (.ref C4) = some false)
    (kt40 : kitOne K (.ref C4) (.ref C0) = some false)
    (kt41 : kitOne K (.ref C4) (.ref C1) = some false)
    (kt42 : kitOne K (.ref C4) (.ref C2) = some false)
    (kt43 : kitOne K (.ref C4) (.ref C3) = some false)
    (kt44 : kitOne K (.ref C4) (.ref C4) = some true)
    (er : XJ.ErrF K "InvalidChange" D)
    (er_no : findIn K (.ref D) "argument" = some none)
    (er_i : findIn K (.ref D) "__init__" = some (some (.ref DI)))
    (er_ty : typeIn K (.ref DI) = some (.type "function"))
    (er_f : XJ.FnF K "__init__" "InvalidChange.__init__" sXI DI)
    (er_k : keepIn K (.ref DI) = true)
    (er_ex : exmOne K (.ref D) (.ref D) = some true)
    (er_kv : kitOne K (.ref D) (.type "ValueError") = some true)
    (g_te : nsIn K mainGlobals "LineChange" = some (some (.ref Te)))
    (te_k : kitOne K (.ref C2) (.ref Te) = some true)
    (z_len : nsIn K mainGlobals "len" = some none)
    (z_int : nsIn K mainGlobals "int" = some none)
    (z_list : nsIn K mainGlobals "list" = some none)
    (z_abs : nsIn K mainGlobals "abs" = some none)
    (z_range : nsIn K mainGlobals "range" = some none)
    (z_set : nsIn K mainGlobals "set" = some none)
    (z_all : nsIn K mainGlobals "all" = some none)
    (z_ord : nsIn K mainGlobals "ord" = some none)
    (z_isinstance : nsIn K mainGlobals "isinstance" = some none)
    (z_str : nsIn K mainGlobals "str" = some none)
    (z_repr : nsIn K mainGlobals "repr" = some none)
    (z_ValueError : nsIn K mainGlobals "ValueError" = some none)
    (y0 : nsIn K mainGlobals "FIRST_LETTER" = some (some (.int 32 t0)))
    (y1 : nsIn K mainGlobals "LAST_LETTER" = some (some (.int 126 t1)))
    (y2 : nsIn K mainGlobals "PERCENT_SIGN" = some (some (.int 37 t2)))
    (y3 : nsIn K mainGlobals "MAX_WORD" = some (some (.int 8 t3))) :
    XK.CallerAtT l w K 20 63 "_law_script" mg fa h := by
  have e := hfa.symm.trans (mg_of X G g_law)
  cases e
  obtain ⟨d_pen, F_pen⟩ := f_pen.get k_pen
  have b_pen := F_pen.binds (ps := ["_law_script"]) fun _ _ _ _ _ _ us hl => match us, hl with | [_], _ => rfl
  obtain ⟨d_draw, F_draw⟩ := f_draw.get k_draw
  have b_draw := F_draw.binds (ps := ["_law_pen_here", "_law_span"]) fun _ _ _ _ _ _ us hl => match us, hl with | [_, _], _ => rfl
  obtain ⟨d_pick, F_pick⟩ := f_pick.get k_pick
  have b_pick := F_pick.binds (ps := ["_law_pen_here", "_law_options"]) fun _ _ _ _ _ _ us hl => match us, hl with | [_, _], _ => rfl
  obtain ⟨d_sgn, F_sgn⟩ := f_sgn.get k_sgn
  have b_sgn := F_sgn.binds (ps := ([] : List Str)) fun _ _ _ _ _ _ us hl => match us, hl with | [], _ => rfl
  obtain ⟨d_isr, F_isr⟩ := f_isr.get k_isr
  have b_isr := F_isr.binds (ps := ["_law_thing"]) fun _ _ _ _ _ _ us hl => match us, hl with | [_], _ => rfl
  obtain ⟨d_few, F_few⟩ := f_few.get k_few
  have b_few := F_few.binds (ps := ["_law_pen_here"]) fun _ _ _ _ _ _ us hl => match us, hl with | [_], _ => rfl
  obtain ⟨d_row, F_row⟩ := f_row.get k_row
  have b_row := F_row.binds (ps := ["_law_pen_here", "_law_signs_here", "_law_least", "_law_most_letters"]) fun _ _ _ _ _ _ us hl => match us, hl with | [_, _, _, _], _ => rfl
  obtain ⟨d_any, F_any⟩ := f_any.get k_any
  have b_any := F_any.binds (ps := ["_law_pen_here"]) fun _ _ _ _ _ _ us hl => match us, hl with | [_], _ => rfl
  obtain ⟨d_ref, F_ref⟩ := f_ref.get k_ref
  have b_ref := F_ref.binds (ps := ["_law_call"]) fun _ _ _ _ _ _ us hl => match us, hl with | [_], _ => rfl
  obtain ⟨d_odd, F_odd⟩ := f_odd.get k_odd
  have b_odd := F_odd.binds (ps := ["_law_pen_here"]) fun _ _ _ _ _ _ us hl => match us, hl with | [_], _ => rfl
  obtain ⟨d_wof, F_wof⟩ := f_wof.get k_wof
  have b_wof := F_wof.binds (ps := ["_law_odd_here", "_law_most"]) fun _ _ _ _ _ _ us hl => match us, hl with | [_, _], _ => rfl
  obtain ⟨d_due, F_due⟩ := f_due.get k_due
  have b_due := F_due.binds (ps := ["_law_odd_here", "_law_more"]) fun _ _ _ _ _ _ us hl => match us, hl with | [_, _], _ => rfl
  obtain ⟨d_mr, F_mr⟩ := f_mr.get k_mr
  have b_mr := F_mr.binds (ps := ["_law_pen_here", "_law_signs_here"]) fun _ _ _ _ _ _ us hl => match us, hl with | [_, _], _ => rfl
  obtain ⟨d_le, F_le⟩ := f_le.get k_le
  have b_le := F_le.binds (ps := ["character"]) fun _ _ _ _ _ _ us hl => match us, hl with | [_], _ => rfl
  obtain ⟨d_li, F_li⟩ := f_li.get k_li
  have b_li := F_li.binds (ps := ["value"]) fun _ _ _ _ _ _ us hl => match us, hl with | [_], _ => rfl
  obtain ⟨d_wo, F_wo⟩ := f_wo.get k_wo
  have b_wo := F_wo.binds (ps := ["value"]) fun _ _ _ _ _ _ us hl => match us, hl with | [_], _ => rfl
  obtain ⟨d_sh, F_sh⟩ := f_sh.get k_sh
  have b_sh := F_sh.binds (ps := ["value"]) fun _ _ _ _ _ _ us hl => match us, hl with | [_], _ => rfl
  obtain ⟨d_di, F_di⟩ := f_di.get k_di
  have b_di := F_di.binds (ps := ["line"]) fun _ _ _ _ _ _ us hl => match us, hl with | [_], _ => rfl
  obtain ⟨d_cw, F_cw⟩ := f_cw.get k_cw
  have b_cw := F_cw.binds (ps := ["word"]) fun _ _ _ _ _ _ us hl => match us, hl with | [_], _ => rfl
  obtain ⟨d_cp, F_cp⟩ := f_cp.get k_cp
  have b_cp := F_cp.binds (ps := ["old", "new"]) fun _ _ _ _ _ _ us hl => match us, hl with | [_, _], _ => rfl
  have bs_sgn : ∀ s, BindsTo s d_sgn ⟨[], []⟩ [] := by
    obtain ⟨oc, od, kV, doc, pm, an, cdv, ct, osl, rfl, _, _⟩ := F_sgn.ex
    exact fun s => .of_eq rfl
  obtain ⟨di0, FI0⟩ := fi0.get ki0
  have bi0 := FI0.binds (ps := ["self", "old", "new"]) fun _ _ _ _ _ _ us hl => match us, hl with | [_, _, _], _ => rfl
  have kb0 := XJ.kb_two (p1 := "old") (p2 := "new") FI0 (fun _ _ _ _ _ _ _ _ _ => rfl)
  obtain ⟨de0, FE0⟩ := fe0.get ke0
  have be0 := FE0.binds (ps := ["self", "other"]) fun _ _ _ _ _ _ us hl => match us, hl with | [_, _], _ => rfl
  obtain ⟨di1, FI1⟩ := fi1.get ki1
  have bi1 := FI1.binds (ps := ["self", "old", "new"]) fun _ _ _ _ _ _ us hl => match us, hl with | [_, _, _], _ => rfl
  have kb1 := XJ.kb_two (p1 := "old") (p2 := "new") FI1 (fun _ _ _ _ _ _ _ _ _ => rfl)
  obtain ⟨de1, FE1⟩ := fe1.get ke1
  have be1 := FE1.binds (ps := ["self", "other"]) fun _ _ _ _ _ _ us hl => match us, hl with | [_, _], _ => rfl
  obtain ⟨di2, FI2⟩ := fi2.get ki2
  have bi2 := FI2.binds (ps := ["self", "letters", "others"]) fun _ _ _ _ _ _ us hl => match us, hl with | [_, _, _], _ => rfl
  have kb2 := XJ.kb_two (p1 := "letters") (p2 := "others") FI2 (fun _ _ _ _ _ _ _ _ _ => rfl)
  obtain ⟨de2, FE2⟩ := fe2.get ke2
  have be2 := FE2.binds (ps := ["self", "other"]) fun _ _ _ _ _ _ us hl => match us, hl with | [_, _], _ => rfl
  obtain ⟨di3, FI3⟩ := fi3.get ki3
  have bi3 := FI3.binds (ps := ["self", "word"]) fun _ _ _ _ _ _ us hl => match us, hl with | [_, _], _ => rfl
  have kb3 := XJ.kb_one (pn := "word") FI3 (fun _ _ _ _ _ _ _ _ => rfl)
  obtain ⟨de3, FE3⟩ := fe3.get ke3
  have be3 := FE3.binds (ps := ["self", "other"]) fun _ _ _ _ _ _ us hl => match us, hl with | [_, _], _ => rfl
  obtain ⟨di4, FI4⟩ := fi4.get ki4
  have bi4 := FI4.binds (ps := ["self", "word"]) fun _ _ _ _ _ _ us hl => match us, hl with | [_, _], _ => rfl
  have kb4 := XJ.kb_one (pn := "word") FI4 (fun _ _ _ _ _ _ _ _ => rfl)
  obtain ⟨de4, FE4⟩ := fe4.get ke4
  have be4 := FE4.binds (ps := ["self", "other"]) fun _ _ _ _ _ _ us hl => match us, hl with | [_, _], _ => rfl
  obtain ⟨dq0, FQ0⟩ := fq0.get kq0
  have bq0 := FQ0.binds (ps := ["self"]) fun _ _ _ _ _ _ us hl => match us, hl with | [_], _ => rfl
  obtain ⟨dq1, FQ1⟩ := fq1.get kq1
  have bq1 := FQ1.binds (ps := ["self"]) fun _ _ _ _ _ _ us hl => match us, hl with | [_], _ => rfl
  obtain ⟨dq2, FQ2⟩ := fq2.get kq2
  have bq2 := FQ2.binds (ps := ["self"]) fun _ _ _ _ _ _ us hl => match us, hl with | [_], _ => rfl
  obtain ⟨dq3, FQ3⟩ := fq3.get kq3
  have bq3 := FQ3.binds (ps := ["self"]) fun _ _ _ _ _ _ us hl => match us, hl with | [_], _ => rfl
  obtain ⟨dq4, FQ4⟩ := fq4.get kq4
  have bq4 := FQ4.binds (ps := ["self"]) fun _ _ _ _ _ _ us hl => match us, hl with | [_], _ => rfl
  obtain ⟨dq5, FQ5⟩ := fq5.get kq5
  have bq5 := FQ5.binds (ps := ["self"]) fun _ _ _ _ _ _ us hl => match us, hl with | [_], _ => rfl
  obtain ⟨dX, FX⟩ := er_f.get er_k
  have bX := FX.binds (ps := ["self", "argument"]) fun _ _ _ _ _ _ us hl => match us, hl with | [_, _], _ => rfl
  obtain ⟨oc2, od2, kV2, dc2, pm2, an2, ct2, sl2, l2, cd2⟩ := f_law.ex
  have FC2 : FunC K "law" "law" sLaw fa (fnOf "law" "law" (defArgs sLaw) (defBody sLaw) (defScope sLaw) .none kV2 dc2 pm2 an2 (.ref c_law) ct2) c_law := ⟨⟨oc2, od2, kV2, dc2, pm2, an2, ct2, sl2, rfl, l2, cd2⟩⟩
  obtain ⟨e2, d2, vs2, s2, r, hp2, hv2, hno2⟩ := XJ.alone apt
  obtain ⟨tab2, code2⟩ := XJ.tab_one X tbL (mg_of X G g_law) l2 rfl hp2 hv2
  have L0 : PkT mg t0 t1 t2 t3 := ⟨mg_none_of X G z_len, mg_none_of X G z_set, mg_none_of X G z_all, mg_none_of X G z_ord, mg_none_of X G z_isinstance, mg_none_of X G z_str, mg_of X G y0, mg_of X G y1, mg_of X G y2, mg_of X G y3⟩
  have T0 : Txt mg := ⟨mg_none_of X G z_len, mg_none_of X G z_int, mg_none_of X G z_list, mg_none_of X G z_abs⟩
  have mR := mg_none_of X G z_range
  have mI := mg_none_of X G z_isinstance
  have mS := mg_none_of X G z_str
  have mL := mg_none_of X G z_len
  have N0 : NamT mg (n5 C0 C1 C2 C3 C4) := ⟨mI, mg_of X G gc0, mg_of X G gc1, mg_of X G gc2, mg_of X G gc3, mg_of X G gc4⟩
  have k0 : KC K (n5 C0 C1 C2 C3 C4) := ⟨fun i hi => match i, hi with | 0, _ => cl0 | 1, _ => cl1 | 2, _ => cl2 | 3, _ => cl3 | 4, _ => cl4 | (n + 5), h => absurd h (by omega), fun i hi => match i, hi with | 0, _ => ca0 | 1, _ => ca1 | 2, _ => ca2 | 3, _ => ca3 | 4, _ => ca4 | (n + 5), h => absurd h (by omega), cg, ct, fun i hi => match i, hi with | 0, _ => ob0 | 1, _ => ob1 | 2, _ => ob2 | 3, _ => ob3 | 4, _ => ob4 | (n + 5), h => absurd h (by omega), fun i j hi hj => match i, j, hi, hj with | 0, 0, _, _ => kt00 | 0, 1, _, _ => kt01 | 0, 2, _, _ => kt02 | 0, 3, _, _ => kt03 | 0, 4, _, _ => kt04 | 1, 0, _, _ => kt10 | 1, 1, _, _ => kt11 | 1, 2, _, _ => kt12 | 1, 3, _, _ => kt13 | 1, 4, _, _ => kt14 | 2, 0, _, _ => kt20 | 2, 1, _, _ => kt21 | 2, 2, _, _ => kt22 | 2, 3, _, _ => kt23 | 2, 4, _, _ => kt24 | 3, 0, _, _ => kt30 | 3, 1, _, _ => kt31 | 3, 2, _, _ => kt32 | 3, 3, _, _ => kt33 | 3, 4, _, _ => kt34 | 4, 0, _, _ => kt40 | 4, 1, _, _ => kt41 | 4, 2, _, _ => kt42 | 4, 3, _, _ => kt43 | 4, 4, _, _ => kt44 | (n + 5), _, h, _ => absurd h (by omega) | _, (n + 5), _, h => absurd h (by omega)⟩
  refine ⟨(fnOf "law" "law" (defArgs sLaw) (defBody sLaw) (defScope sLaw) .none kV2 dc2 pm2 an2 (.ref c_law) ct2), [(c_law, r)], spLaw K [(r, lamQ "law" sLaw)], ?_, ?_, ?_, fun s v => .of_eq rfl, ?_, fun base _ _ TB => ?_⟩
  · intro q hq
    simp only [List.mem_cons, List.not_mem_nil, or_false] at hq
    rw [hq]
    exact tab2
  · intro q hq
    simp only [List.mem_cons, List.not_mem_nil, or_false] at hq
    rw [hq]
    exact hno2
  · intro q hq
    simp only [List.mem_cons, List.not_mem_nil, or_false] at hq
    rw [hq]
    exact code2
  · intro H a ns hl hT hS
    refine ⟨a, ns, rfl, hS, hl, fun p hp => ?_, fun _ => rfl⟩
    have e : p = (r, lamQ "law" sLaw) := by simpa using hp
    subst e
    exact TabS.nil (hT (c_law, r) (by simp))
  have TB2 : TabB base mg c_law r := TB (c_law, r) (by simp)
  have in2 : (r, lamQ "law" sLaw) ∈ [(r, lamQ "law" sLaw)] := List.mem_cons_self
  have one2 : ∀ q ∈ [(r, lamQ "law" sLaw)], q.1 = r → q.2 = lamQ "law" sLaw := by
    intro q hq _
    have e : q = (r, lamQ "law" sLaw) := by simpa using hq
    rw [e]
  have o_draw := ok_draw (P := l.prog) (w := w) (base := base) F_draw T0
  have cP : PickAt l.prog w K mg base a_pick d_pick := ⟨ok_pick F_pick T0 o_draw (mg_of X G g_draw) k_draw b_draw, mg_of X G g_pick, k_pick, b_pick⟩
  have c_pen : CallOf l.prog w K mg base 1 "_law_pen" ["_law_script"] (spPen K) a_pen d_pen := ⟨ok_pen F_pen T0, mg_of X G g_pen, k_pen, b_pen⟩
  have c_sgn : CallOf l.prog w K mg base 1 "_law_signs" [] (spLit) a_sgn d_sgn := ⟨ok_signs F_sgn, mg_of X G g_sgn, k_sgn, b_sgn⟩
  have c_isr : CallOf l.prog w K mg base 2 "_law_is_row" ["_law_thing"] (spIsRow) a_isr d_isr := ⟨ok_isRow F_isr mI mS c_sgn, mg_of X G g_isr, k_isr, b_isr⟩
  have c_few : CallOf l.prog w K mg base 3 "_law_few" ["_law_pen_here"] (spFew) a_few d_few := ⟨ok_few F_few T0 mR cP F_sgn bs_sgn (mg_of X G g_sgn), mg_of X G g_few, k_few, b_few⟩
  have c_row : CallOf l.prog w K mg base 3 "_law_row" ["_law_pen_here", "_law_signs_here", "_law_least", "_law_most_letters"] (spRow) a_row d_row := ⟨ok_row F_row T0 mR cP o_draw (mg_of X G g_draw) k_draw b_draw, mg_of X G g_row, k_row, b_row⟩
  have c_any : CallOf l.prog w K mg base 3 "_law_any_value" ["_law_pen_here"] (spAny) a_any d_any := ⟨ok_any F_any cP, mg_of X G g_any, k_any, b_any⟩
  have c_odd : CallOf l.prog w K mg base 4 "_law_odd" ["_law_pen_here"] (spOdd) a_odd d_odd := ⟨ok_odd F_odd cP c_sgn c_any, mg_of X G g_odd, k_odd, b_odd⟩
  have c_wof : CallOf l.prog w K mg base 3 "_law_is_word_of" ["_law_odd_here", "_law_most"] (spWof) a_wof d_wof := ⟨ok_wof F_wof mI mS mL c_isr, mg_of X G g_wof, k_wof, b_wof⟩
  have c_due : CallOf l.prog w K mg base 4 "_law_due" ["_law_odd_here", "_law_more"] (spDue) a_due d_due := ⟨ok_due F_due mI mS mL (mg_none_of X G z_set) c_isr c_wof, mg_of X G g_due, k_due, b_due⟩
  have c_le : CallOf l.prog w K mg base 1 "is_letter" ["character"] (spLetter) a_le d_le := ⟨ok_letter F_le L0, mg_of X G g_le, k_le, b_le⟩
  have c_li : CallOf l.prog w K mg base 2 "is_line" ["value"] (spLine K) a_li d_li := ⟨ok_line F_li L0 c_le, mg_of X G g_li, k_li, b_li⟩
  have c_liA : CallOf l.prog w K mg base 2 "is_line" ["value"] (spAny1 K lineB) a_li d_li := ⟨ask_any (b := lineB) c_li.ok, mg_of X G g_li, k_li, b_li⟩
  have c_wo : CallOf l.prog w K mg base 3 "is_word" ["value"] (spAsk K wordB) a_wo d_wo := ⟨ok_word F_wo c_li, mg_of X G g_wo, k_wo, b_wo⟩
  have c_woA : CallOf l.prog w K mg base 3 "is_word" ["value"] (spAny1 K wordB) a_wo d_wo := ⟨ask_any c_wo.ok, mg_of X G g_wo, k_wo, b_wo⟩
  have c_sh : CallOf l.prog w K mg base 4 "is_short_word" ["value"] (spAsk K shortB) a_sh d_sh := ⟨ok_short F_sh L0 c_wo, mg_of X G g_sh, k_sh, b_sh⟩
  have c_shA : CallOf l.prog w K mg base 4 "is_short_word" ["value"] (spAny1 K shortB) a_sh d_sh := ⟨ask_any c_sh.ok, mg_of X G g_sh, k_sh, b_sh⟩
  have c_di : CallOf l.prog w K mg base 1 "are_different" ["line"] (spDiffT) a_di d_di := ⟨ok_diff F_di L0, mg_of X G g_di, k_di, b_di⟩
  have EA : ErrAt l.prog w K mg base D DI dX := ⟨er.oex, er_no, er_i, er_ty, ok_XI FX, bX, mg_of X G er.ns⟩
  have c_cw : CallX l.prog w K mg base 5 "check_word" ["word"] (spChkW K D) a_cw d_cw := ⟨ok_chkW F_cw EA c_shA, mg_of X G g_cw, k_cw, b_cw⟩
  have c_cp : CallX l.prog w K mg base 5 "check_pair" ["old", "new"] (spChkP D) a_cp d_cp := ⟨ok_chkP F_cp L0 EA c_shA c_liA, mg_of X G g_cp, k_cp, b_cp⟩
  have r0 := ok_GEOld (P := l.prog) (w := w) (mg := mg) (base := base) FQ0 cl1 no10
  have r1 := ok_GENew (P := l.prog) (w := w) (mg := mg) (base := base) FQ1 cl1 no11
  have r2 := ok_GSLet (P := l.prog) (w := w) (mg := mg) (base := base) FQ2 cl2 no20
  have r3 := ok_GSOth (P := l.prog) (w := w) (mg := mg) (base := base) FQ3 cl2 no21
  have r4 := ok_GFWord (P := l.prog) (w := w) (mg := mg) (base := base) FQ4 cl3 no30
  have r5 := ok_GBWord (P := l.prog) (w := w) (mg := mg) (base := base) FQ5 cl4 no40
  have gt : GetT l.prog w K mg base (n5 C0 C1 C2 C3 C4) (n6 P0 P1 P2 P3 P4 P5) (n6 Q0 Q1 Q2 Q3 Q4 Q5) (n6 dq0 dq1 dq2 dq3 dq4 dq5) := ⟨⟨pr0, r0, bq0⟩, ⟨pr1, r1, bq1⟩, ⟨pr2, r2, bq2⟩, ⟨pr3, r3, bq3⟩, ⟨pr4, r4, bq4⟩, ⟨pr5, r5, bq5⟩⟩
  have MB : MakB l.prog w K mg base (n5 C0 C1 C2 C3 C4) D (n5 I0 I1 I2 I3 I4) (n5 di0 di1 di2 di3 di4) := ⟨⟨mk0, ok_IFirst FI0 ⟨cl0, no00, no01⟩ c_cp, bi0, kb0⟩, ⟨mk1, ok_IEvery FI1 ⟨cl1, no10, no11⟩ c_cp, bi1, kb1⟩, ⟨mk2, ok_ISwap FI2 ⟨cl2, no20, no21⟩ L0 EA c_woA c_di c_liA, bi2, kb2⟩, ⟨mk3, ok_IFront FI3 ⟨cl3, no30⟩ c_cw, bi3, kb3⟩, ⟨mk4, ok_IBehind FI4 ⟨cl4, no40⟩ c_cw, bi4, kb4⟩⟩
  have q0 : FnOk l.prog w K mg base CX0 1 E0 de0 ["self", "other"] (spEqT (n5 C0 C1 C2 C3 C4) 0) := ok_QFirst FE0 N0 k0 ⟨cl0, no00, no01⟩
  have q1 : FnOk l.prog w K mg base CX0 1 E1 de1 ["self", "other"] (spEqT (n5 C0 C1 C2 C3 C4) 1) := ok_QEvery FE1 N0 k0 ⟨cl1, no10, no11⟩
  have q2 : FnOk l.prog w K mg base CX0 1 E2 de2 ["self", "other"] (spEqT (n5 C0 C1 C2 C3 C4) 2) := ok_QSwap FE2 N0 k0 ⟨cl2, no20, no21⟩
  have q3 : FnOk l.prog w K mg base CX0 1 E3 de3 ["self", "other"] (spEqT (n5 C0 C1 C2 C3 C4) 3) := ok_QFront FE3 N0 k0 ⟨cl3, no30⟩
  have q4 : FnOk l.prog w K mg base CX0 1 E4 de4 ["self", "other"] (spEqT (n5 C0 C1 C2 C3 C4) 4) := ok_QBehind FE4 N0 k0 ⟨cl4, no40⟩
  have Q1 : ∀ i, i < 5 → EqAt l.prog w K mg base (n5 C0 C1 C2 C3 C4) 1 i ((n5 E0 E1 E2 E3 E4) i) ((n5 de0 de1 de2 de3 de4) i) := fun i hi => match i, hi with | 0, _ => ⟨q0, eq0, ie0, be0, ne0⟩ | 1, _ => ⟨q1, eq1, ie1, be1, ne1⟩ | 2, _ => ⟨q2, eq2, ie2, be2, ne2⟩ | 3, _ => ⟨q3, eq3, ie3, be3, ne3⟩ | 4, _ => ⟨q4, eq4, ie4, be4, ne4⟩ | (n + 5), h => absurd h (by omega)
  have RA : RefAt K mg D a_ref d_ref := ⟨F_ref, mg_of X G g_ref, k_ref, b_ref, er.xt, er_no, mg_of X G er.ns, mI, mg_none_of X G z_ValueError, er_ex, er_kv⟩
  have o_mr := ok_madeR (Te := Te) F_mr N0 k0 MB gt Q1 mL mR (mg_none_of X G z_repr) (mg_of X G g_te) te_k c_row
  have CS : Calls l.prog w K mg base a_pen a_odd a_few a_due a_wof a_sgn a_mr d_pen d_odd d_few d_due d_wof d_sgn d_mr := ⟨c_pen, c_odd, c_few, c_due, c_wof, c_sgn, o_mr, mg_of X G g_mr, k_mr, b_mr⟩
  exact ok_law FC2 TB2 in2 one2 N0 mR RA MB CS
end LA
end
section
open PySem PySem.W PyProof.Rows
set_option maxRecDepth 100000
set_option maxHeartbeats 0
open_top LA06head for PySem.Challenge.rw_linestream_k06_changes_made_and_refused
end
section
set_option Elab.async false
set_option linter.all false
open PySem PySem.W PyProof.Rows
set_option maxRecDepth 100000 in
set_option maxHeartbeats 0 in
theorem PySem.Challenge.cw_linestream_k06_changes_made_and_refused_holds : PySem.Challenge.rw_linestream_k06_changes_made_and_refused.Holds :=
  LA06head (by
    k_fill
    refine XJ.caller_walkU (l := PySem.Challenge.rw_linestream_k06_changes_made_and_refused) (n := 63) (k := 20) (x := "_law_script") rfl (by decide) rfl ⟨rfl, by decide, by decide⟩ (fun w h Y => PySem.W.km_in_of Y) ?F
    case F =>
      intro w mg fa h Y KX G hmg0 TB
      have hmg : mg "law" = some (.ref fa) := hmg0
      have tbL := TB "law" (by decide +kernel)
      clear hmg0 TB Y
      refine' LA.all_mk KX G hmg tbL ?h_g_pen ?h_f_pen ?h_k_pen ?h_g_draw ?h_f_draw ?h_k_draw ?h_g_pick ?h_f_pick ?h_k_pick ?h_g_sgn ?h_f_sgn ?h_k_sgn ?h_g_isr ?h_f_isr ?h_k_isr ?h_g_few ?h_f_few ?h_k_few ?h_g_row ?h_f_row ?h_k_row ?h_g_any ?h_f_any ?h_k_any ?h_g_ref ?h_f_ref ?h_k_ref ?h_g_odd ?h_f_odd ?h_k_odd ?h_g_wof ?h_f_wof ?h_k_wof ?h_g_due ?h_f_due ?h_k_due ?h_g_mr ?h_f_mr ?h_k_mr ?h_g_le ?h_f_le ?h_k_le ?h_g_li ?h_f_li ?h_k_li ?h_g_wo ?h_f_wo ?h_k_wo ?h_g_sh ?h_f_sh ?h_k_sh ?h_g_di ?h_f_di ?h_k_di ?h_g_cw ?h_f_cw ?h_k_cw ?h_g_cp ?h_f_cp ?h_k_cp ?h_g_law ?h_f_law ?h_k_law ?h_apt ?h_gc0 ?h_cl0 ?h_mk0 ?h_fi0 ?h_ki0 ?h_eq0 ?h_fe0 ?h_ke0 ?h_ie0 ?h_ne0 ?h_ca0 ?h_ob0 ?h_no00 ?h_no01 ?h_gc1 ?h_cl1 ?h_mk1 ?h_fi1 ?h_ki1 ?h_eq1 ?h_fe1 ?h_ke1 ?h_ie1 ?h_ne1 ?h_ca1 ?h_ob1 ?h_no10 ?h_no11 ?h_gc2 ?h_cl2 ?h_mk2 ?h_fi2 ?h_ki2 ?h_eq2 ?h_fe2 ?h_ke2 ?h_ie2 ?h_ne2 ?h_ca2 ?h_ob2 ?h_no20 ?h_no21 ?h_gc3 ?h_cl3 ?h_mk3 ?h_fi3 ?h_ki3 ?h_eq3 ?h_fe3 ?h_ke3 ?h_ie3 ?h_ne3 ?h_ca3 ?h_ob3 ?h_no30 ?h_gc4 ?h_cl4 ?h_mk4 ?h_fi4 ?h_ki4 ?h_eq4 ?h_fe4 ?h_ke4 ?h_ie4 ?h_ne4 ?h_ca4 ?h_ob4 ?h_no40 ?h_pr0 ?h_fq0 ?h_kq0 ?h_pr1 ?h_fq1 ?h_kq1 ?h_pr2 ?h_fq2 ?h_kq2 ?h_pr3 ?h_fq3 ?h_kq3 ?h_pr4 ?h_fq4 ?h_kq4 ?h_pr5 ?h_fq5 ?h_kq5 ?h_cg ?h_ct ?h_kt00 ?h_kt01 ?h_kt02 ?h_kt03 ?h_kt04 ?h_kt10 ?h_kt11 ?h_kt12 ?h_kt13 ?h_kt14 ?h_kt20 ?h_kt21 ?h_kt22 ?h_kt23 ?h_kt24 ?h_kt30 ?h_kt31 ?h_kt32 ?h_kt33 ?h_kt34 ?h_kt40 ?h_kt41 ?h_kt42 ?h_kt43 ?h_kt44 ?h_er ?h_er_no ?h_er_i ?h_er_ty ?h_er_f ?h_er_k ?h_er_ex ?h_er_kv ?h_g_te ?h_te_k ?h_z_len ?h_z_int ?h_z_list ?h_z_abs ?h_z_range ?h_z_set ?h_z_all ?h_z_ord ?h_z_isinstance ?h_z_str ?h_z_repr ?h_z_ValueError ?h_y0 ?h_y1 ?h_y2 ?h_y3
      (case h_g_pen => k_is)
      (case h_f_pen => (refine' XJ.fnF_mk ?q1 ?q2; (case q1 => k_is); (case q2 => k_is)))
      (case h_k_pen => k_is)
      (case h_g_draw => k_is)
      (case h_f_draw => (refine' XJ.fnF_mk ?q1 ?q2; (case q1 => k_is); (case q2 => k_is)))
      (case h_k_draw => k_is)
      (case h_g_pick => k_is)
      (case h_f_pick => (refine' XJ.fnF_mk ?q1 ?q2; (case q1 => k_is); (case q2 => k_is)))
      (case h_k_pick => k_is)
      (case h_g_sgn => k_is)
      (case h_f_sgn => (refine' XJ.fnF_mk ?q1 ?q2; (case q1 => k_is); (case q2 => k_is)))
      (case h_k_sgn => k_is)
      (case h_g_isr => k_is)
      (case h_f_isr => (refine' XJ.fnF_mk ?q1 ?q2; (case q1 => k_is); (case q2 => k_is)))
      (case h_k_isr => k_is)
      (case h_g_few => k_is)
      (case h_f_few => (refine' XJ.fnF_mk ?q1 ?q2; (case q1 => k_is); (case q2 => k_is)))
      (case h_k_few => k_is)
      (case h_g_row => k_is)
      (case h_f_row => (refine' XJ.fnF_mk ?q1 ?q2; (case q1 => k_is); (case q2 => k_is)))
      (case h_k_row => k_is)
      (case h_g_any => k_is)
      (case h_f_any => (refine' XJ.fnF_mk ?q1 ?q2; (case q1 => k_is); (case q2 => k_is)))
      (case h_k_any => k_is)
      (case h_g_ref => k_is)
      (case h_f_ref => (refine' XJ.fnF_mk ?q1 ?q2; (case q1 => k_is); (case q2 => k_is)))
      (case h_k_ref => k_is)
      (case h_g_odd => k_is)
      (case h_f_odd => (refine' XJ.fnF_mk ?q1 ?q2; (case q1 => k_is); (case q2 => k_is)))
      (case h_k_odd => k_is)
      (case h_g_wof => k_is)
      (case h_f_wof => (refine' XJ.fnF_mk ?q1 ?q2; (case q1 => k_is); (case q2 => k_is)))
      (case h_k_wof => k_is)
      (case h_g_due => k_is)
      (case h_f_due => (refine' XJ.fnF_mk ?q1 ?q2; (case q1 => k_is); (case q2 => k_is)))
      (case h_k_due => k_is)
      (case h_g_mr => k_is)
      (case h_f_mr => (refine' XJ.fnF_mk ?q1 ?q2; (case q1 => k_is); (case q2 => k_is)))
      (case h_k_mr => k_is)
      (case h_g_le => k_is)
      (case h_f_le => (refine' XJ.fnF_mk ?q1 ?q2; (case q1 => k_is); (case q2 => k_is)))
      (case h_k_le => k_is)
      (case h_g_li => k_is)
      (case h_f_li => (refine' XJ.fnF_mk ?q1 ?q2; (case q1 => k_is); (case q2 => k_is)))
      (case h_k_li => k_is)
      (case h_g_wo => k_is)
      (case h_f_wo => (refine' XJ.fnF_mk ?q1 ?q2; (case q1 => k_is); (case q2 => k_is)))
      (case h_k_wo => k_is)
      (case h_g_sh => k_is)
      (case h_f_sh => (refine' XJ.fnF_mk ?q1 ?q2; (case q1 => k_is); (case q2 => k_is)))
      (case h_k_sh => k_is)
      (case h_g_di => k_is)
      (case h_f_di => (refine' XJ.fnF_mk ?q1 ?q2; (case q1 => k_is); (case q2 => k_is)))
      (case h_k_di => k_is)
      (case h_g_cw => k_is)
      (case h_f_cw => (refine' XJ.fnF_mk ?q1 ?q2; (case q1 => k_is); (case q2 => k_is)))
      (case h_k_cw => k_is)
      (case h_g_cp => k_is)
      (case h_f_cp => (refine' XJ.fnF_mk ?q1 ?q2; (case q1 => k_is); (case q2 => k_is)))
      (case h_k_cp => k_is)
      (case h_g_law => k_is)
      (case h_f_law => (refine' XJ.fnFC_mk ?q1 ?q2; (case q1 => k_is); (case q2 => k_is)))
      (case h_k_law => k_is)
      (case h_apt => kernel_rfl)
      (case h_gc0 => k_is)
      (case h_cl0 => (refine' ⟨?q1, ?q2, ?q3, ?q4⟩; (case q1 => k_is); (case q2 => k_is); (case q3 => k_is); (case q4 => k_is)))
      (case h_mk0 => (refine' ⟨?q1, ?q2, ?q3, ?q4⟩; (case q1 => k_is); (case q2 => k_is); (case q3 => k_is); (case q4 => k_is)))
      (case h_fi0 => (refine' XJ.fnF_mk ?q1 ?q2; (case q1 => k_is); (case q2 => k_is)))
      (case h_ki0 => k_is)
      (case h_eq0 => k_is)
      (case h_fe0 => (refine' XJ.fnF_mk ?q1 ?q2; (case q1 => k_is); (case q2 => k_is)))
      (case h_ke0 => k_is)
      (case h_ie0 => k_is)
      (case h_ne0 => k_is)
      (case h_ca0 => k_is)
      (case h_ob0 => k_is)
      (case h_no00 => (unfold L2.NoAttr; k_is))
      (case h_no01 => (unfold L2.NoAttr; k_is))
      (case h_gc1 => k_is)
      (case h_cl1 => (refine' ⟨?q1, ?q2, ?q3, ?q4⟩; (case q1 => k_is); (case q2 => k_is); (case q3 => k_is); (case q4 => k_is)))
      (case h_mk1 => (refine' ⟨?q1, ?q2, ?q3, ?q4⟩; (case q1 => k_is); (case q2 => k_is); (case q3 => k_is); (case q4 => k_is)))
      (case h_fi1 => (refine' XJ.fnF_mk ?q1 ?q2; (case q1 => k_is); (case q2 => k_is)))
      (case h_ki1 => k_is)
      (case h_eq1 => k_is)
      (case h_fe1 => (refine' XJ.fnF_mk ?q1 ?q2; (case q1 => k_is); (case q2 => k_is)))
      (case h_ke1 => k_is)
      (case h_ie1 => k_is)
      (case h_ne1 => k_is)
      (case h_ca1 => k_is)
      (case h_ob1 => k_is)
      (case h_no10 => (unfold L2.NoAttr; k_is))
      (case h_no11 => (unfold L2.NoAttr; k_is))
      (case h_gc2 => k_is)
      (case h_cl2 => (refine' ⟨?q1, ?q2, ?q3, ?q4⟩; (case q1 => k_is); (case q2 => k_is); (case q3 => k_is); (case q4 => k_is)))
      (case h_mk2 => (refine' ⟨?q1, ?q2, ?q3, ?q4⟩; (case q1 => k_is); (case q2 => k_is); (case q3 => k_is); (case q4 => k_is)))
      (case h_fi2 => (refine' XJ.fnF_mk ?q1 ?q2; (case q1 => k_is); (case q2 => k_is)))
      (case h_ki2 => k_is)
      (case h_eq2 => k_is)
      (case h_fe2 => (refine' XJ.fnF_mk ?q1 ?q2; (case q1 => k_is); (case q2 => k_is)))
      (case h_ke2 => k_is)
      (case h_ie2 => k_is)
      (case h_ne2 => k_is)
      (case h_ca2 => k_is)
      (case h_ob2 => k_is)
      (case h_no20 => (unfold L2.NoAttr; k_is))
      (case h_no21 => (unfold L2.NoAttr; k_is))
      (case h_gc3 => k_is)
      (case h_cl3 => (refine' ⟨?q1, ?q2, ?q3, ?q4⟩; (case q1 => k_is); (case q2 => k_is); (case q3 => k_is); (case q4 => k_is)))
      (case h_mk3 => (refine' ⟨?q1, ?q2, ?q3, ?q4⟩; (case q1 => k_is); (case q2 => k_is); (case q3 => k_is); (case q4 => k_is)))
      (case h_fi3 => (refine' XJ.fnF_mk ?q1 ?q2; (case q1 => k_is); (case q2 => k_is)))
      (case h_ki3 => k_is)
      (case h_eq3 => k_is)
      (case h_fe3 => (refine' XJ.fnF_mk ?q1 ?q2; (case q1 => k_is); (case q2 => k_is)))
      (case h_ke3 => k_is)
      (case h_ie3 => k_is)
      (case h_ne3 => k_is)
      (case h_ca3 => k_is)
      (case h_ob3 => k_is)
      (case h_no30 => (unfold L2.NoAttr; k_is))
      (case h_gc4 => k_is)
      (case h_cl4 => (refine' ⟨?q1, ?q2, ?q3, ?q4⟩; (case q1 => k_is); (case q2 => k_is); (case q3 => k_is); (case q4 => k_is)))
      (case h_mk4 => (refine' ⟨?q1, ?q2, ?q3, ?q4⟩; (case q1 => k_is); (case q2 => k_is); (case q3 => k_is); (case q4 => k_is)))
      (case h_fi4 => (refine' XJ.fnF_mk ?q1 ?q2; (case q1 => k_is); (case q2 => k_is)))
      (case h_ki4 => k_is)
      (case h_eq4 => k_is)
      (case h_fe4 => (refine' XJ.fnF_mk ?q1 ?q2; (case q1 => k_is); (case q2 => k_is)))
      (case h_ke4 => k_is)
      (case h_ie4 => k_is)
      (case h_ne4 => k_is)
      (case h_ca4 => k_is)
      (case h_ob4 => k_is)
      (case h_no40 => (unfold L2.NoAttr; k_is))
      (case h_pr0 => (refine' XJ.propF_mk ?q1 ?q2 ?q3 ?q4; (case q1 => k_is); (case q2 => k_is); (case q3 => k_is); (case q4 => k_is)))
      (case h_fq0 => (refine' XJ.fnF_mk ?q1 ?q2; (case q1 => k_is); (case q2 => k_is)))
      (case h_kq0 => k_is)
      (case h_pr1 => (refine' XJ.propF_mk ?q1 ?q2 ?q3 ?q4; (case q1 => k_is); (case q2 => k_is); (case q3 => k_is); (case q4 => k_is)))
      (case h_fq1 => (refine' XJ.fnF_mk ?q1 ?q2; (case q1 => k_is); (case q2 => k_is)))
      (case h_kq1 => k_is)
      (case h_pr2 => (refine' XJ.propF_mk ?q1 ?q2 ?q3 ?q4; (case q1 => k_is); (case q2 => k_is); (case q3 => k_is); (case q4 => k_is)))
      (case h_fq2 => (refine' XJ.fnF_mk ?q1 ?q2; (case q1 => k_is); (case q2 => k_is)))
      (case h_kq2 => k_is)
      (case h_pr3 => (refine' XJ.propF_mk ?q1 ?q2 ?q3 ?q4; (case q1 => k_is); (case q2 => k_is); (case q3 => k_is); (case q4 => k_is)))
      (case h_fq3 => (refine' XJ.fnF_mk ?q1 ?q2; (case q1 => k_is); (case q2 => k_is)))
      (case h_kq3 => k_is)
      (case h_pr4 => (refine' XJ.propF_mk ?q1 ?q2 ?q3 ?q4; (case q1 => k_is); (case q2 => k_is); (case q3 => k_is); (case q4 => k_is)))
      (case h_fq4 => (refine' XJ.fnF_mk ?q1 ?q2; (case q1 => k_is); (case q2 => k_is)))
      (case h_kq4 => k_is)
      (case h_pr5 => (refine' XJ.propF_mk ?q1 ?q2 ?q3 ?q4; (case q1 => k_is); (case q2 => k_is); (case q3 => k_is); (case q4 => k_is)))
      (case h_fq5 => (refine' XJ.fnF_mk ?q1 ?q2; (case q1 => k_is); (case q2 => k_is)))
      (case h_kq5 => k_is)
      (case h_cg => k_is)
      (case h_ct => k_is)
      (case h_kt00 => kernel_rfl)
      (case h_kt01 => kernel_rfl)
      (case h_kt02 => kernel_rfl)
      (case h_kt03 => kernel_rfl)
      (case h_kt04 => kernel_rfl)
      (case h_kt10 => kernel_rfl)
      (case h_kt11 => kernel_rfl)
      (case h_kt12 => kernel_rfl)
      (case h_kt13 => kernel_rfl)
      (case h_kt14 => kernel_rfl)
      (case h_kt20 => kernel_rfl)
      (case h_kt21 => kernel_rfl)
      (case h_kt22 => kernel_rfl)
      (case h_kt23 => kernel_rfl)
      (case h_kt24 => kernel_rfl)
      (case h_kt30 => kernel_rfl)
      (case h_kt31 => kernel_rfl)
      (case h_kt32 => kernel_rfl)
      (case h_kt33 => kernel_rfl)
      (case h_kt34 => kernel_rfl)
      (case h_kt40 => kernel_rfl)
      (case h_kt41 => kernel_rfl)
      (case h_kt42 => kernel_rfl)
      (case h_kt43 => kernel_rfl)
      (case h_kt44 => kernel_rfl)
      (case h_er => (refine' ⟨?q1, ?q2, ?q3, ?q4, ?q5, ?q6, ?q7, ?q8, ?q9, ?q10, ?q11, ?q12, ?q13, ?q14, ?q15⟩; (case q1 => k_is); (case q2 => kernel_rfl); (case q3 => kernel_rfl); (case q4 => k_is); (case q5 => k_is); (case q6 => k_is); (case q7 => k_is); (case q8 => k_is); (case q9 => k_is); (case q10 => k_is); (case q11 => k_is); (case q12 => k_is); (case q13 => k_is); (case q14 => k_is); (case q15 => (refine' XJ.xc_mk ?r1 ?r2; (case r1 => k_is); (case r2 => kernel_rfl)))))
      (case h_er_no => k_is)
      (case h_er_i => k_is)
      (case h_er_ty => k_is)
      (case h_er_f => (refine' XJ.fnF_mk ?q1 ?q2; (case q1 => k_is); (case q2 => k_is)))
      (case h_er_k => k_is)
      (case h_er_ex => kernel_rfl)
      (case h_er_kv => kernel_rfl)
      (case h_g_te => k_is)
      (case h_te_k => kernel_rfl)
      (case h_z_len => k_is)
      (case h_z_int => k_is)
      (case h_z_list => k_is)
      (case h_z_abs => k_is)
      (case h_z_range => k_is)
      (case h_z_set => k_is)
      (case h_z_all => k_is)
      (case h_z_ord => k_is)
      (case h_z_isinstance => k_is)
      (case h_z_str => k_is)
      (case h_z_repr => k_is)
      (case h_z_ValueError => k_is)
      (case h_y0 => k_is)
      (case h_y1 => k_is)
      (case h_y2 => k_is)
      (case h_y3 => k_is)
    )
end
